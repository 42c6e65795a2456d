import Derived.Test.YtldkgbnmaefaaaaGreatDoorFoG1
import Derived.Test.YtldkgbnmaefaaaaGreatDoorNuG3
import Derived.Test.YtldkgbnmaefaaaaGreatDoorFoG4
import Derived.Deep.RegionWith
set_option maxRecDepth 100000
set_option maxHeartbeats 4000000
open Go.Lib (hid)
namespace Go.Proofs.YtldkgbnmaefaaaaGreatDoor.Fo
open Go.RowKit Go.Proofs.YtldkgbnmaefaaaaGreatDoor.Nu
set_option linter.unusedVariables false
set_option linter.unusedSimpArgs false
theorem qey(w:World):Calls Tryz.prog 154 #[.bool true] w fun e w'=>e=.returned (.agg #[.int .i64 1,.int .i64 1])∧Below w.heap.size w w':=by
 go_enter Tryz.func154,Tryz.ntmps154
 go_wp2
 exact bodyPost_ret (v := .agg #[.int .i64 1,.int .i64 1]) (by simp[results,Tryz.results154,go_sem]) rfl ⟨rfl,(Below.refl _ w).alloc (Nat.le_refl _) _⟩
theorem qex(w:World):Calls Tryz.prog 154 #[.bool false] w fun e w'=>e=.returned (.agg #[.int .i64 0,.int .i64 1])∧Below w.heap.size w w':=by
 go_enter Tryz.func154,Tryz.ntmps154
 go_wp2
 exact bodyPost_ret (v := .agg #[.int .i64 0,.int .i64 1]) (by simp[results,Tryz.results154,go_sem]) rfl ⟨rfl,(Below.refl _ w).alloc (Nat.le_refl _) _⟩
structure B3 (w W:World) (a p b q:Int):Prop where
 x:W.heap[w.heap.size]? = some (nb a p)
 y:W.heap[w.heap.size+1]? = some (nb b q)
 r:W.heap[w.heap.size+1+1]? = some (nb 0 0)
 bl:Below w.heap.size w W
theorem B3.new(w:World)(a p b q:Int):B3 w (((w.alloc (nb a p)).alloc (nb b q)).alloc (nb 0 0)) a p b q:=by
 refine⟨?_,?_,?_,(((Below.refl _ w).alloc (Nat.le_refl _) _).alloc (by simp) _).alloc (by simp;omega) _⟩
 ·rw[Below.heap_alloc _ _ _ (by simp;omega),Below.heap_alloc _ _ _ (by simp)];exact nh _ _
 ·rw[Below.heap_alloc _ _ _ (by simp)]
  have:=nh (w.alloc (nb a p)) (nb b q);rwa [World.size_alloc] at this
 ·have:=nh ((w.alloc (nb a p)).alloc (nb b q)) (nb 0 0);rwa [World.size_alloc,World.size_alloc] at this
theorem B3.call{w W W':World}{a p b q:Int}(hb:Below W.heap.size W W')(h:B3 w W a p b q):B3 w W' a p b q :=
 ⟨(hb.block _ (qa7 h.x)).trans h.x,(hb.block _ (qa7 h.y)).trans h.y,(hb.block _ (qa7 h.r)).trans h.r,h.bl.trans (hb.mono h.bl.size)⟩
theorem B3.fin{w W:World}{a p b q:Int}(h:B3 w W a p b q)(n d:Int):((W.setCell ⟨w.heap.size+1+1,0,none⟩ (.int .i64 n)).setCell ⟨w.heap.size+1+1,1,none⟩ (.int .i64 d)).heap[w.heap.size+1+1]? = some (nb n d) ∧
  Below w.heap.size w ((W.setCell ⟨w.heap.size+1+1,0,none⟩ (.int .i64 n)).setCell ⟨w.heap.size+1+1,1,none⟩ (.int .i64 d)) :=
 ⟨s2 h.r n d,(h.bl.setCell (p:=⟨w.heap.size+1+1,0,none⟩) (by show _≤w.heap.size+1+1;omega) _).setCell (p:=⟨w.heap.size+1+1,1,none⟩) (by show _≤w.heap.size+1+1;omega) _⟩
theorem q7l(a p b q:Int)(w:World):Calls Tryz.prog 94 #[.string ⟨#[43]⟩,.agg #[.int .i64 a,.int .i64 p],.agg #[.int .i64 b,.int .i64 q]] w fun e w'=>e=.returned (res (add a p b q))∧Below w.heap.size w w':=by
 obtain⟨n,d,z,hR⟩ : ∃ n d z,add a p b q=⟨n,d,z⟩:=⟨_,_,_,rfl⟩
 have HR:=hid (qk5 a p b q)
 rw[hR] at HR ⊢
 clear hR
 have HC:=hid (qaz a p b q)
 generalize cmp a p b q=c at HC
 go_enter Tryz.func94,Tryz.ntmps94
 go_wp2_with fail
 (with_reducible refine(HC.out _).mono ?_)
 rintro e w1⟨rfl,hb1⟩
 have h1:=(B3.new w a p b q).call hb1
 obtain⟨x0,x1,_,_⟩:=c2 h1.x
 obtain⟨y0,y1,_,_⟩:=c2 h1.y
 have H1:=hid h1
 clear hb1 h1
 go_wp2_with fail
 (with_reducible refine(HR.out _).mono ?_)
 rintro e w2⟨rfl,hb2⟩
 have h2:=H1.out.call hb2
 clear hb2 x0 x1 y0 y1
 obtain⟨r0,r1,rf0,rf1⟩:=c2 h2.r
 have HF:=hid (h2.fin (n) (d))
 clear h2
 go_wp2_with fail
 obtain⟨hz,hbl⟩:=HF.out
 generalize((w2.setCell ⟨w.heap.size+1+1,0,none⟩ (.int .i64 (n))).setCell ⟨w.heap.size+1+1,1,none⟩ (.int .i64 (d)))=W9 at hz hbl ⊢
 obtain⟨z0,z1,_,_⟩:=c2 hz
 exact bodyPost_ret (v := .tuple #[.agg #[.int .i64 (n),.int .i64 (d)],.int .i64 (z)]) (by simp[results,Tryz.results94,go_sem,z0,z1]) rfl ⟨rfl,hbl⟩
theorem q7t(a p b q:Int)(w:World):Calls Tryz.prog 94 #[.string ⟨#[45]⟩,.agg #[.int .i64 a,.int .i64 p],.agg #[.int .i64 b,.int .i64 q]] w fun e w'=>e=.returned (res (sub a p b q))∧Below w.heap.size w w':=by
 obtain⟨n,d,z,hR⟩ : ∃ n d z,sub a p b q=⟨n,d,z⟩:=⟨_,_,_,rfl⟩
 have HR:=hid (qp6 a p b q)
 rw[hR] at HR ⊢
 clear hR
 have HC:=hid (qaz a p b q)
 generalize cmp a p b q=c at HC
 go_enter Tryz.func94,Tryz.ntmps94
 go_wp2_with fail
 (with_reducible refine(HC.out _).mono ?_)
 rintro e w1⟨rfl,hb1⟩
 have h1:=(B3.new w a p b q).call hb1
 obtain⟨x0,x1,_,_⟩:=c2 h1.x
 obtain⟨y0,y1,_,_⟩:=c2 h1.y
 have H1:=hid h1
 clear hb1 h1
 go_wp2_with fail
 (with_reducible refine(HR.out _).mono ?_)
 rintro e w2⟨rfl,hb2⟩
 have h2:=H1.out.call hb2
 clear hb2 x0 x1 y0 y1
 obtain⟨r0,r1,rf0,rf1⟩:=c2 h2.r
 have HF:=hid (h2.fin (n) (d))
 clear h2
 go_wp2_with fail
 obtain⟨hz,hbl⟩:=HF.out
 generalize((w2.setCell ⟨w.heap.size+1+1,0,none⟩ (.int .i64 (n))).setCell ⟨w.heap.size+1+1,1,none⟩ (.int .i64 (d)))=W9 at hz hbl ⊢
 obtain⟨z0,z1,_,_⟩:=c2 hz
 exact bodyPost_ret (v := .tuple #[.agg #[.int .i64 (n),.int .i64 (d)],.int .i64 (z)]) (by simp[results,Tryz.results94,go_sem,z0,z1]) rfl ⟨rfl,hbl⟩
theorem q7q(a p b q:Int)(w:World):Calls Tryz.prog 94 #[.string ⟨#[42]⟩,.agg #[.int .i64 a,.int .i64 p],.agg #[.int .i64 b,.int .i64 q]] w fun e w'=>e=.returned (res (mul a p b q))∧Below w.heap.size w w':=by
 obtain⟨n,d,z,hR⟩ : ∃ n d z,mul a p b q=⟨n,d,z⟩:=⟨_,_,_,rfl⟩
 have HR:=hid (qp5 a p b q)
 rw[hR] at HR ⊢
 clear hR
 have HC:=hid (qaz a p b q)
 generalize cmp a p b q=c at HC
 go_enter Tryz.func94,Tryz.ntmps94
 go_wp2_with fail
 (with_reducible refine(HC.out _).mono ?_)
 rintro e w1⟨rfl,hb1⟩
 have h1:=(B3.new w a p b q).call hb1
 obtain⟨x0,x1,_,_⟩:=c2 h1.x
 obtain⟨y0,y1,_,_⟩:=c2 h1.y
 have H1:=hid h1
 clear hb1 h1
 go_wp2_with fail
 (with_reducible refine(HR.out _).mono ?_)
 rintro e w2⟨rfl,hb2⟩
 have h2:=H1.out.call hb2
 clear hb2 x0 x1 y0 y1
 obtain⟨r0,r1,rf0,rf1⟩:=c2 h2.r
 have HF:=hid (h2.fin (n) (d))
 clear h2
 go_wp2_with fail
 obtain⟨hz,hbl⟩:=HF.out
 generalize((w2.setCell ⟨w.heap.size+1+1,0,none⟩ (.int .i64 (n))).setCell ⟨w.heap.size+1+1,1,none⟩ (.int .i64 (d)))=W9 at hz hbl ⊢
 obtain⟨z0,z1,_,_⟩:=c2 hz
 exact bodyPost_ret (v := .tuple #[.agg #[.int .i64 (n),.int .i64 (d)],.int .i64 (z)]) (by simp[results,Tryz.results94,go_sem,z0,z1]) rfl ⟨rfl,hbl⟩
theorem q7o(a p b q:Int)(w:World):Calls Tryz.prog 94 #[.string ⟨#[47]⟩,.agg #[.int .i64 a,.int .i64 p],.agg #[.int .i64 b,.int .i64 q]] w fun e w'=>e=.returned (res (div a p b q))∧Below w.heap.size w w':=by
 obtain⟨n,d,z,hR⟩ : ∃ n d z,div a p b q=⟨n,d,z⟩:=⟨_,_,_,rfl⟩
 have HR:=hid (qx0 a p b q)
 rw[hR] at HR ⊢
 clear hR
 have HC:=hid (qaz a p b q)
 generalize cmp a p b q=c at HC
 go_enter Tryz.func94,Tryz.ntmps94
 go_wp2_with fail
 (with_reducible refine(HC.out _).mono ?_)
 rintro e w1⟨rfl,hb1⟩
 have h1:=(B3.new w a p b q).call hb1
 obtain⟨x0,x1,_,_⟩:=c2 h1.x
 obtain⟨y0,y1,_,_⟩:=c2 h1.y
 have H1:=hid h1
 clear hb1 h1
 go_wp2_with fail
 (with_reducible refine(HR.out _).mono ?_)
 rintro e w2⟨rfl,hb2⟩
 have h2:=H1.out.call hb2
 clear hb2 x0 x1 y0 y1
 obtain⟨r0,r1,rf0,rf1⟩:=c2 h2.r
 have HF:=hid (h2.fin (n) (d))
 clear h2
 go_wp2_with fail
 obtain⟨hz,hbl⟩:=HF.out
 generalize((w2.setCell ⟨w.heap.size+1+1,0,none⟩ (.int .i64 (n))).setCell ⟨w.heap.size+1+1,1,none⟩ (.int .i64 (d)))=W9 at hz hbl ⊢
 obtain⟨z0,z1,_,_⟩:=c2 hz
 exact bodyPost_ret (v := .tuple #[.agg #[.int .i64 (n),.int .i64 (d)],.int .i64 (z)]) (by simp[results,Tryz.results94,go_sem,z0,z1]) rfl ⟨rfl,hbl⟩
theorem q7p(a p b q:Int)(w:World):Calls Tryz.prog 94 #[.string ⟨#[109,111,100]⟩,.agg #[.int .i64 a,.int .i64 p],.agg #[.int .i64 b,.int .i64 q]] w fun e w'=>e=.returned (res (mod a p b q))∧Below w.heap.size w w':=by
 obtain⟨n,d,z,hR⟩ : ∃ n d z,mod a p b q=⟨n,d,z⟩:=⟨_,_,_,rfl⟩
 have HR:=hid (qx3 a p b q)
 rw[hR] at HR ⊢
 clear hR
 have HC:=hid (qaz a p b q)
 generalize cmp a p b q=c at HC
 go_enter Tryz.func94,Tryz.ntmps94
 go_wp2_with fail
 (with_reducible refine(HC.out _).mono ?_)
 rintro e w1⟨rfl,hb1⟩
 have h1:=(B3.new w a p b q).call hb1
 obtain⟨x0,x1,_,_⟩:=c2 h1.x
 obtain⟨y0,y1,_,_⟩:=c2 h1.y
 have H1:=hid h1
 clear hb1 h1
 go_wp2_with fail
 (with_reducible refine(HR.out _).mono ?_)
 rintro e w2⟨rfl,hb2⟩
 have h2:=H1.out.call hb2
 clear hb2 x0 x1 y0 y1
 obtain⟨r0,r1,rf0,rf1⟩:=c2 h2.r
 have HF:=hid (h2.fin (n) (d))
 clear h2
 go_wp2_with fail
 obtain⟨hz,hbl⟩:=HF.out
 generalize((w2.setCell ⟨w.heap.size+1+1,0,none⟩ (.int .i64 (n))).setCell ⟨w.heap.size+1+1,1,none⟩ (.int .i64 (d)))=W9 at hz hbl ⊢
 obtain⟨z0,z1,_,_⟩:=c2 hz
 exact bodyPost_ret (v := .tuple #[.agg #[.int .i64 (n),.int .i64 (d)],.int .i64 (z)]) (by simp[results,Tryz.results94,go_sem,z0,z1]) rfl ⟨rfl,hbl⟩
theorem xb0(a p b q:Int)(w:World):Calls Tryz.prog 94 #[.string ⟨#[61]⟩,.agg #[.int .i64 a,.int .i64 p],.agg #[.int .i64 b,.int .i64 q]] w fun e w'=>e=.returned (res (tr (qam [61] (cmp a p b q))))∧Below w.heap.size w w':=by
 have HC:=hid (qaz a p b q)
 generalize cmp a p b q=c at HC ⊢
 by_cases hc:c=0
 ·have hh:qam [61] c=true:=by simp only[qam];simp;omega
  have HE:Hid (tr (qam [61] c)=⟨1,1,0⟩):=hid (by rw[hh];rfl)
  have e1:(c==0)=true:=by simpa using hc
  clear hc hh
  go_enter Tryz.func94,Tryz.ntmps94
  go_wp2_with fail
  (with_reducible refine(HC.out _).mono ?_)
  rintro e w1⟨rfl,hb1⟩
  have h1:=(B3.new w a p b q).call hb1
  obtain⟨x0,x1,_,_⟩:=c2 h1.x
  obtain⟨y0,y1,_,_⟩:=c2 h1.y
  have H1:=hid h1
  clear hb1 h1
  go_wp2_with fail
  (with_reducible refine(qey _).mono ?_)
  rintro e w2⟨rfl,hb2⟩
  have h2:=H1.out.call hb2
  clear hb2 x0 x1 y0 y1
  obtain⟨r0,r1,rf0,rf1⟩:=c2 h2.r
  have HF:=hid (h2.fin (1) (1))
  clear h2
  go_wp2_with fail
  obtain⟨hz,hbl⟩:=HF.out
  generalize((w2.setCell ⟨w.heap.size+1+1,0,none⟩ (.int .i64 (1))).setCell ⟨w.heap.size+1+1,1,none⟩ (.int .i64 (1)))=W9 at hz hbl ⊢
  obtain⟨z0,z1,_,_⟩:=c2 hz
  exact bodyPost_ret (v := .tuple #[.agg #[.int .i64 (1),.int .i64 (1)],.int .i64 (0)]) (by simp[results,Tryz.results94,go_sem,z0,z1]) rfl ⟨by rw[HE.out];rfl,hbl⟩
 ·have hh:qam [61] c=false:=by simp only[qam];simp;omega
  have HE:Hid (tr (qam [61] c)=⟨0,1,0⟩):=hid (by rw[hh];rfl)
  have e1:(c==0)=false:=by simpa using hc
  clear hc hh
  go_enter Tryz.func94,Tryz.ntmps94
  go_wp2_with fail
  (with_reducible refine(HC.out _).mono ?_)
  rintro e w1⟨rfl,hb1⟩
  have h1:=(B3.new w a p b q).call hb1
  obtain⟨x0,x1,_,_⟩:=c2 h1.x
  obtain⟨y0,y1,_,_⟩:=c2 h1.y
  have H1:=hid h1
  clear hb1 h1
  go_wp2_with fail
  (with_reducible refine(qex _).mono ?_)
  rintro e w2⟨rfl,hb2⟩
  have h2:=H1.out.call hb2
  clear hb2 x0 x1 y0 y1
  obtain⟨r0,r1,rf0,rf1⟩:=c2 h2.r
  have HF:=hid (h2.fin (0) (1))
  clear h2
  go_wp2_with fail
  obtain⟨hz,hbl⟩:=HF.out
  generalize((w2.setCell ⟨w.heap.size+1+1,0,none⟩ (.int .i64 (0))).setCell ⟨w.heap.size+1+1,1,none⟩ (.int .i64 (1)))=W9 at hz hbl ⊢
  obtain⟨z0,z1,_,_⟩:=c2 hz
  exact bodyPost_ret (v := .tuple #[.agg #[.int .i64 (0),.int .i64 (1)],.int .i64 (0)]) (by simp[results,Tryz.results94,go_sem,z0,z1]) rfl ⟨by rw[HE.out];rfl,hbl⟩
theorem xb4(a p b q:Int)(w:World):Calls Tryz.prog 94 #[.string ⟨#[60,62]⟩,.agg #[.int .i64 a,.int .i64 p],.agg #[.int .i64 b,.int .i64 q]] w fun e w'=>e=.returned (res (tr (qam [60,62] (cmp a p b q))))∧Below w.heap.size w w':=by
 have HC:=hid (qaz a p b q)
 generalize cmp a p b q=c at HC ⊢
 by_cases hc:c≠0
 ·have hh:qam [60,62] c=true:=by simp only[qam];simp;omega
  have HE:Hid (tr (qam [60,62] c)=⟨1,1,0⟩):=hid (by rw[hh];rfl)
  have e1:(c != 0)=true:=by simpa using hc
  clear hc hh
  go_enter Tryz.func94,Tryz.ntmps94
  go_wp2_with fail
  (with_reducible refine(HC.out _).mono ?_)
  rintro e w1⟨rfl,hb1⟩
  have h1:=(B3.new w a p b q).call hb1
  obtain⟨x0,x1,_,_⟩:=c2 h1.x
  obtain⟨y0,y1,_,_⟩:=c2 h1.y
  have H1:=hid h1
  clear hb1 h1
  go_wp2_with fail
  (with_reducible refine(qey _).mono ?_)
  rintro e w2⟨rfl,hb2⟩
  have h2:=H1.out.call hb2
  clear hb2 x0 x1 y0 y1
  obtain⟨r0,r1,rf0,rf1⟩:=c2 h2.r
  have HF:=hid (h2.fin (1) (1))
  clear h2
  go_wp2_with fail
  obtain⟨hz,hbl⟩:=HF.out
  generalize((w2.setCell ⟨w.heap.size+1+1,0,none⟩ (.int .i64 (1))).setCell ⟨w.heap.size+1+1,1,none⟩ (.int .i64 (1)))=W9 at hz hbl ⊢
  obtain⟨z0,z1,_,_⟩:=c2 hz
  exact bodyPost_ret (v := .tuple #[.agg #[.int .i64 (1),.int .i64 (1)],.int .i64 (0)]) (by simp[results,Tryz.results94,go_sem,z0,z1]) rfl ⟨by rw[HE.out];rfl,hbl⟩
 ·have hh:qam [60,62] c=false:=by simp only[qam];simp;omega
  have HE:Hid (tr (qam [60,62] c)=⟨0,1,0⟩):=hid (by rw[hh];rfl)
  have e1:(c != 0)=false:=by simpa using hc
  clear hc hh
  go_enter Tryz.func94,Tryz.ntmps94
  go_wp2_with fail
  (with_reducible refine(HC.out _).mono ?_)
  rintro e w1⟨rfl,hb1⟩
  have h1:=(B3.new w a p b q).call hb1
  obtain⟨x0,x1,_,_⟩:=c2 h1.x
  obtain⟨y0,y1,_,_⟩:=c2 h1.y
  have H1:=hid h1
  clear hb1 h1
  go_wp2_with fail
  (with_reducible refine(qex _).mono ?_)
  rintro e w2⟨rfl,hb2⟩
  have h2:=H1.out.call hb2
  clear hb2 x0 x1 y0 y1
  obtain⟨r0,r1,rf0,rf1⟩:=c2 h2.r
  have HF:=hid (h2.fin (0) (1))
  clear h2
  go_wp2_with fail
  obtain⟨hz,hbl⟩:=HF.out
  generalize((w2.setCell ⟨w.heap.size+1+1,0,none⟩ (.int .i64 (0))).setCell ⟨w.heap.size+1+1,1,none⟩ (.int .i64 (1)))=W9 at hz hbl ⊢
  obtain⟨z0,z1,_,_⟩:=c2 hz
  exact bodyPost_ret (v := .tuple #[.agg #[.int .i64 (0),.int .i64 (1)],.int .i64 (0)]) (by simp[results,Tryz.results94,go_sem,z0,z1]) rfl ⟨by rw[HE.out];rfl,hbl⟩
theorem xb3(a p b q:Int)(w:World):Calls Tryz.prog 94 #[.string ⟨#[60]⟩,.agg #[.int .i64 a,.int .i64 p],.agg #[.int .i64 b,.int .i64 q]] w fun e w'=>e=.returned (res (tr (qam [60] (cmp a p b q))))∧Below w.heap.size w w':=by
 have HC:=hid (qaz a p b q)
 generalize cmp a p b q=c at HC ⊢
 by_cases hc:c<0
 ·have hh:qam [60] c=true:=by simp only[qam];simp;omega
  have HE:Hid (tr (qam [60] c)=⟨1,1,0⟩):=hid (by rw[hh];rfl)
  have e1:decide (c<0)=true:=decide_eq_true hc
  clear hc hh
  go_enter Tryz.func94,Tryz.ntmps94
  go_wp2_with fail
  (with_reducible refine(HC.out _).mono ?_)
  rintro e w1⟨rfl,hb1⟩
  have h1:=(B3.new w a p b q).call hb1
  obtain⟨x0,x1,_,_⟩:=c2 h1.x
  obtain⟨y0,y1,_,_⟩:=c2 h1.y
  have H1:=hid h1
  clear hb1 h1
  go_wp2_with fail
  (with_reducible refine(qey _).mono ?_)
  rintro e w2⟨rfl,hb2⟩
  have h2:=H1.out.call hb2
  clear hb2 x0 x1 y0 y1
  obtain⟨r0,r1,rf0,rf1⟩:=c2 h2.r
  have HF:=hid (h2.fin (1) (1))
  clear h2
  go_wp2_with fail
  obtain⟨hz,hbl⟩:=HF.out
  generalize((w2.setCell ⟨w.heap.size+1+1,0,none⟩ (.int .i64 (1))).setCell ⟨w.heap.size+1+1,1,none⟩ (.int .i64 (1)))=W9 at hz hbl ⊢
  obtain⟨z0,z1,_,_⟩:=c2 hz
  exact bodyPost_ret (v := .tuple #[.agg #[.int .i64 (1),.int .i64 (1)],.int .i64 (0)]) (by simp[results,Tryz.results94,go_sem,z0,z1]) rfl ⟨by rw[HE.out];rfl,hbl⟩
 ·have hh:qam [60] c=false:=by simp only[qam];simp;omega
  have HE:Hid (tr (qam [60] c)=⟨0,1,0⟩):=hid (by rw[hh];rfl)
  have e1:decide (c<0)=false:=decide_eq_false hc
  clear hc hh
  go_enter Tryz.func94,Tryz.ntmps94
  go_wp2_with fail
  (with_reducible refine(HC.out _).mono ?_)
  rintro e w1⟨rfl,hb1⟩
  have h1:=(B3.new w a p b q).call hb1
  obtain⟨x0,x1,_,_⟩:=c2 h1.x
  obtain⟨y0,y1,_,_⟩:=c2 h1.y
  have H1:=hid h1
  clear hb1 h1
  go_wp2_with fail
  (with_reducible refine(qex _).mono ?_)
  rintro e w2⟨rfl,hb2⟩
  have h2:=H1.out.call hb2
  clear hb2 x0 x1 y0 y1
  obtain⟨r0,r1,rf0,rf1⟩:=c2 h2.r
  have HF:=hid (h2.fin (0) (1))
  clear h2
  go_wp2_with fail
  obtain⟨hz,hbl⟩:=HF.out
  generalize((w2.setCell ⟨w.heap.size+1+1,0,none⟩ (.int .i64 (0))).setCell ⟨w.heap.size+1+1,1,none⟩ (.int .i64 (1)))=W9 at hz hbl ⊢
  obtain⟨z0,z1,_,_⟩:=c2 hz
  exact bodyPost_ret (v := .tuple #[.agg #[.int .i64 (0),.int .i64 (1)],.int .i64 (0)]) (by simp[results,Tryz.results94,go_sem,z0,z1]) rfl ⟨by rw[HE.out];rfl,hbl⟩
theorem xb2(a p b q:Int)(w:World):Calls Tryz.prog 94 #[.string ⟨#[62]⟩,.agg #[.int .i64 a,.int .i64 p],.agg #[.int .i64 b,.int .i64 q]] w fun e w'=>e=.returned (res (tr (qam [62] (cmp a p b q))))∧Below w.heap.size w w':=by
 have HC:=hid (qaz a p b q)
 generalize cmp a p b q=c at HC ⊢
 by_cases hc:0<c
 ·have hh:qam [62] c=true:=by simp only[qam];simp;omega
  have HE:Hid (tr (qam [62] c)=⟨1,1,0⟩):=hid (by rw[hh];rfl)
  have e1:decide (c>0)=true:=decide_eq_true hc
  clear hc hh
  go_enter Tryz.func94,Tryz.ntmps94
  go_wp2_with fail
  (with_reducible refine(HC.out _).mono ?_)
  rintro e w1⟨rfl,hb1⟩
  have h1:=(B3.new w a p b q).call hb1
  obtain⟨x0,x1,_,_⟩:=c2 h1.x
  obtain⟨y0,y1,_,_⟩:=c2 h1.y
  have H1:=hid h1
  clear hb1 h1
  go_wp2_with fail
  (with_reducible refine(qey _).mono ?_)
  rintro e w2⟨rfl,hb2⟩
  have h2:=H1.out.call hb2
  clear hb2 x0 x1 y0 y1
  obtain⟨r0,r1,rf0,rf1⟩:=c2 h2.r
  have HF:=hid (h2.fin (1) (1))
  clear h2
  go_wp2_with fail
  obtain⟨hz,hbl⟩:=HF.out
  generalize((w2.setCell ⟨w.heap.size+1+1,0,none⟩ (.int .i64 (1))).setCell ⟨w.heap.size+1+1,1,none⟩ (.int .i64 (1)))=W9 at hz hbl ⊢
  obtain⟨z0,z1,_,_⟩:=c2 hz
  exact bodyPost_ret (v := .tuple #[.agg #[.int .i64 (1),.int .i64 (1)],.int .i64 (0)]) (by simp[results,Tryz.results94,go_sem,z0,z1]) rfl ⟨by rw[HE.out];rfl,hbl⟩
 ·have hh:qam [62] c=false:=by simp only[qam];simp;omega
  have HE:Hid (tr (qam [62] c)=⟨0,1,0⟩):=hid (by rw[hh];rfl)
  have e1:decide (c>0)=false:=decide_eq_false hc
  clear hc hh
  go_enter Tryz.func94,Tryz.ntmps94
  go_wp2_with fail
  (with_reducible refine(HC.out _).mono ?_)
  rintro e w1⟨rfl,hb1⟩
  have h1:=(B3.new w a p b q).call hb1
  obtain⟨x0,x1,_,_⟩:=c2 h1.x
  obtain⟨y0,y1,_,_⟩:=c2 h1.y
  have H1:=hid h1
  clear hb1 h1
  go_wp2_with fail
  (with_reducible refine(qex _).mono ?_)
  rintro e w2⟨rfl,hb2⟩
  have h2:=H1.out.call hb2
  clear hb2 x0 x1 y0 y1
  obtain⟨r0,r1,rf0,rf1⟩:=c2 h2.r
  have HF:=hid (h2.fin (0) (1))
  clear h2
  go_wp2_with fail
  obtain⟨hz,hbl⟩:=HF.out
  generalize((w2.setCell ⟨w.heap.size+1+1,0,none⟩ (.int .i64 (0))).setCell ⟨w.heap.size+1+1,1,none⟩ (.int .i64 (1)))=W9 at hz hbl ⊢
  obtain⟨z0,z1,_,_⟩:=c2 hz
  exact bodyPost_ret (v := .tuple #[.agg #[.int .i64 (0),.int .i64 (1)],.int .i64 (0)]) (by simp[results,Tryz.results94,go_sem,z0,z1]) rfl ⟨by rw[HE.out];rfl,hbl⟩
theorem qxb(a p b q:Int)(w:World):Calls Tryz.prog 94 #[.string ⟨#[60,61]⟩,.agg #[.int .i64 a,.int .i64 p],.agg #[.int .i64 b,.int .i64 q]] w fun e w'=>e=.returned (res (tr (qam [60,61] (cmp a p b q))))∧Below w.heap.size w w':=by
 have HC:=hid (qaz a p b q)
 generalize cmp a p b q=c at HC ⊢
 by_cases hc:c≤0
 ·have hh:qam [60,61] c=true:=by simp only[qam];simp;omega
  have HE:Hid (tr (qam [60,61] c)=⟨1,1,0⟩):=hid (by rw[hh];rfl)
  have e1:decide (c≤0)=true:=decide_eq_true hc
  clear hc hh
  go_enter Tryz.func94,Tryz.ntmps94
  go_wp2_with fail
  (with_reducible refine(HC.out _).mono ?_)
  rintro e w1⟨rfl,hb1⟩
  have h1:=(B3.new w a p b q).call hb1
  obtain⟨x0,x1,_,_⟩:=c2 h1.x
  obtain⟨y0,y1,_,_⟩:=c2 h1.y
  have H1:=hid h1
  clear hb1 h1
  go_wp2_with fail
  (with_reducible refine(qey _).mono ?_)
  rintro e w2⟨rfl,hb2⟩
  have h2:=H1.out.call hb2
  clear hb2 x0 x1 y0 y1
  obtain⟨r0,r1,rf0,rf1⟩:=c2 h2.r
  have HF:=hid (h2.fin (1) (1))
  clear h2
  go_wp2_with fail
  obtain⟨hz,hbl⟩:=HF.out
  generalize((w2.setCell ⟨w.heap.size+1+1,0,none⟩ (.int .i64 (1))).setCell ⟨w.heap.size+1+1,1,none⟩ (.int .i64 (1)))=W9 at hz hbl ⊢
  obtain⟨z0,z1,_,_⟩:=c2 hz
  exact bodyPost_ret (v := .tuple #[.agg #[.int .i64 (1),.int .i64 (1)],.int .i64 (0)]) (by simp[results,Tryz.results94,go_sem,z0,z1]) rfl ⟨by rw[HE.out];rfl,hbl⟩
 ·have hh:qam [60,61] c=false:=by simp only[qam];simp;omega
  have HE:Hid (tr (qam [60,61] c)=⟨0,1,0⟩):=hid (by rw[hh];rfl)
  have e1:decide (c≤0)=false:=decide_eq_false hc
  clear hc hh
  go_enter Tryz.func94,Tryz.ntmps94
  go_wp2_with fail
  (with_reducible refine(HC.out _).mono ?_)
  rintro e w1⟨rfl,hb1⟩
  have h1:=(B3.new w a p b q).call hb1
  obtain⟨x0,x1,_,_⟩:=c2 h1.x
  obtain⟨y0,y1,_,_⟩:=c2 h1.y
  have H1:=hid h1
  clear hb1 h1
  go_wp2_with fail
  (with_reducible refine(qex _).mono ?_)
  rintro e w2⟨rfl,hb2⟩
  have h2:=H1.out.call hb2
  clear hb2 x0 x1 y0 y1
  obtain⟨r0,r1,rf0,rf1⟩:=c2 h2.r
  have HF:=hid (h2.fin (0) (1))
  clear h2
  go_wp2_with fail
  obtain⟨hz,hbl⟩:=HF.out
  generalize((w2.setCell ⟨w.heap.size+1+1,0,none⟩ (.int .i64 (0))).setCell ⟨w.heap.size+1+1,1,none⟩ (.int .i64 (1)))=W9 at hz hbl ⊢
  obtain⟨z0,z1,_,_⟩:=c2 hz
  exact bodyPost_ret (v := .tuple #[.agg #[.int .i64 (0),.int .i64 (1)],.int .i64 (0)]) (by simp[results,Tryz.results94,go_sem,z0,z1]) rfl ⟨by rw[HE.out];rfl,hbl⟩
theorem xb1(a p b q:Int)(w:World):Calls Tryz.prog 94 #[.string ⟨#[62,61]⟩,.agg #[.int .i64 a,.int .i64 p],.agg #[.int .i64 b,.int .i64 q]] w fun e w'=>e=.returned (res (tr (qam [62,61] (cmp a p b q))))∧Below w.heap.size w w':=by
 have HC:=hid (qaz a p b q)
 generalize cmp a p b q=c at HC ⊢
 by_cases hc:0≤c
 ·have hh:qam [62,61] c=true:=by simp only[qam];simp;omega
  have HE:Hid (tr (qam [62,61] c)=⟨1,1,0⟩):=hid (by rw[hh];rfl)
  have e1:decide (c≥0)=true:=decide_eq_true hc
  clear hc hh
  go_enter Tryz.func94,Tryz.ntmps94
  go_wp2_with fail
  (with_reducible refine(HC.out _).mono ?_)
  rintro e w1⟨rfl,hb1⟩
  have h1:=(B3.new w a p b q).call hb1
  obtain⟨x0,x1,_,_⟩:=c2 h1.x
  obtain⟨y0,y1,_,_⟩:=c2 h1.y
  have H1:=hid h1
  clear hb1 h1
  go_wp2_with fail
  (with_reducible refine(qey _).mono ?_)
  rintro e w2⟨rfl,hb2⟩
  have h2:=H1.out.call hb2
  clear hb2 x0 x1 y0 y1
  obtain⟨r0,r1,rf0,rf1⟩:=c2 h2.r
  have HF:=hid (h2.fin (1) (1))
  clear h2
  go_wp2_with fail
  obtain⟨hz,hbl⟩:=HF.out
  generalize((w2.setCell ⟨w.heap.size+1+1,0,none⟩ (.int .i64 (1))).setCell ⟨w.heap.size+1+1,1,none⟩ (.int .i64 (1)))=W9 at hz hbl ⊢
  obtain⟨z0,z1,_,_⟩:=c2 hz
  exact bodyPost_ret (v := .tuple #[.agg #[.int .i64 (1),.int .i64 (1)],.int .i64 (0)]) (by simp[results,Tryz.results94,go_sem,z0,z1]) rfl ⟨by rw[HE.out];rfl,hbl⟩
 ·have hh:qam [62,61] c=false:=by simp only[qam];simp;omega
  have HE:Hid (tr (qam [62,61] c)=⟨0,1,0⟩):=hid (by rw[hh];rfl)
  have e1:decide (c≥0)=false:=decide_eq_false hc
  clear hc hh
  go_enter Tryz.func94,Tryz.ntmps94
  go_wp2_with fail
  (with_reducible refine(HC.out _).mono ?_)
  rintro e w1⟨rfl,hb1⟩
  have h1:=(B3.new w a p b q).call hb1
  obtain⟨x0,x1,_,_⟩:=c2 h1.x
  obtain⟨y0,y1,_,_⟩:=c2 h1.y
  have H1:=hid h1
  clear hb1 h1
  go_wp2_with fail
  (with_reducible refine(qex _).mono ?_)
  rintro e w2⟨rfl,hb2⟩
  have h2:=H1.out.call hb2
  clear hb2 x0 x1 y0 y1
  obtain⟨r0,r1,rf0,rf1⟩:=c2 h2.r
  have HF:=hid (h2.fin (0) (1))
  clear h2
  go_wp2_with fail
  obtain⟨hz,hbl⟩:=HF.out
  generalize((w2.setCell ⟨w.heap.size+1+1,0,none⟩ (.int .i64 (0))).setCell ⟨w.heap.size+1+1,1,none⟩ (.int .i64 (1)))=W9 at hz hbl ⊢
  obtain⟨z0,z1,_,_⟩:=c2 hz
  exact bodyPost_ret (v := .tuple #[.agg #[.int .i64 (0),.int .i64 (1)],.int .i64 (0)]) (by simp[results,Tryz.results94,go_sem,z0,z1]) rfl ⟨by rw[HE.out];rfl,hbl⟩
theorem q7m(a p b q:Int)(w:World):Calls Tryz.prog 94 #[.string ⟨#[97,110,100]⟩,.agg #[.int .i64 a,.int .i64 p],.agg #[.int .i64 b,.int .i64 q]] w fun e w'=>e=.returned (res (tr (decide (a≠0)&&decide (b≠0))))∧Below w.heap.size w w':=by
 have HC:=hid (qaz a p b q)
 generalize cmp a p b q=c at HC
 by_cases ha:a=0
 ·have e1:(a != 0)=false:=by simpa using ha
  have HE:Hid (tr (decide (a≠0)&&decide (b≠0))=⟨0,1,0⟩):=hid (by simp[ha,tr])
  clear ha
  go_enter Tryz.func94,Tryz.ntmps94
  go_wp2_with fail
  (with_reducible refine(HC.out _).mono ?_)
  rintro e w1⟨rfl,hb1⟩
  have h1:=(B3.new w a p b q).call hb1
  obtain⟨x0,x1,_,_⟩:=c2 h1.x
  obtain⟨y0,y1,_,_⟩:=c2 h1.y
  have H1:=hid h1
  clear hb1 h1
  go_wp2_with fail
  (with_reducible refine(qex _).mono ?_)
  rintro e w2⟨rfl,hb2⟩
  have h2:=H1.out.call hb2
  clear hb2 x0 x1 y0 y1
  obtain⟨r0,r1,rf0,rf1⟩:=c2 h2.r
  have HF:=hid (h2.fin (0) (1))
  clear h2
  go_wp2_with fail
  obtain⟨hz,hbl⟩:=HF.out
  generalize((w2.setCell ⟨w.heap.size+1+1,0,none⟩ (.int .i64 (0))).setCell ⟨w.heap.size+1+1,1,none⟩ (.int .i64 (1)))=W9 at hz hbl ⊢
  obtain⟨z0,z1,_,_⟩:=c2 hz
  exact bodyPost_ret (v := .tuple #[.agg #[.int .i64 (0),.int .i64 (1)],.int .i64 (0)]) (by simp[results,Tryz.results94,go_sem,z0,z1]) rfl ⟨by rw[HE.out];rfl,hbl⟩
 ·by_cases hb:b=0
  ·have e1:(a != 0)=true:=by simpa using ha
   have e2:(b != 0)=false:=by simpa using hb
   have HE:Hid (tr (decide (a≠0)&&decide (b≠0))=⟨0,1,0⟩):=hid (by simp[ha,hb,tr])
   clear ha hb
   go_enter Tryz.func94,Tryz.ntmps94
   go_wp2_with fail
   (with_reducible refine(HC.out _).mono ?_)
   rintro e w1⟨rfl,hb1⟩
   have h1:=(B3.new w a p b q).call hb1
   obtain⟨x0,x1,_,_⟩:=c2 h1.x
   obtain⟨y0,y1,_,_⟩:=c2 h1.y
   have H1:=hid h1
   clear hb1 h1
   go_wp2_with fail
   (with_reducible refine(qex _).mono ?_)
   rintro e w2⟨rfl,hb2⟩
   have h2:=H1.out.call hb2
   clear hb2 x0 x1 y0 y1
   obtain⟨r0,r1,rf0,rf1⟩:=c2 h2.r
   have HF:=hid (h2.fin (0) (1))
   clear h2
   go_wp2_with fail
   obtain⟨hz,hbl⟩:=HF.out
   generalize((w2.setCell ⟨w.heap.size+1+1,0,none⟩ (.int .i64 (0))).setCell ⟨w.heap.size+1+1,1,none⟩ (.int .i64 (1)))=W9 at hz hbl ⊢
   obtain⟨z0,z1,_,_⟩:=c2 hz
   exact bodyPost_ret (v := .tuple #[.agg #[.int .i64 (0),.int .i64 (1)],.int .i64 (0)]) (by simp[results,Tryz.results94,go_sem,z0,z1]) rfl ⟨by rw[HE.out];rfl,hbl⟩
  ·have e1:(a != 0)=true:=by simpa using ha
   have e2:(b != 0)=true:=by simpa using hb
   have HE:Hid (tr (decide (a≠0)&&decide (b≠0))=⟨1,1,0⟩):=hid (by simp[ha,hb,tr])
   clear ha hb
   go_enter Tryz.func94,Tryz.ntmps94
   go_wp2_with fail
   (with_reducible refine(HC.out _).mono ?_)
   rintro e w1⟨rfl,hb1⟩
   have h1:=(B3.new w a p b q).call hb1
   obtain⟨x0,x1,_,_⟩:=c2 h1.x
   obtain⟨y0,y1,_,_⟩:=c2 h1.y
   have H1:=hid h1
   clear hb1 h1
   go_wp2_with fail
   (with_reducible refine(qey _).mono ?_)
   rintro e w2⟨rfl,hb2⟩
   have h2:=H1.out.call hb2
   clear hb2 x0 x1 y0 y1
   obtain⟨r0,r1,rf0,rf1⟩:=c2 h2.r
   have HF:=hid (h2.fin (1) (1))
   clear h2
   go_wp2_with fail
   obtain⟨hz,hbl⟩:=HF.out
   generalize((w2.setCell ⟨w.heap.size+1+1,0,none⟩ (.int .i64 (1))).setCell ⟨w.heap.size+1+1,1,none⟩ (.int .i64 (1)))=W9 at hz hbl ⊢
   obtain⟨z0,z1,_,_⟩:=c2 hz
   exact bodyPost_ret (v := .tuple #[.agg #[.int .i64 (1),.int .i64 (1)],.int .i64 (0)]) (by simp[results,Tryz.results94,go_sem,z0,z1]) rfl ⟨by rw[HE.out];rfl,hbl⟩
theorem xb5(a p b q:Int)(w:World):Calls Tryz.prog 94 #[.string ⟨#[111,114]⟩,.agg #[.int .i64 a,.int .i64 p],.agg #[.int .i64 b,.int .i64 q]] w fun e w'=>e=.returned (res (tr (decide (a≠0)||decide (b≠0))))∧Below w.heap.size w w':=by
 have HC:=hid (qaz a p b q)
 generalize cmp a p b q=c at HC
 by_cases ha:a=0
 ·by_cases hb:b=0
  ·have e1:(a != 0)=false:=by simpa using ha
   have e2:(b != 0)=false:=by simpa using hb
   have HE:Hid (tr (decide (a≠0)||decide (b≠0))=⟨0,1,0⟩):=hid (by simp[ha,hb,tr])
   clear ha hb
   go_enter Tryz.func94,Tryz.ntmps94
   go_wp2_with fail
   (with_reducible refine(HC.out _).mono ?_)
   rintro e w1⟨rfl,hb1⟩
   have h1:=(B3.new w a p b q).call hb1
   obtain⟨x0,x1,_,_⟩:=c2 h1.x
   obtain⟨y0,y1,_,_⟩:=c2 h1.y
   have H1:=hid h1
   clear hb1 h1
   go_wp2_with fail
   (with_reducible refine(qex _).mono ?_)
   rintro e w2⟨rfl,hb2⟩
   have h2:=H1.out.call hb2
   clear hb2 x0 x1 y0 y1
   obtain⟨r0,r1,rf0,rf1⟩:=c2 h2.r
   have HF:=hid (h2.fin (0) (1))
   clear h2
   go_wp2_with fail
   obtain⟨hz,hbl⟩:=HF.out
   generalize((w2.setCell ⟨w.heap.size+1+1,0,none⟩ (.int .i64 (0))).setCell ⟨w.heap.size+1+1,1,none⟩ (.int .i64 (1)))=W9 at hz hbl ⊢
   obtain⟨z0,z1,_,_⟩:=c2 hz
   exact bodyPost_ret (v := .tuple #[.agg #[.int .i64 (0),.int .i64 (1)],.int .i64 (0)]) (by simp[results,Tryz.results94,go_sem,z0,z1]) rfl ⟨by rw[HE.out];rfl,hbl⟩
  ·have e1:(a != 0)=false:=by simpa using ha
   have e2:(b != 0)=true:=by simpa using hb
   have HE:Hid (tr (decide (a≠0)||decide (b≠0))=⟨1,1,0⟩):=hid (by simp[ha,hb,tr])
   clear ha hb
   go_enter Tryz.func94,Tryz.ntmps94
   go_wp2_with fail
   (with_reducible refine(HC.out _).mono ?_)
   rintro e w1⟨rfl,hb1⟩
   have h1:=(B3.new w a p b q).call hb1
   obtain⟨x0,x1,_,_⟩:=c2 h1.x
   obtain⟨y0,y1,_,_⟩:=c2 h1.y
   have H1:=hid h1
   clear hb1 h1
   go_wp2_with fail
   (with_reducible refine(qey _).mono ?_)
   rintro e w2⟨rfl,hb2⟩
   have h2:=H1.out.call hb2
   clear hb2 x0 x1 y0 y1
   obtain⟨r0,r1,rf0,rf1⟩:=c2 h2.r
   have HF:=hid (h2.fin (1) (1))
   clear h2
   go_wp2_with fail
   obtain⟨hz,hbl⟩:=HF.out
   generalize((w2.setCell ⟨w.heap.size+1+1,0,none⟩ (.int .i64 (1))).setCell ⟨w.heap.size+1+1,1,none⟩ (.int .i64 (1)))=W9 at hz hbl ⊢
   obtain⟨z0,z1,_,_⟩:=c2 hz
   exact bodyPost_ret (v := .tuple #[.agg #[.int .i64 (1),.int .i64 (1)],.int .i64 (0)]) (by simp[results,Tryz.results94,go_sem,z0,z1]) rfl ⟨by rw[HE.out];rfl,hbl⟩
 ·have e1:(a != 0)=true:=by simpa using ha
  have HE:Hid (tr (decide (a≠0)||decide (b≠0))=⟨1,1,0⟩):=hid (by simp[ha,tr])
  clear ha
  go_enter Tryz.func94,Tryz.ntmps94
  go_wp2_with fail
  (with_reducible refine(HC.out _).mono ?_)
  rintro e w1⟨rfl,hb1⟩
  have h1:=(B3.new w a p b q).call hb1
  obtain⟨x0,x1,_,_⟩:=c2 h1.x
  obtain⟨y0,y1,_,_⟩:=c2 h1.y
  have H1:=hid h1
  clear hb1 h1
  go_wp2_with fail
  (with_reducible refine(qey _).mono ?_)
  rintro e w2⟨rfl,hb2⟩
  have h2:=H1.out.call hb2
  clear hb2 x0 x1 y0 y1
  obtain⟨r0,r1,rf0,rf1⟩:=c2 h2.r
  have HF:=hid (h2.fin (1) (1))
  clear h2
  go_wp2_with fail
  obtain⟨hz,hbl⟩:=HF.out
  generalize((w2.setCell ⟨w.heap.size+1+1,0,none⟩ (.int .i64 (1))).setCell ⟨w.heap.size+1+1,1,none⟩ (.int .i64 (1)))=W9 at hz hbl ⊢
  obtain⟨z0,z1,_,_⟩:=c2 hz
  exact bodyPost_ret (v := .tuple #[.agg #[.int .i64 (1),.int .i64 (1)],.int .i64 (0)]) (by simp[results,Tryz.results94,go_sem,z0,z1]) rfl ⟨by rw[HE.out];rfl,hbl⟩
theorem q7s(a p b q:Int)(hx:Ok a p)(w:World):Calls Tryz.prog 94 #[.string ⟨#[114,111,117,110,100]⟩,.agg #[.int .i64 a,.int .i64 p],.agg #[.int .i64 b,.int .i64 q]] w fun e w'=>e=.returned (res (qq7 ⟨a,p,0⟩ ⟨b,q,0⟩))∧Below w.heap.size w w':=by
 have HC:=hid (qaz a p b q)
 generalize cmp a p b q=c at HC
 by_cases hq:q=1
 ·subst hq
  have hF:qq7 ⟨a,p,0⟩ ⟨b,1,0⟩=rnd a p b:=if_pos rfl
  rw[hF]
  by_cases hk:0≤b∧b≤9
  ·obtain⟨n,d,z,hR⟩ : ∃ n d z,rnd a p b=⟨n,d,z⟩:=⟨_,_,_,rfl⟩
   have HR:=hid (qhb a p b)
   rw[hR] at HR ⊢
   have d1:decide (b<0)=false:=by rw[decide_eq_false_iff_not];omega
   have d2:decide (b>9)=false:=by rw[decide_eq_false_iff_not];omega
   clear hR hF hk
   go_enter Tryz.func94,Tryz.ntmps94
   go_wp2_with fail
   (with_reducible refine(HC.out _).mono ?_)
   rintro e w1⟨rfl,hb1⟩
   have h1:=(B3.new w a p b 1).call hb1
   obtain⟨x0,x1,_,_⟩:=c2 h1.x
   obtain⟨y0,y1,_,_⟩:=c2 h1.y
   have H1:=hid h1
   clear hb1 h1
   go_wp2_with fail
   (with_reducible refine(HR.out _).mono ?_)
   rintro e w2⟨rfl,hb2⟩
   have h2:=H1.out.call hb2
   clear hb2 x0 x1 y0 y1
   obtain⟨r0,r1,rf0,rf1⟩:=c2 h2.r
   have HF:=hid (h2.fin (n) (d))
   clear h2
   go_wp2_with fail
   obtain⟨hz,hbl⟩:=HF.out
   generalize((w2.setCell ⟨w.heap.size+1+1,0,none⟩ (.int .i64 (n))).setCell ⟨w.heap.size+1+1,1,none⟩ (.int .i64 (d)))=W9 at hz hbl ⊢
   obtain⟨z0,z1,_,_⟩:=c2 hz
   exact bodyPost_ret (v := .tuple #[.agg #[.int .i64 (n),.int .i64 (d)],.int .i64 (z)]) (by simp[results,Tryz.results94,go_sem,z0,z1]) rfl ⟨rfl,hbl⟩
  ·have HE:Hid (rnd a p b=⟨0,0,2⟩):=hid (by unfold rnd;rw[qan.2 hx];simp only[if_true];rw[if_neg hk])
   clear hF
   by_cases h0:b<0
   ·have d1:decide (b<0)=true:=decide_eq_true h0
    clear hk h0
    go_enter Tryz.func94,Tryz.ntmps94
    go_wp2_with fail
    (with_reducible refine(HC.out _).mono ?_)
    rintro e w1⟨rfl,hb1⟩
    have h1:=(B3.new w a p b 1).call hb1
    obtain⟨x0,x1,_,_⟩:=c2 h1.x
    obtain⟨y0,y1,_,_⟩:=c2 h1.y
    have H1:=hid h1
    clear hb1 h1
    have h2:=H1.out
    obtain⟨r0,r1,rf0,rf1⟩:=c2 h2.r
    have HF:=hid (h2.fin (0) (0))
    clear h2
    go_wp2_with fail
    obtain⟨hz,hbl⟩:=HF.out
    generalize((w1.setCell ⟨w.heap.size+1+1,0,none⟩ (.int .i64 (0))).setCell ⟨w.heap.size+1+1,1,none⟩ (.int .i64 (0)))=W9 at hz hbl ⊢
    obtain⟨z0,z1,_,_⟩:=c2 hz
    exact bodyPost_ret (v := .tuple #[.agg #[.int .i64 (0),.int .i64 (0)],.int .i64 (2)]) (by simp[results,Tryz.results94,go_sem,z0,z1]) rfl ⟨by rw[HE.out];rfl,hbl⟩
   ·have d1:decide (b<0)=false:=decide_eq_false h0
    have d2:decide (b>9)=true:=by rw[decide_eq_true_iff];omega
    clear hk h0
    go_enter Tryz.func94,Tryz.ntmps94
    go_wp2_with fail
    (with_reducible refine(HC.out _).mono ?_)
    rintro e w1⟨rfl,hb1⟩
    have h1:=(B3.new w a p b 1).call hb1
    obtain⟨x0,x1,_,_⟩:=c2 h1.x
    obtain⟨y0,y1,_,_⟩:=c2 h1.y
    have H1:=hid h1
    clear hb1 h1
    have h2:=H1.out
    obtain⟨r0,r1,rf0,rf1⟩:=c2 h2.r
    have HF:=hid (h2.fin (0) (0))
    clear h2
    go_wp2_with fail
    obtain⟨hz,hbl⟩:=HF.out
    generalize((w1.setCell ⟨w.heap.size+1+1,0,none⟩ (.int .i64 (0))).setCell ⟨w.heap.size+1+1,1,none⟩ (.int .i64 (0)))=W9 at hz hbl ⊢
    obtain⟨z0,z1,_,_⟩:=c2 hz
    exact bodyPost_ret (v := .tuple #[.agg #[.int .i64 (0),.int .i64 (0)],.int .i64 (2)]) (by simp[results,Tryz.results94,go_sem,z0,z1]) rfl ⟨by rw[HE.out];rfl,hbl⟩
 ·have HE:Hid (qq7 ⟨a,p,0⟩ ⟨b,q,0⟩=⟨0,0,2⟩):=hid (if_neg hq)
  have e1:(q != 1)=true:=by simpa using hq
  clear hq
  go_enter Tryz.func94,Tryz.ntmps94
  go_wp2_with fail
  (with_reducible refine(HC.out _).mono ?_)
  rintro e w1⟨rfl,hb1⟩
  have h1:=(B3.new w a p b q).call hb1
  obtain⟨x0,x1,_,_⟩:=c2 h1.x
  obtain⟨y0,y1,_,_⟩:=c2 h1.y
  have H1:=hid h1
  clear hb1 h1
  have h2:=H1.out
  obtain⟨r0,r1,rf0,rf1⟩:=c2 h2.r
  have HF:=hid (h2.fin (0) (0))
  clear h2
  go_wp2_with fail
  obtain⟨hz,hbl⟩:=HF.out
  generalize((w1.setCell ⟨w.heap.size+1+1,0,none⟩ (.int .i64 (0))).setCell ⟨w.heap.size+1+1,1,none⟩ (.int .i64 (0)))=W9 at hz hbl ⊢
  obtain⟨z0,z1,_,_⟩:=c2 hz
  exact bodyPost_ret (v := .tuple #[.agg #[.int .i64 (0),.int .i64 (0)],.int .i64 (2)]) (by simp[results,Tryz.results94,go_sem,z0,z1]) rfl ⟨by rw[HE.out];rfl,hbl⟩
end Go.Proofs.YtldkgbnmaefaaaaGreatDoor.Fo
