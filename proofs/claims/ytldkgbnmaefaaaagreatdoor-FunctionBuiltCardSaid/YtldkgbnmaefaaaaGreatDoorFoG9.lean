import Derived.Test.YtldkgbnmaefaaaaGreatDoorFoG8
import Derived.Test.YtldkgbnmaefaaaaGreatDoorFoG2
import Derived.Test.YtldkgbnmaefaaaaGreatDoorFoG6
import Derived.Test.YtldkgbnmaefaaaaGreatDoorNuG6
import Derived.Test.YtldkgbnmaefaaaaGreatDoorFoG7
set_option maxRecDepth 100000
set_option maxHeartbeats 4000000
open Go.Lib (hid)
namespace Go.Proofs.YtldkgbnmaefaaaaGreatDoor.Fo
open Go.RowKit Go.Proofs.YtldkgbnmaefaaaaGreatDoor.Nu
set_option linter.unusedVariables false
set_option linter.unusedSimpArgs false
theorem xe4(w:World)(A B C:Obj):(((w.alloc A).alloc B).alloc C).heap[w.heap.size+1]? = some B:=by
 rw[Below.heap_alloc _ _ _ (by simp)]
 have:=nh (w.alloc A) B;rwa [World.size_alloc] at this
structure Ry (w wr:World) (pb:Nat) (b:Int) (a p n d:Int):Prop where
 x:wr.heap[w.heap.size]? = some (nb a p)
 y:wr.heap[w.heap.size+1]? = some (nb b 1)
 r:wr.heap[w.heap.size+2]? = some (nb 0 0)
 g:wr.heap[pb]? = some (nb n d)
 bl:Below w.heap.size w wr
theorem qcu(a p b q:Int)(w:World):Calls Tryz.prog 161 #[.agg #[.int .i64 a,.int .i64 p],.agg #[.int .i64 b,.int .i64 q]] w fun e w'=>e=.returned (res (pwF ⟨a,p,0⟩ ⟨b,q,0⟩))∧Below w.heap.size w w':=by
 by_cases hq:q=1∧0≤b∧b≤30
 ·obtain⟨rfl,h0,h30⟩:=hq
  have e1:pwF ⟨a,p,0⟩ ⟨b,1,0⟩=pwr ⟨a,p,0⟩ b.toNat:=if_pos ⟨rfl,h0,h30⟩
  rw[e1]
  clear e1
  obtain⟨B,rfl⟩ : ∃ B:Nat,b=(B:Int):=⟨b.toNat,by omega⟩
  rw[Int.toNat_natCast]
  have d1:decide ((B:Int)<0)=false:=by rw[decide_eq_false_iff_not];omega
  have d2:decide ((B:Int)>30)=false:=by rw[decide_eq_false_iff_not];omega
  have hB30:B≤30:=by omega
  clear h0 h30
  go_enter Tryz.func161,Tryz.ntmps161
  go_wp2_with fail
  refine(qey _).mono ?_
  rintro e w1⟨rfl,hb⟩
  have hz1:=hb.size
  simp only[World.size_alloc] at hz1
  obtain⟨hc,hf⟩:=qad hb
  have J0:Hid (∃ k:Nat,0=(k:Int)∧k≤B∧(pwr ⟨a,p,0⟩ k).e=0∧Ry w (w1.alloc (nb 1 1)) w1.heap.size B a p (pwr ⟨a,p,0⟩ k).n (pwr ⟨a,p,0⟩ k).d):=hid ⟨0,rfl,Nat.zero_le _,rfl,(Below.heap_alloc _ _ _ (by omega)).trans ((hb.block _ (by simp;omega)).trans (hp3 w _ _ _).1),(Below.heap_alloc _ _ _ (by omega)).trans ((hb.block _ (by simp)).trans (xe4 w _ _ _)),(Below.heap_alloc _ _ _ (by omega)).trans ((hb.block _ (by simp)).trans (hp3 w _ _ _).2),nh _ _,(qav hb).alloc (by omega) _⟩
  unfold nb at J0
  have hlt0:w.heap.size<w1.heap.size:=by omega
  have hlt1:w.heap.size+1<w1.heap.size:=by omega
  clear hb
  have HL:=hid hlt0
  go_wp2_with fail
  clear hc hf
  go_loopw [7] (fun i wr => ∃ k:Nat,i=.int .i64 k∧k≤B∧Hid ((pwr ⟨a,p,0⟩ k).e=0∧Ry w wr w1.heap.size B a p (pwr ⟨a,p,0⟩ k).n (pwr ⟨a,p,0⟩ k).d)) (fun i _=>B-(intOf i).toNat)
  case atStart =>
   obtain⟨k,hk0,hk,h1,h2⟩:=J0.out
   have:k=0:=by omega
   subst this
   exact⟨0,rfl,hk,hid ⟨h1,h2⟩⟩
  case round =>
   obtain⟨k,rfl,hk,hS⟩:=hrel
   clear J0
   obtain⟨he,hz⟩:=hS.out
   clear hS
   obtain⟨g0,g1,g2,g3⟩:=c2 hz.g
   obtain⟨x0,x1,x2,x3⟩:=c2 hz.x
   obtain⟨v0,v1,v2,v3⟩:=c2 hz.y
   obtain⟨r0,r1,r2,r3⟩:=c2 hz.r
   have hgl:=qa7 hz.g
   by_cases hlt:k<B
   ·have hd:decide ((k:Int)<(B:Int))=true:=by rw[decide_eq_true_iff];omega
    have hs:=qq4 ⟨a,p,0⟩ k he
    have HE:=hid he
    have HZ:=hid hz
    generalize hN:(pwr ⟨a,p,0⟩ k).n=n at *
    generalize hD:(pwr ⟨a,p,0⟩ k).d=d at *
    have HS:=hid hs
    clear he hz hs
    go_wp2_with fail
    refine(qp5 n d a p _).mono ?_
    rintro e w2⟨rfl,hb2⟩
    have hz2:=hb2.size
    have kp : ∀ i,i<wr.heap.size→w2.heap[i]? = wr.heap[i]? := fun i hi=>hb2.block i hi
    have hw12:w1.heap.size<w2.heap.size:=by omega
    have hw22:w.heap.size+1+1<w2.heap.size:=by have:=qa7 HZ.out.r;omega
    have HB2:=hid hb2
    have hg2:=(kp _ (qa7 HZ.out.g)).trans HZ.out.g
    have hx2:=(kp _ (qa7 HZ.out.x)).trans HZ.out.x
    have hr2:=(kp _ (qa7 HZ.out.r)).trans HZ.out.r
    have hy2:=(kp _ (qa7 HZ.out.y)).trans HZ.out.y
    have HY2:=hid hy2
    have HG2:=hid hg2;have HX2:=hid hx2;have HR2:=hid hr2
    obtain⟨m0,m1,m2,m3⟩:=c2 hg2
    obtain⟨n0,n1,n2,n3⟩:=c2 hr2
    clear hb2 kp hg2 hx2 hr2 hy2 g0 g1 g2 g3 x0 x1 x2 x3 r0 r1 r2 r3 v0 v1 v2 v3
    by_cases hm:(mul n d a p).e=0
    ·have HM:=hid hm
     have hd2:((mul n d a p).e != 0)=false:=by simpa using hm
     have hr:Hid (∀ W:World,W.heap.size=w2.heap.size+1→(∀ i,i<w2.heap.size→i≠w1.heap.size→W.heap[i]? = w2.heap[i]?)→W.heap[w1.heap.size]? = some (nb (mul n d a p).n (mul n d a p).d)→W.os=w2.os→W.tape=w2.tape→W.output=w2.output →
       (pwr ⟨a,p,0⟩ (k+1)).e=0∧Ry w W w1.heap.size B a p (pwr ⟨a,p,0⟩ (k+1)).n (pwr ⟨a,p,0⟩ (k+1)).d):=hid fun W q1 q2 q3 q4 q5 q6=>by
      have bl:=HZ.out.bl.trans (HB2.out.mono HZ.out.bl.size)
      rw[HS.out]
      exact⟨HM.out,(q2 _ (by omega) (by omega)).trans HX2.out,(q2 _ (by omega) (by omega)).trans HY2.out,(q2 _ (by omega) (by omega)).trans HR2.out,q3,⟨q4.trans bl.os,q5.trans bl.tape,q6.trans bl.output,by rw[q1];omega,fun i hi=>(q2 i (by omega) (by omega)).trans (bl.block i hi)⟩⟩
     go_wp2_with fail
     go_roundw
     case rel =>
      refine⟨k+1,by simp,by omega,hid (hr.out _ (by simp[World.setCell]) (fun i hi hne => ?_) ?_ rfl rfl rfl)⟩
      ·rw[Below.heap_alloc _ _ _ (by simp[World.setCell];exact hi)];exact q0a hne _ _
      ·rw[Below.heap_alloc _ _ _ (by simp[World.setCell];omega)];exact s2 HG2.out _ _
     case measure=>simp[intOf];omega
    ·have HM:=hid (qu2 n d a p hm)
     have hd2:((mul n d a p).e != 0)=true:=by simpa using hm
     have hstop:pwr ⟨a,p,0⟩ B=⟨0,0,(mul n d a p).e⟩:=by
      have e2:B=(k+1)+(B-(k+1)):=by omega
      rw[e2,ql5 ⟨a,p,0⟩ (k+1) (by rw[HS.out];exact hm),HS.out]
      exact HM.out
     have HT:=hid hstop
     clear hm hstop
     have bl:=HZ.out.bl.trans (HB2.out.mono HZ.out.bl.size)
     have HBL:=hid bl
     clear bl
     go_wp2_with fail
     exact bodyPost_ret (v:=res ⟨0,0,(mul n d a p).e⟩) (by simp[results,Tryz.results161,go_sem,hw22,n0,n1,res]) rfl ⟨by rw[HT.out],(qc7 HBL.out _ _).alloc (by simp[World.setCell];omega) _⟩
   ·have ek:k=B:=by omega
    subst ek
    have hd:decide ((k:Int)<(k:Int))=false:=by simp
    have HE:=hid he
    have HZ:=hid hz
    clear he hz
    go_wp2_with fail
    exact bodyPost_ret (v := .tuple #[.agg #[.int .i64 (pwr ⟨a,p,0⟩ k).n,.int .i64 (pwr ⟨a,p,0⟩ k).d],.int .i64 0]) (by simp[results,Tryz.results161,go_sem,r0,r1]) rfl ⟨by unfold res;rw[HE.out],qc7 HZ.out.bl _ _⟩
 ·have e1:pwF ⟨a,p,0⟩ ⟨b,q,0⟩=⟨0,0,2⟩:=if_neg hq
  rw[e1]
  clear e1
  by_cases h1:q=1
  ·subst h1
   by_cases h2:b<0
   ·have d1:decide (b<0)=true:=decide_eq_true h2
    clear hq
    go_enter Tryz.func161,Tryz.ntmps161
    go_wp2
    exact bodyPost_ret (v:=res ⟨0,0,2⟩) (by simp[results,Tryz.results161,go_sem,res]) rfl ⟨rfl,(((Below.refl _ w).alloc (Nat.le_refl _) _).alloc (by simp) _).alloc (by simp;omega) _⟩
   ·have d1:decide (b<0)=false:=decide_eq_false h2
    have d2:decide (b>30)=true:=by rw[decide_eq_true_iff];omega
    clear hq h2
    go_enter Tryz.func161,Tryz.ntmps161
    go_wp2
    exact bodyPost_ret (v:=res ⟨0,0,2⟩) (by simp[results,Tryz.results161,go_sem,res]) rfl ⟨rfl,(((Below.refl _ w).alloc (Nat.le_refl _) _).alloc (by simp) _).alloc (by simp;omega) _⟩
  ·have hd:(q != 1)=true:=by simpa using h1
   clear hq
   go_enter Tryz.func161,Tryz.ntmps161
   go_wp2
   exact bodyPost_ret (v:=res ⟨0,0,2⟩) (by simp[results,Tryz.results161,go_sem,res]) rfl ⟨rfl,(((Below.refl _ w).alloc (Nat.le_refl _) _).alloc (by simp) _).alloc (by simp;omega) _⟩
end Go.Proofs.YtldkgbnmaefaaaaGreatDoor.Fo
namespace Go.Proofs.YtldkgbnmaefaaaaGreatDoor.Fo
open Go.RowKit Go.Proofs.YtldkgbnmaefaaaaGreatDoor.Nu
set_option linter.unusedVariables false
set_option linter.unusedSimpArgs false
structure B2 (w W:World) (a p:Int):Prop where
 x:W.heap[w.heap.size]? = some (nb a p)
 r:W.heap[w.heap.size+1]? = some (nb 0 0)
 bl:Below w.heap.size w W
theorem B2.new(w:World)(a p:Int):B2 w ((w.alloc (nb a p)).alloc (nb 0 0)) a p:=by
 refine⟨?_,?_,((Below.refl _ w).alloc (Nat.le_refl _) _).alloc (by simp) _⟩
 ·rw[Below.heap_alloc _ _ _ (by simp)];exact nh _ _
 ·have:=nh (w.alloc (nb a p)) (nb 0 0);rwa [World.size_alloc] at this
theorem B2.drew{w W:World}{a p:Int}(h:B2 w W a p):B2 w W.drew a p:=⟨h.x,h.r,Below.drew h.bl⟩
theorem B2.call{w W W':World}{a p:Int}(hb:Below W.heap.size W W')(h:B2 w W a p):B2 w W' a p :=
 ⟨(hb.block _ (qa7 h.x)).trans h.x,(hb.block _ (qa7 h.r)).trans h.r,h.bl.trans (hb.mono h.bl.size)⟩
theorem B2.fin{w W:World}{a p:Int}(h:B2 w W a p)(n d:Int):((W.setCell ⟨w.heap.size+1,0,none⟩ (.int .i64 n)).setCell ⟨w.heap.size+1,1,none⟩ (.int .i64 d)).heap[w.heap.size+1]? = some (nb n d) ∧
  Below w.heap.size w ((W.setCell ⟨w.heap.size+1,0,none⟩ (.int .i64 n)).setCell ⟨w.heap.size+1,1,none⟩ (.int .i64 d)) :=
 ⟨s2 h.r n d,(h.bl.setCell (p:=⟨w.heap.size+1,0,none⟩) (by show _≤w.heap.size+1;omega) _).setCell (p:=⟨w.heap.size+1,1,none⟩) (by show _≤w.heap.size+1;omega) _⟩
theorem q5s(a p:Int)(w:World):Calls Tryz.prog 93 #[.string ⟨#[110,111,116]⟩,.agg #[.int .i64 a,.int .i64 p]] w fun e w'=>e=.returned (res (tr (decide (a=0))))∧Below w.heap.size w w':=by
 by_cases ha:a=0
 ·have e1:(a==0)=true:=by simpa using ha
  have HE:Hid (tr (decide (a=0))=⟨1,1,0⟩):=hid (by simp[ha,tr])
  clear ha
  go_enter Tryz.func93,Tryz.ntmps93
  go_wp2_with fail
  (with_reducible refine(qey _).mono ?_)
  rintro e w2⟨rfl,hb2⟩
  have h2:=(B2.new w a p).call hb2
  obtain⟨r0,r1,rf0,rf1⟩:=c2 h2.r
  have HF:=hid (h2.fin (1) (1))
  clear h2
  go_wp2_with fail
  obtain⟨hz,hbl⟩:=HF.out
  generalize((w2.setCell ⟨w.heap.size+1,0,none⟩ (.int .i64 (1))).setCell ⟨w.heap.size+1,1,none⟩ (.int .i64 (1)))=W9 at hz hbl ⊢
  obtain⟨z0,z1,_,_⟩:=c2 hz
  exact bodyPost_ret (v := .tuple #[.agg #[.int .i64 (1),.int .i64 (1)],.int .i64 (0)]) (by simp[results,Tryz.results93,go_sem,z0,z1]) rfl ⟨by rw[HE.out];rfl,hbl⟩
 ·have e1:(a==0)=false:=by simpa using ha
  have HE:Hid (tr (decide (a=0))=⟨0,1,0⟩):=hid (by simp[ha,tr])
  clear ha
  go_enter Tryz.func93,Tryz.ntmps93
  go_wp2_with fail
  (with_reducible refine(qex _).mono ?_)
  rintro e w2⟨rfl,hb2⟩
  have h2:=(B2.new w a p).call hb2
  obtain⟨r0,r1,rf0,rf1⟩:=c2 h2.r
  have HF:=hid (h2.fin (0) (1))
  clear h2
  go_wp2_with fail
  obtain⟨hz,hbl⟩:=HF.out
  generalize((w2.setCell ⟨w.heap.size+1,0,none⟩ (.int .i64 (0))).setCell ⟨w.heap.size+1,1,none⟩ (.int .i64 (1)))=W9 at hz hbl ⊢
  obtain⟨z0,z1,_,_⟩:=c2 hz
  exact bodyPost_ret (v := .tuple #[.agg #[.int .i64 (0),.int .i64 (1)],.int .i64 (0)]) (by simp[results,Tryz.results93,go_sem,z0,z1]) rfl ⟨by rw[HE.out];rfl,hbl⟩
theorem qvh(a p:Int)(hx:Ok a p)(w:World):Calls Tryz.prog 93 #[.string ⟨#[102,108,111,111,114]⟩,.agg #[.int .i64 a,.int .i64 p]] w fun e w'=>e=.returned (res (⟨flr a p,1,0⟩))∧Below w.heap.size w w':=by
 have hz:flE a p=0:=by unfold flE;rw[qan.2 hx];rfl
 have HR:=hid (qrw a p)
 rw[hz] at HR
 generalize flr a p=k at HR ⊢
 clear hz hx
 go_enter Tryz.func93,Tryz.ntmps93
 go_wp2_with fail
 (with_reducible refine(HR.out _).mono ?_)
 rintro e w2⟨rfl,hb2⟩
 have h2:=(B2.new w a p).call hb2
 obtain⟨r0,r1,rf0,rf1⟩:=c2 h2.r
 have HF:=hid (h2.fin (k) (1))
 clear h2
 go_wp2_with fail
 obtain⟨hz,hbl⟩:=HF.out
 generalize((w2.setCell ⟨w.heap.size+1,0,none⟩ (.int .i64 (k))).setCell ⟨w.heap.size+1,1,none⟩ (.int .i64 (1)))=W9 at hz hbl ⊢
 obtain⟨z0,z1,_,_⟩:=c2 hz
 exact bodyPost_ret (v := .tuple #[.agg #[.int .i64 (k),.int .i64 (1)],.int .i64 (0)]) (by simp[results,Tryz.results93,go_sem,z0,z1]) rfl ⟨rfl,hbl⟩
theorem qzj(a p:Int)(w:World):Calls Tryz.prog 93 #[.string ⟨#[43]⟩,.agg #[.int .i64 a,.int .i64 p]] w fun e w'=>e=.returned (res (⟨a,p,0⟩))∧Below w.heap.size w w':=by
 go_enter Tryz.func93,Tryz.ntmps93
 go_wp2
 exact bodyPost_ret (v := .tuple #[.agg #[.int .i64 a,.int .i64 p],.int .i64 0]) (by simp[results,Tryz.results93,go_sem]) rfl ⟨rfl,((Below.refl _ w).alloc (Nat.le_refl _) _).alloc (by simp) _⟩
theorem q5t(a p:Int)(w:World):Calls Tryz.prog 93 #[.string ⟨#[40]⟩,.agg #[.int .i64 a,.int .i64 p]] w fun e w'=>e=.returned (res (⟨a,p,0⟩))∧Below w.heap.size w w':=by
 go_enter Tryz.func93,Tryz.ntmps93
 go_wp2
 exact bodyPost_ret (v := .tuple #[.agg #[.int .i64 a,.int .i64 p],.int .i64 0]) (by simp[results,Tryz.results93,go_sem]) rfl ⟨rfl,((Below.refl _ w).alloc (Nat.le_refl _) _).alloc (by simp) _⟩
theorem q5r(a p:Int)(w:World):Calls Tryz.prog 93 #[.string ⟨#[45]⟩,.agg #[.int .i64 a,.int .i64 p]] w fun e w'=>e=.returned (res (sub 0 1 a p))∧Below w.heap.size w w':=by
 obtain⟨n,d,z,hR⟩ : ∃ n d z,sub 0 1 a p=⟨n,d,z⟩:=⟨_,_,_,rfl⟩
 have HR:=hid (qp6 0 1 a p)
 rw[hR] at HR ⊢
 clear hR
 have HT:=hid qex
 go_enter Tryz.func93,Tryz.ntmps93
 go_wp2_with fail
 go_region_with (first
  |(go_at_call 154;(with_reducible refine(HT.out _).mono ?_);rintro e w1 ⟨rfl,hb1⟩
    have h1:=(B2.new w a p).drew.call hb1
    obtain⟨x0,x1,_,_⟩:=c2 h1.x)
  |(go_at_call 153;(with_reducible refine(HR.out _).mono ?_);rintro e w2 ⟨rfl,hb2⟩
    have h2:=h1.call hb2
    obtain⟨r0,r1,rf0,rf1⟩:=c2 h2.r))
 all_goals
  have HF:=hid (h2.fin n d)
  clear h2 h1 hb1 hb2
  go_wp2_with fail
  obtain⟨hz,hbl⟩:=HF.out
  generalize((w2.setCell ⟨w.heap.size+1,0,none⟩ (.int .i64 n)).setCell ⟨w.heap.size+1,1,none⟩ (.int .i64 d))=W9 at hz hbl ⊢
  obtain⟨z0,z1,_,_⟩:=c2 hz
  exact bodyPost_ret (v := .tuple #[.agg #[.int .i64 n,.int .i64 d],.int .i64 z]) (by simp[results,Tryz.results93,go_sem,z0,z1]) rfl ⟨rfl,hbl⟩
theorem q5q(o:Tok)(ho:o∈uns∨o=[40])(a p:Int)(hx:Ok a p)(w:World):Calls Tryz.prog 93 #[sv o,.agg #[.int .i64 a,.int .i64 p]] w fun e w'=>e=.returned (res (ap1 o ⟨a,p,0⟩))∧Below w.heap.size w w':=by
 have h:o=[45]∨o=[43]∨o=[110,111,116]∨o=[102,108,111,111,114]∨o=[40]:=by
  rcases ho with h | h
  ·simp only[uns,List.mem_cons,List.not_mem_nil,or_false] at h
   rcases h with h | h | h | h
   ·exact .inl h
   ·exact .inr (.inl h)
   ·exact .inr (.inr (.inl h))
   ·exact .inr (.inr (.inr (.inl h)))
  ·exact .inr (.inr (.inr (.inr h)))
 rcases h with rfl | rfl | rfl | rfl | rfl
 ·exact q5r a p w
 ·exact qzj a p w
 ·exact q5s a p w
 ·exact qvh a p hx w
 ·exact q5t a p w
theorem q7r(a p b q:Int)(w:World):Calls Tryz.prog 94 #[.string ⟨#[94]⟩,.agg #[.int .i64 a,.int .i64 p],.agg #[.int .i64 b,.int .i64 q]] w fun e w'=>e=.returned (res (pwF ⟨a,p,0⟩ ⟨b,q,0⟩))∧Below w.heap.size w w':=by
 obtain⟨n,d,z,hR⟩ : ∃ n d z,pwF ⟨a,p,0⟩ ⟨b,q,0⟩=⟨n,d,z⟩:=⟨_,_,_,rfl⟩
 have HR:=hid (qcu a p b q)
 rw[hR] at HR ⊢
 unfold res at HR
 clear hR
 have HC:=hid (qaz a p b q)
 generalize cmp a p b q=c at HC
 go_enter Tryz.func94,Tryz.ntmps94
 go_wp2_with fail
 (with_reducible refine(HC.out _).mono ?_)
 rintro e w1⟨rfl,hb1⟩
 have h1:=(B3.new w a p b q).call hb1
 obtain⟨x0,x1,_,_⟩:=c2 h1.x
 obtain⟨y0,y1,_,_⟩:=c2 h1.y
 have H1:=hid h1
 clear hb1 h1
 go_wp2_with fail
 (with_reducible refine(HR.out _).mono ?_)
 rintro e w2⟨rfl,hb2⟩
 have h2:=H1.out.call hb2
 clear hb2 x0 x1 y0 y1
 obtain⟨r0,r1,rf0,rf1⟩:=c2 h2.r
 have HF:=hid (h2.fin n d)
 clear h2
 go_wp2_with fail
 obtain⟨hz,hbl⟩:=HF.out
 generalize((w2.setCell ⟨w.heap.size+1+1,0,none⟩ (.int .i64 n)).setCell ⟨w.heap.size+1+1,1,none⟩ (.int .i64 d))=W9 at hz hbl ⊢
 obtain⟨z0,z1,_,_⟩:=c2 hz
 exact bodyPost_ret (v := .tuple #[.agg #[.int .i64 n,.int .i64 d],.int .i64 z]) (by simp[results,Tryz.results94,go_sem,z0,z1]) rfl ⟨rfl,hbl⟩
theorem q7n(o:Tok)(ho:o∈qxq)(a p b q:Int)(hx:Ok a p)(w:World):Calls Tryz.prog 94 #[sv o,.agg #[.int .i64 a,.int .i64 p],.agg #[.int .i64 b,.int .i64 q]] w fun e w'=>e=.returned (res (ap2 o ⟨a,p,0⟩ ⟨b,q,0⟩))∧Below w.heap.size w w':=by
 simp only[qxq,List.mem_cons,List.not_mem_nil,or_false] at ho
 rcases ho with rfl | rfl | rfl | rfl | rfl | rfl | rfl | rfl | rfl | rfl | rfl | rfl | rfl | rfl | rfl
 ·exact q7l a p b q w
 ·exact q7t a p b q w
 ·exact q7q a p b q w
 ·exact q7o a p b q w
 ·exact q7p a p b q w
 ·exact q7s a p b q hx w
 ·exact q7r a p b q w
 ·exact q7m a p b q w
 ·exact xb5 a p b q w
 ·exact xb0 a p b q w
 ·exact xb4 a p b q w
 ·exact xb3 a p b q w
 ·exact xb2 a p b q w
 ·exact qxb a p b q w
 ·exact xb1 a p b q w
end Go.Proofs.YtldkgbnmaefaaaaGreatDoor.Fo
namespace Go.Proofs.YtldkgbnmaefaaaaGreatDoor.Fo
open Go.RowKit Go.Proofs.YtldkgbnmaefaaaaGreatDoor.Nu
set_option linter.unusedVariables false
set_option linter.unusedSimpArgs false
theorem q4k : ∀ o∈qxq,o≠[]:=by decide
theorem xb9 : ∀ o∈uns,o≠[]:=by decide
structure V2 (w W:World) (a b c:Value):Prop where
 x:W.heap[w.heap.size]? = some (.cells #[a,b,c] 86)
 r:W.heap[w.heap.size+1]? = some (nb 0 0)
 bl:Below w.heap.size w W
theorem V2.new(w:World)(a b c:Value):V2 w ((w.alloc (bx a b c)).alloc (nb 0 0)) a b c:=by
 refine⟨?_,?_,((Below.refl _ w).alloc (Nat.le_refl _) _).alloc (by simp) _⟩
 ·rw[Below.heap_alloc _ _ _ (by simp)];exact nh _ _
 ·have:=nh (w.alloc (bx a b c)) (nb 0 0);rwa [World.size_alloc] at this
theorem V2.call{w W W':World}{a b c:Value}(hb:Below W.heap.size W W')(h:V2 w W a b c):V2 w W' a b c :=
 ⟨(hb.block _ (qac h.x)).trans h.x,(hb.block _ (qa7 h.r)).trans h.r,h.bl.trans (hb.mono h.bl.size)⟩
theorem V2.alloc{w W:World}{a b c:Value}(h:V2 w W a b c)(o:Obj):V2 w (W.alloc o) a b c:=h.call ((Below.refl _ W).alloc (Nat.le_refl _) o)
theorem V2.fin{w W:World}{a b c:Value}(h:V2 w W a b c)(n d:Int):((W.setCell ⟨w.heap.size+1,0,none⟩ (.int .i64 n)).setCell ⟨w.heap.size+1,1,none⟩ (.int .i64 d)).heap[w.heap.size+1]? = some (nb n d) ∧
  Below w.heap.size w ((W.setCell ⟨w.heap.size+1,0,none⟩ (.int .i64 n)).setCell ⟨w.heap.size+1,1,none⟩ (.int .i64 d)) :=
 ⟨s2 h.r n d,(h.bl.setCell (p:=⟨w.heap.size+1,0,none⟩) (by show _≤w.heap.size+1;omega) _).setCell (p:=⟨w.heap.size+1,1,none⟩) (by show _≤w.heap.size+1;omega) _⟩
theorem qtm(s:Tok)(hs:s.length≤19)(w:World):Calls Tryz.prog 47 #[.agg #[.string ⟨#[]⟩,sv s,.slice none 0 0]] w fun e w'=>e=.returned (res (val (.num s)))∧Below w.heap.size w w':=by
 obtain⟨n,d,z,hR⟩ : ∃ n d z,val (.num s)=⟨n,d,z⟩:=⟨_,_,_,rfl⟩
 have HR:=hid (fun w=>qd5 ⟨s.toArray⟩ w (by show s.toArray.size≤1000;simp;omega))
 rw[show parse ((⟨s.toArray⟩:ByteArray).data.toList)=⟨n,d,z⟩ by rw[show((⟨s.toArray⟩:ByteArray).data.toList)=s by simp];exact hR] at HR
 rw[hR]
 clear hR
 unfold sv
 go_enter Tryz.func47,Tryz.ntmps47
 go_wp2_with fail
 (with_reducible refine(HR.out _).mono ?_)
 rintro e w2⟨rfl,hb2⟩
 have h2:=(V2.new w (.string ⟨#[]⟩) (.string ⟨s.toArray⟩) (.slice none 0 0)).call hb2
 obtain⟨r0,r1,rf0,rf1⟩:=c2 h2.r
 have HF:=hid (h2.fin n d)
 clear h2 hb2
 go_wp2_with fail
 obtain⟨hz,hbl⟩:=HF.out
 generalize((w2.setCell ⟨w.heap.size+1,0,none⟩ (.int .i64 n)).setCell ⟨w.heap.size+1,1,none⟩ (.int .i64 d))=W9 at hz hbl ⊢
 obtain⟨z0,z1,_,_⟩:=c2 hz
 exact bodyPost_ret (v := .tuple #[.agg #[.int .i64 n,.int .i64 d],.int .i64 z]) (by simp[results,Tryz.results47,go_sem,z0,z1]) rfl ⟨rfl,hbl⟩
theorem qyb(o:Tok)(ho:o∈uns∨o=[40])(g:Nat)(a b c:Value)(t:TypeId)(rx:R3)(hok:rx.e=0→Ok rx.n rx.d)(w:World)(hc:w.heap[g]? = some (.cells #[a,b,c] t))
  (IH : ∀ W,Below w.heap.size w W→Calls Tryz.prog 47 #[.agg #[a,b,c]] W fun e w'=>e=.returned (res rx)∧Below W.heap.size W w') :
  Calls Tryz.prog 47 #[.agg #[sv o,.string ⟨#[]⟩,.slice (some ⟨g,0,none⟩) 1 1]] w fun e w'=>e=.returned (res (if rx.e=0 then ap1 o rx else⟨0,0,rx.e⟩))∧Below w.heap.size w w':=by
 obtain⟨n,d,z⟩:=rx
 have hne:o≠[]:=by rcases ho with h | h;exact xb9 o h;rw[h];decide
 have q1:o.isEmpty=false:=by cases o;exact absurd rfl hne;rfl
 have q2:(o==[])=false:=beq_eq_false_iff_ne.2 hne
 obtain⟨x0,x1,x2,xl⟩:=r3 hc
 have hV:=V2.new w (sv o) (.string ⟨#[]⟩) (.slice (some ⟨g,0,none⟩) 1 1)
 have HI:=hid (IH _ hV.bl)
 have HV:=hid hV
 clear hc hV IH hne
 unfold res nb at HI
 unfold sv at HI HV ⊢
 by_cases hz0:z=0
 ·subst hz0
  have HO:=hid (q5q o ho n d (hok rfl))
  obtain⟨n2,d2,z2,hR⟩ : ∃ n2 d2 z2,ap1 o ⟨n,d,0⟩=⟨n2,d2,z2⟩:=⟨_,_,_,rfl⟩
  rw[hR] at HO
  have HE:Hid ((if (⟨n,d,0⟩:R3).e=0 then ap1 o ⟨n,d,0⟩ else⟨0,0,(⟨n,d,0⟩:R3).e⟩)=⟨n2,d2,z2⟩):=hid (by rw[if_pos rfl,hR])
  rw[HE.out]
  unfold res at HO
  unfold sv at HO
  clear hR hok ho
  go_enter Tryz.func47,Tryz.ntmps47
  go_wp2_with fail
  (with_reducible refine HI.out.mono ?_)
  rintro e w1⟨rfl,hb1⟩
  have h1:=HV.out.call hb1
  obtain⟨y0,y1,y2,yl⟩:=r3 h1.x
  have hl1:=qa7 h1.r
  have H1:=hid h1
  clear hb1 h1
  go_wp2_with fail
  (with_reducible refine(HO.out _).mono ?_)
  rintro e w2⟨rfl,hb2⟩
  have h2:=(H1.out.alloc (nb n d)).call hb2
  clear hb2 y0 y1 y2 yl
  obtain⟨r0,r1,rf0,rf1⟩:=c2 h2.r
  have HF:=hid (h2.fin n2 d2)
  clear h2
  go_wp2_with fail
  obtain⟨hz,hbl⟩:=HF.out
  generalize((w2.setCell ⟨w.heap.size+1,0,none⟩ (.int .i64 n2)).setCell ⟨w.heap.size+1,1,none⟩ (.int .i64 d2))=W9 at hz hbl ⊢
  obtain⟨z0,z1,_,_⟩:=c2 hz
  exact bodyPost_ret (v := .tuple #[.agg #[.int .i64 n2,.int .i64 d2],.int .i64 z2]) (by simp[results,Tryz.results47,go_sem,z0,z1]) rfl ⟨rfl,hbl⟩
 ·have e1:(z != 0)=true:=by simpa using hz0
  have HE:Hid ((if (⟨n,d,z⟩:R3).e=0 then ap1 o ⟨n,d,z⟩ else⟨0,0,(⟨n,d,z⟩:R3).e⟩)=⟨0,0,z⟩):=hid (if_neg hz0)
  rw[HE.out]
  clear hz0 hok ho
  go_enter Tryz.func47,Tryz.ntmps47
  go_wp2_with fail
  (with_reducible refine HI.out.mono ?_)
  rintro e w1⟨rfl,hb1⟩
  have h1:=HV.out.call hb1
  have hl1:=qa7 h1.r
  obtain⟨r0,r1,rf0,rf1⟩:=c2 h1.r
  have hF:=(h1.alloc (nb n d)).fin 0 0
  rw[World.setCell_alloc_past _ _ _ _ hl1,World.setCell_alloc_past _ _ _ _ (by simpa [World.setCell] using hl1)] at hF
  have HF:=hid hF
  clear hb1 h1 hF
  go_wp2_with fail
  obtain⟨hz,hbl⟩:=HF.out
  unfold nb at hz hbl
  generalize((w1.setCell ⟨w.heap.size+1,0,none⟩ (.int .i64 0)).setCell ⟨w.heap.size+1,1,none⟩ (.int .i64 0)).alloc (.cells #[.int .i64 n,.int .i64 d] 63)=W9 at hz hbl ⊢
  obtain⟨z0,z1,_,_⟩:=c2 (n:=0) (d:=0) hz
  exact bodyPost_ret (v := .tuple #[.agg #[.int .i64 0,.int .i64 0],.int .i64 z]) (by simp[results,Tryz.results47,go_sem,z0,z1]) rfl ⟨rfl,hbl⟩
theorem qtl(o:Tok)(ho:o∈qxq)(g:Nat)(a b c a' b' c':Value)(t:TypeId)(rx ry:R3)(hok:rx.e=0→Ok rx.n rx.d)(w:World)(hc:w.heap[g]? = some (.cells #[a,b,c,a',b',c'] t))
  (IH : ∀ W,Below w.heap.size w W→Calls Tryz.prog 47 #[.agg #[a,b,c]] W fun e w'=>e=.returned (res rx)∧Below W.heap.size W w')
  (IH2 : ∀ W,Below w.heap.size w W→Calls Tryz.prog 47 #[.agg #[a',b',c']] W fun e w'=>e=.returned (res ry)∧Below W.heap.size W w') :
  Calls Tryz.prog 47 #[.agg #[sv o,.string ⟨#[]⟩,.slice (some ⟨g,0,none⟩) 2 2]] w fun e w'=>e=.returned (res (if rx.e=0 then (if ry.e=0 then ap2 o rx ry else⟨0,0,ry.e⟩) else⟨0,0,rx.e⟩))∧Below w.heap.size w w':=by
 obtain⟨n,d,z⟩:=rx
 obtain⟨m,k,y⟩:=ry
 obtain⟨RR,hRR⟩ : ∃ RR,(if (⟨n,d,z⟩:R3).e=0 then (if (⟨m,k,y⟩:R3).e=0 then ap2 o ⟨n,d,z⟩ ⟨m,k,y⟩ else⟨0,0,(⟨m,k,y⟩:R3).e⟩) else⟨0,0,(⟨n,d,z⟩:R3).e⟩)=RR:=⟨_,rfl⟩
 rw[hRR]
 have HRR:=hid hRR
 have HOK:=hid hok
 clear hRR hok
 have hne:o≠[]:=q4k o ho
 have q1:o.isEmpty=false:=by cases o;exact absurd rfl hne;rfl
 have q2:(o==[])=false:=beq_eq_false_iff_ne.2 hne
 obtain⟨x0,x1,x2,x3,x4,x5,xl⟩:=r6 hc
 have hV:=V2.new w (sv o) (.string ⟨#[]⟩) (.slice (some ⟨g,0,none⟩) 2 2)
 have HI:=hid (IH _ hV.bl)
 have HV:=hid hV
 have HJ:=hid IH2
 have HC:=hid (And.intro x3 (And.intro x4 x5))
 have hgl:=xl
 clear hc hV IH IH2 hne
 unfold res nb at HI
 unfold res at HJ
 unfold sv at HI HV ⊢
 by_cases hz0:z=0
 ·subst hz0
  have hok0:Hid (Ok n d):=hid (HOK.out rfl)
  have HE1:Hid (¬ y=0→RR=⟨0,0,y⟩):=hid fun hy=>by rw[←HRR.out,if_pos rfl,if_neg hy]
  have HE0:Hid (y=0→ap2 o ⟨n,d,0⟩ ⟨m,k,0⟩=RR):=hid fun hy=>by subst hy;rw[←HRR.out,if_pos rfl,if_pos rfl]
  clear HRR HOK
  go_enter Tryz.func47,Tryz.ntmps47
  go_wp2_with fail
  (with_reducible refine HI.out.mono ?_)
  rintro e w1⟨rfl,hb1⟩
  have h1:=HV.out.call hb1
  obtain⟨y0,y1,y2,yl⟩:=r3 h1.x
  have hl1:=qa7 h1.r
  have hz1:=h1.bl.size
  have hgl1:g<w1.heap.size:=Nat.lt_of_lt_of_le hgl hz1
  have k3:w1.cell? ⟨g,3,none⟩=some a':=(h1.bl.cell (p:=⟨g,3,none⟩) hgl).trans HC.out.1
  have k4:w1.cell? ⟨g,4,none⟩=some b':=(h1.bl.cell (p:=⟨g,4,none⟩) hgl).trans HC.out.2.1
  have k5:w1.cell? ⟨g,5,none⟩=some c':=(h1.bl.cell (p:=⟨g,5,none⟩) hgl).trans HC.out.2.2
  have hA:=h1.alloc (nb n d)
  have HJ1:=hid (HJ.out _ hA.bl)
  have HA:=hid hA
  unfold nb at HJ1
  clear hb1 h1 hA x0 x1 x2 x3 x4 x5
  go_wp2_with fail
  (with_reducible refine HJ1.out.mono ?_)
  rintro e w2⟨rfl,hb2⟩
  have h2:=HA.out.call hb2
  have p4:w2.heap[w1.heap.size]? = some (nb n d):=(hb2.block _ (by simp)).trans (nh w1 (nb n d))
  obtain⟨u0,u1,_,_⟩:=c2 p4
  have hl4:=qa7 p4
  have hl2:=qa7 h2.r
  by_cases hy0:y=0
  ·subst hy0
   have HO:=hid (q7n o ho n d m k hok0.out)
   obtain⟨n2,d2,z2,hR⟩ : ∃ n2 d2 z2,ap2 o ⟨n,d,0⟩ ⟨m,k,0⟩=⟨n2,d2,z2⟩:=⟨_,_,_,rfl⟩
   rw[hR] at HO
   have HE:Hid (RR=⟨n2,d2,z2⟩):=hid ((HE0.out rfl).symm.trans hR)
   clear HE0 HE1
   unfold res sv at HO
   obtain⟨v0,v1,v2,vl⟩:=r3 h2.x
   have H2:=hid h2
   clear hR ho hb2 h2 p4 y0 y1 y2 yl k3 k4 k5
   go_wp2_with fail
   (with_reducible refine(HO.out _).mono ?_)
   rintro e w3⟨rfl,hb3⟩
   have h3:=(H2.out.alloc (nb m k)).call hb3
   clear hb3 v0 v1 v2 vl u0 u1
   obtain⟨r0,r1,rf0,rf1⟩:=c2 h3.r
   have HF:=hid (h3.fin n2 d2)
   clear h3
   go_wp2_with fail
   obtain⟨hz,hbl⟩:=HF.out
   generalize((w3.setCell ⟨w.heap.size+1,0,none⟩ (.int .i64 n2)).setCell ⟨w.heap.size+1,1,none⟩ (.int .i64 d2))=W9 at hz hbl ⊢
   obtain⟨z0,z1,_,_⟩:=c2 hz
   exact bodyPost_ret (v := .tuple #[.agg #[.int .i64 n2,.int .i64 d2],.int .i64 z2]) (by simp[results,Tryz.results47,go_sem,z0,z1]) rfl ⟨by rw[HE.out];rfl,hbl⟩
  ·have e1:(y != 0)=true:=by simpa using hy0
   have HE:Hid (RR=⟨0,0,y⟩):=hid (HE1.out hy0)
   clear HE0 HE1
   obtain⟨r0,r1,rf0,rf1⟩:=c2 h2.r
   have hF:=(h2.alloc (nb m k)).fin 0 0
   rw[World.setCell_alloc_past _ _ _ _ hl2,World.setCell_alloc_past _ _ _ _ (by simpa [World.setCell] using hl2)] at hF
   have HF:=hid hF
   clear hb2 h2 p4 hF hy0 ho y0 y1 y2 yl k3 k4 k5 u0 u1
   go_wp2_with fail
   obtain⟨hz,hbl⟩:=HF.out
   unfold nb at hz hbl
   generalize((w2.setCell ⟨w.heap.size+1,0,none⟩ (.int .i64 0)).setCell ⟨w.heap.size+1,1,none⟩ (.int .i64 0)).alloc (.cells #[.int .i64 m,.int .i64 k] 63)=W9 at hz hbl ⊢
   obtain⟨z0,z1,_,_⟩:=c2 (n:=0) (d:=0) hz
   exact bodyPost_ret (v := .tuple #[.agg #[.int .i64 0,.int .i64 0],.int .i64 y]) (by simp[results,Tryz.results47,go_sem,z0,z1]) rfl ⟨by rw[HE.out];rfl,hbl⟩
 ·have e1:(z != 0)=true:=by simpa using hz0
  have HE:Hid (RR=⟨0,0,z⟩):=hid (HRR.out.symm.trans (if_neg hz0))
  rw[HE.out]
  clear hz0 ho
  go_enter Tryz.func47,Tryz.ntmps47
  go_wp2_with fail
  (with_reducible refine HI.out.mono ?_)
  rintro e w1⟨rfl,hb1⟩
  have h1:=HV.out.call hb1
  have hl1:=qa7 h1.r
  obtain⟨r0,r1,rf0,rf1⟩:=c2 h1.r
  have hF:=(h1.alloc (nb n d)).fin 0 0
  rw[World.setCell_alloc_past _ _ _ _ hl1,World.setCell_alloc_past _ _ _ _ (by simpa [World.setCell] using hl1)] at hF
  have HF:=hid hF
  clear hb1 h1 hF
  go_wp2_with fail
  obtain⟨hz,hbl⟩:=HF.out
  unfold nb at hz hbl
  generalize((w1.setCell ⟨w.heap.size+1,0,none⟩ (.int .i64 0)).setCell ⟨w.heap.size+1,1,none⟩ (.int .i64 0)).alloc (.cells #[.int .i64 n,.int .i64 d] 63)=W9 at hz hbl ⊢
  obtain⟨z0,z1,_,_⟩:=c2 (n:=0) (d:=0) hz
  exact bodyPost_ret (v := .tuple #[.agg #[.int .i64 0,.int .i64 0],.int .i64 z]) (by simp[results,Tryz.results47,go_sem,z0,z1]) rfl ⟨rfl,hbl⟩
theorem qgg : ∀ (x:T),x.wf → ∀ (X:Nat→Prop) (w:World) (v:Value),Rd X w x v →
  Calls Tryz.prog 47 #[v] w fun e w'=>e=.returned (res (val x))∧Below w.heap.size w w'
 | .bad,h,_,_,_,_=>absurd h (by simp[T.wf])
 | .num s,h,X,w,v,hR=>by
  obtain rfl:v=.agg #[.string ⟨#[]⟩,sv s,.slice none 0 0]:=hR
  exact qtm s h w
 | .un o x,h,X,w,v,⟨g,t,a,b,c,hv,hg,hc,hx⟩=>by
  subst hv
  exact qyb o h.1 g a b c t (val x) (val_ok x) w hc fun W hW=>qgg x h.2 X W _ (hx.below hW)
 | .bin o x y,h,X,w,v,⟨g,t,a,b,c,a',b',c',hv,hg,hc,hx,hy⟩=>by
  subst hv
  exact qtl o h.1 g a b c a' b' c' t (val x) (val y) (val_ok x) w hc (fun W hW=>qgg x h.2.1 X W _ (hx.below hW)) fun W hW=>qgg y h.2.2 X W _ (hy.below hW)
end Go.Proofs.YtldkgbnmaefaaaaGreatDoor.Fo
namespace Go.Proofs.YtldkgbnmaefaaaaGreatDoor.Fo
open Go.RowKit Go.Proofs.YtldkgbnmaefaaaaGreatDoor.Nu
set_option linter.unusedVariables false
set_option linter.unusedSimpArgs false
theorem qpi{w W:World}(hb:Below w.heap.size w W)(hr:W.heap[w.heap.size]? = some (nb 0 0))(n d:Int) :
  ((W.setCell ⟨w.heap.size,0,none⟩ (.int .i64 n)).setCell ⟨w.heap.size,1,none⟩ (.int .i64 d)).heap[w.heap.size]? = some (nb n d) ∧
  Below w.heap.size w ((W.setCell ⟨w.heap.size,0,none⟩ (.int .i64 n)).setCell ⟨w.heap.size,1,none⟩ (.int .i64 d)) :=
 ⟨s2 hr n d,(hb.setCell (p:=⟨w.heap.size,0,none⟩) (Nat.le_refl _) _).setCell (p:=⟨w.heap.size,1,none⟩) (Nat.le_refl _) _⟩
theorem qzx{w W:World}(hb:Below w.heap.size w W)(hr:W.heap[w.heap.size]? = some (nb 0 0))(n d:Int)(o:Obj) :
  (((W.setCell ⟨w.heap.size,0,none⟩ (.int .i64 n)).setCell ⟨w.heap.size,1,none⟩ (.int .i64 d)).alloc o).heap[w.heap.size]? = some (nb n d) ∧
  Below w.heap.size w (((W.setCell ⟨w.heap.size,0,none⟩ (.int .i64 n)).setCell ⟨w.heap.size,1,none⟩ (.int .i64 d)).alloc o):=by
 obtain⟨h1,h2⟩:=qpi hb hr n d
 exact⟨(Below.heap_alloc _ _ _ (qac h1)).trans h1,h2.alloc h2.size o⟩
theorem qj9(s:ByteArray)(hs : ¬ 400<s.size)(w:World)(hP : ∀ W,Calls Tryz.prog 45 #[.string s] W fun e w'=>e=.returned (.tuple #[zr,.int .i64 1])∧Below W.heap.size W w') :
  Calls Tryz.prog 32 #[.string s] w fun e w'=>e=.returned (res ⟨0,0,1⟩)∧Below w.heap.size w w':=by
 have hd:decide ((s.size:Int)>400)=false:=by rw[decide_eq_false_iff_not];omega
 have HP:=hid hP
 clear hP hs
 unfold zr at HP
 go_enter Tryz.func32,Tryz.ntmps32
 go_wp2_with fail
 (with_reducible refine(HP.out _).mono ?_)
 rintro e w1⟨rfl,hb⟩
 have hr1:w1.heap[w.heap.size]? = some (nb 0 0):=(hb.block _ (by simp)).trans (nh _ _)
 have hz1:=qac hr1
 obtain⟨q0,q1,f0,f1⟩:=c2 hr1
 obtain⟨z,zb⟩:=qzx (qap hb) hr1 0 0 (.cells #[.string ⟨#[]⟩,.string ⟨#[]⟩,.slice none 0 0] 86)
 clear hb hr1
 go_wp2_with fail
 generalize(((w1.setCell ⟨w.heap.size,0,none⟩ (.int .i64 0)).setCell ⟨w.heap.size,1,none⟩ (.int .i64 0)).alloc (.cells #[.string ⟨#[]⟩,.string ⟨#[]⟩,.slice none 0 0] 86))=W9 at z zb ⊢
 obtain⟨z0,z1,_,_⟩:=c2 z
 exact bodyPost_ret (v:=res ⟨0,0,1⟩) (by simp[results,Tryz.results32,go_sem,z0,z1,res]) rfl ⟨rfl,zb⟩
structure E2 (w:World) (g:Nat) (a b c:Value) (W:World):Prop where
 r:W.heap[w.heap.size]? = some (nb 0 0)
 x:W.heap[g]? = some (.cells #[a,b,c] 86)
 bl:Below w.heap.size w W
theorem E2.call{w W W':World}{g:Nat}{a b c:Value}(hb:Below W.heap.size W W')(h:E2 w g a b c W):E2 w g a b c W' :=
 ⟨(hb.block _ (qac h.r)).trans h.r,(hb.block _ (qac h.x)).trans h.x,h.bl.trans (hb.mono h.bl.size)⟩
theorem qx1(s:ByteArray)(hs : ¬ 400<s.size)(w:World)(T:T)(hw:T.wf)(hl:T.lv≤1000)(hP : ∀ W,Calls Tryz.prog 45 #[.string s] W fun e w' => ∃ x,e=.returned (.tuple #[x,.int .i64 0])∧Rd (W.heap.size ≤ ·) w' T x∧Below W.heap.size W w') :
  Calls Tryz.prog 32 #[.string s] w fun e w'=>e=.returned (res (if 20<T.lv then⟨0,0,17⟩ else val T))∧Below w.heap.size w w':=by
 have hd:decide ((s.size:Int)>400)=false:=by rw[decide_eq_false_iff_not];omega
 have HP:=hid hP
 have HDp:Hid (∀ (X:Nat→Prop) (W:World) (v:Value),Rd X W T v→Calls Tryz.prog 46 #[v] W fun e w'=>e=.returned (.int .i64 (T.lv:Int))∧Below W.heap.size W w'):=hid (qge T hw hl)
 have HV:Hid (∀ (X:Nat→Prop) (W:World) (v:Value),Rd X W T v→Calls Tryz.prog 47 #[v] W fun e w'=>e=.returned (res (val T))∧Below W.heap.size W w'):=hid (qgg T hw)
 obtain⟨n,d,z,hR⟩ : ∃ n d z,val T=⟨n,d,z⟩:=⟨_,_,_,rfl⟩
 rw[hR] at HV ⊢
 unfold res at HV
 obtain⟨RR,hRR⟩ : ∃ RR,(if 20<T.lv then (⟨0,0,17⟩:R3) else⟨n,d,z⟩)=RR:=⟨_,rfl⟩
 rw[hRR]
 have HRR:=hid hRR
 have HL:=hid hl
 clear hP hs hR hw hl hRR
 go_enter Tryz.func32,Tryz.ntmps32
 go_wp2_with fail
 (with_reducible refine(HP.out _).mono ?_)
 rintro e w1⟨x,rfl,hx,hb⟩
 obtain⟨o1,t1,A1,k1,d1,rfl⟩:=hx.form
 have hr1:w1.heap[w.heap.size]? = some (nb 0 0):=(hb.block _ (by simp)).trans (nh _ _)
 have hz1:=qac hr1
 have hA:E2 w w1.heap.size (.string o1) (.string t1) (.slice A1 k1 d1) (w1.alloc (bx (.string o1) (.string t1) (.slice A1 k1 d1))):=⟨(Below.heap_alloc _ _ _ hz1).trans hr1,qaj _ _,(qap hb).alloc (qap hb).size _⟩
 have hx1:=hx.below ((Below.refl _ w1).alloc (Nat.le_refl _) (bx (.string o1) (.string t1) (.slice A1 k1 d1)))
 have HX:=hid hx1
 have HA:=hid hA
 have HD1:=hid (HDp.out _ _ _ hx1)
 clear hb hr1 hA hx hx1 HDp
 go_wp2_with fail
 (with_reducible refine HD1.out.mono ?_)
 rintro e w2⟨rfl,hb2⟩
 have h2:=HA.out.call hb2
 obtain⟨r0,r1,f0,f1⟩:=c2 h2.r
 obtain⟨x0,x1,x2,xl⟩:=r3 h2.x
 have hz2:=qac h2.r
 have HX2:=hid (HX.out.below hb2)
 have H2:=hid h2
 clear hb2 h2
 by_cases hlv:20<T.lv
 ·have hd2:decide ((T.lv:Int)>20)=true:=by rw[decide_eq_true_iff];omega
  have HE:Hid (RR=⟨0,0,17⟩):=hid (HRR.out.symm.trans (if_pos hlv))
  obtain⟨z,zb⟩:=qpi H2.out.bl H2.out.r 0 0
  clear hlv x0 x1 x2 xl
  go_wp2_with fail
  generalize((w2.setCell ⟨w.heap.size,0,none⟩ (.int .i64 0)).setCell ⟨w.heap.size,1,none⟩ (.int .i64 0))=W9 at z zb ⊢
  obtain⟨z0,z1,_,_⟩:=c2 z
  exact bodyPost_ret (v:=res ⟨0,0,17⟩) (by simp[results,Tryz.results32,go_sem,z0,z1,res]) rfl ⟨by rw[HE.out],zb⟩
 ·have hd2:decide ((T.lv:Int)>20)=false:=by rw[decide_eq_false_iff_not];omega
  have HE:Hid (RR=⟨n,d,z⟩):=hid (HRR.out.symm.trans (if_neg hlv))
  have HV2:=hid (HV.out _ _ _ HX2.out)
  clear hlv HV
  go_wp2_with fail
  (with_reducible refine HV2.out.mono ?_)
  rintro e w3⟨rfl,hb3⟩
  have h3:=H2.out.call hb3
  obtain⟨r0,r1,rf0,rf1⟩:=c2 h3.r
  have hz3:=qac h3.r
  have HF:=hid (qpi h3.bl h3.r n d)
  clear hb3 h3 x0 x1 x2 xl
  go_wp2_with fail
  obtain⟨hz,hbl⟩:=HF.out
  generalize((w3.setCell ⟨w.heap.size,0,none⟩ (.int .i64 n)).setCell ⟨w.heap.size,1,none⟩ (.int .i64 d))=W9 at hz hbl ⊢
  obtain⟨z0,z1,_,_⟩:=c2 hz
  exact bodyPost_ret (v:=res ⟨n,d,z⟩) (by simp[results,Tryz.results32,go_sem,z0,z1,res]) rfl ⟨by rw[HE.out],hbl⟩
theorem qru(s:ByteArray)(hs:400<s.size)(w:World):Calls Tryz.prog 32 #[.string s] w fun e w'=>e=.returned (res ⟨0,0,3⟩)∧Below w.heap.size w w':=by
 have hd:decide ((s.size:Int)>400)=true:=by rw[decide_eq_true_iff];omega
 clear hs
 go_enter Tryz.func32,Tryz.ntmps32
 go_wp2
 exact bodyPost_ret (v:=res ⟨0,0,3⟩) (by simp[results,Tryz.results32,go_sem,res]) rfl ⟨rfl,(Below.refl _ w).alloc (Nat.le_refl _) _⟩
theorem qm2(s:ByteArray)(w:World):Calls Tryz.prog 32 #[.string s] w fun e w'=>e=.returned (res (ev s.data.toList))∧Below w.heap.size w w':=by
 have hsz:s.data.toList.length=s.size:=rfl
 by_cases h4:400<s.size
 ·rw[show ev s.data.toList=⟨0,0,3⟩ by unfold ev;rw[if_pos (by omega)]]
  exact qru s h4 w
 ·cases hq:qcy s.data.toList with
  |none =>
   rw[show ev s.data.toList=⟨0,0,1⟩ by unfold ev;rw[if_neg (by omega),hq]]
   exact qj9 s h4 w fun W=>qrr s (by omega) W hq
  |some l =>
   obtain⟨hl1,hl2⟩:=qg6 hq
   rw[show ev s.data.toList=evT l by unfold ev;rw[if_neg (by omega),hq]]
   cases hB:qn3 l with
   |false =>
    rw[show evT l=⟨0,0,1⟩ by unfold evT;rw[qfv] at hB;rw[if_neg (by simpa using hB)]]
    exact qj9 s h4 w fun W=>qs6 s (by omega) W l hq hB
   |true =>
    have hB2:(top l).b=false∧(top l).r=[]:=by rw[qfv] at hB;simpa using hB
    rw[show evT l=(if 20<(top l).t.lv then⟨0,0,17⟩ else val (top l).t) by unfold evT;rw[if_pos hB2]]
    exact qx1 s h4 w (top l).t (q2l hl2 hB2.1) (by have:=q2k l;omega) fun W=>qxv s (by omega) W l hq hB
end Go.Proofs.YtldkgbnmaefaaaaGreatDoor.Fo
