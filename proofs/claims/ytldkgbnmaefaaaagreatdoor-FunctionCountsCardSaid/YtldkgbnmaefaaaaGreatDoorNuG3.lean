import Derived.Test.YtldkgbnmaefaaaaGreatDoorNuG2
import Derived.Test.YtldkgbnmaefaaaaGreatDoorShelf
import Derived.Lib.AppendIntMem
import Derived.Laws.BytesString
import Derived.Laws.Concat
import Derived.Deep.RegionHeld3
import Derived.Laws.StructEq
set_option maxRecDepth 100000
set_option maxHeartbeats 4000000
open Go.Lib (hid)
namespace Go.Proofs.YtldkgbnmaefaaaaGreatDoor.Nu
open Go.RowKit
theorem qdy(W:World)(c:Array Value)(t:TypeId)(i:Nat)(v:Value)(hv:c[i]? = some v):(W.alloc (.cells c t)).cell? ⟨W.heap.size,i,none⟩=some v:=by simp[hv]
theorem xbs(w W:World)(i:Nat)(u v:Value):((W.setCell ⟨w.heap.size+1+1,0,none⟩ u).setCell ⟨w.heap.size+1+1,1,none⟩ v).cell? ⟨w.heap.size,i,none⟩=W.cell? ⟨w.heap.size,i,none⟩ :=
 (((Below.refl (w.heap.size+1+1) W).setCell (p:=⟨w.heap.size+1+1,0,none⟩) (Nat.le_refl _) u).setCell (p:=⟨w.heap.size+1+1,1,none⟩) (Nat.le_refl _) v).cell (p:=⟨w.heap.size,i,none⟩) (show w.heap.size<w.heap.size+1+1 by omega)
theorem xbt(w W:World)(i:Nat)(u v:Value):((W.setCell ⟨w.heap.size+1+1,0,none⟩ u).setCell ⟨w.heap.size+1+1,1,none⟩ v).cell? ⟨w.heap.size+1,i,none⟩=W.cell? ⟨w.heap.size+1,i,none⟩ :=
 (((Below.refl (w.heap.size+1+1) W).setCell (p:=⟨w.heap.size+1+1,0,none⟩) (Nat.le_refl _) u).setCell (p:=⟨w.heap.size+1+1,1,none⟩) (Nat.le_refl _) v).cell (p:=⟨w.heap.size+1,i,none⟩) (show w.heap.size+1<w.heap.size+1+1 by omega)
theorem qy2{w w1 w2:World}{A B:Array Value}{s t:TypeId}{R:Obj}(hb:Below (((w.alloc (.cells A s)).alloc (.cells B t)).alloc R).heap.size (((w.alloc (.cells A s)).alloc (.cells B t)).alloc R) w1)(hb2:Below w1.heap.size w1 w2) :
  (∀ (i:Nat) (v:Value),A[i]? = some v→w2.cell? ⟨w.heap.size,i,none⟩=some v)∧(∀ (i:Nat) (v:Value),B[i]? = some v→w2.cell? ⟨w.heap.size+1,i,none⟩=some v):=by
 obtain⟨z0,z1,z2⟩:=qbp hb
 have sA:((w.alloc (.cells A s)).heap.size)=w.heap.size+1:=by simp
 have sB:(((w.alloc (.cells A s)).alloc (.cells B t)).heap.size)=w.heap.size+1+1:=by simp
 have sR:((((w.alloc (.cells A s)).alloc (.cells B t)).alloc R).heap.size)=w.heap.size+1+1+1:=by simp
 refine⟨fun i v h => ?_,fun i v h => ?_⟩
 ·have h0:=qdy w A s i v h
  have h1:=(((Below.refl (w.alloc (.cells A s)).heap.size (w.alloc (.cells A s))).alloc (Nat.le_refl _) (.cells B t)).cell (p:=⟨w.heap.size,i,none⟩) (show w.heap.size<_ by omega)).trans h0
  have h2:=(((Below.refl ((w.alloc (.cells A s)).alloc (.cells B t)).heap.size ((w.alloc (.cells A s)).alloc (.cells B t))).alloc (Nat.le_refl _) R).cell (p:=⟨w.heap.size,i,none⟩) (show w.heap.size<_ by omega)).trans h1
  exact(hb2.cell (p:=⟨w.heap.size,i,none⟩) z0).trans ((hb.cell (p:=⟨w.heap.size,i,none⟩) (show w.heap.size<_ by omega)).trans h2)
 ·have h1:=qdy (w.alloc (.cells A s)) B t i v h
  rw[sA] at h1
  have h2:=(((Below.refl ((w.alloc (.cells A s)).alloc (.cells B t)).heap.size ((w.alloc (.cells A s)).alloc (.cells B t))).alloc (Nat.le_refl _) R).cell (p:=⟨w.heap.size+1,i,none⟩) (show w.heap.size+1<_ by omega)).trans h1
  exact(hb2.cell (p:=⟨w.heap.size+1,i,none⟩) z1).trans ((hb.cell (p:=⟨w.heap.size+1,i,none⟩) (show w.heap.size+1<_ by omega)).trans h2)
theorem qx0(a p b q:Int)(w:World) :
  Calls Tryz.prog 159 #[.agg #[.int .i64 a,.int .i64 p],.agg #[.int .i64 b,.int .i64 q]] w fun e w'=>e=.returned (.tuple #[.agg #[.int .i64 (div a p b q).n,.int .i64 (div a p b q).d],.int .i64 (div a p b q).e])∧Below w.heap.size w w':=by
 cases h1:okB a p
 ·have HA:Hid (div a p b q=⟨0,0,7⟩):=hid (by unfold div;rw[h1];rfl)
  have V1:=hid h1;clear h1
  go_enter Tryz.func159,Tryz.ntmps159
  go_wp2_with fail
  refine(qbe V1.out _).mono ?_
  rintro e w1⟨rfl,hb⟩
  obtain⟨hc,hf⟩:=qad hb
  have HB:=hid (qav hb)
  go_wp2
  exact bodyPost_ret (v := .tuple #[.agg #[.int .i64 0,.int .i64 0],.int .i64 7]) (by simp[results,Tryz.results159,go_sem,hc]) rfl ⟨by rw[HA.out],qc7 HB.out _ _⟩
 ·cases h2:okB b q
  ·have HA:Hid (div a p b q=⟨0,0,7⟩):=hid (by unfold div;rw[h1,h2];rfl)
   have V1:=hid h1;clear h1
   have V2:=hid h2;clear h2
   go_enter Tryz.func159,Tryz.ntmps159
   go_wp2_with fail
   refine(qal V1.out _).mono ?_
   rintro e w1⟨rfl,hb⟩
   obtain⟨hc,hf⟩:=qad hb
   obtain⟨z0,z1,z2⟩:=qbp hb
   have HB:=hid (qav hb)
   go_wp2_with fail
   refine(qbe V2.out _).mono ?_
   rintro e w2⟨rfl,hb2⟩
   obtain⟨hc2,hf2⟩:=qad hb2
   have HB2:=hid (HB.out.trans (hb2.mono HB.out.size))
   go_wp2
   exact bodyPost_ret (v := .tuple #[.agg #[.int .i64 0,.int .i64 0],.int .i64 7]) (by simp[results,Tryz.results159,go_sem,hc,hc2,z2]) rfl ⟨by rw[HA.out],qc7 HB2.out _ _⟩
  ·by_cases hz:b=0
   ·subst hz
    have HA:Hid (div a p 0 q=⟨0,0,16⟩):=hid (by unfold div;rw[h1,h2];rfl)
    have V1:=hid h1;clear h1
    have V2:=hid h2;clear h2
    go_enter Tryz.func159,Tryz.ntmps159
    go_wp2_with fail
    refine(qal V1.out _).mono ?_
    rintro e w1⟨rfl,hb⟩
    obtain⟨hc,hf⟩:=qad hb
    obtain⟨z0,z1,z2⟩:=qbp hb
    have HB:=hid (qav hb)
    go_wp2_with fail
    refine(qal V2.out _).mono ?_
    rintro e w2⟨rfl,hb2⟩
    obtain⟨hc2,hf2⟩:=qad hb2
    obtain⟨y0,y1,y2⟩:=qdj z2 hb2
    have HB2:=hid (HB.out.trans (hb2.mono HB.out.size))
    go_wp2
    exact bodyPost_ret (v := .tuple #[.agg #[.int .i64 0,.int .i64 0],.int .i64 16]) (by simp[results,Tryz.results159,go_sem,hc,hc2,z2]) rfl ⟨by rw[HA.out],qc7 HB2.out _ _⟩
   ·have hP:=qjk h1 h2
    have HA:Hid (div a p b q=fit (a*q) (p*b)):=hid (by unfold div;rw[h1,h2];simp[hz])
    have q1:=hP.aq;have q2:=hP.bp;have q3:=hP.pq;have q4:=hP.pb;have q5:=hP.pq1
    have hne:b*p≠0:=qkm hz (qan.1 h1).ne
    have hne2:p*b≠0:=qkm (qan.1 h1).ne hz
    have hz0:(b==0)=false:=by simpa using hz
    have e0:IntKind.i64.wrap (a*q)=a*q:=IntWalk.i64_in _ (by omega)
    have e1:IntKind.i64.wrap (p*b)=p*b:=IntWalk.i64_in _ (by omega)
    have HZ:=hid hz;have HN:=hid hne;have HN2:=hid hne2
    have V1:=hid h1
    have V2:=hid h2
    clear h1 h2 hz hP hne hne2
    go_enter Tryz.func159,Tryz.ntmps159
    go_wp2_with fail
    refine(qal V1.out _).mono ?_
    rintro e w1⟨rfl,hb⟩
    obtain⟨hc,hf⟩:=qad hb
    obtain⟨z0,z1,z2⟩:=qbp hb
    have HB:=hid (qav hb)
    go_wp2_with fail
    refine(qal V2.out _).mono ?_
    rintro e w2⟨rfl,hb2⟩
    obtain⟨hc2,hf2⟩:=qad hb2
    obtain⟨y0,y1,y2⟩:=qdj z2 hb2
    have HB2:=hid (HB.out.trans (hb2.mono HB.out.size))
    go_wp2_with fail
    refine(qcc (a*q) (p*b) _ (by omega) (by omega) HN2.out).mono ?_
    rintro e w3⟨rfl,hb3⟩
    obtain⟨hc3,hf3⟩:=qad hb3
    have HB3:=hid (HB2.out.trans (hb3.mono HB2.out.size))
    go_wp2
    exact bodyPost_ret (v := .tuple #[.agg #[.int .i64 (fit (a*q) (p*b)).n,.int .i64 (fit (a*q) (p*b)).d],.int .i64 (fit (a*q) (p*b)).e]) (by simp[results,Tryz.results159,go_sem,hc,hc2,hc3,z2,y2]) rfl ⟨by rw[HA.out],qc7 HB3.out _ _⟩
theorem qx3(a p b q:Int)(w:World) :
  Calls Tryz.prog 160 #[.agg #[.int .i64 a,.int .i64 p],.agg #[.int .i64 b,.int .i64 q]] w fun e w'=>e=.returned (.tuple #[.agg #[.int .i64 (mod a p b q).n,.int .i64 (mod a p b q).d],.int .i64 (mod a p b q).e])∧Below w.heap.size w w':=by
 cases h1:okB a p
 ·have HA:Hid (mod a p b q=⟨0,0,7⟩):=hid (by unfold mod;rw[h1];rfl)
  have V1:=hid h1;clear h1
  go_enter Tryz.func160,Tryz.ntmps160
  go_wp2_with fail
  refine(qbe V1.out _).mono ?_
  rintro e w1⟨rfl,hb⟩
  obtain⟨hc,hf⟩:=qad hb
  have HB:=hid (qav hb)
  go_wp2
  exact bodyPost_ret (v := .tuple #[.agg #[.int .i64 0,.int .i64 0],.int .i64 7]) (by simp[results,Tryz.results160,go_sem,hc]) rfl ⟨by rw[HA.out],qc7 HB.out _ _⟩
 ·cases h2:okB b q
  ·have HA:Hid (mod a p b q=⟨0,0,7⟩):=hid (by unfold mod;rw[h1,h2];rfl)
   have V1:=hid h1;clear h1
   have V2:=hid h2;clear h2
   go_enter Tryz.func160,Tryz.ntmps160
   go_wp2_with fail
   refine(qal V1.out _).mono ?_
   rintro e w1⟨rfl,hb⟩
   obtain⟨hc,hf⟩:=qad hb
   obtain⟨z0,z1,z2⟩:=qbp hb
   have HB:=hid (qav hb)
   go_wp2_with fail
   refine(qbe V2.out _).mono ?_
   rintro e w2⟨rfl,hb2⟩
   obtain⟨hc2,hf2⟩:=qad hb2
   have HB2:=hid (HB.out.trans (hb2.mono HB.out.size))
   go_wp2
   exact bodyPost_ret (v := .tuple #[.agg #[.int .i64 0,.int .i64 0],.int .i64 7]) (by simp[results,Tryz.results160,go_sem,hc,hc2,z2]) rfl ⟨by rw[HA.out],qc7 HB2.out _ _⟩
  ·by_cases hz:b=0
   ·subst hz
    have HA:Hid (mod a p 0 q=⟨0,0,16⟩):=hid (by unfold mod;rw[h1,h2];rfl)
    have V1:=hid h1;clear h1
    have V2:=hid h2;clear h2
    go_enter Tryz.func160,Tryz.ntmps160
    go_wp2_with fail
    refine(qal V1.out _).mono ?_
    rintro e w1⟨rfl,hb⟩
    obtain⟨hc,hf⟩:=qad hb
    obtain⟨z0,z1,z2⟩:=qbp hb
    have HB:=hid (qav hb)
    go_wp2_with fail
    refine(qal V2.out _).mono ?_
    rintro e w2⟨rfl,hb2⟩
    obtain⟨hc2,hf2⟩:=qad hb2
    obtain⟨y0,y1,y2⟩:=qdj z2 hb2
    have HB2:=hid (HB.out.trans (hb2.mono HB.out.size))
    go_wp2
    exact bodyPost_ret (v := .tuple #[.agg #[.int .i64 0,.int .i64 0],.int .i64 16]) (by simp[results,Tryz.results160,go_sem,hc,hc2,z2]) rfl ⟨by rw[HA.out],qc7 HB2.out _ _⟩
   ·have hP:=qjk h1 h2
    have HA:Hid (mod a p b q=fit (Int.fmod (a*q) (b*p)) (p*q)):=hid (by unfold mod;rw[h1,h2];simp[hz])
    have q1:=hP.aq;have q2:=hP.bp;have q3:=hP.pq;have q4:=hP.pb;have q5:=hP.pq1
    have hne:b*p≠0:=qkm hz (qan.1 h1).ne
    have hne2:p*b≠0:=qkm (qan.1 h1).ne hz
    have hz0:(b==0)=false:=by simpa using hz
    have e0:IntKind.i64.wrap (a*q)=a*q:=IntWalk.i64_in _ (by omega)
    have e1:IntKind.i64.wrap (b*p)=b*p:=IntWalk.i64_in _ (by omega)
    have e2:IntKind.i64.wrap (p*q)=p*q:=IntWalk.i64_in _ (by omega)
    have hm:=qui (a*q) hne
    have hm2:(Int.fmod (a*q) (b*p)).natAbs≤4000000000000000000:=by omega
    have HM:=hid hm2
    clear hm hm2
    have HZ:=hid hz;have HN:=hid hne;have HN2:=hid hne2
    have V1:=hid h1
    have V2:=hid h2
    clear h1 h2 hz hP hne hne2
    go_enter Tryz.func160,Tryz.ntmps160
    go_wp2_with fail
    refine(qal V1.out _).mono ?_
    rintro e w1⟨rfl,hb⟩
    obtain⟨hc,hf⟩:=qad hb
    obtain⟨z0,z1,z2⟩:=qbp hb
    have HB:=hid (qav hb)
    go_wp2_with fail
    refine(qal V2.out _).mono ?_
    rintro e w2⟨rfl,hb2⟩
    obtain⟨hc2,hf2⟩:=qad hb2
    obtain⟨y0,y1,y2⟩:=qdj z2 hb2
    have HB2:=hid (HB.out.trans (hb2.mono HB.out.size))
    have k0:w2.cell? ⟨w.heap.size,0,none⟩=some (.int .i64 a):=(qy2 hb hb2).1 0 _ rfl
    have k1:w2.cell? ⟨w.heap.size,1,none⟩=some (.int .i64 p):=(qy2 hb hb2).1 1 _ rfl
    have k2:w2.cell? ⟨w.heap.size+1,0,none⟩=some (.int .i64 b):=(qy2 hb hb2).2 0 _ rfl
    have k3:w2.cell? ⟨w.heap.size+1,1,none⟩=some (.int .i64 q):=(qy2 hb hb2).2 1 _ rfl
    go_wp2
    go_region_held3 (fun W=>W.cell? ⟨w.heap.size,0,none⟩=some (.int .i64 a)∧W.cell? ⟨w.heap.size,1,none⟩=some (.int .i64 p)∧W.cell? ⟨w.heap.size+1,0,none⟩=some (.int .i64 b)∧W.cell? ⟨w.heap.size+1,1,none⟩=some (.int .i64 q)) (first | exact⟨k0,k1,k2,k3⟩ | exact⟨(hc3 _ _ y0).trans k0,(hc3 _ _ y0).trans k1,(hc3 _ _ y1).trans k2,(hc3 _ _ y1).trans k3⟩ | exact⟨(xbs w w3 0 _ _).trans ((hc3 _ _ y0).trans k0),(xbs w w3 1 _ _).trans ((hc3 _ _ y0).trans k1),(xbt w w3 0 _ _).trans ((hc3 _ _ y1).trans k2),(xbt w w3 1 _ _).trans ((hc3 _ _ y1).trans k3)⟩)
     (first | (go_at_call 210;refine(qna (a*q) (b*p) _ (by omega) HN.out).mono ?_;rintro e w' ⟨rfl,rfl⟩) | (go_at_call 151;refine(qcc (Int.fmod (a*q) (b*p)) (p*q) _ HM.out (by omega) (by omega)).mono ?_;rintro e w3 ⟨rfl,hb3⟩;obtain⟨hc3,hf3⟩:=qdx (W:=w2) (n:=1) hb3))
    have HB3:=hid ((below_drewN HB2.out 1).trans (hb3.mono (below_drewN HB2.out 1).size))
    go_wp2
    exact bodyPost_ret (v := .tuple #[.agg #[.int .i64 (fit (Int.fmod (a*q) (b*p)) (p*q)).n,.int .i64 (fit (Int.fmod (a*q) (b*p)) (p*q)).d],.int .i64 (fit (Int.fmod (a*q) (b*p)) (p*q)).e]) (by simp[results,Tryz.results160,go_sem,hc,hc2,hc3,z2,y2]) rfl ⟨by rw[HA.out],qc7 HB3.out _ _⟩
end Go.Proofs.YtldkgbnmaefaaaaGreatDoor.Nu
namespace Go.Proofs.YtldkgbnmaefaaaaGreatDoor.Nu
open Go.RowKit
theorem qb5{W:World}{p:Addr}{v:Value}(h:W.cell? p=some v):p.block<W.heap.size:=by
 rcases Nat.lt_or_ge p.block W.heap.size with h1 | h1
 ·exact h1
 ·unfold World.cell? at h
  rw[Array.getElem?_eq_none h1] at h
  simp at h
structure Tb (w:World):Prop where
 tab:Lib.TabIs Tryz.prog w "internal/strconv.uint64pow10" .u64 Lib.pow10Tab
 ml : ∃ m:Int,w.cell? ⟨3,0,none⟩=some (.int .i64 m)
theorem Tb.below{w w':World}(h:Tb w)(hb:Below w.heap.size w w'):Tb w' :=
 ⟨Lib.tabBelow_of_tabIs h.tab w' hb,by obtain⟨m,hm⟩:=h.ml;exact⟨m,(hb.cell (p:=⟨3,0,none⟩) (qb5 hm)).trans hm⟩⟩
theorem qdk(n:Int)(w:World)(h:n.natAbs≤4611686018427387904)(ht:Tb w):Calls Tryz.prog 107 #[.int .i64 n] w fun e w'=>e=.returned (.string ⟨(Lib.itoa n).toArray⟩)∧Below w.heap.size w w' :=
 (Tryz.strconv_Itoa n (by omega) (by omega) w ht.tab).mono fun _ _ ⟨he,k,os,hw⟩=>⟨he,by subst hw;exact Lib.below_grow _ w (Nat.le_refl _) k os⟩
theorem qle(W:World)(b:Nat)(n:Int)(h:W.cell? ⟨b,0,none⟩=some (.int .u8 n)):(convert 43 9 (.slice (some ⟨b,0,none⟩) 1 1)).run Tryz.prog W=.ok (.string ⟨#[UInt8.ofNat n.toNat]⟩) W:=by
 have hl:(loadCells ⟨b,0,none⟩ 1).run Tryz.prog W=.ok ([n].map (Value.int .u8)).toArray W:=by
  simp[loadCells,go_sem,h]
 rw[run_convert_bytes_string W 43 9 5 _ 1 1 Tryz.underlying43 Tryz.underlying5 Tryz.underlying9,run_bytesToString W ⟨b,0,none⟩ 1 1 [n] hl]
 rfl
theorem qgm(w:World)(u:Nat):(convert 43 9 (.slice (some ⟨w.heap.size,0,none⟩) 1 1)).run Tryz.prog (w.alloc (.cells #[.int .u8 (48+(u:Int)%10)] 5))=.ok (.string ⟨#[UInt8.ofNat (48+u%10)]⟩) (w.alloc (.cells #[.int .u8 (48+(u:Int)%10)] 5)):=by
 rw[qle _ _ (48+(u:Int)%10) (by simp),show(48+(u:Int)%10).toNat=48+u%10 by omega]
theorem qoe(l:List UInt8)(c:UInt8):(⟨l.toArray⟩:ByteArray)++⟨#[c]⟩=⟨(l++[c]).toArray⟩:=by
 apply ByteArray.ext;apply Array.ext';simp
theorem qgp{u:Nat}(h:u≤4611686018427387904):(Lib.decDigits u).length≤19:=(pad 19 u (by omega) (Nat.lt_of_le_of_lt h (by decide))).1
theorem qk1 : ∀ (u:Nat) (w:World),u≤4611686018427387904→Calls Tryz.prog 20 #[.int .i64 (u:Int)] w fun e w'=>e=.returned (.string ⟨(Lib.decDigits u).toArray⟩)∧Below w.heap.size w w':=by
 intro u
 induction u using Nat.strongRecOn with
 | _ u ih =>
  intro w hu
  have hm:0≤(u:Int)%10∧(u:Int)%10≤9:=by omega
  obtain⟨m0,m1⟩:=hm
  by_cases h:u<10
  ·have hd:decide ((u:Int)<10)=true:=by rw[decide_eq_true_iff];omega
   have HD:=hid (qcg h)
   have hcv:=qgm w u
   have HM:=hid (Nat.mod_eq_of_lt h)
   clear h ih
   go_enter Tryz.func20,Tryz.ntmps20
   go_wp2
   go_ret
   exact⟨qa4 (by rw[HD.out];simp[HM.out]),(Below.refl _ _).alloc (Nat.le_refl _) _⟩
  ·have hd:decide ((u:Int)<10)=false:=by rw[decide_eq_false_iff_not];omega
   have HD:=hid (qe2 (x:=u) (by omega))
   have hcv:=qgm w u
   have IH:=ih (u / 10) (by omega) (w.alloc (.cells #[.int .u8 (48+(u:Int)%10)] 5)) (by omega)
   rw[show((u / 10:Nat):Int)=(u:Int) / 10 by omega] at IH
   have HI:=hid IH
   have hl:=qgp (u:=u / 10) (by omega)
   clear h ih IH
   go_enter Tryz.func20,Tryz.ntmps20
   go_wp2_with fail
   refine HI.out.mono ?_
   rintro e w1⟨rfl,hb⟩
   go_wp2
   go_ret
   exact⟨qa4 (by rw[HD.out,←qoe];simp),qap hb⟩
theorem qb3(n:Int)(w:World)(h:n.natAbs≤4611686018427387904):Calls Tryz.prog 20 #[.int .i64 n] w fun e w'=>e=.returned (.string ⟨(Lib.itoa n).toArray⟩)∧Below w.heap.size w w':=by
 by_cases hn:n<0
 ·have hi:Lib.itoa n=45 :: Lib.decDigits n.natAbs:=by unfold Lib.itoa;rw[if_pos hn]
  have HI:=hid hi;clear hi
  have HD:=hid (qk1 n.natAbs w h)
  rw[show((n.natAbs:Nat):Int) = -n by omega] at HD
  have hl:=qgp h
  have e1:IntKind.i64.wrap (-n) = -n:=IntWalk.i64_in _ (by omega)
  go_enter Tryz.func20,Tryz.ntmps20
  go_wp2_with fail
  refine HD.out.mono ?_
  rintro e w1⟨rfl,hb⟩
  go_wp2
  go_ret
  exact⟨qa4 (by rw[HI.out];apply ByteArray.ext;apply Array.ext';simp),hb⟩
 ·have hi:Lib.itoa n=Lib.decDigits n.toNat:=by unfold Lib.itoa;rw[if_neg hn]
  have HD:=qk1 n.toNat w (by omega)
  rw[show((n.toNat:Nat):Int)=n by omega,←hi] at HD
  exact HD
end Go.Proofs.YtldkgbnmaefaaaaGreatDoor.Nu
namespace Go.Proofs.YtldkgbnmaefaaaaGreatDoor.Nu
open Go.RowKit
def itS(n:Int):ByteArray:=⟨(Lib.itoa n).toArray⟩
theorem qgt(n:Int):(itS n).data.toList=Lib.itoa n:=rfl
theorem qcs(u:Nat):Lib.itoa (u:Int)=Lib.decDigits u:=by unfold Lib.itoa;rw[if_neg (by omega),Int.toNat_natCast]
theorem qdc{n:Int}(h:n.natAbs≤4611686018427387904):1≤(itS n).size∧(itS n).size≤20:=by
 have e:(itS n).size=(Lib.itoa n).length:=rfl
 rw[e]
 unfold Lib.itoa
 split
 ·have:=qgp h;simp;omega
 ·have:=qgp (u:=n.toNat) (by omega);have:=qf3 n.toNat;omega
theorem qfw(n:Int)(w:World)(h:n.natAbs≤4611686018427387904)(ht:Tb w):Calls Tryz.prog 107 #[.int .i64 n] w fun e w'=>e=.returned (.string (itS n))∧Below w.heap.size w w':=qdk n w h ht
theorem qd1(n:Int)(w:World)(h:n.natAbs≤4611686018427387904):Calls Tryz.prog 20 #[.int .i64 n] w fun e w'=>e=.returned (.string (itS n))∧Below w.heap.size w w':=qb3 n w h
def qjd(n d:Int)(k:Nat):ByteArray:=⟨(qsz n d k).toArray⟩
def vv(n d:Int)(k:Nat):Nat:=n.natAbs*(10^k / d.toNat)
theorem qc9{a b:ByteArray}(h:a.data.toList=b.data.toList):a=b:=by apply ByteArray.ext;apply Array.ext';exact h
theorem qbh(a b:ByteArray):(a++b).data.toList=a.data.toList++b.data.toList:=by simp
theorem qgk(v:Nat):itS (v:Int)=⟨(body v 0).toArray⟩:=by
 apply qc9;rw[qgt,qcs];simp[body]
theorem qiz(v k:Nat)(hk:1≤k)(q:ByteArray)(hq:q.data.toList=qg9 k (v%10^k)):itS ((v / 10^k:Nat):Int)++(⟨#[46]⟩++q)=⟨(body v k).toArray⟩:=by
 apply qc9
 rw[qbh,qbh,qgt,qcs,hq]
 simp[body,show k≠0 by omega]
theorem qrb(v k:Nat):((itS (((10^k+v%10^k:Nat)):Int)).extract 1 (itS (((10^k+v%10^k:Nat)):Int)).size).data.toList=qg9 k (v%10^k):=by
 rw[Lib.extract_to_end,qgt,qcs,qt4 k _ (Nat.mod_lt _ (Nat.pow_pos (by decide)))];rfl
theorem qmn(n:Int)(w:World)(h:n.natAbs≤1000000000):Calls Tryz.prog 228 #[.int .i64 n] w fun e w'=>e=.returned (.int .i64 (n.natAbs:Int)) ∧ ∃ k,w'=w.drewN k :=
 (qmm n w (by omega) (by omega)).mono fun _ _ ⟨he,hw⟩=>⟨he,0,hw.symm⟩
theorem q0c{w w1:World}{A:Obj}{n:Nat}(hb:Below ((w.alloc A).drewN n).heap.size ((w.alloc A).drewN n) w1):w.heap.size<w1.heap.size:=by
 have:=hb.size;simp at this;omega
structure Mid (n d:Int) (k:Nat) (v:Nat):Prop where
 P:pw k=((10^k:Nat):Int)
 q0:0≤pw k / d
 mul:(n.natAbs:Int)*(pw k / d)=(v:Int)
 le:v≤1000000000000000000
theorem q1s{n d:Int}{k:Nat}(hk:k≤9)(h:okB n d=true):Mid n d k (vv n d k):=by
 have hO:=qan.1 h
 have h1:=hO.n1;have h2:=hO.n2;have h3:=hO.d1
 obtain⟨p1,p2⟩:=qf7 hk
 have hq:pw k / d=((10^k / d.toNat:Nat):Int):=by
  rw[qg2,Int.natCast_ediv,Int.toNat_of_nonneg (show 0≤d by omega)]
 refine⟨qg2 k,Int.ediv_nonneg (by omega) (by omega),?_,?_⟩
 ·rw[hq];unfold vv;rw[Int.natCast_mul]
 ·unfold vv
  have e2:10^k≤10^9:=Nat.pow_le_pow_right (by decide) hk
  have e1:10^k / d.toNat≤1000000000:=Nat.le_trans (Nat.div_le_self _ _) e2
  exact Nat.mul_le_mul (show n.natAbs≤1000000000 by omega) e1
theorem qei(n d:Int)(k:Nat)(w:World)(hk:k≤9)(h:okB n d=true)(ht:Tb w) :
  Calls Tryz.prog 183 #[.agg #[.int .i64 n,.int .i64 d],.int .i64 (k:Int)] w fun e w'=>e=.returned (.string (qjd n d k))∧Below w.heap.size w w':=by
 have hM:=q1s hk h
 have hO:=qan.1 h
 have h1:=hO.n1;have h2:=hO.n2;have h3:=hO.d1
 obtain⟨p1,p2⟩:=qf7 hk
 have hN:qjd n d k=⟨(qsz n d k).toArray⟩:=rfl
 have hN2:qsz n d k=(if n<0 then [45] else [])++body (vv n d k) k:=rfl
 obtain⟨v,hv⟩ : ∃ v,v=vv n d k:=⟨_,rfl⟩
 rw[←hv] at hM hN2
 have v1:=hM.le;have q0:=hM.q0;have em:=hM.mul
 have hd0:(d==0)=false:=by rw[beq_eq_false_iff_ne];omega
 have hp0:(pw k==0)=false:=by rw[beq_eq_false_iff_ne];omega
 have e0:IntKind.i64.wrap (v:Int)=(v:Int):=IntWalk.i64_in _ (by omega)
 have qv0:0≤(v:Int) / pw k:=Int.ediv_nonneg (by omega) (by omega)
 have qv1:(v:Int) / pw k≤(v:Int):=Int.ediv_le_self _ (by omega)
 have rv0:0≤(v:Int)%pw k:=Int.emod_nonneg _ (by omega)
 have rv1:(v:Int)%pw k<pw k:=Int.emod_lt_of_pos _ (by omega)
 have z1:=qdc (n:=(v:Int) / pw k) (by omega)
 have z2:=qdc (n:=pw k+(v:Int)%pw k) (by omega)
 obtain⟨z10,z11⟩:=z1
 obtain⟨z20,z21⟩:=z2
 have HQ:=hid (show(v:Int) / pw k=((v / 10^k:Nat):Int) by rw[hM.P,Int.natCast_ediv])
 have HR:=hid (show pw k+(v:Int)%pw k=((10^k+v%10^k:Nat):Int) by rw[hM.P,Int.natCast_add,Int.natCast_emod])
 have HN:=hid hN;have HN2:=hid hN2
 clear hM hO hN hN2 hv h
 by_cases hk0:k=0
 ·subst hk0
  have hkd:decide (0<(0:Int))=false:=rfl
  by_cases hn:n<0
  ·go_enter Tryz.func183,Tryz.ntmps183
   go_wp2_with fail
   refine(qcu 0 _ hk).mono ?_
   rintro e w2⟨rfl,rfl⟩
   go_wp2
   go_quiet ((go_at_call 228;exact(Calls.quiet_of (qmn n _ (by omega)))))
   go_wp2_with fail
   refine(qfw ((v:Int) / pw 0) _ (by omega) (ht.below (below_drewN ((Below.refl _ _).alloc (Nat.le_refl _) _) _))).mono ?_
   rintro e w1⟨rfl,hb⟩
   obtain⟨hc,hf⟩:=qdx hb
   have hB0:=below_drewN ((Below.refl w.heap.size w).alloc (Nat.le_refl _) (.cells #[.int .i64 n,.int .i64 d] 63)) nq
   have HB:=hid (hB0.trans (hb.mono hB0.size))
   clear hB0
   go_wp2
   go_ret
   exact⟨qa4 (by rw[HN.out,HN2.out,if_pos hn,HQ.out,Nat.pow_zero,Nat.div_one,qgk];apply qc9;simp),HB.out⟩
  ·have hnd:decide (n<0)=false:=by simpa using hn
   go_enter Tryz.func183,Tryz.ntmps183
   go_wp2_with fail
   refine(qcu 0 _ hk).mono ?_
   rintro e w2⟨rfl,rfl⟩
   go_wp2
   go_quiet ((go_at_call 228;exact(Calls.quiet_of (qmn n _ (by omega)))))
   go_wp2_with fail
   refine(qfw ((v:Int) / pw 0) _ (by omega) (ht.below (below_drewN ((Below.refl _ _).alloc (Nat.le_refl _) _) _))).mono ?_
   rintro e w1⟨rfl,hb⟩
   obtain⟨hc,hf⟩:=qdx hb
   have hB0:=below_drewN ((Below.refl w.heap.size w).alloc (Nat.le_refl _) (.cells #[.int .i64 n,.int .i64 d] 63)) nq
   have HB:=hid (hB0.trans (hb.mono hB0.size))
   clear hB0
   go_wp2
   go_ret
   exact⟨qa4 (by rw[HN.out,HN2.out,if_neg (show ¬ n<0 by omega),HQ.out,Nat.pow_zero,Nat.div_one,qgk];rfl),HB.out⟩
 ·have hkd:decide (0<(k:Int))=true:=by rw[decide_eq_true_iff];omega
  have HK:=hid (show 1≤k by omega);clear hk0
  by_cases hn:n<0
  ·go_enter Tryz.func183,Tryz.ntmps183
   go_wp2_with fail
   refine(qcu k _ hk).mono ?_
   rintro e w2⟨rfl,rfl⟩
   go_wp2
   go_quiet ((go_at_call 228;exact(Calls.quiet_of (qmn n _ (by omega)))))
   go_wp2_with fail
   refine(qfw ((v:Int) / pw k) _ (by omega) (ht.below (below_drewN ((Below.refl _ _).alloc (Nat.le_refl _) _) _))).mono ?_
   rintro e w1⟨rfl,hb⟩
   obtain⟨hc,hf⟩:=qdx hb
   have hB0:=below_drewN ((Below.refl w.heap.size w).alloc (Nat.le_refl _) (.cells #[.int .i64 n,.int .i64 d] 63)) nq
   have HB:=hid (hB0.trans (hb.mono hB0.size))
   clear hB0
   have z0:=q0c hb
   go_wp2_with fail
   refine(qfw (pw k+(v:Int)%pw k) _ (by omega) (ht.below HB.out)).mono ?_
   rintro e w3⟨rfl,hb3⟩
   obtain⟨hc3,hf3⟩:=qad hb3
   have HB3:=hid (HB.out.trans (hb3.mono HB.out.size))
   go_wp2
   go_ret
   exact⟨qa4 (by rw[HN.out,HN2.out,if_pos hn,HR.out,HQ.out,qiz v k HK.out _ (qrb v k)];apply qc9;simp),HB3.out⟩
  ·have hnd:decide (n<0)=false:=by simpa using hn
   go_enter Tryz.func183,Tryz.ntmps183
   go_wp2_with fail
   refine(qcu k _ hk).mono ?_
   rintro e w2⟨rfl,rfl⟩
   go_wp2
   go_quiet ((go_at_call 228;exact(Calls.quiet_of (qmn n _ (by omega)))))
   go_wp2_with fail
   refine(qfw ((v:Int) / pw k) _ (by omega) (ht.below (below_drewN ((Below.refl _ _).alloc (Nat.le_refl _) _) _))).mono ?_
   rintro e w1⟨rfl,hb⟩
   obtain⟨hc,hf⟩:=qdx hb
   have hB0:=below_drewN ((Below.refl w.heap.size w).alloc (Nat.le_refl _) (.cells #[.int .i64 n,.int .i64 d] 63)) nq
   have HB:=hid (hB0.trans (hb.mono hB0.size))
   clear hB0
   have z0:=q0c hb
   go_wp2_with fail
   refine(qfw (pw k+(v:Int)%pw k) _ (by omega) (ht.below HB.out)).mono ?_
   rintro e w3⟨rfl,hb3⟩
   obtain⟨hc3,hf3⟩:=qad hb3
   have HB3:=hid (HB.out.trans (hb3.mono HB.out.size))
   go_wp2
   go_ret
   exact⟨qa4 (by rw[HN.out,HN2.out,if_neg (show ¬ n<0 by omega),HR.out,HQ.out,qiz v k HK.out _ (qrb v k)];rfl),HB3.out⟩
end Go.Proofs.YtldkgbnmaefaaaaGreatDoor.Nu
namespace Go.Proofs.YtldkgbnmaefaaaaGreatDoor.Nu
open Go.RowKit
def zs(j:Nat)(s:ByteArray):ByteArray:=⟨(List.replicate j 48++s.data.toList).toArray⟩
theorem qxp(s:ByteArray):zs 0 s=s:=by apply qc9;simp[zs]
theorem qmx(j:Nat)(s:ByteArray):(zs j s).size=j+s.size:=by
 have e:(zs j s).size=(List.replicate j (48:UInt8)++s.data.toList).length:=rfl
 rw[e,List.length_append,List.length_replicate];rfl
theorem qxo(j:Nat)(s:ByteArray):(⟨#[48]⟩:ByteArray)++zs j s=zs (j+1) s:=by
 apply qc9;rw[qbh];simp[zs,List.replicate_succ]
theorem qmd(v k:Nat)(hk:1≤k):(itS ((v%10^k:Nat):Int)).size≤k∧(zs (k-(itS ((v%10^k:Nat):Int)).size) (itS ((v%10^k:Nat):Int))).data.toList=qg9 k (v%10^k):=by
 have hp:=pad k (v%10^k) hk (Nat.mod_lt _ (Nat.pow_pos (by decide)))
 generalize v%10^k=m at hp ⊢
 have key:(itS (m:Int)).data.toList=Lib.decDigits m:=by rw[qgt,qcs]
 have e:(itS (m:Int)).size=(Lib.decDigits m).length:=by
  have e1:(itS (m:Int)).size=(itS (m:Int)).data.toList.length:=rfl
  rw[e1,key]
 rw[e]
 refine⟨hp.1,?_⟩
 rw[hp.2]
 show List.replicate _ 48++(itS (m:Int)).data.toList=_
 rw[key]
theorem qkf(v k:Nat)(hk:1≤k)(q:ByteArray)(hq:q.data.toList=qg9 k (v%10^k)):itS ((v / 10^k:Nat):Int)++⟨#[46]⟩++q=⟨(body v k).toArray⟩:=by
 rw[←qiz v k hk q hq]
 apply qc9;simp
theorem qk3(k:Nat)(w:World)(h:k≤9):Calls Tryz.prog 49 #[.int .i64 (k:Int)] w fun e w'=>e=.returned (.int .i64 (pw k)) ∧ ∃ n,w'=w.drewN n :=
 (qcf k w h).mono fun _ _ ⟨he,hw⟩=>⟨he,0,hw.symm⟩
theorem qp8(n:Int)(w:World)(h:n.natAbs≤1000000000):Calls Tryz.prog 96 #[.int .i64 n] w fun e w'=>e=.returned (.int .i64 (n.natAbs:Int)) ∧ ∃ k,w'=w.drewN k :=
 (qf0 n w (by omega) (by omega)).mono fun _ _ ⟨he,hw⟩=>⟨he,0,hw.symm⟩
theorem qh2(n d:Int)(k:Nat)(w:World)(hk:k≤9)(h:okB n d=true) :
  Calls Tryz.prog 50 #[.agg #[.int .i64 n,.int .i64 d],.int .i64 (k:Int)] w fun e w'=>e=.returned (.string (qjd n d k))∧Below w.heap.size w w':=by
 have hM:=q1s hk h
 have hO:=qan.1 h
 have h1:=hO.n1;have h2:=hO.n2;have h3:=hO.d1
 obtain⟨p1,p2⟩:=qf7 hk
 have hN:qjd n d k=⟨(qsz n d k).toArray⟩:=rfl
 have hN2:qsz n d k=(if n<0 then [45] else [])++body (vv n d k) k:=rfl
 obtain⟨v,hv⟩ : ∃ v,v=vv n d k:=⟨_,rfl⟩
 rw[←hv] at hM hN2
 have v1:=hM.le;have q0:=hM.q0;have em:=hM.mul
 have hd0:(d==0)=false:=by rw[beq_eq_false_iff_ne];omega
 have hp0:(pw k==0)=false:=by rw[beq_eq_false_iff_ne];omega
 have e0:IntKind.i64.wrap (v:Int)=(v:Int):=IntWalk.i64_in _ (by omega)
 have qv0:0≤(v:Int) / pw k:=Int.ediv_nonneg (by omega) (by omega)
 have qv1:(v:Int) / pw k≤(v:Int):=Int.ediv_le_self _ (by omega)
 have rv0:0≤(v:Int)%pw k:=Int.emod_nonneg _ (by omega)
 have rv1:(v:Int)%pw k<pw k:=Int.emod_lt_of_pos _ (by omega)
 have z1:=qdc (n:=(v:Int) / pw k) (by omega)
 have z2:=qdc (n:=(v:Int)%pw k) (by omega)
 obtain⟨z10,z11⟩:=z1
 obtain⟨z20,z21⟩:=z2
 have HQ:=hid (show(v:Int) / pw k=((v / 10^k:Nat):Int) by rw[hM.P,Int.natCast_ediv])
 have hr:(v:Int)%pw k=((v%10^k:Nat):Int):=by rw[hM.P,Int.natCast_emod]
 have HR:=hid hr
 have HN:=hid hN;have HN2:=hid hN2
 clear hr hM hO hN hN2 hv h
 by_cases hk0:k=0
 ·subst hk0
  have hkd:decide (0<(0:Int))=false:=rfl
  by_cases hn:n<0
  ·go_enter Tryz.func50,Tryz.ntmps50
   go_wp2
   go_quiet ((first | (go_at_call 96;exact(Calls.quiet_of (qp8 n _ (by omega)))) | (go_at_call 49;exact(Calls.quiet_of (qk3 0 _ hk)))))
   go_wp2_with fail
   refine(qcf 0 _ hk).mono ?_
   rintro e w2⟨rfl,rfl⟩
   go_wp2_with fail
   refine(qd1 ((v:Int) / pw 0) _ (by omega)).mono ?_
   rintro e w1⟨rfl,hb⟩
   obtain⟨hc,hf⟩:=qdx hb
   have hB0:=below_drewN ((Below.refl w.heap.size w).alloc (Nat.le_refl _) (.cells #[.int .i64 n,.int .i64 d] 63)) nq
   have HB:=hid (hB0.trans (hb.mono hB0.size))
   clear hB0
   go_wp2
   go_ret
   exact⟨qa4 (by rw[HN.out,HN2.out,if_pos (show n<0 by omega),HQ.out,Nat.pow_zero,Nat.div_one,qgk];apply qc9;simp),HB.out⟩
  ·have hnd:decide (n<0)=false:=by simpa using hn
   go_enter Tryz.func50,Tryz.ntmps50
   go_wp2
   go_quiet ((first | (go_at_call 96;exact(Calls.quiet_of (qp8 n _ (by omega)))) | (go_at_call 49;exact(Calls.quiet_of (qk3 0 _ hk)))))
   go_wp2_with fail
   refine(qcf 0 _ hk).mono ?_
   rintro e w2⟨rfl,rfl⟩
   go_wp2_with fail
   refine(qd1 ((v:Int) / pw 0) _ (by omega)).mono ?_
   rintro e w1⟨rfl,hb⟩
   obtain⟨hc,hf⟩:=qdx hb
   have hB0:=below_drewN ((Below.refl w.heap.size w).alloc (Nat.le_refl _) (.cells #[.int .i64 n,.int .i64 d] 63)) nq
   have HB:=hid (hB0.trans (hb.mono hB0.size))
   clear hB0
   go_wp2
   go_ret
   exact⟨qa4 (by rw[HN.out,HN2.out,if_neg (show ¬ n<0 by omega),HQ.out,Nat.pow_zero,Nat.div_one,qgk];rfl),HB.out⟩
 ·have hkd:decide (0<(k:Int))=true:=by rw[decide_eq_true_iff];omega
  have HK:=hid (show 1≤k by omega);clear hk0
  by_cases hn:n<0
  ·go_enter Tryz.func50,Tryz.ntmps50
   go_wp2
   go_quiet ((first | (go_at_call 96;exact(Calls.quiet_of (qp8 n _ (by omega)))) | (go_at_call 49;exact(Calls.quiet_of (qk3 k _ hk)))))
   go_wp2_with fail
   refine(qcf k _ hk).mono ?_
   rintro e w2⟨rfl,rfl⟩
   go_wp2_with fail
   refine(qd1 ((v:Int) / pw k) _ (by omega)).mono ?_
   rintro e w1⟨rfl,hb⟩
   obtain⟨hc,hf⟩:=qdx hb
   have hB0:=below_drewN ((Below.refl w.heap.size w).alloc (Nat.le_refl _) (.cells #[.int .i64 n,.int .i64 d] 63)) nq
   have HB:=hid (hB0.trans (hb.mono hB0.size))
   clear hB0
   have z0:=q0c hb
   go_wp2_with fail
   refine(qcf k _ hk).mono ?_
   rintro e w2⟨rfl,rfl⟩
   go_wp2_with fail
   refine(qd1 ((v:Int)%pw k) _ (by omega)).mono ?_
   rintro e w3⟨rfl,hb3⟩
   obtain⟨hc3,hf3⟩:=qad hb3
   have HB3:=hid (HB.out.trans (hb3.mono HB.out.size))
   obtain⟨S,HS⟩ : ∃ S:ByteArray,Hid (S=itS ((v:Int)%pw k)):=⟨_,hid rfl⟩
   have hS1:S.size≤k:=by rw[HS.out,HR.out];exact(qmd v k HK.out).1
   have HZ0:Hid ((zs (k-S.size) S).data.toList=qg9 k (v%10^k)):=hid (by rw[HS.out,HR.out];exact(qmd v k HK.out).2)
   rw[←HS.out] at z20 z21 ⊢
   go_wp2
   go_loop [7] (fun x => ∃ j:Nat,j+S.size≤k∧x=.string (zs j S)) (fun x=>k-(match x with | .string s=>s.size | _=>0))
   case atStart=>exact⟨0,by omega,by rw[qxp]⟩
   case round =>
    obtain⟨j,hj,rfl⟩:=hrel
    have hzs:=qmx j S
    by_cases hlt:j+S.size<k
    ·have hl1:decide ((zs j S).size<k)=true:=by rw[hzs];simpa using hlt
     have HS2:=hid (qxo j S)
     have hl2:(zs j S).size≤9:=by omega
     have hl3:(zs j S).size<k:=by omega
     clear hzs
     go_wp2
     go_round
     case rel=>exact⟨j+1,by omega,by rw[HS2.out]⟩
     case measure=>rw[HS2.out];simp[qmx];omega
    ·have hl1:decide ((zs j S).size<k)=false:=by rw[hzs];simpa using hlt
     have hjk:j=k-S.size:=by omega
     have hl2:(zs j S).size≤9:=by omega
     have HZ:Hid ((zs j S).data.toList=qg9 k (v%10^k)):=hid (by rw[hjk];exact HZ0.out)
     clear hzs hjk
     go_wp2
     go_ret
     exact⟨qa4 (by rw[HN.out,HN2.out,if_pos (show n<0 by omega),HQ.out,qkf v k HK.out _ HZ.out];apply qc9;simp),HB3.out⟩
  ·have hnd:decide (n<0)=false:=by simpa using hn
   go_enter Tryz.func50,Tryz.ntmps50
   go_wp2
   go_quiet ((first | (go_at_call 96;exact(Calls.quiet_of (qp8 n _ (by omega)))) | (go_at_call 49;exact(Calls.quiet_of (qk3 k _ hk)))))
   go_wp2_with fail
   refine(qcf k _ hk).mono ?_
   rintro e w2⟨rfl,rfl⟩
   go_wp2_with fail
   refine(qd1 ((v:Int) / pw k) _ (by omega)).mono ?_
   rintro e w1⟨rfl,hb⟩
   obtain⟨hc,hf⟩:=qdx hb
   have hB0:=below_drewN ((Below.refl w.heap.size w).alloc (Nat.le_refl _) (.cells #[.int .i64 n,.int .i64 d] 63)) nq
   have HB:=hid (hB0.trans (hb.mono hB0.size))
   clear hB0
   have z0:=q0c hb
   go_wp2_with fail
   refine(qcf k _ hk).mono ?_
   rintro e w2⟨rfl,rfl⟩
   go_wp2_with fail
   refine(qd1 ((v:Int)%pw k) _ (by omega)).mono ?_
   rintro e w3⟨rfl,hb3⟩
   obtain⟨hc3,hf3⟩:=qad hb3
   have HB3:=hid (HB.out.trans (hb3.mono HB.out.size))
   obtain⟨S,HS⟩ : ∃ S:ByteArray,Hid (S=itS ((v:Int)%pw k)):=⟨_,hid rfl⟩
   have hS1:S.size≤k:=by rw[HS.out,HR.out];exact(qmd v k HK.out).1
   have HZ0:Hid ((zs (k-S.size) S).data.toList=qg9 k (v%10^k)):=hid (by rw[HS.out,HR.out];exact(qmd v k HK.out).2)
   rw[←HS.out] at z20 z21 ⊢
   go_wp2
   go_loop [7] (fun x => ∃ j:Nat,j+S.size≤k∧x=.string (zs j S)) (fun x=>k-(match x with | .string s=>s.size | _=>0))
   case atStart=>exact⟨0,by omega,by rw[qxp]⟩
   case round =>
    obtain⟨j,hj,rfl⟩:=hrel
    have hzs:=qmx j S
    by_cases hlt:j+S.size<k
    ·have hl1:decide ((zs j S).size<k)=true:=by rw[hzs];simpa using hlt
     have HS2:=hid (qxo j S)
     have hl2:(zs j S).size≤9:=by omega
     have hl3:(zs j S).size<k:=by omega
     clear hzs
     go_wp2
     go_round
     case rel=>exact⟨j+1,by omega,by rw[HS2.out]⟩
     case measure=>rw[HS2.out];simp[qmx];omega
    ·have hl1:decide ((zs j S).size<k)=false:=by rw[hzs];simpa using hlt
     have hjk:j=k-S.size:=by omega
     have hl2:(zs j S).size≤9:=by omega
     have HZ:Hid ((zs j S).data.toList=qg9 k (v%10^k)):=hid (by rw[hjk];exact HZ0.out)
     clear hzs hjk
     go_wp2
     go_ret
     exact⟨qa4 (by rw[HN.out,HN2.out,if_neg (show ¬ n<0 by omega),HQ.out,qkf v k HK.out _ HZ.out];rfl),HB3.out⟩
end Go.Proofs.YtldkgbnmaefaaaaGreatDoor.Nu
namespace Go.Proofs.YtldkgbnmaefaaaaGreatDoor.Nu
open Go.RowKit
def qug(n d k:Int):ByteArray:=if (rnd n d k).e=0 then qjd (rnd n d k).n (rnd n d k).d k.toNat else⟨#[]⟩
def fmtS(n d:Int):ByteArray:=⟨(fmt n d).toArray⟩
theorem q6r{n d k:Int}(h:(rnd n d k).e=0):0≤k∧k≤9:=by
 unfold rnd at h
 split at h
 ·split at h
  ·assumption
  ·simp at h
 ·simp at h
theorem q2d{n d k:Int}(h:(rnd n d k).e=0):Ok (rnd n d k).n (rnd n d k).d:=by
 have hk:=q6r h
 have h1:okB n d=true:=by
  cases hq:okB n d
  ·unfold rnd at h;rw[hq] at h;simp at h
  ·rfl
 have e:rnd n d k=fit (ud n d k.toNat) (pw k.toNat):=by unfold rnd;rw[h1,if_pos rfl,if_pos hk]
 rw[e] at h ⊢
 have hp:pw k.toNat≠0:=by have:=qf7 (k:=k.toNat) (by omega);omega
 exact(qki hp h).1
theorem ql3(k:Nat)(w:World)(h:k≤9):Calls Tryz.prog 144 #[.int .i64 (k:Int)] w fun e w'=>e=.returned (.int .i64 (pw k))∧w'=w :=
 (qcu k w h).mono fun _ _ ⟨he,hw⟩=>⟨he,hw.symm⟩
theorem qgf(k:Nat)(w:World)(h:k≤9):Calls Tryz.prog 49 #[.int .i64 (k:Int)] w fun e w'=>e=.returned (.int .i64 (pw k))∧w'=w :=
 (qcf k w h).mono fun _ _ ⟨he,hw⟩=>⟨he,hw.symm⟩
theorem qcv{P:Program}{f:FuncId}{args:Array Value}{w:World}{a n:Nat}{v:Value}
  (h:Calls P f args (w.drewN (a+n)) fun e w'=>e=.returned v∧w'=w.drewN (a+n)) :
  Calls P f args (w.drewN (a+n)) fun e w''=>e=.returned v ∧ ∃ m,w''=w.drewN (a+m) :=
 h.mono fun _ _ ⟨he,hm⟩=>⟨he,n,hm⟩
structure Fh (w:World) (n d:Int) (W:World):Prop where
 c0:W.cell? ⟨w.heap.size,0,none⟩=some (.int .i64 n)
 c1:W.cell? ⟨w.heap.size,1,none⟩=some (.int .i64 d)
 tb:Tb W
 bl:Below w.heap.size w W
structure Gh (w:World) (n d:Int) (W:World):Prop where
 c0:W.cell? ⟨w.heap.size,0,none⟩=some (.int .i64 n)
 c1:W.cell? ⟨w.heap.size,1,none⟩=some (.int .i64 d)
 bl:Below w.heap.size w W
theorem Fh.below{w W W':World}{n d:Int}(h:Fh w n d W)(hb:Below W.heap.size W W'):Fh w n d W' :=
 ⟨(hb.cell (p:=⟨w.heap.size,0,none⟩) (qb5 h.c0)).trans h.c0,(hb.cell (p:=⟨w.heap.size,1,none⟩) (qb5 h.c1)).trans h.c1,h.tb.below hb,h.bl.trans (hb.mono h.bl.size)⟩
theorem Gh.below{w W W':World}{n d:Int}(h:Gh w n d W)(hb:Below W.heap.size W W'):Gh w n d W' :=
 ⟨(hb.cell (p:=⟨w.heap.size,0,none⟩) (qb5 h.c0)).trans h.c0,(hb.cell (p:=⟨w.heap.size,1,none⟩) (qb5 h.c1)).trans h.c1,h.bl.trans (hb.mono h.bl.size)⟩
theorem Fh.drewN{w W:World}{n d:Int}(h:Fh w n d W)(k:Nat):Fh w n d (W.drewN k):=h.below (below_drewN (Below.refl _ _) k)
theorem Gh.drewN{w W:World}{n d:Int}(h:Gh w n d W)(k:Nat):Gh w n d (W.drewN k):=h.below (below_drewN (Below.refl _ _) k)
theorem q2y{w W:World}{n d:Int}(x:Int)(hx:x.natAbs≤1000000000)(h:Fh w n d W):Calls Tryz.prog 107 #[.int .i64 x] W fun e w'=>e=.returned (.string (itS x))∧Fh w n d w' :=
 (qfw x W (by omega) h.tb).mono fun _ _ ⟨he,hb⟩=>⟨he,h.below hb⟩
theorem qx2{w W:World}{n d:Int}(x:Int)(hx:x.natAbs≤1000000000)(h:Gh w n d W):Calls Tryz.prog 20 #[.int .i64 x] W fun e w'=>e=.returned (.string (itS x))∧Gh w n d w' :=
 (qd1 x W (by omega)).mono fun _ _ ⟨he,hb⟩=>⟨he,h.below hb⟩
theorem qs1(n d k:Int)(w:World)(ht:Tb w) :
  Calls Tryz.prog 123 #[.agg #[.int .i64 n,.int .i64 d],.int .i64 k] w fun e w'=>e=.returned (.tuple #[.string (qug n d k),.int .i64 (rnd n d k).e])∧Below w.heap.size w w':=by
 by_cases he:(rnd n d k).e=0
 ·have hO:=q2d he
  obtain⟨hk0,hk9⟩:=q6r he
  obtain⟨j,rfl⟩ : ∃ j:Nat,k=(j:Int):=⟨k.toNat,by omega⟩
  have HA:Hid (qug n d (j:Int)=qjd (rnd n d (j:Int)).n (rnd n d (j:Int)).d j):=hid (by unfold qug;rw[if_pos he,Int.toNat_natCast])
  have HO:=hid (qan.2 hO)
  have hk:j≤9:=by omega
  clear hO
  go_enter Tryz.func123,Tryz.ntmps123
  go_wp2_with fail
  refine(qiw n d (j:Int) _).mono ?_
  rintro e w1⟨rfl,hb⟩
  have HB:=hid (qap hb)
  go_wp2_with fail
  refine(qei _ _ j _ hk HO.out (ht.below (HB.out.alloc HB.out.size _))).mono ?_
  rintro e w2⟨rfl,hb2⟩
  have hB1:=HB.out.alloc HB.out.size (.cells #[.int .i64 (rnd n d (j:Int)).n,.int .i64 (rnd n d (j:Int)).d] 63)
  have HB2:=hid (hB1.trans (hb2.mono hB1.size))
  clear hB1
  go_wp2
  go_ret2
  exact⟨by rw[HA.out,he];rfl,HB2.out⟩
 ·have HA:Hid (qug n d k=⟨#[]⟩):=hid (by unfold qug;rw[if_neg he])
  have he1:((rnd n d k).e != 0)=true:=by rw[bne_iff_ne];exact he
  have HE:=hid he;clear he
  go_enter Tryz.func123,Tryz.ntmps123
  go_wp2_with fail
  refine(qiw n d k _).mono ?_
  rintro e w1⟨rfl,hb⟩
  have HB:=hid (qap hb)
  go_wp2
  go_ret2
  exact⟨by rw[HA.out];rfl,HB.out.alloc HB.out.size _⟩
theorem qrv(n d k:Int)(w:World) :
  Calls Tryz.prog 62 #[.agg #[.int .i64 n,.int .i64 d],.int .i64 k] w fun e w'=>e=.returned (.tuple #[.string (qug n d k),.int .i64 (rnd n d k).e])∧Below w.heap.size w w':=by
 by_cases he:(rnd n d k).e=0
 ·have hO:=q2d he
  obtain⟨hk0,hk9⟩:=q6r he
  obtain⟨j,rfl⟩ : ∃ j:Nat,k=(j:Int):=⟨k.toNat,by omega⟩
  have HA:Hid (qug n d (j:Int)=qjd (rnd n d (j:Int)).n (rnd n d (j:Int)).d j):=hid (by unfold qug;rw[if_pos he,Int.toNat_natCast])
  have HO:=hid (qan.2 hO)
  have hk:j≤9:=by omega
  clear hO
  go_enter Tryz.func62,Tryz.ntmps62
  go_wp2_with fail
  refine(qhb n d (j:Int) _).mono ?_
  rintro e w1⟨rfl,hb⟩
  have HB:=hid (qap hb)
  go_wp2_with fail
  refine(qh2 _ _ j _ hk HO.out).mono ?_
  rintro e w2⟨rfl,hb2⟩
  have hB1:=HB.out.alloc HB.out.size (.cells #[.int .i64 (rnd n d (j:Int)).n,.int .i64 (rnd n d (j:Int)).d] 63)
  have HB2:=hid (hB1.trans (hb2.mono hB1.size))
  clear hB1
  go_wp2
  go_ret2
  exact⟨by rw[HA.out,he];rfl,HB2.out⟩
 ·have HA:Hid (qug n d k=⟨#[]⟩):=hid (by unfold qug;rw[if_neg he])
  have he1:((rnd n d k).e != 0)=true:=by rw[bne_iff_ne];exact he
  have HE:=hid he;clear he
  go_enter Tryz.func62,Tryz.ntmps62
  go_wp2_with fail
  refine(qhb n d k _).mono ?_
  rintro e w1⟨rfl,hb⟩
  have HB:=hid (qap hb)
  go_wp2
  go_ret2
  exact⟨by rw[HA.out];rfl,HB.out.alloc HB.out.size _⟩
end Go.Proofs.YtldkgbnmaefaaaaGreatDoor.Nu
namespace Go.Proofs.YtldkgbnmaefaaaaGreatDoor.Nu
open Go.RowKit
theorem qrn(n d:Int)(w:World)(ht:Tb w) :
  Calls Tryz.prog 122 #[.agg #[.int .i64 n,.int .i64 d]] w fun e w'=>e=.returned (.string (fmtS n d))∧Below w.heap.size w w':=by
 cases h:okB n d
 ·have HA:Hid (fmtS n d=⟨#[]⟩):=hid (by unfold fmtS fmt;rw[h];rfl)
  have V1:=hid h;clear h
  go_enter Tryz.func122,Tryz.ntmps122
  go_wp2_with fail
  refine(qco V1.out _).mono ?_
  rintro e w1⟨rfl,hb⟩
  go_wp2
  go_ret
  exact⟨qa4 HA.out.symm,qap hb⟩
 ·have hO:=qan.1 h
  have h1:=hO.n1;have h2:=hO.n2;have h3:=hO.d1;have h4:=hO.d2
  have HO:=hid hO
  have V1:=hid h
  clear h hO
  have hd0:(d==0)=false:=by rw[beq_eq_false_iff_ne];omega
  go_enter Tryz.func122,Tryz.ntmps122
  go_wp2_with fail
  refine(qa5 V1.out _).mono ?_
  rintro e w1⟨rfl,hb⟩
  have z0:=qg4 hb
  have hc0:w1.cell? ⟨w.heap.size,0,none⟩=some (.int .i64 n):=(hb.cell (p:=⟨w.heap.size,0,none⟩) (by simp)).trans (qdy w _ _ 0 _ rfl)
  have hc1:w1.cell? ⟨w.heap.size,1,none⟩=some (.int .i64 d):=(hb.cell (p:=⟨w.heap.size,1,none⟩) (by simp)).trans (qdy w _ _ 1 _ rfl)
  have HB:=hid (qap hb)
  clear hb
  go_wp2
  go_loopw [7] (fun x wr => ∃ (j nq:Nat),j≤10∧x=.int .i64 (j:Int)∧Hid (wr=w1.drewN nq)∧Hid (∀ i,i<j→pw i%d≠0)) (fun x _=>10-(intOf x).toNat)
  case atStart=>exact⟨0,0,by omega,rfl,hid rfl,hid (fun i hi=>by omega)⟩
  case round =>
   obtain⟨j,nq,hj,rfl,HW,HI⟩:=hrel
   obtain rfl:=HW.out
   by_cases hlt:j<10
   ·have hk:j≤9:=by omega
    obtain⟨p1,p2⟩:=qf7 hk
    by_cases hm:pw j%d=0
    ·have hm1:(pw j%d==0)=true:=by rw[hm];rfl
     have HA:Hid (fmtS n d=qjd n d j):=hid (by unfold fmtS qjd;rw[q1o HO.out hk hm HI.out])
     clear hm
     go_wp2
     go_quiet ((go_at_call 144;exact(qcv (ql3 j _ hk))))
     go_wp2_with fail
     refine(qei n d j _ hk V1.out ((ht.below HB.out).below (below_drewN (Below.refl _ _) _))).mono ?_
     rintro e w2⟨rfl,hb2⟩
     have HB2:=hid ((below_drewN HB.out _).trans (hb2.mono (below_drewN HB.out _).size))
     go_wp2
     go_ret
     exact⟨qa4 HA.out.symm,HB2.out⟩
    ·have hm1:(pw j%d==0)=false:=by rw[beq_eq_false_iff_ne];exact hm
     have HM:=hid hm;clear hm
     go_wp2
     go_quiet ((go_at_call 144;exact(qcv (ql3 j _ hk))))
     go_wp2
     go_roundw
     case rel=>exact⟨j+1,_,by omega,by go_num,hid rfl,hid (fun i hi=>by
      rcases Nat.lt_succ_iff_lt_or_eq.1 hi with h | rfl
      ·exact HI.out i h
      ·exact HM.out)⟩
     case measure=>simp[intOf];omega
   ·obtain rfl:j=10:=by omega
    have HA:Hid (fmtS n d=itS n++⟨#[47]⟩++itS d):=hid (by unfold fmtS;rw[qqi HO.out HI.out];apply qc9;simp[itS])
    obtain⟨z1,z2⟩:=qdc (n:=n) (by omega)
    obtain⟨z3,z4⟩:=qdc (n:=d) (by omega)
    have hs1:=fun W=>run_string_add_sum (P:=Tryz.prog) W (itS n) ⟨#[47]⟩ (show(itS n).size+1≤_ by omega)
    have hs2:=fun W=>run_string_add_sum (P:=Tryz.prog) W (itS n++⟨#[47]⟩) (itS d) (by rw[ByteArray.size_append];show(itS n).size+1+(itS d).size≤_;omega)
    have HF:Fh w n d w1:=⟨hc0,hc1,ht.below HB.out,HB.out⟩
    have HF2:=HF.drewN nq
    have HF3:=HF.drewN (nq+1)
    have g0:=HF2.c0;have g1:=HF2.c1
    go_wp2
    go_region_held3 (fun W=>W.cell? ⟨w.heap.size,0,none⟩=some (.int .i64 n)∧W.cell? ⟨w.heap.size,1,none⟩=some (.int .i64 d)∧Fh w n d W)
     (first | exact⟨HF2.c0,HF2.c1,HF2.drewN 1⟩ | (rename_i h7;exact⟨h7.c0,h7.c1,h7⟩))
     (first | (go_at_call 107;refine(q2y (w:=w) (n:=n) (d:=d) _ ?_ ?_).mono ?_;(omega);(assumption);rintro e w' ⟨rfl,_⟩))
    have h6:Fh w n d w':=by assumption
    go_wp2
    go_ret
    exact⟨qa4 HA.out.symm,h6.bl⟩
theorem qn6(n d:Int)(w:World) :
  Calls Tryz.prog 33 #[.agg #[.int .i64 n,.int .i64 d]] w fun e w'=>e=.returned (.string (fmtS n d))∧Below w.heap.size w w':=by
 cases h:okB n d
 ·have HA:Hid (fmtS n d=⟨#[]⟩):=hid (by unfold fmtS fmt;rw[h];rfl)
  have V1:=hid h;clear h
  go_enter Tryz.func33,Tryz.ntmps33
  go_wp2_with fail
  refine(qbe V1.out _).mono ?_
  rintro e w1⟨rfl,hb⟩
  go_wp2
  go_ret
  exact⟨qa4 HA.out.symm,qap hb⟩
 ·have hO:=qan.1 h
  have h1:=hO.n1;have h2:=hO.n2;have h3:=hO.d1;have h4:=hO.d2
  have HO:=hid hO
  have V1:=hid h
  clear h hO
  have hd0:(d==0)=false:=by rw[beq_eq_false_iff_ne];omega
  go_enter Tryz.func33,Tryz.ntmps33
  go_wp2_with fail
  refine(qal V1.out _).mono ?_
  rintro e w1⟨rfl,hb⟩
  have z0:=qg4 hb
  have hc0:w1.cell? ⟨w.heap.size,0,none⟩=some (.int .i64 n):=(hb.cell (p:=⟨w.heap.size,0,none⟩) (by simp)).trans (qdy w _ _ 0 _ rfl)
  have hc1:w1.cell? ⟨w.heap.size,1,none⟩=some (.int .i64 d):=(hb.cell (p:=⟨w.heap.size,1,none⟩) (by simp)).trans (qdy w _ _ 1 _ rfl)
  have HB:=hid (qap hb)
  clear hb
  go_wp2
  go_loopw [3] (fun x wr => ∃ (j nq:Nat),j≤10∧x=.int .i64 (j:Int)∧Hid (wr=w1.drewN nq)∧Hid (∀ i,i<j→pw i%d≠0)) (fun x _=>10-(intOf x).toNat)
  case atStart=>exact⟨0,0,by omega,rfl,hid rfl,hid (fun i hi=>by omega)⟩
  case round =>
   obtain⟨j,nq,hj,rfl,HW,HI⟩:=hrel
   obtain rfl:=HW.out
   by_cases hlt:j<10
   ·have hk:j≤9:=by omega
    obtain⟨p1,p2⟩:=qf7 hk
    by_cases hm:pw j%d=0
    ·have hm1:(pw j%d==0)=true:=by rw[hm];rfl
     have HA:Hid (fmtS n d=qjd n d j):=hid (by unfold fmtS qjd;rw[q1o HO.out hk hm HI.out])
     clear hm
     go_wp2
     go_quiet ((go_at_call 49;exact(qcv (qgf j _ hk))))
     go_wp2_with fail
     refine(qh2 n d j _ hk V1.out).mono ?_
     rintro e w2⟨rfl,hb2⟩
     have HB2:=hid ((below_drewN HB.out _).trans (hb2.mono (below_drewN HB.out _).size))
     go_wp2
     go_ret
     exact⟨qa4 HA.out.symm,HB2.out⟩
    ·have hm1:(pw j%d==0)=false:=by rw[beq_eq_false_iff_ne];exact hm
     have HM:=hid hm;clear hm
     go_wp2
     go_quiet ((go_at_call 49;exact(qcv (qgf j _ hk))))
     go_wp2
     go_roundw
     case rel=>exact⟨j+1,_,by omega,by go_num,hid rfl,hid (fun i hi=>by
      rcases Nat.lt_succ_iff_lt_or_eq.1 hi with h | rfl
      ·exact HI.out i h
      ·exact HM.out)⟩
     case measure=>simp[intOf];omega
   ·obtain rfl:j=10:=by omega
    have HA:Hid (fmtS n d=itS n++⟨#[47]⟩++itS d):=hid (by unfold fmtS;rw[qqi HO.out HI.out];apply qc9;simp[itS])
    obtain⟨z1,z2⟩:=qdc (n:=n) (by omega)
    obtain⟨z3,z4⟩:=qdc (n:=d) (by omega)
    have hs1:=fun W=>run_string_add_sum (P:=Tryz.prog) W (itS n) ⟨#[47]⟩ (show(itS n).size+1≤_ by omega)
    have hs2:=fun W=>run_string_add_sum (P:=Tryz.prog) W (itS n++⟨#[47]⟩) (itS d) (by rw[ByteArray.size_append];show(itS n).size+1+(itS d).size≤_;omega)
    have HF:Gh w n d w1:=⟨hc0,hc1,HB.out⟩
    have HF2:=HF.drewN nq
    have HF3:=HF.drewN (nq+1)
    have g0:=HF2.c0;have g1:=HF2.c1
    go_wp2
    go_region_held3 (fun W=>W.cell? ⟨w.heap.size,0,none⟩=some (.int .i64 n)∧W.cell? ⟨w.heap.size,1,none⟩=some (.int .i64 d)∧Gh w n d W)
     (first | exact⟨HF2.c0,HF2.c1,HF2.drewN 1⟩ | (rename_i h7;exact⟨h7.c0,h7.c1,h7⟩))
     (first | (go_at_call 20;refine(qx2 (w:=w) (n:=n) (d:=d) _ ?_ ?_).mono ?_;(omega);(assumption);rintro e w' ⟨rfl,_⟩))
    have h6:Gh w n d w':=by assumption
    go_wp2
    go_ret
    exact⟨qa4 HA.out.symm,h6.bl⟩
end Go.Proofs.YtldkgbnmaefaaaaGreatDoor.Nu
namespace Go.Proofs.YtldkgbnmaefaaaaGreatDoor.Nu
open Go.RowKit
end Go.Proofs.YtldkgbnmaefaaaaGreatDoor.Nu
namespace Go.Proofs.YtldkgbnmaefaaaaGreatDoor.Nu
open Go.RowKit
end Go.Proofs.YtldkgbnmaefaaaaGreatDoor.Nu
