import Derived.Test.YtldkgbnmaefaaaaGreatDoorCaH1
import Derived.Deep.RegionWith
set_option maxRecDepth 100000
set_option maxHeartbeats 4000000
open Go.Lib (hid)
namespace Go.Proofs.YtldkgbnmaefaaaaGreatDoor.Ca
open Go.RowKit
set_option linter.unusedVariables false
set_option linter.unusedSimpArgs false
theorem q8y{y m d c k:Int}(hk:Ok y m d)(c1:0≤c)(c2:c<1440)(k1 : -52596000≤k)(k2:k≤52596000)(w:World) :
  Calls Tryz.prog 57 #[.int .i64 (inst y m d c),.int .i64 5,.int .i64 k] w fun e w'=>e=.returned (.tuple #[.int .i64 (qfl y m d c (k*12)).n,.int .i64 (qfl y m d c (k*12)).e])∧Below w.heap.size w w':=by
 have HC:=hid (fun w=>qat hk c1 c2 w)
 have hy1:=hk.y1
 have hy2:=hk.y2
 have hm1:=hk.m1
 have hm2:=hk.m2
 have hd1:=hk.d1
 have hd2:=hk.d2
 have hml:=qbf y m
 obtain⟨n,hn⟩ : ∃ n,inst y m d c=n:=⟨_,rfl⟩
 rw[hn] at HC
 rw[hn]
 clear hn
 by_cases h1:(y-2000)*12+m-1+k*12<0
 ·have HA:Hid (qfl y m d c (k*12)=⟨0,15⟩):=hid (by unfold qfl;rw[if_neg (by omega)])
  go_enter Tryz.func57,Tryz.ntmps57
  go_wp2_with fail
  (with_reducible refine(HC.out _).mono ?_)
  rintro e w1⟨rfl,hb⟩
  go_wp2
  go_ret2
  exact⟨by rw[HA.out];rfl,hb.alloc hb.size _⟩
 ·by_cases h2:1200≤(y-2000)*12+m-1+k*12
  ·have HA:Hid (qfl y m d c (k*12)=⟨0,15⟩):=hid (by unfold qfl;rw[if_neg (by omega)])
   go_enter Tryz.func57,Tryz.ntmps57
   go_wp2_with fail
   (with_reducible refine(HC.out _).mono ?_)
   rintro e w1⟨rfl,hb⟩
   go_wp2
   go_ret2
   exact⟨by rw[HA.out];rfl,hb.alloc hb.size _⟩
  ·obtain⟨M,hM⟩ : ∃ M,(y-2000)*12+m-1+k*12=M:=⟨_,rfl⟩
   obtain⟨z,hz⟩ : ∃ z,2000+M / 12=z:=⟨_,rfl⟩
   obtain⟨j,hj⟩ : ∃ j,M%12+1=j:=⟨_,rfl⟩
   have hz1:2000≤z:=by omega
   have hz2:z≤2099:=by omega
   have hj1:1≤j:=by omega
   have hj2:j≤12:=by omega
   have hml2:=qbf z j
   have HA:Hid (qfl y m d c (k*12)=⟨inst z j (min d (ml z j)) c,0⟩):=hid (by unfold qfl;rw[hM,hz,hj,if_pos (by omega)])
   have HQ:Hid (qlt z j (min d (ml z j)) c=⟨inst z j (min d (ml z j)) c,0⟩):=hid (qjc ⟨hz1,hz2,hj1,hj2,by omega,by omega⟩ c1 c2)
   have HL:=hid (fun w=>qcq z j w hz1 hz2 hj1 hj2)
   have HX:=hid (fun w=>qee z j (min d (ml z j)) c w)
   rw[HQ.out] at HX
   by_cases hle:d≤ml z j
   all_goals
    have hif:(if ml z j<d then ml z j else d)=min d (ml z j):=by split<;>omega
    first | (have em:min d (ml z j)=d:=by omega) | (have em:min d (ml z j)=ml z j:=by omega)
    rw[em] at HX HA hif
    clear em hk
    go_enter Tryz.func57,Tryz.ntmps57
    go_wp2_with fail
    (with_reducible refine(HC.out _).mono ?_)
    rintro e w1⟨rfl,hb⟩
    have hB1:=hb.size
    have HB:=hid (hb.alloc hb.size (.cells #[.int .i64 z,.int .i64 j,.int .i64 d] 95))
    clear hb
    go_wp2
    go_region_with (go_at_call 97;(with_reducible refine(HL.out _).mono ?_);rintro e w2 ⟨rfl,hb2⟩;obtain⟨hc2,hf2⟩:=qad hb2;have hz2:w1.heap.size<w2.heap.size:=(by have:=hb2.size;simp at this;omega))
    all_goals
     have hbs:=hb2.size
     have hbz:w.heap.size≤w2.heap.size:=by simp at hbs;omega
     have hbw:Below w.heap.size w w2:=HB.out.trans (by first | exact hb2.mono (by simp;omega) | exact(below_drewN (Below.refl _ _) 1).trans (hb2.mono (by simp;omega)) | exact(below_drewN (Below.refl _ _) 2).trans (hb2.mono (by simp;omega)) | exact(below_drewN (Below.refl _ _) 3).trans (hb2.mono (by simp;omega)))
     have HW:=hid hbw
     clear hb2 hbw
     go_wp2_with fail
     (with_reducible refine(HX.out _).mono ?_)
     rintro e w3⟨rfl,hb3⟩
     have HW3:=hid ((HW.out.setCell (p:=⟨w1.heap.size,2,none⟩) hB1 _).trans (hb3.mono (HW.out.setCell (p:=⟨w1.heap.size,2,none⟩) hB1 _).size))
     clear hb3
     go_wp2
     go_ret2
     exact⟨by rw[HA.out];rfl,HW3.out⟩
end Go.Proofs.YtldkgbnmaefaaaaGreatDoor.Ca
