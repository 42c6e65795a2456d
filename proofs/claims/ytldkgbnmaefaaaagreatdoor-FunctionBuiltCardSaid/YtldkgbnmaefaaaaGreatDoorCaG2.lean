import Derived.Test.YtldkgbnmaefaaaaGreatDoorCaG1
import Derived.StillTailTactics
import Derived.Deep.RegionWith
set_option maxRecDepth 100000
set_option maxHeartbeats 4000000
open Go.Lib (hid)
namespace Go.Proofs.YtldkgbnmaefaaaaGreatDoor.Ca
open Go.RowKit
theorem isU{u:Int}(h:1≤u∧u≤5)(w:World):Calls Tryz.prog 189 #[.int .i64 u] w fun e w'=>e=.returned (.bool true)∧w=w':=by
 have:=qkj u w;rwa [decide_eq_true h] at this
theorem xay{u:Int}(h : ¬ (1≤u∧u≤5))(w:World):Calls Tryz.prog 189 #[.int .i64 u] w fun e w'=>e=.returned (.bool false)∧w=w':=by
 have:=qkj u w;rwa [decide_eq_false h] at this
theorem qja{n:Int}(h : ¬ (0≤n∧n<52596000))(w:World):Calls Tryz.prog 188 #[.int .i64 n] w fun e w'=>e=.returned (.bool false)∧w=w':=by
 have:=qgs n w;rwa [decide_eq_false h] at this
theorem qgx(y m:Int)(w:World)(h:0≤y)(h1:1≤m)(h2:m≤12)(ht:Tb w):Calls Tryz.prog 231 #[.int .i64 y,.int .i64 m] w fun e w'=>e=.returned (.int .i64 (ml y m))∧w'=w :=
 (qbg y m w h h1 h2 ht).mono fun _ _ ⟨he,hw⟩=>⟨he,hw.symm⟩
theorem qkw{P:Program}{id:Nat}{Q:Exit→Act→World→Prop}{a:Act}{w W:World}{l:List Oper}(n:Nat)(hm:P.follows .mixedOrders=true)(hB:Region.lexTailB .any l.toArray n=true)(hW:w.drewN 1=W)
  (h:wpStill P l.toArray W (fun a'=>wpList P l.toArray Q (l.drop n) a' W) (l.take n) a):(Code.region id l.toArray true).wp P Q a w:=by
 subst hW;exact wp_region_still_tail n hm hB h
def qfl(y m d c k:Int):R2 :=
 if 0≤(y-2000)*12+m-1+k∧(y-2000)*12+m-1+k<1200 then
  ⟨inst (2000+((y-2000)*12+m-1+k) / 12) (((y-2000)*12+m-1+k)%12+1) (min d (ml (2000+((y-2000)*12+m-1+k) / 12) (((y-2000)*12+m-1+k)%12+1))) c,0⟩
 else⟨0,15⟩
theorem qgh{y m d c k:Int}(hk:Ok y m d)(c1:0≤c)(c2:c<1440)(k1 : -1000000000≤k)(k2:k≤1000000000)(w:World)(ht:Tb w) :
  Calls Tryz.prog 190 #[.int .i64 (inst y m d c),.int .i64 k] w fun e w'=>e=.returned (.tuple #[.int .i64 (qfl y m d c k).n,.int .i64 (qfl y m d c k).e])∧Below w.heap.size w w':=by
 have HM:=hid (fun w ht=>qh1 hk c1 c2 w ht)
 have HT:Hid (∀ w',Below w.heap.size w w'→Tb w'):=hid (fun w' hb=>ht.below hb)
 have hy1:=hk.y1
 have hy2:=hk.y2
 have hm1:=hk.m1
 have hm2:=hk.m2
 have hd1:=hk.d1
 have hd2:=hk.d2
 have hml:=qbf y m
 obtain⟨n,hn⟩ : ∃ n,inst y m d c=n:=⟨_,rfl⟩
 rw[hn] at HM
 rw[hn]
 clear hn
 by_cases h1:(y-2000)*12+m-1+k<0
 ·have HA:Hid (qfl y m d c k=⟨0,15⟩):=hid (by unfold qfl;rw[if_neg (by omega)])
  go_enter Tryz.func190,Tryz.ntmps190
  go_wp2_with fail
  refine(HM.out _ ht).mono ?_
  rintro e w1⟨rfl,hb⟩
  unfold mom
  go_wp2
  go_ret2
  exact⟨by rw[HA.out];rfl,hb.alloc hb.size _⟩
 ·by_cases h2:1200≤(y-2000)*12+m-1+k
  ·have HA:Hid (qfl y m d c k=⟨0,15⟩):=hid (by unfold qfl;rw[if_neg (by omega)])
   go_enter Tryz.func190,Tryz.ntmps190
   go_wp2_with fail
   refine(HM.out _ ht).mono ?_
   rintro e w1⟨rfl,hb⟩
   unfold mom
   go_wp2
   go_ret2
   exact⟨by rw[HA.out];rfl,hb.alloc hb.size _⟩
  ·obtain⟨M,hM⟩ : ∃ M,(y-2000)*12+m-1+k=M:=⟨_,rfl⟩
   obtain⟨z,hz⟩ : ∃ z,2000+M / 12=z:=⟨_,rfl⟩
   obtain⟨j,hj⟩ : ∃ j,M%12+1=j:=⟨_,rfl⟩
   have hz1:2000≤z:=by omega
   have hz2:z≤2099:=by omega
   have hj1:1≤j:=by omega
   have hj2:j≤12:=by omega
   have hml2:=qbf z j
   have HA:Hid (qfl y m d c k=⟨inst z j (min d (ml z j)) c,0⟩):=hid (by unfold qfl;rw[hM,hz,hj,if_pos (by omega)])
   have HQ:Hid (qlt z j (min d (ml z j)) c=⟨inst z j (min d (ml z j)) c,0⟩):=hid (qjc ⟨hz1,hz2,hj1,hj2,by omega,by omega⟩ c1 c2)
   have HL:=hid (fun w ht=>qbg z j w (by omega) hj1 hj2 ht)
   by_cases hle:d≤ml z j
   ·have em:min d (ml z j)=d:=by omega
    rw[em] at HQ HA
    clear em
    go_enter Tryz.func190,Tryz.ntmps190
    go_wp2_with fail
    refine(HM.out _ ht).mono ?_
    rintro e w1⟨rfl,hb⟩
    unfold mom
    have hB2:=(hb.alloc hb.size (.cells #[.int .i64 y,.int .i64 m,.int .i64 d,.int .i64 (cum y m+d-1),.int .i64 (wd (dn y m d)),.int .i64 c] 191)).alloc (by simp;have:=hb.size;omega) (.cells #[.int .i64 z,.int .i64 j,.int .i64 0] 95)
    have hz0:w1.heap.size+1<((w1.alloc (.cells #[.int .i64 y,.int .i64 m,.int .i64 d,.int .i64 (cum y m+d-1),.int .i64 (wd (dn y m d)),.int .i64 c] 191)).alloc (.cells #[.int .i64 z,.int .i64 j,.int .i64 0] 95)).heap.size:=by simp
    obtain⟨W,hW⟩ : ∃ W,((w1.alloc (.cells #[.int .i64 y,.int .i64 m,.int .i64 d,.int .i64 (cum y m+d-1),.int .i64 (wd (dn y m d)),.int .i64 c] 191)).alloc (.cells #[.int .i64 z,.int .i64 j,.int .i64 0] 95)).drewN 1=W:=⟨_,rfl⟩
    have hBW:Below w.heap.size w W:=by rw[←hW];exact below_drewN hB2 1
    have a2:W.cell? ⟨w1.heap.size,2,none⟩=some (.int .i64 d):=by rw[←hW];simp
    have a3:W.cell? ⟨w1.heap.size,5,none⟩=some (.int .i64 c):=by rw[←hW];simp
    have b0:W.cell? ⟨w1.heap.size+1,0,none⟩=some (.int .i64 z):=by rw[←hW];simp
    have b1:W.cell? ⟨w1.heap.size+1,1,none⟩=some (.int .i64 j):=by rw[←hW];simp
    have b2:W.cell? ⟨w1.heap.size+1,2,none⟩=some (.int .i64 0):=by rw[←hW];simp
    have f2:W.frozen? ⟨w1.heap.size+1,2,none⟩=false:=by rw[←hW];simp
    have hBs:w.heap.size≤w1.heap.size+1:=by have:=hb.size;omega
    have HTW:=hid (HT.out _ hBW)
    have HBW:=hid hBW
    have HW:=hid hW
    clear hBW hW hB2 hz0
    go_wp2
    refine qkw 10 (by kernel_rfl) (by kernel_rfl) HW.out ?_
    simp only[List.take_succ_cons,List.take_zero,List.drop_succ_cons,List.drop_zero]
    repeat still_step
    still_call (qgx z j _ (by omega) hj1 hj2 HTW.out)
    repeat still_step
    refine wpStill_nil ?_
    have hS:=HBW.out.setCell (p:=⟨w1.heap.size+1,2,none⟩) hBs (.int .i64 (d))
    have HS:=hid hS
    have HTS:=hid (HT.out _ hS)
    clear hS
    go_wp2_with fail
    refine(qfj z j (d) c _ HTS.out).mono ?_
    rintro e w2⟨rfl,hb2⟩
    rw[HQ.out]
    go_wp2
    go_ret2
    exact⟨by rw[HA.out];rfl,HS.out.trans (hb2.mono HS.out.size)⟩
   ·have em:min d (ml z j)=ml z j:=by omega
    rw[em] at HQ HA
    clear em
    go_enter Tryz.func190,Tryz.ntmps190
    go_wp2_with fail
    refine(HM.out _ ht).mono ?_
    rintro e w1⟨rfl,hb⟩
    unfold mom
    have hB2:=(hb.alloc hb.size (.cells #[.int .i64 y,.int .i64 m,.int .i64 d,.int .i64 (cum y m+d-1),.int .i64 (wd (dn y m d)),.int .i64 c] 191)).alloc (by simp;have:=hb.size;omega) (.cells #[.int .i64 z,.int .i64 j,.int .i64 0] 95)
    have hz0:w1.heap.size+1<((w1.alloc (.cells #[.int .i64 y,.int .i64 m,.int .i64 d,.int .i64 (cum y m+d-1),.int .i64 (wd (dn y m d)),.int .i64 c] 191)).alloc (.cells #[.int .i64 z,.int .i64 j,.int .i64 0] 95)).heap.size:=by simp
    obtain⟨W,hW⟩ : ∃ W,((w1.alloc (.cells #[.int .i64 y,.int .i64 m,.int .i64 d,.int .i64 (cum y m+d-1),.int .i64 (wd (dn y m d)),.int .i64 c] 191)).alloc (.cells #[.int .i64 z,.int .i64 j,.int .i64 0] 95)).drewN 1=W:=⟨_,rfl⟩
    have hBW:Below w.heap.size w W:=by rw[←hW];exact below_drewN hB2 1
    have a2:W.cell? ⟨w1.heap.size,2,none⟩=some (.int .i64 d):=by rw[←hW];simp
    have a3:W.cell? ⟨w1.heap.size,5,none⟩=some (.int .i64 c):=by rw[←hW];simp
    have b0:W.cell? ⟨w1.heap.size+1,0,none⟩=some (.int .i64 z):=by rw[←hW];simp
    have b1:W.cell? ⟨w1.heap.size+1,1,none⟩=some (.int .i64 j):=by rw[←hW];simp
    have b2:W.cell? ⟨w1.heap.size+1,2,none⟩=some (.int .i64 0):=by rw[←hW];simp
    have f2:W.frozen? ⟨w1.heap.size+1,2,none⟩=false:=by rw[←hW];simp
    have hBs:w.heap.size≤w1.heap.size+1:=by have:=hb.size;omega
    have HTW:=hid (HT.out _ hBW)
    have HBW:=hid hBW
    have HW:=hid hW
    clear hBW hW hB2 hz0
    go_wp2
    refine qkw 10 (by kernel_rfl) (by kernel_rfl) HW.out ?_
    simp only[List.take_succ_cons,List.take_zero,List.drop_succ_cons,List.drop_zero]
    repeat still_step
    still_call (qgx z j _ (by omega) hj1 hj2 HTW.out)
    repeat still_step
    refine wpStill_nil ?_
    have hS:=HBW.out.setCell (p:=⟨w1.heap.size+1,2,none⟩) hBs (.int .i64 (ml z j))
    have HS:=hid hS
    have HTS:=hid (HT.out _ hS)
    clear hS
    go_wp2_with fail
    refine(qfj z j (ml z j) c _ HTS.out).mono ?_
    rintro e w2⟨rfl,hb2⟩
    rw[HQ.out]
    go_wp2
    go_ret2
    exact⟨by rw[HA.out];rfl,HS.out.trans (hb2.mono HS.out.size)⟩
def qsx(y m d c u n:Int):R2 :=
 if n ≤ -52596000∨52596000≤n then⟨0,15⟩ else if u=4 then qfl y m d c n else if u=5 then qfl y m d c (12*n)
 else if 0≤inst y m d c+n*(if u=1 then 1 else if u=2 then 60 else 1440)∧inst y m d c+n*(if u=1 then 1 else if u=2 then 60 else 1440)<52596000 then
  ⟨inst y m d c+n*(if u=1 then 1 else if u=2 then 60 else 1440),0⟩
 else⟨0,15⟩
theorem q2u{u n k:Int}(h : ¬ (0≤n∧n<52596000))(w:World) :
  Calls Tryz.prog 126 #[.int .i64 n,.int .i64 u,.int .i64 k] w fun e w'=>e=.returned (.tuple #[.int .i64 0,.int .i64 2])∧Below w.heap.size w w':=by
 have HC:=hid (fun w=>qja h w)
 clear h
 go_enter Tryz.func126,Tryz.ntmps126
 go_wp2_with fail
 refine(HC.out _).mono ?_
 rintro e w1⟨rfl,rfl⟩
 go_wp2
 go_ret2
 exact⟨rfl,Below.refl _ w⟩
theorem q2v{u n k:Int}(h:0≤n∧n<52596000)(h2 : ¬ (1≤u∧u≤5))(w:World) :
  Calls Tryz.prog 126 #[.int .i64 n,.int .i64 u,.int .i64 k] w fun e w'=>e=.returned (.tuple #[.int .i64 0,.int .i64 2])∧Below w.heap.size w w':=by
 have HC:=hid (fun w=>qnp h w)
 have HD:=hid (fun w=>xay h2 w)
 clear h h2
 go_enter Tryz.func126,Tryz.ntmps126
 go_wp2_with fail
 refine(HC.out _).mono ?_
 rintro e w1⟨rfl,rfl⟩
 go_wp2_with fail
 refine(HD.out _).mono ?_
 rintro e w1⟨rfl,rfl⟩
 go_wp2
 go_ret2
 exact⟨rfl,Below.refl _ w⟩
theorem q2w{y m d c u k:Int}(hk:Ok y m d)(c1:0≤c)(c2:c<1440)(h:1≤u∧u≤5)(w:World)(ht:Tb w) :
  Calls Tryz.prog 126 #[.int .i64 (inst y m d c),.int .i64 u,.int .i64 k] w fun e w'=>e=.returned (.tuple #[.int .i64 (qsx y m d c u k).n,.int .i64 (qsx y m d c u k).e])∧Below w.heap.size w w':=by
 have hr:=qas hk c1 c2
 have HC:=hid (fun w=>qnp ⟨hr.1,hr.2.1⟩ w)
 have HU:=hid (fun w=>isU h w)
 by_cases hb1:k ≤ -52596000
 ·have HA:Hid (qsx y m d c u k=⟨0,15⟩):=hid (by unfold qsx;rw[if_pos (.inl hb1)])
  clear hr h
  go_enter Tryz.func126,Tryz.ntmps126
  go_wp2_with fail
  refine(HC.out _).mono ?_
  rintro e w1⟨rfl,rfl⟩
  go_wp2_with fail
  refine(HU.out _).mono ?_
  rintro e w1⟨rfl,rfl⟩
  go_wp2
  go_ret2
  exact⟨by rw[HA.out];rfl,Below.refl _ w⟩
 ·by_cases hb2:52596000≤k
  ·have HA:Hid (qsx y m d c u k=⟨0,15⟩):=hid (by unfold qsx;rw[if_pos (.inr hb2)])
   clear hr h
   go_enter Tryz.func126,Tryz.ntmps126
   go_wp2_with fail
   refine(HC.out _).mono ?_
   rintro e w1⟨rfl,rfl⟩
   go_wp2_with fail
   refine(HU.out _).mono ?_
   rintro e w1⟨rfl,rfl⟩
   go_wp2
   go_ret2
   exact⟨by rw[HA.out];rfl,Below.refl _ w⟩
  ·have hA:qsx y m d c u k=if u=4 then qfl y m d c k else if u=5 then qfl y m d c (12*k)
     else if 0≤inst y m d c+k*(if u=1 then 1 else if u=2 then 60 else 1440)∧inst y m d c+k*(if u=1 then 1 else if u=2 then 60 else 1440)<52596000 then
      ⟨inst y m d c+k*(if u=1 then 1 else if u=2 then 60 else 1440),0⟩
     else⟨0,15⟩:=by unfold qsx;rw[if_neg (by omega)]
   have hu:u=4∨u=5∨u=1∨u=2∨u=3:=by omega
   have HM4:=hid (fun w ht=>qgh (k:=k) hk c1 c2 (by omega) (by omega) w ht)
   have HM5:=hid (fun w ht=>qgh (k:=12*k) hk c1 c2 (by omega) (by omega) w ht)
   obtain⟨r0,r1,_,_⟩:=hr
   obtain⟨n,hn⟩ : ∃ n,inst y m d c=n:=⟨_,rfl⟩
   rw[hn] at HC HM4 HM5 hA r0 r1
   rw[hn]
   have HA:=hid hA
   clear hn hk hA h
   rcases hu with rfl | rfl | hu
   ·simp only[Int.reduceEq,if_true,if_false] at HA
    go_enter Tryz.func126,Tryz.ntmps126
    go_wp2_with fail
    refine(HC.out _).mono ?_
    rintro e w1⟨rfl,rfl⟩
    go_wp2_with fail
    refine(HU.out _).mono ?_
    rintro e w1⟨rfl,rfl⟩
    go_wp2_with fail
    refine(HM4.out _ ht).mono ?_
    rintro e w1⟨rfl,hb⟩
    go_wp2
    go_ret2
    exact⟨by rw[HA.out];rfl,hb⟩
   ·simp only[Int.reduceEq,if_true,if_false] at HA
    go_enter Tryz.func126,Tryz.ntmps126
    go_wp2_with fail
    refine(HC.out _).mono ?_
    rintro e w1⟨rfl,rfl⟩
    go_wp2_with fail
    refine(HU.out _).mono ?_
    rintro e w1⟨rfl,rfl⟩
    go_wp2_with fail
    refine(HM5.out _ ht).mono ?_
    rintro e w1⟨rfl,hb⟩
    go_wp2
    go_ret2
    exact⟨by rw[HA.out];rfl,hb⟩
   ·obtain⟨q,hq⟩ : ∃ q,k*(if u=1 then 1 else if u=2 then 60 else 1440)=q:=⟨_,rfl⟩
    have hu4 : ¬ u=4 ∧ ¬ u=5:=by omega
    simp only[hu4.1,hu4.2,if_false,hq] at HA
    clear HM4 HM5 hu4
    by_cases hin:0≤n+q∧n+q<52596000
    ·simp only[hin,and_self,if_true] at HA
     have HI:=hid (fun w=>qnp hin w)
     rcases hu with rfl | rfl | rfl
     all_goals
      simp only[Int.reduceEq,if_true,if_false,Int.mul_one] at hq
      subst hq
      clear hin
      go_enter Tryz.func126,Tryz.ntmps126
      go_wp2_with fail
      refine(HC.out _).mono ?_
      rintro e w1⟨rfl,rfl⟩
      go_wp2_with fail
      refine(HU.out _).mono ?_
      rintro e w1⟨rfl,rfl⟩
      go_wp2_with fail
      refine(HI.out _).mono ?_
      rintro e w1⟨rfl,rfl⟩
      go_wp2
      go_ret2
      exact⟨by rw[HA.out];rfl,Below.refl _ w⟩
    ·rw[if_neg hin] at HA
     have HI:=hid (fun w=>qja hin w)
     rcases hu with rfl | rfl | rfl
     all_goals
      simp only[Int.reduceEq,if_true,if_false,Int.mul_one] at hq
      subst hq
      clear hin
      go_enter Tryz.func126,Tryz.ntmps126
      go_wp2_with fail
      refine(HC.out _).mono ?_
      rintro e w1⟨rfl,rfl⟩
      go_wp2_with fail
      refine(HU.out _).mono ?_
      rintro e w1⟨rfl,rfl⟩
      go_wp2_with fail
      refine(HI.out _).mono ?_
      rintro e w1⟨rfl,rfl⟩
      go_wp2
      go_ret2
      exact⟨by rw[HA.out];rfl,Below.refl _ w⟩
end Go.Proofs.YtldkgbnmaefaaaaGreatDoor.Ca
