import Derived.Test.YtldkgbnmaefaaaaGreatDoorCaH2
import Derived.Test.YtldkgbnmaefaaaaGreatDoorCaH3
import Derived.Test.YtldkgbnmaefaaaaGreatDoorCaG3
import Derived.Test.YtldkgbnmaefaaaaGreatDoorCaH4
import Derived.Laws.BytesString
set_option maxRecDepth 100000
set_option maxHeartbeats 4000000
open Go.Lib (hid)
namespace Go.Proofs.YtldkgbnmaefaaaaGreatDoor.Ca
open Go.RowKit
set_option linter.unusedVariables false
set_option linter.unusedSimpArgs false
theorem qxz{y m d c u k:Int}(hk:Ok y m d)(c1:0≤c)(c2:c<1440)(h:1≤u∧u≤5)(w:World) :
  Calls Tryz.prog 57 #[.int .i64 (inst y m d c),.int .i64 u,.int .i64 k] w fun e w'=>e=.returned (.tuple #[.int .i64 (qsx y m d c u k).n,.int .i64 (qsx y m d c u k).e])∧Below w.heap.size w w':=by
 have hA:=qye (k:=k) hk c1 c2 h
 have hr:=qas hk c1 c2
 have HC:=hid (fun w=>qat hk c1 c2 w)
 have hu:u=4∨u=5∨u=1∨u=2∨u=3:=by omega
 by_cases hb1:k < -52596000
 ·rw[if_pos (.inl hb1)] at hA
  have HA:=hid hA
  obtain⟨n,hn⟩ : ∃ n,inst y m d c=n:=⟨_,rfl⟩
  rw[hn] at HC
  rw[hn]
  clear hr h hA hk hn
  have g1:decide (k < -52596000)=true:=by simpa using hb1
  rcases hu with rfl | rfl | rfl | rfl | rfl
  all_goals
   go_enter Tryz.func57,Tryz.ntmps57
   go_wp2_with fail
   (with_reducible refine(HC.out _).mono ?_)
   rintro e w1⟨rfl,hb⟩
   go_wp2
   go_ret2
   exact⟨by rw[HA.out];rfl,hb.alloc hb.size _⟩
 ·by_cases hb2:52596000<k
  ·rw[if_pos (.inr hb2)] at hA
   have HA:=hid hA
   obtain⟨n,hn⟩ : ∃ n,inst y m d c=n:=⟨_,rfl⟩
   rw[hn] at HC
   rw[hn]
   clear hr h hA hk hn
   rcases hu with rfl | rfl | rfl | rfl | rfl
   all_goals
    go_enter Tryz.func57,Tryz.ntmps57
    go_wp2_with fail
    (with_reducible refine(HC.out _).mono ?_)
    rintro e w1⟨rfl,hb⟩
    go_wp2
    go_ret2
    exact⟨by rw[HA.out];rfl,hb.alloc hb.size _⟩
  ·rw[if_neg (by omega)] at hA
   rcases hu with rfl | rfl | hu
   ·simp only[if_true] at hA
    rw[hA];exact q8x hk c1 c2 (by omega) (by omega) w
   ·simp only[Int.reduceEq,if_true,if_false] at hA
    rw[hA,Int.mul_comm 12 k];exact q8y hk c1 c2 (by omega) (by omega) w
   ·obtain⟨r0,r1,_,_⟩:=hr
    obtain⟨n,hn⟩ : ∃ n,inst y m d c=n:=⟨_,rfl⟩
    rw[hn] at HC hA r0 r1
    rw[hn]
    obtain⟨q,hq⟩ : ∃ q,k*(if u=1 then 1 else if u=2 then 60 else 1440)=q:=⟨_,rfl⟩
    have hu4 : ¬ u=4 ∧ ¬ u=5:=by omega
    rw[if_neg hu4.1,if_neg hu4.2,hq] at hA
    have HA:=hid hA
    clear hA hu4 h hk hn
    by_cases hin:0≤n+q∧n+q<52596000
    ·rw[if_pos hin] at HA
     have HI:=hid (fun w=>qwf hin w)
     rcases hu with rfl | rfl | rfl
     all_goals
      simp only[Int.reduceEq,if_true,if_false] at hq
      subst hq
      clear hin
      go_enter Tryz.func57,Tryz.ntmps57
      go_wp2_with fail
      (with_reducible refine(HC.out _).mono ?_)
      rintro e w1⟨rfl,hb⟩
      have HB:=hid ((hb.alloc hb.size (.cells #[.int .i64 y,.int .i64 m,.int .i64 d] 95)).alloc (by rw[World.size_alloc];have:=hb.size;omega) (.cells #[.int .i64 0,.int .i64 1,.int .i64 60,.int .i64 1440] 3))
      clear hb
      go_wp2_with fail
      ((first | (with_reducible refine(HI.out _).mono ?_) | (rw[Int.mul_one] at HI;(with_reducible refine(HI.out _).mono ?_))))
      rintro e w2⟨rfl,rfl⟩
      go_wp2
      go_ret2
      exact⟨by rw[HA.out];simp,HB.out⟩
    ·rw[if_neg hin] at HA
     have HI:=hid (fun w=>qmf hin w)
     rcases hu with rfl | rfl | rfl
     all_goals
      simp only[Int.reduceEq,if_true,if_false] at hq
      subst hq
      clear hin
      go_enter Tryz.func57,Tryz.ntmps57
      go_wp2_with fail
      (with_reducible refine(HC.out _).mono ?_)
      rintro e w1⟨rfl,hb⟩
      have HB:=hid ((hb.alloc hb.size (.cells #[.int .i64 y,.int .i64 m,.int .i64 d] 95)).alloc (by rw[World.size_alloc];have:=hb.size;omega) (.cells #[.int .i64 0,.int .i64 1,.int .i64 60,.int .i64 1440] 3))
      clear hb
      go_wp2_with fail
      ((first | (with_reducible refine(HI.out _).mono ?_) | (rw[Int.mul_one] at HI;(with_reducible refine(HI.out _).mono ?_))))
      rintro e w2⟨rfl,rfl⟩
      go_wp2
      go_ret2
      exact⟨by rw[HA.out];rfl,HB.out⟩
end Go.Proofs.YtldkgbnmaefaaaaGreatDoor.Ca
namespace Go.Proofs.YtldkgbnmaefaaaaGreatDoor.Ca
open Go.RowKit
set_option linter.unusedVariables false
set_option linter.unusedSimpArgs false
theorem qle(W:World)(b:Nat)(n:Int)(h:W.cell? ⟨b,0,none⟩=some (.int .u8 n)):(convert 43 9 (.slice (some ⟨b,0,none⟩) 1 1)).run Tryz.prog W=.ok (.string ⟨#[UInt8.ofNat n.toNat]⟩) W:=by
 have hl:(loadCells ⟨b,0,none⟩ 1).run Tryz.prog W=.ok ([n].map (Value.int .u8)).toArray W:=by
  simp[loadCells,go_sem,h]
 rw[run_convert_bytes_string W 43 9 5 _ 1 1 Tryz.underlying43 Tryz.underlying5 Tryz.underlying9,run_bytesToString W ⟨b,0,none⟩ 1 1 [n] hl]
 rfl
theorem qgm(w:World)(u:Nat):(convert 43 9 (.slice (some ⟨w.heap.size,0,none⟩) 1 1)).run Tryz.prog (w.alloc (.cells #[.int .u8 (48+(u:Int)%10)] 5))=.ok (.string ⟨#[UInt8.ofNat (48+u%10)]⟩) (w.alloc (.cells #[.int .u8 (48+(u:Int)%10)] 5)):=by
 rw[qle _ _ (48+(u:Int)%10) (by simp),show(48+(u:Int)%10).toNat=48+u%10 by omega]
theorem qoe(l:List UInt8)(c:UInt8):(⟨l.toArray⟩:ByteArray)++⟨#[c]⟩=⟨(l++[c]).toArray⟩:=by
 apply ByteArray.ext;apply Array.ext';simp
theorem qyq{u:Nat}(h:u<10000):(Lib.decDigits u).length≤4:=by
 have:=(qim (n:=(u:Int)) (by omega) (by omega)).2
 rwa [qcs (by omega),Int.toNat_natCast] at this
theorem qk1 : ∀ (u:Nat) (w:World),u<10000→Calls Tryz.prog 20 #[.int .i64 (u:Int)] w fun e w'=>e=.returned (.string ⟨(Lib.decDigits u).toArray⟩)∧Below w.heap.size w w':=by
 intro u
 induction u using Nat.strongRecOn with
 | _ u ih =>
  intro w hu
  have hm:0≤(u:Int)%10∧(u:Int)%10≤9:=by omega
  obtain⟨m0,m1⟩:=hm
  by_cases h:u<10
  ·have hd:decide ((u:Int)<10)=true:=by rw[decide_eq_true_iff];omega
   have HD:=hid (qcg h)
   have hcv:=qgm w u
   have HM:=hid (Nat.mod_eq_of_lt h)
   clear h ih
   go_enter Tryz.func20,Tryz.ntmps20
   go_wp2
   go_ret
   exact⟨qa4 (by rw[HD.out];simp[HM.out]),(Below.refl _ _).alloc (Nat.le_refl _) _⟩
  ·have hd:decide ((u:Int)<10)=false:=by rw[decide_eq_false_iff_not];omega
   have HD:=hid (qe2 (x:=u) (by omega))
   have hcv:=qgm w u
   have IH:=ih (u / 10) (by omega) (w.alloc (.cells #[.int .u8 (48+(u:Int)%10)] 5)) (by omega)
   rw[show((u / 10:Nat):Int)=(u:Int) / 10 by omega] at IH
   have HI:=hid IH
   have hl:=qyq (u:=u / 10) (by omega)
   clear h ih IH
   go_enter Tryz.func20,Tryz.ntmps20
   go_wp2_with fail
   refine HI.out.mono ?_
   rintro e w1⟨rfl,hb⟩
   go_wp2
   go_ret
   exact⟨qa4 (by rw[HD.out,←qoe];simp),qap hb⟩
theorem qb3(n:Int)(w:World)(h0:0≤n)(h:n<10000):Calls Tryz.prog 20 #[.int .i64 n] w fun e w'=>e=.returned (.string ⟨(Lib.itoa n).toArray⟩)∧Below w.heap.size w w':=by
 have HD:=qk1 n.toNat w (by omega)
 rw[show((n.toNat:Nat):Int)=n by omega,←qcs h0] at HD
 exact HD
theorem qid(n:Int)(w:World)(h0:0≤n)(h:n<100):Calls Tryz.prog 102 #[.int .i64 n] w fun e w'=>e=.returned (.string ⟨(two n).toArray⟩)∧Below w.heap.size w w':=by
 have HC:=hid (fun w=>qb3 n w h0 (by omega))
 have hl:=(qim (n:=n) h0 (by omega)).2
 by_cases h10:n<10
 ·have HT:Hid (two n=48 :: Lib.itoa n):=hid (by unfold two;rw[if_pos h10])
  go_enter Tryz.func102,Tryz.ntmps102
  go_wp2_with fail
  (with_reducible refine(HC.out _).mono ?_)
  rintro e w1⟨rfl,hb⟩
  go_wp2
  go_ret
  exact⟨qa4 (by rw[HT.out];apply ByteArray.ext;apply Array.ext';simp),hb⟩
 ·have HT:Hid (two n=Lib.itoa n):=hid (by unfold two;rw[if_neg h10])
  go_enter Tryz.func102,Tryz.ntmps102
  go_wp2_with fail
  (with_reducible refine(HC.out _).mono ?_)
  rintro e w1⟨rfl,hb⟩
  go_wp2
  go_ret
  exact⟨qa4 (by rw[HT.out]),hb⟩
theorem qkg{w:World}{g:Nat}{cs:Array Value}{t:TypeId}{i:Nat}{v:Value}(h:w.heap[g]? = some (.cells cs t))(hv:cs[i]? = some v):w.cell? ⟨g,i,none⟩=some v:=by
 simp[World.cell?,h,hv]
def W2(w:World):World:=(w.alloc (.cells #[.string ⟨#[74,97,110,117,97,114,121]⟩,.string ⟨#[70,101,98,114,117,97,114,121]⟩,.string ⟨#[77,97,114,99,104]⟩,.string ⟨#[65,112,114,105,108]⟩,.string ⟨#[77,97,121]⟩,.string ⟨#[74,117,110,101]⟩,.string ⟨#[74,117,108,121]⟩,.string ⟨#[65,117,103,117,115,116]⟩,.string ⟨#[83,101,112,116,101,109,98,101,114]⟩,.string ⟨#[79,99,116,111,98,101,114]⟩,.string ⟨#[78,111,118,101,109,98,101,114]⟩,.string ⟨#[68,101,99,101,109,98,101,114]⟩] 9)).alloc (.cells #[.string ⟨#[77,111,110,100,97,121]⟩,.string ⟨#[84,117,101,115,100,97,121]⟩,.string ⟨#[87,101,100,110,101,115,100,97,121]⟩,.string ⟨#[84,104,117,114,115,100,97,121]⟩,.string ⟨#[70,114,105,100,97,121]⟩,.string ⟨#[83,97,116,117,114,100,97,121]⟩,.string ⟨#[83,117,110,100,97,121]⟩] 9)
theorem W2.below(w:World):Below w.heap.size w (W2 w):=((Below.refl _ w).alloc (Nat.le_refl _) _).alloc (by rw[World.size_alloc];omega) _
theorem W2.size(w:World):(W2 w).heap.size=w.heap.size+1+1:=by unfold W2;rw[World.size_alloc,World.size_alloc]
theorem W2.m(w:World)(i:Nat)(h:i<12):(W2 w).cell? ⟨w.heap.size,i,none⟩=some (.string ⟨(qbu (i+1)).toArray⟩):=by
 have hh:(W2 w).heap[w.heap.size]? = some (.cells #[.string ⟨#[74,97,110,117,97,114,121]⟩,.string ⟨#[70,101,98,114,117,97,114,121]⟩,.string ⟨#[77,97,114,99,104]⟩,.string ⟨#[65,112,114,105,108]⟩,.string ⟨#[77,97,121]⟩,.string ⟨#[74,117,110,101]⟩,.string ⟨#[74,117,108,121]⟩,.string ⟨#[65,117,103,117,115,116]⟩,.string ⟨#[83,101,112,116,101,109,98,101,114]⟩,.string ⟨#[79,99,116,111,98,101,114]⟩,.string ⟨#[78,111,118,101,109,98,101,114]⟩,.string ⟨#[68,101,99,101,109,98,101,114]⟩] 9):=(Below.heap_alloc _ _ _ (by rw[World.size_alloc];omega)).trans (World.alloc_heap_new _ _)
 refine qkg hh ?_
 match i,h with
 | 0,_ | 1,_ | 2,_ | 3,_ | 4,_ | 5,_ | 6,_ | 7,_ | 8,_ | 9,_ | 10,_ | 11,_=>rfl
 |n+12,h=>omega
theorem W2.d(w:World)(i:Nat)(h:i<7):(W2 w).cell? ⟨w.heap.size+1,i,none⟩=some (.string ⟨(qb9 (i+1)).toArray⟩):=by
 have hh:(W2 w).heap[w.heap.size+1]? = some (.cells #[.string ⟨#[77,111,110,100,97,121]⟩,.string ⟨#[84,117,101,115,100,97,121]⟩,.string ⟨#[87,101,100,110,101,115,100,97,121]⟩,.string ⟨#[84,104,117,114,115,100,97,121]⟩,.string ⟨#[70,114,105,100,97,121]⟩,.string ⟨#[83,97,116,117,114,100,97,121]⟩,.string ⟨#[83,117,110,100,97,121]⟩] 9):=by
  have:=World.alloc_heap_new (w.alloc (.cells #[.string ⟨#[74,97,110,117,97,114,121]⟩,.string ⟨#[70,101,98,114,117,97,114,121]⟩,.string ⟨#[77,97,114,99,104]⟩,.string ⟨#[65,112,114,105,108]⟩,.string ⟨#[77,97,121]⟩,.string ⟨#[74,117,110,101]⟩,.string ⟨#[74,117,108,121]⟩,.string ⟨#[65,117,103,117,115,116]⟩,.string ⟨#[83,101,112,116,101,109,98,101,114]⟩,.string ⟨#[79,99,116,111,98,101,114]⟩,.string ⟨#[78,111,118,101,109,98,101,114]⟩,.string ⟨#[68,101,99,101,109,98,101,114]⟩] 9)) (.cells #[.string ⟨#[77,111,110,100,97,121]⟩,.string ⟨#[84,117,101,115,100,97,121]⟩,.string ⟨#[87,101,100,110,101,115,100,97,121]⟩,.string ⟨#[84,104,117,114,115,100,97,121]⟩,.string ⟨#[70,114,105,100,97,121]⟩,.string ⟨#[83,97,116,117,114,100,97,121]⟩,.string ⟨#[83,117,110,100,97,121]⟩] 9)
  rwa [World.size_alloc] at this
 refine qkg hh ?_
 match i,h with
 | 0,_ | 1,_ | 2,_ | 3,_ | 4,_ | 5,_ | 6,_=>rfl
 |n+7,h=>omega
structure Hd (w w2:World) (y m d:Int):Prop where
 x:Nm3 w2 (w2.heap.size-1) y m d
 b:Below w.heap.size w w2
theorem q6y{y m d c:Int}(hk:Ok y m d)(c1:0≤c)(c2:c<1440)(w:World) :
  Calls Tryz.prog 54 #[.int .u8 89,.int .i64 (inst y m d c)] w fun e w'=>e=.returned (.tuple #[.string ⟨(tx y m d c 89).toArray⟩,.bool true])∧Below w.heap.size w w':=by
 have hy:=hk.in_year
 have hl:=qcd y
 have hm:=qbf y m
 have HC:=hid (fun w=>qat hk c1 c2 w)
 have hr:=qas hk c1 c2
 have HW:=hid (fun w=>qa0 ⟨hr.1,hr.2.1⟩ w)
 rw[hr.2.2.1] at HW
 have HK:=hid hk
 obtain⟨a1,a2,a3,a4,a5,a6⟩:=hk
 obtain⟨n,hn⟩ : ∃ n,inst y m d c=n:=⟨_,rfl⟩
 rw[hn] at HC HW
 rw[hn]
 clear hn hr
 have hw:1≤wd (dn y m d)∧wd (dn y m d)≤7:=by unfold wd;omega
 have HX:Hid (tx y m d c 89=Lib.itoa (y)):=hid (by simp[tx])
 have HQ:=hid (fun w=>qb3 (y) w (by omega) (by omega))
 go_enter Tryz.func54,Tryz.ntmps54
 go_wp2_with fail
 (with_reducible refine(HC.out _).mono ?_)
 rintro e w1⟨rfl,hb⟩
 have hb':Below (W2 w).heap.size (W2 w) w1:=hb
 have HB:=hid ((W2.below w).trans (hb'.mono (W2.below w).size))
 have X:=Nm3.new w1 y m d
 have HX1:=hid (HB.out.alloc HB.out.size (.cells #[.int .i64 y,.int .i64 m,.int .i64 d] 95))
 clear hb hb'
 go_wp2_with fail
 (with_reducible refine(HW.out _).mono ?_)
 rintro e w2⟨rfl,hb2⟩
 have HB2:=hid (HX1.out.trans (hb2.mono HX1.out.size))
 have X:=X.below hb2
 have q0:=X.c0
 have q1:=X.c1
 have q2:=X.c2
 clear hb2
 go_wp2_with fail
 (with_reducible refine(HQ.out _).mono ?_)
 rintro e w3⟨rfl,hb3⟩
 have HB3:=hid (HB2.out.trans (hb3.mono HB2.out.size))
 clear hb3
 go_wp2
 go_ret2
 exact⟨by rw[HX.out];rfl,HB3.out⟩
theorem qz8{y m d c:Int}(hk:Ok y m d)(c1:0≤c)(c2:c<1440)(w:World) :
  Calls Tryz.prog 54 #[.int .u8 110,.int .i64 (inst y m d c)] w fun e w'=>e=.returned (.tuple #[.string ⟨(tx y m d c 110).toArray⟩,.bool true])∧Below w.heap.size w w':=by
 have hy:=hk.in_year
 have hl:=qcd y
 have hm:=qbf y m
 have HC:=hid (fun w=>qat hk c1 c2 w)
 have hr:=qas hk c1 c2
 have HW:=hid (fun w=>qa0 ⟨hr.1,hr.2.1⟩ w)
 rw[hr.2.2.1] at HW
 have HK:=hid hk
 obtain⟨a1,a2,a3,a4,a5,a6⟩:=hk
 obtain⟨n,hn⟩ : ∃ n,inst y m d c=n:=⟨_,rfl⟩
 rw[hn] at HC HW
 rw[hn]
 clear hn hr
 have hw:1≤wd (dn y m d)∧wd (dn y m d)≤7:=by unfold wd;omega
 have HX:Hid (tx y m d c 110=Lib.itoa (m)):=hid (by simp[tx])
 have HQ:=hid (fun w=>qb3 (m) w (by omega) (by omega))
 go_enter Tryz.func54,Tryz.ntmps54
 go_wp2_with fail
 (with_reducible refine(HC.out _).mono ?_)
 rintro e w1⟨rfl,hb⟩
 have hb':Below (W2 w).heap.size (W2 w) w1:=hb
 have HB:=hid ((W2.below w).trans (hb'.mono (W2.below w).size))
 have X:=Nm3.new w1 y m d
 have HX1:=hid (HB.out.alloc HB.out.size (.cells #[.int .i64 y,.int .i64 m,.int .i64 d] 95))
 clear hb hb'
 go_wp2_with fail
 (with_reducible refine(HW.out _).mono ?_)
 rintro e w2⟨rfl,hb2⟩
 have HB2:=hid (HX1.out.trans (hb2.mono HX1.out.size))
 have X:=X.below hb2
 have q0:=X.c0
 have q1:=X.c1
 have q2:=X.c2
 clear hb2
 go_wp2_with fail
 (with_reducible refine(HQ.out _).mono ?_)
 rintro e w3⟨rfl,hb3⟩
 have HB3:=hid (HB2.out.trans (hb3.mono HB2.out.size))
 clear hb3
 go_wp2
 go_ret2
 exact⟨by rw[HX.out];rfl,HB3.out⟩
theorem qz5{y m d c:Int}(hk:Ok y m d)(c1:0≤c)(c2:c<1440)(w:World) :
  Calls Tryz.prog 54 #[.int .u8 106,.int .i64 (inst y m d c)] w fun e w'=>e=.returned (.tuple #[.string ⟨(tx y m d c 106).toArray⟩,.bool true])∧Below w.heap.size w w':=by
 have hy:=hk.in_year
 have hl:=qcd y
 have hm:=qbf y m
 have HC:=hid (fun w=>qat hk c1 c2 w)
 have hr:=qas hk c1 c2
 have HW:=hid (fun w=>qa0 ⟨hr.1,hr.2.1⟩ w)
 rw[hr.2.2.1] at HW
 have HK:=hid hk
 obtain⟨a1,a2,a3,a4,a5,a6⟩:=hk
 obtain⟨n,hn⟩ : ∃ n,inst y m d c=n:=⟨_,rfl⟩
 rw[hn] at HC HW
 rw[hn]
 clear hn hr
 have hw:1≤wd (dn y m d)∧wd (dn y m d)≤7:=by unfold wd;omega
 have HX:Hid (tx y m d c 106=Lib.itoa (d)):=hid (by simp[tx])
 have HQ:=hid (fun w=>qb3 (d) w (by omega) (by omega))
 go_enter Tryz.func54,Tryz.ntmps54
 go_wp2_with fail
 (with_reducible refine(HC.out _).mono ?_)
 rintro e w1⟨rfl,hb⟩
 have hb':Below (W2 w).heap.size (W2 w) w1:=hb
 have HB:=hid ((W2.below w).trans (hb'.mono (W2.below w).size))
 have X:=Nm3.new w1 y m d
 have HX1:=hid (HB.out.alloc HB.out.size (.cells #[.int .i64 y,.int .i64 m,.int .i64 d] 95))
 clear hb hb'
 go_wp2_with fail
 (with_reducible refine(HW.out _).mono ?_)
 rintro e w2⟨rfl,hb2⟩
 have HB2:=hid (HX1.out.trans (hb2.mono HX1.out.size))
 have X:=X.below hb2
 have q0:=X.c0
 have q1:=X.c1
 have q2:=X.c2
 clear hb2
 go_wp2_with fail
 (with_reducible refine(HQ.out _).mono ?_)
 rintro e w3⟨rfl,hb3⟩
 have HB3:=hid (HB2.out.trans (hb3.mono HB2.out.size))
 clear hb3
 go_wp2
 go_ret2
 exact⟨by rw[HX.out];rfl,HB3.out⟩
theorem q6x{y m d c:Int}(hk:Ok y m d)(c1:0≤c)(c2:c<1440)(w:World) :
  Calls Tryz.prog 54 #[.int .u8 78,.int .i64 (inst y m d c)] w fun e w'=>e=.returned (.tuple #[.string ⟨(tx y m d c 78).toArray⟩,.bool true])∧Below w.heap.size w w':=by
 have hy:=hk.in_year
 have hl:=qcd y
 have hm:=qbf y m
 have HC:=hid (fun w=>qat hk c1 c2 w)
 have hr:=qas hk c1 c2
 have HW:=hid (fun w=>qa0 ⟨hr.1,hr.2.1⟩ w)
 rw[hr.2.2.1] at HW
 have HK:=hid hk
 obtain⟨a1,a2,a3,a4,a5,a6⟩:=hk
 obtain⟨n,hn⟩ : ∃ n,inst y m d c=n:=⟨_,rfl⟩
 rw[hn] at HC HW
 rw[hn]
 clear hn hr
 have hw:1≤wd (dn y m d)∧wd (dn y m d)≤7:=by unfold wd;omega
 have HX:Hid (tx y m d c 78=Lib.itoa (wd (dn y m d))):=hid (by simp[tx])
 have HQ:=hid (fun w=>qb3 (wd (dn y m d)) w (by omega) (by omega))
 go_enter Tryz.func54,Tryz.ntmps54
 go_wp2_with fail
 (with_reducible refine(HC.out _).mono ?_)
 rintro e w1⟨rfl,hb⟩
 have hb':Below (W2 w).heap.size (W2 w) w1:=hb
 have HB:=hid ((W2.below w).trans (hb'.mono (W2.below w).size))
 have X:=Nm3.new w1 y m d
 have HX1:=hid (HB.out.alloc HB.out.size (.cells #[.int .i64 y,.int .i64 m,.int .i64 d] 95))
 clear hb hb'
 go_wp2_with fail
 (with_reducible refine(HW.out _).mono ?_)
 rintro e w2⟨rfl,hb2⟩
 have HB2:=hid (HX1.out.trans (hb2.mono HX1.out.size))
 have X:=X.below hb2
 have q0:=X.c0
 have q1:=X.c1
 have q2:=X.c2
 clear hb2
 go_wp2_with fail
 (with_reducible refine(HQ.out _).mono ?_)
 rintro e w3⟨rfl,hb3⟩
 have HB3:=hid (HB2.out.trans (hb3.mono HB2.out.size))
 clear hb3
 go_wp2
 go_ret2
 exact⟨by rw[HX.out];rfl,HB3.out⟩
theorem q6u{y m d c:Int}(hk:Ok y m d)(c1:0≤c)(c2:c<1440)(w:World) :
  Calls Tryz.prog 54 #[.int .u8 71,.int .i64 (inst y m d c)] w fun e w'=>e=.returned (.tuple #[.string ⟨(tx y m d c 71).toArray⟩,.bool true])∧Below w.heap.size w w':=by
 have hy:=hk.in_year
 have hl:=qcd y
 have hm:=qbf y m
 have HC:=hid (fun w=>qat hk c1 c2 w)
 have hr:=qas hk c1 c2
 have HW:=hid (fun w=>qa0 ⟨hr.1,hr.2.1⟩ w)
 rw[hr.2.2.1] at HW
 have HK:=hid hk
 obtain⟨a1,a2,a3,a4,a5,a6⟩:=hk
 obtain⟨n,hn⟩ : ∃ n,inst y m d c=n:=⟨_,rfl⟩
 rw[hn] at HC HW
 rw[hn]
 clear hn hr
 have hw:1≤wd (dn y m d)∧wd (dn y m d)≤7:=by unfold wd;omega
 have HX:Hid (tx y m d c 71=Lib.itoa (c / 60)):=hid (by simp[tx])
 have HQ:=hid (fun w=>qb3 (c / 60) w (by omega) (by omega))
 go_enter Tryz.func54,Tryz.ntmps54
 go_wp2_with fail
 (with_reducible refine(HC.out _).mono ?_)
 rintro e w1⟨rfl,hb⟩
 have hb':Below (W2 w).heap.size (W2 w) w1:=hb
 have HB:=hid ((W2.below w).trans (hb'.mono (W2.below w).size))
 have X:=Nm3.new w1 y m d
 have HX1:=hid (HB.out.alloc HB.out.size (.cells #[.int .i64 y,.int .i64 m,.int .i64 d] 95))
 clear hb hb'
 go_wp2_with fail
 (with_reducible refine(HW.out _).mono ?_)
 rintro e w2⟨rfl,hb2⟩
 have HB2:=hid (HX1.out.trans (hb2.mono HX1.out.size))
 have X:=X.below hb2
 have q0:=X.c0
 have q1:=X.c1
 have q2:=X.c2
 clear hb2
 go_wp2_with fail
 (with_reducible refine(HQ.out _).mono ?_)
 rintro e w3⟨rfl,hb3⟩
 have HB3:=hid (HB2.out.trans (hb3.mono HB2.out.size))
 clear hb3
 go_wp2
 go_ret2
 exact⟨by rw[HX.out];rfl,HB3.out⟩
theorem qz7{y m d c:Int}(hk:Ok y m d)(c1:0≤c)(c2:c<1440)(w:World) :
  Calls Tryz.prog 54 #[.int .u8 109,.int .i64 (inst y m d c)] w fun e w'=>e=.returned (.tuple #[.string ⟨(tx y m d c 109).toArray⟩,.bool true])∧Below w.heap.size w w':=by
 have hy:=hk.in_year
 have hl:=qcd y
 have hm:=qbf y m
 have HC:=hid (fun w=>qat hk c1 c2 w)
 have hr:=qas hk c1 c2
 have HW:=hid (fun w=>qa0 ⟨hr.1,hr.2.1⟩ w)
 rw[hr.2.2.1] at HW
 have HK:=hid hk
 obtain⟨a1,a2,a3,a4,a5,a6⟩:=hk
 obtain⟨n,hn⟩ : ∃ n,inst y m d c=n:=⟨_,rfl⟩
 rw[hn] at HC HW
 rw[hn]
 clear hn hr
 have hw:1≤wd (dn y m d)∧wd (dn y m d)≤7:=by unfold wd;omega
 have HX:Hid (tx y m d c 109=two (m)):=hid (by simp[tx])
 have HQ:=hid (fun w=>qid (m) w (by omega) (by omega))
 go_enter Tryz.func54,Tryz.ntmps54
 go_wp2_with fail
 (with_reducible refine(HC.out _).mono ?_)
 rintro e w1⟨rfl,hb⟩
 have hb':Below (W2 w).heap.size (W2 w) w1:=hb
 have HB:=hid ((W2.below w).trans (hb'.mono (W2.below w).size))
 have X:=Nm3.new w1 y m d
 have HX1:=hid (HB.out.alloc HB.out.size (.cells #[.int .i64 y,.int .i64 m,.int .i64 d] 95))
 clear hb hb'
 go_wp2_with fail
 (with_reducible refine(HW.out _).mono ?_)
 rintro e w2⟨rfl,hb2⟩
 have HB2:=hid (HX1.out.trans (hb2.mono HX1.out.size))
 have X:=X.below hb2
 have q0:=X.c0
 have q1:=X.c1
 have q2:=X.c2
 clear hb2
 go_wp2_with fail
 (with_reducible refine(HQ.out _).mono ?_)
 rintro e w3⟨rfl,hb3⟩
 have HB3:=hid (HB2.out.trans (hb3.mono HB2.out.size))
 clear hb3
 go_wp2
 go_ret2
 exact⟨by rw[HX.out];rfl,HB3.out⟩
theorem qz3{y m d c:Int}(hk:Ok y m d)(c1:0≤c)(c2:c<1440)(w:World) :
  Calls Tryz.prog 54 #[.int .u8 100,.int .i64 (inst y m d c)] w fun e w'=>e=.returned (.tuple #[.string ⟨(tx y m d c 100).toArray⟩,.bool true])∧Below w.heap.size w w':=by
 have hy:=hk.in_year
 have hl:=qcd y
 have hm:=qbf y m
 have HC:=hid (fun w=>qat hk c1 c2 w)
 have hr:=qas hk c1 c2
 have HW:=hid (fun w=>qa0 ⟨hr.1,hr.2.1⟩ w)
 rw[hr.2.2.1] at HW
 have HK:=hid hk
 obtain⟨a1,a2,a3,a4,a5,a6⟩:=hk
 obtain⟨n,hn⟩ : ∃ n,inst y m d c=n:=⟨_,rfl⟩
 rw[hn] at HC HW
 rw[hn]
 clear hn hr
 have hw:1≤wd (dn y m d)∧wd (dn y m d)≤7:=by unfold wd;omega
 have HX:Hid (tx y m d c 100=two (d)):=hid (by simp[tx])
 have HQ:=hid (fun w=>qid (d) w (by omega) (by omega))
 go_enter Tryz.func54,Tryz.ntmps54
 go_wp2_with fail
 (with_reducible refine(HC.out _).mono ?_)
 rintro e w1⟨rfl,hb⟩
 have hb':Below (W2 w).heap.size (W2 w) w1:=hb
 have HB:=hid ((W2.below w).trans (hb'.mono (W2.below w).size))
 have X:=Nm3.new w1 y m d
 have HX1:=hid (HB.out.alloc HB.out.size (.cells #[.int .i64 y,.int .i64 m,.int .i64 d] 95))
 clear hb hb'
 go_wp2_with fail
 (with_reducible refine(HW.out _).mono ?_)
 rintro e w2⟨rfl,hb2⟩
 have HB2:=hid (HX1.out.trans (hb2.mono HX1.out.size))
 have X:=X.below hb2
 have q0:=X.c0
 have q1:=X.c1
 have q2:=X.c2
 clear hb2
 go_wp2_with fail
 (with_reducible refine(HQ.out _).mono ?_)
 rintro e w3⟨rfl,hb3⟩
 have HB3:=hid (HB2.out.trans (hb3.mono HB2.out.size))
 clear hb3
 go_wp2
 go_ret2
 exact⟨by rw[HX.out];rfl,HB3.out⟩
theorem q6v{y m d c:Int}(hk:Ok y m d)(c1:0≤c)(c2:c<1440)(w:World) :
  Calls Tryz.prog 54 #[.int .u8 72,.int .i64 (inst y m d c)] w fun e w'=>e=.returned (.tuple #[.string ⟨(tx y m d c 72).toArray⟩,.bool true])∧Below w.heap.size w w':=by
 have hy:=hk.in_year
 have hl:=qcd y
 have hm:=qbf y m
 have HC:=hid (fun w=>qat hk c1 c2 w)
 have hr:=qas hk c1 c2
 have HW:=hid (fun w=>qa0 ⟨hr.1,hr.2.1⟩ w)
 rw[hr.2.2.1] at HW
 have HK:=hid hk
 obtain⟨a1,a2,a3,a4,a5,a6⟩:=hk
 obtain⟨n,hn⟩ : ∃ n,inst y m d c=n:=⟨_,rfl⟩
 rw[hn] at HC HW
 rw[hn]
 clear hn hr
 have hw:1≤wd (dn y m d)∧wd (dn y m d)≤7:=by unfold wd;omega
 have HX:Hid (tx y m d c 72=two (c / 60)):=hid (by simp[tx])
 have HQ:=hid (fun w=>qid (c / 60) w (by omega) (by omega))
 go_enter Tryz.func54,Tryz.ntmps54
 go_wp2_with fail
 (with_reducible refine(HC.out _).mono ?_)
 rintro e w1⟨rfl,hb⟩
 have hb':Below (W2 w).heap.size (W2 w) w1:=hb
 have HB:=hid ((W2.below w).trans (hb'.mono (W2.below w).size))
 have X:=Nm3.new w1 y m d
 have HX1:=hid (HB.out.alloc HB.out.size (.cells #[.int .i64 y,.int .i64 m,.int .i64 d] 95))
 clear hb hb'
 go_wp2_with fail
 (with_reducible refine(HW.out _).mono ?_)
 rintro e w2⟨rfl,hb2⟩
 have HB2:=hid (HX1.out.trans (hb2.mono HX1.out.size))
 have X:=X.below hb2
 have q0:=X.c0
 have q1:=X.c1
 have q2:=X.c2
 clear hb2
 go_wp2_with fail
 (with_reducible refine(HQ.out _).mono ?_)
 rintro e w3⟨rfl,hb3⟩
 have HB3:=hid (HB2.out.trans (hb3.mono HB2.out.size))
 clear hb3
 go_wp2
 go_ret2
 exact⟨by rw[HX.out];rfl,HB3.out⟩
theorem qz4{y m d c:Int}(hk:Ok y m d)(c1:0≤c)(c2:c<1440)(w:World) :
  Calls Tryz.prog 54 #[.int .u8 105,.int .i64 (inst y m d c)] w fun e w'=>e=.returned (.tuple #[.string ⟨(tx y m d c 105).toArray⟩,.bool true])∧Below w.heap.size w w':=by
 have hy:=hk.in_year
 have hl:=qcd y
 have hm:=qbf y m
 have HC:=hid (fun w=>qat hk c1 c2 w)
 have hr:=qas hk c1 c2
 have HW:=hid (fun w=>qa0 ⟨hr.1,hr.2.1⟩ w)
 rw[hr.2.2.1] at HW
 have HK:=hid hk
 obtain⟨a1,a2,a3,a4,a5,a6⟩:=hk
 obtain⟨n,hn⟩ : ∃ n,inst y m d c=n:=⟨_,rfl⟩
 rw[hn] at HC HW
 rw[hn]
 clear hn hr
 have hw:1≤wd (dn y m d)∧wd (dn y m d)≤7:=by unfold wd;omega
 have HX:Hid (tx y m d c 105=two (c%60)):=hid (by simp[tx])
 have HQ:=hid (fun w=>qid (c%60) w (by omega) (by omega))
 go_enter Tryz.func54,Tryz.ntmps54
 go_wp2_with fail
 (with_reducible refine(HC.out _).mono ?_)
 rintro e w1⟨rfl,hb⟩
 have hb':Below (W2 w).heap.size (W2 w) w1:=hb
 have HB:=hid ((W2.below w).trans (hb'.mono (W2.below w).size))
 have X:=Nm3.new w1 y m d
 have HX1:=hid (HB.out.alloc HB.out.size (.cells #[.int .i64 y,.int .i64 m,.int .i64 d] 95))
 clear hb hb'
 go_wp2_with fail
 (with_reducible refine(HW.out _).mono ?_)
 rintro e w2⟨rfl,hb2⟩
 have HB2:=hid (HX1.out.trans (hb2.mono HX1.out.size))
 have X:=X.below hb2
 have q0:=X.c0
 have q1:=X.c1
 have q2:=X.c2
 clear hb2
 go_wp2_with fail
 (with_reducible refine(HQ.out _).mono ?_)
 rintro e w3⟨rfl,hb3⟩
 have HB3:=hid (HB2.out.trans (hb3.mono HB2.out.size))
 clear hb3
 go_wp2
 go_ret2
 exact⟨by rw[HX.out];rfl,HB3.out⟩
theorem qz9{y m d c:Int}(hk:Ok y m d)(c1:0≤c)(c2:c<1440)(w:World) :
  Calls Tryz.prog 54 #[.int .u8 122,.int .i64 (inst y m d c)] w fun e w'=>e=.returned (.tuple #[.string ⟨(tx y m d c 122).toArray⟩,.bool true])∧Below w.heap.size w w':=by
 have hy:=hk.in_year
 have hl:=qcd y
 have hm:=qbf y m
 have HC:=hid (fun w=>qat hk c1 c2 w)
 have hr:=qas hk c1 c2
 have HW:=hid (fun w=>qa0 ⟨hr.1,hr.2.1⟩ w)
 rw[hr.2.2.1] at HW
 have HK:=hid hk
 obtain⟨a1,a2,a3,a4,a5,a6⟩:=hk
 obtain⟨n,hn⟩ : ∃ n,inst y m d c=n:=⟨_,rfl⟩
 rw[hn] at HC HW
 rw[hn]
 clear hn hr
 have hw:1≤wd (dn y m d)∧wd (dn y m d)≤7:=by unfold wd;omega
 have HX:Hid (tx y m d c 122=Lib.itoa (d-1+cum y m)):=hid (by rw[show d-1+cum y m=cum y m+d-1 by omega];simp[tx])
 have HQ:=hid (fun w=>qb3 (d-1+cum y m) w (by omega) (by omega))
 have HP:=hid (fun w=>qkd HK.out w)
 go_enter Tryz.func54,Tryz.ntmps54
 go_wp2_with fail
 (with_reducible refine(HC.out _).mono ?_)
 rintro e w1⟨rfl,hb⟩
 have hb':Below (W2 w).heap.size (W2 w) w1:=hb
 have HB:=hid ((W2.below w).trans (hb'.mono (W2.below w).size))
 have X:=Nm3.new w1 y m d
 have HX1:=hid (HB.out.alloc HB.out.size (.cells #[.int .i64 y,.int .i64 m,.int .i64 d] 95))
 clear hb hb'
 go_wp2_with fail
 (with_reducible refine(HW.out _).mono ?_)
 rintro e w2⟨rfl,hb2⟩
 have HB2:=hid (HX1.out.trans (hb2.mono HX1.out.size))
 have X:=X.below hb2
 have q0:=X.c0
 have q1:=X.c1
 have q2:=X.c2
 clear hb2
 go_wp2_with fail
 (with_reducible refine(HP.out _).mono ?_)
 rintro e w3⟨rfl,hb3⟩
 have HB3:=hid (HB2.out.trans (hb3.mono HB2.out.size))
 clear hb3
 go_wp2_with fail
 (with_reducible refine(HQ.out _).mono ?_)
 rintro e w4⟨rfl,hb4⟩
 have HB4:=hid (HB3.out.trans (hb4.mono HB3.out.size))
 clear hb4
 go_wp2
 go_ret2
 exact⟨by rw[HX.out];rfl,HB4.out⟩
theorem q6t{y m d c:Int}(hk:Ok y m d)(c1:0≤c)(c2:c<1440)(w:World) :
  Calls Tryz.prog 54 #[.int .u8 70,.int .i64 (inst y m d c)] w fun e w'=>e=.returned (.tuple #[.string ⟨(tx y m d c 70).toArray⟩,.bool true])∧Below w.heap.size w w':=by
 have hy:=hk.in_year
 have hl:=qcd y
 have hm:=qbf y m
 have HC:=hid (fun w=>qat hk c1 c2 w)
 have hr:=qas hk c1 c2
 have HW:=hid (fun w=>qa0 ⟨hr.1,hr.2.1⟩ w)
 rw[hr.2.2.1] at HW
 have HK:=hid hk
 obtain⟨a1,a2,a3,a4,a5,a6⟩:=hk
 obtain⟨n,hn⟩ : ∃ n,inst y m d c=n:=⟨_,rfl⟩
 rw[hn] at HC HW
 rw[hn]
 clear hn hr
 have hw:1≤wd (dn y m d)∧wd (dn y m d)≤7:=by unfold wd;omega
 have HX:Hid (tx y m d c 70=qbu (m)):=hid (by simp[tx])
 obtain⟨S,hS⟩ : ∃ S:ByteArray,⟨(qbu (m)).toArray⟩=S:=⟨_,rfl⟩
 have hz:3≤S.size:=by rw[←hS];show 3≤(qbu (m)).toArray.size;simp;exact qct.1
 have hz2:S.size≤9:=by rw[←hS];show(qbu (m)).toArray.size≤9;simp;exact qct.2
 have HR:Hid (S=⟨(qbu (m)).toArray⟩):=hid hS.symm
 obtain⟨i,hi,hie⟩ : ∃ i:Nat,i<12∧m=(i:Int)+1:=⟨(m-1).toNat,by omega,by omega⟩
 have hcell:=W2.m w i hi
 rw[←hie,hS] at hcell
 have hw12:(i:Int)<12:=by omega
 have HCL:=hid hcell
 clear hS hcell
 subst hie
 go_enter Tryz.func54,Tryz.ntmps54
 go_wp2_with fail
 (with_reducible refine(HC.out _).mono ?_)
 rintro e w1⟨rfl,hb⟩
 have hb':Below (W2 w).heap.size (W2 w) w1:=hb
 have HB:=hid ((W2.below w).trans (hb'.mono (W2.below w).size))
 have cl:=(hb'.cell (p:=⟨w.heap.size,i,none⟩) (by show w.heap.size<(W2 w).heap.size;rw[W2.size w];omega)).trans HCL.out
 have X:=Nm3.new w1 y (↑i+1) d
 have HX1:=hid (HB.out.alloc HB.out.size (.cells #[.int .i64 y,.int .i64 (↑i+1),.int .i64 d] 95))
 have hs1:w.heap.size+1<w1.heap.size:=by have:=hb'.size;rw[W2.size w] at this;omega
 have cl:=(((Below.refl _ w1).alloc (Nat.le_refl _) (.cells #[.int .i64 y,.int .i64 (↑i+1),.int .i64 d] 95)).cell (p:=⟨w.heap.size,i,none⟩) (by show w.heap.size<w1.heap.size;omega)).trans cl
 clear hb hb'
 go_wp2_with fail
 (with_reducible refine(HW.out _).mono ?_)
 rintro e w2⟨rfl,hb2⟩
 have HB2:=hid (HX1.out.trans (hb2.mono HX1.out.size))
 have X:=X.below hb2
 have q0:=X.c0
 have q1:=X.c1
 have q2:=X.c2
 have cl:=(hb2.cell (p:=⟨w.heap.size,i,none⟩) (by show w.heap.size<(w1.alloc _).heap.size;rw[World.size_alloc];omega)).trans cl
 clear hb2
 go_wp2
 go_ret2
 exact⟨by rw[HX.out,←HR.out];rfl,HB2.out⟩
theorem q6w{y m d c:Int}(hk:Ok y m d)(c1:0≤c)(c2:c<1440)(w:World) :
  Calls Tryz.prog 54 #[.int .u8 77,.int .i64 (inst y m d c)] w fun e w'=>e=.returned (.tuple #[.string ⟨(tx y m d c 77).toArray⟩,.bool true])∧Below w.heap.size w w':=by
 have hy:=hk.in_year
 have hl:=qcd y
 have hm:=qbf y m
 have HC:=hid (fun w=>qat hk c1 c2 w)
 have hr:=qas hk c1 c2
 have HW:=hid (fun w=>qa0 ⟨hr.1,hr.2.1⟩ w)
 rw[hr.2.2.1] at HW
 have HK:=hid hk
 obtain⟨a1,a2,a3,a4,a5,a6⟩:=hk
 obtain⟨n,hn⟩ : ∃ n,inst y m d c=n:=⟨_,rfl⟩
 rw[hn] at HC HW
 rw[hn]
 clear hn hr
 have hw:1≤wd (dn y m d)∧wd (dn y m d)≤7:=by unfold wd;omega
 have HX:Hid (tx y m d c 77=(qbu (m)).take 3):=hid (by simp[tx])
 obtain⟨S,hS⟩ : ∃ S:ByteArray,⟨(qbu (m)).toArray⟩=S:=⟨_,rfl⟩
 have hz:3≤S.size:=by rw[←hS];show 3≤(qbu (m)).toArray.size;simp;exact qct.1
 have hz2:S.size≤9:=by rw[←hS];show(qbu (m)).toArray.size≤9;simp;exact qct.2
 have HR:Hid (S.extract 0 3=⟨((qbu (m)).take 3).toArray⟩):=hid (qi6 (by rw[Lib.extract_data,←hS];simp))
 obtain⟨i,hi,hie⟩ : ∃ i:Nat,i<12∧m=(i:Int)+1:=⟨(m-1).toNat,by omega,by omega⟩
 have hcell:=W2.m w i hi
 rw[←hie,hS] at hcell
 have hw12:(i:Int)<12:=by omega
 have HCL:=hid hcell
 clear hS hcell
 subst hie
 go_enter Tryz.func54,Tryz.ntmps54
 go_wp2_with fail
 (with_reducible refine(HC.out _).mono ?_)
 rintro e w1⟨rfl,hb⟩
 have hb':Below (W2 w).heap.size (W2 w) w1:=hb
 have HB:=hid ((W2.below w).trans (hb'.mono (W2.below w).size))
 have cl:=(hb'.cell (p:=⟨w.heap.size,i,none⟩) (by show w.heap.size<(W2 w).heap.size;rw[W2.size w];omega)).trans HCL.out
 have X:=Nm3.new w1 y (↑i+1) d
 have HX1:=hid (HB.out.alloc HB.out.size (.cells #[.int .i64 y,.int .i64 (↑i+1),.int .i64 d] 95))
 have hs1:w.heap.size+1<w1.heap.size:=by have:=hb'.size;rw[W2.size w] at this;omega
 have cl:=(((Below.refl _ w1).alloc (Nat.le_refl _) (.cells #[.int .i64 y,.int .i64 (↑i+1),.int .i64 d] 95)).cell (p:=⟨w.heap.size,i,none⟩) (by show w.heap.size<w1.heap.size;omega)).trans cl
 clear hb hb'
 go_wp2_with fail
 (with_reducible refine(HW.out _).mono ?_)
 rintro e w2⟨rfl,hb2⟩
 have HB2:=hid (HX1.out.trans (hb2.mono HX1.out.size))
 have X:=X.below hb2
 have q0:=X.c0
 have q1:=X.c1
 have q2:=X.c2
 have cl:=(hb2.cell (p:=⟨w.heap.size,i,none⟩) (by show w.heap.size<(w1.alloc _).heap.size;rw[World.size_alloc];omega)).trans cl
 clear hb2
 go_wp2
 go_ret2
 exact⟨by rw[HX.out,←HR.out];rfl,HB2.out⟩
theorem qz6{y m d c:Int}(hk:Ok y m d)(c1:0≤c)(c2:c<1440)(w:World) :
  Calls Tryz.prog 54 #[.int .u8 108,.int .i64 (inst y m d c)] w fun e w'=>e=.returned (.tuple #[.string ⟨(tx y m d c 108).toArray⟩,.bool true])∧Below w.heap.size w w':=by
 have hy:=hk.in_year
 have hl:=qcd y
 have hm:=qbf y m
 have HC:=hid (fun w=>qat hk c1 c2 w)
 have hr:=qas hk c1 c2
 have HW:=hid (fun w=>qa0 ⟨hr.1,hr.2.1⟩ w)
 rw[hr.2.2.1] at HW
 have HK:=hid hk
 obtain⟨a1,a2,a3,a4,a5,a6⟩:=hk
 obtain⟨n,hn⟩ : ∃ n,inst y m d c=n:=⟨_,rfl⟩
 rw[hn] at HC HW
 rw[hn]
 clear hn hr
 have hw:1≤wd (dn y m d)∧wd (dn y m d)≤7:=by unfold wd;omega
 have HX:Hid (tx y m d c 108=qb9 (wd (dn y m d))):=hid (by simp[tx])
 obtain⟨S,hS⟩ : ∃ S:ByteArray,⟨(qb9 (wd (dn y m d))).toArray⟩=S:=⟨_,rfl⟩
 have hz:3≤S.size:=by rw[←hS];show 3≤(qb9 (wd (dn y m d))).toArray.size;simp;exact qc0.1
 have hz2:S.size≤9:=by rw[←hS];show(qb9 (wd (dn y m d))).toArray.size≤9;simp;exact qc0.2
 have HR:Hid (S=⟨(qb9 (wd (dn y m d))).toArray⟩):=hid hS.symm
 obtain⟨i,hi,hie⟩ : ∃ i:Nat,i<7∧wd (dn y m d)=(i:Int)+1:=⟨(wd (dn y m d)-1).toNat,by omega,by omega⟩
 have hcell:=W2.d w i hi
 rw[←hie,hS] at hcell
 have hw7:(i:Int)<7:=by omega
 rw[hie] at HW hw
 have HCL:=hid hcell
 clear hS hcell
 clear hie
 go_enter Tryz.func54,Tryz.ntmps54
 go_wp2_with fail
 (with_reducible refine(HC.out _).mono ?_)
 rintro e w1⟨rfl,hb⟩
 have hb':Below (W2 w).heap.size (W2 w) w1:=hb
 have HB:=hid ((W2.below w).trans (hb'.mono (W2.below w).size))
 have cl:=(hb'.cell (p:=⟨w.heap.size+1,i,none⟩) (by show w.heap.size+1<(W2 w).heap.size;rw[W2.size w];omega)).trans HCL.out
 have X:=Nm3.new w1 y m d
 have HX1:=hid (HB.out.alloc HB.out.size (.cells #[.int .i64 y,.int .i64 m,.int .i64 d] 95))
 have hs1:w.heap.size+1<w1.heap.size:=by have:=hb'.size;rw[W2.size w] at this;omega
 have cl:=(((Below.refl _ w1).alloc (Nat.le_refl _) (.cells #[.int .i64 y,.int .i64 m,.int .i64 d] 95)).cell (p:=⟨w.heap.size+1,i,none⟩) (by show w.heap.size+1<w1.heap.size;omega)).trans cl
 clear hb hb'
 go_wp2_with fail
 (with_reducible refine(HW.out _).mono ?_)
 rintro e w2⟨rfl,hb2⟩
 have HB2:=hid (HX1.out.trans (hb2.mono HX1.out.size))
 have X:=X.below hb2
 have q0:=X.c0
 have q1:=X.c1
 have q2:=X.c2
 have cl:=(hb2.cell (p:=⟨w.heap.size+1,i,none⟩) (by show w.heap.size+1<(w1.alloc _).heap.size;rw[World.size_alloc];omega)).trans cl
 clear hb2
 go_wp2
 go_ret2
 exact⟨by rw[HX.out,←HR.out];rfl,HB2.out⟩
theorem q6s{y m d c:Int}(hk:Ok y m d)(c1:0≤c)(c2:c<1440)(w:World) :
  Calls Tryz.prog 54 #[.int .u8 68,.int .i64 (inst y m d c)] w fun e w'=>e=.returned (.tuple #[.string ⟨(tx y m d c 68).toArray⟩,.bool true])∧Below w.heap.size w w':=by
 have hy:=hk.in_year
 have hl:=qcd y
 have hm:=qbf y m
 have HC:=hid (fun w=>qat hk c1 c2 w)
 have hr:=qas hk c1 c2
 have HW:=hid (fun w=>qa0 ⟨hr.1,hr.2.1⟩ w)
 rw[hr.2.2.1] at HW
 have HK:=hid hk
 obtain⟨a1,a2,a3,a4,a5,a6⟩:=hk
 obtain⟨n,hn⟩ : ∃ n,inst y m d c=n:=⟨_,rfl⟩
 rw[hn] at HC HW
 rw[hn]
 clear hn hr
 have hw:1≤wd (dn y m d)∧wd (dn y m d)≤7:=by unfold wd;omega
 have HX:Hid (tx y m d c 68=(qb9 (wd (dn y m d))).take 3):=hid (by simp[tx])
 obtain⟨S,hS⟩ : ∃ S:ByteArray,⟨(qb9 (wd (dn y m d))).toArray⟩=S:=⟨_,rfl⟩
 have hz:3≤S.size:=by rw[←hS];show 3≤(qb9 (wd (dn y m d))).toArray.size;simp;exact qc0.1
 have hz2:S.size≤9:=by rw[←hS];show(qb9 (wd (dn y m d))).toArray.size≤9;simp;exact qc0.2
 have HR:Hid (S.extract 0 3=⟨((qb9 (wd (dn y m d))).take 3).toArray⟩):=hid (qi6 (by rw[Lib.extract_data,←hS];simp))
 obtain⟨i,hi,hie⟩ : ∃ i:Nat,i<7∧wd (dn y m d)=(i:Int)+1:=⟨(wd (dn y m d)-1).toNat,by omega,by omega⟩
 have hcell:=W2.d w i hi
 rw[←hie,hS] at hcell
 have hw7:(i:Int)<7:=by omega
 rw[hie] at HW hw
 have HCL:=hid hcell
 clear hS hcell
 clear hie
 go_enter Tryz.func54,Tryz.ntmps54
 go_wp2_with fail
 (with_reducible refine(HC.out _).mono ?_)
 rintro e w1⟨rfl,hb⟩
 have hb':Below (W2 w).heap.size (W2 w) w1:=hb
 have HB:=hid ((W2.below w).trans (hb'.mono (W2.below w).size))
 have cl:=(hb'.cell (p:=⟨w.heap.size+1,i,none⟩) (by show w.heap.size+1<(W2 w).heap.size;rw[W2.size w];omega)).trans HCL.out
 have X:=Nm3.new w1 y m d
 have HX1:=hid (HB.out.alloc HB.out.size (.cells #[.int .i64 y,.int .i64 m,.int .i64 d] 95))
 have hs1:w.heap.size+1<w1.heap.size:=by have:=hb'.size;rw[W2.size w] at this;omega
 have cl:=(((Below.refl _ w1).alloc (Nat.le_refl _) (.cells #[.int .i64 y,.int .i64 m,.int .i64 d] 95)).cell (p:=⟨w.heap.size+1,i,none⟩) (by show w.heap.size+1<w1.heap.size;omega)).trans cl
 clear hb hb'
 go_wp2_with fail
 (with_reducible refine(HW.out _).mono ?_)
 rintro e w2⟨rfl,hb2⟩
 have HB2:=hid (HX1.out.trans (hb2.mono HX1.out.size))
 have X:=X.below hb2
 have q0:=X.c0
 have q1:=X.c1
 have q2:=X.c2
 have cl:=(hb2.cell (p:=⟨w.heap.size+1,i,none⟩) (by show w.heap.size+1<(w1.alloc _).heap.size;rw[World.size_alloc];omega)).trans cl
 clear hb2
 go_wp2
 go_ret2
 exact⟨by rw[HX.out,←HR.out];rfl,HB2.out⟩
theorem qpm{y m d c:Int}(hk:Ok y m d)(c1:0≤c)(c2:c<1440){b:UInt8}(hb:qde b=true)(w:World) :
  Calls Tryz.prog 54 #[.int .u8 (b.toNat:Int),.int .i64 (inst y m d c)] w fun e w'=>e=.returned (.tuple #[.string ⟨(tx y m d c b).toArray⟩,.bool true])∧Below w.heap.size w w':=by
 rcases qe7 hb with rfl | rfl | rfl | rfl | rfl | rfl | rfl | rfl | rfl | rfl | rfl | rfl | rfl | rfl
 ·exact q6y hk c1 c2 w
 ·exact qz8 hk c1 c2 w
 ·exact qz5 hk c1 c2 w
 ·exact qz9 hk c1 c2 w
 ·exact q6x hk c1 c2 w
 ·exact q6u hk c1 c2 w
 ·exact qz7 hk c1 c2 w
 ·exact qz3 hk c1 c2 w
 ·exact q6v hk c1 c2 w
 ·exact qz4 hk c1 c2 w
 ·exact q6t hk c1 c2 w
 ·exact q6w hk c1 c2 w
 ·exact qz6 hk c1 c2 w
 ·exact q6s hk c1 c2 w
theorem qpn{y m d c:Int}(hk:Ok y m d)(c1:0≤c)(c2:c<1440){b:UInt8}(hb:qde b=false)(w:World) :
  Calls Tryz.prog 54 #[.int .u8 (b.toNat:Int),.int .i64 (inst y m d c)] w fun e w'=>e=.returned (.tuple #[.string ⟨#[]⟩,.bool false])∧Below w.heap.size w w':=by
 have hn' : ∀ x:UInt8,qde x=true→b≠x:=fun x hx e=>by rw[e,hx] at hb;cases hb
 have e89:((b.toNat:Int)==89)=false:=qci (hn' 89 rfl)
 have e110:((b.toNat:Int)==110)=false:=qci (hn' 110 rfl)
 have e106:((b.toNat:Int)==106)=false:=qci (hn' 106 rfl)
 have e122:((b.toNat:Int)==122)=false:=qci (hn' 122 rfl)
 have e78:((b.toNat:Int)==78)=false:=qci (hn' 78 rfl)
 have e71:((b.toNat:Int)==71)=false:=qci (hn' 71 rfl)
 have e109:((b.toNat:Int)==109)=false:=qci (hn' 109 rfl)
 have e100:((b.toNat:Int)==100)=false:=qci (hn' 100 rfl)
 have e72:((b.toNat:Int)==72)=false:=qci (hn' 72 rfl)
 have e105:((b.toNat:Int)==105)=false:=qci (hn' 105 rfl)
 have e70:((b.toNat:Int)==70)=false:=qci (hn' 70 rfl)
 have e77:((b.toNat:Int)==77)=false:=qci (hn' 77 rfl)
 have e108:((b.toNat:Int)==108)=false:=qci (hn' 108 rfl)
 have e68:((b.toNat:Int)==68)=false:=qci (hn' 68 rfl)
 have HC:=hid (fun w=>qat hk c1 c2 w)
 have hr:=qas hk c1 c2
 have HW:=hid (fun w=>qa0 ⟨hr.1,hr.2.1⟩ w)
 obtain⟨n,hn⟩ : ∃ n,inst y m d c=n:=⟨_,rfl⟩
 rw[hn] at HC HW
 rw[hn]
 clear hn hr hn' hb hk
 go_enter Tryz.func54,Tryz.ntmps54
 go_wp2_with fail
 (with_reducible refine(HC.out _).mono ?_)
 rintro e w1⟨rfl,hb⟩
 have hb':Below (W2 w).heap.size (W2 w) w1:=hb
 have HB:=hid ((W2.below w).trans (hb'.mono (W2.below w).size))
 have HX1:=hid (HB.out.alloc HB.out.size (.cells #[.int .i64 y,.int .i64 m,.int .i64 d] 95))
 clear hb hb'
 go_wp2_with fail
 (with_reducible refine(HW.out _).mono ?_)
 rintro e w2⟨rfl,hb2⟩
 have HB2:=hid (HX1.out.trans (hb2.mono HX1.out.size))
 clear hb2
 go_wp2
 go_ret2
 exact⟨rfl,HB2.out⟩
end Go.Proofs.YtldkgbnmaefaaaaGreatDoor.Ca
namespace Go.Proofs.YtldkgbnmaefaaaaGreatDoor.Ca
open Go.RowKit
set_option linter.unusedVariables false
set_option linter.unusedSimpArgs false
theorem qn7{n:Int}(h : ¬ (0≤n∧n<52596000))(s:ByteArray)(w:World) :
  Calls Tryz.prog 35 #[.string s,.int .i64 n] w fun e w'=>e=.returned (.tuple #[.string ⟨#[]⟩,.int .i64 2])∧Below w.heap.size w w':=by
 have HC:=hid (fun w=>qmf h w)
 clear h
 go_enter Tryz.func35,Tryz.ntmps35
 go_wp2_with fail
 (with_reducible refine(HC.out _).mono ?_)
 rintro e w1⟨rfl,rfl⟩
 go_wp2
 go_ret2
 exact⟨rfl,Below.refl _ w⟩
theorem qn8{n:Int}(h:0≤n∧n<52596000)(s:ByteArray)(w:World)(hs:400<s.size) :
  Calls Tryz.prog 35 #[.string s,.int .i64 n] w fun e w'=>e=.returned (.tuple #[.string ⟨#[]⟩,.int .i64 3])∧Below w.heap.size w w':=by
 have HC:=hid (fun w=>qwf h w)
 have hs3:(400:Int)<(s.size:Int):=by omega
 clear h hs
 go_enter Tryz.func35,Tryz.ntmps35
 go_wp2_with fail
 (with_reducible refine(HC.out _).mono ?_)
 rintro e w1⟨rfl,rfl⟩
 go_wp2
 go_ret2
 exact⟨rfl,Below.refl _ w⟩
theorem qjf(s:ByteArray)(k:Nat)(h:k<s.size):(s.extract k (k+1)).data.toList=[s[k]]:=by
 rw[Lib.extract_data,show k+1-k=1 by omega,List.drop_eq_getElem_cons (by simpa using h)]
 simp[ByteArray.getElem_eq_getElem_data]
theorem qof(a:List UInt8)(t:ByteArray):(⟨a.toArray⟩:ByteArray)++t=⟨(a++t.data.toList).toArray⟩:=by
 apply ByteArray.ext;apply Array.ext';simp
theorem gk(s:ByteArray)(k:Nat)(h:k<s.size):s.data.toList[k]'(by simpa using h)=s[k]:=by simp[ByteArray.getElem_eq_getElem_data]
def qp9(y m d c:Int)(pre:List Sy):ByteArray:=⟨(pre.flatMap (out y m d c)).toArray⟩
theorem qtn(y m d c:Int)(pre:List Sy):(qp9 y m d c pre).size=(pre.flatMap (out y m d c)).length:=by
 show(pre.flatMap (out y m d c)).toArray.size=_;simp
theorem qn9{y m d c:Int}(hk:Ok y m d)(c1:0≤c)(c2:c<1440)(s:ByteArray)(w:World)(hs:s.size≤400) :
  Calls Tryz.prog 35 #[.string s,.int .i64 (inst y m d c)] w fun e w'=>e=.returned (.tuple #[.string ⟨(fmt y m d c s.data.toList).toArray⟩,.int .i64 0])∧Below w.heap.size w w':=by
 have hr:=qas hk c1 c2
 have HC:=hid (fun w=>qwf ⟨hr.1,hr.2.1⟩ w)
 have HV:=hid (fun(b:UInt8) (hb:qde b=true) w=>qpm hk c1 c2 hb w)
 have HN:=hid (fun(b:UInt8) (hb:qde b=false) w=>qpn hk c1 c2 hb w)
 obtain⟨n,hn⟩ : ∃ n,inst y m d c=n:=⟨_,rfl⟩
 rw[hn] at HC HV HN
 rw[hn]
 clear hn hr
 have HK:=hid hk
 clear hk
 have HSL:=hid (qiu _ s.data.toList (Nat.le_refl _))
 have hsl:s.data.toList.length=s.size:=by simp
 have HL:=hid hsl
 clear hsl
 go_enter Tryz.func35,Tryz.ntmps35
 go_wp2_with fail
 (with_reducible refine(HC.out _).mono ?_)
 rintro e w1⟨rfl,rfl⟩
 go_wp2
 go_loopw [6,7] (fun a i wr => ∃ (pre:List Sy) (k:Nat),i=.int .i64 k∧k≤s.size∧a=.string (qp9 y m d c pre)∧Hid (qhu s.data.toList=pre++qhu (s.data.toList.drop k))∧Hid (Below w.heap.size w wr)) (fun _ i _=>s.size-(intOf i).toNat)
 case atStart=>exact⟨[],0,rfl,Nat.zero_le _,rfl,hid (by simp),hid (Below.refl _ _)⟩
 case round =>
  obtain⟨pre,k,rfl,hk,rfl,HP,HB⟩:=hrel
  have hpl:pre.length≤400:=by have a:=HSL.out;have b:=HL.out;rw[HP.out,List.length_append] at a;omega
  have hal:=qlx HK.out c1 c2 pre
  have has:=qtn y m d c pre
  have hsz:(qp9 y m d c pre).size≤3600:=by omega
  clear hpl hal has
  by_cases hlt:k<s.size
  ·by_cases h9:s[k]=92∧k+1<s.size
   ·obtain⟨h9,hlt1⟩:=h9
    have he:=qra s.data.toList k (by simpa using hlt1) ((gk s k hlt).trans h9)
    rw[gk s (k+1) hlt1] at he
    have HP2:Hid (qhu s.data.toList=(pre++[(s[k+1],true)])++qhu (s.data.toList.drop (k+2))):=hid (by rw[HP.out,he];simp)
    have HA:Hid (qp9 y m d c pre++s.extract (k+1) (k+1+1)=qp9 y m d c (pre++[(s[k+1],true)])):=hid (by
     unfold qp9;rw[qof,qjf s (k+1) hlt1,List.flatMap_append];simp[out])
    have hd:((s[k].toNat:Int)==92)=true:=by rw[h9];rfl
    have hi:(k:Int)+1<s.size:=by omega
    clear h9 he
    go_wp2
    go_roundw
    case rel=>exact⟨pre++[(s[k+1],true)],k+2,by go_num,by omega,by rw[←HA.out],HP2,HB⟩
    case measure=>simp[intOf];omega
   ·have he:=qkx s.data.toList k (by simpa using hlt) (by rw[gk s k hlt];simpa using h9)
    rw[gk s k hlt] at he
    have HP2:Hid (qhu s.data.toList=(pre++[(s[k],false)])++qhu (s.data.toList.drop (k+1))):=hid (by rw[HP.out,he];simp)
    clear he
    by_cases hcode:qde s[k]=true
    ·have H1:=hid (fun w=>HV.out s[k] hcode w)
     have htl:=qxc HK.out c1 c2 s[k]
     obtain⟨T,hT⟩ : ∃ T:ByteArray,⟨(tx y m d c s[k]).toArray⟩=T:=⟨_,rfl⟩
     have hTs:T.size≤9:=by rw[←hT];show(tx y m d c s[k]).toArray.size≤9;simp;exact htl
     have HA:Hid (qp9 y m d c pre++T=qp9 y m d c (pre++[(s[k],false)])):=hid (by
      unfold qp9;rw[←hT,qof,List.flatMap_append];simp[out,hcode])
     rw[hT] at H1
     have hne:s[k]≠92:=fun e=>by rw[e] at hcode;exact absurd hcode (by decide)
     have hd:((s[k].toNat:Int)==92)=false:=qci hne
     clear hne
     clear h9 hT htl hcode
     go_wp2_with fail
     (with_reducible refine(H1.out _).mono ?_)
     rintro e w2⟨rfl,hb2⟩
     have HB2:=hid (HB.out.trans (hb2.mono HB.out.size))
     clear hb2
     go_wp2
     go_roundw
     case rel=>exact⟨pre++[(s[k],false)],k+1,by go_num,by omega,by rw[←HA.out],HP2,HB2⟩
     case measure=>simp[intOf];omega
    ·have hc2:qde s[k]=false:=by simpa using hcode
     have H1:=hid (fun w=>HN.out s[k] hc2 w)
     have HA:Hid (qp9 y m d c pre++s.extract k (k+1)=qp9 y m d c (pre++[(s[k],false)])):=hid (by
      unfold qp9;rw[qof,qjf s k hlt,List.flatMap_append];simp[out,hc2])
     by_cases hx:s[k]=92
     ·have hd:((s[k].toNat:Int)==92)=true:=by rw[hx];rfl
      have hi:(s.size:Int)≤(k:Int)+1:=by have : ¬ k+1<s.size:=fun h=>h9 ⟨hx,h⟩;omega
      have hi2:decide ((k:Int)+1<(s.size:Int))=false:=by rw[decide_eq_false_iff_not];omega
      clear hx h9 hc2 hcode
      go_wp2_with fail
      (with_reducible refine(H1.out _).mono ?_)
      rintro e w2⟨rfl,hb2⟩
      have HB2:=hid (HB.out.trans (hb2.mono HB.out.size))
      clear hb2
      go_wp2
      go_roundw
      case rel=>exact⟨pre++[(s[k],false)],k+1,by go_num,by omega,by rw[←HA.out],HP2,HB2⟩
      case measure=>simp[intOf];omega
     ·have hd:((s[k].toNat:Int)==92)=false:=qci hx
      clear hx h9 hc2 hcode
      go_wp2_with fail
      (with_reducible refine(H1.out _).mono ?_)
      rintro e w2⟨rfl,hb2⟩
      have HB2:=hid (HB.out.trans (hb2.mono HB.out.size))
      clear hb2
      go_wp2
      go_roundw
      case rel=>exact⟨pre++[(s[k],false)],k+1,by go_num,by omega,by rw[←HA.out],HP2,HB2⟩
      case measure=>simp[intOf];omega
  ·obtain rfl:k=s.size:=by omega
   have HF:Hid (qp9 y m d c pre=⟨(fmt y m d c s.data.toList).toArray⟩):=hid (by
    unfold qp9 fmt;rw[HP.out,List.drop_of_length_le (by rw[HL.out];exact Nat.le_refl _)];simp[qhu])
   go_wp2
   go_ret2
   exact⟨by rw[←HF.out];rfl,HB.out⟩
end Go.Proofs.YtldkgbnmaefaaaaGreatDoor.Ca
