import Derived.Test.YtldkgbnmaefaaaaGreatDoorShelf
import Derived.Shelf.Strings.BuilderK
import Derived.Test.YtldkgbnmaefaaaaGreatDoorCaG1
import Derived.Lib.IndexBytes
import Derived.Test.YtldkgbnmaefaaaaGreatDoorTiG1
import Derived.Shelf.Abstract
import Derived.Shelf.RegionOpen
import Derived.OwnWalkIn
import Derived.TacticsInMore
import Derived.LoopNIn
import Derived.LoopIn
import Derived.Deep.RegionHeld
import Derived.RangeFuncFrom
set_option maxRecDepth 100000
set_option maxHeartbeats 4000000
open Go.Lib (hid)
namespace Go.Proofs
open Go.Shelf
def Tryz.laysWB_ren:Go.Shelf.Ren:=⟨fun | 167=>194 | 240=>215 | 276=>240 | n=>n,fun | 0=>0 | 4=>4 | 5=>5 | 9=>9 | 20=>20 | 37=>43 | 70=>168 | 72=>170 | 75=>172 | 164=>232 | 80=>156 | n=>n,fun | n=>n⟩
theorem Tryz.laysWB:Go.Proofs.Lays.n167 Tryz.prog Tryz.laysWB_ren := {
 mixed:=by kernel_rfl
 f167:=Tryz.func194.trans (congrArg some (by kernel_rfl))
 f240:=Tryz.func215.trans (congrArg some (by kernel_rfl))
 f276:=Tryz.func240.trans (congrArg some (by kernel_rfl))
 t0:=Tryz.underlying0
 a0:=Tryz.isAgg0
 z0:=Tryz.sizeOf0
 v0:=Tryz.zeroValue0
 t4:=Tryz.underlying4
 a4:=Tryz.isAgg4
 z4:=Tryz.sizeOf4
 v4:=Tryz.zeroValue4
 t5:=Tryz.underlying5
 a5:=Tryz.isAgg5
 z5:=Tryz.sizeOf5
 v5:=Tryz.zeroValue5
 t9:=Tryz.underlying9
 a9:=Tryz.isAgg9
 z9:=Tryz.sizeOf9
 v9:=Tryz.zeroValue9
 t20:=Tryz.underlying20
 a20:=Tryz.isAgg20
 z20:=Tryz.sizeOf20
 v20:=Tryz.zeroValue20
 t37:=Tryz.underlying43
 a37:=Tryz.isAgg43
 z37:=Tryz.sizeOf43
 v37:=Tryz.zeroValue43
 t70:=Tryz.underlying168
 a70:=Tryz.isAgg168
 z70:=Tryz.sizeOf168
 v70:=Tryz.zeroValue168
 t72:=Tryz.underlying170
 a72:=Tryz.isAgg170
 z72:=Tryz.sizeOf170
 v72:=Tryz.zeroValue170
 t75:=Tryz.underlying172
 a75:=Tryz.isAgg172
 z75:=Tryz.sizeOf172
 v75:=Tryz.zeroValue172
 t164:=Tryz.underlying232
 a164:=Tryz.isAgg232
 z164:=Tryz.sizeOf232
 v164:=Tryz.zeroValue232 }
theorem Tryz.Builder_Extra_WB:Builder.Extra Tryz.prog Tryz.laysWB_ren := {
 sizeBuilder:=by kernel_rfl
 liesBuilder:=by kernel_rfl
 t5:=Tryz.underlying5
 a5:=Tryz.isAgg5
 z5:=Tryz.sizeOf5
 v5:=Tryz.zeroValue5
 infoByte:=by kernel_rfl
 cellsByte:=by kernel_rfl
 sizeByte:=by kernel_rfl
 neB5:=by decide }
def Tryz.laysWS_ren:Go.Shelf.Ren:=⟨fun | 166=>169 | 240=>215 | 276=>240 | n=>n,fun | 0=>0 | 3=>3 | 4=>4 | 5=>5 | 9=>9 | 20=>20 | 37=>43 | 70=>168 | 72=>170 | 75=>172 | 164=>232 | 80=>156 | n=>n,fun | n=>n⟩
theorem Tryz.laysWS:Go.Proofs.Lays.n166 Tryz.prog Tryz.laysWS_ren := {
 mixed:=by kernel_rfl
 f166:=Tryz.func169.trans (congrArg some (by kernel_rfl))
 f240:=Tryz.func215.trans (congrArg some (by kernel_rfl))
 f276:=Tryz.func240.trans (congrArg some (by kernel_rfl))
 t0:=Tryz.underlying0
 a0:=Tryz.isAgg0
 z0:=Tryz.sizeOf0
 v0:=Tryz.zeroValue0
 t3:=Tryz.underlying3
 a3:=Tryz.isAgg3
 z3:=Tryz.sizeOf3
 v3:=Tryz.zeroValue3
 t4:=Tryz.underlying4
 a4:=Tryz.isAgg4
 z4:=Tryz.sizeOf4
 v4:=Tryz.zeroValue4
 t9:=Tryz.underlying9
 a9:=Tryz.isAgg9
 z9:=Tryz.sizeOf9
 v9:=Tryz.zeroValue9
 t20:=Tryz.underlying20
 a20:=Tryz.isAgg20
 z20:=Tryz.sizeOf20
 v20:=Tryz.zeroValue20
 t37:=Tryz.underlying43
 a37:=Tryz.isAgg43
 z37:=Tryz.sizeOf43
 v37:=Tryz.zeroValue43
 t70:=Tryz.underlying168
 a70:=Tryz.isAgg168
 z70:=Tryz.sizeOf168
 v70:=Tryz.zeroValue168
 t72:=Tryz.underlying170
 a72:=Tryz.isAgg170
 z72:=Tryz.sizeOf170
 v72:=Tryz.zeroValue170
 t75:=Tryz.underlying172
 a75:=Tryz.isAgg172
 z75:=Tryz.sizeOf172
 v75:=Tryz.zeroValue172
 t164:=Tryz.underlying232
 a164:=Tryz.isAgg232
 z164:=Tryz.sizeOf232
 v164:=Tryz.zeroValue232 }
theorem Tryz.Builder_Extra_WS:Builder.Extra Tryz.prog Tryz.laysWS_ren := {
 sizeBuilder:=by kernel_rfl
 liesBuilder:=by kernel_rfl
 t5:=Tryz.underlying5
 a5:=Tryz.isAgg5
 z5:=Tryz.sizeOf5
 v5:=Tryz.zeroValue5
 infoByte:=by kernel_rfl
 cellsByte:=by kernel_rfl
 sizeByte:=by kernel_rfl
 neB5:=by decide }
open Go.RowKit in
theorem Tryz.Builder_WriteBytek(B b:Nat)(bs:List Value)(c:Int)(w:World)(h:Lib.IsBuilderF 170 5 B b bs w)(hlen:bs.length+1≤140737488355328)(hBw:B≤w.heap.size) :
  Calls Tryz.prog 194 #[.pointer (some ⟨b,0,none⟩),.int .u8 c] w fun e w'=>e=.returned .nilIface∧(Lib.BuilderAtF 170 5 B b (.pointer (some ⟨b,0,none⟩)) (bs++[.int .u8 c]) w'∧Below B w w'∧Lib.OthersKept 5 (some b) w w') :=
 Any.Builder_WriteByte_k Tryz.laysWB Tryz.Builder_Extra_WB B b bs c w h hlen hBw
open Go.RowKit in
theorem Tryz.Builder_WriteStringk(B b:Nat)(bs:List Value)(s:ByteArray)(w:World)(h:Lib.IsBuilderF 170 5 B b bs w)(hlen:bs.length+s.size≤140737488355328)(hBw:B≤w.heap.size) :
  Calls Tryz.prog 169 #[.pointer (some ⟨b,0,none⟩),.string s] w fun e w'=>e=.returned (.tuple #[.int .i64 s.size,.nilIface])∧(Lib.BuilderAtF 170 5 B b (.pointer (some ⟨b,0,none⟩)) (bs++Lib.strCells s) w'∧Below B w w'∧Lib.OthersKept 5 (some b) w w') :=
 Any.Builder_WriteString_k Tryz.laysWS Tryz.Builder_Extra_WS B b bs s w h hlen hBw
open Go.RowKit in
theorem Tryz.Builder_String_anyk(B b:Nat)(l:List UInt8)(w:World)(h:Lib.IsBuilderF 170 5 B b (Lib.byteCells l) w)(hBw:B≤w.heap.size) :
  Calls Tryz.prog 170 #[.pointer (some ⟨b,0,none⟩)] w fun e w'=>e=.returned (.string ⟨l.toArray⟩)∧(Lib.IsBuilderF 170 5 B b (Lib.byteCells l) w'∧Below B w w'∧Lib.OthersKept 5 (some b) w w') :=
 Any.Builder_String_any_k Tryz.lays169 Tryz.Builder_Extra_169 B b l w h hBw
end Go.Proofs
namespace Go.Proofs.YtldkgbnmaefaaaaGreatDoor.Ca
open Go.RowKit
set_option linter.unusedVariables false
theorem qdk(n:Int)(w:World)(h:n.natAbs≤4611686018427387904)(ht:Tb w):Calls Tryz.prog 107 #[.int .i64 n] w fun e w'=>e=.returned (.string ⟨(Lib.itoa n).toArray⟩)∧Below w.heap.size w w' :=
 (Tryz.strconv_Itoa n (by omega) (by omega) w ht.tab).mono fun _ _ ⟨he,k,os,hw⟩=>⟨he,by subst hw;exact Lib.below_grow _ w (Nat.le_refl _) k os⟩
theorem qi6{s:ByteArray}{l:List UInt8}(h:s.data.toList=l):s=⟨l.toArray⟩:=by
 apply ByteArray.ext;apply Array.ext';simp[h]
theorem qim{n:Int}(h1:0≤n)(h2:n<10000):1≤(Lib.itoa n).length∧(Lib.itoa n).length≤4:=by
 by_cases a:n<10
 ·rw[qhq h1 a];simp
 ·by_cases b:n<100
  ·rw[qls (by omega) b];simp
  ·by_cases c:n<1000
   ·rw[qhr (by omega) c];simp
   ·rw[qut (by omega) h2];simp
theorem qdo{n:Int}(h1:0≤n)(h2:n<100)(w:World)(ht:Tb w):Calls Tryz.prog 233 #[.int .i64 n] w fun e w'=>e=.returned (.string ⟨(two n).toArray⟩)∧Below w.heap.size w w':=by
 have hl:=qim (n:=100+n) (by omega) (by omega)
 obtain⟨S,hS⟩ : ∃ S:ByteArray,⟨(Lib.itoa (100+n)).toArray⟩=S:=⟨_,rfl⟩
 have hz:1≤S.size:=by rw[←hS];show 1≤(Lib.itoa (100+n)).toArray.size;simp;omega
 have hz2:S.size≤4:=by rw[←hS];show(Lib.itoa (100+n)).toArray.size≤4;simp;omega
 have HR:Hid (S.extract 1 S.size=⟨(two n).toArray⟩):=hid (qi6 (by rw[Lib.extract_to_end,←hS];exact q0m h1 h2))
 have HC:=hid (fun w ht=>qdk (100+n) w (by omega) ht)
 rw[hS] at HC
 clear hS hl
 go_enter Tryz.func233,Tryz.ntmps233
 go_wp2_with fail
 refine(HC.out _ ht).mono ?_
 rintro e w1⟨rfl,hb⟩
 go_wp2
 go_ret
 exact⟨qa4 HR.out,hb⟩
theorem qci{b c:UInt8}(h:b≠c):((b.toNat:Int)==(c.toNat:Int))=false:=by
 rw[beq_eq_false_iff_ne];intro e;exact h (UInt8.toNat_inj.1 (by omega))
theorem qct{m:Int}:3≤(qbu m).length∧(qbu m).length≤9:=by
 unfold qbu
 by_cases h1:m=1
 ·rw[if_pos h1];decide
 ·rw[if_neg h1]
  by_cases h2:m=2
  ·rw[if_pos h2];decide
  ·rw[if_neg h2]
   by_cases h3:m=3
   ·rw[if_pos h3];decide
   ·rw[if_neg h3]
    by_cases h4:m=4
    ·rw[if_pos h4];decide
    ·rw[if_neg h4]
     by_cases h5:m=5
     ·rw[if_pos h5];decide
     ·rw[if_neg h5]
      by_cases h6:m=6
      ·rw[if_pos h6];decide
      ·rw[if_neg h6]
       by_cases h7:m=7
       ·rw[if_pos h7];decide
       ·rw[if_neg h7]
        by_cases h8:m=8
        ·rw[if_pos h8];decide
        ·rw[if_neg h8]
         by_cases h9:m=9
         ·rw[if_pos h9];decide
         ·rw[if_neg h9]
          by_cases h10:m=10
          ·rw[if_pos h10];decide
          ·rw[if_neg h10]
           by_cases h11:m=11
           ·rw[if_pos h11];decide
           ·rw[if_neg h11];decide
theorem qc0{m:Int}:3≤(qb9 m).length∧(qb9 m).length≤9:=by
 unfold qb9
 by_cases h1:m=1
 ·rw[if_pos h1];decide
 ·rw[if_neg h1]
  by_cases h2:m=2
  ·rw[if_pos h2];decide
  ·rw[if_neg h2]
   by_cases h3:m=3
   ·rw[if_pos h3];decide
   ·rw[if_neg h3]
    by_cases h4:m=4
    ·rw[if_pos h4];decide
    ·rw[if_neg h4]
     by_cases h5:m=5
     ·rw[if_pos h5];decide
     ·rw[if_neg h5]
      by_cases h6:m=6
      ·rw[if_pos h6];decide
      ·rw[if_neg h6];decide
theorem xcg{y m d c:Int}(hk:Ok y m d)(c1:0≤c)(c2:c<1440)(w:World)(ht:Tb w) :
  Calls Tryz.prog 193 #[mom y m d c,.int .u8 89] w fun e w'=>e=.returned (.tuple #[.string ⟨(tx y m d c 89).toArray⟩,.bool true])∧Below w.heap.size w w':=by
 have HT:=hid (ht.below ((Below.refl _ w).alloc (Nat.le_refl _) (.cells #[.int .i64 y,.int .i64 m,.int .i64 d,.int .i64 (cum y m+d-1),.int .i64 (wd (dn y m d)),.int .i64 c] 191)))
 have hy:=hk.in_year
 have hl:=qcd y
 have hm:=qbf y m
 obtain⟨a1,a2,a3,a4,a5,a6⟩:=hk
 have HX:Hid (tx y m d c 89=Lib.itoa (y)):=hid (by simp[tx])
 unfold mom
 have hw:1≤wd (dn y m d)∧wd (dn y m d)≤7:=by unfold wd;omega
 go_enter Tryz.func193,Tryz.ntmps193
 go_wp2_with fail
 refine(qdk (y) _ (by omega) HT.out).mono ?_
 rintro e w1⟨rfl,hb⟩
 go_wp2
 go_ret2
 exact⟨by rw[HX.out];rfl,qap hb⟩
theorem q8d{y m d c:Int}(hk:Ok y m d)(c1:0≤c)(c2:c<1440)(w:World)(ht:Tb w) :
  Calls Tryz.prog 193 #[mom y m d c,.int .u8 110] w fun e w'=>e=.returned (.tuple #[.string ⟨(tx y m d c 110).toArray⟩,.bool true])∧Below w.heap.size w w':=by
 have HT:=hid (ht.below ((Below.refl _ w).alloc (Nat.le_refl _) (.cells #[.int .i64 y,.int .i64 m,.int .i64 d,.int .i64 (cum y m+d-1),.int .i64 (wd (dn y m d)),.int .i64 c] 191)))
 have hy:=hk.in_year
 have hl:=qcd y
 have hm:=qbf y m
 obtain⟨a1,a2,a3,a4,a5,a6⟩:=hk
 have HX:Hid (tx y m d c 110=Lib.itoa (m)):=hid (by simp[tx])
 unfold mom
 have hw:1≤wd (dn y m d)∧wd (dn y m d)≤7:=by unfold wd;omega
 go_enter Tryz.func193,Tryz.ntmps193
 go_wp2_with fail
 refine(qdk (m) _ (by omega) HT.out).mono ?_
 rintro e w1⟨rfl,hb⟩
 go_wp2
 go_ret2
 exact⟨by rw[HX.out];rfl,qap hb⟩
theorem q8a{y m d c:Int}(hk:Ok y m d)(c1:0≤c)(c2:c<1440)(w:World)(ht:Tb w) :
  Calls Tryz.prog 193 #[mom y m d c,.int .u8 106] w fun e w'=>e=.returned (.tuple #[.string ⟨(tx y m d c 106).toArray⟩,.bool true])∧Below w.heap.size w w':=by
 have HT:=hid (ht.below ((Below.refl _ w).alloc (Nat.le_refl _) (.cells #[.int .i64 y,.int .i64 m,.int .i64 d,.int .i64 (cum y m+d-1),.int .i64 (wd (dn y m d)),.int .i64 c] 191)))
 have hy:=hk.in_year
 have hl:=qcd y
 have hm:=qbf y m
 obtain⟨a1,a2,a3,a4,a5,a6⟩:=hk
 have HX:Hid (tx y m d c 106=Lib.itoa (d)):=hid (by simp[tx])
 unfold mom
 have hw:1≤wd (dn y m d)∧wd (dn y m d)≤7:=by unfold wd;omega
 go_enter Tryz.func193,Tryz.ntmps193
 go_wp2_with fail
 refine(qdk (d) _ (by omega) HT.out).mono ?_
 rintro e w1⟨rfl,hb⟩
 go_wp2
 go_ret2
 exact⟨by rw[HX.out];rfl,qap hb⟩
theorem q8e{y m d c:Int}(hk:Ok y m d)(c1:0≤c)(c2:c<1440)(w:World)(ht:Tb w) :
  Calls Tryz.prog 193 #[mom y m d c,.int .u8 122] w fun e w'=>e=.returned (.tuple #[.string ⟨(tx y m d c 122).toArray⟩,.bool true])∧Below w.heap.size w w':=by
 have HT:=hid (ht.below ((Below.refl _ w).alloc (Nat.le_refl _) (.cells #[.int .i64 y,.int .i64 m,.int .i64 d,.int .i64 (cum y m+d-1),.int .i64 (wd (dn y m d)),.int .i64 c] 191)))
 have hy:=hk.in_year
 have hl:=qcd y
 have hm:=qbf y m
 obtain⟨a1,a2,a3,a4,a5,a6⟩:=hk
 have HX:Hid (tx y m d c 122=Lib.itoa (cum y m+d-1)):=hid (by simp[tx])
 unfold mom
 have hw:1≤wd (dn y m d)∧wd (dn y m d)≤7:=by unfold wd;omega
 go_enter Tryz.func193,Tryz.ntmps193
 go_wp2_with fail
 refine(qdk (cum y m+d-1) _ (by omega) HT.out).mono ?_
 rintro e w1⟨rfl,hb⟩
 go_wp2
 go_ret2
 exact⟨by rw[HX.out];rfl,qap hb⟩
theorem xcf{y m d c:Int}(hk:Ok y m d)(c1:0≤c)(c2:c<1440)(w:World)(ht:Tb w) :
  Calls Tryz.prog 193 #[mom y m d c,.int .u8 78] w fun e w'=>e=.returned (.tuple #[.string ⟨(tx y m d c 78).toArray⟩,.bool true])∧Below w.heap.size w w':=by
 have HT:=hid (ht.below ((Below.refl _ w).alloc (Nat.le_refl _) (.cells #[.int .i64 y,.int .i64 m,.int .i64 d,.int .i64 (cum y m+d-1),.int .i64 (wd (dn y m d)),.int .i64 c] 191)))
 have hy:=hk.in_year
 have hl:=qcd y
 have hm:=qbf y m
 obtain⟨a1,a2,a3,a4,a5,a6⟩:=hk
 have HX:Hid (tx y m d c 78=Lib.itoa (wd (dn y m d))):=hid (by simp[tx])
 unfold mom
 have hw:1≤wd (dn y m d)∧wd (dn y m d)≤7:=by unfold wd;omega
 go_enter Tryz.func193,Tryz.ntmps193
 go_wp2_with fail
 refine(qdk (wd (dn y m d)) _ (by omega) HT.out).mono ?_
 rintro e w1⟨rfl,hb⟩
 go_wp2
 go_ret2
 exact⟨by rw[HX.out];rfl,qap hb⟩
theorem xcc{y m d c:Int}(hk:Ok y m d)(c1:0≤c)(c2:c<1440)(w:World)(ht:Tb w) :
  Calls Tryz.prog 193 #[mom y m d c,.int .u8 71] w fun e w'=>e=.returned (.tuple #[.string ⟨(tx y m d c 71).toArray⟩,.bool true])∧Below w.heap.size w w':=by
 have HT:=hid (ht.below ((Below.refl _ w).alloc (Nat.le_refl _) (.cells #[.int .i64 y,.int .i64 m,.int .i64 d,.int .i64 (cum y m+d-1),.int .i64 (wd (dn y m d)),.int .i64 c] 191)))
 have hy:=hk.in_year
 have hl:=qcd y
 have hm:=qbf y m
 obtain⟨a1,a2,a3,a4,a5,a6⟩:=hk
 have HX:Hid (tx y m d c 71=Lib.itoa (c / 60)):=hid (by simp[tx])
 unfold mom
 have hw:1≤wd (dn y m d)∧wd (dn y m d)≤7:=by unfold wd;omega
 go_enter Tryz.func193,Tryz.ntmps193
 go_wp2_with fail
 refine(qdk (c / 60) _ (by omega) HT.out).mono ?_
 rintro e w1⟨rfl,hb⟩
 go_wp2
 go_ret2
 exact⟨by rw[HX.out];rfl,qap hb⟩
theorem q8c{y m d c:Int}(hk:Ok y m d)(c1:0≤c)(c2:c<1440)(w:World)(ht:Tb w) :
  Calls Tryz.prog 193 #[mom y m d c,.int .u8 109] w fun e w'=>e=.returned (.tuple #[.string ⟨(tx y m d c 109).toArray⟩,.bool true])∧Below w.heap.size w w':=by
 have HT:=hid (ht.below ((Below.refl _ w).alloc (Nat.le_refl _) (.cells #[.int .i64 y,.int .i64 m,.int .i64 d,.int .i64 (cum y m+d-1),.int .i64 (wd (dn y m d)),.int .i64 c] 191)))
 have hy:=hk.in_year
 have hl:=qcd y
 have hm:=qbf y m
 obtain⟨a1,a2,a3,a4,a5,a6⟩:=hk
 have HX:Hid (tx y m d c 109=two (m)):=hid (by simp[tx])
 unfold mom
 go_enter Tryz.func193,Tryz.ntmps193
 go_wp2_with fail
 refine(qdo (n:=m) (by omega) (by omega) _ HT.out).mono ?_
 rintro e w1⟨rfl,hb⟩
 go_wp2
 go_ret2
 exact⟨by rw[HX.out];rfl,qap hb⟩
theorem q7y{y m d c:Int}(hk:Ok y m d)(c1:0≤c)(c2:c<1440)(w:World)(ht:Tb w) :
  Calls Tryz.prog 193 #[mom y m d c,.int .u8 100] w fun e w'=>e=.returned (.tuple #[.string ⟨(tx y m d c 100).toArray⟩,.bool true])∧Below w.heap.size w w':=by
 have HT:=hid (ht.below ((Below.refl _ w).alloc (Nat.le_refl _) (.cells #[.int .i64 y,.int .i64 m,.int .i64 d,.int .i64 (cum y m+d-1),.int .i64 (wd (dn y m d)),.int .i64 c] 191)))
 have hy:=hk.in_year
 have hl:=qcd y
 have hm:=qbf y m
 obtain⟨a1,a2,a3,a4,a5,a6⟩:=hk
 have HX:Hid (tx y m d c 100=two (d)):=hid (by simp[tx])
 unfold mom
 go_enter Tryz.func193,Tryz.ntmps193
 go_wp2_with fail
 refine(qdo (n:=d) (by omega) (by omega) _ HT.out).mono ?_
 rintro e w1⟨rfl,hb⟩
 go_wp2
 go_ret2
 exact⟨by rw[HX.out];rfl,qap hb⟩
theorem xcd{y m d c:Int}(hk:Ok y m d)(c1:0≤c)(c2:c<1440)(w:World)(ht:Tb w) :
  Calls Tryz.prog 193 #[mom y m d c,.int .u8 72] w fun e w'=>e=.returned (.tuple #[.string ⟨(tx y m d c 72).toArray⟩,.bool true])∧Below w.heap.size w w':=by
 have HT:=hid (ht.below ((Below.refl _ w).alloc (Nat.le_refl _) (.cells #[.int .i64 y,.int .i64 m,.int .i64 d,.int .i64 (cum y m+d-1),.int .i64 (wd (dn y m d)),.int .i64 c] 191)))
 have hy:=hk.in_year
 have hl:=qcd y
 have hm:=qbf y m
 obtain⟨a1,a2,a3,a4,a5,a6⟩:=hk
 have HX:Hid (tx y m d c 72=two (c / 60)):=hid (by simp[tx])
 unfold mom
 go_enter Tryz.func193,Tryz.ntmps193
 go_wp2_with fail
 refine(qdo (n:=c / 60) (by omega) (by omega) _ HT.out).mono ?_
 rintro e w1⟨rfl,hb⟩
 go_wp2
 go_ret2
 exact⟨by rw[HX.out];rfl,qap hb⟩
theorem q7z{y m d c:Int}(hk:Ok y m d)(c1:0≤c)(c2:c<1440)(w:World)(ht:Tb w) :
  Calls Tryz.prog 193 #[mom y m d c,.int .u8 105] w fun e w'=>e=.returned (.tuple #[.string ⟨(tx y m d c 105).toArray⟩,.bool true])∧Below w.heap.size w w':=by
 have HT:=hid (ht.below ((Below.refl _ w).alloc (Nat.le_refl _) (.cells #[.int .i64 y,.int .i64 m,.int .i64 d,.int .i64 (cum y m+d-1),.int .i64 (wd (dn y m d)),.int .i64 c] 191)))
 have hy:=hk.in_year
 have hl:=qcd y
 have hm:=qbf y m
 obtain⟨a1,a2,a3,a4,a5,a6⟩:=hk
 have HX:Hid (tx y m d c 105=two (c%60)):=hid (by simp[tx])
 unfold mom
 go_enter Tryz.func193,Tryz.ntmps193
 go_wp2_with fail
 refine(qdo (n:=c%60) (by omega) (by omega) _ HT.out).mono ?_
 rintro e w1⟨rfl,hb⟩
 go_wp2
 go_ret2
 exact⟨by rw[HX.out];rfl,qap hb⟩
theorem xcb{y m d c:Int}(hk:Ok y m d)(c1:0≤c)(c2:c<1440)(w:World)(ht:Tb w) :
  Calls Tryz.prog 193 #[mom y m d c,.int .u8 70] w fun e w'=>e=.returned (.tuple #[.string ⟨(tx y m d c 70).toArray⟩,.bool true])∧Below w.heap.size w w':=by
 have HT:=hid (ht.below ((Below.refl _ w).alloc (Nat.le_refl _) (.cells #[.int .i64 y,.int .i64 m,.int .i64 d,.int .i64 (cum y m+d-1),.int .i64 (wd (dn y m d)),.int .i64 c] 191)))
 have hy:=hk.in_year
 have hl:=qcd y
 have hm:=qbf y m
 obtain⟨a1,a2,a3,a4,a5,a6⟩:=hk
 have HX:Hid (tx y m d c 70=qbu (m)):=hid (by simp[tx])
 have hw:1≤wd (dn y m d)∧wd (dn y m d)≤7:=by unfold wd;omega
 unfold mom
 obtain⟨S,hS⟩ : ∃ S:ByteArray,⟨(qbu (m)).toArray⟩=S:=⟨_,rfl⟩
 have hz:3≤S.size:=by rw[←hS];show 3≤(qbu (m)).toArray.size;simp;exact qct.1
 have hz2:S.size≤9:=by rw[←hS];show(qbu (m)).toArray.size≤9;simp;exact qct.2
 have HR:Hid (S=⟨(qbu (m)).toArray⟩):=hid hS.symm
 obtain⟨i,hi,hie⟩ : ∃ i:Nat,i<12∧m=(i:Int)+1:=⟨(m-1).toNat,by omega,by omega⟩
 have hc:=ht.mn i hi
 rw[←hie,hS] at hc
 have hc2:=HT.out.mn i hi
 rw[←hie,hS] at hc2
 have hlt:0<w.heap.size:=qb5 hc
 subst hie
 clear hS ht hc
 go_enter Tryz.func193,Tryz.ntmps193
 go_wp2
 go_ret2
 exact⟨by rw[HX.out,←HR.out];rfl,(Below.refl _ w).alloc (Nat.le_refl _) _⟩
theorem xce{y m d c:Int}(hk:Ok y m d)(c1:0≤c)(c2:c<1440)(w:World)(ht:Tb w) :
  Calls Tryz.prog 193 #[mom y m d c,.int .u8 77] w fun e w'=>e=.returned (.tuple #[.string ⟨(tx y m d c 77).toArray⟩,.bool true])∧Below w.heap.size w w':=by
 have HT:=hid (ht.below ((Below.refl _ w).alloc (Nat.le_refl _) (.cells #[.int .i64 y,.int .i64 m,.int .i64 d,.int .i64 (cum y m+d-1),.int .i64 (wd (dn y m d)),.int .i64 c] 191)))
 have hy:=hk.in_year
 have hl:=qcd y
 have hm:=qbf y m
 obtain⟨a1,a2,a3,a4,a5,a6⟩:=hk
 have HX:Hid (tx y m d c 77=(qbu (m)).take 3):=hid (by simp[tx])
 have hw:1≤wd (dn y m d)∧wd (dn y m d)≤7:=by unfold wd;omega
 unfold mom
 obtain⟨S,hS⟩ : ∃ S:ByteArray,⟨(qbu (m)).toArray⟩=S:=⟨_,rfl⟩
 have hz:3≤S.size:=by rw[←hS];show 3≤(qbu (m)).toArray.size;simp;exact qct.1
 have hz2:S.size≤9:=by rw[←hS];show(qbu (m)).toArray.size≤9;simp;exact qct.2
 have HR:Hid (S.extract 0 3=⟨((qbu (m)).take 3).toArray⟩):=hid (qi6 (by rw[Lib.extract_data,←hS];simp))
 obtain⟨i,hi,hie⟩ : ∃ i:Nat,i<12∧m=(i:Int)+1:=⟨(m-1).toNat,by omega,by omega⟩
 have hc:=ht.mn i hi
 rw[←hie,hS] at hc
 have hc2:=HT.out.mn i hi
 rw[←hie,hS] at hc2
 have hlt:0<w.heap.size:=qb5 hc
 subst hie
 clear hS ht hc
 go_enter Tryz.func193,Tryz.ntmps193
 go_wp2
 go_ret2
 exact⟨by rw[HX.out,←HR.out];rfl,(Below.refl _ w).alloc (Nat.le_refl _) _⟩
theorem q8b{y m d c:Int}(hk:Ok y m d)(c1:0≤c)(c2:c<1440)(w:World)(ht:Tb w) :
  Calls Tryz.prog 193 #[mom y m d c,.int .u8 108] w fun e w'=>e=.returned (.tuple #[.string ⟨(tx y m d c 108).toArray⟩,.bool true])∧Below w.heap.size w w':=by
 have HT:=hid (ht.below ((Below.refl _ w).alloc (Nat.le_refl _) (.cells #[.int .i64 y,.int .i64 m,.int .i64 d,.int .i64 (cum y m+d-1),.int .i64 (wd (dn y m d)),.int .i64 c] 191)))
 have hy:=hk.in_year
 have hl:=qcd y
 have hm:=qbf y m
 obtain⟨a1,a2,a3,a4,a5,a6⟩:=hk
 have HX:Hid (tx y m d c 108=qb9 (wd (dn y m d))):=hid (by simp[tx])
 have hw:1≤wd (dn y m d)∧wd (dn y m d)≤7:=by unfold wd;omega
 unfold mom
 obtain⟨S,hS⟩ : ∃ S:ByteArray,⟨(qb9 (wd (dn y m d))).toArray⟩=S:=⟨_,rfl⟩
 have hz:3≤S.size:=by rw[←hS];show 3≤(qb9 (wd (dn y m d))).toArray.size;simp;exact qc0.1
 have hz2:S.size≤9:=by rw[←hS];show(qb9 (wd (dn y m d))).toArray.size≤9;simp;exact qc0.2
 have HR:Hid (S=⟨(qb9 (wd (dn y m d))).toArray⟩):=hid hS.symm
 obtain⟨i,hi,hie⟩ : ∃ i:Nat,i<7∧wd (dn y m d)=(i:Int)+1:=⟨(wd (dn y m d)-1).toNat,by omega,by omega⟩
 have hc:=ht.wn i hi
 rw[←hie,hS] at hc
 have hc2:=HT.out.wn i hi
 rw[←hie,hS] at hc2
 have hlt:1<w.heap.size:=qb5 hc
 rw[hie] at hc2 hw ⊢
 clear hie
 clear hS ht hc
 go_enter Tryz.func193,Tryz.ntmps193
 go_wp2
 go_ret2
 exact⟨by rw[HX.out,←HR.out];rfl,(Below.refl _ w).alloc (Nat.le_refl _) _⟩
theorem xca{y m d c:Int}(hk:Ok y m d)(c1:0≤c)(c2:c<1440)(w:World)(ht:Tb w) :
  Calls Tryz.prog 193 #[mom y m d c,.int .u8 68] w fun e w'=>e=.returned (.tuple #[.string ⟨(tx y m d c 68).toArray⟩,.bool true])∧Below w.heap.size w w':=by
 have HT:=hid (ht.below ((Below.refl _ w).alloc (Nat.le_refl _) (.cells #[.int .i64 y,.int .i64 m,.int .i64 d,.int .i64 (cum y m+d-1),.int .i64 (wd (dn y m d)),.int .i64 c] 191)))
 have hy:=hk.in_year
 have hl:=qcd y
 have hm:=qbf y m
 obtain⟨a1,a2,a3,a4,a5,a6⟩:=hk
 have HX:Hid (tx y m d c 68=(qb9 (wd (dn y m d))).take 3):=hid (by simp[tx])
 have hw:1≤wd (dn y m d)∧wd (dn y m d)≤7:=by unfold wd;omega
 unfold mom
 obtain⟨S,hS⟩ : ∃ S:ByteArray,⟨(qb9 (wd (dn y m d))).toArray⟩=S:=⟨_,rfl⟩
 have hz:3≤S.size:=by rw[←hS];show 3≤(qb9 (wd (dn y m d))).toArray.size;simp;exact qc0.1
 have hz2:S.size≤9:=by rw[←hS];show(qb9 (wd (dn y m d))).toArray.size≤9;simp;exact qc0.2
 have HR:Hid (S.extract 0 3=⟨((qb9 (wd (dn y m d))).take 3).toArray⟩):=hid (qi6 (by rw[Lib.extract_data,←hS];simp))
 obtain⟨i,hi,hie⟩ : ∃ i:Nat,i<7∧wd (dn y m d)=(i:Int)+1:=⟨(wd (dn y m d)-1).toNat,by omega,by omega⟩
 have hc:=ht.wn i hi
 rw[←hie,hS] at hc
 have hc2:=HT.out.wn i hi
 rw[←hie,hS] at hc2
 have hlt:1<w.heap.size:=qb5 hc
 rw[hie] at hc2 hw ⊢
 clear hie
 clear hS ht hc
 go_enter Tryz.func193,Tryz.ntmps193
 go_wp2
 go_ret2
 exact⟨by rw[HX.out,←HR.out];rfl,(Below.refl _ w).alloc (Nat.le_refl _) _⟩
theorem qe7{b:UInt8}(h:qde b=true):b=89∨b=110∨b=106∨b=122∨b=78∨b=71∨b=109∨b=100∨b=72∨b=105∨b=70∨b=77∨b=108∨b=68:=by
 unfold qde at h;rw[decide_eq_true_iff] at h;rcases h with rfl | rfl | rfl | rfl | rfl | rfl | rfl | rfl | rfl | rfl | rfl | rfl | rfl | rfl<;>simp
theorem qss{y m d c:Int}(hk:Ok y m d)(c1:0≤c)(c2:c<1440){b:UInt8}(hb:qde b=true)(w:World)(ht:Tb w) :
  Calls Tryz.prog 193 #[mom y m d c,.int .u8 (b.toNat:Int)] w fun e w'=>e=.returned (.tuple #[.string ⟨(tx y m d c b).toArray⟩,.bool true])∧Below w.heap.size w w':=by
 rcases qe7 hb with rfl | rfl | rfl | rfl | rfl | rfl | rfl | rfl | rfl | rfl | rfl | rfl | rfl | rfl
 ·exact xcg hk c1 c2 w ht
 ·exact q8d hk c1 c2 w ht
 ·exact q8a hk c1 c2 w ht
 ·exact q8e hk c1 c2 w ht
 ·exact xcf hk c1 c2 w ht
 ·exact xcc hk c1 c2 w ht
 ·exact q8c hk c1 c2 w ht
 ·exact q7y hk c1 c2 w ht
 ·exact xcd hk c1 c2 w ht
 ·exact q7z hk c1 c2 w ht
 ·exact xcb hk c1 c2 w ht
 ·exact xce hk c1 c2 w ht
 ·exact q8b hk c1 c2 w ht
 ·exact xca hk c1 c2 w ht
theorem qst{y m d c:Int}{b:UInt8}(hb:qde b=false)(w:World) :
  Calls Tryz.prog 193 #[mom y m d c,.int .u8 (b.toNat:Int)] w fun e w'=>e=.returned (.tuple #[.string ⟨#[]⟩,.bool false])∧Below w.heap.size w w':=by
 have hn : ∀ x:UInt8,qde x=true→b≠x:=fun x hx e=>by rw[e,hx] at hb;cases hb
 have e89:((b.toNat:Int)==89)=false:=qci (hn 89 rfl)
 have e110:((b.toNat:Int)==110)=false:=qci (hn 110 rfl)
 have e106:((b.toNat:Int)==106)=false:=qci (hn 106 rfl)
 have e122:((b.toNat:Int)==122)=false:=qci (hn 122 rfl)
 have e78:((b.toNat:Int)==78)=false:=qci (hn 78 rfl)
 have e71:((b.toNat:Int)==71)=false:=qci (hn 71 rfl)
 have e109:((b.toNat:Int)==109)=false:=qci (hn 109 rfl)
 have e100:((b.toNat:Int)==100)=false:=qci (hn 100 rfl)
 have e72:((b.toNat:Int)==72)=false:=qci (hn 72 rfl)
 have e105:((b.toNat:Int)==105)=false:=qci (hn 105 rfl)
 have e70:((b.toNat:Int)==70)=false:=qci (hn 70 rfl)
 have e77:((b.toNat:Int)==77)=false:=qci (hn 77 rfl)
 have e108:((b.toNat:Int)==108)=false:=qci (hn 108 rfl)
 have e68:((b.toNat:Int)==68)=false:=qci (hn 68 rfl)
 clear hn hb
 unfold mom
 go_enter Tryz.func193,Tryz.ntmps193
 go_wp2
 go_ret2
 exact⟨rfl,(Below.refl _ w).alloc (Nat.le_refl _) _⟩
end Go.Proofs.YtldkgbnmaefaaaaGreatDoor.Ca
namespace Go.Proofs.YtldkgbnmaefaaaaGreatDoor.Ca
open Go.RowKit Go.Shelf Rf
attribute [local go_sem] Oper.semAt_some
theorem qkx(l:List UInt8)(k:Nat)(h:k<l.length)(hn : ¬ (l[k]=92∧k+1<l.length)):qhu (l.drop k)=(l[k],false) :: qhu (l.drop (k+1)):=by
 rw[List.drop_eq_getElem_cons h]
 by_cases h1:k+1<l.length
 ·have : ¬ l[k]=92:=fun e=>hn ⟨e,h1⟩
  rw[List.drop_eq_getElem_cons h1,qhu,if_neg this]
 ·rw[List.drop_eq_nil_of_le (by omega)]
  rfl
theorem qra(l:List UInt8)(k:Nat)(h:k+1<l.length)(h9:l[k]=92):qhu (l.drop k)=(l[k+1],true) :: qhu (l.drop (k+2)):=by
 rw[List.drop_eq_getElem_cons (by omega:k<l.length),List.drop_eq_getElem_cons h,qhu,if_pos h9]
theorem qpr(s:ByteArray)(w:World) :
  Calls Tryz.prog 192 #[.string s] w fun e w' =>
   e=.returned (.func (.func 232) #[] #[.pointer (some ⟨w.heap.size,0,none⟩)])∧w.alloc (.cells #[.string s] 9)=w':=by
 go_enter Tryz.func192,Tryz.ntmps192
 go_wp2
 go_ret
 exact⟨rfl,rfl⟩
abbrev Sy:=UInt8×Bool
def Kq(Bs:Nat)(W W':World):Prop:=W'.heap[Bs]? = W.heap[Bs]?
theorem Kq.cell{Bs:Nat}{W W':World}(h:Kq Bs W W'){v:Value}(hv:W.cell? ⟨Bs,0,none⟩=some v):W'.cell? ⟨Bs,0,none⟩=some v:=by
 unfold World.cell? at hv ⊢;rw[show W'.heap[Bs]? = W.heap[Bs]? from h];exact hv
theorem Kq.t{Bs:Nat}{A B C:World}(h:Kq Bs A B)(k:Kq Bs B C):Kq Bs A C:=Eq.trans k h
theorem Kq.b{Bs:Nat}{w:World}(hB:Bs<w.heap.size)(W:World)(l:Nat)(o o':Obj)(hl:w.heap.size≤l)(_:W.heap[l]? = some o)(_:o.isCells=false)(_:o.isWalk=false):Kq Bs W (W.putObj l o') :=
 World.putObj_heap_other (by omega)
theorem Kq.of{Bs:Nat}{n:Nat}{A B:World}(h:Below n A B)(hB:Bs<n):Kq Bs A B:=h.block Bs hB
theorem qjb{α : Type}{l pre:List α}{x : α}{r:List α}(h:l=pre++(x :: r)):pre.length<l.length:=by rw[h];simp
theorem q7e(s:ByteArray)(Bs:Nat)(w:World)(hs:s.size≤4294967281)(hB:Bs<w.heap.size)(h0:w.cell? ⟨Bs,0,none⟩=some (.string s)) :
  SeqStopsK Fence.wide 2 Tryz.prog 232 #[.pointer (some ⟨Bs,0,none⟩)] (fun x:Sy => #[.int .u8 (x.1.toNat:Int),.bool x.2]) (Kq Bs)
   (fun xs=>xs=qhu s.data.toList) (fun _=>True) (qhu s.data.toList).length w:=by
 intro l J Jx W hW _ _ hY hJ0
 have k0:W.cell? ⟨Bs,0,none⟩=some (.string s):=(hW.cell (p:=⟨Bs,0,none⟩) (by show Bs<_;omega)).trans h0
 refine callsIn_of_wp Tryz.func232 rfl trivial ?_ rfl
 simp only[Tryz.ntmps232,List.size_toArray,List.length_cons,List.length_nil,Nat.reduceAdd,Nat.reduceSub,Array.replicate_succ,Array.replicate_zero,List.push_toArray,List.append_toArray,List.nil_append,List.cons_append]
 gi_wp2
 gi_loopw [3] (fun i wr => ∃ (pre:List Sy) (k:Nat),i=.int .i64 k∧k≤s.size∧wr.cell? ⟨Bs,0,none⟩=some (.string s)∧Hid (qhu s.data.toList=pre++qhu (s.data.toList.drop k))∧J pre wr)
  (fun i _=>s.size-(intOf i).toNat)
 case atStart=>exact⟨[],0,rfl,Nat.zero_le _,k0,hid (by simp),hJ0⟩
 case round =>
  obtain⟨pre,k,rfl,hk,c0,hp,hj⟩:=hrel
  have hsl:s.data.toList.length=s.size:=by simp
  by_cases hlt:k<s.size
  ·have hgk:s.data.toList[k]'(by simpa using hlt)=s[k]:=by simp[ByteArray.getElem_eq_getElem_data]
   by_cases h9:s[k]=92∧k+1<s.size
   ·obtain⟨h9,hlt1⟩:=h9
    have hg1:s.data.toList[k+1]'(by simpa using hlt1)=s[k+1]:=by simp[ByteArray.getElem_eq_getElem_data]
    have he:=qra s.data.toList k (by simpa using hlt1) (hgk.trans h9)
    rw[hg1] at he
    have HE:=hid he
    have hd:((s[k].toNat:Int)==92)=true:=by rw[h9];rfl
    obtain⟨fn,tmps,assign,body,hy,hR⟩:=hY pre (s[k+1],true) wr hj (qjb (hp.out.trans (by rw[HE.out])))
    dsimp only at hy
    have hi:(k:Int)+1<s.size:=by omega
    clear h9 he hg1 hgk
    gi_wp2
    refine hR.mono ?_
    rintro e W3 (⟨rfl,hJ3,hk3⟩ | ⟨rfl,hJx3⟩)
    ·have d0:W3.cell? ⟨Bs,0,none⟩=some (.string s):=hk3.cell c0
     gi_wp2
     go_roundw
     case rel=>exact⟨pre++[(s[k+1],true)],k+2,by go_num,by omega,d0,hid (by rw[hp.out,HE.out];simp),hJ3⟩
     case measure=>simp[intOf];omega
    ·gi_wp2
     refine bodyPost_ret (results_none rfl _ _ _) rfl ?_
     exact⟨⟨_,rfl⟩,.inr ⟨_,trivial,hJx3⟩⟩
   ·have he:=qkx s.data.toList k (by simpa using hlt) (by rw[hgk];simpa using h9)
    rw[hgk] at he
    have HE:=hid he
    obtain⟨fn,tmps,assign,body,hy,hR⟩:=hY pre (s[k],false) wr hj (qjb (hp.out.trans (by rw[HE.out])))
    dsimp only at hy
    by_cases hx:s[k]=92
    ·have hd:((s[k].toNat:Int)==92)=true:=by rw[hx];rfl
     have hi:(s.size:Int)≤(k:Int)+1:=by have : ¬ k+1<s.size:=fun h=>h9 ⟨hx,h⟩;omega
     have hi2:decide ((k:Int)+1<(s.size:Int))=false:=by rw[decide_eq_false_iff_not];omega
     clear he hgk hx h9
     gi_wp2
     refine hR.mono ?_
     rintro e W3 (⟨rfl,hJ3,hk3⟩ | ⟨rfl,hJx3⟩)
     ·have d0:W3.cell? ⟨Bs,0,none⟩=some (.string s):=hk3.cell c0
      gi_wp2
      go_roundw
      case rel=>exact⟨pre++[(s[k],false)],k+1,by go_num,by omega,d0,hid (by rw[hp.out,HE.out];simp),hJ3⟩
      case measure=>simp[intOf];omega
     ·gi_wp2
      refine bodyPost_ret (results_none rfl _ _ _) rfl ?_
      exact⟨⟨_,rfl⟩,.inr ⟨_,trivial,hJx3⟩⟩
    ·have hd:((s[k].toNat:Int)==92)=false:=qci hx
     clear he hgk hx h9
     gi_wp2
     refine hR.mono ?_
     rintro e W3 (⟨rfl,hJ3,hk3⟩ | ⟨rfl,hJx3⟩)
     ·have d0:W3.cell? ⟨Bs,0,none⟩=some (.string s):=hk3.cell c0
      gi_wp2
      go_roundw
      case rel=>exact⟨pre++[(s[k],false)],k+1,by go_num,by omega,d0,hid (by rw[hp.out,HE.out];simp),hJ3⟩
      case measure=>simp[intOf];omega
     ·gi_wp2
      refine bodyPost_ret (results_none rfl _ _ _) rfl ?_
      exact⟨⟨_,rfl⟩,.inr ⟨_,trivial,hJx3⟩⟩
  ·obtain rfl:k=s.size:=by omega
   gi_wp2
   go_end0
   exact⟨⟨_,rfl⟩,.inl ⟨pre,by rw[hp.out,List.drop_of_length_le (by simp)];simp[qhu],hj⟩⟩
end Go.Proofs.YtldkgbnmaefaaaaGreatDoor.Ca
namespace Go.Proofs.YtldkgbnmaefaaaaGreatDoor.Ca
open Go.RowKit Go.Shelf Rf
attribute [local go_sem] Oper.semAt_some
end Go.Proofs.YtldkgbnmaefaaaaGreatDoor.Ca
namespace Go.Proofs.YtldkgbnmaefaaaaGreatDoor.Ca
open Go.RowKit Go.Shelf Rf
attribute [local go_sem] Oper.semAt_some
set_option linter.unusedVariables false
def Kc(W W':World):Prop := ∀ (k:Nat) cs t fz,W.heap[k]? = some (Obj.cells cs t fz)→W'.heap[k]? = some (Obj.cells cs t fz)
theorem Kc.of{W W':World}(h:Below W.heap.size W W'):Kc W W':=fun k _ _ _ hk=>(h.block k (Array.getElem?_eq_some_iff.1 hk).1).trans hk
theorem Kc.grown{W W':World}{row:Option Nat}(hg:W.grownBy W' row)(hr : ∀ r,row=some r → ∃ o:Obj,W.heap[r]? = some o∧o.isCells=false):Kc W W':=fun k cs t fz hk=>by
 refine(hg.block k (Array.getElem?_eq_some_iff.1 hk).1 ?_).trans hk
 intro e
 obtain⟨o,ho,hc⟩:=hr k e.symm
 rw[hk] at ho;cases ho;cases hc
theorem qpa{w w':World}{base:Nat}{e:TypeId}{size:Nat}{v:Value}{n:Nat}{xs:List Value}(h:w.ownsRowF base e size v n xs)(hk:Kc w w'):w'.ownsRowF base e size v n xs:=by
 refine⟨h.1,h.2.imp id ?_⟩
 rintro⟨g,cap,cur,fz,h3,h4,h5,h6⟩
 exact⟨g,cap,cur,fz,h3,h4,hk _ _ _ _ h5,h6⟩
theorem qiy{w w':World}{B b:Nat}{p:Value}{bs:List Value}{T e:TypeId}(h:Lib.BuilderAtF T e B b p bs w)(hk:Kc w w'):Lib.BuilderAtF T e B b p bs w':=by
 obtain⟨h1,v,h2,h3,h4⟩:=h
 exact⟨h1,v,hk _ _ _ _ h2,qpa h3 hk,h4⟩
def Bd(w:World)(B b:Nat)(x:List UInt8):Prop:=Lib.IsBuilderF 170 5 B b (Lib.byteCells x) w
theorem Bd.kc{w w':World}{B b:Nat}{x:List UInt8}(h:Bd w B b x)(hk:Kc w w'):Bd w' B b x:=h.imp (fun h=>qiy h hk) (fun h=>qiy h hk)
theorem Bd.block{w:World}{B b:Nat}{x:List UInt8}(h:Bd w B b x) : ∃ cs t fz,w.heap[b]? = some (.cells cs t fz):=by
 rcases h with⟨_,v,h2,_⟩ | ⟨_,v,h2,_⟩<;>exact⟨_,_,_,h2⟩
theorem qfr{W W':World}(h:Below W.heap.size W W'):KeepsOthers W W':=⟨h.size,fun k _ hk _=>(h.block k (Array.getElem?_eq_some_iff.1 hk).1).trans hk⟩
structure Fr (B b:Nat) (w w':World):Prop where
 below:Below B w w'
 kept:Lib.OthersKept 5 (some b) w w'
theorem Fr.keeps{B b:Nat}{W W':World}(h:Fr B b W W')(hb : ∃ cs t fz,W.heap[b]? = some (.cells cs t fz)):KeepsOthers W W':=⟨h.below.size,fun k o hk ho=>by
 refine h.kept _ _ hk (fun e => ?_) (fun c fz e=>by rw[e] at ho;cases ho)
 obtain⟨cs,t,fz,hc⟩:=hb
 have:=Option.some.inj e
 subst this
 rw[hk] at hc;cases hc;cases ho⟩
theorem Fr.cells{B b:Nat}{W W':World}(h:Fr B b W W'){k:Nat}{cs:Array Value}{t:TypeId}(hk:W.heap[k]? = some (.cells cs t))(hne:k≠b)(ht:t≠5):W'.heap[k]? = some (.cells cs t) :=
 h.kept _ _ hk (fun e=>hne (by have:=Option.some.inj e;omega)) (fun c fz e=>ht (by injection e))
theorem qab{w:World}{g:Nat}{cs:Array Value}{t:TypeId}{i:Nat}{v:Value}(h:w.heap[g]? = some (.cells cs t))(hv:cs[i]? = some v):w.cell? ⟨g,i,none⟩=some v:=by
 simp[World.cell?,h,hv]
theorem WStr(B b:Nat)(x:List UInt8)(s:ByteArray)(w:World)(h:Bd w B b x)(hl:x.length+s.size≤140737488355328)(hB:B≤w.heap.size) :
  Calls Tryz.prog 169 #[.pointer (some ⟨b,0,none⟩),.string s] w fun e w'=>e=.returned (.tuple #[.int .i64 s.size,.nilIface])∧Bd w' B b (x++s.data.toList)∧Fr B b w w' :=
 (Tryz.Builder_WriteStringk B b _ s w h (by rw[Lib.byteCells_length];exact hl) hB).mono fun e w' ⟨h1,h2,h3,h4⟩=>⟨h1,.inr (by rw[Lib.byteCells_append,←Lib.strCells_eq];exact h2),h3,h4⟩
theorem q9s(B b:Nat)(x:List UInt8)(c:UInt8)(w:World)(h:Bd w B b x)(hl:x.length+1≤140737488355328)(hB:B≤w.heap.size) :
  Calls Tryz.prog 194 #[.pointer (some ⟨b,0,none⟩),.int .u8 (c.toNat:Int)] w fun e w'=>e=.returned .nilIface∧Bd w' B b (x++[c])∧Fr B b w w' :=
 (Tryz.Builder_WriteBytek B b _ (c.toNat:Int) w h (by rw[Lib.byteCells_length];exact hl) hB).mono fun e w' ⟨h1,h2,h3,h4⟩=>⟨h1,.inr (by rw[Lib.byteCells_append];exact h2),h3,h4⟩
theorem xcq(B b:Nat)(x:List UInt8)(w:World)(h:Bd w B b x)(hB:B≤w.heap.size) :
  Calls Tryz.prog 170 #[.pointer (some ⟨b,0,none⟩)] w fun e w'=>e=.returned (.string ⟨x.toArray⟩)∧Bd w' B b x∧Fr B b w w' :=
 (Tryz.Builder_String_anyk B b x w h hB).mono fun e w' ⟨h1,h2,h3,h4⟩=>⟨h1,h2,h3,h4⟩
theorem q5d{n:Int}(h1:0≤n)(h2:n<10000):(Lib.itoa n).length≤9:=by have:=qim h1 h2;omega
theorem qxb{n:Int}(h1:0≤n)(h2:n<100):(two n).length≤9:=by rw[q2o h1 h2];simp
theorem qxc{y m d c:Int}(hk:Ok y m d)(c1:0≤c)(c2:c<1440)(b:UInt8):(tx y m d c b).length≤9:=by
 have hy:=hk.in_year
 have hl:=qcd y
 have hm:=qbf y m
 obtain⟨a1,a2,a3,a4,a5,a6⟩:=hk
 have hw:1≤wd (dn y m d)∧wd (dn y m d)≤7:=by unfold wd;omega
 have t1:=List.length_take_le 3 (qbu m)
 have t2:=List.length_take_le 3 (qb9 (wd (dn y m d)))
 by_cases hb:qde b=true
 ·rcases qe7 hb with rfl | rfl | rfl | rfl | rfl | rfl | rfl | rfl | rfl | rfl | rfl | rfl | rfl | rfl
  all_goals
   first
    |(simp[tx];done)
    |(simp[tx];exact q5d (by omega) (by omega))
    |(simp[tx];exact qxb (by omega) (by omega))
    |(simp[tx];exact qct.2)
    |(simp[tx];exact qc0.2)
    |(simp[tx];omega)
 ·have hn : ∀ x:UInt8,qde x=true→b≠x:=fun x hx e=>hb (by rw[e];exact hx)
  unfold tx
  rw[if_neg (hn _ rfl),if_neg (hn _ rfl),if_neg (hn _ rfl),if_neg (hn _ rfl),if_neg (hn _ rfl),if_neg (hn _ rfl),if_neg (hn _ rfl),if_neg (hn _ rfl),if_neg (hn _ rfl),if_neg (hn _ rfl),if_neg (hn _ rfl),if_neg (hn _ rfl),if_neg (hn _ rfl),if_neg (hn _ rfl)]
  simp
theorem q5x{y m d c:Int}(hk:Ok y m d)(c1:0≤c)(c2:c<1440)(x:Sy):(out y m d c x).length≤9:=by
 unfold out;split
 ·simp
 ·exact qxc hk c1 c2 _
theorem qlx{y m d c:Int}(hk:Ok y m d)(c1:0≤c)(c2:c<1440) : ∀ l:List Sy,(l.flatMap (out y m d c)).length≤9*l.length
 | []=>by simp
 |x :: l=>by
  have a:=q5x hk c1 c2 x
  have b:=qlx hk c1 c2 l
  rw[List.flatMap_cons,List.length_append,List.length_cons];omega
theorem qiu : ∀ (n:Nat) (l:List UInt8),l.length≤n→(qhu l).length≤l.length
 | _,[],_=>by simp[qhu]
 | _,[c],_=>by simp[qhu]
 | 0,c :: x :: r,h=>by simp at h
 |n+1,c :: x :: r,h=>by
  rw[List.length_cons,List.length_cons] at h
  have h1:=qiu n r (by omega)
  have h2:=qiu n (x :: r) (by rw[List.length_cons];omega)
  rw[List.length_cons] at h2
  unfold qhu;split
  ·rw[List.length_cons,List.length_cons,List.length_cons];omega
  ·rw[List.length_cons,List.length_cons,List.length_cons];omega
theorem three(w:World)(a b c:Obj):(((w.alloc a).alloc b).alloc c).heap[w.heap.size]? = some a∧(((w.alloc a).alloc b).alloc c).heap[w.heap.size+1]? = some b∧(((w.alloc a).alloc b).alloc c).heap[w.heap.size+2]? = some c:=by
 have h1:(w.alloc a).heap.size=w.heap.size+1:=World.size_alloc _ _
 have h2:((w.alloc a).alloc b).heap.size=w.heap.size+2:=by rw[World.size_alloc,h1]
 have n1:=World.alloc_heap_new w a
 have n2:=World.alloc_heap_new (w.alloc a) b
 have n3:=World.alloc_heap_new ((w.alloc a).alloc b) c
 rw[h1] at n2;rw[h2] at n3
 exact⟨(Below.heap_alloc _ _ _ (by omega)).trans ((Below.heap_alloc _ _ _ (by omega)).trans n1),(Below.heap_alloc _ _ _ (by omega)).trans n2,n3⟩
theorem qrq{y m d c:Int}(hk:Ok y m d)(c1:0≤c)(c2:c<1440)(s:ByteArray)(w:World)(hs:s.size≤400)(ht:Tb w) :
  Calls Tryz.prog 127 #[.string s,.int .i64 (inst y m d c)] w fun e w'=>e=.returned (.tuple #[.string ⟨(fmt y m d c s.data.toList).toArray⟩,.int .i64 0])∧Below w.heap.size w w':=by
 have hr:=qas hk c1 c2
 have HC:=hid (fun w=>qnp ⟨hr.1,hr.2.1⟩ w)
 have HM:=hid (fun w ht=>qh1 hk c1 c2 w ht)
 obtain⟨n,hn⟩ : ∃ n,inst y m d c=n:=⟨_,rfl⟩
 rw[hn] at HC HM
 rw[hn]
 clear hn hr
 have HK:=hid hk
 clear hk
 refine(callsIn_wide (n:=3)).1 ?_
 refine callsIn_of_wp_marks Tryz.func127 rfl trivial ?_ rfl
 simp only[Tryz.ntmps127,List.size_toArray,List.length_cons,List.length_nil,Nat.reduceAdd,Nat.reduceSub,Array.replicate_succ,Array.replicate_zero,List.push_toArray,List.append_toArray,List.nil_append,List.cons_append]
 gi_wp2
 refine⟨trivial,(callsIn_wide.2 (HC.out _)).mono ?_⟩
 rintro e w'⟨rfl,rfl⟩
 gi_wp2
 refine⟨trivial,(callsIn_wide.2 (HM.out _ ht)).mono ?_⟩
 rintro e w1⟨rfl,hb⟩
 unfold mom
 gi_wp2
 refine⟨trivial,(callsIn_wide.2 (qpr _ _)).mono ?_⟩
 rintro e w'⟨rfl,rfl⟩
 gi_wp2
 obtain⟨W0,hW0⟩ : ∃ W0,(((w1.alloc (.cells #[.int .i64 y,.int .i64 m,.int .i64 d,.int .i64 (cum y m+d-1),.int .i64 (wd (dn y m d)),.int .i64 c] 191)).alloc (.cells #[.pointer none,.slice none 0 0] 170)).alloc (.cells #[.string s] 9))=W0:=⟨_,rfl⟩
 have hBw:Below w.heap.size w W0:=by rw[←hW0];exact((hb.alloc hb.size _).alloc (by rw[World.size_alloc];have:=hb.size;omega) _).alloc (by rw[World.size_alloc,World.size_alloc];have:=hb.size;omega) _
 have hz0:W0.heap.size=w1.heap.size+3:=by rw[←hW0];simp
 have hp0:W0.cell? ⟨w1.heap.size+2,0,none⟩=some (.string s):=by rw[←hW0];exact qab (three _ _ _ _).2.2 rfl
 have hm0:W0.heap[w1.heap.size]? = some (.cells #[.int .i64 y,.int .i64 m,.int .i64 d,.int .i64 (cum y m+d-1),.int .i64 (wd (dn y m d)),.int .i64 c] 191):=by rw[←hW0];exact(three _ _ _ _).1
 have hd0:Bd W0 w.heap.size (w1.heap.size+1) []:=by
  refine .inl ⟨by have:=hb.size;omega,.slice none 0 0,?_,World.ownsRowF_of (World.ownsRow_nil _ _ _ _),by simp[Value.ownBlock]⟩
  rw[←hW0];exact(three _ _ _ _).2.1
 have hT0:Tb W0:=ht.below hBw
 have hw1:=hb.size
 rw[show w1.heap.size+1+1=w1.heap.size+2 from rfl]
 have HW0:=hid hW0
 rw[hW0]
 clear hW0 hb
 refine wpIn_rangeFunc_ownF rfl (by omega) (gf:=232) (lb := #[.pointer (some ⟨w1.heap.size+2,0,none⟩)]) rfl trivial (enters_of Tryz.func232 (by kernel_rfl) rfl)
  (q7e s (w1.heap.size+2) _ (by omega) (by omega) hp0) (fun h k=>Kq.t h k) (Kq.b (by omega)) (Below.refl _ _) (fun _=>rfl)
  (fun pre W=>(W.heap[w1.heap.size]? = some (.cells #[.int .i64 y,.int .i64 m,.int .i64 d,.int .i64 (cum y m+d-1),.int .i64 (wd (dn y m d)),.int .i64 c] 191)∧Bd W w.heap.size (w1.heap.size+1) (pre.flatMap (out y m d c))∧(∃ o,W.heap[w1.heap.size+2]? = some o ∧ ∃ cs t,o=.cells cs t∧t≠5))∧Below w.heap.size w W)
  (fun c pre W=>False)
  (OwnFrom.and (Own.from (fun s A B row hs hg hr=>⟨Kc.grown hg hr _ _ _ _ hs.1,hs.2.1.kc (Kc.grown hg hr),by obtain⟨o,h1,cs,t,rfl,h3⟩:=hs.2.2;exact⟨_,Kc.grown hg hr _ _ _ _ h1,_,_,rfl,h3⟩⟩) _) (ownFrom_below (Nat.le_refl _) (by omega)))
  (fun c=>fun _ _ _ _ hs _ _=>hs)
  ⟨⟨hm0,hd0,?pat⟩,hBw⟩
  (fun x => { tmps := #[.string s,.int .i64 n,undef,undef,.string ⟨#[]⟩,.int .i64 0,.pointer (some ⟨w1.heap.size,0,none⟩),.pointer (some ⟨w1.heap.size+1,0,none⟩),.int .u8 (x.1.toNat:Int),.bool x.2,undef,undef,
   .int .i64 n,.bool true,.bool false,.string s,.int .i64 (s.size:Int),.bool (decide ((400:Int)<(s.size:Int))),.int .i64 n,
   .agg #[.int .i64 y,.int .i64 m,.int .i64 d,.int .i64 (cum y m+d-1),.int .i64 (wd (dn y m d)),.int .i64 c],.string s,
   .func (.func 232) #[] #[.pointer (some ⟨w1.heap.size+2,0,none⟩)],.int .u8 (x.1.toNat:Int),.bool x.2,undef,undef,undef,undef,undef,undef,undef,undef,undef,undef,undef,undef,undef,undef,undef,undef],defers:=[] }) ?assign ?body ?done ?stop
 case pat =>
  refine⟨.cells #[.string s] 9,?_,_,_,rfl,by decide⟩
  rw[←HW0.out];exact(three _ _ _ _).2.2
 case assign =>
  intro l x W K hK
  gi_wp2
  exact hK
 case body =>
  rintro l pre⟨x,lit⟩ W⟨⟨hm,hbd,hpat⟩,hB⟩ hlen
  have hfo:(pre++[(x,lit)]).flatMap (out y m d c)=pre.flatMap (out y m d c)++out y m d c (x,lit):=by rw[List.flatMap_append];simp
  have HF:=hid hfo
  have hq:=qlx HK.out c1 c2 pre
  have hq2:=qiu _ s.data.toList (Nat.le_refl _)
  have hq3:s.data.toList.length=s.size:=by simp
  have hql:(pre.flatMap (out y m d c)).length≤9*400:=by omega
  obtain⟨acc,hacc⟩ : ∃ acc,pre.flatMap (out y m d c)=acc:=⟨_,rfl⟩
  rw[hacc] at hbd HF hql
  clear hfo hacc hq hq2 hq3 hlen
  have m0:=qab (i:=0) hm rfl
  have m1:=qab (i:=1) hm rfl
  have m2:=qab (i:=2) hm rfl
  have m3:=qab (i:=3) hm rfl
  have m4:=qab (i:=4) hm rfl
  have m5:=qab (i:=5) hm rfl
  have hTW:=ht.below hB
  have HM:=hid hm
  have HP:=hid hpat
  have HBd:=hid hbd
  have HB:=hid hB
  have HTW:=hid hTW
  have hsz:=hB.size
  clear hm hpat hbd hB hTW
  have hend : ∀ (W1 W2:World) (t:List UInt8),Below W.heap.size W W1→Bd W2 w.heap.size (w1.heap.size+1) (acc++t)→Fr w.heap.size (w1.heap.size+1) W1 W2→out y m d c (x,lit)=t →
    ownPostK (Kq (w1.heap.size+2)) (fun pre W=>(W.heap[w1.heap.size]? = some (.cells #[.int .i64 y,.int .i64 m,.int .i64 d,.int .i64 (cum y m+d-1),.int .i64 (wd (dn y m d)),.int .i64 c] 191)∧Bd W w.heap.size (w1.heap.size+1) (pre.flatMap (out y m d c))∧(∃ o,W.heap[w1.heap.size+2]? = some o ∧ ∃ cs t,o=.cells cs t∧t≠5))∧Below w.heap.size w W) (fun c pre W=>False) (pre++[(x,lit)]) W .normal ⟨#[],[]⟩ W2:=by
   intro W1 W2 t hb1 hd2 hf2 ho
   have hk1:=Kc.of hb1
   obtain⟨o,hp1,cs,tt,rfl,hp3⟩:=HP.out
   have hp4:=hk1 _ _ _ _ hp1
   have hp5:=hf2.cells hp4 (by omega) hp3
   have hm4:=hk1 _ _ _ _ HM.out
   have hm5:=hf2.cells hm4 (by omega) (by decide)
   refine⟨(qfr hb1).trans (hf2.keeps ((HBd.out.kc hk1).block)),?_,⟨hm5,by rw[HF.out,ho];exact hd2,⟨_,hp5,_,_,rfl,hp3⟩⟩,(HB.out.trans (hb1.mono hsz)).trans hf2.below⟩
   show W2.heap[w1.heap.size+2]? = W.heap[w1.heap.size+2]?
   rw[hp5,hp1]
  have HEND:=hid hend
  clear hend
  by_cases hcode:qde x=true
  ·have HV:=hid (fun w ht=>qss HK.out c1 c2 hcode w ht)
   have htl:=qxc HK.out c1 c2 x
   have HO:Hid (out y m d c (x,lit)=if lit=true then [x] else tx y m d c x):=hid (by unfold out;rw[hcode];cases lit<;>simp)
   unfold mom at HV
   cases lit
   ·have HO2:Hid (out y m d c (x,false)=tx y m d c x):=hid (by rw[HO.out];simp)
    gi_wp2
    refine⟨trivial,(CallsIn.inRound l (callsIn_wide.2 (HV.out W HTW.out))).mono ?_⟩
    rintro e W1⟨rfl,hb1⟩
    have hd1:=HBd.out.kc (Kc.of hb1)
    have hs1:=hb1.size
    gi_wp2
    refine⟨trivial,(CallsIn.inRound l (callsIn_wide.2 (WStr _ _ acc ⟨(tx y m d c x).toArray⟩ W1 hd1 (by show acc.length+(tx y m d c x).toArray.size≤_;simp;omega) (by omega)))).mono ?_⟩
    rintro e W2⟨rfl,hd2,hf2⟩
    gi_wp2
    exact HEND.out W1 W2 (tx y m d c x) hb1 hd2 hf2 HO2.out
   ·have HO2:Hid (out y m d c (x,true)=[x]):=hid (by rw[HO.out];simp)
    gi_wp2
    refine⟨trivial,(CallsIn.inRound l (callsIn_wide.2 (HV.out W HTW.out))).mono ?_⟩
    rintro e W1⟨rfl,hb1⟩
    have hd1:=HBd.out.kc (Kc.of hb1)
    have hs1:=hb1.size
    gi_wp2
    refine⟨trivial,(CallsIn.inRound l (callsIn_wide.2 (q9s _ _ acc x W1 hd1 (by omega) (by omega)))).mono ?_⟩
    rintro e W2⟨rfl,hd2,hf2⟩
    gi_wp2
    exact HEND.out W1 W2 [x] hb1 hd2 hf2 HO2.out
  ·have hc2:qde x=false:=by simpa using hcode
   have HV:=hid (fun w=>qst (y:=y) (m:=m) (d:=d) (c:=c) hc2 w)
   have HO:Hid (out y m d c (x,lit)=[x]):=hid (by unfold out;rw[hc2];simp)
   unfold mom at HV
   cases lit
   all_goals
    gi_wp2
    refine⟨trivial,(CallsIn.inRound l (callsIn_wide.2 (HV.out W))).mono ?_⟩
    rintro e W1⟨rfl,hb1⟩
    have hd1:=HBd.out.kc (Kc.of hb1)
    have hs1:=hb1.size
    gi_wp2
    refine⟨trivial,(CallsIn.inRound l (callsIn_wide.2 (q9s _ _ acc x W1 hd1 (by omega) (by omega)))).mono ?_⟩
    rintro e W2⟨rfl,hd2,hf2⟩
    gi_wp2
    exact HEND.out W1 W2 [x] hb1 hd2 hf2 HO.out
 case done =>
  rintro D ys W hD hS⟨⟨hm,hbd,hpat⟩,hB⟩ hK
  subst hS
  have hsz:=hB.size
  have HF:Hid ((qhu s.data.toList).flatMap (out y m d c)=fmt y m d c s.data.toList):=hid rfl
  rw[HF.out] at hbd
  have HB:=hid hB
  have HBd:=hid hbd
  clear hm hpat hB hbd
  gi_wp2
  refine⟨trivial,(callsIn_wide.2 (xcq _ _ _ W HBd.out hsz)).mono ?_⟩
  rintro e W2⟨rfl,hd2,hf2⟩
  have hK2:W2.heap[D]? = some (.deferred (some [])):=(hf2.keeps HBd.out.block).same _ _ hK rfl
  have HB2:=hid (HB.out.trans hf2.below)
  clear hd2
  gi_wp2
  refine⟨by simp,.inl ⟨_,_,rfl,run_takeDeferred hK2,?_⟩⟩
  refine⟨_,results_tmp2 rfl _ _ _,rfl,?_⟩
  exact HB2.out.trans (belowK_b (w:=w) (Nat.le_refl _) W2 D _ _ (by omega) hK2 rfl rfl)
 case stop =>
  rintro D c pre W _ _ h _
  exact h.elim
end Go.Proofs.YtldkgbnmaefaaaaGreatDoor.Ca
