/-
  The contracts of Itoa, twoDigits, value and codeUnit of package calendar.
-/
import Derived.Test.YtlkbdnjpcagopaaDoorCaMom2
import Derived.Test.YtlkbdnjpcagopaaDoorCaWB
import Derived.Lib.IndexBytes
namespace Go.Proofs.YtlkbdnjpcagopaaDoor.Ca
open Go.RowKit
set_option linter.unusedVariables false

theorem Itoa_any (n : Int) (w : World) (h : n.natAbs ≤ 4611686018427387904) (ht : Tb w) : Calls Tryd.prog 53 #[.int .i64 n] w fun e w' => e = .returned (.string ⟨(Lib.itoa n).toArray⟩) ∧ Below w.heap.size w w' :=
  (Tryd.strconv_Itoa n (by omega) (by omega) w ht.tab).mono fun _ _ ⟨he, k, os, hw⟩ => ⟨he, by subst hw; exact Lib.below_grow _ w (Nat.le_refl _) k os⟩
theorem ext_arr {s : ByteArray} {l : List UInt8} (h : s.data.toList = l) : s = ⟨l.toArray⟩ := by
  apply ByteArray.ext; apply Array.ext'; simp [h]
theorem itoa_len {n : Int} (h1 : 0 ≤ n) (h2 : n < 10000) : 1 ≤ (Lib.itoa n).length ∧ (Lib.itoa n).length ≤ 4 := by
  by_cases a : n < 10
  · rw [itoa_small h1 a]; simp
  · by_cases b : n < 100
    · rw [itoa_two (by omega) b]; simp
    · by_cases c : n < 1000
      · rw [itoa_three (by omega) c]; simp
      · rw [itoa_four (by omega) h2]; simp
theorem twoDigits_any {n : Int} (h1 : 0 ≤ n) (h2 : n < 100) (w : World) (ht : Tb w) : Calls Tryd.prog 54 #[.int .i64 n] w fun e w' => e = .returned (.string ⟨(two n).toArray⟩) ∧ Below w.heap.size w w' := by
  have hl := itoa_len (n := 100 + n) (by omega) (by omega)
  obtain ⟨S, hS⟩ : ∃ S : ByteArray, ⟨(Lib.itoa (100 + n)).toArray⟩ = S := ⟨_, rfl⟩
  have hz : 1 ≤ S.size := by rw [← hS]; show 1 ≤ (Lib.itoa (100 + n)).toArray.size; simp; omega
  have hz2 : S.size ≤ 4 := by rw [← hS]; show (Lib.itoa (100 + n)).toArray.size ≤ 4; simp; omega
  have HR : Hid (S.extract 1 S.size = ⟨(two n).toArray⟩) := Lib.hid (ext_arr (by rw [Lib.extract_to_end, ← hS]; exact two_hund h1 h2))
  have HC := Lib.hid (fun w ht => Itoa_any (100 + n) w (by omega) ht)
  rw [hS] at HC
  clear hS hl
  go_enter Tryd.func54, Tryd.ntmps54
  go_wp2_with fail
  refine (HC.out _ ht).mono ?_
  rintro e w1 ⟨rfl, hb⟩
  go_wp2
  go_ret
  exact ⟨ret_str HR.out, hb⟩
theorem u8_ne {b c : UInt8} (h : b ≠ c) : ((b.toNat : Int) == (c.toNat : Int)) = false := by
  rw [beq_eq_false_iff_ne]; intro e; exact h (UInt8.toNat_inj.1 (by omega))
theorem mname_len {m : Int} : 3 ≤ (mname m).length ∧ (mname m).length ≤ 9 := by
  unfold mname
  by_cases h1 : m = 1
  · rw [if_pos h1]; decide
  · rw [if_neg h1]
    by_cases h2 : m = 2
    · rw [if_pos h2]; decide
    · rw [if_neg h2]
      by_cases h3 : m = 3
      · rw [if_pos h3]; decide
      · rw [if_neg h3]
        by_cases h4 : m = 4
        · rw [if_pos h4]; decide
        · rw [if_neg h4]
          by_cases h5 : m = 5
          · rw [if_pos h5]; decide
          · rw [if_neg h5]
            by_cases h6 : m = 6
            · rw [if_pos h6]; decide
            · rw [if_neg h6]
              by_cases h7 : m = 7
              · rw [if_pos h7]; decide
              · rw [if_neg h7]
                by_cases h8 : m = 8
                · rw [if_pos h8]; decide
                · rw [if_neg h8]
                  by_cases h9 : m = 9
                  · rw [if_pos h9]; decide
                  · rw [if_neg h9]
                    by_cases h10 : m = 10
                    · rw [if_pos h10]; decide
                    · rw [if_neg h10]
                      by_cases h11 : m = 11
                      · rw [if_pos h11]; decide
                      · rw [if_neg h11]; decide
theorem wname_len {m : Int} : 3 ≤ (wname m).length ∧ (wname m).length ≤ 9 := by
  unfold wname
  by_cases h1 : m = 1
  · rw [if_pos h1]; decide
  · rw [if_neg h1]
    by_cases h2 : m = 2
    · rw [if_pos h2]; decide
    · rw [if_neg h2]
      by_cases h3 : m = 3
      · rw [if_pos h3]; decide
      · rw [if_neg h3]
        by_cases h4 : m = 4
        · rw [if_pos h4]; decide
        · rw [if_neg h4]
          by_cases h5 : m = 5
          · rw [if_pos h5]; decide
          · rw [if_neg h5]
            by_cases h6 : m = 6
            · rw [if_pos h6]; decide
            · rw [if_neg h6]; decide
set_option maxRecDepth 100000 in
set_option maxHeartbeats 1000000 in
theorem val_89 {y m d c : Int} (hk : Ok y m d) (c1 : 0 ≤ c) (c2 : c < 1440) (w : World) (ht : Tb w) :
    Calls Tryd.prog 45 #[mom y m d c, .int .u8 89] w fun e w' => e = .returned (.tuple #[.string ⟨(tx y m d c 89).toArray⟩, .bool true]) ∧ Below w.heap.size w w' := by
  have HT := Lib.hid (ht.below ((Below.refl _ w).alloc (Nat.le_refl _) (.cells #[.int .i64 y, .int .i64 m, .int .i64 d, .int .i64 (cum y m + d - 1), .int .i64 (wd (dn y m d)), .int .i64 c] 48)))
  have hy := hk.in_year
  have hl := yl_ge y
  have hm := ml_ge y m
  obtain ⟨a1, a2, a3, a4, a5, a6⟩ := hk
  have HX : Hid (tx y m d c 89 = Lib.itoa (y)) := Lib.hid (by simp [tx])
  unfold mom
  have hw : 1 ≤ wd (dn y m d) ∧ wd (dn y m d) ≤ 7 := by unfold wd; omega
  go_enter Tryd.func45, Tryd.ntmps45
  go_wp2_with fail
  refine (Itoa_any (y) _ (by omega) HT.out).mono ?_
  rintro e w1 ⟨rfl, hb⟩
  go_wp2
  go_ret2
  exact ⟨by rw [HX.out]; rfl, below1 hb⟩
set_option maxRecDepth 100000 in
set_option maxHeartbeats 1000000 in
theorem val_110 {y m d c : Int} (hk : Ok y m d) (c1 : 0 ≤ c) (c2 : c < 1440) (w : World) (ht : Tb w) :
    Calls Tryd.prog 45 #[mom y m d c, .int .u8 110] w fun e w' => e = .returned (.tuple #[.string ⟨(tx y m d c 110).toArray⟩, .bool true]) ∧ Below w.heap.size w w' := by
  have HT := Lib.hid (ht.below ((Below.refl _ w).alloc (Nat.le_refl _) (.cells #[.int .i64 y, .int .i64 m, .int .i64 d, .int .i64 (cum y m + d - 1), .int .i64 (wd (dn y m d)), .int .i64 c] 48)))
  have hy := hk.in_year
  have hl := yl_ge y
  have hm := ml_ge y m
  obtain ⟨a1, a2, a3, a4, a5, a6⟩ := hk
  have HX : Hid (tx y m d c 110 = Lib.itoa (m)) := Lib.hid (by simp [tx])
  unfold mom
  have hw : 1 ≤ wd (dn y m d) ∧ wd (dn y m d) ≤ 7 := by unfold wd; omega
  go_enter Tryd.func45, Tryd.ntmps45
  go_wp2_with fail
  refine (Itoa_any (m) _ (by omega) HT.out).mono ?_
  rintro e w1 ⟨rfl, hb⟩
  go_wp2
  go_ret2
  exact ⟨by rw [HX.out]; rfl, below1 hb⟩
set_option maxRecDepth 100000 in
set_option maxHeartbeats 1000000 in
theorem val_106 {y m d c : Int} (hk : Ok y m d) (c1 : 0 ≤ c) (c2 : c < 1440) (w : World) (ht : Tb w) :
    Calls Tryd.prog 45 #[mom y m d c, .int .u8 106] w fun e w' => e = .returned (.tuple #[.string ⟨(tx y m d c 106).toArray⟩, .bool true]) ∧ Below w.heap.size w w' := by
  have HT := Lib.hid (ht.below ((Below.refl _ w).alloc (Nat.le_refl _) (.cells #[.int .i64 y, .int .i64 m, .int .i64 d, .int .i64 (cum y m + d - 1), .int .i64 (wd (dn y m d)), .int .i64 c] 48)))
  have hy := hk.in_year
  have hl := yl_ge y
  have hm := ml_ge y m
  obtain ⟨a1, a2, a3, a4, a5, a6⟩ := hk
  have HX : Hid (tx y m d c 106 = Lib.itoa (d)) := Lib.hid (by simp [tx])
  unfold mom
  have hw : 1 ≤ wd (dn y m d) ∧ wd (dn y m d) ≤ 7 := by unfold wd; omega
  go_enter Tryd.func45, Tryd.ntmps45
  go_wp2_with fail
  refine (Itoa_any (d) _ (by omega) HT.out).mono ?_
  rintro e w1 ⟨rfl, hb⟩
  go_wp2
  go_ret2
  exact ⟨by rw [HX.out]; rfl, below1 hb⟩
set_option maxRecDepth 100000 in
set_option maxHeartbeats 1000000 in
theorem val_122 {y m d c : Int} (hk : Ok y m d) (c1 : 0 ≤ c) (c2 : c < 1440) (w : World) (ht : Tb w) :
    Calls Tryd.prog 45 #[mom y m d c, .int .u8 122] w fun e w' => e = .returned (.tuple #[.string ⟨(tx y m d c 122).toArray⟩, .bool true]) ∧ Below w.heap.size w w' := by
  have HT := Lib.hid (ht.below ((Below.refl _ w).alloc (Nat.le_refl _) (.cells #[.int .i64 y, .int .i64 m, .int .i64 d, .int .i64 (cum y m + d - 1), .int .i64 (wd (dn y m d)), .int .i64 c] 48)))
  have hy := hk.in_year
  have hl := yl_ge y
  have hm := ml_ge y m
  obtain ⟨a1, a2, a3, a4, a5, a6⟩ := hk
  have HX : Hid (tx y m d c 122 = Lib.itoa (cum y m + d - 1)) := Lib.hid (by simp [tx])
  unfold mom
  have hw : 1 ≤ wd (dn y m d) ∧ wd (dn y m d) ≤ 7 := by unfold wd; omega
  go_enter Tryd.func45, Tryd.ntmps45
  go_wp2_with fail
  refine (Itoa_any (cum y m + d - 1) _ (by omega) HT.out).mono ?_
  rintro e w1 ⟨rfl, hb⟩
  go_wp2
  go_ret2
  exact ⟨by rw [HX.out]; rfl, below1 hb⟩
set_option maxRecDepth 100000 in
set_option maxHeartbeats 1000000 in
theorem val_78 {y m d c : Int} (hk : Ok y m d) (c1 : 0 ≤ c) (c2 : c < 1440) (w : World) (ht : Tb w) :
    Calls Tryd.prog 45 #[mom y m d c, .int .u8 78] w fun e w' => e = .returned (.tuple #[.string ⟨(tx y m d c 78).toArray⟩, .bool true]) ∧ Below w.heap.size w w' := by
  have HT := Lib.hid (ht.below ((Below.refl _ w).alloc (Nat.le_refl _) (.cells #[.int .i64 y, .int .i64 m, .int .i64 d, .int .i64 (cum y m + d - 1), .int .i64 (wd (dn y m d)), .int .i64 c] 48)))
  have hy := hk.in_year
  have hl := yl_ge y
  have hm := ml_ge y m
  obtain ⟨a1, a2, a3, a4, a5, a6⟩ := hk
  have HX : Hid (tx y m d c 78 = Lib.itoa (wd (dn y m d))) := Lib.hid (by simp [tx])
  unfold mom
  have hw : 1 ≤ wd (dn y m d) ∧ wd (dn y m d) ≤ 7 := by unfold wd; omega
  go_enter Tryd.func45, Tryd.ntmps45
  go_wp2_with fail
  refine (Itoa_any (wd (dn y m d)) _ (by omega) HT.out).mono ?_
  rintro e w1 ⟨rfl, hb⟩
  go_wp2
  go_ret2
  exact ⟨by rw [HX.out]; rfl, below1 hb⟩
set_option maxRecDepth 100000 in
set_option maxHeartbeats 1000000 in
theorem val_71 {y m d c : Int} (hk : Ok y m d) (c1 : 0 ≤ c) (c2 : c < 1440) (w : World) (ht : Tb w) :
    Calls Tryd.prog 45 #[mom y m d c, .int .u8 71] w fun e w' => e = .returned (.tuple #[.string ⟨(tx y m d c 71).toArray⟩, .bool true]) ∧ Below w.heap.size w w' := by
  have HT := Lib.hid (ht.below ((Below.refl _ w).alloc (Nat.le_refl _) (.cells #[.int .i64 y, .int .i64 m, .int .i64 d, .int .i64 (cum y m + d - 1), .int .i64 (wd (dn y m d)), .int .i64 c] 48)))
  have hy := hk.in_year
  have hl := yl_ge y
  have hm := ml_ge y m
  obtain ⟨a1, a2, a3, a4, a5, a6⟩ := hk
  have HX : Hid (tx y m d c 71 = Lib.itoa (c / 60)) := Lib.hid (by simp [tx])
  unfold mom
  have hw : 1 ≤ wd (dn y m d) ∧ wd (dn y m d) ≤ 7 := by unfold wd; omega
  go_enter Tryd.func45, Tryd.ntmps45
  go_wp2_with fail
  refine (Itoa_any (c / 60) _ (by omega) HT.out).mono ?_
  rintro e w1 ⟨rfl, hb⟩
  go_wp2
  go_ret2
  exact ⟨by rw [HX.out]; rfl, below1 hb⟩
set_option maxRecDepth 100000 in
set_option maxHeartbeats 1000000 in
theorem val_109 {y m d c : Int} (hk : Ok y m d) (c1 : 0 ≤ c) (c2 : c < 1440) (w : World) (ht : Tb w) :
    Calls Tryd.prog 45 #[mom y m d c, .int .u8 109] w fun e w' => e = .returned (.tuple #[.string ⟨(tx y m d c 109).toArray⟩, .bool true]) ∧ Below w.heap.size w w' := by
  have HT := Lib.hid (ht.below ((Below.refl _ w).alloc (Nat.le_refl _) (.cells #[.int .i64 y, .int .i64 m, .int .i64 d, .int .i64 (cum y m + d - 1), .int .i64 (wd (dn y m d)), .int .i64 c] 48)))
  have hy := hk.in_year
  have hl := yl_ge y
  have hm := ml_ge y m
  obtain ⟨a1, a2, a3, a4, a5, a6⟩ := hk
  have HX : Hid (tx y m d c 109 = two (m)) := Lib.hid (by simp [tx])
  unfold mom
  go_enter Tryd.func45, Tryd.ntmps45
  go_wp2_with fail
  refine (twoDigits_any (n := m) (by omega) (by omega) _ HT.out).mono ?_
  rintro e w1 ⟨rfl, hb⟩
  go_wp2
  go_ret2
  exact ⟨by rw [HX.out]; rfl, below1 hb⟩
set_option maxRecDepth 100000 in
set_option maxHeartbeats 1000000 in
theorem val_100 {y m d c : Int} (hk : Ok y m d) (c1 : 0 ≤ c) (c2 : c < 1440) (w : World) (ht : Tb w) :
    Calls Tryd.prog 45 #[mom y m d c, .int .u8 100] w fun e w' => e = .returned (.tuple #[.string ⟨(tx y m d c 100).toArray⟩, .bool true]) ∧ Below w.heap.size w w' := by
  have HT := Lib.hid (ht.below ((Below.refl _ w).alloc (Nat.le_refl _) (.cells #[.int .i64 y, .int .i64 m, .int .i64 d, .int .i64 (cum y m + d - 1), .int .i64 (wd (dn y m d)), .int .i64 c] 48)))
  have hy := hk.in_year
  have hl := yl_ge y
  have hm := ml_ge y m
  obtain ⟨a1, a2, a3, a4, a5, a6⟩ := hk
  have HX : Hid (tx y m d c 100 = two (d)) := Lib.hid (by simp [tx])
  unfold mom
  go_enter Tryd.func45, Tryd.ntmps45
  go_wp2_with fail
  refine (twoDigits_any (n := d) (by omega) (by omega) _ HT.out).mono ?_
  rintro e w1 ⟨rfl, hb⟩
  go_wp2
  go_ret2
  exact ⟨by rw [HX.out]; rfl, below1 hb⟩
set_option maxRecDepth 100000 in
set_option maxHeartbeats 1000000 in
theorem val_72 {y m d c : Int} (hk : Ok y m d) (c1 : 0 ≤ c) (c2 : c < 1440) (w : World) (ht : Tb w) :
    Calls Tryd.prog 45 #[mom y m d c, .int .u8 72] w fun e w' => e = .returned (.tuple #[.string ⟨(tx y m d c 72).toArray⟩, .bool true]) ∧ Below w.heap.size w w' := by
  have HT := Lib.hid (ht.below ((Below.refl _ w).alloc (Nat.le_refl _) (.cells #[.int .i64 y, .int .i64 m, .int .i64 d, .int .i64 (cum y m + d - 1), .int .i64 (wd (dn y m d)), .int .i64 c] 48)))
  have hy := hk.in_year
  have hl := yl_ge y
  have hm := ml_ge y m
  obtain ⟨a1, a2, a3, a4, a5, a6⟩ := hk
  have HX : Hid (tx y m d c 72 = two (c / 60)) := Lib.hid (by simp [tx])
  unfold mom
  go_enter Tryd.func45, Tryd.ntmps45
  go_wp2_with fail
  refine (twoDigits_any (n := c / 60) (by omega) (by omega) _ HT.out).mono ?_
  rintro e w1 ⟨rfl, hb⟩
  go_wp2
  go_ret2
  exact ⟨by rw [HX.out]; rfl, below1 hb⟩
set_option maxRecDepth 100000 in
set_option maxHeartbeats 1000000 in
theorem val_105 {y m d c : Int} (hk : Ok y m d) (c1 : 0 ≤ c) (c2 : c < 1440) (w : World) (ht : Tb w) :
    Calls Tryd.prog 45 #[mom y m d c, .int .u8 105] w fun e w' => e = .returned (.tuple #[.string ⟨(tx y m d c 105).toArray⟩, .bool true]) ∧ Below w.heap.size w w' := by
  have HT := Lib.hid (ht.below ((Below.refl _ w).alloc (Nat.le_refl _) (.cells #[.int .i64 y, .int .i64 m, .int .i64 d, .int .i64 (cum y m + d - 1), .int .i64 (wd (dn y m d)), .int .i64 c] 48)))
  have hy := hk.in_year
  have hl := yl_ge y
  have hm := ml_ge y m
  obtain ⟨a1, a2, a3, a4, a5, a6⟩ := hk
  have HX : Hid (tx y m d c 105 = two (c % 60)) := Lib.hid (by simp [tx])
  unfold mom
  go_enter Tryd.func45, Tryd.ntmps45
  go_wp2_with fail
  refine (twoDigits_any (n := c % 60) (by omega) (by omega) _ HT.out).mono ?_
  rintro e w1 ⟨rfl, hb⟩
  go_wp2
  go_ret2
  exact ⟨by rw [HX.out]; rfl, below1 hb⟩
set_option maxRecDepth 100000 in
set_option maxHeartbeats 1000000 in
theorem val_70 {y m d c : Int} (hk : Ok y m d) (c1 : 0 ≤ c) (c2 : c < 1440) (w : World) (ht : Tb w) :
    Calls Tryd.prog 45 #[mom y m d c, .int .u8 70] w fun e w' => e = .returned (.tuple #[.string ⟨(tx y m d c 70).toArray⟩, .bool true]) ∧ Below w.heap.size w w' := by
  have HT := Lib.hid (ht.below ((Below.refl _ w).alloc (Nat.le_refl _) (.cells #[.int .i64 y, .int .i64 m, .int .i64 d, .int .i64 (cum y m + d - 1), .int .i64 (wd (dn y m d)), .int .i64 c] 48)))
  have hy := hk.in_year
  have hl := yl_ge y
  have hm := ml_ge y m
  obtain ⟨a1, a2, a3, a4, a5, a6⟩ := hk
  have HX : Hid (tx y m d c 70 = mname (m)) := Lib.hid (by simp [tx])
  have hw : 1 ≤ wd (dn y m d) ∧ wd (dn y m d) ≤ 7 := by unfold wd; omega
  unfold mom
  obtain ⟨S, hS⟩ : ∃ S : ByteArray, ⟨(mname (m)).toArray⟩ = S := ⟨_, rfl⟩
  have hz : 3 ≤ S.size := by rw [← hS]; show 3 ≤ (mname (m)).toArray.size; simp; exact mname_len.1
  have hz2 : S.size ≤ 9 := by rw [← hS]; show (mname (m)).toArray.size ≤ 9; simp; exact mname_len.2
  have HR : Hid (S = ⟨(mname (m)).toArray⟩) := Lib.hid hS.symm
  obtain ⟨i, hi, hie⟩ : ∃ i : Nat, i < 12 ∧ m = (i : Int) + 1 := ⟨(m - 1).toNat, by omega, by omega⟩
  have hc := ht.mn i hi
  rw [← hie, hS] at hc
  have hc2 := HT.out.mn i hi
  rw [← hie, hS] at hc2
  have hlt : 1 < w.heap.size := lt_cell hc
  subst hie
  clear hS ht hc
  go_enter Tryd.func45, Tryd.ntmps45
  go_wp2
  go_ret2
  exact ⟨by rw [HX.out, ← HR.out]; rfl, (Below.refl _ w).alloc (Nat.le_refl _) _⟩
set_option maxRecDepth 100000 in
set_option maxHeartbeats 1000000 in
theorem val_77 {y m d c : Int} (hk : Ok y m d) (c1 : 0 ≤ c) (c2 : c < 1440) (w : World) (ht : Tb w) :
    Calls Tryd.prog 45 #[mom y m d c, .int .u8 77] w fun e w' => e = .returned (.tuple #[.string ⟨(tx y m d c 77).toArray⟩, .bool true]) ∧ Below w.heap.size w w' := by
  have HT := Lib.hid (ht.below ((Below.refl _ w).alloc (Nat.le_refl _) (.cells #[.int .i64 y, .int .i64 m, .int .i64 d, .int .i64 (cum y m + d - 1), .int .i64 (wd (dn y m d)), .int .i64 c] 48)))
  have hy := hk.in_year
  have hl := yl_ge y
  have hm := ml_ge y m
  obtain ⟨a1, a2, a3, a4, a5, a6⟩ := hk
  have HX : Hid (tx y m d c 77 = (mname (m)).take 3) := Lib.hid (by simp [tx])
  have hw : 1 ≤ wd (dn y m d) ∧ wd (dn y m d) ≤ 7 := by unfold wd; omega
  unfold mom
  obtain ⟨S, hS⟩ : ∃ S : ByteArray, ⟨(mname (m)).toArray⟩ = S := ⟨_, rfl⟩
  have hz : 3 ≤ S.size := by rw [← hS]; show 3 ≤ (mname (m)).toArray.size; simp; exact mname_len.1
  have hz2 : S.size ≤ 9 := by rw [← hS]; show (mname (m)).toArray.size ≤ 9; simp; exact mname_len.2
  have HR : Hid (S.extract 0 3 = ⟨((mname (m)).take 3).toArray⟩) := Lib.hid (ext_arr (by rw [Lib.extract_data, ← hS]; simp))
  obtain ⟨i, hi, hie⟩ : ∃ i : Nat, i < 12 ∧ m = (i : Int) + 1 := ⟨(m - 1).toNat, by omega, by omega⟩
  have hc := ht.mn i hi
  rw [← hie, hS] at hc
  have hc2 := HT.out.mn i hi
  rw [← hie, hS] at hc2
  have hlt : 1 < w.heap.size := lt_cell hc
  subst hie
  clear hS ht hc
  go_enter Tryd.func45, Tryd.ntmps45
  go_wp2
  go_ret2
  exact ⟨by rw [HX.out, ← HR.out]; rfl, (Below.refl _ w).alloc (Nat.le_refl _) _⟩
set_option maxRecDepth 100000 in
set_option maxHeartbeats 1000000 in
theorem val_108 {y m d c : Int} (hk : Ok y m d) (c1 : 0 ≤ c) (c2 : c < 1440) (w : World) (ht : Tb w) :
    Calls Tryd.prog 45 #[mom y m d c, .int .u8 108] w fun e w' => e = .returned (.tuple #[.string ⟨(tx y m d c 108).toArray⟩, .bool true]) ∧ Below w.heap.size w w' := by
  have HT := Lib.hid (ht.below ((Below.refl _ w).alloc (Nat.le_refl _) (.cells #[.int .i64 y, .int .i64 m, .int .i64 d, .int .i64 (cum y m + d - 1), .int .i64 (wd (dn y m d)), .int .i64 c] 48)))
  have hy := hk.in_year
  have hl := yl_ge y
  have hm := ml_ge y m
  obtain ⟨a1, a2, a3, a4, a5, a6⟩ := hk
  have HX : Hid (tx y m d c 108 = wname (wd (dn y m d))) := Lib.hid (by simp [tx])
  have hw : 1 ≤ wd (dn y m d) ∧ wd (dn y m d) ≤ 7 := by unfold wd; omega
  unfold mom
  obtain ⟨S, hS⟩ : ∃ S : ByteArray, ⟨(wname (wd (dn y m d))).toArray⟩ = S := ⟨_, rfl⟩
  have hz : 3 ≤ S.size := by rw [← hS]; show 3 ≤ (wname (wd (dn y m d))).toArray.size; simp; exact wname_len.1
  have hz2 : S.size ≤ 9 := by rw [← hS]; show (wname (wd (dn y m d))).toArray.size ≤ 9; simp; exact wname_len.2
  have HR : Hid (S = ⟨(wname (wd (dn y m d))).toArray⟩) := Lib.hid hS.symm
  obtain ⟨i, hi, hie⟩ : ∃ i : Nat, i < 7 ∧ wd (dn y m d) = (i : Int) + 1 := ⟨(wd (dn y m d) - 1).toNat, by omega, by omega⟩
  have hc := ht.wn i hi
  rw [← hie, hS] at hc
  have hc2 := HT.out.wn i hi
  rw [← hie, hS] at hc2
  have hlt : 2 < w.heap.size := lt_cell hc
  rw [hie] at hc2 hw ⊢
  clear hie
  clear hS ht hc
  go_enter Tryd.func45, Tryd.ntmps45
  go_wp2
  go_ret2
  exact ⟨by rw [HX.out, ← HR.out]; rfl, (Below.refl _ w).alloc (Nat.le_refl _) _⟩
set_option maxRecDepth 100000 in
set_option maxHeartbeats 1000000 in
theorem val_68 {y m d c : Int} (hk : Ok y m d) (c1 : 0 ≤ c) (c2 : c < 1440) (w : World) (ht : Tb w) :
    Calls Tryd.prog 45 #[mom y m d c, .int .u8 68] w fun e w' => e = .returned (.tuple #[.string ⟨(tx y m d c 68).toArray⟩, .bool true]) ∧ Below w.heap.size w w' := by
  have HT := Lib.hid (ht.below ((Below.refl _ w).alloc (Nat.le_refl _) (.cells #[.int .i64 y, .int .i64 m, .int .i64 d, .int .i64 (cum y m + d - 1), .int .i64 (wd (dn y m d)), .int .i64 c] 48)))
  have hy := hk.in_year
  have hl := yl_ge y
  have hm := ml_ge y m
  obtain ⟨a1, a2, a3, a4, a5, a6⟩ := hk
  have HX : Hid (tx y m d c 68 = (wname (wd (dn y m d))).take 3) := Lib.hid (by simp [tx])
  have hw : 1 ≤ wd (dn y m d) ∧ wd (dn y m d) ≤ 7 := by unfold wd; omega
  unfold mom
  obtain ⟨S, hS⟩ : ∃ S : ByteArray, ⟨(wname (wd (dn y m d))).toArray⟩ = S := ⟨_, rfl⟩
  have hz : 3 ≤ S.size := by rw [← hS]; show 3 ≤ (wname (wd (dn y m d))).toArray.size; simp; exact wname_len.1
  have hz2 : S.size ≤ 9 := by rw [← hS]; show (wname (wd (dn y m d))).toArray.size ≤ 9; simp; exact wname_len.2
  have HR : Hid (S.extract 0 3 = ⟨((wname (wd (dn y m d))).take 3).toArray⟩) := Lib.hid (ext_arr (by rw [Lib.extract_data, ← hS]; simp))
  obtain ⟨i, hi, hie⟩ : ∃ i : Nat, i < 7 ∧ wd (dn y m d) = (i : Int) + 1 := ⟨(wd (dn y m d) - 1).toNat, by omega, by omega⟩
  have hc := ht.wn i hi
  rw [← hie, hS] at hc
  have hc2 := HT.out.wn i hi
  rw [← hie, hS] at hc2
  have hlt : 2 < w.heap.size := lt_cell hc
  rw [hie] at hc2 hw ⊢
  clear hie
  clear hS ht hc
  go_enter Tryd.func45, Tryd.ntmps45
  go_wp2
  go_ret2
  exact ⟨by rw [HX.out, ← HR.out]; rfl, (Below.refl _ w).alloc (Nat.le_refl _) _⟩
theorem isCode_cases {b : UInt8} (h : isCode b = true) : b = 89 ∨ b = 110 ∨ b = 106 ∨ b = 122 ∨ b = 78 ∨ b = 71 ∨ b = 109 ∨ b = 100 ∨ b = 72 ∨ b = 105 ∨ b = 70 ∨ b = 77 ∨ b = 108 ∨ b = 68 := by
  unfold isCode at h; rw [decide_eq_true_iff] at h; rcases h with rfl | rfl | rfl | rfl | rfl | rfl | rfl | rfl | rfl | rfl | rfl | rfl | rfl | rfl <;> simp
theorem value_code {y m d c : Int} (hk : Ok y m d) (c1 : 0 ≤ c) (c2 : c < 1440) {b : UInt8} (hb : isCode b = true) (w : World) (ht : Tb w) :
    Calls Tryd.prog 45 #[mom y m d c, .int .u8 (b.toNat : Int)] w fun e w' => e = .returned (.tuple #[.string ⟨(tx y m d c b).toArray⟩, .bool true]) ∧ Below w.heap.size w w' := by
  rcases isCode_cases hb with rfl | rfl | rfl | rfl | rfl | rfl | rfl | rfl | rfl | rfl | rfl | rfl | rfl | rfl
  · exact val_89 hk c1 c2 w ht
  · exact val_110 hk c1 c2 w ht
  · exact val_106 hk c1 c2 w ht
  · exact val_122 hk c1 c2 w ht
  · exact val_78 hk c1 c2 w ht
  · exact val_71 hk c1 c2 w ht
  · exact val_109 hk c1 c2 w ht
  · exact val_100 hk c1 c2 w ht
  · exact val_72 hk c1 c2 w ht
  · exact val_105 hk c1 c2 w ht
  · exact val_70 hk c1 c2 w ht
  · exact val_77 hk c1 c2 w ht
  · exact val_108 hk c1 c2 w ht
  · exact val_68 hk c1 c2 w ht
set_option maxRecDepth 100000 in
set_option maxHeartbeats 1000000 in
theorem value_none {y m d c : Int} {b : UInt8} (hb : isCode b = false) (w : World) :
    Calls Tryd.prog 45 #[mom y m d c, .int .u8 (b.toNat : Int)] w fun e w' => e = .returned (.tuple #[.string ⟨#[]⟩, .bool false]) ∧ Below w.heap.size w w' := by
  have hn : ∀ x : UInt8, isCode x = true → b ≠ x := fun x hx e => by rw [e, hx] at hb; cases hb
  have e89 : ((b.toNat : Int) == 89) = false := u8_ne (hn 89 rfl)
  have e110 : ((b.toNat : Int) == 110) = false := u8_ne (hn 110 rfl)
  have e106 : ((b.toNat : Int) == 106) = false := u8_ne (hn 106 rfl)
  have e122 : ((b.toNat : Int) == 122) = false := u8_ne (hn 122 rfl)
  have e78 : ((b.toNat : Int) == 78) = false := u8_ne (hn 78 rfl)
  have e71 : ((b.toNat : Int) == 71) = false := u8_ne (hn 71 rfl)
  have e109 : ((b.toNat : Int) == 109) = false := u8_ne (hn 109 rfl)
  have e100 : ((b.toNat : Int) == 100) = false := u8_ne (hn 100 rfl)
  have e72 : ((b.toNat : Int) == 72) = false := u8_ne (hn 72 rfl)
  have e105 : ((b.toNat : Int) == 105) = false := u8_ne (hn 105 rfl)
  have e70 : ((b.toNat : Int) == 70) = false := u8_ne (hn 70 rfl)
  have e77 : ((b.toNat : Int) == 77) = false := u8_ne (hn 77 rfl)
  have e108 : ((b.toNat : Int) == 108) = false := u8_ne (hn 108 rfl)
  have e68 : ((b.toNat : Int) == 68) = false := u8_ne (hn 68 rfl)
  clear hn hb
  unfold mom
  go_enter Tryd.func45, Tryd.ntmps45
  go_wp2
  go_ret2
  exact ⟨rfl, (Below.refl _ w).alloc (Nat.le_refl _) _⟩
theorem cun_105 (w : World) : Calls Tryd.prog 50 #[.int .u8 105] w fun e w' => e = .returned (.int .i64 1) ∧ w' = w := by
  go_enter Tryd.func50, Tryd.ntmps50
  go_wp2
  go_ret
  exact ⟨rfl, rfl⟩
theorem cun_72 (w : World) : Calls Tryd.prog 50 #[.int .u8 72] w fun e w' => e = .returned (.int .i64 2) ∧ w' = w := by
  go_enter Tryd.func50, Tryd.ntmps50
  go_wp2
  go_ret
  exact ⟨rfl, rfl⟩
theorem cun_71 (w : World) : Calls Tryd.prog 50 #[.int .u8 71] w fun e w' => e = .returned (.int .i64 2) ∧ w' = w := by
  go_enter Tryd.func50, Tryd.ntmps50
  go_wp2
  go_ret
  exact ⟨rfl, rfl⟩
theorem cun_100 (w : World) : Calls Tryd.prog 50 #[.int .u8 100] w fun e w' => e = .returned (.int .i64 3) ∧ w' = w := by
  go_enter Tryd.func50, Tryd.ntmps50
  go_wp2
  go_ret
  exact ⟨rfl, rfl⟩
theorem cun_106 (w : World) : Calls Tryd.prog 50 #[.int .u8 106] w fun e w' => e = .returned (.int .i64 3) ∧ w' = w := by
  go_enter Tryd.func50, Tryd.ntmps50
  go_wp2
  go_ret
  exact ⟨rfl, rfl⟩
theorem cun_122 (w : World) : Calls Tryd.prog 50 #[.int .u8 122] w fun e w' => e = .returned (.int .i64 3) ∧ w' = w := by
  go_enter Tryd.func50, Tryd.ntmps50
  go_wp2
  go_ret
  exact ⟨rfl, rfl⟩
theorem cun_78 (w : World) : Calls Tryd.prog 50 #[.int .u8 78] w fun e w' => e = .returned (.int .i64 3) ∧ w' = w := by
  go_enter Tryd.func50, Tryd.ntmps50
  go_wp2
  go_ret
  exact ⟨rfl, rfl⟩
theorem cun_108 (w : World) : Calls Tryd.prog 50 #[.int .u8 108] w fun e w' => e = .returned (.int .i64 3) ∧ w' = w := by
  go_enter Tryd.func50, Tryd.ntmps50
  go_wp2
  go_ret
  exact ⟨rfl, rfl⟩
theorem cun_68 (w : World) : Calls Tryd.prog 50 #[.int .u8 68] w fun e w' => e = .returned (.int .i64 3) ∧ w' = w := by
  go_enter Tryd.func50, Tryd.ntmps50
  go_wp2
  go_ret
  exact ⟨rfl, rfl⟩
theorem cun_109 (w : World) : Calls Tryd.prog 50 #[.int .u8 109] w fun e w' => e = .returned (.int .i64 4) ∧ w' = w := by
  go_enter Tryd.func50, Tryd.ntmps50
  go_wp2
  go_ret
  exact ⟨rfl, rfl⟩
theorem cun_110 (w : World) : Calls Tryd.prog 50 #[.int .u8 110] w fun e w' => e = .returned (.int .i64 4) ∧ w' = w := by
  go_enter Tryd.func50, Tryd.ntmps50
  go_wp2
  go_ret
  exact ⟨rfl, rfl⟩
theorem cun_70 (w : World) : Calls Tryd.prog 50 #[.int .u8 70] w fun e w' => e = .returned (.int .i64 4) ∧ w' = w := by
  go_enter Tryd.func50, Tryd.ntmps50
  go_wp2
  go_ret
  exact ⟨rfl, rfl⟩
theorem cun_77 (w : World) : Calls Tryd.prog 50 #[.int .u8 77] w fun e w' => e = .returned (.int .i64 4) ∧ w' = w := by
  go_enter Tryd.func50, Tryd.ntmps50
  go_wp2
  go_ret
  exact ⟨rfl, rfl⟩
set_option maxRecDepth 100000 in
theorem cun_none {b : UInt8} (w : World) (h : b ≠ 105 ∧ b ≠ 72 ∧ b ≠ 71 ∧ b ≠ 100 ∧ b ≠ 106 ∧ b ≠ 122 ∧ b ≠ 78 ∧ b ≠ 108 ∧ b ≠ 68 ∧ b ≠ 109 ∧ b ≠ 110 ∧ b ≠ 70 ∧ b ≠ 77) : Calls Tryd.prog 50 #[.int .u8 (b.toNat : Int)] w fun e w' => e = .returned (.int .i64 5) ∧ w' = w := by
  obtain ⟨n105, n72, n71, n100, n106, n122, n78, n108, n68, n109, n110, n70, n77⟩ := h
  have e105 : ((b.toNat : Int) == 105) = false := u8_ne n105
  have e72 : ((b.toNat : Int) == 72) = false := u8_ne n72
  have e71 : ((b.toNat : Int) == 71) = false := u8_ne n71
  have e100 : ((b.toNat : Int) == 100) = false := u8_ne n100
  have e106 : ((b.toNat : Int) == 106) = false := u8_ne n106
  have e122 : ((b.toNat : Int) == 122) = false := u8_ne n122
  have e78 : ((b.toNat : Int) == 78) = false := u8_ne n78
  have e108 : ((b.toNat : Int) == 108) = false := u8_ne n108
  have e68 : ((b.toNat : Int) == 68) = false := u8_ne n68
  have e109 : ((b.toNat : Int) == 109) = false := u8_ne n109
  have e110 : ((b.toNat : Int) == 110) = false := u8_ne n110
  have e70 : ((b.toNat : Int) == 70) = false := u8_ne n70
  have e77 : ((b.toNat : Int) == 77) = false := u8_ne n77
  clear n105 n72 n71 n100 n106 n122 n78 n108 n68 n109 n110 n70 n77
  go_enter Tryd.func50, Tryd.ntmps50
  go_wp2
  go_ret
  exact ⟨rfl, rfl⟩
theorem codeUnit_any (b : UInt8) (w : World) : Calls Tryd.prog 50 #[.int .u8 (b.toNat : Int)] w fun e w' => e = .returned (.int .i64 (cu b)) ∧ w' = w := by
  by_cases n105 : b = 105
  · subst n105; exact cun_105 w
  by_cases n72 : b = 72
  · subst n72; exact cun_72 w
  by_cases n71 : b = 71
  · subst n71; exact cun_71 w
  by_cases n100 : b = 100
  · subst n100; exact cun_100 w
  by_cases n106 : b = 106
  · subst n106; exact cun_106 w
  by_cases n122 : b = 122
  · subst n122; exact cun_122 w
  by_cases n78 : b = 78
  · subst n78; exact cun_78 w
  by_cases n108 : b = 108
  · subst n108; exact cun_108 w
  by_cases n68 : b = 68
  · subst n68; exact cun_68 w
  by_cases n109 : b = 109
  · subst n109; exact cun_109 w
  by_cases n110 : b = 110
  · subst n110; exact cun_110 w
  by_cases n70 : b = 70
  · subst n70; exact cun_70 w
  by_cases n77 : b = 77
  · subst n77; exact cun_77 w
  have e : cu b = 5 := by unfold cu; simp [n105, n72, n71, n100, n106, n122, n78, n108, n68, n109, n110, n70, n77]
  rw [e]; exact cun_none w ⟨n105, n72, n71, n100, n106, n122, n78, n108, n68, n109, n110, n70, n77⟩
end Go.Proofs.YtlkbdnjpcagopaaDoor.Ca
