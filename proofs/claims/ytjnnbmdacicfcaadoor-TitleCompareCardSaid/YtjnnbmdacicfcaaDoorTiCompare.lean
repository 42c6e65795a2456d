/-
  The contracts of cmp.Or at two numbers, of Compare of package title and of the reference's Compare, for every two titles.
-/
import Derived.Test.YtjnnbmdacicfcaaDoorTiWalk1
import Derived.Deep.RegionHeld3
import Derived.Laws.StructEq
namespace Go.Proofs.YtjnnbmdacicfcaaDoor.Ti
open Go.RowKit

/-- The first of two numbers that is not 0. -/
def orI (x y : Int) : Int := if x = 0 then y else x

set_option maxHeartbeats 400000 in
theorem or_two (b : Nat) (x y : Int) (w : World) (h0 : w.cell? ⟨b, 0, none⟩ = some (.int .i64 x)) (h1 : w.cell? ⟨b, 1, none⟩ = some (.int .i64 y)) :
    Calls Tryd.prog 44 #[.slice (some ⟨b, 0, none⟩) 2 2] w fun e w' => e = .returned (.int .i64 (orI x y)) ∧ w = w' := by
  go_enter Tryd.func44, Tryd.ntmps44
  go_wp2
  go_loop [8] (fun i => ∃ k : Nat, k ≤ 2 ∧ i = .int .i64 k ∧ (1 ≤ k → Hid (x = 0)) ∧ (2 ≤ k → Hid (y = 0))) (fun i => 2 - (intOf i).toNat)
  case atStart => exact ⟨0, by omega, rfl, fun h => by omega, fun h => by omega⟩
  case round =>
    obtain ⟨k, hk, rfl, hx, hy⟩ := hrel
    have hk3 : k = 0 ∨ k = 1 ∨ k = 2 := by omega
    rcases hk3 with rfl | rfl | rfl
    · by_cases h : x = 0
      · have hd : (x != 0) = false := by rw [h]; rfl
        have H := Lib.hid h; clear h
        go_wp2
        go_round
        case rel => exact ⟨1, by omega, rfl, fun _ => H, fun h => by omega⟩
        case measure => simp [intOf]
      · have hd : (x != 0) = true := by rw [bne_iff_ne]; exact h
        go_wp2
        go_ret
        exact ⟨ret_int (by rw [orI, if_neg h]), rfl⟩
    · have hx0 := hx (by omega)
      clear hx hy
      by_cases h : y = 0
      · have hd : (y != 0) = false := by rw [h]; rfl
        have H := Lib.hid h; clear h
        go_wp2
        go_round
        case rel => exact ⟨2, by omega, rfl, fun _ => hx0, fun _ => H⟩
        case measure => simp [intOf]
      · have hd : (y != 0) = true := by rw [bne_iff_ne]; exact h
        go_wp2
        go_ret
        exact ⟨ret_int (by rw [orI, if_pos hx0.out]), rfl⟩
    · have hx0 := hx (by omega)
      have hy0 := hy (by omega)
      clear hx hy
      go_wp2
      go_ret
      exact ⟨ret_int (by rw [orI, if_pos hx0.out, hy0.out]), rfl⟩

theorem cell_at_size {W : World} {b : Nat} (h : W.heap.size = b) (c : Array Value) (t : TypeId) (i : Nat) (v : Value) (hv : c[i]? = some v) : (W.alloc (.cells c t)).cell? ⟨b, i, none⟩ = some v := by
  subst h; simp [hv]

/-- How Compare orders two titles. -/
def cmpT (sa : Int) (a : List UInt8) (sb : Int) (b : List UInt8) : Int := orI (Lib.compareInt sa sb) (Lib.compareBytes a b)

set_option maxHeartbeats 1000000 in
theorem Compare_any (sa sb : Int) (a b : ByteArray) (w : World) :
    Calls Tryd.prog 19 #[.agg #[.int .i64 sa, .string a], .agg #[.int .i64 sb, .string b]] w fun e w' => e = .returned (.int .i64 (cmpT sa a.data.toList sb b.data.toList)) ∧ Below w.heap.size w w' := by
  have F0 := Lib.hid (show ((((w.alloc (.cells #[.int .i64 sa, .string a] 24)).alloc (.cells #[.int .i64 sb, .string b] 24)).alloc (.cells #[.int .i64 (Lib.compareInt sa sb), .int .i64 (Lib.compareBytes a.data.toList b.data.toList)] 3)).drew).cell? ⟨w.heap.size + 1 + 1, 0, none⟩ = some (.int .i64 (Lib.compareInt sa sb)) from cell_at_size (by simp) _ _ 0 _ rfl)
  have F1 := Lib.hid (show ((((w.alloc (.cells #[.int .i64 sa, .string a] 24)).alloc (.cells #[.int .i64 sb, .string b] 24)).alloc (.cells #[.int .i64 (Lib.compareInt sa sb), .int .i64 (Lib.compareBytes a.data.toList b.data.toList)] 3)).drew).cell? ⟨w.heap.size + 1 + 1, 1, none⟩ = some (.int .i64 (Lib.compareBytes a.data.toList b.data.toList)) from cell_at_size (by simp) _ _ 1 _ rfl)
  go_enter Tryd.func19, Tryd.ntmps19
  go_wp2
  go_region_held3 (fun w' => w'.cell? ⟨w.heap.size, 0, none⟩ = some (.int .i64 sa) ∧ w'.cell? ⟨w.heap.size, 1, none⟩ = some (.string a) ∧ w'.cell? ⟨w.heap.size + 1, 0, none⟩ = some (.int .i64 sb) ∧ w'.cell? ⟨w.heap.size + 1, 1, none⟩ = some (.string b)) (go_keep)
    (first | (go_at_call 45; refine (Tryd.cmp_Compare_int _ _ _).mono ?_; rintro e w' ⟨rfl, rfl⟩) | (go_at_call 46; refine (Tryd.strings_Compare _ _ _).mono ?_; rintro e w' ⟨rfl, rfl⟩) | (go_at_call 44; refine (or_two _ _ _ _ F0.out F1.out).mono ?_; rintro e w' ⟨rfl, rfl⟩))
  go_wp2
  go_ret
  exact ⟨rfl, (((((Below.refl _ w).alloc (Nat.le_refl _) _).alloc (by simp) _).alloc (by simp; omega) _)).drew⟩

theorem cb_less : ∀ a b : List UInt8, Lib.compareBytes a b = if Op.bytesLess a b then -1 else if a = b then 0 else 1
  | [], [] => rfl
  | [], _ :: _ => rfl
  | _ :: _, [] => rfl
  | x :: a, y :: b => by
    rw [Lib.compareBytes, cb_less a b, Op.bytesLess]
    by_cases h1 : x < y
    · simp [h1]
    · by_cases h2 : y < x
      · have hne : x ≠ y := fun e => by subst e; exact UInt8.lt_irrefl x h2
        simp [h1, h2, hne]
      · have e : x = y := UInt8.le_antisymm (UInt8.not_lt.1 h2) (UInt8.not_lt.1 h1)
        subst e
        simp [h1]
theorem cb_neg : ∀ a b : List UInt8, Lib.compareBytes a b = - Lib.compareBytes b a
  | [], [] => rfl
  | [], _ :: _ => rfl
  | _ :: _, [] => rfl
  | x :: a, y :: b => by
    rw [Lib.compareBytes, Lib.compareBytes, cb_neg a b]
    by_cases h1 : x < y
    · have h2 : ¬ y < x := fun h => UInt8.lt_irrefl x (UInt8.lt_trans h1 h)
      simp [h1, h2]
    · by_cases h2 : y < x <;> simp [h1, h2]
theorem cb_zero : ∀ a b : List UInt8, Lib.compareBytes a b = 0 ↔ a = b
  | [], [] => by simp [Lib.compareBytes]
  | [], _ :: _ => by simp [Lib.compareBytes]
  | _ :: _, [] => by simp [Lib.compareBytes]
  | x :: a, y :: b => by
    rw [Lib.compareBytes]
    by_cases h1 : x < y
    · have hne : x ≠ y := fun e => by subst e; exact UInt8.lt_irrefl x h1
      simp [h1, hne]
    · by_cases h2 : y < x
      · have hne : x ≠ y := fun e => by subst e; exact UInt8.lt_irrefl x h2
        simp [h1, h2, hne]
      · have e : x = y := UInt8.le_antisymm (UInt8.not_lt.1 h2) (UInt8.not_lt.1 h1)
        subst e
        simp [h1, cb_zero a b]
theorem cb_trans : ∀ a b c : List UInt8, Lib.compareBytes a b ≤ 0 → Lib.compareBytes b c ≤ 0 → Lib.compareBytes a c ≤ 0
  | [], b, [], _, _ => by decide
  | [], b, z :: c, _, _ => by simp [Lib.compareBytes]
  | x :: a, [], c, h, _ => by simp [Lib.compareBytes] at h
  | x :: a, y :: b, [], _, h => by simp [Lib.compareBytes] at h
  | x :: a, y :: b, z :: c, h1, h2 => by
    rw [Lib.compareBytes] at h1 h2 ⊢
    by_cases a1 : x < y
    · by_cases a2 : y < z
      · simp [UInt8.lt_trans a1 a2]
      · rw [if_neg a2] at h2
        by_cases a3 : z < y
        · simp [a3] at h2
        · have e : y = z := UInt8.le_antisymm (UInt8.not_lt.1 a3) (UInt8.not_lt.1 a2)
          subst e; simp [a1]
    · rw [if_neg a1] at h1
      by_cases a2 : y < x
      · simp [a2] at h1
      · have e : x = y := UInt8.le_antisymm (UInt8.not_lt.1 a2) (UInt8.not_lt.1 a1)
        subst e
        rw [if_neg a1] at h1
        by_cases a3 : x < z
        · simp [a3]
        · rw [if_neg a3] at h2 ⊢
          by_cases a4 : z < x
          · simp [a4] at h2
          · rw [if_neg a4] at h2 ⊢
            exact cb_trans a b c h1 h2
theorem cmpT_neg (sa sb : Int) (a b : List UInt8) : cmpT sa a sb b = - cmpT sb b sa a := by
  unfold cmpT orI Lib.compareInt
  rw [cb_neg a b]
  by_cases h1 : sa < sb
  · have : ¬ sb < sa := by omega
    simp [h1, this]
  · by_cases h2 : sb < sa
    · simp [h1, h2]
    · simp [h1, h2]
theorem cmpT_zero (sa sb : Int) (a b : List UInt8) : cmpT sa a sb b = 0 ↔ sa = sb ∧ a = b := by
  unfold cmpT orI Lib.compareInt
  by_cases h1 : sa < sb
  · simp [h1]; omega
  · by_cases h2 : sb < sa
    · simp [h1, h2]; omega
    · simp [h1, h2, cb_zero]; omega
theorem cmpT_trans (sa sb sc : Int) (a b c : List UInt8) (h1 : cmpT sa a sb b ≤ 0) (h2 : cmpT sb b sc c ≤ 0) : cmpT sa a sc c ≤ 0 := by
  unfold cmpT orI Lib.compareInt at *
  by_cases a1 : sa < sb
  · by_cases a2 : sb < sc
    · have : sa < sc := by omega
      simp [this]
    · by_cases a3 : sb > sc
      · simp [a2, a3] at h2
      · have : sa < sc := by omega
        simp [this]
  · by_cases a3 : sa > sb
    · simp [a1, a3] at h1
    · obtain rfl : sa = sb := by omega
      simp at h1
      by_cases a2 : sa < sc
      · simp [a2]
      · by_cases a4 : sa > sc
        · simp [a2, a4] at h2
        · simp [a2, a4] at h2 ⊢
          exact cb_trans a b c h1 h2
theorem cmpT_range (sa sb : Int) (a b : List UInt8) : -1 ≤ cmpT sa a sb b ∧ cmpT sa a sb b ≤ 1 := by
  have hc : -1 ≤ Lib.compareBytes a b ∧ Lib.compareBytes a b ≤ 1 := by
    rw [cb_less]
    split
    · omega
    · split <;> omega
  unfold cmpT orI Lib.compareInt
  by_cases h1 : sa < sb
  · simp [h1]
  · by_cases h2 : sb < sa <;> simp [h1, h2] <;> omega

set_option maxHeartbeats 1000000 in
theorem RefCompare_any (sa sb : Int) (a b : ByteArray) (w : World) :
    Calls Tryd.prog 20 #[.agg #[.int .i64 sa, .string a], .agg #[.int .i64 sb, .string b]] w fun e w' => e = .returned (.int .i64 (cmpT sa a.data.toList sb b.data.toList)) ∧ Below w.heap.size w w' := by
  have hB : Below w.heap.size w ((w.alloc (.cells #[.int .i64 sa, .string a] 24)).alloc (.cells #[.int .i64 sb, .string b] 24)) := ((Below.refl _ w).alloc (Nat.le_refl _) _).alloc (by simp) _
  have hl := cb_less a.data.toList b.data.toList
  by_cases h1 : sa < sb
  · have hfin : cmpT sa a.data.toList sb b.data.toList = -1 := by unfold cmpT orI Lib.compareInt; simp [h1]
    have HF := Lib.hid hfin; clear hfin hl
    go_enter Tryd.func20, Tryd.ntmps20
    go_wp2
    go_ret
    exact ⟨ret_int (by rw [HF.out]), hB⟩
  by_cases h2 : sa = sb
  · subst h2
    cases h3 : Op.bytesLess a.toList b.toList
    · by_cases h4 : a = b
      · subst h4
        have hfin : cmpT sa a.data.toList sa a.data.toList = 0 := (cmpT_zero _ _ _ _).2 ⟨rfl, rfl⟩
        have HF := Lib.hid hfin; clear hfin hl
        go_enter Tryd.func20, Tryd.ntmps20
        go_wp2
        go_ret
        exact ⟨ret_int (by rw [HF.out]), hB⟩
      · have h6 : a.data.toList ≠ b.data.toList := fun e => h4 (by apply ByteArray.ext; apply Array.ext'; exact e)
        have h5 : (a.toList == b.toList) = false := by rw [Lib.toList_data, Lib.toList_data]; exact beq_eq_false_iff_ne.2 h6
        have hfin : cmpT sa a.data.toList sa b.data.toList = 1 := by
          rw [Lib.toList_data, Lib.toList_data] at h3
          unfold cmpT orI Lib.compareInt; simp [hl, h3, h6]
        have HF := Lib.hid hfin; clear hfin hl h4 h6
        go_enter Tryd.func20, Tryd.ntmps20
        go_wp2
        go_ret
        exact ⟨ret_int (by rw [HF.out]), hB⟩
    · have hfin : cmpT sa a.data.toList sa b.data.toList = -1 := by
        rw [Lib.toList_data, Lib.toList_data] at h3
        unfold cmpT orI Lib.compareInt; simp [hl, h3]
      have HF := Lib.hid hfin; clear hfin hl
      go_enter Tryd.func20, Tryd.ntmps20
      go_wp2
      go_ret
      exact ⟨ret_int (by rw [HF.out]), hB⟩
  · have hfin : cmpT sa a.data.toList sb b.data.toList = 1 := by
      have h3 : sb < sa := by omega
      unfold cmpT orI Lib.compareInt; simp [h1, h3]
    have hd : (sa == sb) = false := by rw [beq_eq_false_iff_ne]; exact h2
    have HF := Lib.hid hfin; clear hfin hl
    go_enter Tryd.func20, Tryd.ntmps20
    go_wp2
    go_ret
    exact ⟨ret_int (by rw [HF.out]), hB⟩
end Go.Proofs.YtjnnbmdacicfcaaDoor.Ti
