/-
  What the sanity check of the laws on strings says.
-/
import Derived.Test.YtihhejeciagdpaaDoorSfCount
namespace Go.Proofs.YtihhejeciagdpaaDoor.Sf
open Go.RowKit
set_option linter.unusedVariables false

theorem k_slice : slice ⟨#[97, 98, 99, 100, 101, 102]⟩ (-3) 2 = ⟨#[100, 101]⟩ := by kernel_rfl
theorem k_count : (occ ⟨#[97, 97, 97, 97]⟩ ⟨#[97, 97]⟩).length = 2 := by kernel_rfl
theorem k_length : rc ⟨#[97, 195, 169]⟩ = 2 := by kernel_rfl
set_option maxRecDepth 100000 in
theorem known_any (w : World) : Calls Tryd.prog 4 #[] w fun e w' => e = .returned (.bool true) ∧ Below w.heap.size w w' := by
  have H1 : Hid (∀ w, Calls Tryd.prog 13 #[.string ⟨#[97, 98, 99, 100, 101, 102]⟩, .int .i64 (-3), .int .i64 2] w fun e w' => e = .returned (.string ⟨#[100, 101]⟩) ∧ Below w.heap.size w w') := Lib.hid (fun w => by
    have h := Slice_any ⟨#[97, 98, 99, 100, 101, 102]⟩ (-3) 2 w (by decide) ⟨by decide, by decide⟩ ⟨by decide, by decide⟩
    rwa [k_slice] at h)
  have H2 : Hid (∀ w, Calls Tryd.prog 14 #[.string ⟨#[97, 97, 97, 97]⟩, .string ⟨#[97, 97]⟩] w fun e w' => e = .returned (.int .i64 2) ∧ Below w.heap.size w w') := Lib.hid (fun w => by
    have h := Count_any ⟨#[97, 97, 97, 97]⟩ ⟨#[97, 97]⟩ w (by decide) (by decide)
    rwa [k_count] at h)
  have H3 : Hid (∀ w, Calls Tryd.prog 15 #[.string ⟨#[97, 195, 169]⟩] w fun e w' => e = .returned (.int .i64 2) ∧ Below w.heap.size w w') := Lib.hid (fun w => by
    have h := Length_any ⟨#[97, 195, 169]⟩ w (by decide)
    rwa [k_length] at h)
  go_enter Tryd.func4, Tryd.ntmps4
  go_wp2_with fail
  refine (H1.out _).mono ?_
  rintro e w1 ⟨rfl, hb1⟩
  go_wp2_with fail
  refine (H2.out _).mono ?_
  rintro e w2 ⟨rfl, hb2⟩
  go_wp2_with fail
  refine (H3.out _).mono ?_
  rintro e w3 ⟨rfl, hb3⟩
  go_wp2
  go_ret
  exact ⟨rfl, (hb1.trans (hb2.mono hb1.size)).trans (hb3.mono (Nat.le_trans hb1.size hb2.size))⟩
end Go.Proofs.YtihhejeciagdpaaDoor.Sf
