/-
  Numbers compared, the contract of of, and of the sanity check known of the laws of chapter 6.
-/
import Derived.Test.YtpehlihbpmcofaaDoorNuFormat
import Derived.Laws.StructEq
namespace Go.Proofs.YtpehlihbpmcofaaDoor.Nu
open Go.RowKit

/-- Whether two numbers are the same. -/
def eqN (a p b q : Int) : Bool := decide (a = b ∧ p = q)
theorem eq_run (a p b q : Int) (w : World) : (Op.equalIn 10000 23 (.agg #[.int .i64 a, .int .i64 p]) (.agg #[.int .i64 b, .int .i64 q])).run Tryd.prog w = .ok (eqN a p b q) w := by
  rw [show (10000 : Nat) = 9998 + 1 + 1 from rfl, run_equalIn_agg _ _ _ _ _ (by kernel_rfl) (by kernel_rfl)]
  go_simp
  unfold eqN
  by_cases h1 : a = b
  · by_cases h2 : p = q
    · simp [h1, h2]
    · simp [h1, h2]
  · simp [h1]
theorem eq_num (a p b q : Int) (w : World) : (binOp .eql 23 (.agg #[.int .i64 a, .int .i64 p]) (.agg #[.int .i64 b, .int .i64 q])).run Tryd.prog w = .ok (.bool (eqN a p b q)) w := by
  rw [run_eql_struct, eq_run]
  simp
theorem neq_num (a p b q : Int) (w : World) : (binOp .neq 23 (.agg #[.int .i64 a, .int .i64 p]) (.agg #[.int .i64 b, .int .i64 q])).run Tryd.prog w = .ok (.bool (!eqN a p b q)) w := by
  rw [run_neq_struct, eq_run]
  simp
theorem eqN_refl (a p : Int) : eqN a p a p = true := by simp [eqN]

theorem size1' {w w1 : World} {A : Obj} (hb : Below (w.alloc A).heap.size (w.alloc A) w1) : w.heap.size < w1.heap.size := size1 hb
theorem k_make : make 2 3 = ⟨2, 3, 0⟩ := by
  have e : make 2 3 = fit 2 3 := by unfold make inB; simp
  rw [e]; exact fit_of (by omega) ⟨by omega, by omega, by omega, by omega, by decide⟩ rfl
theorem k_ok : okB 2 3 = true := okB_iff.2 ⟨by omega, by omega, by omega, by omega, by decide⟩
theorem k_rnd : rnd 2 3 2 = ⟨67, 100, 0⟩ := by
  have e : rnd 2 3 2 = fit 67 100 := by
    unfold rnd; rw [k_ok]; rfl
  rw [e]; exact fit_of (by omega) ⟨by omega, by omega, by omega, by omega, by decide⟩ rfl
theorem k_fixed : fixS 2 3 2 = ⟨#[48, 46, 54, 55]⟩ := by
  unfold fixS; rw [k_rnd]
  apply itS_ext
  show nota 67 100 2 = [48, 46, 54, 55]
  unfold nota body
  rw [if_neg (by decide), if_neg (by decide), show (67 : Int).natAbs * (10 ^ 2 / (100 : Int).toNat) = 67 by decide, show 67 / 10 ^ 2 = 0 by decide, dec_small (by decide)]
  rfl
theorem k_fmt : fmtS 2 3 = ⟨#[50, 47, 51]⟩ := by
  apply itS_ext
  show fmt 2 3 = [50, 47, 51]
  rw [fmt_frac (okB_iff.1 k_ok) (by
    intro j hj
    have : j = 0 ∨ j = 1 ∨ j = 2 ∨ j = 3 ∨ j = 4 ∨ j = 5 ∨ j = 6 ∨ j = 7 ∨ j = 8 ∨ j = 9 := by omega
    rcases this with rfl | rfl | rfl | rfl | rfl | rfl | rfl | rfl | rfl | rfl <;> decide)]
  rw [show Lib.itoa 2 = Lib.decDigits 2 from rfl, show Lib.itoa 3 = Lib.decDigits 3 from rfl, dec_small (by decide), dec_small (by decide)]
  rfl
set_option maxRecDepth 100000 in
set_option maxHeartbeats 2000000 in
theorem known_any (w : World) (ht : Tb w) : Calls Tryd.prog 18 #[] w fun e w' => e = .returned (.bool true) ∧ Below w.heap.size w w' := by
  have HM := Lib.hid k_make
  have HF := Lib.hid k_fixed
  have HT := Lib.hid k_fmt
  have HR := Lib.hid k_rnd
  have he := eq_num 2 3 2 3
  have heq : eqN 2 3 2 3 = true := eqN_refl 2 3
  go_enter Tryd.func18, Tryd.ntmps18
  go_wp2_with fail
  refine (Make_any 2 3 _).mono ?_
  rintro e w1 ⟨rfl, hb⟩
  rw [HM.out]
  have HB := Lib.hid hb
  clear hb
  go_wp2_with fail
  refine (Fixed_any 2 3 2 _ (ht.below (HB.out.alloc HB.out.size _))).mono ?_
  rintro e w2 ⟨rfl, hb2⟩
  rw [HF.out, HR.out]
  obtain ⟨hc2, hf2⟩ := bcell hb2
  have hB1 := HB.out.alloc HB.out.size (.cells #[.int .i64 2, .int .i64 3] 23)
  have HB2 := Lib.hid (hB1.trans (hb2.mono hB1.size))
  have z1 := size1' hb2
  clear hB1
  go_wp2_with fail
  refine (Format_any 2 3 _ (ht.below HB2.out)).mono ?_
  rintro e w3 ⟨rfl, hb3⟩
  rw [HT.out]
  obtain ⟨hc3, hf3⟩ := bcell hb3
  have HB3 := Lib.hid (HB2.out.trans (hb3.mono HB2.out.size))
  go_wp2_with fail
  refine (Valid_yes k_ok _).mono ?_
  rintro e w4 ⟨rfl, hb4⟩
  have HB4 := Lib.hid (HB3.out.trans (hb4.mono HB3.out.size))
  go_wp2
  go_ret
  exact ⟨rfl, HB4.out⟩
end Go.Proofs.YtpehlihbpmcofaaDoor.Nu
