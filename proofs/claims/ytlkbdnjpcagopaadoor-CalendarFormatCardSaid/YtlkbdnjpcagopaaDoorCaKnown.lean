/-
  The errors of Format, and the contract of the sanity check known of the laws of chapter 7.
-/
import Derived.Test.YtlkbdnjpcagopaaDoorCaFmt
import Derived.Test.YtlkbdnjpcagopaaDoorCaAdd
namespace Go.Proofs.YtlkbdnjpcagopaaDoor.Ca
open Go.RowKit

theorem Format_no1 {n : Int} (h : ¬ (0 ≤ n ∧ n < 52596000)) (s : ByteArray) (w : World) :
    Calls Tryd.prog 26 #[.string s, .int .i64 n] w fun e w' => e = .returned (.tuple #[.string ⟨#[]⟩, .int .i64 2]) ∧ Below w.heap.size w w' := by
  have HC := Lib.hid (fun w => isInst_no h w)
  clear h
  go_enter Tryd.func26, Tryd.ntmps26
  go_wp2_with fail
  refine (HC.out _).mono ?_
  rintro e w1 ⟨rfl, rfl⟩
  go_wp2
  go_ret2
  exact ⟨rfl, Below.refl _ w⟩
theorem Format_no2 {n : Int} (h : 0 ≤ n ∧ n < 52596000) (s : ByteArray) (w : World) (hs : 400 < s.size) :
    Calls Tryd.prog 26 #[.string s, .int .i64 n] w fun e w' => e = .returned (.tuple #[.string ⟨#[]⟩, .int .i64 3]) ∧ Below w.heap.size w w' := by
  have HC := Lib.hid (fun w => isInst h w)
  have hs3 : (400 : Int) < (s.size : Int) := by omega
  clear h hs
  go_enter Tryd.func26, Tryd.ntmps26
  go_wp2_with fail
  refine (HC.out _).mono ?_
  rintro e w1 ⟨rfl, rfl⟩
  go_wp2
  go_ret2
  exact ⟨rfl, Below.refl _ w⟩

theorem k_ok : Ok 2024 2 29 := ⟨by omega, by omega, by omega, by omega, by omega, by decide⟩
theorem k_fmt : fmt 2024 2 29 0 [106, 32, 70, 32, 89] = [50, 57, 32, 70, 101, 98, 114, 117, 97, 114, 121, 32, 50, 48, 50, 52] := by
  have e : fmt 2024 2 29 0 [106, 32, 70, 32, 89] = Lib.itoa 29 ++ 32 :: (mname 2 ++ 32 :: Lib.itoa 2024) := by simp [fmt, syms, out, isCode, tx]
  rw [e, itoa_two (by decide) (by decide), itoa_four (by decide) (by decide)]
  decide
theorem k_unit : unit [106] = 3 := by decide
set_option maxRecDepth 100000 in
set_option maxHeartbeats 2000000 in
theorem known_any (w : World) (ht : Tb w) : Calls Tryd.prog 19 #[] w fun e w' => e = .returned (.bool true) ∧ Below w.heap.size w w' := by
  have HM : Hid (minu 2024 2 29 0 = ⟨inst 2024 2 29 0, 0⟩) := Lib.hid (minu_ok k_ok (by omega) (by omega))
  have HF := Lib.hid (fun w ht => Format_yes k_ok (c := 0) (by omega) (by omega) ⟨#[106, 32, 70, 32, 89]⟩ w (by decide) ht)
  have e1 : (⟨#[106, 32, 70, 32, 89]⟩ : ByteArray).data.toList = [106, 32, 70, 32, 89] := rfl
  rw [e1, k_fmt] at HF
  have HU := Lib.hid (fun w => Unit_any ⟨#[106]⟩ w (by decide))
  have e2 : (⟨#[106]⟩ : ByteArray).data.toList = [106] := rfl
  rw [e2, k_unit] at HU
  clear e1 e2
  go_enter Tryd.func19, Tryd.ntmps19
  go_wp2_with fail
  refine (Minute_any 2024 2 29 0 _ ht).mono ?_
  rintro e w1 ⟨rfl, hb⟩
  rw [HM.out]
  have HB := Lib.hid hb
  clear hb
  go_wp2_with fail
  refine (HF.out _ (ht.below HB.out)).mono ?_
  rintro e w2 ⟨rfl, hb2⟩
  have HB2 := Lib.hid (HB.out.trans (hb2.mono HB.out.size))
  clear hb2
  go_wp2_with fail
  refine (HU.out _).mono ?_
  rintro e w3 ⟨rfl, hb3⟩
  have HB3 := Lib.hid (HB2.out.trans (hb3.mono HB2.out.size))
  clear hb3
  go_wp2
  go_ret
  exact ⟨rfl, HB3.out⟩
end Go.Proofs.YtlkbdnjpcagopaaDoor.Ca
