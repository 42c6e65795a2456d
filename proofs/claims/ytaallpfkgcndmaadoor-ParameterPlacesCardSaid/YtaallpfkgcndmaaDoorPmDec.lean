/-
  The contracts of the reference's Decimal and of strconv.Itoa for small numbers.
-/
import Derived.Test.YtaallpfkgcndmaaDoorPmMem
import Derived.Laws.BytesString
namespace Go.Proofs.YtaallpfkgcndmaaDoor.Pm
open Go.RowKit Go.Shelf
set_option linter.unusedVariables false
set_option linter.unusedSimpArgs false

theorem below1 {w w1 : World} {A : Obj} (hb : Below (w.alloc A).heap.size (w.alloc A) w1) : Below w.heap.size w w1 :=
  ((Below.refl _ w).alloc (Nat.le_refl _) A).trans (hb.mono (by simp))
theorem dec_small {x : Nat} (h : x < 10) : Lib.decDigits x = [UInt8.ofNat (48 + x)] := Lib.decDigits_one h
theorem dec_big {x : Nat} (h : 10 ≤ x) : Lib.decDigits x = Lib.decDigits (x / 10) ++ [UInt8.ofNat (48 + x % 10)] := by
  conv => lhs; rw [Lib.decDigits, dif_neg (by omega)]
theorem dec_len2 {u : Nat} (h : u < 100) : (Lib.decDigits u).length ≤ 2 := by
  by_cases h1 : u < 10
  · rw [dec_small h1]; simp
  · rw [dec_big (by omega), dec_small (by omega)]; simp
/-- The name of the k-th positional argument. -/
def dec (k : Nat) : By := Lib.decDigits k
theorem conv_one (W : World) (b : Nat) (n : Int) (h : W.cell? ⟨b, 0, none⟩ = some (.int .u8 n)) : (convert 51 9 (.slice (some ⟨b, 0, none⟩) 1 1)).run Tryd.prog W = .ok (.string ⟨#[UInt8.ofNat n.toNat]⟩) W := by
  have hl : (loadCells ⟨b, 0, none⟩ 1).run Tryd.prog W = .ok ([n].map (Value.int .u8)).toArray W := by
    simp [loadCells, go_sem, h]
  rw [run_convert_bytes_string W 51 9 5 _ 1 1 Tryd.underlying51 Tryd.underlying5 Tryd.underlying9, run_bytesToString W ⟨b, 0, none⟩ 1 1 [n] hl]
  rfl
theorem conv_dig (w : World) (u : Nat) : (convert 51 9 (.slice (some ⟨w.heap.size, 0, none⟩) 1 1)).run Tryd.prog (w.alloc (.cells #[.int .u8 (48 + (u : Int) % 10)] 5)) = .ok (.string ⟨#[UInt8.ofNat (48 + u % 10)]⟩) (w.alloc (.cells #[.int .u8 (48 + (u : Int) % 10)] 5)) := by
  rw [conv_one _ _ (48 + (u : Int) % 10) (by simp), show (48 + (u : Int) % 10).toNat = 48 + u % 10 by omega]
theorem cat_dig (l : List UInt8) (c : UInt8) : (⟨l.toArray⟩ : ByteArray) ++ ⟨#[c]⟩ = ⟨(l ++ [c]).toArray⟩ := by
  apply ByteArray.ext; apply Array.ext'; simp
set_option maxRecDepth 100000 in
set_option maxHeartbeats 1000000 in
theorem Dec_any : ∀ (u : Nat) (w : World), u < 100 → Calls Tryd.prog 19 #[.int .i64 (u : Int)] w fun e w' => e = .returned (.string (bsl (dec u))) ∧ Below w.heap.size w w' := by
  intro u
  induction u using Nat.strongRecOn with
  | _ u ih =>
    intro w hu
    have hm : 0 ≤ (u : Int) % 10 ∧ (u : Int) % 10 ≤ 9 := by omega
    obtain ⟨m0, m1⟩ := hm
    by_cases h : u < 10
    · have hd : decide ((u : Int) < 10) = true := by rw [decide_eq_true_iff]; omega
      have HD := Lib.hid (dec_small h)
      have hcv := conv_dig w u
      have HM := Lib.hid (Nat.mod_eq_of_lt h)
      clear h ih
      go_enter Tryd.func19, Tryd.ntmps19
      go_wp2
      go_ret
      exact ⟨ret_str (by unfold bsl dec; rw [HD.out]; simp [HM.out]), (Below.refl _ _).alloc (Nat.le_refl _) _⟩
    · have hd : decide ((u : Int) < 10) = false := by rw [decide_eq_false_iff_not]; omega
      have HD := Lib.hid (dec_big (x := u) (by omega))
      have hcv := conv_dig w u
      have IH := ih (u / 10) (by omega) (w.alloc (.cells #[.int .u8 (48 + (u : Int) % 10)] 5)) (by omega)
      rw [show ((u / 10 : Nat) : Int) = (u : Int) / 10 by omega] at IH
      have HI := Lib.hid IH
      have hl : (bsl (dec (u / 10))).size ≤ 2 := by rw [bsl_size]; exact dec_len2 (by omega)
      clear h ih IH
      go_enter Tryd.func19, Tryd.ntmps19
      go_wp2_with fail
      refine HI.out.mono ?_
      rintro e w1 ⟨rfl, hb⟩
      go_wp2
      go_ret
      exact ⟨ret_str (by unfold bsl dec; rw [HD.out, ← cat_dig]; simp), below1 hb⟩
theorem Itoa_any (u : Nat) (w : World) (h : u < 100) : Calls Tryd.prog 21 #[.int .i64 (u : Int)] w fun e w' => e = .returned (.string (bsl (dec u))) ∧ Below w.heap.size w w' :=
  (Tryd.strconv_Itoa_small u h w).mono fun e w' ⟨h1, h2⟩ => ⟨h1, by rw [h2]; exact Below.refl _ _⟩
end Go.Proofs.YtaallpfkgcndmaaDoor.Pm
