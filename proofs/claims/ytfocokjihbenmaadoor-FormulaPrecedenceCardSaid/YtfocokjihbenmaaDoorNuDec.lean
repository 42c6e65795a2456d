/-
  The contracts of the reference's Decimal and of strconv.Itoa.
-/
import Derived.Test.YtfocokjihbenmaaDoorNuRMod
import Derived.Test.YtfocokjihbenmaaDoorShelf
import Derived.Lib.AppendIntMem
import Derived.Laws.BytesString
namespace Go.Proofs.YtfocokjihbenmaaDoor.Nu
open Go.RowKit

theorem lt_cell {W : World} {p : Addr} {v : Value} (h : W.cell? p = some v) : p.block < W.heap.size := by
  rcases Nat.lt_or_ge p.block W.heap.size with h1 | h1
  · exact h1
  · unfold World.cell? at h
    rw [Array.getElem?_eq_none h1] at h
    simp at h
/-- The library's table of powers, and that its variable MaxLen holds some number. -/
structure Tb (w : World) : Prop where
  ml : ∃ m : Int, w.cell? ⟨0, 0, none⟩ = some (.int .i64 m)
theorem Tb.below {w w' : World} (h : Tb w) (hb : Below w.heap.size w w') : Tb w' :=
  ⟨by obtain ⟨m, hm⟩ := h.ml; exact ⟨m, (hb.cell (p := ⟨0, 0, none⟩) (lt_cell hm)).trans hm⟩⟩
theorem conv_one (W : World) (b : Nat) (n : Int) (h : W.cell? ⟨b, 0, none⟩ = some (.int .u8 n)) : (convert 53 9 (.slice (some ⟨b, 0, none⟩) 1 1)).run Tryd.prog W = .ok (.string ⟨#[UInt8.ofNat n.toNat]⟩) W := by
  have hl : (loadCells ⟨b, 0, none⟩ 1).run Tryd.prog W = .ok ([n].map (Value.int .u8)).toArray W := by
    simp [loadCells, go_sem, h]
  rw [run_convert_bytes_string W 53 9 5 _ 1 1 Tryd.underlying53 Tryd.underlying5 Tryd.underlying9, run_bytesToString W ⟨b, 0, none⟩ 1 1 [n] hl]
  rfl
theorem conv_dig (w : World) (u : Nat) : (convert 53 9 (.slice (some ⟨w.heap.size, 0, none⟩) 1 1)).run Tryd.prog (w.alloc (.cells #[.int .u8 (48 + (u : Int) % 10)] 5)) = .ok (.string ⟨#[UInt8.ofNat (48 + u % 10)]⟩) (w.alloc (.cells #[.int .u8 (48 + (u : Int) % 10)] 5)) := by
  rw [conv_one _ _ (48 + (u : Int) % 10) (by simp), show (48 + (u : Int) % 10).toNat = 48 + u % 10 by omega]
theorem cat_dig (l : List UInt8) (c : UInt8) : (⟨l.toArray⟩ : ByteArray) ++ ⟨#[c]⟩ = ⟨(l ++ [c]).toArray⟩ := by
  apply ByteArray.ext; apply Array.ext'; simp
theorem dec_len19 {u : Nat} (h : u ≤ 4611686018427387904) : (Lib.decDigits u).length ≤ 19 := (pad 19 u (by omega) (Nat.lt_of_le_of_lt h (by decide))).1
set_option maxRecDepth 100000 in
set_option maxHeartbeats 1000000 in
theorem Dec_any : ∀ (u : Nat) (w : World), u ≤ 4611686018427387904 → Calls Tryd.prog 25 #[.int .i64 (u : Int)] w fun e w' => e = .returned (.string ⟨(Lib.decDigits u).toArray⟩) ∧ Below w.heap.size w w' := by
  intro u
  induction u using Nat.strongRecOn with
  | _ u ih =>
    intro w hu
    have hm : 0 ≤ (u : Int) % 10 ∧ (u : Int) % 10 ≤ 9 := by omega
    obtain ⟨m0, m1⟩ := hm
    by_cases h : u < 10
    · have hd : decide ((u : Int) < 10) = true := by rw [decide_eq_true_iff]; omega
      have HD := Lib.hid (dec_small h)
      have hcv := conv_dig w u
      have HM := Lib.hid (Nat.mod_eq_of_lt h)
      clear h ih
      go_enter Tryd.func25, Tryd.ntmps25
      go_wp2
      go_ret
      exact ⟨ret_str (by rw [HD.out]; simp [HM.out]), (Below.refl _ _).alloc (Nat.le_refl _) _⟩
    · have hd : decide ((u : Int) < 10) = false := by rw [decide_eq_false_iff_not]; omega
      have HD := Lib.hid (dec_big (x := u) (by omega))
      have hcv := conv_dig w u
      have IH := ih (u / 10) (by omega) (w.alloc (.cells #[.int .u8 (48 + (u : Int) % 10)] 5)) (by omega)
      rw [show ((u / 10 : Nat) : Int) = (u : Int) / 10 by omega] at IH
      have HI := Lib.hid IH
      have hl := dec_len19 (u := u / 10) (by omega)
      clear h ih IH
      go_enter Tryd.func25, Tryd.ntmps25
      go_wp2_with fail
      refine HI.out.mono ?_
      rintro e w1 ⟨rfl, hb⟩
      go_wp2
      go_ret
      exact ⟨ret_str (by rw [HD.out, ← cat_dig]; simp), below1 hb⟩
theorem RItoa_any (n : Int) (w : World) (h : n.natAbs ≤ 4611686018427387904) : Calls Tryd.prog 25 #[.int .i64 n] w fun e w' => e = .returned (.string ⟨(Lib.itoa n).toArray⟩) ∧ Below w.heap.size w w' := by
  by_cases hn : n < 0
  · have hi : Lib.itoa n = 45 :: Lib.decDigits n.natAbs := by unfold Lib.itoa; rw [if_pos hn]
    have HI := Lib.hid hi; clear hi
    have HD := Lib.hid (Dec_any n.natAbs w h)
    rw [show ((n.natAbs : Nat) : Int) = -n by omega] at HD
    have hl := dec_len19 h
    have e1 : IntKind.i64.wrap (-n) = -n := IntWalk.i64_in _ (by omega)
    go_enter Tryd.func25, Tryd.ntmps25
    go_wp2_with fail
    refine HD.out.mono ?_
    rintro e w1 ⟨rfl, hb⟩
    go_wp2
    go_ret
    exact ⟨ret_str (by rw [HI.out]; apply ByteArray.ext; apply Array.ext'; simp), hb⟩
  · have hi : Lib.itoa n = Lib.decDigits n.toNat := by unfold Lib.itoa; rw [if_neg hn]
    have HD := Dec_any n.toNat w (by omega)
    rw [show ((n.toNat : Nat) : Int) = n by omega, ← hi] at HD
    exact HD
end Go.Proofs.YtfocokjihbenmaaDoor.Nu
