/-
  Plain Lean for the laws of package strfunc.
-/
import Derived.Test.YtihhejeciagdpaaSfPd
namespace Go.Proofs.Ytihhejeciagdpaa.Sf
set_option linter.unusedVariables false

/-! ### Divided -/
theorem all_ext (s : ByteArray) : s.extract 0 s.size = s := bs_inj (ext_all s)
theorem slF_zero (s : ByteArray) : slF s 0 = 0 := rfl
theorem slF_nat (s : ByteArray) (k : Nat) : slF s (k : Int) = k := by unfold slF; rw [if_neg (by omega)]; omega
theorem slN_nat (s : ByteArray) (F n : Nat) : slN s F (n : Int) = n := by unfold slN; rw [if_neg (by omega)]; omega
theorem div_front (s : ByteArray) (k : Nat) : slice s 0 (k : Int) = s.extract 0 (ag s k) := by
  unfold slice sl; rw [slF_zero, slN_nat, ag_zero, Nat.zero_add]
theorem div_back (s : ByteArray) (k : Nat) (hs : s.size ≤ 400) : slice s (k : Int) 32768 = s.extract (ag s k) s.size := by
  unfold slice
  rw [slF_nat, show (32768 : Int) = ((32768 : Nat) : Int) from rfl, slN_nat, sl_cut]
  have := rc_le s; omega
theorem div_both (s : ByteArray) (k : Nat) (hs : s.size ≤ 400) : slice s 0 (k : Int) ++ slice s (k : Int) 32768 = s := by
  rw [div_front, div_back s k hs]
  apply bs_inj
  rw [app_list, ext_app (Nat.zero_le _) (ag_le s k), ext_all]
theorem div_neg (s : ByteArray) {k : Nat} (h : k < rc s) : slice s 0 ((k : Int) - (rc s : Int)) = slice s 0 (k : Int) := by
  unfold slice
  rw [slF_zero, slN_nat]
  congr 1
  unfold slN
  rw [if_pos (by omega)]; omega
theorem div_all (s : ByteArray) : slice s (-(rc s : Int)) (rc s : Int) = s := by
  have hF : slF s (-(rc s : Int)) = 0 := by unfold slF; split <;> omega
  unfold slice
  rw [hF, slN_nat]
  exact bs_inj (sl_all s)

/-! ### Replaced -/
theorem tm_neg (s t : ByteArray) : tm s t (-1) = (occ s t).length := rfl
theorem rpd_size (s t u : ByteArray) : ((rpb s t u (-1)).size : Int) = (s.size : Int) + ((occ s t).length : Int) * ((u.size : Int) - t.size) := by
  rw [rpb_size, tm_neg]
theorem mul_le_of {a b A B : Nat} (h1 : a ≤ A) (h2 : b ≤ B) : a * b ≤ A * B := Nat.mul_le_mul h1 h2
theorem rp_small {s t u : ByteArray} (m : Int) (hs : s.size ≤ 300) (hu : u.size ≤ 50) (ht : t.size ≤ 50) : (rpb s t u m).size ≤ 32768 := by
  have h := rpb_size s t u m
  have h1 := tm_le s t m
  have h2 := occ_len s t
  generalize tm s t m = k at h h1
  have h3 : k * u.size ≤ 300 * 50 := Nat.mul_le_mul (by omega) hu
  rw [Int.mul_sub] at h
  have h4 : (0 : Int) ≤ (k : Int) * (t.size : Int) := Int.mul_nonneg (by omega) (by omega)
  have h5 : ((k * u.size : Nat) : Int) = (k : Int) * (u.size : Int) := Int.natCast_mul _ _
  omega

/-! ### Within -/
theorem wi_size (a b c : ByteArray) : (a ++ b ++ c).size = a.size + b.size + c.size := by simp [ByteArray.size_append]
theorem wi_pl {a b c : ByteArray} (ha : Pl a) (hb : Pl b) (hc : Pl c) : Pl (a ++ b ++ c) := pl_app (pl_app ha hb) hc
theorem wi_ag {a b c : ByteArray} (ha : Pl a) (hb : Pl b) (hc : Pl c) : ag (a ++ b ++ c) a.size = a.size := by
  rw [pl_ag (wi_pl ha hb hc), wi_size]; omega
theorem wi_rc {a b c : ByteArray} (ha : Pl a) (hb : Pl b) (hc : Pl c) : rc (a ++ b ++ c) = a.size + b.size + c.size := by
  rw [pl_rc (wi_pl ha hb hc), wi_size]
theorem wi_first {a b c : ByteArray} (ha : Pl a) (hb : Pl b) (hc : Pl c) : ∃ p : Nat, fnd (a ++ b ++ c) b 0 = p ∧ p ≤ a.size := by
  have hw : hasP (a ++ b ++ c) b (ag (a ++ b ++ c) a.size) = true := by rw [wi_ag ha hb hc]; exact within a b c
  have hr := wi_rc ha hb hc
  rcases fnd_spec (a ++ b ++ c) b 0 with ⟨h, h2⟩ | ⟨p, h1, h2, h3, h4, h5⟩
  · have := h2 a.size (by omega) (by omega)
    rw [hw] at this; cases this
  · refine ⟨p, h1, ?_⟩
    rcases Nat.lt_or_ge a.size p with h | h
    · have := h5 a.size h (by omega)
      rw [hw] at this; cases this
    · exact h
theorem wi_there {a b c : ByteArray} (ha : Pl a) (hb : Pl b) (hc : Pl c) : fnd (a ++ b ++ c) b (a.size : Int) = (a.size : Int) := by
  have hw : hasP (a ++ b ++ c) b (ag (a ++ b ++ c) a.size) = true := by rw [wi_ag ha hb hc]; exact within a b c
  have hr := wi_rc ha hb hc
  exact fnd_some (by omega) (Int.le_refl _) hw (fun j h1 h2 => by omega)
theorem wi_count {a b c : ByteArray} (ha : Pl a) (hb : Pl b) (hc : Pl c) : (occ (a ++ b ++ c) b).length = 0 ↔ b.size = 0 := by
  constructor
  · intro h
    rcases Nat.eq_zero_or_pos b.size with h0 | h0
    · exact h0
    · refine absurd h (occ_pos (a := a.size) (by omega) ?_ (within a b c))
      rw [pl_sts (wi_pl ha hb hc), List.mem_range, wi_size]; omega
  · intro h
    rw [occ_emp h]; rfl

/-! ### Padded -/
theorem lack_pl {s f : ByteArray} (hs : Pl s) (hf : f.size ≠ 0) (n : Nat) : lack s f (n : Int) = max n s.size - s.size := by
  unfold lack; rw [if_neg hf, pl_rc hs]; omega
theorem pdl_pl {s f : ByteArray} (hs : Pl s) (hf : Pl f) (hn : f.size ≠ 0) (n : Nat) : (pdl f (lack s f (n : Int))).length = max n s.size - s.size := by
  rw [pl_pdl_len hf hn, lack_pl hs hn]
end Go.Proofs.Ytihhejeciagdpaa.Sf
