/-
  Plain facts for the contract of the reference's Parse: what its conditions say of the form of a decimal.
-/
import Derived.Test.YtpehlihbpmcofaaDoorNuRPar
namespace Go.Proofs.YtpehlihbpmcofaaDoor.Nu

theorem run1_zero (l : List UInt8) : run1 l 0 = (l.takeWhile isD).length := by unfold run1; rw [Nat.zero_add, List.drop_zero]
theorem tw_le (l : List UInt8) : (l.takeWhile isD).length ≤ l.length := (List.takeWhile_sublist _).length_le
theorem tw_mem : ∀ {l : List UInt8} {x : UInt8}, x ∈ l.takeWhile isD → isD x = true
  | [], _, h => by cases h
  | b :: l, x, h => by
    by_cases hb : isD b = true
    · rw [List.takeWhile_cons_of_pos hb] at h
      rcases List.mem_cons.1 h with rfl | h
      · exact hb
      · exact tw_mem h
    · rw [List.takeWhile_cons_of_neg hb] at h
      cases h
theorem tw_digits (l : List UInt8) : (l.takeWhile isD).all isD = true := List.all_eq_true.2 fun _ hx => tw_mem hx
theorem tw_all {l : List UInt8} (h : (l.takeWhile isD).length = l.length) : l.all isD = true := by
  have : l.takeWhile isD = l := (List.takeWhile_prefix isD).eq_of_length h
  rw [← this]
  exact tw_digits l
theorem tw_of : ∀ {l : List UInt8}, l.all isD = true → (l.takeWhile isD).length = l.length
  | [], _ => rfl
  | b :: l, h => by
    rw [List.all_cons, Bool.and_eq_true] at h
    rw [List.takeWhile_cons_of_pos h.1, List.length_cons, List.length_cons, tw_of h.2]
/-- All digits. -/
theorem pb_all (neg : Bool) {l : List UInt8} (h : run1 l 0 = l.length) : pbody neg l = if 1 ≤ l.length ∧ l.length ≤ 9 then fit (if neg then -(val l : Int) else (val l : Int)) 1 else ⟨0, 0, 1⟩ := by
  rw [run1_zero] at h
  have ha := tw_all h
  unfold pbody
  rw [cut_none l ha]
  dsimp only
  by_cases hl : 1 ≤ l.length ∧ l.length ≤ 9
  · have hi : idB l [] false = true := by show adB l = true; rw [adB_in hl, ha]
    rw [if_pos hi, if_pos hl, List.append_nil]
    rfl
  · have hi : idB l [] false = false := by show adB l = false; exact adB_len hl
    rw [if_neg (by rw [hi]; exact Bool.false_ne_true), if_neg hl]
theorem tw_split : ∀ l : List UInt8, l.takeWhile isD ++ l.drop (l.takeWhile isD).length = l
  | [] => rfl
  | b :: l => by
    by_cases hb : isD b = true
    · rw [List.takeWhile_cons_of_pos hb, List.length_cons, List.drop_succ_cons, List.cons_append, tw_split l]
    · rw [List.takeWhile_cons_of_neg hb]
      rfl
theorem valFrom_lin : ∀ (l : List UInt8) (a : Nat), valFrom a l = a * 10 ^ l.length + val l
  | [], a => by simp [valFrom, val]
  | x :: l, a => by
    have e1 : valFrom a (x :: l) = valFrom (10 * a + (x.toNat - 48)) l := rfl
    have e2 : val (x :: l) = valFrom (10 * 0 + (x.toNat - 48)) l := rfl
    rw [e1, e2, valFrom_lin l (10 * a + (x.toNat - 48)), valFrom_lin l (10 * 0 + (x.toNat - 48)), List.length_cons, Nat.pow_succ]
    have : (10 * a + (x.toNat - 48)) * 10 ^ l.length = a * (10 ^ l.length * 10) + (x.toNat - 48) * 10 ^ l.length := by
      rw [Nat.add_mul, Nat.mul_comm 10 a, Nat.mul_assoc, Nat.mul_comm 10]
    rw [this, Nat.mul_zero, Nat.zero_add, Nat.add_assoc]
/-- Digits, a point, and a tail. -/
theorem pb_point (neg : Bool) {l r : List UInt8} (h : l.drop (run1 l 0) = 46 :: r) :
    pbody neg l = if run1 l 0 ≤ 9 ∧ (r.takeWhile isD).length = r.length ∧ 1 ≤ r.length ∧ r.length ≤ 9 then
      fit (if neg then -((val (l.takeWhile isD) * 10 ^ r.length + val r : Nat) : Int) else ((val (l.takeWhile isD) * 10 ^ r.length + val r : Nat) : Int)) (pw r.length) else ⟨0, 0, 1⟩ := by
  rw [run1_zero] at h ⊢
  have hs := tw_split l
  rw [h] at hs
  have hd := tw_digits l
  generalize l.takeWhile isD = a at *
  subst hs
  unfold pbody
  rw [cut_point a r hd]
  dsimp only
  by_cases hc : a.length ≤ 9 ∧ (r.takeWhile isD).length = r.length ∧ 1 ≤ r.length ∧ r.length ≤ 9
  · obtain ⟨c1, c2, c3, c4⟩ := hc
    have hr := tw_all c2
    have hi : idB a r true = true := by
      unfold idB
      rw [if_pos rfl, adB_in ⟨c3, c4⟩, hr, Bool.and_true, Bool.or_eq_true]
      by_cases ha : a = []
      · exact .inl (by rw [ha]; rfl)
      · exact .inr (by rw [adB_in ⟨List.length_pos_iff.2 ha, c1⟩, hd])
    rw [if_pos hi, if_pos (show a.length ≤ 9 ∧ (r.takeWhile isD).length = r.length ∧ 1 ≤ r.length ∧ r.length ≤ 9 from ⟨c1, c2, c3, c4⟩)]
    have : val (a ++ r) = val a * 10 ^ r.length + val r := by
      show valFrom 0 (a ++ r) = _
      rw [valFrom_append, valFrom_lin r]
      rfl
    simp only [this]
  · have hi : idB a r true = false := by
      rw [Bool.eq_false_iff]
      intro hh
      unfold idB at hh
      rw [if_pos rfl, Bool.and_eq_true, Bool.or_eq_true] at hh
      obtain ⟨h1, h2⟩ := hh
      have k2 := adB_ok h2
      have k3 : 1 ≤ r.length := by
        unfold adB at h2
        rw [Bool.and_eq_true, decide_eq_true_iff] at h2
        exact h2.1.1
      have k1 : a.length ≤ 9 := by
        rcases h1 with h1 | h1
        · rw [List.isEmpty_iff.1 h1]; exact Nat.zero_le _
        · exact (adB_ok h1).2
      exact hc ⟨k1, tw_of k2.1, k3, k2.2⟩
    rw [if_neg (by rw [hi]; exact Bool.false_ne_true), if_neg hc]
theorem cut_fst : ∀ (a : List UInt8) (c : UInt8) (r : List UInt8), a.all isD = true → c ≠ 46 → ∃ t, (cut (a ++ c :: r)).1 = a ++ c :: t
  | [], c, r, _, hc => by
    refine ⟨(cut r).1, ?_⟩
    show (cut (c :: r)).1 = _
    rw [cut, if_neg hc]
    rfl
  | x :: a, c, r, h, hc => by
    rw [List.all_cons, Bool.and_eq_true] at h
    obtain ⟨t, ht⟩ := cut_fst a c r h.2 hc
    have hx : x ≠ 46 := by rintro rfl; rw [isD_46] at h; exact absurd h.1 Bool.false_ne_true
    refine ⟨t, ?_⟩
    show (cut (x :: (a ++ c :: r))).1 = _
    rw [cut, if_neg hx]
    show x :: (cut (a ++ c :: r)).1 = _
    rw [ht]
    rfl
/-- Digits, then a byte that is neither a digit nor a point. -/
theorem pb_else (neg : Bool) {l r : List UInt8} {c : UInt8} (h : l.drop (run1 l 0) = c :: r) (hc : c ≠ 46) (hd : isD c = false) : pbody neg l = ⟨0, 0, 1⟩ := by
  rw [run1_zero] at h
  have hs := tw_split l
  rw [h] at hs
  have ha := tw_digits l
  obtain ⟨t, ht⟩ := cut_fst _ c r ha hc
  rw [hs] at ht
  have hn : adB (cut l).1 = false := by
    rw [ht, Bool.eq_false_iff]
    intro hh
    have := (adB_ok hh).1
    rw [List.all_append, List.all_cons, hd] at this
    simp at this
  have he : (cut l).1.isEmpty = false := by rw [ht]; simp
  unfold pbody
  have hi : idB (cut l).1 (cut l).2.1 (cut l).2.2 = false := by
    unfold idB
    rw [hn, he]
    split <;> rfl
  rw [if_neg (by rw [hi]; exact Bool.false_ne_true)]
end Go.Proofs.YtpehlihbpmcofaaDoor.Nu
