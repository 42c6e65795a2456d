/-
  The trees that formulas have, and their values.
-/
import Derived.Test.YtfocokjihbenmaaDoorFoVal
import Derived.Test.YtfocokjihbenmaaDoorFoQ
namespace Go.Proofs.YtfocokjihbenmaaDoor.Fo
open Go.Proofs.YtfocokjihbenmaaDoor.Nu

def allB : List Tok := [[43], [45], [42], [47], [109, 111, 100], [114, 111, 117, 110, 100], [94], [97, 110, 100], [111, 114], [61], [60, 62], [60], [62], [60, 61], [62, 61]]
def T.wf : T → Prop
  | .bad => False
  | .num s => s.length ≤ 19
  | .un o x => (o ∈ uns ∨ o = [40]) ∧ x.wf
  | .bin o x y => o ∈ allB ∧ x.wf ∧ y.wf
theorem ops_all (k : Nat) : ∀ o ∈ ops k, o ∈ allB := by
  unfold ops; split <;> decide
theorem cmps_all : ∀ o ∈ cmps, o ∈ allB := by decide
theorem G_wf : ∀ (n k : Nat) (x : T) (l : List Tok) (b : Bool), k ≠ 9 → (∀ t ∈ l, t.length ≤ 19) → (10 ≤ k → b = false → x.wf) →
    (∀ t ∈ (G n k x l b).r, t.length ≤ 19) ∧ ((G n k x l b).b = false → (G n k x l b).t.wf)
  | 0, k, x, l, b, _, hl, _ => ⟨hl, fun h => by cases h⟩
  | n + 1, k, x, l, b, hk9, hl, hx => by
    have nx : ∀ {s : List Tok} {l : List Tok} {o : Tok} {r : List Tok}, next s l = some (o, r) → (∀ t ∈ l, t.length ≤ 19) → (∀ t ∈ r, t.length ≤ 19) := fun h hl t ht => hl t (by rw [(next_le h).1]; exact List.mem_cons_of_mem _ ht)
    have mono : ∀ (n k : Nat) (x : T) (l : List Tok) (b : Bool), (G n k x l b).b = false → b = false := fun n k x l b h => by
      cases b
      · rfl
      · rw [G_bad] at h; cases h
    by_cases h2 : k = 2
    · subst h2; rw [G_2]
      have h1 := G_wf n 3 .bad l b (by decide) hl (fun h => absurd h (by decide))
      cases hq : next cmps (G n 3 .bad l b).r with
      | none => exact h1
      | some y =>
        obtain ⟨o, r⟩ := y
        have h3 := G_wf n 3 .bad r (G n 3 .bad l b).b (by decide) (nx hq h1.1) (fun h => absurd h (by decide))
        exact ⟨h3.1, fun h => ⟨cmps_all _ (next_le hq).2, h1.2 (mono _ _ _ _ _ h), h3.2 h⟩⟩
    by_cases h6 : k = 6
    · subst h6; rw [G_6]
      cases hq : next uns l with
      | none => exact G_wf n 7 .bad l b (by decide) hl (fun h => absurd h (by decide))
      | some y =>
        obtain ⟨o, r⟩ := y
        have h3 := G_wf n 6 .bad r b (by decide) (nx hq hl) (fun h => absurd h (by decide))
        exact ⟨h3.1, fun h => ⟨.inl (next_le hq).2, h3.2 h⟩⟩
    by_cases h7 : k = 7
    · subst h7; rw [G_7]
      have h1 := G_wf n 8 .bad l b (by decide) hl (fun h => absurd h (by decide))
      cases hq : next [[94]] (G n 8 .bad l b).r with
      | none => exact h1
      | some y =>
        obtain ⟨o, r⟩ := y
        have h3 := G_wf n 6 .bad r (G n 8 .bad l b).b (by decide) (nx hq h1.1) (fun h => absurd h (by decide))
        exact ⟨h3.1, fun h => ⟨by have := (next_le hq).2; simp at this; subst this; decide, h1.2 (mono _ _ _ _ _ h), h3.2 h⟩⟩
    by_cases h8 : k = 8
    · subst h8
      cases l with
      | nil => rw [G_8n]; exact ⟨hl, fun h => by cases h⟩
      | cons t l =>
        have hl' : ∀ t ∈ l, t.length ≤ 19 := fun u hu => hl u (List.mem_cons_of_mem _ hu)
        cases ht : isNum t
        · by_cases hp : t = [40]
          · subst hp; rw [G_8p]
            have h1 := G_wf n 0 .bad l b (by decide) hl' (fun h => absurd h (by decide))
            cases hq : next [[41]] (G n 0 .bad l b).r with
            | none => exact ⟨h1.1, fun h => by cases h⟩
            | some y =>
              obtain ⟨o, r⟩ := y
              exact ⟨nx hq h1.1, fun h => ⟨.inr rfl, h1.2 h⟩⟩
          · rw [G_8x _ _ _ _ _ ht hp]; exact ⟨hl, fun h => by cases h⟩
        · rw [G_8d _ _ _ _ _ ht]; exact ⟨hl', fun _ => hl t (by simp)⟩
    by_cases h : k < 10
    · rw [G_lv n k x l b h h2 h6 h7 h8]
      have kk : k + 1 ≠ 9 := by omega
      have kl : ¬ (10 ≤ k + 1) := by omega
      have h1 := G_wf n (k + 1) .bad l b kk hl (fun h' => absurd h' kl)
      have k9 : 10 + k ≠ 9 := by omega
      exact G_wf n (10 + k) _ _ _ k9 h1.1 (fun _ hb => h1.2 hb)
    · obtain ⟨j, rfl⟩ : ∃ j, k = 10 + j := ⟨k - 10, by omega⟩
      rw [G_lp]
      cases hq : next (ops j) l with
      | none => exact ⟨hl, fun h => hx (by omega) h⟩
      | some y =>
        obtain ⟨o, r⟩ := y
        have hr := nx hq hl
        have ho := (next_le hq).2
        have hj : j < 6 := by
          rcases Nat.lt_or_ge j 6 with h9 | h9
          · exact h9
          · unfold ops at ho; split at ho <;> first | omega | simp at ho
        have k9 : j + 1 ≠ 9 := by omega
        have kl : ¬ (10 ≤ j + 1) := by omega
        have h1 := G_wf n (j + 1) .bad r b k9 hr (fun h' => absurd h' kl)
        exact G_wf n (10 + j) _ _ _ (show 10 + j ≠ 9 by omega) h1.1 (fun _ hb => ⟨ops_all j _ ho, hx (by omega) (mono _ _ _ _ _ hb), h1.2 hb⟩)
theorem okB_pos {n d : Int} (h : okB n d = true) : d ≠ 0 := by have := (okB_iff.1 h).d1; omega
theorem and2 {a b : Bool} (h : (a && b) = true) : a = true ∧ b = true := by cases a <;> cases b <;> simp_all
theorem op_ok {c : Bool} {n d : Int} (hd : c = true → d ≠ 0) (h : (if c then fit n d else (⟨0, 0, 7⟩ : R3)).e = 0) : Ok (if c then fit n d else (⟨0, 0, 7⟩ : R3)).n (if c then fit n d else (⟨0, 0, 7⟩ : R3)).d := by
  cases c
  · simp at h
  · exact (fit_ok (hd rfl) h).1
theorem add_ok {a p b q : Int} (h : (add a p b q).e = 0) : Ok (add a p b q).n (add a p b q).d := op_ok (fun h => Int.mul_ne_zero (okB_pos (and2 h).1) (okB_pos (and2 h).2)) h
theorem sub_ok {a p b q : Int} (h : (sub a p b q).e = 0) : Ok (sub a p b q).n (sub a p b q).d := op_ok (fun h => Int.mul_ne_zero (okB_pos (and2 h).1) (okB_pos (and2 h).2)) h
theorem mul_ok {a p b q : Int} (h : (mul a p b q).e = 0) : Ok (mul a p b q).n (mul a p b q).d := op_ok (fun h => Int.mul_ne_zero (okB_pos (and2 h).1) (okB_pos (and2 h).2)) h
theorem div_ok {a p b q : Int} (h : (div a p b q).e = 0) : Ok (div a p b q).n (div a p b q).d := by
  unfold div at h ⊢
  cases hc : (okB a p && okB b q)
  · rw [hc] at h; simp at h
  · rw [hc] at h
    by_cases hb : b = 0
    · subst hb; simp at h
    · simp only [if_true, if_neg hb] at h ⊢
      exact (fit_ok (Int.mul_ne_zero (okB_pos (and2 hc).1) hb) h).1
theorem mod_ok {a p b q : Int} (h : (mod a p b q).e = 0) : Ok (mod a p b q).n (mod a p b q).d := by
  unfold mod at h ⊢
  cases hc : (okB a p && okB b q)
  · rw [hc] at h; simp at h
  · rw [hc] at h
    by_cases hb : b = 0
    · subst hb; simp at h
    · simp only [if_true, if_neg hb] at h ⊢
      exact (fit_ok (Int.mul_ne_zero (okB_pos (and2 hc).1) (okB_pos (and2 hc).2)) h).1
theorem pw_ne' (k : Nat) : pw k ≠ 0 := by
  unfold pw
  exact Int.ne_of_gt (Int.pow_pos (by decide))
theorem rndF_ok {a c : R3} (h : (rndF a c).e = 0) : Ok (rndF a c).n (rndF a c).d := by
  unfold rndF rnd at h ⊢
  by_cases hc : c.d = 1
  · simp only [if_pos hc] at h ⊢
    cases hk : okB a.n a.d
    · rw [hk] at h; simp at h
    · rw [hk] at h
      by_cases hq : 0 ≤ c.n ∧ c.n ≤ 9
      · simp only [if_true, if_pos hq] at h ⊢
        exact (fit_ok (pw_ne' _) h).1
      · simp only [if_true, if_neg hq] at h; cases h
  · simp only [if_neg hc] at h; cases h
theorem ok_one : Ok 1 1 := ⟨by decide, by decide, by decide, by decide, by decide⟩
theorem ok_zero : Ok 0 1 := ⟨by decide, by decide, by decide, by decide, by decide⟩
theorem tr_ok (b : Bool) : Ok (tr b).n (tr b).d := by cases b; exact ok_zero; exact ok_one
theorem pwr_ok (a : R3) : ∀ k, (pwr a k).e = 0 → Ok (pwr a k).n (pwr a k).d
  | 0, _ => ok_one
  | k + 1, h => by
    unfold pwr at h ⊢
    by_cases hk : (pwr a k).e = 0
    · simp only [if_pos hk] at h ⊢; exact mul_ok h
    · simp only [if_neg hk] at h; exact absurd h hk
theorem pwF_ok {a c : R3} (h : (pwF a c).e = 0) : Ok (pwF a c).n (pwF a c).d := by
  unfold pwF at h ⊢
  by_cases hc : c.d = 1 ∧ 0 ≤ c.n ∧ c.n ≤ 30
  · simp only [if_pos hc] at h ⊢; exact pwr_ok _ _ h
  · simp only [if_neg hc] at h; cases h
theorem pbody_ok {g : Bool} {l : List UInt8} (h : (pbody g l).e = 0) : Ok (pbody g l).n (pbody g l).d := by
  unfold pbody at h ⊢
  split
  · rename_i hc; rw [if_pos hc] at h; exact (fit_ok (pw_ne' _) h).1
  · rename_i hc; rw [if_neg hc] at h; cases h
theorem parse_ok {l : List UInt8} (h : (parse l).e = 0) : Ok (parse l).n (parse l).d := by
  unfold parse at h ⊢
  split
  · rename_i hc; rw [if_pos hc] at h; exact pbody_ok h
  · rename_i hc; rw [if_neg hc] at h
    split
    · rename_i hc2; rw [if_pos hc2] at h; exact pbody_ok h
    · rename_i hc2; rw [if_neg hc2] at h; exact pbody_ok h
theorem flr_ok {n d : Int} (h : Ok n d) : Ok (flr n d) 1 := by
  have e : flr n d = Int.fdiv n d := by unfold flr; rw [okB_iff.2 h]; rfl
  have h1 := h.d1; have h2 := h.n1; have h3 := h.n2
  have e2 : Int.fdiv n d = n / d := Int.fdiv_eq_ediv_of_nonneg n (by omega)
  rw [e, e2]
  have h4 : -1000000000 ≤ n / d := (Int.le_ediv_iff_mul_le (by omega)).2 (by omega)
  have h5 : n / d ≤ 1000000000 := by
    have := Int.ediv_le_ediv (c := d) (by omega) h3
    refine Int.le_trans this ?_
    exact Int.ediv_le_self _ (by decide)
  exact ⟨by decide, by decide, h4, h5, by simp⟩
theorem ap1_ok {o : Tok} {a : R3} (ha : Ok a.n a.d) (h : (ap1 o a).e = 0) : Ok (ap1 o a).n (ap1 o a).d := by
  unfold ap1 at h ⊢
  split
  · rename_i hc; rw [if_pos hc] at h; exact sub_ok h
  · split
    · exact tr_ok _
    · split
      · exact flr_ok ha
      · exact ha
theorem ap2_ok {o : Tok} {a c : R3} (h : (ap2 o a c).e = 0) : Ok (ap2 o a c).n (ap2 o a c).d := by
  unfold ap2 at h ⊢
  split
  · rename_i q; rw [if_pos q] at h; exact add_ok h
  rename_i q; rw [if_neg q] at h; split
  · rename_i q; rw [if_pos q] at h; exact sub_ok h
  rename_i q; rw [if_neg q] at h; split
  · rename_i q; rw [if_pos q] at h; exact mul_ok h
  rename_i q; rw [if_neg q] at h; split
  · rename_i q; rw [if_pos q] at h; exact div_ok h
  rename_i q; rw [if_neg q] at h; split
  · rename_i q; rw [if_pos q] at h; exact mod_ok h
  rename_i q; rw [if_neg q] at h; split
  · rename_i q; rw [if_pos q] at h; exact rndF_ok h
  rename_i q; rw [if_neg q] at h; split
  · rename_i q; rw [if_pos q] at h; exact pwF_ok h
  split
  · exact tr_ok _
  split
  · exact tr_ok _
  exact tr_ok _
theorem val_ok : ∀ (x : T), (val x).e = 0 → Ok (val x).n (val x).d
  | .bad, h => by cases h
  | .num s, h => parse_ok h
  | .un o x, h => by
    unfold val at h ⊢
    by_cases hx : (val x).e = 0
    · simp only [if_pos hx] at h ⊢; exact ap1_ok (val_ok x hx) h
    · simp only [if_neg hx] at h; exact absurd h hx
  | .bin o x y, h => by
    unfold val at h ⊢
    by_cases hx : (val x).e = 0
    · by_cases hy : (val y).e = 0
      · simp only [if_pos hx, if_pos hy] at h ⊢; exact ap2_ok h
      · simp only [if_pos hx, if_neg hy] at h; exact absurd h hy
    · simp only [if_neg hx] at h; exact absurd h hx
end Go.Proofs.YtfocokjihbenmaaDoor.Fo
