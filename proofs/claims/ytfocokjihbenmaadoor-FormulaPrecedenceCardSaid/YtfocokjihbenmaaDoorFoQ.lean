/-
  The reference's reading of the grammar, which stops at the first fault, beside the program's, which goes on: the same tree, or a fault in both.
-/
import Derived.Test.YtfocokjihbenmaaDoorFoPure
namespace Go.Proofs.YtfocokjihbenmaaDoor.Fo

def nextB (these : List Tok) (l : List Tok) (b : Bool) : Option (Tok × List Tok) := if b then none else next these l
def Q : Nat → Nat → T → List Tok → Bool → Res
  | 0, _, _, l, _ => ⟨.bad, l, true⟩
  | n + 1, 2, _, l, b =>
    let x := Q n 3 .bad l b
    match nextB cmps x.r x.b with
    | some (o, r) => let y := Q n 3 .bad r x.b; ⟨.bin o x.t y.t, y.r, y.b⟩
    | none => x
  | n + 1, 6, _, l, b =>
    match nextB uns l b with
    | some (o, r) => let x := Q n 6 .bad r b; ⟨.un o x.t, x.r, x.b⟩
    | none => Q n 7 .bad l b
  | n + 1, 7, _, l, b =>
    let x := Q n 8 .bad l b
    match nextB [[94]] x.r x.b with
    | some (o, r) => let y := Q n 6 .bad r x.b; ⟨.bin o x.t y.t, y.r, y.b⟩
    | none => x
  | n + 1, 8, _, l, b =>
    if b then ⟨.bad, l, true⟩ else
    match l with
    | [] => ⟨.bad, [], true⟩
    | t :: l' =>
      if t = [40] then
        let x := Q n 0 .bad l' false
        match nextB [[41]] x.r x.b with
        | some (_, r) => ⟨.un [40] x.t, r, false⟩
        | none => ⟨x.t, x.r, true⟩
      else ⟨.num t, l', !isNum t⟩
  | n + 1, k, x, l, b =>
    if k < 10 then let y := Q n (k + 1) .bad l b; Q n (10 + k) y.t y.r y.b else
    match nextB (ops (k - 10)) l b with
    | some (o, r) => let y := Q n (k - 9) .bad r b; Q n k (.bin o x y.t) y.r y.b
    | none => ⟨x, l, b⟩
theorem Q_2 (n : Nat) (x : T) (l : List Tok) (b : Bool) : Q (n + 1) 2 x l b = (match nextB cmps (Q n 3 .bad l b).r (Q n 3 .bad l b).b with
    | some (o, r) => ⟨.bin o (Q n 3 .bad l b).t (Q n 3 .bad r (Q n 3 .bad l b).b).t, (Q n 3 .bad r (Q n 3 .bad l b).b).r, (Q n 3 .bad r (Q n 3 .bad l b).b).b⟩
    | none => Q n 3 .bad l b) := rfl
theorem Q_6 (n : Nat) (x : T) (l : List Tok) (b : Bool) : Q (n + 1) 6 x l b = (match nextB uns l b with
    | some (o, r) => ⟨.un o (Q n 6 .bad r b).t, (Q n 6 .bad r b).r, (Q n 6 .bad r b).b⟩
    | none => Q n 7 .bad l b) := rfl
theorem Q_7 (n : Nat) (x : T) (l : List Tok) (b : Bool) : Q (n + 1) 7 x l b = (match nextB [[94]] (Q n 8 .bad l b).r (Q n 8 .bad l b).b with
    | some (o, r) => ⟨.bin o (Q n 8 .bad l b).t (Q n 6 .bad r (Q n 8 .bad l b).b).t, (Q n 6 .bad r (Q n 8 .bad l b).b).r, (Q n 6 .bad r (Q n 8 .bad l b).b).b⟩
    | none => Q n 8 .bad l b) := rfl
theorem Q_8b (n : Nat) (x : T) (l : List Tok) : Q (n + 1) 8 x l true = ⟨.bad, l, true⟩ := rfl
theorem Q_8n (n : Nat) (x : T) : Q (n + 1) 8 x [] false = ⟨.bad, [], true⟩ := rfl
theorem Q_8p (n : Nat) (x : T) (l : List Tok) : Q (n + 1) 8 x ([40] :: l) false = (match nextB [[41]] (Q n 0 .bad l false).r (Q n 0 .bad l false).b with
    | some (_, r) => ⟨.un [40] (Q n 0 .bad l false).t, r, false⟩
    | none => ⟨(Q n 0 .bad l false).t, (Q n 0 .bad l false).r, true⟩) := rfl
theorem Q_8x (n : Nat) (x : T) (t : Tok) (l : List Tok) (h2 : t ≠ [40]) : Q (n + 1) 8 x (t :: l) false = ⟨.num t, l, !isNum t⟩ := by
  show (if t = [40] then _ else _) = _; rw [if_neg h2]
theorem Q_lv (n k : Nat) (x : T) (l : List Tok) (b : Bool) (h : k < 10) (h2 : k ≠ 2) (h6 : k ≠ 6) (h7 : k ≠ 7) (h8 : k ≠ 8) :
    Q (n + 1) k x l b = Q n (10 + k) (Q n (k + 1) .bad l b).t (Q n (k + 1) .bad l b).r (Q n (k + 1) .bad l b).b := by
  match k, h, h2, h6, h7, h8 with
  | 0, _, _, _, _, _ => rfl
  | 1, _, _, _, _, _ => rfl
  | 3, _, _, _, _, _ => rfl
  | 4, _, _, _, _, _ => rfl
  | 5, _, _, _, _, _ => rfl
  | 9, _, _, _, _, _ => rfl
theorem Q_lp (n k : Nat) (x : T) (l : List Tok) (b : Bool) : Q (n + 1) (10 + k) x l b = (match nextB (ops k) l b with
    | some (o, r) => Q n (10 + k) (.bin o x (Q n (k + 1) .bad r b).t) (Q n (k + 1) .bad r b).r (Q n (k + 1) .bad r b).b
    | none => ⟨x, l, b⟩) := by
  rw [show 10 + k = k + 9 + 1 by omega]
  show (if k + 9 + 1 < 10 then _ else _) = _
  rw [if_neg (by omega), show k + 9 + 1 - 10 = k by omega, show k + 9 + 1 - 9 = k + 1 by omega]
theorem nextB_true (s : List Tok) (l : List Tok) : nextB s l true = none := rfl
theorem nextB_false (s : List Tok) (l : List Tok) : nextB s l false = next s l := rfl
theorem Q_bad : ∀ (n k : Nat) (x : T) (l : List Tok), (Q n k x l true).b = true
  | 0, _, _, _ => rfl
  | n + 1, k, x, l => by
    by_cases h2 : k = 2
    · subst h2; rw [Q_2, Q_bad n 3 .bad l, nextB_true]; exact Q_bad n 3 .bad l
    by_cases h6 : k = 6
    · subst h6; rw [Q_6, nextB_true]; exact Q_bad n 7 .bad l
    by_cases h7 : k = 7
    · subst h7; rw [Q_7, Q_bad n 8 .bad l, nextB_true]; exact Q_bad n 8 .bad l
    by_cases h8 : k = 8
    · subst h8; rw [Q_8b]
    by_cases h : k < 10
    · rw [Q_lv n k x l true h h2 h6 h7 h8, Q_bad n (k + 1) .bad l]; exact Q_bad n (10 + k) _ _
    · obtain ⟨j, rfl⟩ : ∃ j, k = 10 + j := ⟨k - 10, by omega⟩
      rw [Q_lp, nextB_true]
theorem G_bad : ∀ (n k : Nat) (x : T) (l : List Tok), (G n k x l true).b = true
  | 0, _, _, _ => rfl
  | n + 1, k, x, l => by
    by_cases h2 : k = 2
    · subst h2; rw [G_2, G_bad n 3 .bad l]; split
      · exact G_bad n 3 .bad _
      · exact G_bad n 3 .bad l
    by_cases h6 : k = 6
    · subst h6; rw [G_6]; split
      · exact G_bad n 6 .bad _
      · exact G_bad n 7 .bad l
    by_cases h7 : k = 7
    · subst h7; rw [G_7, G_bad n 8 .bad l]; split
      · exact G_bad n 6 .bad _
      · exact G_bad n 8 .bad l
    by_cases h8 : k = 8
    · subst h8
      cases l with
      | nil => rfl
      | cons t l =>
        cases ht : isNum t
        · by_cases hp : t = [40]
          · subst hp; rw [G_8p]; split
            · exact G_bad n 0 .bad l
            · rfl
          · rw [G_8x _ _ _ _ _ ht hp]
        · rw [G_8d _ _ _ _ _ ht]
    by_cases h : k < 10
    · rw [G_lv n k x l true h h2 h6 h7 h8, G_bad n (k + 1) .bad l]; exact G_bad n (10 + k) _ _
    · obtain ⟨j, rfl⟩ : ∃ j, k = 10 + j := ⟨k - 10, by omega⟩
      rw [G_lp]; split
      · rw [G_bad n (j + 1) .bad]; exact G_bad n (10 + j) _ _
      · rfl
/-- The same tree, or a fault in both. -/
def Eqv (g q : Res) : Prop := (g.b = false ∧ q = g) ∨ (g.b = true ∧ q.b = true)
theorem Eqv.refl (g : Res) : Eqv g g := by cases h : g.b <;> simp [Eqv, h]
theorem GQ : ∀ (n k : Nat) (x : T) (l : List Tok), Eqv (G n k x l false) (Q n k x l false)
  | 0, _, _, _ => Eqv.refl _
  | n + 1, k, x, l => by
    by_cases h2 : k = 2
    · subst h2; rw [G_2, Q_2]
      rcases GQ n 3 .bad l with ⟨h1, h3⟩ | ⟨h1, h3⟩
      · rw [h3, h1, nextB_false]; rcases next cmps (G n 3 .bad l false).r with _ | ⟨o, r⟩
        · exact .inl ⟨h1, rfl⟩
        · rcases GQ n 3 .bad r with ⟨h4, h5⟩ | ⟨h4, h5⟩
          · exact .inl ⟨h4, by simp only [h5]⟩
          · exact .inr ⟨h4, h5⟩
      · rw [h1, h3, nextB_true]; split
        · exact .inr ⟨G_bad _ _ _ _, h3⟩
        · exact .inr ⟨h1, h3⟩
    by_cases h6 : k = 6
    · subst h6; rw [G_6, Q_6, nextB_false]; rcases next uns l with _ | ⟨o, r⟩
      · exact GQ n 7 .bad l
      · rcases GQ n 6 .bad r with ⟨h4, h5⟩ | ⟨h4, h5⟩
        · exact .inl ⟨h4, by simp only [h5]⟩
        · exact .inr ⟨h4, h5⟩
    by_cases h7 : k = 7
    · subst h7; rw [G_7, Q_7]
      rcases GQ n 8 .bad l with ⟨h1, h3⟩ | ⟨h1, h3⟩
      · rw [h3, h1, nextB_false]; rcases next [[94]] (G n 8 .bad l false).r with _ | ⟨o, r⟩
        · exact .inl ⟨h1, rfl⟩
        · rcases GQ n 6 .bad r with ⟨h4, h5⟩ | ⟨h4, h5⟩
          · exact .inl ⟨h4, by simp only [h5]⟩
          · exact .inr ⟨h4, h5⟩
      · rw [h1, h3, nextB_true]; split
        · exact .inr ⟨G_bad _ _ _ _, h3⟩
        · exact .inr ⟨h1, h3⟩
    by_cases h8 : k = 8
    · subst h8
      cases l with
      | nil => exact Eqv.refl _
      | cons t l =>
        by_cases hp : t = [40]
        · subst hp; rw [G_8p, Q_8p]
          rcases GQ n 0 .bad l with ⟨h1, h3⟩ | ⟨h1, h3⟩
          · rw [h3, h1, nextB_false]; rcases next [[41]] (G n 0 .bad l false).r with _ | ⟨o, r⟩
            · exact .inr ⟨rfl, rfl⟩
            · exact .inl ⟨rfl, rfl⟩
          · rw [h1, h3, nextB_true]; rcases next [[41]] (G n 0 .bad l false).r with _ | ⟨o, r⟩ <;> exact .inr ⟨rfl, rfl⟩
        · rw [Q_8x _ _ _ _ hp]
          cases ht : isNum t
          · rw [G_8x _ _ _ _ _ ht hp]; exact .inr ⟨rfl, rfl⟩
          · rw [G_8d _ _ _ _ _ ht]; exact Eqv.refl _
    by_cases h : k < 10
    · rw [G_lv n k x l false h h2 h6 h7 h8, Q_lv n k x l false h h2 h6 h7 h8]
      rcases GQ n (k + 1) .bad l with ⟨h1, h3⟩ | ⟨h1, h3⟩
      · rw [h3, h1]; exact GQ n (10 + k) _ _
      · rw [h1, h3]; exact .inr ⟨G_bad _ _ _ _, Q_bad _ _ _ _⟩
    · obtain ⟨j, rfl⟩ : ∃ j, k = 10 + j := ⟨k - 10, by omega⟩
      rw [G_lp, Q_lp, nextB_false]; rcases next (ops j) l with _ | ⟨o, r⟩
      · exact Eqv.refl _
      · rcases GQ n (j + 1) .bad r with ⟨h1, h3⟩ | ⟨h1, h3⟩
        · simp only [h3, h1]; exact GQ n (10 + j) _ _
        · simp only [h1, h3]; exact .inr ⟨G_bad _ _ _ _, Q_bad _ _ _ _⟩
end Go.Proofs.YtfocokjihbenmaaDoor.Fo
