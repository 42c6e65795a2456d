/-
  Formulas over lists of bytes: tokens, the tree, its levels and its value.
  The reference's reading of the grammar, which stops at the first fault, beside the program's, which goes on: the same tree, or a fault in both.
-/
import Derived.Test.YtfocokjihbenmaaGreatDoorNuT
import Derived.Lib.SlTrimSet
namespace Go.Proofs.YtfocokjihbenmaaGreatDoor.Fo
open Go.Proofs.YtfocokjihbenmaaGreatDoor.Nu

abbrev Tok := List UInt8
def isL (c : UInt8) : Bool := decide (97 ≤ c.toNat ∧ c.toNat ≤ 122)
def bls : List UInt8 := [9, 10, 32]
def trimB (l : List UInt8) : List UInt8 := Lib.trimLeftS l bls
def numLen (l : List UInt8) : Nat :=
  let w := (l.takeWhile isD).length
  let p := if (l.drop w).head? = some 46 then ((l.drop (w + 1)).takeWhile isD).length else 0
  if 9 < w ∨ 9 < p then 0 else if p = 0 then w else w + 1 + p
def wordsL : List Tok := [[109, 111, 100], [97, 110, 100], [111, 114], [110, 111, 116], [114, 111, 117, 110, 100], [102, 108, 111, 111, 114]]
def wordLen (l : List UInt8) : Nat := let n := (l.takeWhile isL).length; if l.take n ∈ wordsL then n else 0
def twos : List Tok := [[60, 61], [62, 61], [60, 62]]
def ones : List UInt8 := [43, 45, 42, 47, 94, 40, 41, 61, 60, 62]
def signLen (l : List UInt8) : Nat := if l.take 2 ∈ twos then 2 else match l with
  | [] => 0
  | c :: _ => if c ∈ ones then 1 else 0
def tokLen : List UInt8 → Nat
  | [] => 0
  | c :: l => if isD c then numLen (c :: l) else if isL c then wordLen (c :: l) else signLen (c :: l)
def toksF : Nat → List UInt8 → Option (List Tok)
  | 0, _ => none
  | n + 1, l => if l = [] then some [] else if tokLen l = 0 then none else (toksF n (trimB (l.drop (tokLen l)))).map (l.take (tokLen l) :: ·)
def toks (l : List UInt8) : Option (List Tok) := toksF (l.length + 1) l
def splitL (l : List UInt8) : Option (List Tok) := toks (trimB l)

theorem trimB_le (l : List UInt8) : (trimB l).length ≤ l.length := by
  unfold trimB Lib.trimLeftS; exact (List.dropWhile_sublist _).length_le
theorem toksF_eq : ∀ (n m : Nat) (l : List UInt8), l.length < n → l.length < m → toksF n l = toksF m l
  | 0, _, _, h, _ => absurd h (Nat.not_lt_zero _)
  | _ + 1, 0, _, _, h => absurd h (Nat.not_lt_zero _)
  | n + 1, m + 1, l, h1, h2 => by
    unfold toksF
    split
    · rfl
    · rename_i h0
      split
      · rfl
      · rename_i ht
        have hl : 0 < l.length := (List.length_pos_iff.2 h0)
        have := trimB_le (l.drop (tokLen l))
        rw [List.length_drop] at this
        rw [toksF_eq n m _ (by omega) (by omega)]
theorem toks_nil : toks [] = some [] := rfl
theorem toks_none {l : List UInt8} (h : l ≠ []) (h2 : tokLen l = 0) : toks l = none := by
  unfold toks toksF; rw [if_neg h, if_pos h2]
theorem toks_cons {l : List UInt8} (h : l ≠ []) (h2 : tokLen l ≠ 0) : toks l = (toks (trimB (l.drop (tokLen l)))).map (l.take (tokLen l) :: ·) := by
  unfold toks
  rw [toksF, if_neg h, if_neg h2]
  have hl : 0 < l.length := (List.length_pos_iff.2 h)
  have := trimB_le (l.drop (tokLen l))
  rw [List.length_drop] at this
  rw [toksF_eq l.length _ _ (by omega) (Nat.lt_succ_self _)]
theorem takeWhile_le (p : UInt8 → Bool) (l : List UInt8) : (l.takeWhile p).length ≤ l.length := (List.takeWhile_sublist _).length_le
theorem numLen_le (l : List UInt8) : numLen l ≤ l.length ∧ numLen l ≤ 19 := by
  unfold numLen
  have h1 := takeWhile_le isD l
  by_cases h4 : (l.drop (l.takeWhile isD).length).head? = some 46
  · have h5 := takeWhile_le isD (l.drop ((l.takeWhile isD).length + 1))
    rw [List.length_drop] at h5
    have h6 : (l.drop (l.takeWhile isD).length) ≠ [] := fun e => by rw [e] at h4; simp at h4
    have h7 := List.length_pos_iff.2 h6
    rw [List.length_drop] at h7
    simp only [if_pos h4]
    repeat' split
    all_goals omega
  · simp only [if_neg h4, if_true]
    split <;> omega
theorem wordLen_le (l : List UInt8) : wordLen l ≤ l.length ∧ wordLen l ≤ 19 := by
  unfold wordLen
  have h1 := takeWhile_le isL l
  simp only
  split
  · rename_i h
    have : ∀ t ∈ wordsL, t.length ≤ 19 := by decide
    have := this _ h
    rw [List.length_take] at this
    omega
  · omega
theorem signLen_le (l : List UInt8) : signLen l ≤ l.length ∧ signLen l ≤ 19 := by
  unfold signLen
  split
  · rename_i h
    have : ∀ t ∈ twos, t.length = 2 := by decide
    have := this _ h
    rw [List.length_take] at this
    omega
  · split
    · simp
    · split
      · simp
      · simp
theorem tokLen_le (l : List UInt8) : tokLen l ≤ l.length ∧ tokLen l ≤ 19 := by
  unfold tokLen
  split
  · simp
  · split
    · exact numLen_le _
    · split
      · exact wordLen_le _
      · exact signLen_le _

/-- The tokens of a text are neither empty nor long, and no more than its bytes. -/
theorem toks_all : ∀ (n : Nat) (l : List UInt8), l.length ≤ n → ∀ t, toks l = some t → t.length ≤ l.length ∧ ∀ x ∈ t, 0 < x.length ∧ x.length ≤ 19
  | n, [], _, t, ht => by cases ht; simp
  | 0, c :: l, h, t, ht => absurd h (by simp)
  | n + 1, c :: l, h, t, ht => by
    by_cases h0 : tokLen (c :: l) = 0
    · rw [toks_none (by simp) h0] at ht; cases ht
    · rw [toks_cons (by simp) h0] at ht
      obtain ⟨u, hu, rfl⟩ := Option.map_eq_some_iff.1 ht
      have h1 := trimB_le ((c :: l).drop (tokLen (c :: l)))
      have h2 := tokLen_le (c :: l)
      rw [List.length_drop] at h1
      simp only [List.length_cons] at h1 h2 h
      obtain ⟨h3, h4⟩ := toks_all n _ (by omega) u hu
      refine ⟨by simp only [List.length_cons]; omega, fun x hx => ?_⟩
      rcases List.mem_cons.1 hx with rfl | hx
      · rw [List.length_take, List.length_cons]; omega
      · exact h4 x hx

/-- The tree of a formula. -/
inductive T
  | bad
  | num (s : Tok)
  | un (o : Tok) (x : T)
  | bin (o : Tok) (x y : T)
def T.lv : T → Nat
  | .bad => 0
  | .num _ => 1
  | .un _ x => x.lv + 1
  | .bin _ x y => max x.lv y.lv + 1
def T.sz : T → Nat
  | .bad => 0
  | .num _ => 1
  | .un _ x => x.sz + 1
  | .bin _ x y => x.sz + y.sz + 1
theorem T.lv_sz : ∀ x : T, x.lv ≤ x.sz
  | .bad => Nat.le_refl _
  | .num _ => Nat.le_refl _
  | .un _ x => by have := x.lv_sz; simp only [T.lv, T.sz]; omega
  | .bin _ x y => by have := x.lv_sz; have := y.lv_sz; simp only [T.lv, T.sz]; omega

structure Res where
  t : T
  r : List Tok
  b : Bool
def ops : Nat → List Tok
  | 0 => [[111, 114]]
  | 1 => [[97, 110, 100]]
  | 3 => [[43], [45]]
  | 4 => [[42], [47], [109, 111, 100]]
  | 5 => [[114, 111, 117, 110, 100]]
  | _ => []
def cmps : List Tok := [[61], [60, 62], [60], [62], [60, 61], [62, 61]]
def uns : List Tok := [[45], [43], [110, 111, 116], [102, 108, 111, 111, 114]]
/-- A token, and what is behind it, if the next token is one of these. -/
def next (these : List Tok) : List Tok → Option (Tok × List Tok)
  | [] => none
  | o :: l => if o ∈ these then some (o, l) else none
theorem next_le {s : List Tok} {l : List Tok} {o : Tok} {r : List Tok} (h : next s l = some (o, r)) : l = o :: r ∧ o ∈ s := by
  cases l with
  | nil => cases h
  | cons a l =>
    change (if a ∈ s then some (a, l) else none) = _ at h
    by_cases ha : a ∈ s
    · rw [if_pos ha] at h; cases h; exact ⟨rfl, ha⟩
    · rw [if_neg ha] at h; cases h
/-- The rules of the grammar: k is the rule (0 formula, 1 conjunction, 2 comparison, 3 sum, 4 term, 5 rounded, 6 unary, 7 power, 8 primary), 10 + k is what a chain does behind its first operand x. -/
def G : Nat → Nat → T → List Tok → Bool → Res
  | 0, _, _, l, _ => ⟨.bad, l, true⟩
  | n + 1, 2, _, l, b =>
    let x := G n 3 .bad l b
    match next cmps x.r with
    | some (o, r) => let y := G n 3 .bad r x.b; ⟨.bin o x.t y.t, y.r, y.b⟩
    | none => x
  | n + 1, 6, _, l, b =>
    match next uns l with
    | some (o, r) => let x := G n 6 .bad r b; ⟨.un o x.t, x.r, x.b⟩
    | none => G n 7 .bad l b
  | n + 1, 7, _, l, b =>
    let x := G n 8 .bad l b
    match next [[94]] x.r with
    | some (o, r) => let y := G n 6 .bad r x.b; ⟨.bin o x.t y.t, y.r, y.b⟩
    | none => x
  | n + 1, 8, _, l, b =>
    match l with
    | [] => ⟨.bad, [], true⟩
    | t :: l' =>
      if (t.head?.map isD).getD false then ⟨.num t, l', b⟩ else
      if t = [40] then
        let x := G n 0 .bad l' b
        match next [[41]] x.r with
        | some (_, r) => ⟨.un [40] x.t, r, x.b⟩
        | none => ⟨.un [40] x.t, x.r, true⟩
      else ⟨.bad, t :: l', true⟩
  | n + 1, k, x, l, b =>
    if k < 10 then let y := G n (k + 1) .bad l b; G n (10 + k) y.t y.r y.b else
    match next (ops (k - 10)) l with
    | some (o, r) => let y := G n (k - 9) .bad r b; G n k (.bin o x y.t) y.r y.b
    | none => ⟨x, l, b⟩
theorem G_2 (n : Nat) (x : T) (l : List Tok) (b : Bool) : G (n + 1) 2 x l b = (match next cmps (G n 3 .bad l b).r with
    | some (o, r) => ⟨.bin o (G n 3 .bad l b).t (G n 3 .bad r (G n 3 .bad l b).b).t, (G n 3 .bad r (G n 3 .bad l b).b).r, (G n 3 .bad r (G n 3 .bad l b).b).b⟩
    | none => G n 3 .bad l b) := rfl
theorem G_6 (n : Nat) (x : T) (l : List Tok) (b : Bool) : G (n + 1) 6 x l b = (match next uns l with
    | some (o, r) => ⟨.un o (G n 6 .bad r b).t, (G n 6 .bad r b).r, (G n 6 .bad r b).b⟩
    | none => G n 7 .bad l b) := rfl
theorem G_7 (n : Nat) (x : T) (l : List Tok) (b : Bool) : G (n + 1) 7 x l b = (match next [[94]] (G n 8 .bad l b).r with
    | some (o, r) => ⟨.bin o (G n 8 .bad l b).t (G n 6 .bad r (G n 8 .bad l b).b).t, (G n 6 .bad r (G n 8 .bad l b).b).r, (G n 6 .bad r (G n 8 .bad l b).b).b⟩
    | none => G n 8 .bad l b) := rfl
def isNum (t : Tok) : Bool := (t.head?.map isD).getD false
theorem G_8n (n : Nat) (x : T) (b : Bool) : G (n + 1) 8 x [] b = ⟨.bad, [], true⟩ := rfl
theorem G_8d (n : Nat) (x : T) (t : Tok) (l : List Tok) (b : Bool) (h : isNum t = true) : G (n + 1) 8 x (t :: l) b = ⟨.num t, l, b⟩ := by
  unfold isNum at h; show ite _ _ _ = _; rw [if_pos h]
theorem G_8p (n : Nat) (x : T) (l : List Tok) (b : Bool) : G (n + 1) 8 x ([40] :: l) b = (match next [[41]] (G n 0 .bad l b).r with
    | some (_, r) => ⟨.un [40] (G n 0 .bad l b).t, r, (G n 0 .bad l b).b⟩
    | none => ⟨.un [40] (G n 0 .bad l b).t, (G n 0 .bad l b).r, true⟩) := rfl
theorem G_8x (n : Nat) (x : T) (t : Tok) (l : List Tok) (b : Bool) (h : isNum t = false) (h2 : t ≠ [40]) : G (n + 1) 8 x (t :: l) b = ⟨.bad, t :: l, true⟩ := by
  unfold isNum at h; show ite _ _ _ = _; rw [if_neg (by rw [h]; decide), if_neg h2]
theorem G_lv (n k : Nat) (x : T) (l : List Tok) (b : Bool) (h : k < 10) (h2 : k ≠ 2) (h6 : k ≠ 6) (h7 : k ≠ 7) (h8 : k ≠ 8) :
    G (n + 1) k x l b = G n (10 + k) (G n (k + 1) .bad l b).t (G n (k + 1) .bad l b).r (G n (k + 1) .bad l b).b := by
  match k, h, h2, h6, h7, h8 with
  | 0, _, _, _, _, _ => rfl
  | 1, _, _, _, _, _ => rfl
  | 3, _, _, _, _, _ => rfl
  | 4, _, _, _, _, _ => rfl
  | 5, _, _, _, _, _ => rfl
  | 9, _, _, _, _, _ => rfl
theorem G_lp (n k : Nat) (x : T) (l : List Tok) (b : Bool) : G (n + 1) (10 + k) x l b = (match next (ops k) l with
    | some (o, r) => G n (10 + k) (.bin o x (G n (k + 1) .bad r b).t) (G n (k + 1) .bad r b).r (G n (k + 1) .bad r b).b
    | none => ⟨x, l, b⟩) := by
  rw [show 10 + k = k + 9 + 1 by omega]
  show (if k + 9 + 1 < 10 then _ else _) = _
  rw [if_neg (by omega), show k + 9 + 1 - 10 = k by omega, show k + 9 + 1 - 9 = k + 1 by omega]
theorem G_sz : ∀ (n k : Nat) (x : T) (l : List Tok) (b : Bool), (G n k x l b).t.sz + (G n k x l b).r.length ≤ x.sz + l.length
  | 0, k, x, l, b => by simp only [G, T.sz]; omega
  | n + 1, k, x, l, b => by
    have nx : ∀ {s : List Tok} {l : List Tok} {o : Tok} {r : List Tok}, next s l = some (o, r) → l.length = r.length + 1 := fun h => by rw [(next_le h).1]; rfl
    by_cases h2 : k = 2
    · subst h2; rw [G_2]
      have h1 := G_sz n 3 .bad l b
      split
      · rename_i o r h
        have h3 := G_sz n 3 .bad r (G n 3 .bad l b).b
        have h4 := nx h
        simp only [T.sz] at *; omega
      · simp only [T.sz] at *; omega
    by_cases h6 : k = 6
    · subst h6; rw [G_6]
      split
      · rename_i o r h
        have h3 := G_sz n 6 .bad r b
        have h4 := nx h
        simp only [T.sz] at *; omega
      · have h1 := G_sz n 7 .bad l b
        simp only [T.sz] at *; omega
    by_cases h7 : k = 7
    · subst h7; rw [G_7]
      have h1 := G_sz n 8 .bad l b
      split
      · rename_i o r h
        have h3 := G_sz n 6 .bad r (G n 8 .bad l b).b
        have h4 := nx h
        simp only [T.sz] at *; omega
      · simp only [T.sz] at *; omega
    by_cases h8 : k = 8
    · subst h8
      cases l with
      | nil => rw [G_8n]; simp only [T.sz, List.length_nil]; omega
      | cons t l =>
        cases ht : isNum t
        · by_cases hp : t = [40]
          · subst hp; rw [G_8p]
            have h1 := G_sz n 0 .bad l b
            split
            · rename_i o r h
              have h4 := nx h
              simp only [T.sz, List.length_cons] at *; omega
            · simp only [T.sz, List.length_cons] at *; omega
          · rw [G_8x _ _ _ _ _ ht hp]; simp only [T.sz]; omega
        · rw [G_8d _ _ _ _ _ ht]; simp only [T.sz, List.length_cons]; omega
    by_cases h : k < 10
    · rw [G_lv n k x l b h h2 h6 h7 h8]
      have h1 := G_sz n (k + 1) .bad l b
      have h3 := G_sz n (10 + k) (G n (k + 1) .bad l b).t (G n (k + 1) .bad l b).r (G n (k + 1) .bad l b).b
      simp only [T.sz] at *; omega
    · obtain ⟨j, rfl⟩ : ∃ j, k = 10 + j := ⟨k - 10, by omega⟩
      rw [G_lp]
      split
      · rename_i o r h
        have h4 := nx h
        have h1 := G_sz n (j + 1) .bad r b
        have h3 := G_sz n (10 + j) (.bin o x (G n (j + 1) .bad r b).t) (G n (j + 1) .bad r b).r (G n (j + 1) .bad r b).b
        simp only [T.sz] at *; omega
      · simp only; omega
end Go.Proofs.YtfocokjihbenmaaGreatDoor.Fo

namespace Go.Proofs.YtfocokjihbenmaaGreatDoor.Fo

def nextB (these : List Tok) (l : List Tok) (b : Bool) : Option (Tok × List Tok) := if b then none else next these l
def Q : Nat → Nat → T → List Tok → Bool → Res
  | 0, _, _, l, _ => ⟨.bad, l, true⟩
  | n + 1, 2, _, l, b =>
    let x := Q n 3 .bad l b
    match nextB cmps x.r x.b with
    | some (o, r) => let y := Q n 3 .bad r x.b; ⟨.bin o x.t y.t, y.r, y.b⟩
    | none => x
  | n + 1, 6, _, l, b =>
    match nextB uns l b with
    | some (o, r) => let x := Q n 6 .bad r b; ⟨.un o x.t, x.r, x.b⟩
    | none => Q n 7 .bad l b
  | n + 1, 7, _, l, b =>
    let x := Q n 8 .bad l b
    match nextB [[94]] x.r x.b with
    | some (o, r) => let y := Q n 6 .bad r x.b; ⟨.bin o x.t y.t, y.r, y.b⟩
    | none => x
  | n + 1, 8, _, l, b =>
    if b then ⟨.bad, l, true⟩ else
    match l with
    | [] => ⟨.bad, [], true⟩
    | t :: l' =>
      if t = [40] then
        let x := Q n 0 .bad l' false
        match nextB [[41]] x.r x.b with
        | some (_, r) => ⟨.un [40] x.t, r, false⟩
        | none => ⟨x.t, x.r, true⟩
      else ⟨.num t, l', !isNum t⟩
  | n + 1, k, x, l, b =>
    if k < 10 then let y := Q n (k + 1) .bad l b; Q n (10 + k) y.t y.r y.b else
    match nextB (ops (k - 10)) l b with
    | some (o, r) => let y := Q n (k - 9) .bad r b; Q n k (.bin o x y.t) y.r y.b
    | none => ⟨x, l, b⟩
theorem Q_2 (n : Nat) (x : T) (l : List Tok) (b : Bool) : Q (n + 1) 2 x l b = (match nextB cmps (Q n 3 .bad l b).r (Q n 3 .bad l b).b with
    | some (o, r) => ⟨.bin o (Q n 3 .bad l b).t (Q n 3 .bad r (Q n 3 .bad l b).b).t, (Q n 3 .bad r (Q n 3 .bad l b).b).r, (Q n 3 .bad r (Q n 3 .bad l b).b).b⟩
    | none => Q n 3 .bad l b) := rfl
theorem Q_6 (n : Nat) (x : T) (l : List Tok) (b : Bool) : Q (n + 1) 6 x l b = (match nextB uns l b with
    | some (o, r) => ⟨.un o (Q n 6 .bad r b).t, (Q n 6 .bad r b).r, (Q n 6 .bad r b).b⟩
    | none => Q n 7 .bad l b) := rfl
theorem Q_7 (n : Nat) (x : T) (l : List Tok) (b : Bool) : Q (n + 1) 7 x l b = (match nextB [[94]] (Q n 8 .bad l b).r (Q n 8 .bad l b).b with
    | some (o, r) => ⟨.bin o (Q n 8 .bad l b).t (Q n 6 .bad r (Q n 8 .bad l b).b).t, (Q n 6 .bad r (Q n 8 .bad l b).b).r, (Q n 6 .bad r (Q n 8 .bad l b).b).b⟩
    | none => Q n 8 .bad l b) := rfl
theorem Q_8b (n : Nat) (x : T) (l : List Tok) : Q (n + 1) 8 x l true = ⟨.bad, l, true⟩ := rfl
theorem Q_8n (n : Nat) (x : T) : Q (n + 1) 8 x [] false = ⟨.bad, [], true⟩ := rfl
theorem Q_8p (n : Nat) (x : T) (l : List Tok) : Q (n + 1) 8 x ([40] :: l) false = (match nextB [[41]] (Q n 0 .bad l false).r (Q n 0 .bad l false).b with
    | some (_, r) => ⟨.un [40] (Q n 0 .bad l false).t, r, false⟩
    | none => ⟨(Q n 0 .bad l false).t, (Q n 0 .bad l false).r, true⟩) := rfl
theorem Q_8x (n : Nat) (x : T) (t : Tok) (l : List Tok) (h2 : t ≠ [40]) : Q (n + 1) 8 x (t :: l) false = ⟨.num t, l, !isNum t⟩ := by
  show (if t = [40] then _ else _) = _; rw [if_neg h2]
theorem Q_lv (n k : Nat) (x : T) (l : List Tok) (b : Bool) (h : k < 10) (h2 : k ≠ 2) (h6 : k ≠ 6) (h7 : k ≠ 7) (h8 : k ≠ 8) :
    Q (n + 1) k x l b = Q n (10 + k) (Q n (k + 1) .bad l b).t (Q n (k + 1) .bad l b).r (Q n (k + 1) .bad l b).b := by
  match k, h, h2, h6, h7, h8 with
  | 0, _, _, _, _, _ => rfl
  | 1, _, _, _, _, _ => rfl
  | 3, _, _, _, _, _ => rfl
  | 4, _, _, _, _, _ => rfl
  | 5, _, _, _, _, _ => rfl
  | 9, _, _, _, _, _ => rfl
theorem Q_lp (n k : Nat) (x : T) (l : List Tok) (b : Bool) : Q (n + 1) (10 + k) x l b = (match nextB (ops k) l b with
    | some (o, r) => Q n (10 + k) (.bin o x (Q n (k + 1) .bad r b).t) (Q n (k + 1) .bad r b).r (Q n (k + 1) .bad r b).b
    | none => ⟨x, l, b⟩) := by
  rw [show 10 + k = k + 9 + 1 by omega]
  show (if k + 9 + 1 < 10 then _ else _) = _
  rw [if_neg (by omega), show k + 9 + 1 - 10 = k by omega, show k + 9 + 1 - 9 = k + 1 by omega]
theorem nextB_true (s : List Tok) (l : List Tok) : nextB s l true = none := rfl
theorem nextB_false (s : List Tok) (l : List Tok) : nextB s l false = next s l := rfl
theorem Q_bad : ∀ (n k : Nat) (x : T) (l : List Tok), (Q n k x l true).b = true
  | 0, _, _, _ => rfl
  | n + 1, k, x, l => by
    by_cases h2 : k = 2
    · subst h2; rw [Q_2, Q_bad n 3 .bad l, nextB_true]; exact Q_bad n 3 .bad l
    by_cases h6 : k = 6
    · subst h6; rw [Q_6, nextB_true]; exact Q_bad n 7 .bad l
    by_cases h7 : k = 7
    · subst h7; rw [Q_7, Q_bad n 8 .bad l, nextB_true]; exact Q_bad n 8 .bad l
    by_cases h8 : k = 8
    · subst h8; rw [Q_8b]
    by_cases h : k < 10
    · rw [Q_lv n k x l true h h2 h6 h7 h8, Q_bad n (k + 1) .bad l]; exact Q_bad n (10 + k) _ _
    · obtain ⟨j, rfl⟩ : ∃ j, k = 10 + j := ⟨k - 10, by omega⟩
      rw [Q_lp, nextB_true]
theorem G_bad : ∀ (n k : Nat) (x : T) (l : List Tok), (G n k x l true).b = true
  | 0, _, _, _ => rfl
  | n + 1, k, x, l => by
    by_cases h2 : k = 2
    · subst h2; rw [G_2, G_bad n 3 .bad l]; split
      · exact G_bad n 3 .bad _
      · exact G_bad n 3 .bad l
    by_cases h6 : k = 6
    · subst h6; rw [G_6]; split
      · exact G_bad n 6 .bad _
      · exact G_bad n 7 .bad l
    by_cases h7 : k = 7
    · subst h7; rw [G_7, G_bad n 8 .bad l]; split
      · exact G_bad n 6 .bad _
      · exact G_bad n 8 .bad l
    by_cases h8 : k = 8
    · subst h8
      cases l with
      | nil => rfl
      | cons t l =>
        cases ht : isNum t
        · by_cases hp : t = [40]
          · subst hp; rw [G_8p]; split
            · exact G_bad n 0 .bad l
            · rfl
          · rw [G_8x _ _ _ _ _ ht hp]
        · rw [G_8d _ _ _ _ _ ht]
    by_cases h : k < 10
    · rw [G_lv n k x l true h h2 h6 h7 h8, G_bad n (k + 1) .bad l]; exact G_bad n (10 + k) _ _
    · obtain ⟨j, rfl⟩ : ∃ j, k = 10 + j := ⟨k - 10, by omega⟩
      rw [G_lp]; split
      · rw [G_bad n (j + 1) .bad]; exact G_bad n (10 + j) _ _
      · rfl
/-- The same tree, or a fault in both. -/
def Eqv (g q : Res) : Prop := (g.b = false ∧ q = g) ∨ (g.b = true ∧ q.b = true)
theorem Eqv.refl (g : Res) : Eqv g g := by cases h : g.b <;> simp [Eqv, h]
theorem GQ : ∀ (n k : Nat) (x : T) (l : List Tok), Eqv (G n k x l false) (Q n k x l false)
  | 0, _, _, _ => Eqv.refl _
  | n + 1, k, x, l => by
    by_cases h2 : k = 2
    · subst h2; rw [G_2, Q_2]
      rcases GQ n 3 .bad l with ⟨h1, h3⟩ | ⟨h1, h3⟩
      · rw [h3, h1, nextB_false]; rcases next cmps (G n 3 .bad l false).r with _ | ⟨o, r⟩
        · exact .inl ⟨h1, rfl⟩
        · rcases GQ n 3 .bad r with ⟨h4, h5⟩ | ⟨h4, h5⟩
          · exact .inl ⟨h4, by simp only [h5]⟩
          · exact .inr ⟨h4, h5⟩
      · rw [h1, h3, nextB_true]; split
        · exact .inr ⟨G_bad _ _ _ _, h3⟩
        · exact .inr ⟨h1, h3⟩
    by_cases h6 : k = 6
    · subst h6; rw [G_6, Q_6, nextB_false]; rcases next uns l with _ | ⟨o, r⟩
      · exact GQ n 7 .bad l
      · rcases GQ n 6 .bad r with ⟨h4, h5⟩ | ⟨h4, h5⟩
        · exact .inl ⟨h4, by simp only [h5]⟩
        · exact .inr ⟨h4, h5⟩
    by_cases h7 : k = 7
    · subst h7; rw [G_7, Q_7]
      rcases GQ n 8 .bad l with ⟨h1, h3⟩ | ⟨h1, h3⟩
      · rw [h3, h1, nextB_false]; rcases next [[94]] (G n 8 .bad l false).r with _ | ⟨o, r⟩
        · exact .inl ⟨h1, rfl⟩
        · rcases GQ n 6 .bad r with ⟨h4, h5⟩ | ⟨h4, h5⟩
          · exact .inl ⟨h4, by simp only [h5]⟩
          · exact .inr ⟨h4, h5⟩
      · rw [h1, h3, nextB_true]; split
        · exact .inr ⟨G_bad _ _ _ _, h3⟩
        · exact .inr ⟨h1, h3⟩
    by_cases h8 : k = 8
    · subst h8
      cases l with
      | nil => exact Eqv.refl _
      | cons t l =>
        by_cases hp : t = [40]
        · subst hp; rw [G_8p, Q_8p]
          rcases GQ n 0 .bad l with ⟨h1, h3⟩ | ⟨h1, h3⟩
          · rw [h3, h1, nextB_false]; rcases next [[41]] (G n 0 .bad l false).r with _ | ⟨o, r⟩
            · exact .inr ⟨rfl, rfl⟩
            · exact .inl ⟨rfl, rfl⟩
          · rw [h1, h3, nextB_true]; rcases next [[41]] (G n 0 .bad l false).r with _ | ⟨o, r⟩ <;> exact .inr ⟨rfl, rfl⟩
        · rw [Q_8x _ _ _ _ hp]
          cases ht : isNum t
          · rw [G_8x _ _ _ _ _ ht hp]; exact .inr ⟨rfl, rfl⟩
          · rw [G_8d _ _ _ _ _ ht]; exact Eqv.refl _
    by_cases h : k < 10
    · rw [G_lv n k x l false h h2 h6 h7 h8, Q_lv n k x l false h h2 h6 h7 h8]
      rcases GQ n (k + 1) .bad l with ⟨h1, h3⟩ | ⟨h1, h3⟩
      · rw [h3, h1]; exact GQ n (10 + k) _ _
      · rw [h1, h3]; exact .inr ⟨G_bad _ _ _ _, Q_bad _ _ _ _⟩
    · obtain ⟨j, rfl⟩ : ∃ j, k = 10 + j := ⟨k - 10, by omega⟩
      rw [G_lp, Q_lp, nextB_false]; rcases next (ops j) l with _ | ⟨o, r⟩
      · exact Eqv.refl _
      · rcases GQ n (j + 1) .bad r with ⟨h1, h3⟩ | ⟨h1, h3⟩
        · simp only [h3, h1]; exact GQ n (10 + j) _ _
        · simp only [h1, h3]; exact .inr ⟨G_bad _ _ _ _, Q_bad _ _ _ _⟩
end Go.Proofs.YtfocokjihbenmaaGreatDoor.Fo
