/-
  The formulas that the tape makes: pieces whose tokens are the tokens of the text, balanced, few and short.
-/
import Derived.Test.YtfocokjihbenmaaDoorFoParen
namespace Go.Proofs.YtfocokjihbenmaaDoor.Fo
open Go.Proofs.YtfocokjihbenmaaDoor.Nu

def nums : List (List UInt8) := [[49], [50], [48], [51, 46, 53], [49, 48], [48, 46, 50, 53], [55], [49, 48, 48, 48, 48, 48], [57, 57, 57, 57, 57, 57, 57, 57, 57], [49, 46, 48, 48, 48, 48, 48, 48, 48, 48, 49]]
def presP : List (List (List UInt8)) := [[[45]], [[43]], [[110, 111, 116], [32]], [[102, 108, 111, 111, 114], [32]]]
def binsP : List (List (List UInt8)) := [[[43]], [[45]], [[42]], [[47]], [[32], [109, 111, 100], [32]], [[94]], [[32], [61], [32]], [[60, 62]], [[60]], [[62], [32]], [[60, 61]], [[62, 61]],
  [[32], [97, 110, 100], [32]], [[32], [111, 114], [32]], [[32], [114, 111, 117, 110, 100], [32]]]
def pres : List (List UInt8) := presP.map List.flatten
def bins : List (List UInt8) := binsP.map List.flatten
def starts : List UInt8 := [48, 49, 50, 51, 53, 55, 57, 40, 45, 43, 110, 102]
def ens : List UInt8 := [9, 10, 32, 41, 43, 45, 42, 47, 94, 61, 60, 62]
def endB : Option UInt8 → Bool
  | none => true
  | some x => decide (x ∈ ens)
structure Fm (c n : Nat) (ps : List (List UInt8)) : Prop where
  len : ps.flatten.length ≤ n
  few : (toksOf ps).length ≤ c
  bl : bal 0 (toksOf ps) = true
  hd : ∃ x, ps.flatten.head? = some x ∧ x ∈ starts
  sp : ∀ e, endB e.head? = true → sep ps e = true
theorem toksOf_app (l m : List (List UInt8)) : toksOf (l ++ m) = toksOf l ++ toksOf m := by unfold toksOf; rw [List.filter_append]
theorem Fm.le {c n c' n' : Nat} {ps : List (List UInt8)} (h : Fm c n ps) (h1 : c ≤ c') (h2 : n ≤ n') : Fm c' n' ps := ⟨Nat.le_trans h.len h2, Nat.le_trans h.few h1, h.bl, h.hd, h.sp⟩
theorem sep_at {ps : List (List UInt8)} {ok : UInt8 → Prop} (h0 : sep ps [] = true) (h1 : ∀ x, ok x → sep ps [x] = true) (e : List UInt8) (he : ∀ x, e.head? = some x → ok x) : sep ps e = true := by
  cases e with
  | nil => exact h0
  | cons x e => rw [sep_head ps (x :: e) [x] rfl]; exact h1 x (he x rfl)
theorem nums_tok : ∀ x ∈ nums, x.length ≤ 11 ∧ toksOf [x] = [x] ∧ bal 0 [x] = true ∧ (match x.head? with | some y => decide (y ∈ starts) | none => false) = true ∧ sep [x] [] = true ∧ ∀ y ∈ ens, sep [x] [y] = true := by decide +kernel
theorem Fm.num {x : List UInt8} (h : x ∈ nums) : Fm 1 11 [x] := by
  obtain ⟨h1, h2, h3, h4, h5, h6⟩ := nums_tok x h
  have e : [x].flatten = x := by simp
  refine ⟨by rw [e]; exact h1, by rw [h2]; exact Nat.le_refl _, by rw [h2]; exact h3, ?_, fun u hu => sep_at h5 (ok := (· ∈ ens)) h6 u fun y hy => ?_⟩
  · rw [e]
    cases hx : x.head? with
    | none => rw [hx] at h4; cases h4
    | some y => rw [hx] at h4; exact ⟨y, rfl, by simpa using h4⟩
  · rw [hy] at hu; simpa [endB] using hu
theorem head_app {l m : List UInt8} {x : UInt8} (h : l.head? = some x) : (l ++ m).head? = some x := by
  cases l with
  | nil => cases h
  | cons a l => exact h
theorem Fm.par {c n : Nat} {ps : List (List UInt8)} (h : Fm c n ps) : Fm (c + 2) (n + 2) ([[40]] ++ ps ++ [[41]]) := by
  have e : ([[40]] ++ ps ++ [[41]]).flatten = [40] ++ ps.flatten ++ [41] := by simp
  have t : toksOf ([[40]] ++ ps ++ [[41]]) = [40] :: (toksOf ps ++ [[41]]) := by
    rw [toksOf_app, toksOf_app]; rfl
  refine ⟨?_, ?_, ?_, ⟨40, by rw [e]; rfl, by decide⟩, fun u hu => ?_⟩
  · rw [e, List.length_append, List.length_append]; have := h.len; show 1 + _ + 1 ≤ _; omega
  · rw [t]; have := h.few; simp; omega
  · rw [t, bal_p]
    exact bal_app (toksOf ps) [[41]] 0 1 h.bl rfl
  · rw [sep_append, sep_append]
    have h1 : sep ps ([[41]].flatten ++ u) = true := h.sp _ rfl
    have h2 : ∀ v, sep [[40]] v = true := fun v => by
      show ((blB [40] || (tokB [40] && endOk [40] ([].flatten ++ v).head?)) && true) = true
      rw [end_sym (by decide) (by decide) (by decide) (by decide)]; rfl
    have h3 : ∀ v, sep [[41]] v = true := fun v => by
      show ((blB [41] || (tokB [41] && endOk [41] ([].flatten ++ v).head?)) && true) = true
      rw [end_sym (by decide) (by decide) (by decide) (by decide)]; rfl
    rw [h1, h2, h3]; rfl
theorem presP_tok : ∀ p ∈ presP, p.flatten.length ≤ 6 ∧ (toksOf p).length = 1 ∧ bal 0 (toksOf p) = true ∧ (match p.flatten.head? with | some y => decide (y ∈ starts) | none => false) = true ∧ ∀ y ∈ starts, sep p [y] = true := by decide +kernel
theorem binsP_tok : ∀ p ∈ binsP, p.flatten.length ≤ 7 ∧ (toksOf p).length = 1 ∧ bal 0 (toksOf p) = true ∧ (match p.flatten.head? with | some y => decide (y ∈ ens) | none => false) = true ∧ ∀ y ∈ starts, sep p [y] = true := by decide +kernel
theorem Fm.pre {c n : Nat} {p ps : List (List UInt8)} (hp : p ∈ presP) (h : Fm c n ps) : Fm (c + 1) (n + 6) (p ++ ps) := by
  obtain ⟨h1, h2, h3, h4, h5⟩ := presP_tok p hp
  obtain ⟨x, hx, hs⟩ := h.hd
  refine ⟨?_, ?_, ?_, ?_, fun u hu => ?_⟩
  · rw [List.flatten_append, List.length_append]; have := h.len; omega
  · rw [toksOf_app, List.length_append]; have := h.few; omega
  · rw [toksOf_app]; exact bal_app _ _ 0 0 h3 h.bl
  · cases hq : p.flatten.head? with
    | none => rw [hq] at h4; cases h4
    | some y => rw [hq] at h4; exact ⟨y, by rw [List.flatten_append]; exact head_app hq, by simpa using h4⟩
  · rw [sep_append, h.sp u hu, sep_head p _ [x] (head_app hx), h5 x hs]; rfl
theorem Fm.bin {c n d m : Nat} {p ps qs : List (List UInt8)} (h : Fm c n ps) (hp : p ∈ binsP) (k : Fm d m qs) : Fm (c + d + 1) (n + m + 7) (ps ++ p ++ qs) := by
  obtain ⟨h1, h2, h3, h4, h5⟩ := binsP_tok p hp
  obtain ⟨x, hx, hs⟩ := k.hd
  obtain ⟨z, hz, hzs⟩ := h.hd
  refine ⟨?_, ?_, ?_, ⟨z, by rw [List.flatten_append, List.flatten_append]; exact head_app (head_app hz), hzs⟩, fun u hu => ?_⟩
  · rw [List.flatten_append, List.flatten_append, List.length_append, List.length_append]; have := h.len; have := k.len; omega
  · rw [toksOf_app, toksOf_app, List.length_append, List.length_append]; have := h.few; have := k.few; omega
  · rw [toksOf_app, toksOf_app]; exact bal_app _ _ 0 0 (bal_app _ _ 0 0 h.bl h3) k.bl
  · rw [sep_append, sep_append, k.sp u hu, sep_head p _ [x] (head_app hx), h5 x hs]
    have h6 : sep ps (p.flatten ++ (qs.flatten ++ u)) = true := by
      refine h.sp _ ?_
      cases hq : p.flatten.head? with
      | none => rw [hq] at h4; cases h4
      | some y => rw [hq] at h4; rw [head_app hq]; exact h4
    rw [h6]; rfl
theorem Fm.txt {c n : Nat} {ps : List (List UInt8)} (h : Fm c n ps) (hc : c ≤ 19) (hn : n ≤ 390) : Txt ps :=
  ⟨Nat.le_trans h.len hn, fun e he => h.sp e (by rcases he with h | h | h <;> rw [h] <;> decide), h.bl, Nat.le_trans h.few hc⟩
/-- How many tokens and bytes. -/
def cB : Nat → Nat
  | 0 => 1
  | d + 1 => 2 * cB d + 1
def nB : Nat → Nat
  | 0 => 11
  | d + 1 => 2 * nB d + 7
theorem cB_pos : ∀ d, 1 ≤ cB d
  | 0 => Nat.le_refl _
  | d + 1 => by unfold cB; omega
theorem nB_pos : ∀ d, 11 ≤ nB d
  | 0 => Nat.le_refl _
  | d + 1 => by unfold nB; have := nB_pos d; omega
end Go.Proofs.YtfocokjihbenmaaDoor.Fo
