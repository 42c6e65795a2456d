/-
  Policies as plain values: names, words, the errors of a policy.
-/
import Derived.Lib.Strings
import Derived.Lib.IndexMore
import Derived.Lib.Hide
import Derived.Lib.SlTrimSet
namespace Go.Proofs.YtbibekojbjonoaaDoor.Po
set_option linter.unusedVariables false
set_option linter.unusedSimpArgs false

abbrev By := List UInt8
structure Grp where
  nm : By
  ms : List By
  deriving DecidableEq
structure Rul where
  al : Bool
  ri : Int
  gr : By
  kd : Int
  sp : Int
  tn : By
  deriving DecidableEq
structure Gud where
  st : Bool
  gr : By
  sp : Int
  tn : By
  se : By
  deriving DecidableEq
structure Pol where
  gs : List Grp
  rs : List Rul
  ds : List Gud
  deriving DecidableEq
def Pol.none : Pol := ⟨[], [], []⟩

/-! ### Blanks and words -/
def bl : By := [9, 32]
def spc (c : UInt8) : Bool := bl.contains c
def nsp (c : UInt8) : Bool := !spc c
def tr (l : By) : By := Lib.trimS l bl
def trL (l : By) : By := l.dropWhile spc
def trR (l : By) : By := (l.reverse.dropWhile spc).reverse
theorem tr_eq (l : By) : tr l = trL (trR l) := rfl
theorem spc_eq (c : UInt8) : spc c = ((c.toNat : Int) == 9 || (c.toNat : Int) == 32) := by
  have h : ∀ k : UInt8, (c == k) = ((c.toNat : Int) == (k.toNat : Int)) := fun k => by
    rw [Bool.eq_iff_iff, beq_iff_eq, beq_iff_eq, Int.ofNat_inj, UInt8.toNat_inj]
  unfold spc bl
  simp only [List.contains_cons, List.contains_nil, Bool.or_false, h]
  rfl
theorem trR_cons (c : UInt8) (l : By) : trR (c :: l) = if trR l = [] ∧ spc c = true then [] else c :: trR l := by
  unfold trR
  rw [List.reverse_cons, List.dropWhile_append]
  by_cases h : (l.reverse.dropWhile spc) = []
  · rw [h]
    cases hc : spc c
    · simp [List.dropWhile, hc]
    · simp [List.dropWhile, hc]
  · have h2 : (l.reverse.dropWhile spc).isEmpty = false := by
      cases hq : l.reverse.dropWhile spc with
      | nil => exact absurd hq h
      | cons _ _ => rfl
    rw [h2]
    simp [h]
theorem trL_yes {c : UInt8} (h : spc c = true) (l : By) : trL (c :: l) = trL l := by unfold trL; rw [List.dropWhile_cons, if_pos h]
theorem trL_no {c : UInt8} (h : spc c = false) (l : By) : trL (c :: l) = c :: l := by unfold trL; rw [List.dropWhile_cons, h]; rfl
theorem tr_swap (l : By) : trL (trR l) = trR (trL l) := by
  induction l with
  | nil => rfl
  | cons c l ih =>
    cases hc : spc c
    · rw [trL_no hc, trR_cons, if_neg (by rw [hc]; exact fun h => by cases h.2), trL_no hc]
    · rw [trL_yes hc, trR_cons, ← ih]
      by_cases h : trR l = []
      · rw [if_pos ⟨h, hc⟩, h]
      · rw [if_neg (fun hh => h hh.1), trL_yes hc]
theorem trL_idem (l : By) : trL (trL l) = trL l := by
  induction l with
  | nil => rfl
  | cons c l ih =>
    cases hc : spc c
    · rw [trL_no hc, trL_no hc]
    · rw [trL_yes hc, ih]
theorem trR_idem (l : By) : trR (trR l) = trR l := by
  have h := trL_idem l.reverse
  unfold trL at h
  unfold trR
  rw [List.reverse_reverse, h]
theorem tr_idem (l : By) : tr (tr l) = tr l := by
  rw [tr_eq, tr_eq, tr_swap (trL (trR l)), trL_idem, ← tr_swap (trR l), trR_idem]
theorem trR_snoc (l : By) (c : UInt8) : trR (l ++ [c]) = if spc c = true then trR l else l ++ [c] := by
  unfold trR
  rw [List.reverse_append, List.reverse_singleton, List.singleton_append, List.dropWhile_cons]
  cases hc : spc c
  · simp
  · simp
theorem trL_len (l : By) : (trL l).length ≤ l.length := by
  induction l with
  | nil => exact Nat.le_refl _
  | cons c l ih => cases hc : spc c <;> simp [trL_yes, trL_no, hc]; omega
theorem trR_len (l : By) : (trR l).length ≤ l.length := by
  have h := trL_len l.reverse
  unfold trL at h; unfold trR
  simpa using h
theorem tr_len (l : By) : (tr l).length ≤ l.length := by rw [tr_eq]; exact Nat.le_trans (trL_len _) (trR_len _)
theorem dw_len (p : UInt8 → Bool) (l : By) : (l.dropWhile p).length ≤ l.length := by
  induction l with
  | nil => exact Nat.le_refl _
  | cons c l ih => rw [List.dropWhile_cons]; split <;> simp; omega
/-- The first word of a text, and what stands behind it. -/
def cw (l : By) : By × By := ((tr l).takeWhile nsp, tr ((tr l).dropWhile nsp))
/-- The words of a text, cur being the beginning of the first one. -/
def flds : By → By → List By
  | cur, [] => if cur = [] then [] else [cur]
  | cur, c :: r => if spc c then (if cur = [] then flds [] r else cur :: flds [] r) else flds (cur ++ [c]) r
def words (l : By) : List By := flds [] l
theorem flds_blank (c : UInt8) (h : spc c = true) (l : By) : flds [] (c :: l) = flds [] l := by rw [flds, if_pos h, if_pos rfl]
theorem flds_trL (l : By) : flds [] (trL l) = flds [] l := by
  induction l with
  | nil => rfl
  | cons c l ih =>
    cases hc : spc c
    · rw [trL_no hc]
    · rw [trL_yes hc, ih, flds_blank c hc]
theorem flds_snoc (c : UInt8) (h : spc c = true) : ∀ (l cur : By), flds cur (l ++ [c]) = flds cur l
  | [], cur => by
    rw [List.nil_append]
    by_cases h2 : cur = []
    · simp [flds, h, h2]
    · simp [flds, h, h2]
  | d :: l, cur => by
    rw [List.cons_append, flds, flds, flds_snoc c h l, flds_snoc c h l]
theorem trR_rec (l : By) (P : By → Prop) (h0 : P (trR l)) (hs : ∀ l c, spc c = true → P l → P (l ++ [c])) : P l := by
  have h : ∀ r : By, P (r.dropWhile spc).reverse → P r.reverse := by
    intro r
    induction r with
    | nil => exact fun h => h
    | cons c r ih =>
      intro h
      rw [List.dropWhile_cons] at h
      rw [List.reverse_cons]
      cases hc : spc c
      · rw [hc] at h; simpa using h
      · rw [hc] at h; exact hs _ _ hc (ih (by simpa using h))
  have := h l.reverse
  rw [List.reverse_reverse] at this
  exact this h0
theorem flds_trR (l : By) : flds [] (trR l) = flds [] l :=
  trR_rec l (fun x => flds [] (trR l) = flds [] x) rfl (fun x c hc h => by rw [flds_snoc c hc, h])
theorem words_tr (l : By) : words (tr l) = words l := by
  unfold words; rw [tr_eq, flds_trL, flds_trR]
theorem flds_word : ∀ (a cur r : By), (∀ c ∈ a, spc c = false) → flds cur (a ++ r) = flds (cur ++ a) r
  | [], cur, r, _ => by simp
  | c :: a, cur, r, h => by
    rw [List.cons_append, flds, if_neg (by rw [h c (by simp)]; exact Bool.false_ne_true), flds_word a _ r (fun d hd => h d (by simp [hd]))]
    simp
theorem tw_all (p : UInt8 → Bool) (l : By) : ∀ c ∈ l.takeWhile p, p c = true := by
  induction l with
  | nil => simp
  | cons d l ih =>
    rw [List.takeWhile_cons]
    split
    · rename_i hd
      intro c hc
      rcases List.mem_cons.1 hc with rfl | hc
      · exact hd
      · exact ih c hc
    · simp
theorem tw_dw (p : UInt8 → Bool) (l : By) : l.takeWhile p ++ l.dropWhile p = l := List.takeWhile_append_dropWhile
theorem dw_head (p : UInt8 → Bool) (l : By) : l.dropWhile p = [] ∨ ∃ c r, l.dropWhile p = c :: r ∧ p c = false := by
  induction l with
  | nil => exact .inl rfl
  | cons d l ih =>
    rw [List.dropWhile_cons]
    split
    · exact ih
    · rename_i hd; exact .inr ⟨d, l, rfl, by simpa using hd⟩
theorem flds_tail (w r : By) (hw : w ≠ []) (hr : r = [] ∨ ∃ c q, r = c :: q ∧ spc c = true) : flds w r = w :: flds [] r := by
  rcases hr with rfl | ⟨c, q, rfl, hc⟩
  · simp [flds, hw]
  · rw [flds, if_pos hc, if_neg hw, flds_blank c hc]
theorem cw_nsp (l : By) : ∀ c ∈ (cw l).1, spc c = false := fun c hc => by
  have := tw_all nsp _ c hc
  unfold nsp at this
  simpa using this
theorem words_cons {l : By} (h : (cw l).1 ≠ []) : words l = (cw l).1 :: words (cw l).2 := by
  have h1 := tw_dw nsp (tr l)
  have h3 : words ((tr l).dropWhile nsp) = words (cw l).2 := (words_tr _).symm
  rw [← words_tr l, ← h3]
  unfold words
  have h2 := flds_word ((tr l).takeWhile nsp) [] ((tr l).dropWhile nsp) (cw_nsp l)
  rw [h1] at h2
  rw [h2, List.nil_append]
  refine flds_tail _ _ h ?_
  rcases dw_head nsp (tr l) with h4 | ⟨c, q, h4, h5⟩
  · exact .inl h4
  · exact .inr ⟨c, q, h4, by unfold nsp at h5; simpa using h5⟩
theorem tr_head (l : By) : tr l = [] ∨ ∃ c r, tr l = c :: r ∧ spc c = false := by
  rw [tr_eq]; exact dw_head spc _
theorem cw_nil {l : By} : (cw l).1 = [] ↔ tr l = [] := by
  rcases tr_head l with h | ⟨c, r, h, hc⟩
  · exact ⟨fun _ => h, fun h => by unfold cw; rw [h]; rfl⟩
  · refine ⟨fun h2 => ?_, fun h2 => by unfold cw; rw [h2]; rfl⟩
    unfold cw at h2
    rw [h] at h2
    simp [nsp, hc] at h2
theorem words_nil {l : By} (h : (cw l).1 = []) : words l = [] := by
  rw [← words_tr, cw_nil.1 h]; rfl
theorem cw_len (l : By) : (cw l).1.length + (cw l).2.length ≤ l.length := by
  have h1 := congrArg List.length (tw_dw nsp (tr l))
  rw [List.length_append] at h1
  have h2 := tr_len ((tr l).dropWhile nsp)
  have h3 := tr_len l
  show ((tr l).takeWhile nsp).length + (tr ((tr l).dropWhile nsp)).length ≤ _
  omega
theorem cw_lt {l : By} (h : (cw l).1 ≠ []) : (cw l).2.length < l.length := by
  have h1 := cw_len l
  have : 0 < (cw l).1.length := List.length_pos_iff.2 h
  omega
theorem words_ne (l : By) : ∀ x ∈ words l, x ≠ [] := by
  have h : ∀ (l cur : By), ∀ x ∈ flds cur l, x ≠ [] := by
    intro l
    induction l with
    | nil => intro cur x hx; rw [flds] at hx; split at hx <;> simp at hx; rw [hx]; assumption
    | cons c l ih =>
      intro cur x hx
      rw [flds] at hx
      split at hx
      · split at hx
        · exact ih _ x hx
        · rcases List.mem_cons.1 hx with rfl | hx
          · assumption
          · exact ih _ x hx
      · exact ih _ x hx
  exact h l []
theorem words_count (l : By) : (words l).length ≤ l.length ∧ ∀ x ∈ words l, x.length ≤ l.length := by
  have h : ∀ (l cur : By), (flds cur l).length ≤ l.length + (if cur = [] then 0 else 1) ∧ ∀ x ∈ flds cur l, x.length ≤ cur.length + l.length := by
    intro l
    induction l with
    | nil => intro cur; rw [flds]; split <;> simp
    | cons c l ih =>
      intro cur
      rw [flds]
      split
      · split
        · rename_i h; subst h
          have := ih []
          simp at this ⊢
          exact ⟨by omega, fun x hx => by have := this.2 x hx; omega⟩
        · have := ih []
          simp at this ⊢
          exact ⟨by omega, fun x hx => by have := this.2 x hx; omega⟩
      · have := ih (cur ++ [c])
        simp at this ⊢
        exact ⟨by omega, fun x hx => by have := this.2 x hx; omega⟩
  have := h l []
  simpa [words] using this
/-- What follows the first n words, as the reference has it. -/
def rst : Nat → By → By
  | 0, s => tr s
  | n + 1, s => rst n ((tr s).dropWhile nsp)
theorem rst_one (s : By) : rst 1 s = (cw s).2 := rfl
theorem rst_succ (n : Nat) (s : By) : rst (n + 1) s = rst n (cw s).2 := by
  unfold cw
  cases n with
  | zero => rw [rst, rst, rst, tr_idem]
  | succ n => rw [rst, rst, rst, tr_idem]
theorem rst_two (s : By) : rst 2 s = (cw (cw s).2).2 := by rw [rst_succ, rst_one]
theorem rst_three (s : By) : rst 3 s = (cw (cw (cw s).2).2).2 := by rw [rst_succ, rst_two]
/-! ### Names -/
def sml (c : UInt8) : Bool := decide (97 ≤ c.toNat ∧ c.toNat ≤ 122)
def nby (c : UInt8) : Bool := sml c || (decide (48 ≤ c.toNat ∧ c.toNat ≤ 57) || (c == 45 || c == 95))
def isName (l : By) : Bool := decide (1 ≤ l.length ∧ l.length ≤ 30) && (l.head?.map sml == some true && l.all nby)
def wAll : By := [97, 108, 108]
def wUsers : By := [117, 115, 101, 114, 115]
def built (n : By) : Bool := decide (n = wAll) || decide (n = wUsers)
def has (gs : List Grp) (n : By) : Bool := built n || gs.any fun g => decide (g.nm = n)
end Go.Proofs.YtbibekojbjonoaaDoor.Po
