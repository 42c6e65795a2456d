/-
  A valid title is read again from its text, also behind a colon: the plain part of the proof.
-/
import Derived.Test.YtbibekojbjonoaaDoorTiParse
namespace Go.Proofs.YtbibekojbjonoaaDoor.Ti
open Go.Proofs.YtbibekojbjonoaaDoor.Rf

/-- No underscore, and a byte that is no blank behind each blank. -/
def Cl : List UInt8 → Prop
  | [] => True
  | c :: r => c ≠ 95 ∧ (c = 32 → ∃ d r', r = d :: r' ∧ d ≠ 32) ∧ Cl r
theorem sq_cl : ∀ (r o : List UInt8) (b : Bool), o ≠ [] → Cl r → (b = true → ∃ d r', r = d :: r' ∧ d ≠ 32) → r.foldl sqStep (o, b) = (o ++ (if b then [32] else []) ++ r, false)
  | [], o, b, _, _, hb => by
    cases b
    · simp
    · obtain ⟨d, r', h, _⟩ := hb rfl; cases h
  | c :: r, o, b, ho, hc, hb => by
    obtain ⟨h95, h32, hr⟩ := hc
    rw [List.foldl_cons]
    by_cases h : c = 32
    · have hbf : b = false := by
        cases b
        · rfl
        · obtain ⟨d, r', e, hd⟩ := hb rfl
          simp at e; exact absurd (e.1 ▸ h) hd
      subst hbf
      rw [sqStep, if_pos (.inl h), sq_cl r o true ho hr (fun _ => h32 h)]
      simp [h]
    · rw [sqStep, if_neg (by simp [h, h95])]
      rw [sq_cl r _ false (by simp) hr (by simp)]
      cases b <;> cases o <;> simp at ho ⊢
theorem squeeze_cl {c : UInt8} {r : List UInt8} (h1 : c ≠ 32) (h2 : c ≠ 95) (hr : Cl r) : squeeze (c :: r) = c :: r := by
  unfold squeeze sq
  rw [List.foldl_cons, sqStep, if_neg (by simp [h1, h2]), sq_cl r _ false (by simp) hr (by simp)]
  simp

/-- Behind a slash neither a slash nor a blank nor the end, behind a blank neither a slash nor the end. -/
def Js : List UInt8 → Prop
  | [] => True
  | c :: r => (c = 47 → ∃ d r', r = d :: r' ∧ d ≠ 47 ∧ d ≠ 32) ∧ (c = 32 → ∃ d r', r = d :: r' ∧ d ≠ 47) ∧ Js r
theorem parts_cons_ne {c x : UInt8} {r p : List UInt8} {q : List (List UInt8)} (h : x ≠ c) (e : parts c r = p :: q) : parts c (x :: r) = (x :: p) :: q := by
  rw [parts, if_neg h, e]
theorem parts_cons_eq {c : UInt8} {r : List UInt8} : parts c (c :: r) = [] :: parts c r := by rw [parts, if_pos rfl]
theorem parts_head {c d : UInt8} {r p : List UInt8} {q : List (List UInt8)} (e : parts c r = (d :: p) :: q) : ∃ r', r = d :: r' ∧ d ≠ c := by
  cases r with
  | nil => simp [parts] at e
  | cons x r =>
    by_cases h : x = c
    · subst h; rw [parts_cons_eq] at e; simp at e
    · obtain ⟨p', q', e'⟩ := parts_ne c r
      rw [parts_cons_ne h e'] at e
      simp at e
      exact ⟨r, by rw [e.1.1], by rw [← e.1.1]; exact h⟩
theorem okPart_iff {p : List UInt8} (h : okPart p = true) : ∃ d r, p = d :: r ∧ d ≠ 32 ∧ p.getLast? ≠ some 32 := by
  unfold okPart at h
  cases p with
  | nil => simp at h
  | cons d r =>
    simp only [Bool.and_eq_true, Bool.not_eq_true', beq_eq_false_iff_ne] at h
    exact ⟨d, r, rfl, by simpa using h.2.1, h.2.2⟩
theorem js_of : ∀ (l p : List UInt8) (q : List (List UInt8)), parts 47 l = p :: q → p.getLast? ≠ some 32 → q.all okPart = true → Js l
  | [], _, _, _, _, _ => trivial
  | c :: r, p, q, e, hp, hq => by
    obtain ⟨p', q', e'⟩ := parts_ne 47 r
    by_cases h : c = 47
    · subst h
      rw [parts_cons_eq, e'] at e
      simp at e
      obtain ⟨rfl, rfl⟩ := e
      simp only [List.all_cons, Bool.and_eq_true] at hq
      obtain ⟨d, t, rfl, hd, hl⟩ := okPart_iff hq.1
      obtain ⟨r', hr', hd'⟩ := parts_head e'
      exact ⟨fun _ => ⟨d, r', hr', hd', hd⟩, fun h => by simp at h, js_of r _ q' e' hl hq.2⟩
    · rw [parts_cons_ne h e'] at e
      simp at e
      obtain ⟨rfl, rfl⟩ := e
      refine ⟨fun h' => absurd h' h, fun h' => ?_, js_of r p' q' e' (fun hl => hp ?_) hq⟩
      · cases p' with
        | nil => subst h'; simp at hp
        | cons d t => obtain ⟨r', hr', hd'⟩ := parts_head e'; exact ⟨d, r', hr', hd'⟩
      · cases p' with
        | nil => simp at hl
        | cons d t => simpa using hl
theorem js_vparts {l : List UInt8} (h : vparts l = true) : Js l ∧ ∃ c r, l = c :: r ∧ c ≠ 32 ∧ c ≠ 47 := by
  obtain ⟨p, q, e⟩ := parts_ne 47 l
  rw [vparts, e, List.all_cons, Bool.and_eq_true] at h
  obtain ⟨d, t, rfl, hd, hl⟩ := okPart_iff h.1
  obtain ⟨r', hr', hd'⟩ := parts_head e
  exact ⟨js_of l _ q e hl h.2, d, r', hr', hd, hd'⟩

theorem index_none_slash : ∀ l : List UInt8, Js l → Lib.index l [32, 47] = -1 ∧ Lib.index l [47, 32] = -1
  | [], _ => ⟨rfl, rfl⟩
  | c :: r, h => by
    obtain ⟨h1, h2, h3⟩ := h
    obtain ⟨i1, i2⟩ := index_none_slash r h3
    constructor
    · rw [Lib.index, i1, if_neg]
      · rfl
      · intro hp
        cases r with
        | nil => simp [List.isPrefixOf] at hp
        | cons d t =>
          simp [List.isPrefixOf] at hp
          obtain ⟨d', t', e, hd⟩ := h2 hp.1.symm
          simp at e; exact hd (e.1 ▸ hp.2.symm)
    · rw [Lib.index, i2, if_neg]
      · rfl
      · intro hp
        cases r with
        | nil => simp [List.isPrefixOf] at hp
        | cons d t =>
          simp [List.isPrefixOf] at hp
          obtain ⟨d', t', e, _, hd⟩ := h1 hp.1.symm
          simp at e; exact hd (e.1 ▸ hp.2.symm)
theorem replaceAll_none {l old new : List UInt8} (h : Lib.index l old = -1) : Lib.replaceAll l old new = l := by
  unfold Lib.replaceAll Lib.replace
  split
  · rfl
  · cases Lib.replaceNum l old (-1) with
    | zero => rfl
    | succ k => rw [Lib.replaceK, if_pos (by rw [h]; rfl)]
theorem join_js {l : List UInt8} (h : Js l) : join l = l := by
  obtain ⟨h1, h2⟩ := index_none_slash l h
  unfold join
  rw [replaceAll_none h1, replaceAll_none h2]
theorem cl_of : ∀ l : List UInt8, Js l → l.all (fun c => !bad c) = true → Lib.index l [32, 32] = -1 → Cl l
  | [], _, _, _ => trivial
  | c :: r, hj, hb, hi => by
    obtain ⟨_, h2, h3⟩ := hj
    rw [List.all_cons, Bool.and_eq_true] at hb
    rw [Lib.index] at hi
    have hnp : ¬ ([32, 32] : List UInt8).isPrefixOf (c :: r) = true := by
      intro hp; rw [if_pos hp] at hi; omega
    rw [if_neg hnp] at hi
    have hr : Lib.index r [32, 32] = -1 := by
      by_cases hm : (Lib.index r [32, 32] == -1) = true
      · exact beq_iff_eq.1 hm
      · rw [if_neg hm] at hi
        have := Lib.index_ge r [32, 32]
        have : Lib.index r [32, 32] ≠ -1 := fun e => hm (beq_iff_eq.2 e)
        omega
    refine ⟨?_, fun h => ?_, cl_of r h3 hb.2 hr⟩
    · rintro rfl
      have h95 := hb.1
      revert h95; decide
    · obtain ⟨d, r', e, _⟩ := h2 h
      refine ⟨d, r', e, fun hd => hnp ?_⟩
      subst h; subst e; subst hd; simp [List.isPrefixOf]

/-- What a valid name is. -/
theorem valid_parts {sp : Int} {l : List UInt8} (h : valid sp l = true) : (0 ≤ sp ∧ sp < 6) ∧ (1 ≤ l.length ∧ l.length ≤ 100) ∧ (∀ c, l.head? = some c → c ≠ 58 ∧ small c = false) ∧ (sp = 0 → space l = 0) ∧ vbytes l = true ∧ vparts l = true := by
  have h1 := valid_space h
  have h2 := valid_len h
  rw [valid, if_neg (by omega), if_neg (by omega)] at h
  by_cases h3 : l.head? = some 58 ∨ l.head?.map small = some true
  · rw [if_pos h3] at h; cases h
  rw [if_neg h3] at h
  by_cases h4 : sp = 0 ∧ space l ≠ 0
  · rw [if_pos h4] at h; cases h
  rw [if_neg h4, Bool.and_eq_true] at h
  refine ⟨h1, h2, fun c hc => ⟨fun e => h3 (.inl (by rw [hc, e])), ?_⟩, fun e => ?_, h.1, h.2⟩
  · cases hs : small c
    · rfl
    · exact absurd (Or.inr (by rw [hc]; simp [hs])) h3
  · exact Classical.byContradiction fun hn => h4 ⟨e, hn⟩
theorem valid_shape {sp : Int} {l : List UInt8} (h : valid sp l = true) : Js l ∧ Cl l ∧ ∃ c r, l = c :: r ∧ c ≠ 32 ∧ c ≠ 47 ∧ c ≠ 58 ∧ c ≠ 95 ∧ small c = false ∧ Cl r := by
  obtain ⟨_, _, hh, _, hb, hv⟩ := valid_parts h
  obtain ⟨hj, c, r, e, h1, h2⟩ := js_vparts hv
  rw [vbytes, Bool.and_eq_true] at hb
  have hi : Lib.index l [32, 32] = -1 := by
    have := hb.2
    simp [Lib.contains] at this
    have := Lib.index_ge l [32, 32]
    omega
  have hc := cl_of l hj hb.1 hi
  have hh' := hh c (by rw [e]; rfl)
  subst e
  exact ⟨hj, hc, c, r, rfl, h1, h2, hh'.1, hc.1, hh'.2, hc.2.2⟩
theorem trimPrefix_no {c d : UInt8} {r : List UInt8} (h : d ≠ c) : Lib.trimPrefix (d :: r) [c] = d :: r := by
  unfold Lib.trimPrefix Lib.hasPrefix
  rw [if_neg]
  simp [List.isPrefixOf]; exact fun e => h e.symm
theorem trimPrefix_yes (c : UInt8) (r : List UInt8) : Lib.trimPrefix (c :: r) [c] = r := by
  unfold Lib.trimPrefix Lib.hasPrefix
  rw [if_pos (by simp [List.isPrefixOf])]; rfl
theorem skip_no {d : UInt8} {r : List UInt8} (h : d ≠ 58) : skip (d :: r) = d :: r := by
  unfold skip Lib.hasPrefix
  rw [if_neg]
  simp [List.isPrefixOf]; exact fun e => h e.symm
theorem skip_yes (d : UInt8) (r : List UInt8) (h : d ≠ 32) : skip (58 :: d :: r) = d :: r := by
  unfold skip Lib.hasPrefix
  rw [if_pos (by simp [List.isPrefixOf]), trimPrefix_yes, trimPrefix_no h]
theorem cap_no' {c : UInt8} {r : List UInt8} (h : small c = false) : cap (c :: r) = c :: r := by
  unfold cap; simp [h]
theorem cut_hit (a : List UInt8) (h : ∀ x ∈ a, x ≠ 58) (r : List UInt8) : Lib.cut (a ++ 58 :: r) [58] = (a, r, true) := by
  have hi : Lib.index (a ++ 58 :: r) [58] = (a.length : Int) := by
    induction a with
    | nil => simp [Lib.index, List.isPrefixOf]
    | cons x t ih =>
      have ih' := ih (fun y hy => h y (List.mem_cons_of_mem _ hy))
      have hx : x ≠ 58 := h x List.mem_cons_self
      rw [List.cons_append, Lib.index, ih', if_neg (by simp [List.isPrefixOf]; exact fun e => hx e.symm), if_neg (by simp)]
      simp
  unfold Lib.cut
  rw [if_pos (by omega), hi]
  simp
theorem space_name {k : Nat} (h1 : 1 ≤ k) (h2 : k < 6) (r : List UInt8) : space (name k ++ 58 :: r) = k := by
  have hk : k = 1 ∨ k = 2 ∨ k = 3 ∨ k = 4 ∨ k = 5 := by omega
  have hn : ∀ x ∈ name k, x ≠ 58 := by rcases hk with rfl | rfl | rfl | rfl | rfl <;> decide
  unfold space
  rw [cut_hit _ hn r, if_pos rfl]
  clear hn
  dsimp only
  rcases hk with rfl | rfl | rfl | rfl | rfl <;> decide
theorem rest_name {k : Nat} (h1 : 1 ≤ k) (h2 : k < 6) {c : UInt8} {r : List UInt8} (hc : c ≠ 32) : rest (name k ++ 58 :: c :: r) = c :: r := by
  have hk : k = 1 ∨ k = 2 ∨ k = 3 ∨ k = 4 ∨ k = 5 := by omega
  have hn : ∀ x ∈ name k, x ≠ 58 := by rcases hk with rfl | rfl | rfl | rfl | rfl <;> decide
  unfold rest
  rw [space_name h1 h2, if_neg (by omega), cut_hit _ hn, trimPrefix_no hc]
/-- What begins with neither a blank nor an underscore nor a colon, and is clean, is read as it is, also behind a colon. -/
theorem head_id {c : UInt8} {r : List UInt8} (h1 : c ≠ 32) (h2 : c ≠ 95) (h3 : c ≠ 58) (hr : Cl r) : head (c :: r) = c :: r ∧ head (58 :: c :: r) = c :: r := by
  constructor
  · unfold head; rw [squeeze_cl h1 h2 hr, skip_no h3]
  · have : Cl (c :: r) := ⟨h2, fun e => absurd e h1, hr⟩
    unfold head; rw [squeeze_cl (by decide) (by decide) this, skip_yes c r h1]
theorem format_head {sp : Int} {l : List UInt8} (h : valid sp l = true) : head (format sp l) = format sp l ∧ head (58 :: format sp l) = format sp l ∧ space (format sp l) = sp.toNat ∧ rest (format sp l) = l := by
  obtain ⟨⟨h0, h6⟩, _, _, hs, _, _⟩ := valid_parts h
  obtain ⟨_, hcl, c, r, e, c1, _, c3, c4, _, hr⟩ := valid_shape h
  rw [format, if_pos h]
  by_cases hz : sp = 0
  · rw [if_pos hz, e]
    have hi := head_id c1 c4 c3 hr
    have hsp : space (c :: r) = sp.toNat := by rw [← e, hs hz, hz]; rfl
    exact ⟨hi.1, hi.2, hsp, by unfold rest; rw [if_pos (by rw [hsp, hz]; rfl)]⟩
  · rw [if_neg hz]
    obtain ⟨k, rfl⟩ : ∃ k : Nat, sp = (k : Int) := ⟨sp.toNat, by omega⟩
    rw [Int.toNat_natCast]
    have hk1 : 1 ≤ k := by omega
    have hk2 : k < 6 := by omega
    have e1 : name k ++ [58] ++ l = name k ++ 58 :: l := by simp
    rw [e1]
    have hcl2 : Cl (58 :: l) := ⟨by decide, fun e => by simp at e, hcl⟩
    have hh : head (name k ++ 58 :: l) = name k ++ 58 :: l ∧ head (58 :: (name k ++ 58 :: l)) = name k ++ 58 :: l := by
      have hk : k = 1 ∨ k = 2 ∨ k = 3 ∨ k = 4 ∨ k = 5 := by omega
      rcases hk with rfl | rfl | rfl | rfl | rfl
      all_goals
        simp only [name, List.cons_append, List.nil_append]
        exact head_id (by decide) (by decide) (by decide) (by simp [Cl]; exact hcl2.2.2)
    exact ⟨hh.1, hh.2, space_name hk1 hk2 l, by rw [e]; exact rest_name hk1 hk2 c1⟩
/-- P1.3: a valid title is read again from its text; also behind a colon. -/
theorem parse_format {sp : Int} {l : List UInt8} (h : valid sp l = true) : parse (format sp l) = ((sp.toNat, l), 0) ∧ parse (58 :: format sp l) = ((sp.toNat, l), 0) := by
  obtain ⟨h1, h2, h3, h4⟩ := format_head h
  obtain ⟨⟨h0, _⟩, hlen, _⟩ := valid_parts h
  obtain ⟨hj, _, c, r, e, _, _, _, _, hs, _⟩ := valid_shape h
  have hcap : cap l = l := by rw [e]; exact cap_no' hs
  have hn : ∀ x, head x = format sp l → parse x = ((sp.toNat, l), 0) := by
    intro x hx
    have hnm : nameOf x = l := by unfold nameOf; rw [hx, h4, join_js hj, hcap]
    have hsp : ((space (head x) : Nat) : Int) = sp := by rw [hx, h3]; omega
    unfold parse
    rw [hnm, if_neg (by omega), hsp, if_pos h, hx, h3]
  exact ⟨hn _ h1, hn _ h2⟩
/-- What was read is valid. -/
theorem parse_valid {l : List UInt8} (h : (parse l).2 = 0) : valid ((parse l).1.1 : Int) (parse l).1.2 = true := by
  unfold parse at h ⊢
  by_cases h1 : 100 < (nameOf l).length
  · rw [if_pos h1] at h; cases h
  · rw [if_neg h1] at h ⊢
    by_cases h2 : valid (space (head l) : Int) (nameOf l) = true
    · rw [if_pos h2]; exact h2
    · rw [if_neg h2] at h; cases h
theorem parse_err {l : List UInt8} (h : (parse l).2 ≠ 0) : (parse l).1 = (0, []) := by
  unfold parse at h ⊢
  by_cases h1 : 100 < (nameOf l).length
  · rw [if_pos h1]
  · rw [if_neg h1] at h ⊢
    by_cases h2 : valid (space (head l) : Int) (nameOf l) = true
    · rw [if_pos h2] at h; exact absurd rfl h
    · rw [if_neg h2]
end Go.Proofs.YtbibekojbjonoaaDoor.Ti
