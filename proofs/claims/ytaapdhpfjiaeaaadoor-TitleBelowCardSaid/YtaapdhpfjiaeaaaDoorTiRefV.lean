/-
  The reference's Valid: the plain part.
-/
import Derived.Test.YtaapdhpfjiaeaaaDoorTiParts
namespace Go.Proofs.YtaapdhpfjiaeaaaDoor.Ti
open Go.RowKit Go.Proofs.YtaapdhpfjiaeaaaDoor.Rf

theorem valid_mk {sp : Int} {l : List UInt8} (h1 : 0 ≤ sp ∧ sp < 6) (h2 : 1 ≤ l.length ∧ l.length ≤ 100) (h3 : ∀ c, l.head? = some c → c ≠ 58 ∧ small c = false) (h4 : sp = 0 → space l = 0) (h5 : vbytes l = true) (h6 : vparts l = true) : valid sp l = true := by
  rw [valid, if_neg (by omega), if_neg (by omega), if_neg, if_neg, h5, h6]
  · rfl
  · rintro ⟨a, b⟩; exact b (h4 a)
  · rintro (h | h)
    · exact (h3 58 h).1 rfl
    · cases hh : l.head? with
      | none => rw [hh] at h; simp at h
      | some c => rw [hh] at h; simp at h; rw [(h3 c hh).2] at h; cases h
theorem valid_not {sp : Int} {l : List UInt8} (h : vbytes l = false ∨ vparts l = false) : valid sp l = false := by
  cases hv : valid sp l
  · rfl
  · obtain ⟨_, _, _, _, h5, h6⟩ := valid_parts hv
    rcases h with h | h
    · rw [h] at h5; cases h5
    · rw [h] at h6; cases h6
theorem contains_two (x : UInt8) : ∀ (a : List UInt8) (c : UInt8), Lib.contains (a ++ [c]) [x, x] = (Lib.contains a [x, x] || (a.getLast? == some x && c == x))
  | [], c => by simp [Lib.contains, Lib.index, List.isPrefixOf]
  | [d], c => by
    simp only [List.cons_append, List.nil_append, Lib.contains, Lib.index, List.isPrefixOf]
    by_cases h1 : x = d
    · by_cases h2 : x = c
      · subst h1; subst h2; simp
      · have h2' : ¬ c = x := fun e => h2 e.symm
        subst h1; simp [h2, h2']
    · have h1' : ¬ d = x := fun e => h1 e.symm
      simp [h1, h1']
  | d :: e :: r, c => by
    have ih := contains_two x (e :: r) c
    have hl : (d :: e :: r).getLast? = (e :: r).getLast? := by simp [List.getLast?_cons_cons]
    rw [hl]
    unfold Lib.contains at ih ⊢
    rw [show (d :: e :: r) ++ [c] = d :: ((e :: r) ++ [c]) from rfl, Lib.index, Lib.index.eq_def (d :: e :: r)]
    have hp : ([x, x] : List UInt8).isPrefixOf (d :: ((e :: r) ++ [c])) = ([x, x] : List UInt8).isPrefixOf (d :: e :: r) := by simp [List.isPrefixOf]
    rw [hp]
    dsimp only
    by_cases h : ([x, x] : List UInt8).isPrefixOf (d :: e :: r) = true
    · simp [h]
    · have h' : ([x, x] : List UInt8).isPrefixOf (d :: e :: r) = false := Bool.eq_false_iff.2 h
      simp only [h', Bool.false_eq_true, if_false]
      have g1 := Lib.index_ge ((e :: r) ++ [c]) [x, x]
      have g2 := Lib.index_ge (e :: r) [x, x]
      have t1 : ∀ n : Int, -1 ≤ n → decide (0 ≤ if (n == -1) = true then -1 else n + 1) = decide (0 ≤ n) := by
        intro n hn
        by_cases he : n = -1
        · subst he; rfl
        · rw [if_neg (by simpa using he)]; apply decide_eq_decide.2; omega
      rw [t1 _ g1, t1 _ g2, ih]
theorem vbytes_snoc (a : List UInt8) (c : UInt8) : vbytes (a ++ [c]) = (vbytes a && (!bad c && !(a.getLast? == some 32 && c == 32))) := by
  unfold vbytes
  rw [List.all_append, contains_two]
  simp only [List.all_cons, List.all_nil, Bool.and_true, Bool.not_or]
  cases a.all (fun c => !bad c) <;> cases bad c <;> cases Lib.contains a [32, 32] <;> simp
theorem vbytes_mono : ∀ (a b : List UInt8), vbytes (a ++ b) = true → vbytes a = true
  | a, [], h => by simpa using h
  | a, c :: b, h => by
    have h1 := vbytes_mono (a ++ [c]) b (by rw [List.append_assoc]; exact h)
    rw [vbytes_snoc, Bool.and_eq_true] at h1
    exact h1.1
theorem vbytes_cut {l : List UInt8} (n : Nat) (h : vbytes (l.take n) = false) : vbytes l = false := by
  cases hv : vbytes l
  · rfl
  · have := vbytes_mono (l.take n) (l.drop n) (by rw [List.take_append_drop]; exact hv)
    rw [this] at h; cases h
theorem vb_step {s : ByteArray} {k : Nat} {hk : k < s.size} (h : vbytes (s.data.toList.take k) = true) (hb : bad s[k] = false) (hd : ¬ ((s.data.toList.take k).getLast? = some 32 ∧ s[k] = 32)) : vbytes (s.data.toList.take (k + 1)) = true := by
  rw [take_snoc s k hk, vbytes_snoc, h, hb]
  simp only [Bool.true_and, Bool.not_false, Bool.not_eq_true', Bool.and_eq_false_iff, beq_eq_false_iff_ne]
  by_cases h1 : (s.data.toList.take k).getLast? = some 32
  · exact .inr fun e => hd ⟨h1, e⟩
  · exact .inl h1
theorem vb_bad {s : ByteArray} {k : Nat} {hk : k < s.size} (hb : bad s[k] = true) : vbytes s.data.toList = false :=
  vbytes_cut (k + 1) (by rw [take_snoc s k hk, vbytes_snoc, hb]; simp)
theorem vb_two {s : ByteArray} {k : Nat} {hk : k < s.size} (h1 : (s.data.toList.take k).getLast? = some 32) (h2 : s[k] = 32) : vbytes s.data.toList = false :=
  vbytes_cut (k + 1) (by rw [take_snoc s k hk, vbytes_snoc, h1, h2]; simp)
theorem take_last {s : ByteArray} {k : Nat} (h0 : 0 < k) (hk : k < s.size) : (s.data.toList.take k).getLast? = some (s[k - 1]'(by omega)) := by
  have := take_snoc s (k - 1) (by omega)
  rw [show k - 1 + 1 = k from by omega] at this
  rw [this, List.getLast?_concat]
theorem bad_index (c : UInt8) : Lib.index [60, 62, 91, 93, 123, 125, 124, 35, 95] [c] = Lib.indexByte [60, 62, 91, 93, 123, 125, 124, 35, 95] c := Lib.index_one _ _
theorem parts_len : ∀ l : List UInt8, (parts 47 l).length ≤ l.length + 1
  | [] => by simp [parts]
  | c :: r => by
    have ih := parts_len r
    obtain ⟨p, q, e⟩ := parts_ne 47 r
    by_cases h : c = 47
    · subst h; rw [parts_cons_eq]; simp; omega
    · rw [parts_cons_ne h e]; rw [e] at ih; simp at ih ⊢; omega
theorem parts_each : ∀ (l : List UInt8) (p : List UInt8), p ∈ parts 47 l → p.length ≤ l.length
  | [], p, hp => by simp [parts] at hp; subst hp; simp
  | c :: r, p, hp => by
    obtain ⟨x, q, e⟩ := parts_ne 47 r
    have ih := parts_each r
    rw [e] at ih
    by_cases h : c = 47
    · subst h
      rw [parts_cons_eq, e] at hp
      rcases List.mem_cons.1 hp with rfl | hp
      · simp
      · have := ih p hp; simp; omega
    · rw [parts_cons_ne h e] at hp
      rcases List.mem_cons.1 hp with rfl | hp
      · have := ih x List.mem_cons_self; simp; omega
      · have := ih p (List.mem_cons_of_mem _ hp); simp; omega
end Go.Proofs.YtaapdhpfjiaeaaaDoor.Ti
