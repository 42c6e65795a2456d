/-
  The reference's parser, its tokens and a formula's tree in memory.
  The contracts of has, is and take of the reference of chapter 8.
  The contract of level of the reference of chapter 8, over those of the rules that it calls.
  The contract of comparison of the reference of chapter 8.
  The contract of unary of the reference of chapter 8.
  The contract of primary of the reference of chapter 8.
  All rules of the reference's grammar together.
-/
import Derived.Test.YtfocokjihbenmaaGreatDoorFoPl
import Derived.Test.YtfocokjihbenmaaGreatDoorFoMm
import Derived.Deep.RegionWith
namespace Go.Proofs.YtfocokjihbenmaaGreatDoor.Fo
open Go.RowKit Go.Proofs.YtfocokjihbenmaaGreatDoor.Nu
set_option linter.unusedVariables false
set_option linter.unusedSimpArgs false

def es : Value := .string ⟨#[]⟩
/-- The value v reads as the tree, its rows in the blocks X. -/
def Rd (X : Nat → Prop) (w : World) : T → Value → Prop
  | .bad, v => v = .agg #[.string ⟨#[]⟩, .string ⟨#[]⟩, .slice none 0 0]
  | .num s, v => v = .agg #[.string ⟨#[]⟩, sv s, .slice none 0 0]
  | .un o x, v => ∃ g t a b c, v = .agg #[sv o, .string ⟨#[]⟩, .slice (some ⟨g, 0, none⟩) 1 1] ∧ X g ∧ w.heap[g]? = some (.cells #[a, b, c] t) ∧ Rd X w x (.agg #[a, b, c])
  | .bin o x y, v => ∃ g t a b c a' b' c', v = .agg #[sv o, .string ⟨#[]⟩, .slice (some ⟨g, 0, none⟩) 2 2] ∧ X g ∧ w.heap[g]? = some (.cells #[a, b, c, a', b', c'] t) ∧ Rd X w x (.agg #[a, b, c]) ∧ Rd X w y (.agg #[a', b', c'])
/-- A node's block. -/
def ro (o t : ByteArray) (A : Option Addr) (k c : Nat) : Obj := .cells #[.string o, .string t, .slice A k c] 50
/-- The parser's block. -/
def po (v : Value) (i : Nat) (b : Bool) : Obj := .cells #[v, .int .i64 (i : Int), .bool b] 72
/-- The parser at block gp: all its tokens, the ones that are left, and whether it has failed. -/
structure Spr (gp bt : Nat) (v : Value) (L : List Tok) (w : World) (l : List Tok) (b : Bool) : Prop where
  o : w.heap[gp]? = some (po v (L.length - l.length) b)
  t : TS bt w v L
  d : L.drop (L.length - l.length) = l
  le : l.length ≤ L.length
  mx : L.length ≤ 600
  ne : bt ≠ gp
  lb : bt < w.heap.size
  nz : ∀ t ∈ L, 0 < t.length ∧ t.length ≤ 19
section
variable {gp bt n : Nat} {w w' : World} {v : Value} {L l r : List Tok} {b : Bool} {o : Tok}
theorem Rd.keep {X X' : Nat → Prop} (k : ∀ i, X i → i < w.heap.size → w'.heap[i]? = w.heap[i]?) (hX : ∀ i, X i → i < w.heap.size → X' i) : ∀ (x : T) (v : Value), Rd X w x v → Rd X' w' x v
  | .bad, _, h => h
  | .num _, _, h => h
  | .un o x, v, ⟨g, t, a, b, c, e, hg, hc, hx⟩ => ⟨g, t, a, b, c, e, hX g hg (lt_heap hc), (k g hg (lt_heap hc)).trans hc, Rd.keep k hX x _ hx⟩
  | .bin o x y, v, ⟨g, t, a, b, c, a', b', c', e, hg, hc, hx, hy⟩ => ⟨g, t, a, b, c, a', b', c', e, hX g hg (lt_heap hc), (k g hg (lt_heap hc)).trans hc, Rd.keep k hX x _ hx, Rd.keep k hX y _ hy⟩
theorem Rd.imp {X X' : Nat → Prop} {x : T} {v : Value} (h : Rd X w x v) (hX : ∀ i, X i → X' i) : Rd X' w x v := Rd.keep (fun _ _ _ => rfl) (fun i h _ => hX i h) x v h
theorem Rd.below {X : Nat → Prop} {x : T} {v : Value} (h : Rd X w x v) (k : Below w.heap.size w w') : Rd X w' x v := Rd.keep (fun i hi hl => k.block i hl) (fun _ h _ => h) x v h
theorem Rd.form {X : Nat → Prop} : ∀ {x : T} {v : Value}, Rd X w x v → ∃ o t A k c, v = .agg #[.string o, .string t, .slice A k c]
  | .bad, _, h => ⟨_, _, _, _, _, h⟩
  | .num _, _, h => ⟨_, _, _, _, _, h⟩
  | .un _ _, _, ⟨_, _, _, _, _, e, _⟩ => ⟨_, _, _, _, _, e⟩
  | .bin _ _ _, _, ⟨_, _, _, _, _, _, _, _, e, _⟩ => ⟨_, _, _, _, _, e⟩
theorem Spr.lt (h : Spr gp bt v L w l b) : gp < w.heap.size := lt_heap h.o
theorem Spr.keep (h : Spr gp bt v L w l b) (k : w'.heap[bt]? = w.heap[bt]?) (k2 : w'.heap[gp]? = w.heap[gp]?) (hz : w.heap.size ≤ w'.heap.size) : Spr gp bt v L w' l b := ⟨k2.trans h.o, h.t.keep k, h.d, h.le, h.mx, h.ne, Nat.lt_of_lt_of_le h.lb hz, h.nz⟩
theorem Spr.below (h : Spr gp bt v L w l b) (k : Below w.heap.size w w') : Spr gp bt v L w' l b := h.keep (k.block _ h.lb) (k.block _ h.lt) k.size
theorem Spr.alloc (h : Spr gp bt v L w l b) (p : Obj) : Spr gp bt v L (w.alloc p) l b := h.below ((Below.refl _ w).alloc (Nat.le_refl _) p)
theorem Spr.c0 (h : Spr gp bt v L w l b) : w.cell? ⟨gp, 0, none⟩ = some v := by unfold World.cell?; rw [h.o]; rfl
theorem Spr.c1 (h : Spr gp bt v L w l b) : w.cell? ⟨gp, 1, none⟩ = some (.int .i64 ((L.length - l.length : Nat) : Int)) := by unfold World.cell?; rw [h.o]; rfl
theorem Spr.c2 (h : Spr gp bt v L w l b) : w.cell? ⟨gp, 2, none⟩ = some (.bool b) := by unfold World.cell?; rw [h.o]; rfl
theorem Spr.f (h : Spr gp bt v L w l b) (o : Nat) : w.frozen? ⟨gp, o, none⟩ = false := by unfold World.frozen?; rw [h.o]; rfl
theorem Spr.fail (h : Spr gp bt v L w l b) : Spr gp bt v L (w.setCell ⟨gp, 2, none⟩ (.bool true)) l true := by
  refine ⟨?_, h.t.keep (Below.heap_setCell _ _ _ _ h.ne), h.d, h.le, h.mx, h.ne, by simpa [World.setCell] using h.lb, h.nz⟩
  simp only [World.setCell, Array.getElem?_modify, if_pos, h.o]
  rfl
theorem Spr.step (h : Spr gp bt v L w (o :: r) b) : Spr gp bt v L (w.setCell ⟨gp, 1, none⟩ (.int .i64 (((L.length - (o :: r).length : Nat) : Int) + 1))) r b := by
  have hle := h.le
  simp only [List.length_cons] at hle
  have e : L.length - (o :: r).length + 1 = L.length - r.length := by simp only [List.length_cons]; omega
  refine ⟨?_, h.t.keep (Below.heap_setCell _ _ _ _ h.ne), ?_, by omega, h.mx, h.ne, by simpa [World.setCell] using h.lb, h.nz⟩
  · rw [← e]
    simp only [World.setCell, Array.getElem?_modify, if_pos, h.o]
    rfl
  · rw [← e, ← List.tail_drop, h.d]; rfl
/-- The next token in memory. -/
theorem Spr.head (h : Spr gp bt v L w (o :: r) b) : ∃ a c, v = .slice (some ⟨bt, a, none⟩) L.length c ∧ L.length ≤ c ∧ c ≤ 9223372036854775807 ∧ L.length - (o :: r).length < L.length ∧ w.cell? ⟨bt, a + (L.length - (o :: r).length), none⟩ = some (sv o) := by
  obtain ⟨A, c, h1, h2, h3, h4⟩ := h.t
  have hle := h.le
  have hd := h.d
  simp only [List.length_cons] at hle
  obtain ⟨a, e, hc⟩ := h4 (by omega)
  refine ⟨a, c, by rw [h1, e], h2, h3, by simp only [List.length_cons]; omega, hc _ _ ?_⟩
  have : (L.drop (L.length - (o :: r).length))[0]? = some o := by rw [hd]; rfl
  rwa [List.getElem?_drop, Nat.add_zero] at this
theorem Spr.len (h : Spr gp bt v L w l b) : ∃ A c, v = .slice A L.length c ∧ L.length ≤ c ∧ c ≤ 9223372036854775807 := by
  obtain ⟨A, c, h1, h2, h3, h4⟩ := h.t; exact ⟨A, c, h1, h2, h3⟩
theorem Spr.nzl (h : Spr gp bt v L w (o :: r) b) : 0 < o.length ∧ o.length ≤ 19 := by
  have hd := h.d
  have : o ∈ L.drop (L.length - (o :: r).length) := by rw [hd]; simp
  exact h.nz o (List.mem_of_mem_drop this)
end
end Go.Proofs.YtfocokjihbenmaaGreatDoor.Fo

namespace Go.Proofs.YtfocokjihbenmaaGreatDoor.Fo
open Go.RowKit Go.Proofs.YtfocokjihbenmaaGreatDoor.Nu
set_option linter.unusedVariables false
set_option linter.unusedSimpArgs false

theorem notin_succ {S : List Tok} {k : Nat} {t x : Tok} (h : t ∉ S.take k) (hx : S[k]? = some x) (hne : x ≠ t) : t ∉ S.take (k + 1) := by
  rw [List.take_add_one, hx]
  simp [h, Ne.symm hne]
set_option maxRecDepth 100000 in
set_option maxHeartbeats 2000000 in
theorem has_any (w : World) (g : Nat) (S : List Tok) (t : Tok) (hS : ∀ j x, S[j]? = some x → w.cell? ⟨g, j, none⟩ = some (sv x)) (hl : S.length ≤ 100) :
    Calls Tryz.prog 106 #[.slice (some ⟨g, 0, none⟩) S.length S.length, sv t] w fun e w' => e = .returned (.bool (decide (t ∈ S))) ∧ w' = w := by
  have HS := Lib.hid hS; clear hS
  unfold sv
  go_enter Tryz.func106, Tryz.ntmps106
  go_wp2_with fail
  go_loopw [5] (fun i wr => ∃ k : Nat, i = .int .i64 k ∧ k ≤ S.length ∧ Hid (wr = w) ∧ Hid (t ∉ S.take k)) (fun i _ => S.length - (intOf i).toNat)
  case atStart => exact ⟨0, rfl, Nat.zero_le _, Lib.hid rfl, Lib.hid (by simp)⟩
  case round =>
    obtain ⟨k, rfl, hk, hw, ha⟩ := hrel
    have hw' := hw.out
    subst hw'
    by_cases hlt : k < S.length
    · have hd : decide ((k : Int) < (S.length : Int)) = true := by rw [decide_eq_true_iff]; omega
      obtain ⟨x, hx⟩ : ∃ x, S[k]? = some x := ⟨_, List.getElem?_eq_getElem hlt⟩
      have hc := HS.out k x hx
      unfold sv at hc
      have hk2 : (k : Int) < (S.length : Int) := by omega
      have HX := Lib.hid hx; clear hx
      by_cases he : x = t
      · have HE : Hid (decide (t ∈ S) = true) := Lib.hid (decide_eq_true (he ▸ List.mem_of_getElem? HX.out))
        have hb : (x == t) = true := by simpa using he
        clear he
        go_wp2_with fail
        go_ret
        exact ⟨by rw [HE.out]; rfl, by first | rfl | trivial⟩
      · have HN := Lib.hid (notin_succ ha.out HX.out he)
        have hb : (x == t) = false := by simpa using he
        clear he
        go_wp2_with fail
        go_roundw
        case rel => exact ⟨k + 1, by simp, by omega, Lib.hid (by first | rfl | trivial), HN⟩
        case measure => simp [intOf]; omega
    · have ek : k = S.length := by omega
      subst ek
      have hd : decide ((S.length : Int) < (S.length : Int)) = false := by simp
      have HE : Hid (decide (t ∈ S) = false) := Lib.hid (decide_eq_false (by have := ha.out; rwa [List.take_of_length_le (Nat.le_refl _)] at this))
      clear hlt
      go_wp2_with fail
      go_ret
      exact ⟨by rw [HE.out]; rfl, by first | rfl | trivial⟩
section
variable {gp bt : Nat} {w : World} {v : Value} {L l : List Tok} {b : Bool} {o : Tok}
theorem sub_len {n m : Nat} (h : m ≤ n) : ((n : Int) - (m : Int)) = ((n - m : Nat) : Int) := by omega
set_option maxRecDepth 100000 in
set_option maxHeartbeats 2000000 in
theorem is_any (h : Spr gp bt v L w l b) (g : Nat) (S : List Tok) (hS : ∀ j x, S[j]? = some x → w.cell? ⟨g, j, none⟩ = some (sv x)) (hl : S.length ≤ 100) :
    Calls Tryz.prog 77 #[.pointer (some ⟨gp, 0, none⟩), .slice (some ⟨g, 0, none⟩) S.length S.length] w fun e w' => e = .returned (.bool (nextB S l b).isSome) ∧ Below w.heap.size w w' := by
  have h0 := h.c0
  have h1 := h.c1
  have h2 := h.c2
  cases b with
  | true =>
    have HN : Hid ((nextB S l true).isSome = false) := Lib.hid rfl
    rw [HN.out]
    clear h0 h1 h
    go_enter Tryz.func77, Tryz.ntmps77
    go_wp2
    go_quiet (fail)
    go_wp2
    go_ret
    exact ⟨rfl, below_drewN (Below.refl _ _) _⟩
  | false =>
    cases l with
    | nil =>
      obtain ⟨A, c, rfl, hc1, hc2⟩ := h.len
      have HN : Hid ((nextB S [] false).isSome = false) := Lib.hid rfl
      rw [HN.out]
      have hz : L.length - ([] : List Tok).length = L.length := rfl
      rw [hz] at h1
      have hd : decide ((L.length : Int) < (L.length : Int)) = false := by simp
      clear h
      go_enter Tryz.func77, Tryz.ntmps77
      go_wp2
      go_quiet (fail)
      go_wp2
      go_ret
      exact ⟨rfl, below_drewN (Below.refl _ _) _⟩
    | cons o r =>
      obtain ⟨a, c, rfl, hc1, hc2, hlt, hcell⟩ := h.head
      obtain ⟨i, hi⟩ : ∃ i, L.length - (o :: r).length = i := ⟨_, rfl⟩
      rw [hi] at h1 hlt hcell
      have HN : Hid ((nextB S (o :: r) false).isSome = decide (o ∈ S)) := Lib.hid (by
        show (if o ∈ S then some (o, r) else none).isSome = _
        by_cases ho : o ∈ S
        · rw [if_pos ho, decide_eq_true ho]; rfl
        · rw [if_neg ho, decide_eq_false ho]; rfl)
      rw [HN.out]
      have hd : decide ((i : Int) < (L.length : Int)) = true := by rw [decide_eq_true_iff]; omega
      have hi2 : (i : Int) < (L.length : Int) := by omega
      have HH : Hid (∀ q, Calls Tryz.prog 106 #[.slice (some ⟨g, 0, none⟩) S.length S.length, sv o] (w.drewN q) fun e w' => e = .returned (.bool (decide (o ∈ S))) ∧ w' = w.drewN q) := Lib.hid fun q => has_any (w.drewN q) g S o hS hl
      clear h
      unfold sv at hcell HH
      go_enter Tryz.func77, Tryz.ntmps77
      go_wp2
      go_quiet ((go_at_call 106; refine (HH.out _).mono ?_; rintro e w' ⟨rfl, rfl⟩; exact ⟨rfl, _, rfl⟩))
      go_wp2
      go_ret
      exact ⟨rfl, below_drewN (Below.refl _ _) _⟩
/-- What take leaves of the tokens. -/
theorem take_sp (h : Spr gp bt v L w (o :: l) b) :
    Calls Tryz.prog 78 #[.pointer (some ⟨gp, 0, none⟩)] w fun e w' => e = .returned (sv o) ∧ Spr gp bt v L w' l b ∧ Fr gp w.heap.size w w' := by
  obtain ⟨a, c, rfl, hc1, hc2, hlt, hcell⟩ := h.head
  have h0 := h.c0
  have h1 := h.c1
  have f1 := h.f 1
  have hs := h.step
  have hs1 := hs.c1
  have hs0 := hs.c0
  have hmx := h.mx
  obtain ⟨i, hi⟩ : ∃ i, L.length - (o :: l).length = i := ⟨_, rfl⟩
  rw [hi] at h1 hlt hcell hs hs1 hs0
  have ei : ((L.length - l.length : Nat) : Int) = (i : Int) + 1 := by simp only [List.length_cons] at hi; have := h.le; simp only [List.length_cons] at this; omega
  rw [ei] at hs1
  have hcell2 : (w.setCell ⟨gp, 1, none⟩ (.int .i64 ((i : Int) + 1))).cell? ⟨bt, a + i, none⟩ = some (sv o) := by
    rw [World.cell?_setCell_other _ _ _ _ (by intro e; have := congrArg Addr.block e; exact h.ne this.symm)]; exact hcell
  have hi2 : (i : Int) < (L.length : Int) := by omega
  have HS := Lib.hid hs
  have hne := h.ne
  clear hs h hi ei
  unfold sv at hcell hcell2 ⊢
  go_enter Tryz.func78, Tryz.ntmps78
  go_wp2
  go_quiet (fail)
  go_wp2
  go_ret
  exact ⟨rfl, HS.out.below (below_drewN (Below.refl _ _) _), (Fr.setCell w.heap.size _ _ _).trans (Fr.of (n := w.heap.size) (below_drewN (Below.refl _ _) _)) (Nat.le_refl _)⟩
end
end Go.Proofs.YtfocokjihbenmaaGreatDoor.Fo

namespace Go.Proofs.YtfocokjihbenmaaGreatDoor.Fo
open Go.RowKit Go.Proofs.YtfocokjihbenmaaGreatDoor.Nu
set_option linter.unusedVariables false
set_option linter.unusedSimpArgs false

theorem nextB_le {s : List Tok} {l : List Tok} {b : Bool} {o : Tok} {r : List Tok} (h : nextB s l b = some (o, r)) : l = o :: r ∧ o ∈ s ∧ b = false := by
  cases b with
  | true => cases h
  | false => exact ⟨(next_le h).1, (next_le h).2, rfl⟩
theorem nextB_len {s : List Tok} {l : List Tok} {b : Bool} {o : Tok} {r : List Tok} (h : nextB s l b = some (o, r)) : l.length = r.length + 1 := by rw [(nextB_le h).1]; rfl
theorem Q_rl : ∀ (n k : Nat) (x : T) (l : List Tok) (b : Bool), (Q n k x l b).r.length ≤ l.length
  | 0, _, _, _, _ => Nat.le_refl _
  | n + 1, k, x, l, b => by
    by_cases h2 : k = 2
    · subst h2; rw [Q_2]
      have h1 := Q_rl n 3 .bad l b
      split
      · rename_i o r h
        have h3 := Q_rl n 3 .bad r (Q n 3 .bad l b).b
        have h4 := nextB_len h
        simp only; omega
      · exact h1
    by_cases h6 : k = 6
    · subst h6; rw [Q_6]
      split
      · rename_i o r h
        have h3 := Q_rl n 6 .bad r b
        have h4 := nextB_len h
        simp only; omega
      · exact Q_rl n 7 .bad l b
    by_cases h7 : k = 7
    · subst h7; rw [Q_7]
      have h1 := Q_rl n 8 .bad l b
      split
      · rename_i o r h
        have h3 := Q_rl n 6 .bad r (Q n 8 .bad l b).b
        have h4 := nextB_len h
        simp only; omega
      · exact h1
    by_cases h8 : k = 8
    · subst h8
      cases b with
      | true => rw [Q_8b]; exact Nat.le_refl _
      | false =>
        cases l with
        | nil => exact Nat.le_refl _
        | cons t l =>
          by_cases hp : t = [40]
          · subst hp; rw [Q_8p]
            have h1 := Q_rl n 0 .bad l false
            split
            · rename_i o r h
              have h4 := nextB_len h
              simp only [List.length_cons]; omega
            · simp only [List.length_cons]; omega
          · rw [Q_8x _ _ _ _ hp]; simp
    by_cases h : k < 10
    · rw [Q_lv n k x l b h h2 h6 h7 h8]
      have h1 := Q_rl n (k + 1) .bad l b
      have h3 := Q_rl n (10 + k) (Q n (k + 1) .bad l b).t (Q n (k + 1) .bad l b).r (Q n (k + 1) .bad l b).b
      omega
    · obtain ⟨j, rfl⟩ : ∃ j, k = 10 + j := ⟨k - 10, by omega⟩
      rw [Q_lp]
      split
      · rename_i o r h
        have h4 := nextB_len h
        have h1 := Q_rl n (j + 1) .bad r b
        have h3 := Q_rl n (10 + j) (.bin o x (Q n (j + 1) .bad r b).t) (Q n (j + 1) .bad r b).r (Q n (j + 1) .bad r b).b
        omega
      · exact Nat.le_refl _
/-- What a rule leaves: a node that reads as the tree, and the parser behind it. -/
def PoR (gp bt : Nat) (v : Value) (L : List Tok) (w : World) (R : Res) (e : Ending) (w' : World) : Prop := ∃ x, e = .returned x ∧ Rd (w.heap.size ≤ ·) w' R.t x ∧ Spr gp bt v L w' R.r R.b ∧ Fr gp w.heap.size w w'
/-- The contract of level at the rule k, at n steps. -/
def LvL (n k : Nat) : Prop := ∀ (gp bt : Nat) (v : Value) (L : List Tok) (w : World) (l : List Tok), Spr gp bt v L w l false → 20 * l.length + (12 - k) ≤ n →
  Calls Tryz.prog 38 #[.pointer (some ⟨gp, 0, none⟩), .int .i64 (k : Int)] w (PoR gp bt v L w (Q n k .bad l false))
/-- The contract of a rule that is a function of its own. -/
def LvF (f : FuncId) (n k : Nat) : Prop := ∀ (gp bt : Nat) (v : Value) (L : List Tok) (w : World) (l : List Tok), Spr gp bt v L w l false → 20 * l.length + (12 - k) ≤ n →
  Calls Tryz.prog f #[.pointer (some ⟨gp, 0, none⟩)] w (PoR gp bt v L w (Q n k .bad l false))
def atI (gp : Nat) (w : World) : Nat := match w.cell? ⟨gp, 1, none⟩ with
  | some (.int _ n) => n.toNat
  | _ => 0
theorem Spr.at_ {gp bt : Nat} {v : Value} {L : List Tok} {w : World} {l : List Tok} {b : Bool} (h : Spr gp bt v L w l b) : L.length - atI gp w = l.length := by
  unfold atI
  rw [h.c1]
  have := h.le
  simp only [Int.toNat_natCast]
  omega
abbrev zno : Obj := .cells #[.string ⟨#[]⟩, .string ⟨#[]⟩, .slice none 0 0] 50
/-- The variable at block c holds a node that reads as x. -/
def VrR (X : Nat → Prop) (w : World) (c : Nat) (x : T) : Prop := ∃ o t A k d, w.heap[c]? = some (ro o t A k d) ∧ Rd X w x (.agg #[.string o, .string t, .slice A k d])
/-- What holds ahead of a round of level. -/
structure ChR (gp bt : Nat) (v : Value) (L : List Tok) (g : Nat) (S : List Tok) (w0 w : World) (cl : Nat) (R : Res) (n k : Nat) (x : T) (l : List Tok) (b : Bool) : Prop where
  st : Spr gp bt v L w l b
  var : VrR (fun i => w0.heap.size < i ∧ i ≠ cl) w cl x
  res : w.heap[w0.heap.size]? = some zno
  row : ∀ j t, S[j]? = some t → w.cell? ⟨g, j, none⟩ = some (sv t)
  fr : Fr gp w0.heap.size w0 w
  eq : Q n (10 + k) x l b = R
  fuel : 20 * l.length + 1 ≤ n
abbrev twoR (o1 t1 : ByteArray) (A1 : Option Addr) (k1 c1 : Nat) (o2 t2 : ByteArray) (A2 : Option Addr) (k2 c2 : Nat) : Obj := .cells #[.string o1, .string t1, .slice A1 k1 c1, .string o2, .string t2, .slice A2 k2 c2] 50
theorem ChR.step {gp bt g : Nat} {v : Value} {L S : List Tok} {w0 w w2 w3 : World} {cl : Nat} {R : Res} {m k : Nat} {x : T} {l r : List Tok} {b : Bool} {o : Tok} {y : Res} {o1 t1 o2 t2 : ByteArray} {A1 A2 : Option Addr} {k1 c1 k2 c2 : Nat}
    (hc : ChR gp bt v L g S w0 w cl R (m + 1) k x l b) (hgp : gp < w0.heap.size) (hbt : bt < w0.heap.size) (hg : w0.heap.size < g) (hgw : g < cl) (hgl : g < w.heap.size) (hlr : l.length = r.length + 1)
    (hv : w.heap[cl]? = some (ro o1 t1 A1 k1 c1)) (hn1 : Rd (fun i => w0.heap.size < i ∧ i ≠ cl) w x (.agg #[.string o1, .string t1, .slice A1 k1 c1]))
    (f2 : Fr gp w.heap.size w w2) (f3 : Fr gp w2.heap.size w2 w3) (hs3 : Spr gp bt v L w3 y.r y.b) (hn2 : Rd (w2.heap.size ≤ ·) w3 y.t (.agg #[.string o2, .string t2, .slice A2 k2 c2]))
    (heq : Q m (10 + k) (.bin o x y.t) y.r y.b = R) (hsz : y.r.length ≤ r.length) :
    ChR gp bt v L g S w0 ((((w3.alloc (twoR o1 t1 A1 k1 c1 o2 t2 A2 k2 c2)).setCell ⟨cl, 0, none⟩ (sv o)).setCell ⟨cl, 1, none⟩ (.string ⟨#[]⟩)).setCell ⟨cl, 2, none⟩ (.slice (some ⟨w3.heap.size, 0, none⟩) 2 2)) cl R m k (.bin o x y.t) y.r y.b := by
  have hz0 := hc.fr.size
  have hz2 := f2.size
  have hz3 := f3.size
  have hclw := lt_heap hv
  have he := hc.res
  have hfu := hc.fuel
  have B34 : Below w3.heap.size w3 (w3.alloc (twoR o1 t1 A1 k1 c1 o2 t2 A2 k2 c2)) := (Below.refl _ w3).alloc (Nat.le_refl _) _
  have F4 : Fr gp w.heap.size w (w3.alloc (twoR o1 t1 A1 k1 c1 o2 t2 A2 k2 c2)) := (f2.trans f3 f2.size).trans (Fr.of B34) (by omega)
  have hc4 : (w3.alloc (twoR o1 t1 A1 k1 c1 o2 t2 A2 k2 c2)).heap[cl]? = some _ := (F4.block cl hclw (by omega)).trans hv
  have hnew : (w3.alloc (twoR o1 t1 A1 k1 c1 o2 t2 A2 k2 c2)).heap[w3.heap.size]? = some _ := heap_new _ _
  have zz : ∀ (W : World) (a b d : Value), (((W.setCell ⟨cl, 0, none⟩ a).setCell ⟨cl, 1, none⟩ b).setCell ⟨cl, 2, none⟩ d).heap.size = W.heap.size := fun W a b d => by simp [World.setCell]
  generalize (w3.alloc (twoR o1 t1 A1 k1 c1 o2 t2 A2 k2 c2)) = w4 at *
  refine ⟨?_, ?_, ?_, fun j t hj => ?_, ?_, heq, by omega⟩
  · exact (hs3.below B34).keep (set3_ne (by omega) _ _ _) (set3_ne (by omega) _ _ _) (by rw [zz]; exact Nat.le_refl _)
  · refine ⟨_, _, _, _, _, set3 hc4 _ _ _, ?_⟩
    refine ⟨w3.heap.size, _, _, _, _, _, _, _, rfl, ⟨by omega, by omega⟩, (set3_ne (by omega) _ _ _).trans hnew, ?_, ?_⟩
    · exact Rd.keep (fun i hi hl => (set3_ne hi.2 _ _ _).trans (F4.block i hl (by omega))) (fun i hi _ => hi) _ _ hn1
    · exact Rd.keep (X := fun i => w2.heap.size ≤ i) (fun i hi hl => (set3_ne (by omega) _ _ _).trans (B34.block i hl)) (fun i hi _ => ⟨by omega, by omega⟩) _ _ hn2
  · exact (set3_ne (by omega) _ _ _).trans ((F4.block _ (lt_heap he) (by omega)).trans he)
  · rw [World.cell?_of_block (w := w4) (set3_ne (by show g ≠ cl; omega) _ _ _), F4.cell hgl (by omega) j none]
    exact hc.row j t hj
  · exact (hc.fr.trans F4 hz0).trans (Fr.of ((((Below.refl w0.heap.size w4).setCell (by show _ ≤ cl; omega) _).setCell (by show _ ≤ cl; omega) _).setCell (by show _ ≤ cl; omega) _)) (Nat.le_refl _)
theorem ops_len (k : Nat) : (ops k).length ≤ 3 := by unfold ops; split <;> decide
theorem szc (W : World) (p : Addr) (u : Value) : (W.setCell p u).heap.size = W.heap.size := by simp [World.setCell]
/-- The world behind the rows that level lays. -/
abbrev W6 (w : World) : World := (((((((w.alloc zno).alloc (.cells #[.string ⟨#[111, 114]⟩] 9)).alloc (.cells #[.string ⟨#[97, 110, 100]⟩] 9)).alloc (.cells #[.string ⟨#[43]⟩, .string ⟨#[45]⟩] 9)).alloc (.cells #[.string ⟨#[42]⟩, .string ⟨#[47]⟩, .string ⟨#[109, 111, 100]⟩] 9)).alloc (.cells #[.string ⟨#[114, 111, 117, 110, 100]⟩] 9)).alloc
        (.cells #[.slice (some ⟨w.heap.size + 1, 0, none⟩) 1 1, .slice (some ⟨w.heap.size + 1 + 1, 0, none⟩) 1 1, .slice none 0 0, .slice (some ⟨w.heap.size + 1 + 1 + 1, 0, none⟩) 2 2, .slice (some ⟨w.heap.size + 1 + 1 + 1 + 1, 0, none⟩) 3 3, .slice (some ⟨w.heap.size + 1 + 1 + 1 + 1 + 1, 0, none⟩) 1 1] 35))
theorem hp_old {W : World} {g : Nat} {o : Obj} (h : W.heap[g]? = some o) (p : Obj) : (W.alloc p).heap[g]? = some o := (Below.heap_alloc _ _ _ (lt_heap h)).trans h
theorem hp_new {W : World} {g : Nat} (h : W.heap.size = g) (o : Obj) : (W.alloc o).heap[g]? = some o := h ▸ heap_new W o
theorem W6_size (w : World) : (W6 w).heap.size = w.heap.size + 7 := by simp [W6]
theorem W6_below (w : World) : Below w.heap.size w (W6 w) := (((((((Below.refl _ w).alloc (Nat.le_refl _) _).alloc (by simp) _).alloc (by simp; omega) _).alloc (by simp; omega) _).alloc (by simp; omega) _).alloc (by simp; omega) _).alloc (by simp; omega) _
theorem W6_res (w : World) : (W6 w).heap[w.heap.size]? = some zno := hp_old (hp_old (hp_old (hp_old (hp_old (hp_old (heap_new w zno) _) _) _) _) _) _
theorem row_of {W : World} {g : Nat} {S : List Tok} {t : TypeId} (h : W.heap[g]? = some (row S t)) : ∀ j x, S[j]? = some x → W.cell? ⟨g, j, none⟩ = some (sv x) := fun j x hj => by
  unfold World.cell?
  rw [show W.heap[(⟨g, j, none⟩ : Addr).block]? = some (row S t) from h]
  simp [row, hj]
/-- The row of operators that level chooses. -/
theorem ops_rows {k : Nat} (hk : k = 0 ∨ k = 1 ∨ k = 3 ∨ k = 4 ∨ k = 5) (w : World) :
    ∃ g, w.heap.size < g ∧ g < w.heap.size + 7 ∧
      (∀ h : k < 6, [Value.slice (some ⟨w.heap.size + 1, 0, none⟩) 1 1, .slice (some ⟨w.heap.size + 1 + 1, 0, none⟩) 1 1, .slice none 0 0, .slice (some ⟨w.heap.size + 1 + 1 + 1, 0, none⟩) 2 2, .slice (some ⟨w.heap.size + 1 + 1 + 1 + 1, 0, none⟩) 3 3, .slice (some ⟨w.heap.size + 1 + 1 + 1 + 1 + 1, 0, none⟩) 1 1][k]'h = .slice (some ⟨g, 0, none⟩) (ops k).length (ops k).length) ∧
      ∀ j t, (ops k)[j]? = some t → (W6 w).cell? ⟨g, j, none⟩ = some (sv t) := by
  rcases hk with rfl | rfl | rfl | rfl | rfl
  · exact ⟨w.heap.size + 1, by omega, by omega, fun _ => rfl, row_of (S := ops 0) (t := 9) (hp_old (hp_old (hp_old (hp_old (hp_old (hp_new (by simp) _) _) _) _) _) _)⟩
  · exact ⟨w.heap.size + 1 + 1, by omega, by omega, fun _ => rfl, row_of (S := ops 1) (t := 9) (hp_old (hp_old (hp_old (hp_old (hp_new (by simp) _) _) _) _) _)⟩
  · exact ⟨w.heap.size + 1 + 1 + 1, by omega, by omega, fun _ => rfl, row_of (S := ops 3) (t := 9) (hp_old (hp_old (hp_old (hp_new (by simp) _) _) _) _)⟩
  · exact ⟨w.heap.size + 1 + 1 + 1 + 1, by omega, by omega, fun _ => rfl, row_of (S := ops 4) (t := 9) (hp_old (hp_old (hp_new (by simp) _) _) _)⟩
  · exact ⟨w.heap.size + 1 + 1 + 1 + 1 + 1, by omega, by omega, fun _ => rfl, row_of (S := ops 5) (t := 9) (hp_old (hp_new (by simp) _) _)⟩
set_option maxRecDepth 100000 in
set_option maxHeartbeats 4000000 in
theorem level_ch (n k : Nat) (hk : k = 0 ∨ k = 1 ∨ k = 3 ∨ k = 4 ∨ k = 5) (hf : ∀ m, m ≤ n → LvL m (k + 1)) : LvL (n + 1) k := by
  intro gp bt v L w l h hn
  have hk6 : k < 6 := by omega
  have hk6i : (k : Int) < 6 := by omega
  have hk2 : ((k : Int) == 2) = false := beq_eq_false_iff_ne.2 (by omega)
  have hk62 : ((k : Int) == 6) = false := beq_eq_false_iff_ne.2 (by omega)
  have hQ : Q (n + 1) k .bad l false = Q n (10 + k) (Q n (k + 1) .bad l false).t (Q n (k + 1) .bad l false).r (Q n (k + 1) .bad l false).b := Q_lv n k .bad l false (by omega) (by omega) (by omega) (by omega) (by omega)
  rw [hQ]
  obtain ⟨g, hg1, hg2, hrow, hW⟩ := ops_rows hk w
  have HW := Lib.hid hW
  have HF := Lib.hid hf; have HS := Lib.hid h
  have hcast : ((k + 1 : Nat) : Int) = (k : Int) + 1 := by omega
  have HL : Hid (∀ (W : World) (l : List Tok) (m : Nat), m ≤ n → Spr gp bt v L W l false → 20 * l.length + (12 - (k + 1)) ≤ m →
      Calls Tryz.prog 38 #[.pointer (some ⟨gp, 0, none⟩), .int .i64 ((k : Int) + 1)] W (PoR gp bt v L W (Q m (k + 1) .bad l false))) := Lib.hid fun W l m hm hS hl => by
    have := HF.out m hm gp bt v L W l hS hl
    rwa [hcast] at this
  have hgp := h.lt
  have hbt := h.lb
  have HK := Lib.hid hk
  have hrl := Q_rl n (k + 1) .bad l false
  obtain ⟨Y, hY⟩ : ∃ Y, Q n (k + 1) .bad l false = Y := ⟨_, rfl⟩
  rw [hY] at hrl ⊢
  obtain ⟨R, hR⟩ : ∃ R, Q n (10 + k) Y.t Y.r Y.b = R := ⟨_, rfl⟩
  rw [hR]
  have HY := Lib.hid hY; have HR := Lib.hid hR
  clear hf h hW hQ hcast hk hY hR
  go_enter Tryz.func38, Tryz.ntmps38
  go_wp2_with fail
  (with_reducible refine (HL.out (W6 w) l n (Nat.le_refl _) (HS.out.below (W6_below w)) (by omega)).mono ?_)
  rintro e w1 ⟨x, rfl, hx, hs, hf⟩
  obtain ⟨o0, t0, A0, k0, c0, rfl⟩ := hx.form
  rw [HY.out] at hx hs
  have hz6 := W6_size w
  have hsz := hf.size
  have J0 : Hid (∃ m x l' b', m ≤ n ∧ ChR gp bt v L g (ops k) w (w1.alloc (ro o0 t0 A0 k0 c0)) w1.heap.size R m k x l' b') := Lib.hid
    ⟨n, _, _, _, Nat.le_refl _, hs.alloc _, ⟨_, _, _, _, _, heap_new _ _, Rd.keep (X := fun i => (W6 w).heap.size ≤ i) (fun i _ hl => Below.heap_alloc _ _ _ hl) (fun i hi hl => ⟨by omega, by omega⟩) _ _ hx⟩,
      hp_old ((hf.block _ (by omega) (by omega)).trans (W6_res w)) _, fun j t hj => by
        rw [World.cell?_of_block (w := w1) (Below.heap_alloc _ _ _ (by show g < w1.heap.size; omega)), hf.cell (by omega) (by omega) j none]
        exact HW.out j t hj, (((Fr.of (W6_below w)).trans hf (by omega)).alloc (by omega) _), HR.out, by omega⟩
  have hgw1 : g < w1.heap.size := by omega
  have hww1 : w.heap.size < w1.heap.size := by omega
  clear hx hs hf hsz hz6 hrl HW HF HY HR
  unfold ro at J0
  go_wp2_with fail
  have hol := ops_len k
  go_loopw [7] (fun _ wr => Hid (∃ m x l' b', m ≤ n ∧ ChR gp bt v L g (ops k) w wr w1.heap.size R m k x l' b')) (fun _ wr => L.length - atI gp wr)
  case atStart => exact J0
  case round =>
    obtain ⟨m, x, l', b', hm, hc⟩ := hrel.out
    clear hrel J0
    obtain ⟨m, rfl⟩ : ∃ j, m = j + 1 := ⟨m - 1, by have := hc.fuel; omega⟩
    have hlen := hc.st.at_
    have HT := Lib.hid (is_any hc.st g (ops k) hc.row (by omega))
    have HC := Lib.hid hc
    cases hx : nextB (ops k) l' b' with
    | none =>
      rw [hx] at HT
      have heq : (⟨x, l', b'⟩ : Res) = R := by have := hc.eq; rw [Q_lp, hx] at this; exact this
      have HE := Lib.hid heq; clear heq hx hc
      go_wp2_with fail
      (with_reducible refine HT.out.mono ?_)
      rintro e w2 ⟨rfl, hb2⟩
      obtain ⟨o1, t1, A1, k1, c1, hv, hn1⟩ := HC.out.var
      have hr := HC.out.res
      have hz2 := hb2.size
      have hlv := lt_heap hv
      have hlr := lt_heap hr
      have hcl : w2.heap[w1.heap.size]? = some _ := (hb2.block _ hlv).trans hv
      have hcr : w2.heap[w.heap.size]? = some _ := (hb2.block _ hlr).trans hr
      unfold ro at hcl
      obtain ⟨q0, q1, q2, qf⟩ := c3 hcl
      obtain ⟨p0, p1, p2, pf⟩ := c3 hcr
      have pf0 := pf 0; have pf1 := pf 1; have pf2 := pf 2
      have hN : Rd (w.heap.size ≤ ·) (((w2.setCell ⟨w.heap.size, 0, none⟩ (.string o1)).setCell ⟨w.heap.size, 1, none⟩ (.string t1)).setCell ⟨w.heap.size, 2, none⟩ (.slice A1 k1 c1)) x (.agg #[.string o1, .string t1, .slice A1 k1 c1]) :=
        Rd.keep (X := fun i => w.heap.size < i ∧ i ≠ w1.heap.size) (fun i hi hl => (set3_ne (by omega) _ _ _).trans (hb2.block i hl)) (fun i hi _ => Nat.le_of_lt hi.1) _ _ hn1
      have hS9 : Spr gp bt v L (((w2.setCell ⟨w.heap.size, 0, none⟩ (.string o1)).setCell ⟨w.heap.size, 1, none⟩ (.string t1)).setCell ⟨w.heap.size, 2, none⟩ (.slice A1 k1 c1)) l' b' :=
        (HC.out.st.below hb2).keep (set3_ne (by omega) _ _ _) (set3_ne (by omega) _ _ _) (by simp [World.setCell])
      have hZ := set3 hcr (.string o1) (.string t1) (.slice A1 k1 c1)
      have hF : Fr gp w.heap.size w (((w2.setCell ⟨w.heap.size, 0, none⟩ (.string o1)).setCell ⟨w.heap.size, 1, none⟩ (.string t1)).setCell ⟨w.heap.size, 2, none⟩ (.slice A1 k1 c1)) :=
        (HC.out.fr.trans (Fr.of hb2) HC.out.fr.size).trans (Fr.of ((((Below.refl w.heap.size w2).setCell (Nat.le_refl _) _).setCell (Nat.le_refl _) _).setCell (Nat.le_refl _) _)) (Nat.le_refl _)
      clear hv hn1 hr hcl hcr hb2
      go_wp2_with fail
      generalize (((w2.setCell ⟨w.heap.size, 0, none⟩ (.string o1)).setCell ⟨w.heap.size, 1, none⟩ (.string t1)).setCell ⟨w.heap.size, 2, none⟩ (.slice A1 k1 c1)) = W9 at hZ hN hS9 hF ⊢
      obtain ⟨z0, z1, z2, _⟩ := c3 hZ
      refine bodyPost_ret (v := .agg #[.string o1, .string t1, .slice A1 k1 c1]) (by simp [results, Tryz.results38, go_sem, z0, z1, z2]) rfl ?_
      rw [← HE.out]
      exact ⟨_, rfl, hN, hS9, hF⟩
    | some y =>
      obtain ⟨o, r⟩ := y
      rw [hx] at HT
      obtain ⟨rfl, ho, rfl⟩ := nextB_le hx
      have heq : Q m (10 + k) (.bin o x (Q m (k + 1) .bad r false).t) (Q m (k + 1) .bad r false).r (Q m (k + 1) .bad r false).b = R := by have := hc.eq; rw [Q_lp, hx] at this; exact this
      have hfu := hc.fuel
      have HE := Lib.hid heq; clear heq hx hc
      simp only [List.length_cons] at hfu hlen
      go_wp2_with fail
      (with_reducible refine HT.out.mono ?_)
      rintro e w2 ⟨rfl, hb2⟩
      have HTk := Lib.hid (take_sp (HC.out.st.below hb2))
      have HB2 := Lib.hid hb2
      clear hb2
      go_wp2_with fail
      (with_reducible refine HTk.out.mono ?_)
      rintro e w3 ⟨rfl, hs3, hf3⟩
      unfold sv
      obtain ⟨o1, t1, A1, k1, c1, hv, hn1⟩ := HC.out.var
      have F3 : Fr gp wr.heap.size wr w3 := (Fr.of HB2.out).trans hf3 HB2.out.size
      have hlv := lt_heap hv
      have hcl : w3.heap[w1.heap.size]? = some _ := (F3.block _ hlv (by omega)).trans hv
      have hlc := lt_heap hcl
      unfold ro at hcl
      obtain ⟨q0, q1, q2, qf⟩ := c3 hcl
      have HN := Lib.hid hn1
      have HS3 := Lib.hid hs3
      have HF3 := Lib.hid F3
      have HCL := Lib.hid hcl
      have HV := Lib.hid hv
      have HQ : Hid (Calls Tryz.prog 38 #[.pointer (some ⟨gp, 0, none⟩), .int .i64 ((k : Int) + 1)] w3.drew (PoR gp bt v L w3.drew (Q m (k + 1) .bad r false))) := Lib.hid
        (HL.out w3.drew r m (by omega) (HS3.out.keep rfl rfl (Nat.le_refl _)) (by omega))
      clear hs3 hf3 hv hn1 hcl F3
      have hrl := Q_rl m (k + 1) .bad r false
      have hwk : IntKind.i64.wrap ((k : Int) + 1) = (k : Int) + 1 := by rw [IntKind.wrap_i64]; omega
      go_wp2_with fail
      go_region_with (first
        | (go_at_call 38; (with_reducible refine HQ.out.mono ?_); rintro e w4 ⟨xv, rfl, hx4, hs4, hf4⟩; obtain ⟨o2, t2, A2, k2, c2, rfl⟩ := hx4.form; obtain ⟨y0, y1, y2, yf⟩ := c3 ((hf4.block w1.heap.size (lt_heap HCL.out) (by omega)).trans HCL.out); have yl : w1.heap.size < w4.heap.size := Nat.lt_of_lt_of_le (lt_heap HCL.out) hf4.size))
      all_goals
        have f4 : Fr gp w3.heap.size w3 w4 := ⟨hf4.os, hf4.tape, hf4.output, hf4.size, hf4.block⟩
        have hx4' : Rd (w3.heap.size ≤ ·) w4 (Q m (k + 1) .bad r false).t (.agg #[.string o2, .string t2, .slice A2 k2 c2]) := hx4
        have HX4 := Lib.hid (And.intro f4 (And.intro hs4 hx4'))
        clear hf4 hx4 hs4 f4 hx4'
        have hJ := ChR.step (y := Q m (k + 1) .bad r false) HC.out hgp hbt hg1 hgw1 (Nat.lt_of_lt_of_le hgw1 (Nat.le_of_lt (lt_heap HV.out))) rfl HV.out HN.out HF3.out HX4.out.1 HX4.out.2.1 HX4.out.2.2 HE.out hrl
        rw [World.setCell_alloc_past _ _ _ _ yl, World.setCell_alloc_past _ _ _ _ (by rw [szc]; exact yl), World.setCell_alloc_past _ _ _ _ (by rw [szc, szc]; exact yl)] at hJ
        have JN := Lib.hid hJ
        clear hJ
        go_roundw
        case rel => exact ⟨_, _, _, _, _, _, _, _, _, _, _, _, _, _, Lib.hid ⟨m, _, _, _, by omega, JN.out⟩, rfl⟩
        case measure =>
          have h1 := JN.out.st.at_
          have h3 : ∀ a b : Nat, a = (Q m (k + 1) .bad r false).r.length → b = r.length + 1 → a < b := by omega
          exact h3 _ _ h1 hlen
end Go.Proofs.YtfocokjihbenmaaGreatDoor.Fo

namespace Go.Proofs.YtfocokjihbenmaaGreatDoor.Fo
open Go.RowKit Go.Proofs.YtfocokjihbenmaaGreatDoor.Nu
set_option linter.unusedVariables false
set_option linter.unusedSimpArgs false

section
variable {gp bt : Nat} {v : Value} {L r : List Tok} {b : Bool} {w W : World} {T : T} {t : TypeId}
/-- A result is written into the call's own variable, at the block behind the first world. -/
theorem fin_po {c0 c1 c2 : Value} (hr : W.heap[w.heap.size]? = some (.cells #[c0, c1, c2] t)) (hgp : gp < w.heap.size) (hbt : bt < w.heap.size) (hs : Spr gp bt v L W r b) (hF : Fr gp w.heap.size w W)
    {o1 t1 : ByteArray} {A1 : Option Addr} {k1 d1 : Nat} (hR : Rd (fun i => w.heap.size < i) W T (.agg #[.string o1, .string t1, .slice A1 k1 d1])) :
    (((W.setCell ⟨w.heap.size, 0, none⟩ (.string o1)).setCell ⟨w.heap.size, 1, none⟩ (.string t1)).setCell ⟨w.heap.size, 2, none⟩ (.slice A1 k1 d1)).heap[w.heap.size]? = some (.cells #[.string o1, .string t1, .slice A1 k1 d1] t) ∧
    PoR gp bt v L w ⟨T, r, b⟩ (.returned (.agg #[.string o1, .string t1, .slice A1 k1 d1])) (((W.setCell ⟨w.heap.size, 0, none⟩ (.string o1)).setCell ⟨w.heap.size, 1, none⟩ (.string t1)).setCell ⟨w.heap.size, 2, none⟩ (.slice A1 k1 d1)) :=
  ⟨set3 hr _ _ _, _, rfl, Rd.keep (X := fun i => w.heap.size < i) (fun i hi hl => set3_ne (by omega) _ _ _) (fun i hi _ => Nat.le_of_lt hi) _ _ hR,
    hs.keep (set3_ne (by omega) _ _ _) (set3_ne (by omega) _ _ _) (by simp [World.setCell]),
    hF.trans (Fr.of ((((Below.refl w.heap.size W).setCell (Nat.le_refl _) _).setCell (Nat.le_refl _) _).setCell (Nat.le_refl _) _)) (Nat.le_refl _)⟩
end
theorem rd_bin {X : Nat → Prop} {w4 : World} {x y : T} (o : Tok) {o1 t1 o2 t2 : ByteArray} {A1 A2 : Option Addr} {k1 c1 k2 c2 : Nat} (hX : X w4.heap.size) (hx : Rd X w4 x (.agg #[.string o1, .string t1, .slice A1 k1 c1])) (hy : Rd X w4 y (.agg #[.string o2, .string t2, .slice A2 k2 c2])) :
    Rd X (w4.alloc (twoR o1 t1 A1 k1 c1 o2 t2 A2 k2 c2)) (.bin o x y) (.agg #[.string ⟨o.toArray⟩, .string ⟨#[]⟩, .slice (some ⟨w4.heap.size, 0, none⟩) 2 2]) :=
  have B : Below w4.heap.size w4 (w4.alloc (twoR o1 t1 A1 k1 c1 o2 t2 A2 k2 c2)) := (Below.refl _ _).alloc (Nat.le_refl _) _
  ⟨w4.heap.size, _, _, _, _, _, _, _, rfl, hX, heap_new _ _, hx.below B, hy.below B⟩
theorem rd_un {X : Nat → Prop} {w4 : World} {x : T} (o : Tok) {o1 t1 : ByteArray} {A1 : Option Addr} {k1 c1 : Nat} (hX : X w4.heap.size) (hx : Rd X w4 x (.agg #[.string o1, .string t1, .slice A1 k1 c1])) :
    Rd X (w4.alloc (ro o1 t1 A1 k1 c1)) (.un o x) (.agg #[.string ⟨o.toArray⟩, .string ⟨#[]⟩, .slice (some ⟨w4.heap.size, 0, none⟩) 1 1]) :=
  have B : Below w4.heap.size w4 (w4.alloc (ro o1 t1 A1 k1 c1)) := (Below.refl _ _).alloc (Nat.le_refl _) _
  ⟨w4.heap.size, _, _, _, _, rfl, hX, heap_new _ _, hx.below B⟩
/-- What stands in memory once the first operand x of a rule has been read: its variable and the call's own one. -/
structure Op1 (gp bt : Nat) (v : Value) (L : List Tok) (w : World) (c : Nat) (x : T) (W : World) (o1 t1 : ByteArray) (A1 : Option Addr) (k1 c1 : Nat) (l : List Tok) (b : Bool) : Prop where
  st : Spr gp bt v L W l b
  res : W.heap[w.heap.size]? = some zno
  var : W.heap[c]? = some (ro o1 t1 A1 k1 c1)
  rd : Rd (fun i => w.heap.size < i) W x (.agg #[.string o1, .string t1, .slice A1 k1 c1])
  fr : Fr gp w.heap.size w W
  lt : w.heap.size < c
section
variable {gp bt c : Nat} {v : Value} {L l : List Tok} {b : Bool} {w W W' : World} {x : T} {o1 t1 : ByteArray} {A1 : Option Addr} {k1 c1 : Nat}
theorem Op1.below (h : Op1 gp bt v L w c x W o1 t1 A1 k1 c1 l b) (hb : Below W.heap.size W W') : Op1 gp bt v L w c x W' o1 t1 A1 k1 c1 l b :=
  ⟨h.st.below hb, (hb.block _ (lt_heap h.res)).trans h.res, (hb.block _ (lt_heap h.var)).trans h.var, h.rd.below hb, h.fr.trans (Fr.of hb) h.fr.size, h.lt⟩
theorem Op1.fr' (h : Op1 gp bt v L w c x W o1 t1 A1 k1 c1 l b) (hgp : gp < w.heap.size) (hb : Fr gp W.heap.size W W') {l' : List Tok} {b' : Bool} (hs : Spr gp bt v L W' l' b') : Op1 gp bt v L w c x W' o1 t1 A1 k1 c1 l' b' :=
  ⟨hs, (hb.block _ (lt_heap h.res) (by omega)).trans h.res, (hb.block _ (lt_heap h.var) (by have := h.lt; omega)).trans h.var, Rd.keep (X := fun i => w.heap.size < i) (fun i hi hl => hb.block i hl (by omega)) (fun _ h _ => h) _ _ h.rd, h.fr.trans hb h.fr.size, h.lt⟩
end
section
variable {gp bt c : Nat} {v : Value} {L r : List Tok} {b : Bool} {w w4 : World} {x y : T} {o1 t1 o2 t2 : ByteArray} {A1 A2 : Option Addr} {k1 c1 k2 c2 : Nat}
theorem fin_two (o : Tok) (h : Op1 gp bt v L w c x w4 o1 t1 A1 k1 c1 r b) (hy : Rd (fun i => w.heap.size < i) w4 y (.agg #[.string o2, .string t2, .slice A2 k2 c2])) (hgp : gp < w.heap.size) (hbt : bt < w.heap.size) :
    ((((w4.setCell ⟨w.heap.size, 0, none⟩ (.string ⟨o.toArray⟩)).setCell ⟨w.heap.size, 1, none⟩ (.string ⟨#[]⟩)).setCell ⟨w.heap.size, 2, none⟩ (.slice (some ⟨w4.heap.size, 0, none⟩) 2 2)).alloc (twoR o1 t1 A1 k1 c1 o2 t2 A2 k2 c2)).heap[w.heap.size]? = some (.cells #[.string ⟨o.toArray⟩, .string ⟨#[]⟩, .slice (some ⟨w4.heap.size, 0, none⟩) 2 2] 50) ∧
    PoR gp bt v L w ⟨.bin o x y, r, b⟩ (.returned (.agg #[.string ⟨o.toArray⟩, .string ⟨#[]⟩, .slice (some ⟨w4.heap.size, 0, none⟩) 2 2])) ((((w4.setCell ⟨w.heap.size, 0, none⟩ (.string ⟨o.toArray⟩)).setCell ⟨w.heap.size, 1, none⟩ (.string ⟨#[]⟩)).setCell ⟨w.heap.size, 2, none⟩ (.slice (some ⟨w4.heap.size, 0, none⟩) 2 2)).alloc (twoR o1 t1 A1 k1 c1 o2 t2 A2 k2 c2)) := by
  have hl := lt_heap h.res
  have hP := fin_po (hp_old h.res (twoR o1 t1 A1 k1 c1 o2 t2 A2 k2 c2)) hgp hbt (h.st.alloc _) (h.fr.alloc (Nat.le_of_lt hl) _) (rd_bin o hl h.rd hy)
  rwa [World.setCell_alloc_past _ _ _ _ hl, World.setCell_alloc_past _ _ _ _ (by rw [szc]; exact hl), World.setCell_alloc_past _ _ _ _ (by rw [szc, szc]; exact hl)] at hP
theorem fin_one (o : Tok) (hr : w4.heap[w.heap.size]? = some zno) (hs : Spr gp bt v L w4 r b) (hF : Fr gp w.heap.size w w4) (hx : Rd (fun i => w.heap.size < i) w4 x (.agg #[.string o1, .string t1, .slice A1 k1 c1])) (hgp : gp < w.heap.size) (hbt : bt < w.heap.size) :
    ((((w4.setCell ⟨w.heap.size, 0, none⟩ (.string ⟨o.toArray⟩)).setCell ⟨w.heap.size, 1, none⟩ (.string ⟨#[]⟩)).setCell ⟨w.heap.size, 2, none⟩ (.slice (some ⟨w4.heap.size, 0, none⟩) 1 1)).alloc (ro o1 t1 A1 k1 c1)).heap[w.heap.size]? = some (.cells #[.string ⟨o.toArray⟩, .string ⟨#[]⟩, .slice (some ⟨w4.heap.size, 0, none⟩) 1 1] 50) ∧
    PoR gp bt v L w ⟨.un o x, r, b⟩ (.returned (.agg #[.string ⟨o.toArray⟩, .string ⟨#[]⟩, .slice (some ⟨w4.heap.size, 0, none⟩) 1 1])) ((((w4.setCell ⟨w.heap.size, 0, none⟩ (.string ⟨o.toArray⟩)).setCell ⟨w.heap.size, 1, none⟩ (.string ⟨#[]⟩)).setCell ⟨w.heap.size, 2, none⟩ (.slice (some ⟨w4.heap.size, 0, none⟩) 1 1)).alloc (ro o1 t1 A1 k1 c1)) := by
  have hl := lt_heap hr
  have hP := fin_po (hp_old hr (ro o1 t1 A1 k1 c1)) hgp hbt (hs.alloc _) (hF.alloc (Nat.le_of_lt hl) _) (rd_un o hl hx)
  rwa [World.setCell_alloc_past _ _ _ _ hl, World.setCell_alloc_past _ _ _ _ (by rw [szc]; exact hl), World.setCell_alloc_past _ _ _ _ (by rw [szc, szc]; exact hl)] at hP
end
set_option maxRecDepth 100000 in
set_option maxHeartbeats 4000000 in
theorem comparison_any (m : Nat) (hf : LvL m 3) : LvF 75 (m + 1) 2 := by
  intro gp bt v L w l h hn
  have hgp := h.lt
  have hbt := h.lb
  have hQ := Q_2 m .bad l false
  have hrl := Q_rl m 3 .bad l false
  have hz1 : (w.alloc zno).heap.size = w.heap.size + 1 := World.size_alloc _ _
  have HL : Hid (Calls Tryz.prog 38 #[.pointer (some ⟨gp, 0, none⟩), .int .i64 3] (w.alloc zno) (PoR gp bt v L (w.alloc zno) (Q m 3 .bad l false))) := Lib.hid (hf gp bt v L (w.alloc zno) l (h.alloc _) (by omega))
  obtain ⟨Y, hY⟩ : ∃ Y, Q m 3 .bad l false = Y := ⟨_, rfl⟩
  rw [hY] at hQ hrl HL
  generalize Q (m + 1) 2 .bad l false = RR at hQ ⊢
  have HQ := Lib.hid hQ
  have HF := Lib.hid hf
  clear h hQ hY hf
  go_enter Tryz.func75, Tryz.ntmps75
  go_wp2_with fail
  (with_reducible refine HL.out.mono ?_)
  rintro e w1 ⟨xv, rfl, hx, hs, hf1⟩
  obtain ⟨o1, t1, A1, k1, c1, rfl⟩ := hx.form
  have hsz := hf1.size
  rw [hz1] at hsz
  have hO : Op1 gp bt v L w w1.heap.size Y.t ((w1.alloc (ro o1 t1 A1 k1 c1)).alloc (row cmps 9)) o1 t1 A1 k1 c1 Y.r Y.b := by
    refine Op1.below ⟨hs.alloc _, hp_old ((hf1.block _ (by omega) (by omega)).trans (heap_new w zno)) _, heap_new _ _, ?_, ((Fr.of ((Below.refl w.heap.size w).alloc (Nat.le_refl _) _)).trans hf1 (by omega)).alloc (by omega) _, by omega⟩ ((Below.refl _ _).alloc (Nat.le_refl _) _)
    exact Rd.keep (X := fun i => (w.alloc zno).heap.size ≤ i) (fun i _ hl => Below.heap_alloc _ _ _ hl) (fun i hi _ => by rw [hz1] at hi; omega) _ _ hx
  have HT := Lib.hid (is_any hO.st (w1.heap.size + 1) cmps (row_of (t := 9) (hp_new (by simp) _)) (by decide))
  rw [show (cmps : List Tok).length = 6 from rfl] at HT
  have HO := Lib.hid hO
  clear hx hs hf1 hO
  unfold row sv at HT HO
  simp only [cmps, List.map_cons, List.map_nil] at HT HO
  unfold ro at HT
  cases hq : nextB [[61], [60, 62], [60], [62], [60, 61], [62, 61]] Y.r Y.b with
  | none =>
    have HE : Hid (RR = Y) := Lib.hid (by rw [HQ.out, show cmps = [[61], [60, 62], [60], [62], [60, 61], [62, 61]] from rfl, hq])
    rw [hq] at HT
    go_wp2_with fail
    (with_reducible refine HT.out.mono ?_)
    rintro e w2 ⟨rfl, hb2⟩
    have hO2 := HO.out.below hb2
    obtain ⟨p0, p1, p2, pf⟩ := c3 hO2.res
    have pf0 := pf 0; have pf1 := pf 1; have pf2 := pf 2
    have hv2 := hO2.var
    unfold ro at hv2
    obtain ⟨q0, q1, q2, qf⟩ := c3 hv2
    have hlr := lt_heap hO2.res
    have hlv := lt_heap hv2
    have hP := fin_po hO2.res hgp hbt hO2.st hO2.fr hO2.rd
    have HP := Lib.hid hP
    clear hb2 hO2 hv2 hP
    go_wp2_with fail
    obtain ⟨hz, hp⟩ := HP.out
    generalize (((w2.setCell ⟨w.heap.size, 0, none⟩ (.string o1)).setCell ⟨w.heap.size, 1, none⟩ (.string t1)).setCell ⟨w.heap.size, 2, none⟩ (.slice A1 k1 c1)) = W9 at hz hp ⊢
    obtain ⟨z0, z1, z2, _⟩ := c3 hz
    refine bodyPost_ret (v := .agg #[.string o1, .string t1, .slice A1 k1 c1]) (by simp [results, Tryz.results75, go_sem, z0, z1, z2]) rfl ?_
    rw [HE.out]
    exact hp
  | some y =>
    obtain ⟨o, r⟩ := y
    rw [hq] at HT
    obtain ⟨hl, ho, hb⟩ := nextB_le hq
    have HE : Hid (RR = ⟨.bin o Y.t (Q m 3 .bad r false).t, (Q m 3 .bad r false).r, (Q m 3 .bad r false).b⟩) := Lib.hid (by rw [HQ.out, show cmps = [[61], [60, 62], [60], [62], [60, 61], [62, 61]] from rfl, hq]; simp only [hb])
    have hlen : r.length + 1 ≤ l.length := by rw [hl] at hrl; simpa using hrl
    rw [hl, hb] at HO
    clear hq hl hb
    go_wp2_with fail
    (with_reducible refine HT.out.mono ?_)
    rintro e w2 ⟨rfl, hb2⟩
    have hO2 := HO.out.below hb2
    have HTk := Lib.hid (take_sp hO2.st)
    have HO2 := Lib.hid hO2
    clear hb2 hO2
    go_wp2_with fail
    (with_reducible refine HTk.out.mono ?_)
    rintro e w3 ⟨rfl, hs3, hf3⟩
    unfold sv
    have hO3 := HO2.out.fr' hgp hf3 hs3
    have hv3 := hO3.var
    unfold ro at hv3
    obtain ⟨q0, q1, q2, qf⟩ := c3 hv3
    have hlv := lt_heap hv3
    have HO3 := Lib.hid hO3
    have HQ3 : Hid (Calls Tryz.prog 38 #[.pointer (some ⟨gp, 0, none⟩), .int .i64 3] w3.drew (PoR gp bt v L w3.drew (Q m 3 .bad r false))) := Lib.hid
        (HF.out gp bt v L w3.drew r (hs3.keep rfl rfl (Nat.le_refl _)) (by omega))
    clear hs3 hf3 hO3 hv3
    go_wp2_with fail
    go_region_with (first
      | (go_at_call 38; (with_reducible refine HQ3.out.mono ?_); rintro e w4 ⟨xv, rfl, hx4, hs4, hf4⟩; obtain ⟨o2, t2, A2, k2, c2, rfl⟩ := hx4.form
         have hO4 := HO3.out.fr' hgp (W' := w4) ⟨hf4.os, hf4.tape, hf4.output, hf4.size, hf4.block⟩ hs4
         obtain ⟨y0, y1, y2, yf⟩ := c3 (show w4.heap[w1.heap.size]? = some (.cells #[.string o1, .string t1, .slice A1 k1 c1] 50) from hO4.var)
         obtain ⟨p0, p1, p2, pf⟩ := c3 hO4.res
         have pf0 := pf 0; have pf1 := pf 1; have pf2 := pf 2
         have hl4 := lt_heap hO4.res
         have hl5 := lt_heap hO4.var))
    all_goals
      have hy := Rd.imp (X' := fun i => w.heap.size < i) hx4 (fun i hi => Nat.lt_of_lt_of_le (lt_heap HO3.out.res) hi)
      have HP := Lib.hid (fin_two o hO4 hy hgp hbt)
      clear hy hO4 hx4 hs4 hf4 y0 y1 y2 yf p0 p1 p2 pf pf0 pf1 pf2
      go_wp2_with fail
      obtain ⟨hz, hp⟩ := HP.out
      generalize ((((w4.setCell ⟨w.heap.size, 0, none⟩ (.string ⟨o.toArray⟩)).setCell ⟨w.heap.size, 1, none⟩ (.string ⟨#[]⟩)).setCell ⟨w.heap.size, 2, none⟩ (.slice (some ⟨w4.heap.size, 0, none⟩) 2 2)).alloc (twoR o1 t1 A1 k1 c1 o2 t2 A2 k2 c2)) = W9 at hz hp ⊢
      obtain ⟨z0, z1, z2, _⟩ := c3 hz
      refine bodyPost_ret (v := .agg #[.string ⟨o.toArray⟩, .string ⟨#[]⟩, .slice (some ⟨w4.heap.size, 0, none⟩) 2 2]) (by simp [results, Tryz.results75, go_sem, z0, z1, z2]) rfl ?_
      rw [HE.out]
      exact hp
end Go.Proofs.YtfocokjihbenmaaGreatDoor.Fo

namespace Go.Proofs.YtfocokjihbenmaaGreatDoor.Fo
open Go.RowKit Go.Proofs.YtfocokjihbenmaaGreatDoor.Nu
set_option linter.unusedVariables false
set_option linter.unusedSimpArgs false

set_option maxRecDepth 100000 in
set_option maxHeartbeats 4000000 in
theorem unary_any (n : Nat) (hu1 : LvF 76 (n + 1) 6) (hu0 : LvF 76 n 6) (hp : LvF 107 n 8) : LvF 76 (n + 2) 6 := by
  intro gp bt v L w l h hn
  have hgp := h.lt
  have hbt := h.lb
  have hQ6 := Q_6 (n + 1) .bad l false
  have hQ7 := Q_7 n .bad l false
  have hz1 : (w.alloc zno).heap.size = w.heap.size + 1 := World.size_alloc _ _
  have hS1 : Spr gp bt v L ((w.alloc zno).alloc (row uns 9)) l false := (h.alloc _).alloc _
  have hB1 : Below w.heap.size w ((w.alloc zno).alloc (row uns 9)) := ((Below.refl _ w).alloc (Nat.le_refl _) _).alloc (by simp) _
  have hR1 : ((w.alloc zno).alloc (row uns 9)).heap[w.heap.size]? = some zno := hp_old (heap_new _ _) _
  have HT := Lib.hid (is_any hS1 (w.heap.size + 1) uns (row_of (t := 9) (hp_new (by simp) _)) (by decide))
  rw [show (uns : List Tok).length = 4 from rfl] at HT
  generalize Q (n + 2) 6 .bad l false = RR at hQ6 ⊢
  have HQ6 := Lib.hid hQ6
  have HQ7 := Lib.hid hQ7
  have HB1 := Lib.hid hB1; have HR1 := Lib.hid hR1; have HS1 := Lib.hid hS1
  have HU1 := Lib.hid hu1; have HU0 := Lib.hid hu0; have HPr := Lib.hid hp
  clear h hQ6 hQ7 hB1 hR1 hS1 hu1 hu0 hp
  have hrl := Q_rl n 8 .bad l false
  unfold row sv at HT HB1 HR1 HS1
  simp only [uns, List.map_cons, List.map_nil] at HT HB1 HR1 HS1
  have hun : uns = [[45], [43], [110, 111, 116], [102, 108, 111, 111, 114]] := rfl
  cases hq : nextB [[45], [43], [110, 111, 116], [102, 108, 111, 111, 114]] l false with
  | some y =>
    obtain ⟨o, r⟩ := y
    rw [hq] at HT
    obtain ⟨hl, ho, _⟩ := nextB_le hq
    have HE : Hid (RR = ⟨.un o (Q (n + 1) 6 .bad r false).t, (Q (n + 1) 6 .bad r false).r, (Q (n + 1) 6 .bad r false).b⟩) := Lib.hid (by rw [HQ6.out, hun, hq])
    subst hl
    simp only [List.length_cons] at hn
    clear hq hun ho hrl
    go_enter Tryz.func76, Tryz.ntmps76
    go_wp2_with fail
    (with_reducible refine HT.out.mono ?_)
    rintro e w2 ⟨rfl, hb2⟩
    have HTk := Lib.hid (take_sp (HS1.out.below hb2))
    have HB2 := Lib.hid hb2
    clear hb2
    go_wp2_with fail
    (with_reducible refine HTk.out.mono ?_)
    rintro e w3 ⟨rfl, hs3, hf3⟩
    unfold sv
    have HX := Lib.hid (HU1.out gp bt v L w3 r hs3 (by omega))
    have hz2 := HB2.out.size
    have hz3 := hf3.size
    have hF3 : Fr gp w.heap.size w w3 := (Fr.of (HB1.out.trans (HB2.out.mono HB1.out.size))).trans hf3 (Nat.le_trans HB1.out.size HB2.out.size)
    have hR3 : w3.heap[w.heap.size]? = some zno := (hf3.block _ (Nat.lt_of_lt_of_le (lt_heap HR1.out) hz2) (by omega)).trans ((HB2.out.block _ (lt_heap HR1.out)).trans HR1.out)
    have hl3 := lt_heap hR3
    have HF3 := Lib.hid hF3; have HR3 := Lib.hid hR3
    clear hs3 hf3 hF3 hR3
    go_wp2_with fail
    (with_reducible refine HX.out.mono ?_)
    rintro e w4 ⟨xv, rfl, hx4, hs4, hf4⟩
    obtain ⟨o1, t1, A1, k1, c1, rfl⟩ := hx4.form
    have hR4 : w4.heap[w.heap.size]? = some zno := (hf4.block _ hl3 (by omega)).trans HR3.out
    have hy := Rd.imp (X' := fun i => w.heap.size < i) hx4 (fun i hi => Nat.lt_of_lt_of_le hl3 hi)
    have HP := Lib.hid (fin_one o hR4 hs4 (HF3.out.trans hf4 HF3.out.size) hy hgp hbt)
    obtain ⟨p0, p1, p2, pf⟩ := c3 hR4
    have pf0 := pf 0; have pf1 := pf 1; have pf2 := pf 2
    have hl4 := lt_heap hR4
    clear hR4 hy hx4 hs4 hf4
    go_wp2_with fail
    obtain ⟨hz, hp⟩ := HP.out
    unfold ro at hz hp
    generalize ((((w4.setCell ⟨w.heap.size, 0, none⟩ (.string ⟨o.toArray⟩)).setCell ⟨w.heap.size, 1, none⟩ (.string ⟨#[]⟩)).setCell ⟨w.heap.size, 2, none⟩ (.slice (some ⟨w4.heap.size, 0, none⟩) 1 1)).alloc (.cells #[.string o1, .string t1, .slice A1 k1 c1] 50)) = W9 at hz hp ⊢
    obtain ⟨z0, z1, z2, _⟩ := c3 hz
    refine bodyPost_ret (v := .agg #[.string ⟨o.toArray⟩, .string ⟨#[]⟩, .slice (some ⟨w4.heap.size, 0, none⟩) 1 1]) (by simp [results, Tryz.results76, go_sem, z0, z1, z2]) rfl ?_
    rw [HE.out]
    exact hp
  | none =>
    rw [hq] at HT
    have HE6 : Hid (RR = Q (n + 1) 7 .bad l false) := Lib.hid (by rw [HQ6.out, hun, hq])
    obtain ⟨Y, hY⟩ : ∃ Y, Q n 8 .bad l false = Y := ⟨_, rfl⟩
    rw [hY] at hrl HQ7
    have HY := Lib.hid hY
    clear hq hun hY
    go_enter Tryz.func76, Tryz.ntmps76
    go_wp2_with fail
    (with_reducible refine HT.out.mono ?_)
    rintro e w2 ⟨rfl, hb2⟩
    have hS2 := HS1.out.below hb2
    have HX := Lib.hid (HPr.out gp bt v L w2 l hS2 (by omega))
    rw [HY.out] at HX
    have hF2 : Fr gp w.heap.size w w2 := Fr.of (HB1.out.trans (hb2.mono HB1.out.size))
    have hR2 : w2.heap[w.heap.size]? = some zno := (hb2.block _ (lt_heap HR1.out)).trans HR1.out
    have hl2 := lt_heap hR2
    have HF2 := Lib.hid hF2; have HR2 := Lib.hid hR2
    clear hb2 hS2 hF2 hR2
    go_wp2_with fail
    (with_reducible refine HX.out.mono ?_)
    rintro e w3 ⟨xv, rfl, hx3, hs3, hf3⟩
    obtain ⟨o1, t1, A1, k1, c1, rfl⟩ := hx3.form
    have hsz := hf3.size
    have hO : Op1 gp bt v L w w3.heap.size Y.t ((w3.alloc (ro o1 t1 A1 k1 c1)).alloc (row [[94]] 9)) o1 t1 A1 k1 c1 Y.r Y.b := by
      refine Op1.below ⟨hs3.alloc _, hp_old ((hf3.block _ hl2 (by omega)).trans HR2.out) _, heap_new _ _, ?_, (HF2.out.trans hf3 HF2.out.size).alloc (by omega) _, by omega⟩ ((Below.refl _ _).alloc (Nat.le_refl _) _)
      exact Rd.keep (X := fun i => w2.heap.size ≤ i) (fun i _ hl => Below.heap_alloc _ _ _ hl) (fun i hi _ => by omega) _ _ hx3
    have HT2 := Lib.hid (is_any hO.st (w3.heap.size + 1) [[94]] (row_of (t := 9) (hp_new (by simp) _)) (by decide))
    rw [show ([[94]] : List Tok).length = 1 from rfl] at HT2
    have HO := Lib.hid hO
    clear hx3 hs3 hf3 hO
    unfold row sv at HT2 HO
    simp only [List.map_cons, List.map_nil] at HT2 HO
    unfold ro at HT2
    cases hq : nextB [[94]] Y.r Y.b with
    | none =>
      have HE : Hid (RR = Y) := Lib.hid (by rw [HE6.out, HQ7.out, hq])
      rw [hq] at HT2
      go_wp2_with fail
      (with_reducible refine HT2.out.mono ?_)
      rintro e w5 ⟨rfl, hb5⟩
      have hO2 := HO.out.below hb5
      obtain ⟨p0, p1, p2, pf⟩ := c3 hO2.res
      have pf0 := pf 0; have pf1 := pf 1; have pf2 := pf 2
      have hv2 := hO2.var
      unfold ro at hv2
      obtain ⟨q0, q1, q2, qf⟩ := c3 hv2
      have hlr := lt_heap hO2.res
      have hlv := lt_heap hv2
      have HP := Lib.hid (fin_po hO2.res hgp hbt hO2.st hO2.fr hO2.rd)
      clear hb5 hO2 hv2
      go_wp2_with fail
      obtain ⟨hz, hp⟩ := HP.out
      generalize (((w5.setCell ⟨w.heap.size, 0, none⟩ (.string o1)).setCell ⟨w.heap.size, 1, none⟩ (.string t1)).setCell ⟨w.heap.size, 2, none⟩ (.slice A1 k1 c1)) = W9 at hz hp ⊢
      obtain ⟨z0, z1, z2, _⟩ := c3 hz
      refine bodyPost_ret (v := .agg #[.string o1, .string t1, .slice A1 k1 c1]) (by simp [results, Tryz.results76, go_sem, z0, z1, z2]) rfl ?_
      rw [HE.out]
      exact hp
    | some y =>
      obtain ⟨o, r⟩ := y
      rw [hq] at HT2
      obtain ⟨hl, ho, hb⟩ := nextB_le hq
      have HE : Hid (RR = ⟨.bin o Y.t (Q n 6 .bad r false).t, (Q n 6 .bad r false).r, (Q n 6 .bad r false).b⟩) := Lib.hid (by rw [HE6.out, HQ7.out, hq]; simp only [hb])
      have hlen : r.length + 1 ≤ l.length := by rw [hl] at hrl; simpa using hrl
      rw [hl, hb] at HO
      have ho : o = [94] := by simpa using ho
      subst ho
      clear hq hl hb
      go_wp2_with fail
      (with_reducible refine HT2.out.mono ?_)
      rintro e w5 ⟨rfl, hb5⟩
      have hO5 := HO.out.below hb5
      have s1 := hO5.st.c1
      have sf := hO5.st.f 1
      have hs6 := hO5.st.step
      have hmx := hO5.st.mx
      obtain ⟨i, hi⟩ : ∃ i, L.length - (([94] : Tok) :: r).length = i := ⟨_, rfl⟩
      rw [hi] at s1 hs6
      have hi6 : i ≤ 600 := by omega
      have hO6 := hO5.fr' hgp (Fr.setCell w5.heap.size w5 1 (.int .i64 ((i : Int) + 1))) hs6
      have HO6 := Lib.hid hO6
      have hv6 := hO6.var
      unfold ro at hv6
      obtain ⟨q0, q1, q2, qf⟩ := c3 hv6
      have hlv := lt_heap hv6
      have HQ3 : Hid (Calls Tryz.prog 76 #[.pointer (some ⟨gp, 0, none⟩)] (w5.setCell ⟨gp, 1, none⟩ (.int .i64 ((i : Int) + 1))).drew (PoR gp bt v L (w5.setCell ⟨gp, 1, none⟩ (.int .i64 ((i : Int) + 1))).drew (Q n 6 .bad r false))) := Lib.hid
        (HU0.out gp bt v L (w5.setCell ⟨gp, 1, none⟩ (.int .i64 ((i : Int) + 1))).drew r (hs6.keep rfl rfl (Nat.le_refl _)) (by omega))
      clear hb5 hO5 hs6 hi hO6 hv6
      go_wp2_with fail
      go_region_with (first
        | (go_at_call 76; (with_reducible refine HQ3.out.mono ?_); rintro e w7 ⟨xv, rfl, hx4, hs4, hf4⟩; obtain ⟨o2, t2, A2, k2, c2, rfl⟩ := hx4.form
           have hO4 := HO6.out.fr' hgp (W' := w7) ⟨hf4.os, hf4.tape, hf4.output, hf4.size, hf4.block⟩ hs4
           obtain ⟨y0, y1, y2, yf⟩ := c3 (show w7.heap[w3.heap.size]? = some (.cells #[.string o1, .string t1, .slice A1 k1 c1] 50) from hO4.var)
           obtain ⟨p0, p1, p2, pf⟩ := c3 hO4.res
           have pf0 := pf 0; have pf1 := pf 1; have pf2 := pf 2
           have hl4 := lt_heap hO4.res
           have hl5 := lt_heap hO4.var))
      all_goals
        have hy := Rd.imp (X' := fun i => w.heap.size < i) hx4 (fun i hi => Nat.lt_of_lt_of_le (lt_heap HO6.out.res) hi)
        have HP : Hid (((((w7.setCell ⟨w.heap.size, 0, none⟩ (.string ⟨#[94]⟩)).setCell ⟨w.heap.size, 1, none⟩ (.string ⟨#[]⟩)).setCell ⟨w.heap.size, 2, none⟩ (.slice (some ⟨w7.heap.size, 0, none⟩) 2 2)).alloc (twoR o1 t1 A1 k1 c1 o2 t2 A2 k2 c2)).heap[w.heap.size]? = some (.cells #[.string ⟨#[94]⟩, .string ⟨#[]⟩, .slice (some ⟨w7.heap.size, 0, none⟩) 2 2] 50) ∧
          PoR gp bt v L w ⟨.bin [94] Y.t (Q n 6 .bad r false).t, (Q n 6 .bad r false).r, (Q n 6 .bad r false).b⟩ (.returned (.agg #[.string ⟨#[94]⟩, .string ⟨#[]⟩, .slice (some ⟨w7.heap.size, 0, none⟩) 2 2])) ((((w7.setCell ⟨w.heap.size, 0, none⟩ (.string ⟨#[94]⟩)).setCell ⟨w.heap.size, 1, none⟩ (.string ⟨#[]⟩)).setCell ⟨w.heap.size, 2, none⟩ (.slice (some ⟨w7.heap.size, 0, none⟩) 2 2)).alloc (twoR o1 t1 A1 k1 c1 o2 t2 A2 k2 c2))) := Lib.hid (fin_two [94] hO4 hy hgp hbt)
        clear hy hO4 hx4 hs4 hf4 y0 y1 y2 yf p0 p1 p2 pf pf0 pf1 pf2
        go_wp2_with fail
        obtain ⟨hz, hp⟩ := HP.out
        generalize ((((w7.setCell ⟨w.heap.size, 0, none⟩ (.string ⟨#[94]⟩)).setCell ⟨w.heap.size, 1, none⟩ (.string ⟨#[]⟩)).setCell ⟨w.heap.size, 2, none⟩ (.slice (some ⟨w7.heap.size, 0, none⟩) 2 2)).alloc (twoR o1 t1 A1 k1 c1 o2 t2 A2 k2 c2)) = W9 at hz hp ⊢
        obtain ⟨z0, z1, z2, _⟩ := c3 hz
        refine bodyPost_ret (v := .agg #[.string ⟨#[94]⟩, .string ⟨#[]⟩, .slice (some ⟨w7.heap.size, 0, none⟩) 2 2]) (by simp [results, Tryz.results76, go_sem, z0, z1, z2]) rfl ?_
        rw [HE.out]
        exact hp
end Go.Proofs.YtfocokjihbenmaaGreatDoor.Fo

namespace Go.Proofs.YtfocokjihbenmaaGreatDoor.Fo
open Go.RowKit Go.Proofs.YtfocokjihbenmaaGreatDoor.Nu
set_option linter.unusedVariables false
set_option linter.unusedSimpArgs false

/-- Whether a token is a number, by its first byte. -/
theorem isNum_of {t : Tok} (h : 0 < t.length) : ∃ c r, t = c :: r ∧ isNum t = isD c := by
  cases t with
  | nil => simp at h
  | cons c r => exact ⟨c, r, rfl, rfl⟩
set_option maxRecDepth 100000 in
set_option maxHeartbeats 4000000 in
theorem primary_any (n : Nat) (hf : LvL n 0) : LvF 107 (n + 1) 8 := by
  intro gp bt v L w l h hn
  have hgp := h.lt
  have hbt := h.lb
  have hz1 : (w.alloc zno).heap.size = w.heap.size + 1 := World.size_alloc _ _
  have hS1 : Spr gp bt v L (w.alloc zno) l false := h.alloc _
  have hB1 : Below w.heap.size w (w.alloc zno) := (Below.refl _ w).alloc (Nat.le_refl _) _
  have hR1 : (w.alloc zno).heap[w.heap.size]? = some zno := heap_new _ _
  have h0 := h.c0
  have h1 := h.c1
  have h2 := h.c2
  have f2 := h.f 2
  cases l with
  | nil =>
    obtain ⟨A, c, rfl, hc1, hc2⟩ := h.len
    have hz : L.length - ([] : List Tok).length = L.length := rfl
    rw [hz] at h1
    have hd : decide ((L.length : Int) ≥ (L.length : Int)) = true := by simp
    rw [Q_8n]
    have HS1 := Lib.hid hS1
    clear h hS1 hB1 hR1 hf
    go_enter Tryz.func107, Tryz.ntmps107
    go_wp2_with fail
    go_quiet (fail)
    go_wp2_with fail
    have hB := below_drewN (B := (w.alloc zno).heap.size) (Below.refl _ (w.alloc zno)) nq
    have hs := (HS1.out.below hB).fail
    have hF : Fr gp w.heap.size w (((w.alloc zno).drewN nq).setCell ⟨gp, 2, none⟩ (.bool true)) := (Fr.of ((Below.refl w.heap.size w).alloc (Nat.le_refl _) _)).trans ((Fr.of (n := w.heap.size) (below_drewN (Below.refl _ _) nq)).trans (Fr.setCell _ _ _ _) (Nat.le_refl _)) (Nat.le_refl _)
    have hr : (((w.alloc zno).drewN nq).setCell ⟨gp, 2, none⟩ (.bool true)).heap[w.heap.size]? = some zno := (Below.heap_setCell _ _ _ _ (by show w.heap.size ≠ gp; omega)).trans (heap_new w zno)
    obtain ⟨hz, hp⟩ := fin_po (T := .bad) hr hgp hbt hs hF (rfl : Rd (fun i => w.heap.size < i) (((w.alloc zno).drewN nq).setCell ⟨gp, 2, none⟩ (.bool true)) .bad (.agg #[.string ⟨#[]⟩, .string ⟨#[]⟩, .slice none 0 0]))
    clear hs hF hr
    generalize ((((((w.alloc zno).drewN nq).setCell ⟨gp, 2, none⟩ (.bool true)).setCell ⟨w.heap.size, 0, none⟩ (.string ⟨#[]⟩)).setCell ⟨w.heap.size, 1, none⟩ (.string ⟨#[]⟩)).setCell ⟨w.heap.size, 2, none⟩ (.slice none 0 0)) = W9 at hz hp ⊢
    obtain ⟨z0, z1, z2, _⟩ := c3 hz
    exact bodyPost_ret (v := .agg #[.string ⟨#[]⟩, .string ⟨#[]⟩, .slice none 0 0]) (by simp [results, Tryz.results107, go_sem, z0, z1, z2]) rfl hp
  | cons t l =>
    obtain ⟨a, c, hv, hc1, hc2, hlt, hcell⟩ := h.head
    obtain ⟨i, hi⟩ : ∃ i, L.length - (t :: l).length = i := ⟨_, rfl⟩
    rw [hi] at h1 hlt hcell
    have hd : decide ((i : Int) ≥ (L.length : Int)) = false := by rw [decide_eq_false_iff_not]; omega
    have hz := h.nzl.1
    have HTk : Hid (∀ q, Calls Tryz.prog 78 #[.pointer (some ⟨gp, 0, none⟩)] ((w.alloc zno).drewN q) fun e w' => e = .returned (sv t) ∧ Spr gp bt v L w' l false ∧ Fr gp (w.alloc zno).heap.size (w.alloc zno) w') := Lib.hid fun q => (take_sp (hS1.below (below_drewN (Below.refl _ _) q))).mono fun e w' ⟨a1, a2, a3⟩ => ⟨a1, a2, ⟨a3.os, a3.tape, a3.output, a3.size, a3.block⟩⟩
    subst hv
    have HB1 := Lib.hid hB1; have HR1 := Lib.hid hR1
    have HF := Lib.hid hf
    clear h hS1 hB1 hR1 hf
    by_cases hp : t = [40]
    · subst hp
      have hQ := Q_8p n .bad l
      generalize Q (n + 1) 8 .bad ([40] :: l) false = RR at hQ ⊢
      have HQ := Lib.hid hQ
      clear hQ
      go_enter Tryz.func107, Tryz.ntmps107
      go_wp2_with fail
      go_quiet (fail)
      go_wp2_with fail
      refine (HTk.out _).mono ?_
      rintro e w2 ⟨rfl, hs2, hf2⟩
      unfold sv
      have hz2 := hf2.size
      rw [hz1] at hz2
      have hF2 : Fr gp w.heap.size w w2 := (Fr.of HB1.out).trans hf2 (by omega)
      have hR2 : w2.heap[w.heap.size]? = some zno := (hf2.block _ (by omega) (by omega)).trans HR1.out
      have hl2 := lt_heap hR2
      simp only [List.length_cons] at hn
      have HX : Hid (Calls Tryz.prog 38 #[.pointer (some ⟨gp, 0, none⟩), .int .i64 0] w2 (PoR gp bt (.slice (some ⟨bt, a, none⟩) L.length c) L w2 (Q n 0 .bad l false))) := Lib.hid (HF.out gp bt _ L w2 l hs2 (by omega))
      have HF2 := Lib.hid hF2; have HR2 := Lib.hid hR2
      clear hs2 hf2 hF2 hR2
      obtain ⟨Y, hY⟩ : ∃ Y, Q n 0 .bad l false = Y := ⟨_, rfl⟩
      rw [hY] at HX
      have HY := Lib.hid hY
      clear hY
      go_wp2_with fail
      (with_reducible refine HX.out.mono ?_)
      rintro e w3 ⟨xv, rfl, hx3, hs3, hf3⟩
      obtain ⟨o1, t1, A1, k1, c1, rfl⟩ := hx3.form
      have hsz := hf3.size
      have hO : Op1 gp bt (.slice (some ⟨bt, a, none⟩) L.length c) L w w3.heap.size Y.t ((w3.alloc (ro o1 t1 A1 k1 c1)).alloc (row [[41]] 9)) o1 t1 A1 k1 c1 Y.r Y.b := by
        refine Op1.below ⟨hs3.alloc _, hp_old ((hf3.block _ hl2 (by omega)).trans HR2.out) _, heap_new _ _, ?_, (HF2.out.trans hf3 HF2.out.size).alloc (by omega) _, by omega⟩ ((Below.refl _ _).alloc (Nat.le_refl _) _)
        exact Rd.keep (X := fun i => w2.heap.size ≤ i) (fun i _ hl => Below.heap_alloc _ _ _ hl) (fun i hi _ => by omega) _ _ hx3
      have HT2 := Lib.hid (is_any hO.st (w3.heap.size + 1) [[41]] (row_of (t := 9) (hp_new (by simp) _)) (by decide))
      rw [show ([[41]] : List Tok).length = 1 from rfl] at HT2
      have HO := Lib.hid hO
      clear hx3 hs3 hf3 hO
      unfold row sv at HT2 HO
      simp only [List.map_cons, List.map_nil] at HT2 HO
      unfold ro at HT2
      cases hq : nextB [[41]] Y.r Y.b with
      | none =>
        have HE : Hid (RR = ⟨Y.t, Y.r, true⟩) := Lib.hid (by rw [HQ.out, HY.out, hq])
        rw [hq] at HT2
        go_wp2_with fail
        (with_reducible refine HT2.out.mono ?_)
        rintro e w5 ⟨rfl, hb5⟩
        have hO5 := HO.out.below hb5
        have s2 := hO5.st.c2
        have sf := hO5.st.f 2
        have hO6 := hO5.fr' hgp (Fr.setCell w5.heap.size w5 2 (.bool true)) hO5.st.fail
        obtain ⟨p0, p1, p2, pf⟩ := c3 hO6.res
        have pf0 := pf 0; have pf1 := pf 1; have pf2 := pf 2
        have hv2 := hO6.var
        unfold ro at hv2
        obtain ⟨q0, q1, q2, qf⟩ := c3 hv2
        have hlr := lt_heap hO6.res
        have hlv := lt_heap hv2
        have HP := Lib.hid (fin_po hO6.res hgp hbt hO6.st hO6.fr hO6.rd)
        clear hb5 hO5 hO6 hv2
        go_wp2_with fail
        obtain ⟨hz, hp⟩ := HP.out
        generalize ((((w5.setCell ⟨gp, 2, none⟩ (.bool true)).setCell ⟨w.heap.size, 0, none⟩ (.string o1)).setCell ⟨w.heap.size, 1, none⟩ (.string t1)).setCell ⟨w.heap.size, 2, none⟩ (.slice A1 k1 c1)) = W9 at hz hp ⊢
        obtain ⟨z0, z1, z2, _⟩ := c3 hz
        refine bodyPost_ret (v := .agg #[.string o1, .string t1, .slice A1 k1 c1]) (by simp [results, Tryz.results107, go_sem, z0, z1, z2]) rfl ?_
        rw [HE.out]
        exact hp
      | some y =>
        obtain ⟨o, r⟩ := y
        rw [hq] at HT2
        obtain ⟨hl, ho, hb⟩ := nextB_le hq
        have HE : Hid (RR = ⟨.un [40] Y.t, r, false⟩) := Lib.hid (by rw [HQ.out, HY.out, hq])
        rw [hl, hb] at HO
        have ho : o = [41] := by simpa using ho
        subst ho
        clear hq hl hb
        go_wp2_with fail
        (with_reducible refine HT2.out.mono ?_)
        rintro e w5 ⟨rfl, hb5⟩
        have hO5 := HO.out.below hb5
        have s1 := hO5.st.c1
        have sf := hO5.st.f 1
        have hs6 := hO5.st.step
        have hmx := hO5.st.mx
        obtain ⟨i6, hi6⟩ : ∃ i, L.length - (([41] : Tok) :: r).length = i := ⟨_, rfl⟩
        rw [hi6] at s1 hs6
        have hj6 : i6 ≤ 600 := by omega
        have hO6 := hO5.fr' hgp (Fr.setCell w5.heap.size w5 1 (.int .i64 ((i6 : Int) + 1))) hs6
        have hv6 := hO5.var
        unfold ro at hv6
        obtain ⟨q0, q1, q2, qf⟩ := c3 hv6
        obtain ⟨p0, p1, p2, pf⟩ := c3 hO5.res
        have pf0 := pf 0; have pf1 := pf 1; have pf2 := pf 2
        have hlr := lt_heap hO5.res
        have hlv := lt_heap hv6
        have hne1 : w.heap.size ≠ gp := by omega
        have hne2 : gp ≠ w.heap.size := by omega
        have hne3 : w3.heap.size ≠ gp := by omega
        have hne4 : gp ≠ w3.heap.size := by omega
        have HP : Hid ((((((w5.setCell ⟨gp, 1, none⟩ (.int .i64 ((i6 : Int) + 1))).setCell ⟨w.heap.size, 0, none⟩ (.string ⟨#[40]⟩)).setCell ⟨w.heap.size, 1, none⟩ (.string ⟨#[]⟩)).setCell ⟨w.heap.size, 2, none⟩ (.slice (some ⟨w5.heap.size, 0, none⟩) 1 1)).alloc (.cells #[.string o1, .string t1, .slice A1 k1 c1] 50)).heap[w.heap.size]? = some (.cells #[.string ⟨#[40]⟩, .string ⟨#[]⟩, .slice (some ⟨w5.heap.size, 0, none⟩) 1 1] 50) ∧
          PoR gp bt (.slice (some ⟨bt, a, none⟩) L.length c) L w ⟨.un [40] Y.t, r, false⟩ (.returned (.agg #[.string ⟨#[40]⟩, .string ⟨#[]⟩, .slice (some ⟨w5.heap.size, 0, none⟩) 1 1])) (((((w5.setCell ⟨gp, 1, none⟩ (.int .i64 ((i6 : Int) + 1))).setCell ⟨w.heap.size, 0, none⟩ (.string ⟨#[40]⟩)).setCell ⟨w.heap.size, 1, none⟩ (.string ⟨#[]⟩)).setCell ⟨w.heap.size, 2, none⟩ (.slice (some ⟨w5.heap.size, 0, none⟩) 1 1)).alloc (.cells #[.string o1, .string t1, .slice A1 k1 c1] 50))) := Lib.hid (by
          have h9 := fin_one [40] hO6.res hO6.st hO6.fr hO6.rd hgp hbt
          rw [szc] at h9
          exact h9)
        clear hb5 hO5 hs6 hi6 hO6 hv6
        go_wp2_with fail
        obtain ⟨hz, hp⟩ := HP.out
        generalize (((((w5.setCell ⟨gp, 1, none⟩ (.int .i64 ((i6 : Int) + 1))).setCell ⟨w.heap.size, 0, none⟩ (.string ⟨#[40]⟩)).setCell ⟨w.heap.size, 1, none⟩ (.string ⟨#[]⟩)).setCell ⟨w.heap.size, 2, none⟩ (.slice (some ⟨w5.heap.size, 0, none⟩) 1 1)).alloc (.cells #[.string o1, .string t1, .slice A1 k1 c1] 50)) = W9 at hz hp ⊢
        obtain ⟨z0, z1, z2, _⟩ := c3 hz
        refine bodyPost_ret (v := .agg #[.string ⟨#[40]⟩, .string ⟨#[]⟩, .slice (some ⟨w5.heap.size, 0, none⟩) 1 1]) (by simp [results, Tryz.results107, go_sem, z0, z1, z2]) rfl ?_
        rw [HE.out]
        exact hp
    · obtain ⟨ch, rr, rfl, hnum⟩ := isNum_of hz
      have hb40 : ((ch :: rr) == [40]) = false := beq_eq_false_iff_ne.2 hp
      have hQ := Q_8x n .bad (ch :: rr) l hp
      rw [hnum] at hQ
      generalize Q (n + 1) 8 .bad ((ch :: rr) :: l) false = RR at hQ ⊢
      have HQ := Lib.hid hQ
      clear hQ hp hnum hz
      have hget : ∀ h, (⟨(ch :: rr).toArray⟩ : ByteArray)[0]'h = ch := fun _ => rfl
      go_enter Tryz.func107, Tryz.ntmps107
      go_wp2_with fail
      go_quiet (fail)
      go_wp2_with fail
      refine (HTk.out _).mono ?_
      rintro e w2 ⟨rfl, hs2, hf2⟩
      unfold sv
      have hz2 := hf2.size
      rw [hz1] at hz2
      have hF2 : Fr gp w.heap.size w w2 := (Fr.of HB1.out).trans hf2 (by omega)
      have hR2 : w2.heap[w.heap.size]? = some zno := (hf2.block _ (by omega) (by omega)).trans HR1.out
      have hl2 := lt_heap hR2
      have s2 := hs2.c2
      have sf := hs2.f 2
      have HS2 := Lib.hid hs2
      have HF2 := Lib.hid hF2; have HR2 := Lib.hid hR2
      clear hs2 hf2 hF2 hR2
      by_cases hlo : ch.toNat < 48
      · have d1 : decide ((ch.toNat : Int) < 48) = true := by rw [decide_eq_true_iff]; omega
        have e1 : (ch.toNat : Int) < 48 := by omega
        have hD : isD ch = false := by unfold isD; rw [decide_eq_false_iff_not]; omega
        have HE : Hid (RR = ⟨.num (ch :: rr), l, true⟩) := Lib.hid (by rw [HQ.out, hD]; rfl)
        have hr : (w2.setCell ⟨gp, 2, none⟩ (.bool true)).heap[w.heap.size]? = some zno := (Below.heap_setCell _ _ _ _ (by show w.heap.size ≠ gp; omega)).trans HR2.out
        obtain ⟨p0, p1, p2, pf⟩ := c3 HR2.out
        have hne1 : w.heap.size ≠ gp := by omega
        have hne2 : gp ≠ w.heap.size := by omega
        have pf0 := pf 0; have pf1 := pf 1; have pf2 := pf 2
        have HP := Lib.hid (fin_po (T := .num (ch :: rr)) hr hgp hbt HS2.out.fail (HF2.out.trans (Fr.setCell _ _ _ _) (Nat.le_refl _)) (rfl : Rd (fun i => w.heap.size < i) (w2.setCell ⟨gp, 2, none⟩ (.bool true)) (.num (ch :: rr)) (.agg #[.string ⟨#[]⟩, .string ⟨(ch :: rr).toArray⟩, .slice none 0 0])))
        clear hr hD
        go_wp2_with fail
        obtain ⟨hz, hp⟩ := HP.out
        generalize ((((w2.setCell ⟨gp, 2, none⟩ (.bool true)).setCell ⟨w.heap.size, 0, none⟩ (.string ⟨#[]⟩)).setCell ⟨w.heap.size, 1, none⟩ (.string ⟨(ch :: rr).toArray⟩)).setCell ⟨w.heap.size, 2, none⟩ (.slice none 0 0)) = W9 at hz hp ⊢
        obtain ⟨z0, z1, z2, _⟩ := c3 hz
        refine bodyPost_ret (v := .agg #[.string ⟨#[]⟩, .string ⟨(ch :: rr).toArray⟩, .slice none 0 0]) (by simp [results, Tryz.results107, go_sem, z0, z1, z2]) rfl ?_
        rw [HE.out]
        exact hp
      · have d1 : decide ((ch.toNat : Int) < 48) = false := by rw [decide_eq_false_iff_not]; omega
        have e1 : ¬ (ch.toNat : Int) < 48 := by omega
        have e1' : 48 ≤ (ch.toNat : Int) := by omega
        by_cases hhi : 57 < ch.toNat
        · have d2 : decide ((ch.toNat : Int) > 57) = true := by rw [decide_eq_true_iff]; omega
          have e2 : 57 < (ch.toNat : Int) := by omega
          have hD : isD ch = false := by unfold isD; rw [decide_eq_false_iff_not]; omega
          have HE : Hid (RR = ⟨.num (ch :: rr), l, true⟩) := Lib.hid (by rw [HQ.out, hD]; rfl)
          have hr : (w2.setCell ⟨gp, 2, none⟩ (.bool true)).heap[w.heap.size]? = some zno := (Below.heap_setCell _ _ _ _ (by show w.heap.size ≠ gp; omega)).trans HR2.out
          obtain ⟨p0, p1, p2, pf⟩ := c3 HR2.out
          have hne1 : w.heap.size ≠ gp := by omega
          have hne2 : gp ≠ w.heap.size := by omega
          have pf0 := pf 0; have pf1 := pf 1; have pf2 := pf 2
          have HP := Lib.hid (fin_po (T := .num (ch :: rr)) hr hgp hbt HS2.out.fail (HF2.out.trans (Fr.setCell _ _ _ _) (Nat.le_refl _)) (rfl : Rd (fun i => w.heap.size < i) (w2.setCell ⟨gp, 2, none⟩ (.bool true)) (.num (ch :: rr)) (.agg #[.string ⟨#[]⟩, .string ⟨(ch :: rr).toArray⟩, .slice none 0 0])))
          clear hr hD
          go_wp2_with fail
          obtain ⟨hz, hp⟩ := HP.out
          generalize ((((w2.setCell ⟨gp, 2, none⟩ (.bool true)).setCell ⟨w.heap.size, 0, none⟩ (.string ⟨#[]⟩)).setCell ⟨w.heap.size, 1, none⟩ (.string ⟨(ch :: rr).toArray⟩)).setCell ⟨w.heap.size, 2, none⟩ (.slice none 0 0)) = W9 at hz hp ⊢
          obtain ⟨z0, z1, z2, _⟩ := c3 hz
          refine bodyPost_ret (v := .agg #[.string ⟨#[]⟩, .string ⟨(ch :: rr).toArray⟩, .slice none 0 0]) (by simp [results, Tryz.results107, go_sem, z0, z1, z2]) rfl ?_
          rw [HE.out]
          exact hp
        · have d2 : decide ((ch.toNat : Int) > 57) = false := by rw [decide_eq_false_iff_not]; omega
          have e2 : ¬ 57 < (ch.toNat : Int) := by omega
          have hD : isD ch = true := by unfold isD; rw [decide_eq_true_iff]; omega
          have HE : Hid (RR = ⟨.num (ch :: rr), l, false⟩) := Lib.hid (by rw [HQ.out, hD]; rfl)
          obtain ⟨p0, p1, p2, pf⟩ := c3 HR2.out
          have pf0 := pf 0; have pf1 := pf 1; have pf2 := pf 2
          have HP := Lib.hid (fin_po (T := .num (ch :: rr)) HR2.out hgp hbt HS2.out HF2.out (rfl : Rd (fun i => w.heap.size < i) w2 (.num (ch :: rr)) (.agg #[.string ⟨#[]⟩, .string ⟨(ch :: rr).toArray⟩, .slice none 0 0])))
          clear hD
          go_wp2_with fail
          obtain ⟨hz, hp⟩ := HP.out
          generalize (((w2.setCell ⟨w.heap.size, 0, none⟩ (.string ⟨#[]⟩)).setCell ⟨w.heap.size, 1, none⟩ (.string ⟨(ch :: rr).toArray⟩)).setCell ⟨w.heap.size, 2, none⟩ (.slice none 0 0)) = W9 at hz hp ⊢
          obtain ⟨z0, z1, z2, _⟩ := c3 hz
          refine bodyPost_ret (v := .agg #[.string ⟨#[]⟩, .string ⟨(ch :: rr).toArray⟩, .slice none 0 0]) (by simp [results, Tryz.results107, go_sem, z0, z1, z2]) rfl ?_
          rw [HE.out]
          exact hp
end Go.Proofs.YtfocokjihbenmaaGreatDoor.Fo

namespace Go.Proofs.YtfocokjihbenmaaGreatDoor.Fo
open Go.RowKit Go.Proofs.YtfocokjihbenmaaGreatDoor.Nu
set_option linter.unusedVariables false
set_option linter.unusedSimpArgs false

set_option maxRecDepth 100000 in
set_option maxHeartbeats 2000000 in
theorem level_2 (n : Nat) (hf : LvF 75 n 2) : LvL n 2 := by
  intro gp bt v L w l h hn
  have hgp := h.lt
  have hbt := h.lb
  have hz1 : (w.alloc zno).heap.size = w.heap.size + 1 := World.size_alloc _ _
  have HX := Lib.hid (hf gp bt v L (w.alloc zno) l (h.alloc _) hn)
  show Calls _ _ #[.pointer (some ⟨gp, 0, none⟩), .int .i64 2] w _
  obtain ⟨R, hR⟩ : ∃ R, Q n 2 .bad l false = R := ⟨_, rfl⟩
  rw [hR] at HX ⊢
  clear h hf hR
  go_enter Tryz.func38, Tryz.ntmps38
  go_wp2_with fail
  (with_reducible refine HX.out.mono ?_)
  rintro e w1 ⟨xv, rfl, hx, hs, hf1⟩
  obtain ⟨o1, t1, A1, k1, c1, rfl⟩ := hx.form
  have hsz := hf1.size
  rw [hz1] at hsz
  have hR1 : w1.heap[w.heap.size]? = some zno := (hf1.block _ (by omega) (by omega)).trans (heap_new w zno)
  have hF : Fr gp w.heap.size w w1 := (Fr.of ((Below.refl w.heap.size w).alloc (Nat.le_refl _) _)).trans hf1 (by omega)
  obtain ⟨p0, p1, p2, pf⟩ := c3 hR1
  have pf0 := pf 0; have pf1 := pf 1; have pf2 := pf 2
  have HP := Lib.hid (fin_po hR1 hgp hbt hs hF (Rd.imp (X' := fun i => w.heap.size < i) hx (fun i hi => by rw [hz1] at hi; omega)))
  clear hx hs hf1 hR1 hF
  go_wp2_with fail
  obtain ⟨hz, hp⟩ := HP.out
  generalize ((w1.setCell ⟨w.heap.size, 0, none⟩ (.string o1)).setCell ⟨w.heap.size, 1, none⟩ (.string t1)).setCell ⟨w.heap.size, 2, none⟩ (.slice A1 k1 c1) = W9 at hz hp ⊢
  obtain ⟨z0, z1, z2, _⟩ := c3 hz
  exact bodyPost_ret (v := .agg #[.string o1, .string t1, .slice A1 k1 c1]) (by simp [results, Tryz.results38, go_sem, z0, z1, z2]) rfl hp
set_option maxRecDepth 100000 in
set_option maxHeartbeats 2000000 in
theorem level_6 (n : Nat) (hf : LvF 76 n 6) : LvL n 6 := by
  intro gp bt v L w l h hn
  have hgp := h.lt
  have hbt := h.lb
  have hz1 : (w.alloc zno).heap.size = w.heap.size + 1 := World.size_alloc _ _
  have HX := Lib.hid (hf gp bt v L (w.alloc zno) l (h.alloc _) hn)
  show Calls _ _ #[.pointer (some ⟨gp, 0, none⟩), .int .i64 6] w _
  obtain ⟨R, hR⟩ : ∃ R, Q n 6 .bad l false = R := ⟨_, rfl⟩
  rw [hR] at HX ⊢
  clear h hf hR
  go_enter Tryz.func38, Tryz.ntmps38
  go_wp2_with fail
  (with_reducible refine HX.out.mono ?_)
  rintro e w1 ⟨xv, rfl, hx, hs, hf1⟩
  obtain ⟨o1, t1, A1, k1, c1, rfl⟩ := hx.form
  have hsz := hf1.size
  rw [hz1] at hsz
  have hR1 : w1.heap[w.heap.size]? = some zno := (hf1.block _ (by omega) (by omega)).trans (heap_new w zno)
  have hF : Fr gp w.heap.size w w1 := (Fr.of ((Below.refl w.heap.size w).alloc (Nat.le_refl _) _)).trans hf1 (by omega)
  obtain ⟨p0, p1, p2, pf⟩ := c3 hR1
  have pf0 := pf 0; have pf1 := pf 1; have pf2 := pf 2
  have HP := Lib.hid (fin_po hR1 hgp hbt hs hF (Rd.imp (X' := fun i => w.heap.size < i) hx (fun i hi => by rw [hz1] at hi; omega)))
  clear hx hs hf1 hR1 hF
  go_wp2_with fail
  obtain ⟨hz, hp⟩ := HP.out
  generalize ((w1.setCell ⟨w.heap.size, 0, none⟩ (.string o1)).setCell ⟨w.heap.size, 1, none⟩ (.string t1)).setCell ⟨w.heap.size, 2, none⟩ (.slice A1 k1 c1) = W9 at hz hp ⊢
  obtain ⟨z0, z1, z2, _⟩ := c3 hz
  exact bodyPost_ret (v := .agg #[.string o1, .string t1, .slice A1 k1 c1]) (by simp [results, Tryz.results38, go_sem, z0, z1, z2]) rfl hp
structure AllR (n : Nat) : Prop where
  lev : ∀ k, k ≤ 6 → LvL n k
  cmp : LvF 75 n 2
  un : LvF 76 n 6
  pr : LvF 107 n 8
theorem allR (n : Nat) : AllR n := by
  induction n using Nat.strongRecOn with
  | _ n ih =>
    have hc : LvF 75 n 2 := by
      rcases n with _ | m
      · intro gp bt v L w l h hn; omega
      · exact comparison_any m ((ih m (by omega)).lev 3 (by omega))
    have hp : LvF 107 n 8 := by
      rcases n with _ | m
      · intro gp bt v L w l h hn; omega
      · exact primary_any m ((ih m (by omega)).lev 0 (by omega))
    have hu : LvF 76 n 6 := by
      rcases n with _ | _ | m
      · intro gp bt v L w l h hn; omega
      · intro gp bt v L w l h hn; omega
      · exact unary_any m (ih (m + 1) (by omega)).un (ih m (by omega)).un (ih m (by omega)).pr
    refine ⟨fun k hk => ?_, hc, hu, hp⟩
    by_cases h2 : k = 2
    · subst h2; exact level_2 n hc
    by_cases h6 : k = 6
    · subst h6; exact level_6 n hu
    rcases n with _ | m
    · intro gp bt v L w l h hn; omega
    · exact level_ch m k (by omega) fun j hj => (ih j (by omega)).lev (k + 1) (by omega)
end Go.Proofs.YtfocokjihbenmaaGreatDoor.Fo
