/-
  The parser, its tokens and a formula's tree in memory.
-/
import Derived.Test.YtfocokjihbenmaaDoorFoVal
import Derived.Test.YtfocokjihbenmaaDoorChecked
import Derived.WalkKit
import Derived.WalkSpells
import Derived.WalkLawsBesides
import Derived.Outline
import Derived.Deep.QuietTactic
import Derived.BigQuiet
import Derived.Lib.Hide
import Derived.IntWalk
namespace Go.Proofs.YtfocokjihbenmaaDoor.Fo
open Go.RowKit Go.Proofs.YtfocokjihbenmaaDoor.Nu
set_option linter.unusedVariables false

/-- Below n all is as it was but for block gp. -/
structure Fr (gp n : Nat) (w w' : World) : Prop where
  os : w'.os = w.os
  tape : w'.tape = w.tape
  output : w'.output = w.output
  size : w.heap.size ≤ w'.heap.size
  block : ∀ k, k < n → k ≠ gp → w'.heap[k]? = w.heap[k]?
section
variable {gp n m : Nat} {w w' w'' : World}
theorem Fr.refl (gp n : Nat) (w : World) : Fr gp n w w := ⟨rfl, rfl, rfl, Nat.le_refl _, fun _ _ _ => rfl⟩
theorem Fr.of (h : Below n w w') : Fr gp n w w' := ⟨h.os, h.tape, h.output, h.size, fun k hk _ => h.block k hk⟩
theorem Fr.mono (h : Fr gp n w w') (hm : m ≤ n) : Fr gp m w w' := ⟨h.os, h.tape, h.output, h.size, fun k hk hg => h.block k (Nat.lt_of_lt_of_le hk hm) hg⟩
theorem Fr.trans (h : Fr gp n w w') (k : Fr gp m w' w'') (hm : n ≤ m) : Fr gp n w w'' :=
  ⟨k.os.trans h.os, k.tape.trans h.tape, k.output.trans h.output, Nat.le_trans h.size k.size, fun i hi hg => (k.block i (Nat.lt_of_lt_of_le hi hm) hg).trans (h.block i hi hg)⟩
theorem Fr.cell (h : Fr gp n w w') {b : Nat} (hb : b < n) (hg : b ≠ gp) (o : Nat) (r : Option Nat) : w'.cell? ⟨b, o, none⟩ = w.cell? ⟨b, o, none⟩ := World.cell?_of_block (w := w) (h.block b hb hg)
theorem Fr.setCell (n : Nat) (w : World) (o : Nat) (v : Value) : Fr gp n w (w.setCell ⟨gp, o, none⟩ v) :=
  ⟨rfl, rfl, rfl, by simp [World.setCell], fun k _ hg => Below.heap_setCell _ _ _ _ hg⟩
theorem Fr.below (h : Fr gp n w w') (hg : n ≤ gp) : Below n w w' := ⟨h.os, h.tape, h.output, h.size, fun k hk => h.block k hk (by omega)⟩
end
theorem lt_blk {W : World} {p : Addr} {v : Value} (h : W.cell? p = some v) : p.block < W.heap.size := by
  rcases Nat.lt_or_ge p.block W.heap.size with h1 | h1
  · exact h1
  · unfold World.cell? at h
    rw [Array.getElem?_eq_none h1] at h
    simp at h
theorem lt_heap {W : World} {g : Nat} {o : Obj} (h : W.heap[g]? = some o) : g < W.heap.size := (Array.getElem?_eq_some_iff.1 h).1

def sv (t : Tok) : Value := .string ⟨t.toArray⟩
def pobj (v : Value) (b : Bool) : Obj := .cells #[v, .bool b] 70
/-- The slice v reads as the tokens l, in the block bt. -/
def TS (bt : Nat) (w : World) (v : Value) (l : List Tok) : Prop :=
  ∃ A c, v = .slice A l.length c ∧ l.length ≤ c ∧ c ≤ 9223372036854775807 ∧ (0 < l.length → ∃ o, A = some ⟨bt, o, none⟩ ∧ ∀ j t, l[j]? = some t → w.cell? ⟨bt, o + j, none⟩ = some (sv t))
/-- The value v reads as the tree, its rows in the blocks X. -/
def Nd (X : Nat → Prop) (w : World) : T → Value → Prop
  | .bad, v => v = .agg #[.string ⟨#[]⟩, .slice none 0 0, .int .i64 0]
  | .num s, v => v = .agg #[sv s, .slice none 0 0, .int .i64 1]
  | .un o x, v => ∃ g t a b c, v = .agg #[sv o, .slice (some ⟨g, 0, none⟩) 1 1, .int .i64 ((x.lv + 1 : Nat) : Int)] ∧ X g ∧ w.heap[g]? = some (.cells #[a, b, c] t) ∧ Nd X w x (.agg #[a, b, c])
  | .bin o x y, v => ∃ g t a b c a' b' c', v = .agg #[sv o, .slice (some ⟨g, 0, none⟩) 2 2, .int .i64 ((max x.lv y.lv + 1 : Nat) : Int)] ∧ X g ∧ w.heap[g]? = some (.cells #[a, b, c, a', b', c'] t) ∧ Nd X w x (.agg #[a, b, c]) ∧ Nd X w y (.agg #[a', b', c'])
/-- The parser at block gp: its tokens in the slice v, and whether it has failed. -/
structure St (gp bt : Nat) (w : World) (v : Value) (l : List Tok) (b : Bool) : Prop where
  o : w.heap[gp]? = some (pobj v b)
  t : TS bt w v l
  ne : bt ≠ gp
  lb : bt < w.heap.size
  nz : ∀ t ∈ l, 0 < t.length ∧ t.length ≤ 19
section
variable {gp bt n : Nat} {w w' : World} {v : Value} {l : List Tok} {b : Bool}
theorem TS.keep (h : TS bt w v l) (k : w'.heap[bt]? = w.heap[bt]?) : TS bt w' v l := by
  obtain ⟨A, c, h1, h2, h3, h4⟩ := h
  refine ⟨A, c, h1, h2, h3, fun h0 => ?_⟩
  obtain ⟨o, e, hc⟩ := h4 h0
  refine ⟨o, e, fun j t hj => ?_⟩
  rw [World.cell?_of_block (w := w) k]; exact hc j t hj
theorem Nd.keep {X X' : Nat → Prop} (k : ∀ i, X i → i < w.heap.size → w'.heap[i]? = w.heap[i]?) (hX : ∀ i, X i → i < w.heap.size → X' i) : ∀ (x : T) (v : Value), Nd X w x v → Nd X' w' x v
  | .bad, _, h => h
  | .num _, _, h => h
  | .un o x, v, ⟨g, t, a, b, c, e, hg, hc, hx⟩ => ⟨g, t, a, b, c, e, hX g hg (lt_heap hc), (k g hg (lt_heap hc)).trans hc, Nd.keep k hX x _ hx⟩
  | .bin o x y, v, ⟨g, t, a, b, c, a', b', c', e, hg, hc, hx, hy⟩ => ⟨g, t, a, b, c, a', b', c', e, hX g hg (lt_heap hc), (k g hg (lt_heap hc)).trans hc, Nd.keep k hX x _ hx, Nd.keep k hX y _ hy⟩
theorem Nd.imp {X X' : Nat → Prop} {x : T} {v : Value} (h : Nd X w x v) (hX : ∀ i, X i → X' i) : Nd X' w x v := Nd.keep (fun _ _ _ => rfl) (fun i h _ => hX i h) x v h
theorem Nd.fr {X : Nat → Prop} {x : T} {v : Value} (h : Nd X w x v) (hX : ∀ i, X i → i ≠ gp) (k : Fr gp w.heap.size w w') : Nd X w' x v := Nd.keep (fun i hi hl => k.block i hl (hX i hi)) (fun _ h _ => h) x v h
theorem Nd.below {X : Nat → Prop} {x : T} {v : Value} (h : Nd X w x v) (k : Below w.heap.size w w') : Nd X w' x v := Nd.keep (fun i hi hl => k.block i hl) (fun _ h _ => h) x v h
/-- A node is three cells, the last of which is its levels. -/
theorem Nd.form {X : Nat → Prop} : ∀ {x : T} {v : Value}, Nd X w x v → ∃ o A k c, v = .agg #[.string o, .slice A k c, .int .i64 (x.lv : Int)]
  | .bad, _, h => ⟨_, _, _, _, h⟩
  | .num _, _, h => ⟨_, _, _, _, h⟩
  | .un _ _, _, ⟨_, _, _, _, _, e, _⟩ => ⟨_, _, _, _, e⟩
  | .bin _ _ _, _, ⟨_, _, _, _, _, _, _, _, e, _⟩ => ⟨_, _, _, _, e⟩
theorem St.lt (h : St gp bt w v l b) : gp < w.heap.size := lt_heap h.o
theorem St.keep (h : St gp bt w v l b) (k : w'.heap[bt]? = w.heap[bt]?) (k2 : w'.heap[gp]? = w.heap[gp]?) (hz : w.heap.size ≤ w'.heap.size) : St gp bt w' v l b := ⟨k2.trans h.o, h.t.keep k, h.ne, Nat.lt_of_lt_of_le h.lb hz, h.nz⟩
theorem St.below (h : St gp bt w v l b) (k : Below w.heap.size w w') : St gp bt w' v l b := h.keep (k.block _ h.lb) (k.block _ h.lt) k.size
theorem St.c0 (h : St gp bt w v l b) : w.cell? ⟨gp, 0, none⟩ = some v := by unfold World.cell?; rw [h.o]; rfl
theorem St.c1 (h : St gp bt w v l b) : w.cell? ⟨gp, 1, none⟩ = some (.bool b) := by unfold World.cell?; rw [h.o]; rfl
theorem St.f (h : St gp bt w v l b) (o : Nat) : w.frozen? ⟨gp, o, none⟩ = false := by unfold World.frozen?; rw [h.o]; rfl
theorem St.set (h : St gp bt w v l b) {u : Value} {r : List Tok} (hu : TS bt w u r) (hr : ∀ t ∈ r, t ∈ l) : St gp bt (w.setCell ⟨gp, 0, none⟩ u) u r b := by
  refine ⟨?_, hu.keep (Below.heap_setCell _ _ _ _ h.ne), h.ne, by simpa [World.setCell] using h.lb, fun t ht => h.nz t (hr t ht)⟩
  simp only [World.setCell, Array.getElem?_modify, if_pos, h.o]
  rfl
theorem St.fail (h : St gp bt w v l b) : St gp bt (w.setCell ⟨gp, 1, none⟩ (.bool true)) v l true := by
  refine ⟨?_, h.t.keep (Below.heap_setCell _ _ _ _ h.ne), h.ne, by simpa [World.setCell] using h.lb, h.nz⟩
  simp only [World.setCell, Array.getElem?_modify, if_pos, h.o]
  rfl
theorem TS.tail {o : Tok} (h : TS bt w v (o :: l)) : ∃ a c, v = .slice (some ⟨bt, a, none⟩) (l.length + 1) c ∧ l.length + 1 ≤ c ∧ c ≤ 9223372036854775807 ∧ w.cell? ⟨bt, a, none⟩ = some (sv o) ∧ TS bt w (.slice (some ⟨bt, a + 1, none⟩) l.length (c - 1)) l := by
  obtain ⟨A, c, h1, h2, h3, h4⟩ := h
  obtain ⟨a, e, hc⟩ := h4 (by simp)
  simp only [List.length_cons] at h1 h2
  refine ⟨a, c, by rw [h1, e], h2, h3, hc 0 o rfl, _, _, rfl, by omega, by omega, fun _ => ⟨a + 1, rfl, fun j t hj => ?_⟩⟩
  have := hc (j + 1) t (by simpa using hj)
  rwa [show a + (j + 1) = a + 1 + j by omega] at this
theorem TS.none0 {A : Option Addr} (h : l.length = 0) : TS bt w (.slice A l.length 0) l := ⟨A, 0, rfl, by omega, by omega, fun h0 => absurd h (by omega)⟩
theorem TS.nil (h : TS bt w v []) : ∃ A c, v = .slice A 0 c := by
  obtain ⟨A, c, h1, h2, h3, h4⟩ := h; exact ⟨A, c, h1⟩
end
end Go.Proofs.YtfocokjihbenmaaDoor.Fo
