/-
  The value of a formula's tree.
  The parser, its tokens and a formula's tree in memory.
  The contracts of take and expect.
  The contract of makeNode, at the operands of the three forms of a node.
  The contract of chain, over that of its operand.
  The rules of the grammar that are chains.
-/
import Derived.Test.YtfocokjihbenmaaGreatDoorFoPl
import Derived.Test.YtfocokjihbenmaaGreatDoorNuAd
import Derived.Test.YtfocokjihbenmaaGreatDoorChecked
import Derived.WalkKit
import Derived.WalkSpells
import Derived.WalkLawsBesides
import Derived.Outline
import Derived.Deep.QuietTactic
import Derived.BigQuiet
import Derived.Lib.Hide
import Derived.IntWalk
import Derived.Test.YtfocokjihbenmaaGreatDoorShelf
import Derived.Lib.SlicesS
import Derived.Deep.RegionWith
namespace Go.Proofs.YtfocokjihbenmaaGreatDoor.Fo
open Go.Proofs.YtfocokjihbenmaaGreatDoor.Nu

def tr (b : Bool) : R3 := if b then ⟨1, 1, 0⟩ else ⟨0, 1, 0⟩
def pwr (a : R3) : Nat → R3
  | 0 => ⟨1, 1, 0⟩
  | k + 1 => let r := pwr a k; if r.e = 0 then mul r.n r.d a.n a.d else r
def holdsB (o : Tok) (c : Int) : Bool :=
  if o = [61] then decide (c = 0) else if o = [60, 62] then !decide (c = 0) else if o = [60] then decide (c < 0) else if o = [62] then decide (0 < c) else if o = [60, 61] then decide (c ≤ 0) else decide (0 ≤ c)
def ap1 (o : Tok) (a : R3) : R3 :=
  if o = [45] then sub 0 1 a.n a.d else if o = [110, 111, 116] then tr (decide (a.n = 0)) else if o = [102, 108, 111, 111, 114] then ⟨flr a.n a.d, 1, 0⟩ else a
def rndF (a c : R3) : R3 := if c.d = 1 then rnd a.n a.d c.n else ⟨0, 0, 2⟩
def pwF (a c : R3) : R3 := if c.d = 1 ∧ 0 ≤ c.n ∧ c.n ≤ 30 then pwr a c.n.toNat else ⟨0, 0, 2⟩
def ap2 (o : Tok) (a c : R3) : R3 :=
  if o = [43] then add a.n a.d c.n c.d else if o = [45] then sub a.n a.d c.n c.d else if o = [42] then mul a.n a.d c.n c.d else if o = [47] then div a.n a.d c.n c.d
  else if o = [109, 111, 100] then mod a.n a.d c.n c.d else if o = [114, 111, 117, 110, 100] then rndF a c else if o = [94] then pwF a c
  else if o = [97, 110, 100] then tr (decide (a.n ≠ 0) && decide (c.n ≠ 0)) else if o = [111, 114] then tr (decide (a.n ≠ 0) || decide (c.n ≠ 0))
  else tr (holdsB o (cmp a.n a.d c.n c.d))
def val : T → R3
  | .bad => ⟨0, 0, 1⟩
  | .num s => parse s
  | .un o x => if (val x).e = 0 then ap1 o (val x) else ⟨0, 0, (val x).e⟩
  | .bin o x y => if (val x).e = 0 then (if (val y).e = 0 then ap2 o (val x) (val y) else ⟨0, 0, (val y).e⟩) else ⟨0, 0, (val x).e⟩
def fuel (l : List Tok) : Nat := 20 * l.length + 20
def top (l : List Tok) : Res := G (fuel l) 0 .bad l false
def evT (l : List Tok) : R3 :=
  if (top l).b = false ∧ (top l).r = [] then (if 20 < (top l).t.lv then ⟨0, 0, 17⟩ else val (top l).t) else ⟨0, 0, 1⟩
def ev (s : List UInt8) : R3 :=
  if 400 < s.length then ⟨0, 0, 3⟩ else match splitL s with
  | none => ⟨0, 0, 1⟩
  | some l => evT l
end Go.Proofs.YtfocokjihbenmaaGreatDoor.Fo

namespace Go.Proofs.YtfocokjihbenmaaGreatDoor.Fo
open Go.RowKit Go.Proofs.YtfocokjihbenmaaGreatDoor.Nu
set_option linter.unusedVariables false

/-- Below n all is as it was but for block gp. -/
structure Fr (gp n : Nat) (w w' : World) : Prop where
  os : w'.os = w.os
  tape : w'.tape = w.tape
  output : w'.output = w.output
  size : w.heap.size ≤ w'.heap.size
  block : ∀ k, k < n → k ≠ gp → w'.heap[k]? = w.heap[k]?
section
variable {gp n m : Nat} {w w' w'' : World}
theorem Fr.refl (gp n : Nat) (w : World) : Fr gp n w w := ⟨rfl, rfl, rfl, Nat.le_refl _, fun _ _ _ => rfl⟩
theorem Fr.of (h : Below n w w') : Fr gp n w w' := ⟨h.os, h.tape, h.output, h.size, fun k hk _ => h.block k hk⟩
theorem Fr.mono (h : Fr gp n w w') (hm : m ≤ n) : Fr gp m w w' := ⟨h.os, h.tape, h.output, h.size, fun k hk hg => h.block k (Nat.lt_of_lt_of_le hk hm) hg⟩
theorem Fr.trans (h : Fr gp n w w') (k : Fr gp m w' w'') (hm : n ≤ m) : Fr gp n w w'' :=
  ⟨k.os.trans h.os, k.tape.trans h.tape, k.output.trans h.output, Nat.le_trans h.size k.size, fun i hi hg => (k.block i (Nat.lt_of_lt_of_le hi hm) hg).trans (h.block i hi hg)⟩
theorem Fr.cell (h : Fr gp n w w') {b : Nat} (hb : b < n) (hg : b ≠ gp) (o : Nat) (r : Option Nat) : w'.cell? ⟨b, o, none⟩ = w.cell? ⟨b, o, none⟩ := World.cell?_of_block (w := w) (h.block b hb hg)
theorem Fr.setCell (n : Nat) (w : World) (o : Nat) (v : Value) : Fr gp n w (w.setCell ⟨gp, o, none⟩ v) :=
  ⟨rfl, rfl, rfl, by simp [World.setCell], fun k _ hg => Below.heap_setCell _ _ _ _ hg⟩
theorem Fr.below (h : Fr gp n w w') (hg : n ≤ gp) : Below n w w' := ⟨h.os, h.tape, h.output, h.size, fun k hk => h.block k hk (by omega)⟩
end
theorem lt_blk {W : World} {p : Addr} {v : Value} (h : W.cell? p = some v) : p.block < W.heap.size := by
  rcases Nat.lt_or_ge p.block W.heap.size with h1 | h1
  · exact h1
  · unfold World.cell? at h
    rw [Array.getElem?_eq_none h1] at h
    simp at h
theorem lt_heap {W : World} {g : Nat} {o : Obj} (h : W.heap[g]? = some o) : g < W.heap.size := (Array.getElem?_eq_some_iff.1 h).1

def sv (t : Tok) : Value := .string ⟨t.toArray⟩
def pobj (v : Value) (b : Bool) : Obj := .cells #[v, .bool b] 65
/-- The slice v reads as the tokens l, in the block bt. -/
def TS (bt : Nat) (w : World) (v : Value) (l : List Tok) : Prop :=
  ∃ A c, v = .slice A l.length c ∧ l.length ≤ c ∧ c ≤ 9223372036854775807 ∧ (0 < l.length → ∃ o, A = some ⟨bt, o, none⟩ ∧ ∀ j t, l[j]? = some t → w.cell? ⟨bt, o + j, none⟩ = some (sv t))
/-- The value v reads as the tree, its rows in the blocks X. -/
def Nd (X : Nat → Prop) (w : World) : T → Value → Prop
  | .bad, v => v = .agg #[.string ⟨#[]⟩, .slice none 0 0, .int .i64 0]
  | .num s, v => v = .agg #[sv s, .slice none 0 0, .int .i64 1]
  | .un o x, v => ∃ g t a b c, v = .agg #[sv o, .slice (some ⟨g, 0, none⟩) 1 1, .int .i64 ((x.lv + 1 : Nat) : Int)] ∧ X g ∧ w.heap[g]? = some (.cells #[a, b, c] t) ∧ Nd X w x (.agg #[a, b, c])
  | .bin o x y, v => ∃ g t a b c a' b' c', v = .agg #[sv o, .slice (some ⟨g, 0, none⟩) 2 2, .int .i64 ((max x.lv y.lv + 1 : Nat) : Int)] ∧ X g ∧ w.heap[g]? = some (.cells #[a, b, c, a', b', c'] t) ∧ Nd X w x (.agg #[a, b, c]) ∧ Nd X w y (.agg #[a', b', c'])
/-- The parser at block gp: its tokens in the slice v, and whether it has failed. -/
structure St (gp bt : Nat) (w : World) (v : Value) (l : List Tok) (b : Bool) : Prop where
  o : w.heap[gp]? = some (pobj v b)
  t : TS bt w v l
  ne : bt ≠ gp
  lb : bt < w.heap.size
  nz : ∀ t ∈ l, 0 < t.length ∧ t.length ≤ 19
section
variable {gp bt n : Nat} {w w' : World} {v : Value} {l : List Tok} {b : Bool}
theorem TS.keep (h : TS bt w v l) (k : w'.heap[bt]? = w.heap[bt]?) : TS bt w' v l := by
  obtain ⟨A, c, h1, h2, h3, h4⟩ := h
  refine ⟨A, c, h1, h2, h3, fun h0 => ?_⟩
  obtain ⟨o, e, hc⟩ := h4 h0
  refine ⟨o, e, fun j t hj => ?_⟩
  rw [World.cell?_of_block (w := w) k]; exact hc j t hj
theorem Nd.keep {X X' : Nat → Prop} (k : ∀ i, X i → i < w.heap.size → w'.heap[i]? = w.heap[i]?) (hX : ∀ i, X i → i < w.heap.size → X' i) : ∀ (x : T) (v : Value), Nd X w x v → Nd X' w' x v
  | .bad, _, h => h
  | .num _, _, h => h
  | .un o x, v, ⟨g, t, a, b, c, e, hg, hc, hx⟩ => ⟨g, t, a, b, c, e, hX g hg (lt_heap hc), (k g hg (lt_heap hc)).trans hc, Nd.keep k hX x _ hx⟩
  | .bin o x y, v, ⟨g, t, a, b, c, a', b', c', e, hg, hc, hx, hy⟩ => ⟨g, t, a, b, c, a', b', c', e, hX g hg (lt_heap hc), (k g hg (lt_heap hc)).trans hc, Nd.keep k hX x _ hx, Nd.keep k hX y _ hy⟩
theorem Nd.imp {X X' : Nat → Prop} {x : T} {v : Value} (h : Nd X w x v) (hX : ∀ i, X i → X' i) : Nd X' w x v := Nd.keep (fun _ _ _ => rfl) (fun i h _ => hX i h) x v h
theorem Nd.fr {X : Nat → Prop} {x : T} {v : Value} (h : Nd X w x v) (hX : ∀ i, X i → i ≠ gp) (k : Fr gp w.heap.size w w') : Nd X w' x v := Nd.keep (fun i hi hl => k.block i hl (hX i hi)) (fun _ h _ => h) x v h
theorem Nd.below {X : Nat → Prop} {x : T} {v : Value} (h : Nd X w x v) (k : Below w.heap.size w w') : Nd X w' x v := Nd.keep (fun i hi hl => k.block i hl) (fun _ h _ => h) x v h
/-- A node is three cells, the last of which is its levels. -/
theorem Nd.form {X : Nat → Prop} : ∀ {x : T} {v : Value}, Nd X w x v → ∃ o A k c, v = .agg #[.string o, .slice A k c, .int .i64 (x.lv : Int)]
  | .bad, _, h => ⟨_, _, _, _, h⟩
  | .num _, _, h => ⟨_, _, _, _, h⟩
  | .un _ _, _, ⟨_, _, _, _, _, e, _⟩ => ⟨_, _, _, _, e⟩
  | .bin _ _ _, _, ⟨_, _, _, _, _, _, _, _, e, _⟩ => ⟨_, _, _, _, e⟩
theorem St.lt (h : St gp bt w v l b) : gp < w.heap.size := lt_heap h.o
theorem St.keep (h : St gp bt w v l b) (k : w'.heap[bt]? = w.heap[bt]?) (k2 : w'.heap[gp]? = w.heap[gp]?) (hz : w.heap.size ≤ w'.heap.size) : St gp bt w' v l b := ⟨k2.trans h.o, h.t.keep k, h.ne, Nat.lt_of_lt_of_le h.lb hz, h.nz⟩
theorem St.below (h : St gp bt w v l b) (k : Below w.heap.size w w') : St gp bt w' v l b := h.keep (k.block _ h.lb) (k.block _ h.lt) k.size
theorem St.c0 (h : St gp bt w v l b) : w.cell? ⟨gp, 0, none⟩ = some v := by unfold World.cell?; rw [h.o]; rfl
theorem St.c1 (h : St gp bt w v l b) : w.cell? ⟨gp, 1, none⟩ = some (.bool b) := by unfold World.cell?; rw [h.o]; rfl
theorem St.f (h : St gp bt w v l b) (o : Nat) : w.frozen? ⟨gp, o, none⟩ = false := by unfold World.frozen?; rw [h.o]; rfl
theorem St.set (h : St gp bt w v l b) {u : Value} {r : List Tok} (hu : TS bt w u r) (hr : ∀ t ∈ r, t ∈ l) : St gp bt (w.setCell ⟨gp, 0, none⟩ u) u r b := by
  refine ⟨?_, hu.keep (Below.heap_setCell _ _ _ _ h.ne), h.ne, by simpa [World.setCell] using h.lb, fun t ht => h.nz t (hr t ht)⟩
  simp only [World.setCell, Array.getElem?_modify, if_pos, h.o]
  rfl
theorem St.fail (h : St gp bt w v l b) : St gp bt (w.setCell ⟨gp, 1, none⟩ (.bool true)) v l true := by
  refine ⟨?_, h.t.keep (Below.heap_setCell _ _ _ _ h.ne), h.ne, by simpa [World.setCell] using h.lb, h.nz⟩
  simp only [World.setCell, Array.getElem?_modify, if_pos, h.o]
  rfl
theorem TS.tail {o : Tok} (h : TS bt w v (o :: l)) : ∃ a c, v = .slice (some ⟨bt, a, none⟩) (l.length + 1) c ∧ l.length + 1 ≤ c ∧ c ≤ 9223372036854775807 ∧ w.cell? ⟨bt, a, none⟩ = some (sv o) ∧ TS bt w (.slice (some ⟨bt, a + 1, none⟩) l.length (c - 1)) l := by
  obtain ⟨A, c, h1, h2, h3, h4⟩ := h
  obtain ⟨a, e, hc⟩ := h4 (by simp)
  simp only [List.length_cons] at h1 h2
  refine ⟨a, c, by rw [h1, e], h2, h3, hc 0 o rfl, _, _, rfl, by omega, by omega, fun _ => ⟨a + 1, rfl, fun j t hj => ?_⟩⟩
  have := hc (j + 1) t (by simpa using hj)
  rwa [show a + (j + 1) = a + 1 + j by omega] at this
theorem TS.none0 {A : Option Addr} (h : l.length = 0) : TS bt w (.slice A l.length 0) l := ⟨A, 0, rfl, by omega, by omega, fun h0 => absurd h (by omega)⟩
theorem TS.nil (h : TS bt w v []) : ∃ A c, v = .slice A 0 c := by
  obtain ⟨A, c, h1, h2, h3, h4⟩ := h; exact ⟨A, c, h1⟩
end
end Go.Proofs.YtfocokjihbenmaaGreatDoor.Fo

namespace Go.Proofs.YtfocokjihbenmaaGreatDoor.Fo
open Go.RowKit Go.Proofs.YtfocokjihbenmaaGreatDoor.Nu
set_option linter.unusedVariables false
set_option linter.unusedSimpArgs false

def bs (t : Tok) : ByteArray := ⟨t.toArray⟩
theorem bs_inj {a b : Tok} (h : bs a = bs b) : a = b := by
  have := congrArg (fun x : ByteArray => x.data.toList) h
  simpa [bs] using this
theorem mem_bs {t : Tok} {S : List Tok} : bs t ∈ S.map bs ↔ t ∈ S := by
  rw [List.mem_map]
  exact ⟨fun ⟨a, h, e⟩ => bs_inj e ▸ h, fun h => ⟨t, h, rfl⟩⟩
theorem contains_bs (t : Tok) (S : List Tok) : Lib.containsS ((S.map bs).take S.length) (bs t) = decide (t ∈ S) := by
  rw [List.take_of_length_le (by simp)]
  by_cases h : t ∈ S
  · rw [decide_eq_true h]; exact (Lib.containsS_iff _ _).2 (mem_bs.2 h)
  · rw [decide_eq_false h]
    cases hc : Lib.containsS (S.map bs) (bs t) with
    | false => rfl
    | true => exact absurd (mem_bs.1 ((Lib.containsS_iff _ _).1 hc)) h
theorem Contains_any (w : World) (g : Nat) (c : Nat) (S : List Tok) (t : Tok) (hS : ∀ j x, S[j]? = some x → w.cell? ⟨g, j, none⟩ = some (sv x)) (hl : S.length ≤ 100) :
    Calls Tryz.prog 112 #[.slice (some ⟨g, 0, none⟩) S.length c, sv t] w fun e w' => e = .returned (.bool (decide (t ∈ S))) ∧ w' = w := by
  refine (Tryz.slices_Contains_string g 0 S.length c (S.map bs) (bs t) w (by simp) (by omega) (fun j hj => ?_)).mono fun e w' ⟨h1, h2⟩ => ⟨by rw [h1, contains_bs], h2⟩
  have hj' : j < S.length := by simpa using hj
  have := hS j S[j] (List.getElem?_eq_getElem hj')
  rw [Nat.zero_add, this]
  simp [sv, bs, List.getD_eq_getElem?_getD, hj']
section
variable {gp bt : Nat} {w : World} {v : Value} {l : List Tok} {b : Bool}
/-- What take leaves. -/
def TkP (gp bt : Nat) (w : World) (v : Value) (l : List Tok) (b : Bool) (x : Option (Tok × List Tok)) (e : Ending) (w' : World) : Prop := match x with
  | none => e = .returned (.tuple #[.string ⟨#[]⟩, .bool false]) ∧ St gp bt w' v l b ∧ Fr gp w.heap.size w w'
  | some (o, r) => e = .returned (.tuple #[sv o, .bool true]) ∧ ∃ u, St gp bt w' u r b ∧ Fr gp w.heap.size w w'
set_option maxRecDepth 100000 in
set_option maxHeartbeats 2000000 in
theorem take_any (h : St gp bt w v l b) (g : Nat) (S : List Tok) (hS : ∀ j x, S[j]? = some x → w.cell? ⟨g, j, none⟩ = some (sv x)) (hl : S.length ≤ 100) (hL : l.length ≤ 400) :
    Calls Tryz.prog 91 #[.pointer (some ⟨gp, 0, none⟩), .slice (some ⟨g, 0, none⟩) S.length S.length] w fun e w' => TkP gp bt w v l b (next S l) e w' := by
  have h0 := h.c0
  have hf := h.f 0
  cases l with
  | nil =>
    obtain ⟨A, c, rfl⟩ := h.t.nil
    have H := Lib.hid h; clear h
    go_enter Tryz.func91, Tryz.ntmps91
    go_wp2
    go_ret2
    exact ⟨rfl, H.out, Fr.refl _ _ _⟩
  | cons o l =>
    obtain ⟨a, c, rfl, h2, h3, h4, h5⟩ := h.t.tail
    have HC := Lib.hid (fun t => Contains_any w g S.length S t hS hl)
    have H := Lib.hid h; have H5 := Lib.hid h5; clear h h5
    simp only [List.length_cons] at hL
    by_cases ho : o ∈ S
    · have e1 : next S (o :: l) = some (o, l) := if_pos ho
      rw [e1]
      have hd : decide (o ∈ S) = true := decide_eq_true ho
      have HO := Lib.hid hd; clear hd ho e1
      unfold sv at h4
      go_enter Tryz.func91, Tryz.ntmps91
      go_wp2_with fail
      refine (HC.out o).mono ?_
      rintro e w1 ⟨rfl, rfl⟩
      rw [HO.out]
      go_wp2
      all_goals
        go_ret2
        first
          | exact ⟨rfl, _, H.out.set H5.out (fun _ q => List.mem_cons_of_mem _ q), Fr.setCell _ _ _ _⟩
          | exact ⟨rfl, _, H.out.set (TS.none0 (by omega)) (fun _ q => List.mem_cons_of_mem _ q), Fr.setCell _ _ _ _⟩
    · have e1 : next S (o :: l) = none := if_neg ho
      rw [e1]
      have hd : decide (o ∈ S) = false := decide_eq_false ho
      have HO := Lib.hid hd; clear hd ho e1
      unfold sv at h4
      go_enter Tryz.func91, Tryz.ntmps91
      go_wp2_with fail
      refine (HC.out o).mono ?_
      rintro e w1 ⟨rfl, rfl⟩
      rw [HO.out]
      go_wp2
      go_ret2
      exact ⟨rfl, H.out, Fr.refl _ _ _⟩
theorem heap_new (w : World) (o : Obj) : (w.alloc o).heap[w.heap.size]? = some o := by
  show (w.heap.push o)[w.heap.size]? = _
  rw [Array.getElem?_push, if_pos rfl]
/-- A row of strings that a call lays. -/
def row (S : List Tok) (t : TypeId) : Obj := .cells (S.map sv).toArray t
theorem row_at (w : World) (S : List Tok) (t : TypeId) : ∀ j x, S[j]? = some x → (w.alloc (row S t)).cell? ⟨w.heap.size, j, none⟩ = some (sv x) := fun j x hj => by
  unfold World.cell?
  rw [show (w.alloc (row S t)).heap[(⟨w.heap.size, j, none⟩ : Addr).block]? = some (row S t) from heap_new w _]
  simp [row, hj]
theorem St.alloc (h : St gp bt w v l b) (o : Obj) : St gp bt (w.alloc o) v l b := h.below ((Below.refl _ w).alloc (Nat.le_refl _) o)
theorem Fr.alloc {gp n : Nat} {w w' : World} (h : Fr gp n w w') (hn : n ≤ w'.heap.size) (o : Obj) : Fr gp n w (w'.alloc o) := h.trans (Fr.of ((Below.refl n w').alloc hn o)) (Nat.le_refl _)
def expT (o : Tok) (l : List Tok) : List Tok := match next [o] l with
  | none => l
  | some (_, r) => r
def expB (o : Tok) (l : List Tok) : Bool := (next [o] l).isNone
set_option maxRecDepth 100000 in
set_option maxHeartbeats 2000000 in
theorem expect_any (h : St gp bt w v l b) (o : Tok) (hL : l.length ≤ 400) :
    Calls Tryz.prog 131 #[.pointer (some ⟨gp, 0, none⟩), sv o] w fun e w' => e = .returned (.bool (!expB o l)) ∧ (∃ u, St gp bt w' u (expT o l) (expB o l || b)) ∧ Fr gp w.heap.size w w' := by
  obtain ⟨w1, hw1⟩ : ∃ w1, w.alloc (row [o] 9) = w1 := ⟨_, rfl⟩
  have h1 : St gp bt w1 v l b := hw1 ▸ h.alloc _
  have HT := Lib.hid (take_any h1 w.heap.size [o] (hw1 ▸ row_at w [o] _) (by simp) hL)
  have hB : Below w.heap.size w w1 := hw1 ▸ (Below.refl _ w).alloc (Nat.le_refl _) _
  have HB := Lib.hid hB
  clear hB h1 h
  unfold row sv at hw1
  simp only [List.map_cons, List.map_nil] at hw1
  unfold sv
  cases hx : next [o] l with
  | none =>
    have HX := Lib.hid hx; clear hx
    go_enter Tryz.func131, Tryz.ntmps131
    go_wp2_with fail
    refine HT.out.mono ?_
    rintro e w2 hp
    rw [HX.out] at hp
    obtain ⟨rfl, hs, hf⟩ := hp
    have hc := hs.c1
    have hfz := hs.f 1
    have HS := Lib.hid hs; have HF := Lib.hid hf; clear hs hf
    go_wp2
    go_ret
    have e1 : expT o l = l := by unfold expT; rw [HX.out]
    have e2 : expB o l = true := by unfold expB; rw [HX.out]; rfl
    rw [e1, e2]
    exact ⟨rfl, ⟨_, HS.out.fail⟩, ((Fr.of HB.out).trans HF.out HB.out.size).trans (Fr.setCell _ _ _ _) (Nat.le_refl _)⟩
  | some y =>
    obtain ⟨o', r⟩ := y
    have HX := Lib.hid hx; clear hx
    go_enter Tryz.func131, Tryz.ntmps131
    go_wp2_with fail
    refine HT.out.mono ?_
    rintro e w2 hp
    rw [HX.out] at hp
    obtain ⟨rfl, u, hs, hf⟩ := hp
    have HS := Lib.hid hs; have HF := Lib.hid hf; clear hs hf
    unfold sv
    go_wp2
    go_ret
    have e1 : expT o l = r := by unfold expT; rw [HX.out]
    have e2 : expB o l = false := by unfold expB; rw [HX.out]; rfl
    rw [e1, e2]
    exact ⟨rfl, ⟨_, HS.out⟩, (Fr.of HB.out).trans HF.out HB.out.size⟩
end
end Go.Proofs.YtfocokjihbenmaaGreatDoor.Fo

namespace Go.Proofs.YtfocokjihbenmaaGreatDoor.Fo
open Go.RowKit Go.Proofs.YtfocokjihbenmaaGreatDoor.Nu
set_option linter.unusedVariables false
set_option linter.unusedSimpArgs false

/-- The node that makeNode makes of nodes in a row of k at block g. -/
def mkv (o : Tok) (A : Option Addr) (k : Nat) (lv : Nat) : Value := .agg #[sv o, .slice A k k, .int .i64 (lv : Int)]
set_option maxRecDepth 100000 in
set_option maxHeartbeats 2000000 in
theorem makeNode_0 (o : Tok) (w : World) : Calls Tryz.prog 92 #[sv o, .slice none 0 0] w fun e w' => e = .returned (mkv o none 0 1) ∧ Below w.heap.size w w' := by
  unfold sv
  go_enter Tryz.func92, Tryz.ntmps92
  go_wp2
  refine wp_loop_rounds 1 ?_
  rw [rounds_succ]
  go_wp2
  refine bodyPost_ret (v := mkv _ _ _ _) (by simp [results, Tryz.results92, go_sem, mkv, sv]) rfl ⟨rfl, (Below.refl _ w).alloc (Nat.le_refl _) _⟩
set_option maxRecDepth 100000 in
set_option maxHeartbeats 2000000 in
theorem makeNode_1 (o : Tok) (w : World) (g : Nat) (t : TypeId) (oo : ByteArray) (A : Option Addr) (k c : Nat) (n : Nat) (h : w.heap[g]? = some (.cells #[.string oo, .slice A k c, .int .i64 (n : Int)] t)) (hn : n ≤ 1000) :
    Calls Tryz.prog 92 #[sv o, .slice (some ⟨g, 0, none⟩) 1 1] w fun e w' => e = .returned (mkv o (some ⟨g, 0, none⟩) 1 (n + 1)) ∧ Below w.heap.size w w' := by
  have hg := lt_heap h
  have h0 : w.cell? ⟨g, 0, none⟩ = some (.string oo) := by unfold World.cell?; rw [h]; rfl
  have h1 : w.cell? ⟨g, 1, none⟩ = some (.slice A k c) := by unfold World.cell?; rw [h]; rfl
  have h2 : w.cell? ⟨g, 2, none⟩ = some (.int .i64 (n : Int)) := by unfold World.cell?; rw [h]; rfl
  clear h
  unfold sv
  go_enter Tryz.func92, Tryz.ntmps92
  go_wp2
  refine wp_loop_rounds 2 ?_
  rw [rounds_succ]
  go_wp2
  rw [rounds_succ]
  go_wp2
  refine bodyPost_ret (v := mkv _ _ _ _) (by simp [results, Tryz.results92, go_sem, mkv, sv]) rfl ⟨rfl, (((Below.refl _ w).alloc (Nat.le_refl _) _)).alloc (by simp) _⟩
set_option maxRecDepth 100000 in
set_option maxHeartbeats 2000000 in
theorem makeNode_2 (o : Tok) (w : World) (g : Nat) (t : TypeId) (oo : ByteArray) (A : Option Addr) (k c : Nat) (n : Nat) (o2 : ByteArray) (A2 : Option Addr) (k2 c2 : Nat) (n2 : Nat)
    (h : w.heap[g]? = some (.cells #[.string oo, .slice A k c, .int .i64 (n : Int), .string o2, .slice A2 k2 c2, .int .i64 (n2 : Int)] t)) (hn : n ≤ 1000) (hn2 : n2 ≤ 1000) :
    Calls Tryz.prog 92 #[sv o, .slice (some ⟨g, 0, none⟩) 2 2] w fun e w' => e = .returned (mkv o (some ⟨g, 0, none⟩) 2 (max n n2 + 1)) ∧ Below w.heap.size w w' := by
  have hg := lt_heap h
  have h0 : w.cell? ⟨g, 0, none⟩ = some (.string oo) := by unfold World.cell?; rw [h]; rfl
  have h1 : w.cell? ⟨g, 1, none⟩ = some (.slice A k c) := by unfold World.cell?; rw [h]; rfl
  have h2 : w.cell? ⟨g, 2, none⟩ = some (.int .i64 (n : Int)) := by unfold World.cell?; rw [h]; rfl
  have h3 : w.cell? ⟨g, 3, none⟩ = some (.string o2) := by unfold World.cell?; rw [h]; rfl
  have h4 : w.cell? ⟨g, 4, none⟩ = some (.slice A2 k2 c2) := by unfold World.cell?; rw [h]; rfl
  have h5 : w.cell? ⟨g, 5, none⟩ = some (.int .i64 (n2 : Int)) := by unfold World.cell?; rw [h]; rfl
  clear h
  obtain ⟨mx, hmx⟩ : ∃ m : Nat, max n n2 = m := ⟨_, rfl⟩
  have hm1 : max (n : Int) (n2 : Int) = (mx : Int) := by omega
  have hm2 : mx ≤ 1000 := by omega
  rw [hmx]
  clear hmx
  unfold sv
  go_enter Tryz.func92, Tryz.ntmps92
  go_wp2
  refine wp_loop_rounds 3 ?_
  rw [rounds_succ]
  go_wp2
  rw [rounds_succ]
  go_wp2
  rw [rounds_succ]
  go_wp2
  refine bodyPost_ret (v := mkv _ _ _ _) (by simp [results, Tryz.results92, go_sem, mkv, sv]) rfl ⟨rfl, ((((Below.refl _ w).alloc (Nat.le_refl _) _)).alloc (by simp) _).alloc (by simp; omega) _⟩
end Go.Proofs.YtfocokjihbenmaaGreatDoor.Fo

namespace Go.Proofs.YtfocokjihbenmaaGreatDoor.Fo
open Go.RowKit Go.Proofs.YtfocokjihbenmaaGreatDoor.Nu
set_option linter.unusedVariables false
set_option linter.unusedSimpArgs false

/-- What a rule leaves: a node that reads as the tree, and the parser behind it. -/
def Post (gp bt : Nat) (w : World) (R : Res) (e : Ending) (w' : World) : Prop := ∃ x u, e = .returned x ∧ Nd (w.heap.size ≤ ·) w' R.t x ∧ St gp bt w' u R.r R.b ∧ Fr gp w.heap.size w w'
/-- The contract of the rule k at n steps. -/
def Lv (f : FuncId) (n k : Nat) : Prop := ∀ (gp bt : Nat) (w : World) (v : Value) (l : List Tok) (b : Bool), St gp bt w v l b → 20 * l.length + (12 - k) ≤ n → l.length ≤ 400 →
  Calls Tryz.prog f #[.pointer (some ⟨gp, 0, none⟩)] w (Post gp bt w (G n k .bad l b))
def tkLen (gp : Nat) (w : World) : Nat := match w.cell? ⟨gp, 0, none⟩ with
  | some (.slice _ n _) => n
  | _ => 0
theorem St.len {gp bt : Nat} {w : World} {v : Value} {l : List Tok} {b : Bool} (h : St gp bt w v l b) : tkLen gp w = l.length := by
  unfold tkLen
  rw [h.c0]
  obtain ⟨A, c, h1, _⟩ := h.t
  rw [h1]
/-- The variable at block c holds a node that reads as x. -/
def Vr (X : Nat → Prop) (w : World) (c : Nat) (x : T) : Prop := ∃ o A k d, w.heap[c]? = some (.cells #[.string o, .slice A k d, .int .i64 (x.lv : Int)] 44) ∧ Nd X w x (.agg #[.string o, .slice A k d, .int .i64 (x.lv : Int)])
theorem run_mkf (fn : Fn) (first cap : Array Value) (w : World) : (Instr.makeFunc fn first cap).run Tryz.prog w = .ok (.func fn first cap) w := rfl
theorem c3 {W : World} {c : Nat} {a b d : Value} {t : TypeId} (h : W.heap[c]? = some (.cells #[a, b, d] t)) : W.cell? ⟨c, 0, none⟩ = some a ∧ W.cell? ⟨c, 1, none⟩ = some b ∧ W.cell? ⟨c, 2, none⟩ = some d ∧ (∀ o, W.frozen? ⟨c, o, none⟩ = false) := by
  refine ⟨?_, ?_, ?_, fun o => ?_⟩
  · unfold World.cell?; rw [h]; rfl
  · unfold World.cell?; rw [h]; rfl
  · unfold World.cell?; rw [h]; rfl
  · unfold World.frozen?; rw [h]; rfl
theorem set3 {W : World} {c : Nat} {a b d : Value} {t : TypeId} (h : W.heap[c]? = some (.cells #[a, b, d] t)) (a' b' d' : Value) :
    (((W.setCell ⟨c, 0, none⟩ a').setCell ⟨c, 1, none⟩ b').setCell ⟨c, 2, none⟩ d').heap[c]? = some (.cells #[a', b', d'] t) := by
  simp only [World.setCell, Array.getElem?_modify, if_pos, h]
  rfl
theorem set3_ne {W : World} {c g : Nat} (h : g ≠ c) (a' b' d' : Value) : (((W.setCell ⟨c, 0, none⟩ a').setCell ⟨c, 1, none⟩ b').setCell ⟨c, 2, none⟩ d').heap[g]? = W.heap[g]? := by
  rw [Below.heap_setCell _ _ _ _ h, Below.heap_setCell _ _ _ _ h, Below.heap_setCell _ _ _ _ h]
/-- What holds ahead of a round of chain. -/
structure Ch (gp bt g : Nat) (S : List Tok) (w0 w : World) (cl cr : Nat) (R : Res) (n k : Nat) (x : T) (l : List Tok) (b : Bool) (u : Value) : Prop where
  st : St gp bt w u l b
  var : Vr (fun i => w0.heap.size < i ∧ i ≠ cl) w cl x
  res : ∃ c0 c1 c2, w.heap[cr]? = some (.cells #[c0, c1, c2] 44)
  row : ∀ j t, S[j]? = some t → w.cell? ⟨g, j, none⟩ = some (sv t)
  fr : Fr gp w0.heap.size w0 w
  eq : G n (10 + k) x l b = R
  fuel : 20 * l.length + 1 ≤ n
  len : l.length ≤ 400
  lv : x.lv + l.length ≤ 800
/-- A row of two nodes. -/
def two (o1 : ByteArray) (A1 : Option Addr) (k1 c1 : Nat) (n1 : Nat) (o2 : ByteArray) (A2 : Option Addr) (k2 c2 : Nat) (n2 : Nat) : Obj := .cells #[.string o1, .slice A1 k1 c1, .int .i64 (n1 : Int), .string o2, .slice A2 k2 c2, .int .i64 (n2 : Int)] 44
/-- A round of chain. -/
theorem Ch.step {gp bt g : Nat} {w0 w w2 w3 w4 : World} {cl : Nat} {R : Res} {m k : Nat} {x : T} {l r : List Tok} {b : Bool} {u u3 : Value} {o : Tok} {y : Res} {o1 o2 : ByteArray} {A1 A2 : Option Addr} {k1 c1 k2 c2 : Nat}
    (hc : Ch gp bt g (ops k) w0 w cl w0.heap.size R (m + 1) k x l b u) (hg : g < w0.heap.size) (hgp : gp < w0.heap.size) (hbt : bt < w0.heap.size) (hcl : w0.heap.size < cl) (hne : g ≠ gp) (hlr : l.length = r.length + 1)
    (hv : w.heap[cl]? = some (.cells #[.string o1, .slice A1 k1 c1, .int .i64 (x.lv : Int)] 44)) (hn1 : Nd (fun i => w0.heap.size < i ∧ i ≠ cl) w x (.agg #[.string o1, .slice A1 k1 c1, .int .i64 (x.lv : Int)]))
    (f2 : Fr gp w.heap.size w w2) (f3 : Fr gp w2.heap.size w2 w3) (hs3 : St gp bt w3 u3 y.r y.b) (hn2 : Nd (w2.heap.size ≤ ·) w3 y.t (.agg #[.string o2, .slice A2 k2 c2, .int .i64 (y.t.lv : Int)]))
    (hb4 : Below (w3.alloc (two o1 A1 k1 c1 x.lv o2 A2 k2 c2 y.t.lv)).heap.size (w3.alloc (two o1 A1 k1 c1 x.lv o2 A2 k2 c2 y.t.lv)) w4) (heq : G m (10 + k) (.bin o x y.t) y.r y.b = R) (hsz : y.t.sz + y.r.length ≤ r.length) :
    Ch gp bt g (ops k) w0 (((w4.setCell ⟨cl, 0, none⟩ (sv o)).setCell ⟨cl, 1, none⟩ (.slice (some ⟨w3.heap.size, 0, none⟩) 2 2)).setCell ⟨cl, 2, none⟩ (.int .i64 ((max x.lv y.t.lv + 1 : Nat) : Int))) cl w0.heap.size R m k (.bin o x y.t) y.r y.b u3 := by
  have hz0 := hc.fr.size
  have hz2 := f2.size
  have hz3 := f3.size
  have hz4 := hb4.size
  simp only [World.size_alloc] at hz4
  have hclw := lt_heap hv
  obtain ⟨e0, e1, e2, he⟩ := hc.res
  have hfu := hc.fuel
  have hle := hc.len
  have hlv := hc.lv
  have hyl := T.lv_sz y.t
  have B34 : Below w3.heap.size w3 w4 := ((Below.refl _ w3).alloc (Nat.le_refl _) _).trans (hb4.mono (by simp))
  have F4 : Fr gp w.heap.size w w4 := (f2.trans f3 f2.size).trans (Fr.of B34) (by omega)
  have hc4 : w4.heap[cl]? = some _ := (F4.block cl hclw (by omega)).trans hv
  have zz : ∀ (W : World) (a b d : Value), (((W.setCell ⟨cl, 0, none⟩ a).setCell ⟨cl, 1, none⟩ b).setCell ⟨cl, 2, none⟩ d).heap.size = W.heap.size := fun W a b d => by simp [World.setCell]
  have hnew : w4.heap[w3.heap.size]? = some (two o1 A1 k1 c1 x.lv o2 A2 k2 c2 y.t.lv) := (hb4.block w3.heap.size (by simp)).trans (heap_new _ _)
  refine ⟨?_, ?_, ⟨e0, e1, e2, ?_⟩, fun j t hj => ?_, ?_, heq, by omega, by omega, ?_⟩
  · exact (hs3.below B34).keep (set3_ne (by omega) _ _ _) (set3_ne (by omega) _ _ _) (by rw [zz]; exact Nat.le_refl _)
  · refine ⟨_, _, _, _, set3 hc4 _ _ _, ?_⟩
    refine ⟨w3.heap.size, _, _, _, _, _, _, _, rfl, ⟨by omega, by omega⟩, (set3_ne (by omega) _ _ _).trans hnew, ?_, ?_⟩
    · exact Nd.keep (fun i hi hl => (set3_ne hi.2 _ _ _).trans (F4.block i hl (by omega))) (fun i hi _ => hi) _ _ hn1
    · exact Nd.keep (X := fun i => w2.heap.size ≤ i) (fun i hi hl => (set3_ne (by omega) _ _ _).trans (B34.block i hl)) (fun i hi _ => ⟨by omega, by omega⟩) _ _ hn2
  · exact (set3_ne (by omega) _ _ _).trans ((F4.block _ (lt_heap he) (by omega)).trans he)
  · rw [World.cell?_of_block (w := w4) (set3_ne (by show g ≠ cl; omega) _ _ _), F4.cell (by omega) hne j none]
    exact hc.row j t hj
  · exact (hc.fr.trans F4 hz0).trans (Fr.of ((((Below.refl w0.heap.size w4).setCell (by show _ ≤ cl; omega) _).setCell (by show _ ≤ cl; omega) _).setCell (by show _ ≤ cl; omega) _)) (Nat.le_refl _)
  · simp only [T.lv]; omega
set_option maxRecDepth 100000 in
set_option maxHeartbeats 4000000 in
theorem chain_any (f : FuncId) (eg : ∀ args w, (callFunc f args).run Tryz.prog w = .ok (.enter f args) w) (n k : Nat) (hf : ∀ m, m ≤ n → Lv f m (k + 1)) (hk : k ≤ 5) (gp bt : Nat) (w : World) (v : Value) (l : List Tok) (b : Bool) (h : St gp bt w v l b) (hn : 20 * l.length + (12 - (k + 1)) ≤ n) (hl : l.length ≤ 400)
    (g : Nat) (hS : ∀ j x, (ops k)[j]? = some x → w.cell? ⟨g, j, none⟩ = some (sv x)) (hg : g ≠ gp) (hgl : g < w.heap.size) :
    Calls Tryz.prog 53 #[.pointer (some ⟨gp, 0, none⟩), .func (.func f) #[.pointer (some ⟨gp, 0, none⟩)] #[], .slice (some ⟨g, 0, none⟩) (ops k).length (ops k).length] w
      (Post gp bt w (G n (10 + k) (G n (k + 1) .bad l b).t (G n (k + 1) .bad l b).r (G n (k + 1) .bad l b).b)) := by
  have HF := Lib.hid hf; clear hf
  have HS := Lib.hid h; have HO := Lib.hid hS; clear h hS
  go_enter Tryz.func53, Tryz.ntmps53
  go_wp2_with fail
  refine (HF.out n (Nat.le_refl _) gp bt _ v l b (HS.out.alloc _) (by omega) hl).mono ?_
  rintro e w1 ⟨x, u, rfl, hx, hs, hf⟩
  obtain ⟨o0, A0, k0, c0, rfl⟩ := hx.form
  have hsz := hf.size
  simp only [World.size_alloc] at hsz
  have hRes : ∃ e0 e1 e2, w1.heap[w.heap.size]? = some (.cells #[e0, e1, e2] 44) := ⟨_, _, _, (hf.block w.heap.size (by simp) (by have := HS.out.lt; omega)).trans (heap_new w _)⟩
  have hG := G_sz n (k + 1) .bad l b
  have hL1 := T.lv_sz (G n (k + 1) .bad l b).t
  simp only [T.sz] at hG
  have hW : Fr gp w.heap.size w w1 := (Fr.of ((Below.refl _ w).alloc (Nat.le_refl _) _)).trans hf (by simp)
  have J0 : Hid (∃ m x l' b' u', m ≤ n ∧ Ch gp bt g (ops k) w (w1.alloc (.cells #[.string o0, .slice A0 k0 c0, .int .i64 ((G n (k + 1) .bad l b).t.lv : Int)] 44)) w1.heap.size w.heap.size (G n (10 + k) (G n (k + 1) .bad l b).t (G n (k + 1) .bad l b).r (G n (k + 1) .bad l b).b) m k x l' b' u') := Lib.hid
    ⟨n, _, _, _, u, Nat.le_refl _, hs.alloc _, ⟨_, _, _, _, heap_new _ _, Nd.keep (X := fun i => (w.alloc (.cells #[.string ⟨#[]⟩, .slice none 0 0, .int .i64 0] 44)).heap.size ≤ i) (fun i _ hl => Below.heap_alloc _ _ _ hl) (fun i (hi : (w.alloc (.cells #[.string ⟨#[]⟩, .slice none 0 0, .int .i64 0] 44)).heap.size ≤ i) hl => by simp only [World.size_alloc] at hi; exact ⟨by omega, by omega⟩) _ _ hx⟩, by
        obtain ⟨e0, e1, e2, he⟩ := hRes; exact ⟨e0, e1, e2, (Below.heap_alloc _ _ _ (by omega)).trans he⟩,
      fun j t hj => by
        have h1 := HO.out j t hj
        rw [World.cell?_of_block (w := w1) (Below.heap_alloc _ _ _ (by show g < w1.heap.size; omega)), hW.cell hgl hg j none]
        exact h1, hW.alloc (by omega) _, rfl, by omega, by omega, by omega⟩
  clear hs hx hf hRes hG hL1
  have HW := Lib.hid hW
  clear hW
  go_wp2_with fail
  have hgp := HS.out.lt
  obtain ⟨R, hR⟩ : ∃ R, (G n (10 + k) (G n (k + 1) .bad l b).t (G n (k + 1) .bad l b).r (G n (k + 1) .bad l b).b) = R := ⟨_, rfl⟩
  rw [hR] at J0 ⊢
  clear hR
  go_loopw [] (fun wr => Hid (∃ m x l' b' u', m ≤ n ∧ Ch gp bt g (ops k) w wr w1.heap.size w.heap.size R m k x l' b' u')) (fun wr => tkLen gp wr)
  case atStart => exact J0
  case round =>
    obtain ⟨m, x, l', b', u', hm, hc⟩ := hrel.out
    clear hrel J0
    obtain ⟨m, rfl⟩ : ∃ j, m = j + 1 := ⟨m - 1, by have := hc.fuel; omega⟩
    have hlen := hc.st.len
    have HT := Lib.hid (take_any hc.st g (ops k) hc.row (by have : ∀ k, (ops k).length ≤ 3 := (by intro k; unfold ops; split <;> decide); have := this k; omega) hc.len)
    have HC := Lib.hid hc
    cases hx : next (ops k) l' with
    | none =>
      rw [hx] at HT
      have heq : (⟨x, l', b'⟩ : Res) = R := by have := hc.eq; rw [G_lp, hx] at this; exact this
      have HE := Lib.hid heq; clear heq hx hc
      go_wp2_with fail
      refine HT.out.mono ?_
      rintro e w2 ⟨rfl, hs, hf⟩
      obtain ⟨o1, A1, k1, c1, hv, hn1⟩ := HC.out.var
      obtain ⟨e0, e1, e2, hr⟩ := HC.out.res
      have hcl : w2.heap[w1.heap.size]? = some _ := (hf.block _ (lt_heap hv) (by omega)).trans hv
      have hcr : w2.heap[w.heap.size]? = some _ := (hf.block _ (lt_heap hr) (by omega)).trans hr
      obtain ⟨q0, q1, q2, qf⟩ := c3 hcl
      obtain ⟨p0, p1, p2, pf⟩ := c3 hcr
      have pf0 := pf 0; have pf1 := pf 1; have pf2 := pf 2
      have hN : Nd (w.heap.size ≤ ·) (((w2.setCell ⟨w.heap.size, 0, none⟩ (.string o1)).setCell ⟨w.heap.size, 1, none⟩ (.slice A1 k1 c1)).setCell ⟨w.heap.size, 2, none⟩ (.int .i64 (x.lv : Int))) x (.agg #[.string o1, .slice A1 k1 c1, .int .i64 (x.lv : Int)]) :=
        Nd.keep (X := fun i => w.heap.size < i ∧ i ≠ w1.heap.size) (fun i hi hl => (set3_ne (by omega) _ _ _).trans (hf.block i hl (by omega))) (fun i hi _ => Nat.le_of_lt hi.1) _ _ hn1
      have hS9 : St gp bt (((w2.setCell ⟨w.heap.size, 0, none⟩ (.string o1)).setCell ⟨w.heap.size, 1, none⟩ (.slice A1 k1 c1)).setCell ⟨w.heap.size, 2, none⟩ (.int .i64 (x.lv : Int))) u' l' b' :=
        hs.keep ((set3_ne (by have := HS.out.lb; omega) _ _ _)) (set3_ne (by omega) _ _ _) (by simp [World.setCell])
      have hZ := set3 hcr (.string o1) (.slice A1 k1 c1) (.int .i64 (x.lv : Int))
      clear hv hn1 hr hcl hcr
      have hF : Fr gp w.heap.size w (((w2.setCell ⟨w.heap.size, 0, none⟩ (.string o1)).setCell ⟨w.heap.size, 1, none⟩ (.slice A1 k1 c1)).setCell ⟨w.heap.size, 2, none⟩ (.int .i64 (x.lv : Int))) :=
        (HC.out.fr.trans hf HC.out.fr.size).trans (Fr.of ((((Below.refl w.heap.size w2).setCell (Nat.le_refl _) _).setCell (Nat.le_refl _) _).setCell (Nat.le_refl _) _)) (Nat.le_refl _)
      clear hf
      go_wp2_with fail
      generalize (((w2.setCell ⟨w.heap.size, 0, none⟩ (.string o1)).setCell ⟨w.heap.size, 1, none⟩ (.slice A1 k1 c1)).setCell ⟨w.heap.size, 2, none⟩ (.int .i64 (x.lv : Int))) = W9 at hZ hN hS9 hF ⊢
      obtain ⟨z0, z1, z2, _⟩ := c3 hZ
      refine bodyPost_ret (v := .agg #[.string o1, .slice A1 k1 c1, .int .i64 (x.lv : Int)]) (by simp [results, Tryz.results53, go_sem, z0, z1, z2]) rfl ?_
      rw [← HE.out]
      exact ⟨_, _, rfl, hN, hS9, hF⟩
    | some y =>
      obtain ⟨o, r⟩ := y
      rw [hx] at HT
      have hlr : l'.length = r.length + 1 := by rw [(next_le hx).1]; rfl
      have heq : G m (10 + k) (.bin o x (G m (k + 1) .bad r b').t) (G m (k + 1) .bad r b').r (G m (k + 1) .bad r b').b = R := by have := hc.eq; rw [G_lp, hx] at this; exact this
      have hfu := hc.fuel
      have hle := hc.len
      have hlv := hc.lv
      have HE := Lib.hid heq; clear heq hx hc

      go_wp2_with fail
      refine HT.out.mono ?_
      rintro e w2 ⟨rfl, u2, hs, hf⟩
      unfold sv
      obtain ⟨o1, A1, k1, c1, hv, hn1⟩ := HC.out.var
      have hcl : w2.heap[w1.heap.size]? = some _ := (hf.block _ (lt_heap hv) (by omega)).trans hv
      have hz2 := hf.size
      have hzc := lt_heap hv
      obtain ⟨q0, q1, q2, qf⟩ := c3 hcl
      have HN := Lib.hid hn1
      have HS2 := Lib.hid hs
      have HF2 := Lib.hid hf
      have HCL := Lib.hid hcl
      have HV := Lib.hid hv
      clear hs hf hv hn1 hcl
      have HQ : Hid (∀ W, W.heap = w2.heap → Calls Tryz.prog f #[.pointer (some ⟨gp, 0, none⟩)] W (Post gp bt W (G m (k + 1) .bad r b'))) := Lib.hid fun W hW =>
        HF.out m (by omega) gp bt W u2 r b' (HS2.out.keep (by rw [hW]) (by rw [hW]) (by rw [hW]; exact Nat.le_refl _)) (by omega) (by omega)
      have hG := G_sz m (k + 1) .bad r b'
      have hL1 := T.lv_sz (G m (k + 1) .bad r b').t
      simp only [T.sz] at hG
      have HM : Hid (∀ (W0 W : World) (o2 : ByteArray) (A2 : Option Addr) (k2 c2 : Nat), W.heap = (W0.alloc (.cells #[.string o1, .slice A1 k1 c1, .int .i64 (x.lv : Int), .string o2, .slice A2 k2 c2, .int .i64 ((G m (k + 1) .bad r b').t.lv : Int)] 44)).heap →
          Calls Tryz.prog 92 #[.string ⟨o.toArray⟩, .slice (some ⟨W0.heap.size, 0, none⟩) 2 2] W fun e w' => e = .returned (.agg #[.string ⟨o.toArray⟩, .slice (some ⟨W0.heap.size, 0, none⟩) 2 2, .int .i64 ((max x.lv (G m (k + 1) .bad r b').t.lv + 1 : Nat) : Int)]) ∧ Below W.heap.size W w') := Lib.hid fun W0 W o2 A2 k2 c2 hW =>
        makeNode_2 o W W0.heap.size _ o1 A1 k1 c1 x.lv o2 A2 k2 c2 _ (by rw [hW]; exact heap_new _ _) (by omega) (by omega)
      have HG := Lib.hid hG; have HL := Lib.hid hL1
      clear hG hL1
      go_wp2_with fail
      go_region_with (first
        | (go_at_call 92; refine (HM.out w3 _ o2 A2 k2 c2 (by rfl)).mono ?_; rintro e w4 ⟨rfl, hb4⟩; obtain ⟨y0, y1, y2, yf⟩ := c3 (((hb4.block w1.heap.size (by have := hf3.size; simp only [World.size_alloc]; have := lt_heap HCL.out; exact Nat.lt_of_lt_of_le this (Nat.le_trans ‹_› (by simp)))).trans (Below.heap_alloc _ _ _ (Nat.lt_of_lt_of_le (lt_heap HCL.out) hf3.size))).trans ((hf3.block w1.heap.size (lt_heap HCL.out) (by omega)).trans HCL.out)))
        | (refine (HQ.out _ (by rfl)).mono ?_; rintro e w3 ⟨xv, u3, rfl, hx3, hs3, hf3⟩; obtain ⟨o2, A2, k2, c2, rfl⟩ := hx3.form; obtain ⟨t0, t1, t2, tf⟩ := c3 ((hf3.block w1.heap.size (lt_heap HCL.out) (by omega)).trans HCL.out)))
      all_goals
        have f3 : Fr gp w2.heap.size w2 w3 := ⟨hf3.os, hf3.tape, hf3.output, hf3.size, hf3.block⟩
        have hb : ∀ W : World, W.heap = (w3.alloc (two o1 A1 k1 c1 x.lv o2 A2 k2 c2 (G m (k + 1) .bad r b').t.lv)).heap → W.os = w3.os → W.tape = w3.tape → W.output = w3.output → Below W.heap.size W w4 → Below (w3.alloc (two o1 A1 k1 c1 x.lv o2 A2 k2 c2 (G m (k + 1) .bad r b').t.lv)).heap.size (w3.alloc (two o1 A1 k1 c1 x.lv o2 A2 k2 c2 (G m (k + 1) .bad r b').t.lv)) w4 :=
          fun W h1 h2 h3 h4 h5 => ⟨h5.os.trans h2, h5.tape.trans h3, h5.output.trans h4, by rw [← h1]; exact h5.size, fun i hi => by rw [← h1] at hi ⊢; exact h5.block i hi⟩
        have hb4' := hb _ rfl rfl rfl rfl hb4
        have JN := Lib.hid (Ch.step HC.out hgl HS.out.lt HS.out.lb (by omega) hg hlr HV.out HN.out HF2.out f3 hs3 hx3 hb4' HE.out (by have := HG.out; omega))
        go_roundw
        case rel => exact ⟨_, _, _, _, _, _, _, _, _, _, _, _, _, _, _, _, _, Lib.hid ⟨m, _, _, _, _, by omega, JN.out⟩, rfl⟩
        case measure =>
          have h1 := JN.out.st.len
          have h2 := HG.out
          have h3 : ∀ a b : Nat, a = (G m (k + 1) .bad r b').r.length → b = l'.length → a < b := by omega
          exact h3 _ _ h1 hlen
end Go.Proofs.YtfocokjihbenmaaGreatDoor.Fo

namespace Go.Proofs.YtfocokjihbenmaaGreatDoor.Fo
open Go.RowKit Go.Proofs.YtfocokjihbenmaaGreatDoor.Nu
set_option linter.unusedVariables false
set_option linter.unusedSimpArgs false

abbrev zn : Obj := .cells #[.string ⟨#[]⟩, .slice none 0 0, .int .i64 0] 44
theorem row_at' (W : World) (n : Nat) (hn : n = W.heap.size) (S : List Tok) (t : TypeId) : ∀ j x, S[j]? = some x → (W.alloc (row S t)).cell? ⟨n, j, none⟩ = some (sv x) := by
  subst hn; exact row_at W S t
section
variable {gp bt : Nat} {w w1 : World} {u : Value} {r : List Tok} {b : Bool} {x : T} {o : ByteArray} {A : Option Addr} {k c : Nat}
def set9 (w1 : World) (g : Nat) (o : ByteArray) (A : Option Addr) (k c : Nat) (n : Int) : World := ((w1.setCell ⟨g, 0, none⟩ (.string o)).setCell ⟨g, 1, none⟩ (.slice A k c)).setCell ⟨g, 2, none⟩ (.int .i64 n)
/-- The node is written into the result. -/
theorem fin (hs : St gp bt w1 u r b) (hgp : gp < w.heap.size) (hbt : bt < w.heap.size) (hf : Fr gp (w.heap.size + 1) (w.alloc zn) w1) (hx : Nd (w.heap.size + 1 ≤ ·) w1 x (.agg #[.string o, .slice A k c, .int .i64 (x.lv : Int)])) :
    (set9 w1 w.heap.size o A k c x.lv).heap[w.heap.size]? = some (.cells #[.string o, .slice A k c, .int .i64 (x.lv : Int)] 44) ∧
    Nd (w.heap.size ≤ ·) (set9 w1 w.heap.size o A k c x.lv) x (.agg #[.string o, .slice A k c, .int .i64 (x.lv : Int)]) ∧ St gp bt (set9 w1 w.heap.size o A k c x.lv) u r b ∧ Fr gp w.heap.size w (set9 w1 w.heap.size o A k c x.lv) := by
  have h0 : w1.heap[w.heap.size]? = some zn := (hf.block _ (Nat.lt_succ_self _) (by omega)).trans (heap_new _ _)
  refine ⟨set3 h0 _ _ _, Nd.keep (X := fun i => w.heap.size + 1 ≤ i) (fun i hi hl => set3_ne (by omega) _ _ _) (fun i hi _ => by omega) _ _ hx, hs.keep (set3_ne (by omega) _ _ _) (set3_ne (by omega) _ _ _) (by simp [set9, World.setCell]), ?_⟩
  exact (((Fr.of ((Below.refl _ w).alloc (Nat.le_refl _) _)).trans hf (by omega)).trans (Fr.of ((((Below.refl w.heap.size w1).setCell (Nat.le_refl _) _).setCell (Nat.le_refl _) _).setCell (Nat.le_refl _) _)) (Nat.le_refl _))
theorem fin0 (hf : Fr gp (w.heap.size + 1) (w.alloc zn) w1) (hgp : gp < w.heap.size) : w1.heap[w.heap.size]? = some zn := (hf.block _ (Nat.lt_succ_self _) (by omega)).trans (heap_new _ _)
end
-- LEVELS
set_option maxRecDepth 100000 in
set_option maxHeartbeats 2000000 in
theorem lv_0 (n : Nat) (ih : ∀ m, m < n → Lv 54 m 1) : Lv 33 n 0 := by
  intro gp bt w v l b h hn hl
  obtain ⟨n, rfl⟩ : ∃ j, n = j + 1 := ⟨n - 1, by omega⟩
  rw [G_lv n 0 .bad l b (by decide) (by decide) (by decide) (by decide) (by decide)]
  have hmf := run_mkf
  have h2 : St gp bt ((w.alloc zn).alloc (row (ops 0) 9)) v l b := (h.alloc _).alloc _
  have HQ := Lib.hid (chain_any 54 (fun _ _ => rfl) n 0 (fun m hm => ih m (by omega)) (by decide) gp bt _ v l b h2 (by omega) hl (w.heap.size + 1) (row_at' (w.alloc zn) _ (by simp) _ _) (by have := h.lt; omega) (by simp))
  have hgp := h.lt
  have hbt := h.lb
  clear h h2 ih
  obtain ⟨R, hR⟩ : ∃ R, (G n (10 + 0) (G n (0 + 1) .bad l b).t (G n (0 + 1) .bad l b).r (G n (0 + 1) .bad l b).b) = R := ⟨_, rfl⟩
  rw [hR] at HQ ⊢
  clear hR
  go_enter Tryz.func33, Tryz.ntmps33
  go_wp2_with fail
  refine HQ.out.mono ?_
  rintro e w1 ⟨x, u, rfl, hx, hs, hf⟩
  obtain ⟨o1, A1, k1, c1, rfl⟩ := hx.form
  have hf1 : Fr gp (w.heap.size + 1) (w.alloc zn) w1 := (Fr.of ((Below.refl _ (w.alloc zn)).alloc (by simp) _)).trans hf (by simp)
  obtain ⟨z0, z1, z2, zf⟩ := c3 (fin0 hf1 hgp)
  have zf0 := zf 0; have zf1 := zf 1; have zf2 := zf 2
  obtain ⟨y1, y2, y3, y4⟩ := fin hs hgp hbt hf1 (hx.imp fun i hi => by simp at hi; omega)
  have Y1 := Lib.hid y1; have Y := Lib.hid (And.intro y2 (And.intro y3 y4))
  clear hs hf hx hf1 y1 y2 y3 y4
  unfold set9 at Y1 Y
  go_wp2_with fail
  generalize (((w1.setCell ⟨w.heap.size, 0, none⟩ (.string o1)).setCell ⟨w.heap.size, 1, none⟩ (.slice A1 k1 c1)).setCell ⟨w.heap.size, 2, none⟩ (.int .i64 (R.t.lv : Int))) = W9 at Y1 Y ⊢
  obtain ⟨q0, q1, q2, _⟩ := c3 Y1.out
  refine bodyPost_ret (v := .agg #[.string o1, .slice A1 k1 c1, .int .i64 (R.t.lv : Int)]) (by simp [results, Tryz.results33, go_sem, q0, q1, q2]) rfl ?_
  exact ⟨_, _, rfl, Y.out.1, Y.out.2.1, Y.out.2.2⟩
set_option maxRecDepth 100000 in
set_option maxHeartbeats 2000000 in
theorem lv_1 (n : Nat) (ih : ∀ m, m < n → Lv 93 m 2) : Lv 54 n 1 := by
  intro gp bt w v l b h hn hl
  obtain ⟨n, rfl⟩ : ∃ j, n = j + 1 := ⟨n - 1, by omega⟩
  rw [G_lv n 1 .bad l b (by decide) (by decide) (by decide) (by decide) (by decide)]
  have hmf := run_mkf
  have h2 : St gp bt ((w.alloc zn).alloc (row (ops 1) 9)) v l b := (h.alloc _).alloc _
  have HQ := Lib.hid (chain_any 93 (fun _ _ => rfl) n 1 (fun m hm => ih m (by omega)) (by decide) gp bt _ v l b h2 (by omega) hl (w.heap.size + 1) (row_at' (w.alloc zn) _ (by simp) _ _) (by have := h.lt; omega) (by simp))
  have hgp := h.lt
  have hbt := h.lb
  clear h h2 ih
  obtain ⟨R, hR⟩ : ∃ R, (G n (10 + 1) (G n (1 + 1) .bad l b).t (G n (1 + 1) .bad l b).r (G n (1 + 1) .bad l b).b) = R := ⟨_, rfl⟩
  rw [hR] at HQ ⊢
  clear hR
  go_enter Tryz.func54, Tryz.ntmps54
  go_wp2_with fail
  refine HQ.out.mono ?_
  rintro e w1 ⟨x, u, rfl, hx, hs, hf⟩
  obtain ⟨o1, A1, k1, c1, rfl⟩ := hx.form
  have hf1 : Fr gp (w.heap.size + 1) (w.alloc zn) w1 := (Fr.of ((Below.refl _ (w.alloc zn)).alloc (by simp) _)).trans hf (by simp)
  obtain ⟨z0, z1, z2, zf⟩ := c3 (fin0 hf1 hgp)
  have zf0 := zf 0; have zf1 := zf 1; have zf2 := zf 2
  obtain ⟨y1, y2, y3, y4⟩ := fin hs hgp hbt hf1 (hx.imp fun i hi => by simp at hi; omega)
  have Y1 := Lib.hid y1; have Y := Lib.hid (And.intro y2 (And.intro y3 y4))
  clear hs hf hx hf1 y1 y2 y3 y4
  unfold set9 at Y1 Y
  go_wp2_with fail
  generalize (((w1.setCell ⟨w.heap.size, 0, none⟩ (.string o1)).setCell ⟨w.heap.size, 1, none⟩ (.slice A1 k1 c1)).setCell ⟨w.heap.size, 2, none⟩ (.int .i64 (R.t.lv : Int))) = W9 at Y1 Y ⊢
  obtain ⟨q0, q1, q2, _⟩ := c3 Y1.out
  refine bodyPost_ret (v := .agg #[.string o1, .slice A1 k1 c1, .int .i64 (R.t.lv : Int)]) (by simp [results, Tryz.results54, go_sem, q0, q1, q2]) rfl ?_
  exact ⟨_, _, rfl, Y.out.1, Y.out.2.1, Y.out.2.2⟩
set_option maxRecDepth 100000 in
set_option maxHeartbeats 2000000 in
theorem lv_3 (n : Nat) (ih : ∀ m, m < n → Lv 122 m 4) : Lv 113 n 3 := by
  intro gp bt w v l b h hn hl
  obtain ⟨n, rfl⟩ : ∃ j, n = j + 1 := ⟨n - 1, by omega⟩
  rw [G_lv n 3 .bad l b (by decide) (by decide) (by decide) (by decide) (by decide)]
  have hmf := run_mkf
  have h2 : St gp bt ((w.alloc zn).alloc (row (ops 3) 9)) v l b := (h.alloc _).alloc _
  have HQ := Lib.hid (chain_any 122 (fun _ _ => rfl) n 3 (fun m hm => ih m (by omega)) (by decide) gp bt _ v l b h2 (by omega) hl (w.heap.size + 1) (row_at' (w.alloc zn) _ (by simp) _ _) (by have := h.lt; omega) (by simp))
  have hgp := h.lt
  have hbt := h.lb
  clear h h2 ih
  obtain ⟨R, hR⟩ : ∃ R, (G n (10 + 3) (G n (3 + 1) .bad l b).t (G n (3 + 1) .bad l b).r (G n (3 + 1) .bad l b).b) = R := ⟨_, rfl⟩
  rw [hR] at HQ ⊢
  clear hR
  go_enter Tryz.func113, Tryz.ntmps113
  go_wp2_with fail
  refine HQ.out.mono ?_
  rintro e w1 ⟨x, u, rfl, hx, hs, hf⟩
  obtain ⟨o1, A1, k1, c1, rfl⟩ := hx.form
  have hf1 : Fr gp (w.heap.size + 1) (w.alloc zn) w1 := (Fr.of ((Below.refl _ (w.alloc zn)).alloc (by simp) _)).trans hf (by simp)
  obtain ⟨z0, z1, z2, zf⟩ := c3 (fin0 hf1 hgp)
  have zf0 := zf 0; have zf1 := zf 1; have zf2 := zf 2
  obtain ⟨y1, y2, y3, y4⟩ := fin hs hgp hbt hf1 (hx.imp fun i hi => by simp at hi; omega)
  have Y1 := Lib.hid y1; have Y := Lib.hid (And.intro y2 (And.intro y3 y4))
  clear hs hf hx hf1 y1 y2 y3 y4
  unfold set9 at Y1 Y
  go_wp2_with fail
  generalize (((w1.setCell ⟨w.heap.size, 0, none⟩ (.string o1)).setCell ⟨w.heap.size, 1, none⟩ (.slice A1 k1 c1)).setCell ⟨w.heap.size, 2, none⟩ (.int .i64 (R.t.lv : Int))) = W9 at Y1 Y ⊢
  obtain ⟨q0, q1, q2, _⟩ := c3 Y1.out
  refine bodyPost_ret (v := .agg #[.string o1, .slice A1 k1 c1, .int .i64 (R.t.lv : Int)]) (by simp [results, Tryz.results113, go_sem, q0, q1, q2]) rfl ?_
  exact ⟨_, _, rfl, Y.out.1, Y.out.2.1, Y.out.2.2⟩
set_option maxRecDepth 100000 in
set_option maxHeartbeats 2000000 in
theorem lv_4 (n : Nat) (ih : ∀ m, m < n → Lv 125 m 5) : Lv 122 n 4 := by
  intro gp bt w v l b h hn hl
  obtain ⟨n, rfl⟩ : ∃ j, n = j + 1 := ⟨n - 1, by omega⟩
  rw [G_lv n 4 .bad l b (by decide) (by decide) (by decide) (by decide) (by decide)]
  have hmf := run_mkf
  have h2 : St gp bt ((w.alloc zn).alloc (row (ops 4) 9)) v l b := (h.alloc _).alloc _
  have HQ := Lib.hid (chain_any 125 (fun _ _ => rfl) n 4 (fun m hm => ih m (by omega)) (by decide) gp bt _ v l b h2 (by omega) hl (w.heap.size + 1) (row_at' (w.alloc zn) _ (by simp) _ _) (by have := h.lt; omega) (by simp))
  have hgp := h.lt
  have hbt := h.lb
  clear h h2 ih
  obtain ⟨R, hR⟩ : ∃ R, (G n (10 + 4) (G n (4 + 1) .bad l b).t (G n (4 + 1) .bad l b).r (G n (4 + 1) .bad l b).b) = R := ⟨_, rfl⟩
  rw [hR] at HQ ⊢
  clear hR
  go_enter Tryz.func122, Tryz.ntmps122
  go_wp2_with fail
  refine HQ.out.mono ?_
  rintro e w1 ⟨x, u, rfl, hx, hs, hf⟩
  obtain ⟨o1, A1, k1, c1, rfl⟩ := hx.form
  have hf1 : Fr gp (w.heap.size + 1) (w.alloc zn) w1 := (Fr.of ((Below.refl _ (w.alloc zn)).alloc (by simp) _)).trans hf (by simp)
  obtain ⟨z0, z1, z2, zf⟩ := c3 (fin0 hf1 hgp)
  have zf0 := zf 0; have zf1 := zf 1; have zf2 := zf 2
  obtain ⟨y1, y2, y3, y4⟩ := fin hs hgp hbt hf1 (hx.imp fun i hi => by simp at hi; omega)
  have Y1 := Lib.hid y1; have Y := Lib.hid (And.intro y2 (And.intro y3 y4))
  clear hs hf hx hf1 y1 y2 y3 y4
  unfold set9 at Y1 Y
  go_wp2_with fail
  generalize (((w1.setCell ⟨w.heap.size, 0, none⟩ (.string o1)).setCell ⟨w.heap.size, 1, none⟩ (.slice A1 k1 c1)).setCell ⟨w.heap.size, 2, none⟩ (.int .i64 (R.t.lv : Int))) = W9 at Y1 Y ⊢
  obtain ⟨q0, q1, q2, _⟩ := c3 Y1.out
  refine bodyPost_ret (v := .agg #[.string o1, .slice A1 k1 c1, .int .i64 (R.t.lv : Int)]) (by simp [results, Tryz.results122, go_sem, q0, q1, q2]) rfl ?_
  exact ⟨_, _, rfl, Y.out.1, Y.out.2.1, Y.out.2.2⟩
set_option maxRecDepth 100000 in
set_option maxHeartbeats 2000000 in
theorem lv_5 (n : Nat) (ih : ∀ m, m < n → Lv 128 m 6) : Lv 125 n 5 := by
  intro gp bt w v l b h hn hl
  obtain ⟨n, rfl⟩ : ∃ j, n = j + 1 := ⟨n - 1, by omega⟩
  rw [G_lv n 5 .bad l b (by decide) (by decide) (by decide) (by decide) (by decide)]
  have hmf := run_mkf
  have h2 : St gp bt ((w.alloc zn).alloc (row (ops 5) 9)) v l b := (h.alloc _).alloc _
  have HQ := Lib.hid (chain_any 128 (fun _ _ => rfl) n 5 (fun m hm => ih m (by omega)) (by decide) gp bt _ v l b h2 (by omega) hl (w.heap.size + 1) (row_at' (w.alloc zn) _ (by simp) _ _) (by have := h.lt; omega) (by simp))
  have hgp := h.lt
  have hbt := h.lb
  clear h h2 ih
  obtain ⟨R, hR⟩ : ∃ R, (G n (10 + 5) (G n (5 + 1) .bad l b).t (G n (5 + 1) .bad l b).r (G n (5 + 1) .bad l b).b) = R := ⟨_, rfl⟩
  rw [hR] at HQ ⊢
  clear hR
  go_enter Tryz.func125, Tryz.ntmps125
  go_wp2_with fail
  refine HQ.out.mono ?_
  rintro e w1 ⟨x, u, rfl, hx, hs, hf⟩
  obtain ⟨o1, A1, k1, c1, rfl⟩ := hx.form
  have hf1 : Fr gp (w.heap.size + 1) (w.alloc zn) w1 := (Fr.of ((Below.refl _ (w.alloc zn)).alloc (by simp) _)).trans hf (by simp)
  obtain ⟨z0, z1, z2, zf⟩ := c3 (fin0 hf1 hgp)
  have zf0 := zf 0; have zf1 := zf 1; have zf2 := zf 2
  obtain ⟨y1, y2, y3, y4⟩ := fin hs hgp hbt hf1 (hx.imp fun i hi => by simp at hi; omega)
  have Y1 := Lib.hid y1; have Y := Lib.hid (And.intro y2 (And.intro y3 y4))
  clear hs hf hx hf1 y1 y2 y3 y4
  unfold set9 at Y1 Y
  go_wp2_with fail
  generalize (((w1.setCell ⟨w.heap.size, 0, none⟩ (.string o1)).setCell ⟨w.heap.size, 1, none⟩ (.slice A1 k1 c1)).setCell ⟨w.heap.size, 2, none⟩ (.int .i64 (R.t.lv : Int))) = W9 at Y1 Y ⊢
  obtain ⟨q0, q1, q2, _⟩ := c3 Y1.out
  refine bodyPost_ret (v := .agg #[.string o1, .slice A1 k1 c1, .int .i64 (R.t.lv : Int)]) (by simp [results, Tryz.results125, go_sem, q0, q1, q2]) rfl ?_
  exact ⟨_, _, rfl, Y.out.1, Y.out.2.1, Y.out.2.2⟩
end Go.Proofs.YtfocokjihbenmaaGreatDoor.Fo
