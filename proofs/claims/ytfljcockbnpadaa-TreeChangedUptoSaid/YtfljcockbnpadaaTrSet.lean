/-
  Lists of which one node is changed, in memory.
-/
import Derived.Test.YtfljcockbnpadaaTrApp
import Derived.Laws.BitsLemmas
namespace Go.Proofs.Ytfljcockbnpadaa.Tr
open Go.RowKit
set_option linter.unusedVariables false

theorem Cells.set_kind {R : Value → List Nd → Prop} {RA : Value → List Ar → Prop} (z : Int) (hz : Fit z) : ∀ {xs : List Value} {l : List Nd}, Cells R RA xs l → ∀ (k : Nat) (n : Nd), l[k]? = some n → Cells R RA (xs.set (k * 5) (.int .i64 z)) (l.set k (.mk z n.tag n.text n.kids n.args))
  | [], [], _, k, n, h => by simp at h
  | c0 :: c1 :: c2 :: c3 :: c4 :: xs, m :: l, ⟨a0, a1, a2, f1, f2, a3, a4, r⟩, k, n, h => by
    cases k with
    | zero => simp at h; subst h; exact ⟨rfl, a1, a2, hz, f2, a3, a4, r⟩
    | succ k =>
      have q := Cells.set_kind z hz r k n (by simpa using h)
      rw [show ((k + 1) * 5) = (k * 5) + 5 by omega]
      exact ⟨a0, a1, a2, f1, f2, a3, a4, q⟩
theorem Cells.set_tag {R : Value → List Nd → Prop} {RA : Value → List Ar → Prop} (z : Int) (hz : Fit z) : ∀ {xs : List Value} {l : List Nd}, Cells R RA xs l → ∀ (k : Nat) (n : Nd), l[k]? = some n → Cells R RA (xs.set (k * 5 + 1) (.int .i64 z)) (l.set k (.mk n.kind z n.text n.kids n.args))
  | [], [], _, k, n, h => by simp at h
  | c0 :: c1 :: c2 :: c3 :: c4 :: xs, m :: l, ⟨a0, a1, a2, f1, f2, a3, a4, r⟩, k, n, h => by
    cases k with
    | zero => simp at h; subst h; exact ⟨a0, rfl, a2, f1, hz, a3, a4, r⟩
    | succ k =>
      have q := Cells.set_tag z hz r k n (by simpa using h)
      rw [show ((k + 1) * 5 + 1) = (k * 5 + 1) + 5 by omega]
      exact ⟨a0, a1, a2, f1, f2, a3, a4, q⟩
theorem Cells.set_text {R : Value → List Nd → Prop} {RA : Value → List Ar → Prop} (z : ByteArray) : ∀ {xs : List Value} {l : List Nd}, Cells R RA xs l → ∀ (k : Nat) (n : Nd), l[k]? = some n → Cells R RA (xs.set (k * 5 + 2) (.string z)) (l.set k (.mk n.kind n.tag z n.kids n.args))
  | [], [], _, k, n, h => by simp at h
  | c0 :: c1 :: c2 :: c3 :: c4 :: xs, m :: l, ⟨a0, a1, a2, f1, f2, a3, a4, r⟩, k, n, h => by
    cases k with
    | zero => simp at h; subst h; exact ⟨a0, a1, rfl, f1, f2, a3, a4, r⟩
    | succ k =>
      have q := Cells.set_text z r k n (by simpa using h)
      rw [show ((k + 1) * 5 + 2) = (k * 5 + 2) + 5 by omega]
      exact ⟨a0, a1, a2, f1, f2, a3, a4, q⟩
theorem Cells.set_kids {R : Value → List Nd → Prop} {RA : Value → List Ar → Prop} (v : Value) (z : List Nd) (hz : R v z) : ∀ {xs : List Value} {l : List Nd}, Cells R RA xs l → ∀ (k : Nat) (n : Nd), l[k]? = some n → Cells R RA (xs.set (k * 5 + 3) (v)) (l.set k (.mk n.kind n.tag n.text z n.args))
  | [], [], _, k, n, h => by simp at h
  | c0 :: c1 :: c2 :: c3 :: c4 :: xs, m :: l, ⟨a0, a1, a2, f1, f2, a3, a4, r⟩, k, n, h => by
    cases k with
    | zero => simp at h; subst h; exact ⟨a0, a1, a2, f1, f2, hz, a4, r⟩
    | succ k =>
      have q := Cells.set_kids v z hz r k n (by simpa using h)
      rw [show ((k + 1) * 5 + 3) = (k * 5 + 3) + 5 by omega]
      exact ⟨a0, a1, a2, f1, f2, a3, a4, q⟩
theorem Cells.set_args {R : Value → List Nd → Prop} {RA : Value → List Ar → Prop} (v : Value) (z : List Ar) (hz : RA v z) : ∀ {xs : List Value} {l : List Nd}, Cells R RA xs l → ∀ (k : Nat) (n : Nd), l[k]? = some n → Cells R RA (xs.set (k * 5 + 4) (v)) (l.set k (.mk n.kind n.tag n.text n.kids z))
  | [], [], _, k, n, h => by simp at h
  | c0 :: c1 :: c2 :: c3 :: c4 :: xs, m :: l, ⟨a0, a1, a2, f1, f2, a3, a4, r⟩, k, n, h => by
    cases k with
    | zero => simp at h; subst h; exact ⟨a0, a1, a2, f1, f2, a3, hz, r⟩
    | succ k =>
      have q := Cells.set_args v z hz r k n (by simpa using h)
      rw [show ((k + 1) * 5 + 4) = (k * 5 + 4) + 5 by omega]
      exact ⟨a0, a1, a2, f1, f2, a3, a4, q⟩

theorem own_set {w : World} {base : Nat} {e : TypeId} {size n cap g : Nat} {xs : List Value} (h : w.ownsRow base e size (.slice (some ⟨g, 0, none⟩) n cap) n xs) (j : Nat) (u : Value) : (w.setCell ⟨g, j, none⟩ u).ownsRow base e size (.slice (some ⟨g, 0, none⟩) n cap) n (xs.set j u) := by
  obtain ⟨h1, h2⟩ := h
  refine ⟨by simpa using h1, ?_⟩
  rcases h2 with ⟨h2, _⟩ | ⟨g', cap', cur, hv, hg, hh, r1, r2, r3, r4⟩
  · cases h2
  · have hv' := hv
    injection hv with e1 e2 e3
    injection e1 with e1
    injection e1 with e1
    subst e1 e3
    refine .inr ⟨g, cap, cur.setIfInBounds j u, rfl, hg, ?_, r1, r2, by simpa using r3, ?_⟩
    · simp [World.setCell, Array.getElem?_modify, hh]
    · rw [← r4, Array.toList_setIfInBounds, List.take_set]
theorem own_cell {w : World} {base : Nat} {e : TypeId} {size n cap g : Nat} {xs : List Value} (h : w.ownsRow base e size (.slice (some ⟨g, 0, none⟩) n cap) n xs) {j : Nat} {u : Value} (hj : xs[j]? = some u) : w.cell? ⟨g, j, none⟩ = some u ∧ w.frozen? ⟨g, j, none⟩ = false := by
  rcases h.2 with ⟨h2, _⟩ | ⟨g', cap', cur, hv, hg, hh, r1, r2, r3, r4⟩
  · cases h2
  · injection hv with e1 e2 e3
    injection e1 with e1
    injection e1 with e1
    subst e1
    have := cell_row hh r4 hj
    rw [Nat.zero_add] at this
    exact ⟨this, by simp [World.frozen?, hh]⟩
theorem own_base {w : World} {base : Nat} {e : TypeId} {size n cap g : Nat} {xs : List Value} (h : w.ownsRow base e size (.slice (some ⟨g, 0, none⟩) n cap) n xs) : base ≤ g := by
  rcases h.2 with ⟨h2, _⟩ | ⟨g', cap', cur, hv, hg, _⟩
  · cases h2
  · injection hv with e1 e2 e3
    injection e1 with e1
    injection e1 with e1
    omega
/-- The copy of a list that is not empty: its cells, and what a changed cell makes of it. -/
structure Cp (d : Nat) (w : World) (g n cap : Nat) (l : List Nd) (W : World) : Prop where
  ln : n = l.length
  bl : Below w.heap.size w W
  ow : ∃ ys, W.ownsRow w.heap.size 30 5 (.slice (some ⟨g, 0, none⟩) n cap) n ys ∧ Cells (LRd d w w.heap.size) (ARd d w w.heap.size) ys l
theorem Cp.rd {d : Nat} {w : World} {g n cap : Nat} {l : List Nd} {W : World} (h : Cp d w g n cap l W) (hz : sz l ≤ 16777216) : LRd (d + 1) W W.heap.size (.slice (some ⟨g, 0, none⟩) n cap) l := by
  obtain ⟨hn, hb, ys, o, c⟩ := h
  subst hn
  exact own_rd o (c.imp (fun _ _ q => q.below hb (Nat.le_refl _) hb.size) (fun _ _ q => ARd.below q hb (Nat.le_refl _) hb.size)) hz rfl
theorem Cp.below {d : Nat} {w : World} {g n cap : Nat} {l : List Nd} {W W' : World} (h : Cp d w g n cap l W) (hb : Below W.heap.size W W') : Cp d w g n cap l W' := by
  obtain ⟨hn, hb0, ys, o, c⟩ := h
  refine ⟨hn, hb0.trans (hb.mono hb0.size), ys, ?_, c⟩
  rcases o.2 with ⟨h2, _⟩ | ⟨g', cap', cur, hv, hg, hh, r⟩
  · cases h2
  · exact ⟨o.1, .inr ⟨g', cap', cur, hv, hg, (hb.block g' (Array.getElem?_eq_some_iff.1 hh).1).trans hh, r⟩⟩
theorem Cp.at {d : Nat} {w : World} {g n cap : Nat} {l : List Nd} {W : World} (h : Cp d w g n cap l W) {k : Nat} {x : Nd} (hk : l[k]? = some x) :
    ∃ vk va, (W.cell? ⟨g, k * 5, none⟩ = some (.int .i64 x.kind) ∧ W.frozen? ⟨g, k * 5, none⟩ = false) ∧ (W.cell? ⟨g, k * 5 + 1, none⟩ = some (.int .i64 x.tag) ∧ W.frozen? ⟨g, k * 5 + 1, none⟩ = false) ∧ (W.cell? ⟨g, k * 5 + 2, none⟩ = some (.string x.text) ∧ W.frozen? ⟨g, k * 5 + 2, none⟩ = false) ∧
      (W.cell? ⟨g, k * 5 + 3, none⟩ = some vk ∧ W.frozen? ⟨g, k * 5 + 3, none⟩ = false) ∧ (W.cell? ⟨g, k * 5 + 4, none⟩ = some va ∧ W.frozen? ⟨g, k * 5 + 4, none⟩ = false) ∧ Fit x.kind ∧ Fit x.tag ∧ LRd d w w.heap.size vk x.kids ∧ ARd d w w.heap.size va x.args := by
  obtain ⟨hn, hb0, ys, o, c⟩ := h
  obtain ⟨vk, va, a0, a1, a2, a3, a4, r⟩ := c.get k x hk
  exact ⟨vk, va, own_cell o a0, own_cell o a1, own_cell o a2, own_cell o a3, own_cell o a4, r⟩
theorem copy_cp {d : Nat} {w : World} {u : Value} {l : List Nd} (ty : TypeId) (h : LRd (d + 1) w w.heap.size u l) (hl : 0 < l.length) :
    ∃ g c w', (Builtin.append_ #[22, 22] ty #[.slice none 0 0, u]).run Try.prog w = .ok (.slice (some ⟨g, 0, none⟩) l.length c) w' ∧ Cp d w g l.length c l w' ∧ l.length ≤ c ∧ c ≤ 9223372036854775807 := by
  obtain ⟨A, c, w', ys, h1, h2, h3, h4, h5⟩ := run_copyN ty h (Nat.le_refl _)
  rcases h4.2 with ⟨_, h0⟩ | ⟨g, cap, cur, hv, hg, hh, q1, q2, r⟩
  · omega
  · injection hv with e1 e2 e3
    subst e1 e3
    exact ⟨g, _, w', h1, ⟨rfl, h3, ys, h4, h5⟩, q1, by simpa [maxLen] using q2⟩
theorem Cp.set_kind {d : Nat} {w : World} {g n cap : Nat} {l : List Nd} {W : World} (h : Cp d w g n cap l W) {k : Nat} {n : Nd} (hk : l[k]? = some n) (z : Int) (hz : Fit z) : Cp d w g l.length cap (l.set k (.mk z n.tag n.text n.kids n.args)) (W.setCell ⟨g, k * 5, none⟩ (.int .i64 z)) := by
  obtain ⟨hn, hb0, ys, o, c⟩ := h
  subst hn
  exact ⟨by simp, hb0.setCell (own_base o) _, _, own_set o _ _, c.set_kind z hz k n hk⟩
theorem Cp.set_tag {d : Nat} {w : World} {g n cap : Nat} {l : List Nd} {W : World} (h : Cp d w g n cap l W) {k : Nat} {n : Nd} (hk : l[k]? = some n) (z : Int) (hz : Fit z) : Cp d w g l.length cap (l.set k (.mk n.kind z n.text n.kids n.args)) (W.setCell ⟨g, k * 5 + 1, none⟩ (.int .i64 z)) := by
  obtain ⟨hn, hb0, ys, o, c⟩ := h
  subst hn
  exact ⟨by simp, hb0.setCell (own_base o) _, _, own_set o _ _, c.set_tag z hz k n hk⟩
theorem Cp.set_text {d : Nat} {w : World} {g n cap : Nat} {l : List Nd} {W : World} (h : Cp d w g n cap l W) {k : Nat} {n : Nd} (hk : l[k]? = some n) (z : ByteArray) : Cp d w g l.length cap (l.set k (.mk n.kind n.tag z n.kids n.args)) (W.setCell ⟨g, k * 5 + 2, none⟩ (.string z)) := by
  obtain ⟨hn, hb0, ys, o, c⟩ := h
  subst hn
  exact ⟨by simp, hb0.setCell (own_base o) _, _, own_set o _ _, c.set_text z k n hk⟩
theorem set_ne {l : List Nd} {k : Nat} {n n' : Nd} (hk : l[k]? = some n) (hn : n ≠ n') : l ≠ l.set k n' := by
  intro e
  have h := congrArg (fun x => x[k]?) e
  simp only [hk] at h
  rw [List.getElem?_set_self (List.getElem?_eq_some_iff.1 hk).1] at h
  exact hn (Option.some.inj h)
theorem sz_set : ∀ {l : List Nd} {k : Nat} {n n' : Nd}, l[k]? = some n → sz (l.set k n') + szN n = sz l + szN n'
  | [], k, n, n', h => by simp at h
  | m :: l, 0, n, n', h => by simp at h; subst h; rw [List.set_cons_zero, sz_cons, sz_cons]; omega
  | m :: l, k + 1, n, n', h => by
    have := sz_set (l := l) (k := k) (n := n) (n' := n') (by simpa using h)
    rw [List.set_cons_succ, sz_cons, sz_cons]; omega
theorem i64_and65535 (n : Int) : bits .and .i64 n 65535 = n % 65536 := by
  have h7 : (BitVec.ofInt 64 65535).toNat = 2 ^ 16 - 1 := by decide
  have key : (BitVec.ofInt 64 n &&& BitVec.ofInt 64 65535).toNat = (n % ((2 ^ 64 : Nat) : Int)).toNat % 2 ^ 16 := by
    rw [BitVec.toNat_and, BitVec.toNat_ofInt, h7, Nat.and_two_pow_sub_one_eq_mod]
  show IntKind.i64.wrap ((BitVec.ofInt 64 n &&& BitVec.ofInt 64 65535).toNat : Nat) = n % 65536
  rw [key, IntKind.wrap_i64]
  omega
theorem i64_and7 (n : Int) : bits .and .i64 n 7 = n % 8 := by
  have h7 : (BitVec.ofInt 64 7).toNat = 2 ^ 3 - 1 := by decide
  have key : (BitVec.ofInt 64 n &&& BitVec.ofInt 64 7).toNat = (n % ((2 ^ 64 : Nat) : Int)).toNat % 2 ^ 3 := by
    rw [BitVec.toNat_and, BitVec.toNat_ofInt, h7, Nat.and_two_pow_sub_one_eq_mod]
  show IntKind.i64.wrap ((BitVec.ofInt 64 n &&& BitVec.ofInt 64 7).toNat : Nat) = n % 8
  rw [key, IntKind.wrap_i64]
  omega
theorem xor_half (m : Nat) : (m ^^^ 1) / 2 = m / 2 := by rw [Nat.xor_div_two]; simp
theorem xor_low (m : Nat) : (m ^^^ 1) % 2 = (m + 1) % 2 := by
  have h := Nat.testBit_xor (x := m) (y := 1) (i := 0)
  rw [Nat.testBit_zero, Nat.testBit_zero, Nat.testBit_zero] at h
  rcases Nat.mod_two_eq_zero_or_one m with e | e <;> rcases Nat.mod_two_eq_zero_or_one (m ^^^ 1) with f | f <;> rw [e, f] at h <;> first | omega | (exfalso; revert h; decide)
/-- The last bit turned: another number, one that fits. -/
theorem xor_one (n : Int) (h : Fit n) : bits .xor .i64 n 1 ≠ n ∧ Fit (bits .xor .i64 n 1) := by
  have h1 : (BitVec.ofInt 64 1).toNat = 1 := by decide
  have e : bits .xor .i64 n 1 = IntKind.i64.wrap (((n % ((2 ^ 64 : Nat) : Int)).toNat ^^^ 1 : Nat) : Int) := by
    show IntKind.i64.wrap ((BitVec.ofInt 64 n ^^^ BitVec.ofInt 64 1).toNat : Nat) = _
    rw [BitVec.toNat_xor, BitVec.toNat_ofInt, h1]
  obtain ⟨q1, q2⟩ := h
  generalize hm : (n % ((2 ^ 64 : Nat) : Int)).toNat = m at e
  have hx : (m % 2 = 0 ∧ m ^^^ 1 = m + 1) ∨ (m % 2 = 1 ∧ m ^^^ 1 = m - 1) := by
    have h1 := xor_half m
    have h2 := xor_low m
    omega
  rw [e, IntKind.wrap_i64]
  refine ⟨?_, ?_⟩
  · rcases hx with ⟨_, hx⟩ | ⟨_, hx⟩ <;> rw [hx] <;> omega
  · constructor <;> rcases hx with ⟨_, hx⟩ | ⟨_, hx⟩ <;> rw [hx] <;> omega
end Go.Proofs.Ytfljcockbnpadaa.Tr
