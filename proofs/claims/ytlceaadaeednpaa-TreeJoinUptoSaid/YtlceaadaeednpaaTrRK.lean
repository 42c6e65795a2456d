/-
  The reference's Join: what stands in its inner loop, and small runs.
-/
import Derived.Test.YtlceaadaeednpaaTrRJ
namespace Go.Proofs.Ytlceaadaeednpaa.Tr
open Go.RowKit
set_option linter.unusedVariables false

section
variable {E : Operand → Value} {o : Oper} {W : World}
theorem x_sub1 {p : Operand} (ho : o.op = Op.binOp BinOp.sub 3 p (.const (.int .i64 1)) 3) {m : Nat} (hm : m ≤ 4294967296) (hE : E (.const (.int .i64 1)) = .int .i64 1) (hp : E p = .int .i64 ((m + 1 : Nat) : Int)) : (execOp E o).run Try.prog W = .ok (.value (.int .i64 (m : Int))) W := by
  unfold execOp
  rw [ho]
  simp only [hE, hp]
  go_simp
  exact IntWalk.i64_in _ (by omega)
theorem x_addS {p q : Operand} (ho : o.op = Op.binOp BinOp.add 9 p q 9) {a b : ByteArray} (hs : a.size + b.size ≤ 9223372036854775807) (hp : E p = .string a) (hq : E q = .string b) : (execOp E o).run Try.prog W = .ok (.value (.string (a ++ b))) W := by
  have r := run_string_add_sum (P := Try.prog) W a b hs
  clear hs
  unfold execOp
  rw [ho]
  simp only [hp, hq]
  go_simp
theorem x_loadS {p : Operand} {b f : Nat} {v : Value} (ho : o.op = Op.load 9 p) (h : E p = .pointer (some ⟨b, f, none⟩)) (hc : W.cell? ⟨b, f, none⟩ = some v) : (execOp E o).run Try.prog W = .ok (.value v) W := by
  unfold execOp
  rw [ho]
  simp only [h]
  go_simp
theorem x_loadI {p : Operand} {b f : Nat} {v : Value} (ho : o.op = Op.load 3 p) (h : E p = .pointer (some ⟨b, f, none⟩)) (hc : W.cell? ⟨b, f, none⟩ = some v) : (execOp E o).run Try.prog W = .ok (.value v) W := by
  unfold execOp
  rw [ho]
  simp only [h]
  go_simp
theorem x_storeS {p q : Operand} (ho : o.op = Op.store 9 p q) {g f : Nat} {s : ByteArray} {u : Value} (hp : E p = .pointer (some ⟨g, f, none⟩)) (hq : E q = .string s) (c0 : W.cell? ⟨g, f, none⟩ = some u) (z0 : W.frozen? ⟨g, f, none⟩ = false) : (execOp E o).run Try.prog W = .ok .skip (W.setCell ⟨g, f, none⟩ (.string s)) := by
  unfold execOp
  rw [ho]
  go_simp
theorem x_storeA {p q : Operand} (ho : o.op = Op.store 29 p q) {g f : Nat} {A : Option Addr} {n c : Nat} {u : Value} (hp : E p = .pointer (some ⟨g, f, none⟩)) (hq : E q = .slice A n c) (c0 : W.cell? ⟨g, f, none⟩ = some u) (z0 : W.frozen? ⟨g, f, none⟩ = false) : (execOp E o).run Try.prog W = .ok .skip (W.setCell ⟨g, f, none⟩ (.slice A n c)) := by
  unfold execOp
  rw [ho]
  go_simp
theorem x_allocN (ho : o.op = Op.alloc 31) : (execOp E o).run Try.prog W = .ok (.value (.pointer (some ⟨W.heap.size, 0, none⟩))) (W.alloc (.cells zeroN 31)) := by
  unfold execOp zeroN
  rw [ho]
  go_simp
theorem x_build4 {x y z u : Operand} (ho : o.op = Op.build 31 #[(0, x), (1, y), (2, z), (3, u)]) {k t : Int} {s : ByteArray} {A : Option Addr} {n c : Nat} (hx : E x = .int .i64 k) (hy : E y = .int .i64 t) (hz : E z = .string s) (hu : E u = .slice A n c) : (execOp E o).run Try.prog W = .ok (.value (.agg #[.int .i64 k, .int .i64 t, .string s, .slice A n c, .slice none 0 0])) W := by
  unfold execOp
  rw [ho]
  go_simp
end
/-- What stands in the inner loop: block bn is the node, bm the new one, its arguments a row from lo on. -/
structure Sm (d : Nat) (wr : World) (bn bm lo : Nat) (k t : Int) (s : ByteArray) (nk na vK : Value) (ks : List Nd) (vA : Value) (l : List Ar) (wq : World) : Prop where
  bl : Below wr.heap.size wr wq
  hn : wq.heap[bn]? = some (.cells #[.int .i64 k, .int .i64 t, .string s, nk, na] 31)
  hm : wq.heap[bm]? = some (.cells #[.int .i64 k, .int .i64 t, .string s, vK, vA] 31)
  hK : LRx d wq (fun q => wr.heap.size ≤ q ∧ q < lo ∧ q ≠ bm ∧ NB wq q) vK ks
  row : RowA d lo wq vA l
  lo1 : lo ≤ wq.heap.size
  lo2 : bn < lo ∧ bm < lo ∧ wr.heap.size ≤ bn ∧ wr.heap.size ≤ bm ∧ bn ≠ bm
theorem Sm.below {d : Nat} {wr : World} {bn bm lo : Nat} {k t : Int} {s : ByteArray} {nk na vK : Value} {ks : List Nd} {vA : Value} {l : List Ar} {wq w' : World} (h : Sm d wr bn bm lo k t s nk na vK ks vA l wq) (hb : Below wq.heap.size wq w') : Sm d wr bn bm lo k t s nk na vK ks vA l w' := by
  obtain ⟨h1, h2, h3, h4, h5⟩ := h.lo2
  have hl := h.lo1
  exact ⟨h.bl.trans (hb.mono h.bl.size), (hb.block _ (by omega)).trans h.hn, (hb.block _ (by omega)).trans h.hm, h.hK.imp (fun q hq => ⟨hq.1, hq.2.1, hq.2.2.1, hq.2.2.2.same (hb.block q (by have := hq.2.1; omega))⟩) (fun p hp => hb.cell (by have := hp.2.1; omega)), h.row.below hb, Nat.le_trans hl hb.size, h.lo2⟩
/-- The row grows by an argument, and is stored. -/
theorem Sm.app {d : Nat} {wr : World} {bn bm lo : Nat} {k t : Int} {s : ByteArray} {nk na vK : Value} {ks : List Nd} {vA : Value} {l : List Ar} {wq W : World} {nm : Bool} {n x : List Nd} {g : Nat} {y z : Value} (h : Sm d wr bn bm lo k t s nk na vK ks vA l wq) (hb : Below wq.heap.size wq W) (hl : l.length ≤ 33554432)
    (hg : W.heap[g]? = some (.cells #[.bool nm, y, z] 33)) (hn : LRx d W (In wq.heap.size W) y (join n)) (hx : LRx d W (In wq.heap.size W) z (join x)) (ty : TypeId) :
    ∃ A c w', (Builtin.append_ #[29, 29] ty #[vA, .slice (some ⟨g, 0, none⟩) 1 1]).run Try.prog W = .ok (.slice A (l.length + 1) c) w' ∧ w'.cell? ⟨bm, 4, none⟩ = some vA ∧ w'.frozen? ⟨bm, 4, none⟩ = false ∧ Sm d wr bn bm lo k t s nk na vK ks (.slice A (l.length + 1) c) (l ++ [.mk nm (join n) (join x)]) (w'.setCell ⟨bm, 4, none⟩ (.slice A (l.length + 1) c)) := by
  have hW := h.below hb
  have hlo := h.lo1
  obtain ⟨m1, m2, m3, m4, m5⟩ := h.lo2
  have hr : ∀ r, vA.ownBlock = some r → lo ≤ r ∧ r < wq.heap.size := by
    obtain ⟨ys, o, _⟩ := h.row
    exact fun r e => own_lt o r e
  have up : ∀ q, In wq.heap.size W q → Out lo W vA.ownBlock q := fun q hq => ⟨Nat.le_trans hlo hq.1, hq.2.1, (fun e => by have := (hr q e.symm).2; have := hq.1; omega), hq.2.2⟩
  obtain ⟨g', cap, w', r1, G, r2⟩ := hW.row.app ty hl hW.lo1 hg (hn.imp up fun _ _ => rfl) (hx.imp up fun _ _ => rfl)
  have ne : ∀ q, q < lo → some q ≠ vA.ownBlock := fun q hq e => by have := (hr q e.symm).1; omega
  have hWl := hW.lo1
  have k1 : ∀ q, q < lo → w'.heap[q]? = W.heap[q]? := fun q hq => G.block (by omega) (ne q hq)
  have hm' := (k1 bm m2).trans hW.hm
  refine ⟨_, cap, w', r1, cell_heap hm' rfl, by simp [World.frozen?, hm'], ⟨?_, (heap_set_ne (fun e => m5 e.symm)).trans ((k1 bn m1).trans hW.hn), heap_set hm', ?_, r2.keep (by simp) (fun q h1 _ _ => heap_set_ne (by omega)), by simpa using Nat.le_trans hWl G.size, h.lo2⟩⟩
  · exact ((hW.bl.grown G.gr hW.bl.size (fun q e => by have := (hr q e).1; omega)).setCell (by show _ ≤ bm; omega) _)
  · refine hW.hK.imp (fun q hq => ⟨hq.1, hq.2.1, hq.2.2.1, hq.2.2.2.same ((heap_set_ne (fun e => hq.2.2.1 e.symm)).trans (k1 q hq.2.1))⟩) (fun p hp => (cell_set_ne hp.2.2.1).trans (World.cell?_of_block (k1 p.block hp.2.1)))
/-- The operations of the region that appends an argument. -/
def FR (d a : Nat) (tab : List Value) (nm : Bool) (n x : List Nd) : Nat → Value → World → Prop
  | 14, v, w => LRx d w (In a w) v (join n)
  | 21, v, w => LRx d w (In a w) v (join x)
  | 22, v, w => ∃ y z, v = .agg #[.bool nm, y, z] ∧ LRx d w (In a w) y (join n) ∧ LRx d w (In a w) z (join x)
  | 23, v, w => ∃ g y z, v = .slice (some ⟨g, 0, none⟩) 1 1 ∧ w.heap[g]? = some (.cells #[.bool nm, y, z] 33) ∧ LRx d w (In a w) y (join n) ∧ LRx d w (In a w) z (join x)
  | i, v, _ => tab[i]? = some v
theorem FR.st {d a : Nat} {tab : List Value} {nm : Bool} {n x : List Nd} : ∀ i v w w', FR d a tab nm n x i v w → Bl w w' → FR d a tab nm n x i v w' := by
  intro i v w w' h hb
  unfold FR at h ⊢
  split <;> simp only at h ⊢
  all_goals first
    | exact h
    | exact In.below h hb
    | exact (let ⟨y, z, h1, h2, h3⟩ := h; ⟨y, z, h1, In.below h2 hb, In.below h3 hb⟩)
    | exact (let ⟨g, y, z, h1, h0, h2, h3⟩ := h; ⟨g, y, z, h1, (Below.block hb g (Array.getElem?_eq_some_iff.1 h0).1).trans h0, In.below h2 hb, In.below h3 hb⟩)
end Go.Proofs.Ytlceaadaeednpaa.Tr
