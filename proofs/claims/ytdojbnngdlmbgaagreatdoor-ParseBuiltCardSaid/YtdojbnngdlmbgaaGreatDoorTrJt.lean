/-
  The end of a region that appends a node to the list that is being joined.
-/
import Derived.Test.YtdojbnngdlmbgaaGreatDoorTrJf
namespace Go.Proofs.YtdojbnngdlmbgaaGreatDoor.Tr
open Go.RowKit
set_option linter.unusedVariables false

section
variable {E : Operand → Value} {o : Oper} {W W' : World}
theorem x_storeN {p q : Operand} (ho : o.op = Op.store 62 p q) {g f : Nat} {k t : Int} {s : ByteArray} {A A' : Option Addr} {n c n' c' : Nat} {cs : Array Value} {T : TypeId} (hp : E p = .pointer (some ⟨g, f, none⟩)) (hq : E q = .agg #[.int .i64 k, .int .i64 t, .string s, .slice A n c, .slice A' n' c'])
    (hc : W.heap[g]? = some (.cells cs T)) (hf : f + 4 < cs.size) : (execOp E o).run Tryz.prog W = .ok .skip (stN W g f (.int .i64 k) (.int .i64 t) (.string s) (.slice A n c) (.slice A' n' c')) := by
  have key : ∀ i, f ≤ i → i < f + 5 → ∃ u, W.cell? ⟨g, i, none⟩ = some u := fun i h1 h2 => ⟨cs[i]'(by omega), cell_heap hc (by simp [show i < cs.size by omega])⟩
  have fz : ∀ i, W.frozen? ⟨g, i, none⟩ = false := fun i => by simp [World.frozen?, hc]
  obtain ⟨u0, c0⟩ := key f (by omega) (by omega)
  obtain ⟨u1, c1⟩ := key (f + 1) (by omega) (by omega)
  obtain ⟨u2, c2⟩ := key (f + 2) (by omega) (by omega)
  obtain ⟨u3, c3⟩ := key (f + 3) (by omega) (by omega)
  obtain ⟨u4, c4⟩ := key (f + 4) (by omega) (by omega)
  have z0 := fz f; have z1 := fz (f + 1); have z2 := fz (f + 2); have z3 := fz (f + 3); have z4 := fz (f + 4)
  clear key fz hc
  unfold execOp stN
  rw [ho]
  go_simp
theorem x_storeL {p q : Operand} (ho : o.op = Op.store 27 p q) {g : Nat} {A : Option Addr} {n c : Nat} {v0 : Value} {T : TypeId} (hp : E p = .pointer (some ⟨g, 0, none⟩)) (hq : E q = .slice A n c) (hc : W.heap[g]? = some (.cells #[v0] T)) : (execOp E o).run Tryz.prog W = .ok .skip (W.setCell ⟨g, 0, none⟩ (.slice A n c)) := by
  have c0 : W.cell? ⟨g, 0, none⟩ = some v0 := cell_heap hc rfl
  have z0 : W.frozen? ⟨g, 0, none⟩ = false := by simp [World.frozen?, hc]
  clear hc
  unfold execOp
  rw [ho]
  go_simp
theorem x_indexN {p q : Operand} {g n c i : Nat} (ho : o.op = Op.indexAddr 27 p q) (h : E p = .slice (some ⟨g, 0, none⟩) n c) (hq : E q = .int .i64 (i : Int)) (hi : i < n) : (execOp E o).run Tryz.prog W = .ok (.value (.pointer (some ⟨g, i * 5, none⟩))) W := by
  unfold execOp
  rw [ho]
  simp only [h, hq]
  go_simp
theorem x_lenN {p : Operand} {t : Array TypeId} (ho : o.op = .call { callee := .builtin .len, args := #[p], argTypes := #[27] }) {A : Option Addr} {n c : Nat} (h : E p = .slice A n c) : (execOp E o).run Tryz.prog W = .ok (.value (.int .i64 (n : Int))) W := by
  unfold execOp
  rw [ho]
  go_simp
theorem x_buildT {x : Operand} (ho : o.op = Op.build 62 #[(0, .const (.int .i64 1)), (2, x)]) {s : ByteArray} (hE : E (.const (.int .i64 1)) = .int .i64 1) (hx : E x = .string s) : (execOp E o).run Tryz.prog W = .ok (.value (.agg #[.int .i64 1, .int .i64 0, .string s, .slice none 0 0, .slice none 0 0])) W := by
  unfold execOp
  rw [ho]
  go_simp
theorem x_bsN {x : Operand} (ho : o.op = Op.buildSlice 27 1 #[(0, x)]) {k t : Int} {s : ByteArray} {A A' : Option Addr} {n n' c c' : Nat} (hx : E x = .agg #[.int .i64 k, .int .i64 t, .string s, .slice A n c, .slice A' n' c']) : (execOp E o).run Tryz.prog W = .ok (.value (.slice (some ⟨W.heap.size, 0, none⟩) 1 1)) (W.alloc (.cells #[.int .i64 k, .int .i64 t, .string s, .slice A n c, .slice A' n' c'] 62)) := by
  unfold execOp
  rw [ho]
  go_simp
theorem x_loadW {p : Operand} (ho : o.op = Op.load 62 p) {g : Nat} {k t : Int} {s : ByteArray} {A A' : Option Addr} {n c n' c' : Nat} {T : TypeId} (hp : E p = .pointer (some ⟨g, 0, none⟩)) (hc : W.heap[g]? = some (.cells #[.int .i64 k, .int .i64 t, .string s, .slice A n c, .slice A' n' c'] T)) : (execOp E o).run Tryz.prog W = .ok (.value (.agg #[.int .i64 k, .int .i64 t, .string s, .slice A n c, .slice A' n' c'])) W := by
  have c0 : W.cell? ⟨g, 0, none⟩ = some (.int .i64 k) := cell_heap hc rfl
  have c1 : W.cell? ⟨g, 1, none⟩ = some (.int .i64 t) := cell_heap hc rfl
  have c2 : W.cell? ⟨g, 2, none⟩ = some (.string s) := cell_heap hc rfl
  have c3 : W.cell? ⟨g, 3, none⟩ = some (.slice A n c) := cell_heap hc rfl
  have c4 : W.cell? ⟨g, 4, none⟩ = some (.slice A' n' c') := cell_heap hc rfl
  clear hc
  unfold execOp
  rw [ho]
  go_simp
end
/-- As Jw, but the variable does not hold the row yet. -/
structure Jb (d : Nat) (w : World) (v : Value) (out : List Nd) (x : List UInt8) (wr : World) : Prop where
  bl : Below w.heap.size w wr
  hj : ∃ v0, wr.heap[w.heap.size]? = some (.cells #[v0] 27)
  bd : Bd wr (w.heap.size + 1) (w.heap.size + 1) x
  row : RowN d (w.heap.size + 2) wr v out
  lo : w.heap.size + 2 ≤ wr.heap.size
section
variable {d : Nat} {w : World} {v : Value} {out : List Nd} {x : List UInt8} {W : World} {g cap : Nat} {k0 t0 k t : Int} {s0 s : ByteArray} {n0 n : List Nd} {x0 y : List Ar} {vk va : Value}
theorem Jb.own (h : Jb d w (.slice (some ⟨g, 0, none⟩) (out.length + 1) cap) (out ++ [.mk k0 t0 s0 n0 x0]) x W) : w.heap.size + 2 ≤ g ∧ NB W g ∧ ∃ cs, W.heap[g]? = some (.cells cs 62) ∧ out.length * 5 + 4 < cs.size := by
  obtain ⟨ys, o, _⟩ := h.row
  have h1 := own_lt o g rfl
  refine ⟨h1.1, own_nb o (by decide) g rfl, ?_⟩
  rcases o.2 with ⟨e, _⟩ | ⟨g', cap', cur, e, _, hh, r1, r2, r3, _⟩
  · cases e
  · injection e with e1 e2 e3
    injection e1 with e1
    injection e1 with e1
    subst e1
    refine ⟨cur, hh, ?_⟩
    have : out.length + 1 ≤ cap' := by simpa using r1
    omega
theorem Jb.stN (h : Jb d w (.slice (some ⟨g, 0, none⟩) (out.length + 1) cap) (out ++ [.mk k0 t0 s0 n0 x0]) x W) (f1 : Fit k) (f2 : Fit t) (hn : LRx d W (Out (w.heap.size + 2) W (some g)) vk n) (hx : ARx d W (Out (w.heap.size + 2) W (some g)) va y) : Jb d w (.slice (some ⟨g, 0, none⟩) (out.length + 1) cap) (out ++ [.mk k t s n y]) x (Tr.stN W g (out.length * 5) (.int .i64 k) (.int .i64 t) (.string s) vk va) := by
  obtain ⟨hg, hnb, _⟩ := h.own
  have hl := h.lo
  have hbg : Below w.heap.size w (Tr.stN W g (out.length * 5) (.int .i64 k) (.int .i64 t) (.string s) vk va) := by
    unfold Tr.stN
    exact ((((h.bl.setCell (by show _ ≤ g; omega) _).setCell (by show _ ≤ g; omega) _).setCell (by show _ ≤ g; omega) _).setCell (by show _ ≤ g; omega) _).setCell (by show _ ≤ g; omega) _
  refine ⟨hbg, h.hj.imp fun v0 q => (stN_ne (by omega)).trans q, h.bd.keep2 (fun q hq _ => stN_ne ?_), h.row.store f1 f2 hn hx, by rw [stN_size]; exact hl⟩
  rintro rfl
  rcases hq with hq | hq
  · omega
  · exact hq hnb
theorem Jb.setJ (h : Jb d w v out x W) : Jw d w v out x (W.setCell ⟨w.heap.size, 0, none⟩ v) := by
  obtain ⟨v0, hj⟩ := h.hj
  refine ⟨h.bl.setCell (Nat.le_refl _) _, heap_set hj, h.bd.keep2 (fun q hq _ => heap_set_ne ?_), h.row.keep (by simp) (fun q h1 _ _ => heap_set_ne (by omega)), by simpa using h.lo⟩
  rintro rfl
  rcases hq with hq | hq
  · omega
  · exact hq (NB.cells hj (by decide))
theorem Jw.jb (h : Jw d w v out x W) : Jb d w v out x W := ⟨h.bl, ⟨_, h.hj⟩, h.bd, h.row, h.lo⟩
theorem Jw.stN (h : Jw d w (.slice (some ⟨g, 0, none⟩) (out.length + 1) cap) (out ++ [.mk k0 t0 s0 n0 x0]) x W) (f1 : Fit k) (f2 : Fit t) (hn : LRx d W (Out (w.heap.size + 2) W (some g)) vk n) (hx : ARx d W (Out (w.heap.size + 2) W (some g)) va y) : Jw d w (.slice (some ⟨g, 0, none⟩) (out.length + 1) cap) (out ++ [.mk k t s n y]) x (Tr.stN W g (out.length * 5) (.int .i64 k) (.int .i64 t) (.string s) vk va) := by
  have q := h.jb.stN (s := s) f1 f2 hn hx
  have hg := h.jb.own.1
  exact ⟨q.bl, (stN_ne (by omega)).trans h.hj, q.bd, q.row, q.lo⟩
/-- The append itself. -/
theorem Jw.app (ty : TypeId) (h : Jw d w v out x W) (hl : out.length ≤ 33554432) {b : Nat} (hb : W.heap[b]? = some (.cells #[.int .i64 0, .int .i64 0, .string ⟨#[]⟩, .slice none 0 0, .slice none 0 0] 62)) (hd : 0 < d) (hn : LRx d W (Out (w.heap.size + 2) W v.ownBlock) vk n) (hx : ARx d W (Out (w.heap.size + 2) W v.ownBlock) va y) :
    ∃ g cap w', (Builtin.append_ #[27, 27] ty #[v, .slice (some ⟨b, 0, none⟩) 1 1]).run Tryz.prog W = .ok (.slice (some ⟨g, 0, none⟩) (out.length + 1) cap) w' ∧ Jb d w (.slice (some ⟨g, 0, none⟩) (out.length + 1) cap) (out ++ [.mk 0 0 ⟨#[]⟩ [] []]) x w' ∧
      LRx d w' (Out (w.heap.size + 2) w' (some g)) vk n ∧ ARx d w' (Out (w.heap.size + 2) w' (some g)) va y ∧ W.heap.size ≤ w'.heap.size ∧ ∀ q, q < W.heap.size → some q ≠ v.ownBlock → g ≠ q ∧ w'.heap[q]? = W.heap[q]? := by
  obtain ⟨d, rfl⟩ : ∃ d', d = d' + 1 := ⟨d - 1, by omega⟩
  obtain ⟨g, cap, w', r1, G, r2⟩ := h.row.app ty hl h.lo hb (by unfold Fit; omega) (by unfold Fit; omega) (LRx_nil d W _ 0 none (Nat.zero_le _)) (ARx_nil (d + 1) W _ 0 none (Nat.zero_le _))
  have hlo := h.lo
  have hrow : ∀ q, v.ownBlock = some q → w.heap.size + 2 ≤ q ∧ NB W q := by
    obtain ⟨ys, o, _⟩ := h.row
    exact fun q e => ⟨(own_lt o q e).1, own_nb o (by decide) q e⟩
  refine ⟨g, cap, w', r1, ⟨h.bl.grown G.gr h.bl.size (fun q e => by have := (hrow q e).1; omega), ⟨v, (G.block (by omega) (fun e => by have := (hrow _ e.symm).1; omega)).trans h.hj⟩, h.bd.keep2 (fun q hq hlt => G.block hlt ?_), r2, Nat.le_trans hlo G.size⟩, G.rx hn, G.rxA hx, G.size, fun q hq hne => ⟨?_, G.block hq hne⟩⟩
  case refine_2 =>
    intro e0
    rcases G.at_ with e | e
    · exact hne (by rw [← e0]; exact e)
    · have e' : g = W.heap.size := Option.some.inj e
      omega
  intro e
  have := hrow q e.symm
  rcases hq with hq | hq
  · omega
  · exact hq this.2
end
/-- The last four operations of such a region. -/
theorem tail_app {ops : Array Oper} {Q : Exit → Act → World → Prop} {l0 : List Value} {ds : List Deferred} {D : List Nat} {L : List (Nat × Value)} {a : Act} {d : Nat} {w W : World} {v : Value} {out : List Nd} {x : List UInt8} {b : Nat} {k t : Int} {s : ByteArray} {A A' : Option Addr} {c1 c2 c1' c2' : Nat} {n : List Nd} {y : List Ar} (l : Array Bool) (sJ sN sL sB dA dI pJ : Nat)
    (hL : Lt l0 ds D L a) (h : Jw d w v out x W) (hl : out.length ≤ 33554432) (hd : 0 < d) (hb : W.heap[b]? = some (.cells #[.int .i64 0, .int .i64 0, .string ⟨#[]⟩, .slice none 0 0, .slice none 0 0] 62)) (f1 : Fit k) (f2 : Fit t)
    (hn : LRx d W (Out (w.heap.size + 2) W v.ownBlock) (.slice A c1 c2) n) (hx : ARx d W (Out (w.heap.size + 2) W v.ownBlock) (.slice A' c1' c2') y)
    (eJ : a.eval (.tmp sJ) = v) (eN : a.eval (.tmp sN) = .agg #[.int .i64 k, .int .i64 t, .string s, .slice A c1 c2, .slice A' c1' c2']) (eL : a.eval (.tmp sL) = .int .i64 (out.length : Int)) (eB : a.eval (.tmp sB) = .slice (some ⟨b, 0, none⟩) 1 1) (eP : a.eval (.tmp pJ) = .pointer (some ⟨w.heap.size, 0, none⟩))
    (nA : dA ≠ sN ∧ dA ≠ sL ∧ dA ≠ pJ ∧ dI ≠ sN ∧ dI ≠ pJ ∧ dI ≠ dA) (DA : D.contains dA = true ∧ dA < l0.length) (DI : D.contains dI = true ∧ dI < l0.length)
    {o5 o6 o7 o8 : Oper} (p5 : ops[5]? = some o5) (p6 : ops[6]? = some o6) (p7 : ops[7]? = some o7) (p8 : ops[8]? = some o8) (g5 : o5.guard = none) (g6 : o6.guard = none) (g7 : o7.guard = none) (g8 : o8.guard = none)
    (d5 : o5.dst = some dA) (d6 : o6.dst = some dI) (d7 : o7.dst = none) (d8 : o8.dst = none)
    (q5 : o5.op = .call { callee := .builtin .append, args := #[.tmp sJ, .tmp sB], argTypes := #[27, 27] }) (t5 : o5.type = 27) (q6 : o6.op = Op.indexAddr 27 (.tmp dA) (.tmp sL)) (q7 : o7.op = Op.store 62 (.tmp dI) (.tmp sN)) (q8 : o8.op = Op.store 27 (.tmp pJ) (.tmp dA))
    (r1 : Region.ready .any ops l = [5]) (r2 : Region.ready .any ops (l.setIfInBounds 5 true) = [6, 8]) (r3 : Region.ready .any ops ((l.setIfInBounds 5 true).setIfInBounds 6 true) = [7, 8]) (r4 : Region.ready .any ops ((l.setIfInBounds 5 true).setIfInBounds 8 true) = [6])
    (r5 : Region.ready .any ops (((l.setIfInBounds 5 true).setIfInBounds 6 true).setIfInBounds 7 true) = [8]) (r6 : Region.ready .any ops (((l.setIfInBounds 5 true).setIfInBounds 6 true).setIfInBounds 8 true) = [7]) (r7 : Region.ready .any ops (((l.setIfInBounds 5 true).setIfInBounds 8 true).setIfInBounds 6 true) = [7])
    (r8 : Region.ready .any ops ((((l.setIfInBounds 5 true).setIfInBounds 6 true).setIfInBounds 7 true).setIfInBounds 8 true) = []) (r9 : Region.ready .any ops ((((l.setIfInBounds 5 true).setIfInBounds 6 true).setIfInBounds 8 true).setIfInBounds 7 true) = []) (r10 : Region.ready .any ops ((((l.setIfInBounds 5 true).setIfInBounds 8 true).setIfInBounds 6 true).setIfInBounds 7 true) = [])
    (hQ : ∀ a' v' w', Lt l0 ds D [] a' → Jw d w v' (out ++ [.mk k t s n y]) x w' → (∀ q, q < W.heap.size → q ≠ w.heap.size → some q ≠ v.ownBlock → w'.heap[q]? = W.heap[q]?) → W.heap.size ≤ w'.heap.size → Q .normal a' w') : wpAny Tryz.prog .any ops Q 4 l a W := by
  obtain ⟨g, cap, W1, hr, hb1, hn1, hx1, hsz1, hfr⟩ := h.app 27 hl hb hd hn hx
  obtain ⟨hg, hnb, cs, hcs, hsz⟩ := hb1.own
  obtain ⟨v0, hj⟩ := hb1.hj
  have nil : ∀ {L' : List (Nat × Value)} {a' : Act}, Lt l0 ds D L' a' → Lt l0 ds D [] a' := fun q => ⟨q.size, q.low, q.def_, fun j u hj => by cases hj⟩
  have s1 := hL.put dA (.slice (some ⟨g, 0, none⟩) (out.length + 1) cap) DA.1 DA.2
  have zA : dA < a.tmps.size := by rw [hL.size]; exact DA.2
  have zI : dI < (a.put (some dA) (.slice (some ⟨g, 0, none⟩) (out.length + 1) cap)).tmps.size := by rw [s1.size]; exact DI.2
  refine any_val 5 dA p5 g5 d5 r1 (x_append q5 t5 eJ eB hr) ?_
  have m1 : (a.put (some dA) (.slice (some ⟨g, 0, none⟩) (out.length + 1) cap)).eval (.tmp dA) = .slice (some ⟨g, 0, none⟩) (out.length + 1) cap := put_same zA
  have m2 : (a.put (some dA) (.slice (some ⟨g, 0, none⟩) (out.length + 1) cap)).eval (.tmp sN) = .agg #[.int .i64 k, .int .i64 t, .string s, .slice A c1 c2, .slice A' c1' c2'] := (put_other nA.1).trans eN
  have m3 : (a.put (some dA) (.slice (some ⟨g, 0, none⟩) (out.length + 1) cap)).eval (.tmp sL) = .int .i64 (out.length : Int) := (put_other nA.2.1).trans eL
  have m4 : (a.put (some dA) (.slice (some ⟨g, 0, none⟩) (out.length + 1) cap)).eval (.tmp pJ) = .pointer (some ⟨w.heap.size, 0, none⟩) := (put_other nA.2.2.1).trans eP
  generalize a.put (some dA) (.slice (some ⟨g, 0, none⟩) (out.length + 1) cap) = a1 at s1 m1 m2 m3 m4 zI ⊢
  have s2 := s1.put dI (.pointer (some ⟨g, out.length * 5, none⟩)) DI.1 DI.2
  have n1 : (a1.put (some dI) (.pointer (some ⟨g, out.length * 5, none⟩))).eval (.tmp dI) = .pointer (some ⟨g, out.length * 5, none⟩) := put_same zI
  have n2 : (a1.put (some dI) (.pointer (some ⟨g, out.length * 5, none⟩))).eval (.tmp sN) = .agg #[.int .i64 k, .int .i64 t, .string s, .slice A c1 c2, .slice A' c1' c2'] := (put_other nA.2.2.2.1).trans m2
  have n3 : (a1.put (some dI) (.pointer (some ⟨g, out.length * 5, none⟩))).eval (.tmp pJ) = .pointer (some ⟨w.heap.size, 0, none⟩) := (put_other nA.2.2.2.2.1).trans m4
  have n4 : (a1.put (some dI) (.pointer (some ⟨g, out.length * 5, none⟩))).eval (.tmp dA) = .slice (some ⟨g, 0, none⟩) (out.length + 1) cap := (put_other nA.2.2.2.2.2).trans m1
  have i6 : ∀ W, (execOp a1.eval o6).run Tryz.prog W = .ok (.value (.pointer (some ⟨g, out.length * 5, none⟩))) W := fun W => x_indexN q6 m1 m3 (by omega)
  have hgne : g ≠ w.heap.size := by omega
  -- the world in which the variable was written first
  have J1 := hb1.setJ
  have same : ∀ q, Out (w.heap.size + 2) W1 (some g) q → Out (w.heap.size + 2) (W1.setCell ⟨w.heap.size, 0, none⟩ (.slice (some ⟨g, 0, none⟩) (out.length + 1) cap)) (some g) q := fun q hq => ⟨hq.1, by simpa using hq.2.1, hq.2.2.1, hq.2.2.2.same (heap_set_ne (by have := hq.1; omega))⟩
  have cell : ∀ p : Addr, Out (w.heap.size + 2) W1 (some g) p.block → (W1.setCell ⟨w.heap.size, 0, none⟩ (.slice (some ⟨g, 0, none⟩) (out.length + 1) cap)).cell? p = W1.cell? p := fun p hq => cell_set_ne (by have := hq.1; omega)
  have J2 := J1.stN (s := s) f1 f2 (hn1.imp same cell) (ARx.imp hx1 same cell)
  have hcs1 : (W1.setCell ⟨w.heap.size, 0, none⟩ (.slice (some ⟨g, 0, none⟩) (out.length + 1) cap)).heap[g]? = some (.cells cs 62) := (heap_set_ne (fun e => hgne e.symm)).trans hcs
  have J3 := (hb1.stN (s := s) f1 f2 hn1 hx1)
  obtain ⟨v3, hj3⟩ := J3.hj
  refine any_two p6 p8 g6 g8 r2 (op_value (i6 _) ?_) (op_skip (x_storeL q8 m4 m1 hj) ?_)
  · rw [d6]
    refine any_two p7 p8 g7 g8 r3 (op_skip (x_storeN q7 n1 n2 hcs hsz) ?_) (op_skip (x_storeL q8 n3 n4 hj) ?_)
    · rw [d7]
      refine any_store 8 p8 g8 d8 r5 (x_storeL q8 n3 n4 hj3) ?_
      exact wpAny_done r8 (hQ _ _ _ (nil s2) J3.setJ (fun q h1 h2 h3 => (heap_set_ne (fun e => h2 e.symm)).trans ((stN_ne (hfr q h1 h3).1).trans (hfr q h1 h3).2)) (by rw [World.size_setCell, stN_size]; exact hsz1)) _
    · rw [d8]
      refine any_store 7 p7 g7 d7 r6 (x_storeN q7 n1 n2 hcs1 hsz) ?_
      exact wpAny_done r9 (hQ _ _ _ (nil s2) J2 (fun q h1 h2 h3 => (stN_ne (hfr q h1 h3).1).trans ((heap_set_ne (fun e => h2 e.symm)).trans (hfr q h1 h3).2)) (by rw [stN_size, World.size_setCell]; exact hsz1)) _
  · rw [d8]
    refine any_val 6 dI p6 g6 d6 r4 (i6 _) ?_
    refine any_store 7 p7 g7 d7 r7 (x_storeN q7 n1 n2 hcs1 hsz) ?_
    exact wpAny_done r10 (hQ _ _ _ (nil s2) J2 (fun q h1 h2 h3 => (stN_ne (hfr q h1 h3).1).trans ((heap_set_ne (fun e => h2 e.symm)).trans (hfr q h1 h3).2)) (by rw [stN_size, World.size_setCell]; exact hsz1)) _
end Go.Proofs.YtdojbnngdlmbgaaGreatDoor.Tr
