/-
  The contract of package tree's joinBelow, given that of Join.
-/
import Derived.Test.YtdojbnngdlmbgaaGreatDoorTrOrd
import Derived.Test.YtdojbnngdlmbgaaGreatDoorTrRow
namespace Go.Proofs.YtdojbnngdlmbgaaGreatDoor.Tr
open Go.RowKit
set_option linter.unusedVariables false

def JnL (f : Nat) (d : Nat) : Prop := ∀ (B : Nat) (v : Value) (l : List Nd) (w : World), LRd d w B v l → B ≤ w.heap.size →
    Calls Tryz.prog f #[v] w fun e w' => ∃ v', e = .returned v' ∧ LRx (d + 1) w' (In w.heap.size w') v' (join l) ∧ Below w.heap.size w w'
def JnB (d : Nat) : Prop := ∀ (B : Nat) (v : Value) (n : Nd) (w : World), NV d w B v n → B ≤ w.heap.size →
    Calls Tryz.prog 72 #[v] w fun e w' => ∃ vk va, e = .returned (.agg #[.int .i64 n.kind, .int .i64 n.tag, .string n.text, vk, va]) ∧ LRx (d + 1) w' (In w.heap.size w') vk (join n.kids) ∧ ARx (d + 1) w' (In w.heap.size w') va (joinA n.args) ∧ Below w.heap.size w w'
theorem in_more {a : Nat} {w w' : World} (hb : Below w.heap.size w w') : ∀ g, In a w g → In a w' g := fun g hg => ⟨hg.1, Nat.lt_of_lt_of_le hg.2.1 hb.size, hg.2.2.same (hb.block g hg.2.1)⟩
theorem In.below {d : Nat} {a : Nat} {w w' : World} {v : Value} {l : List Nd} (h : LRx d w (In a w) v l) (hb : Below w.heap.size w w') : LRx d w' (In a w') v l :=
  h.imp (in_more hb) fun p hp => hb.cell hp.2.1
theorem In.belowA {d : Nat} {a : Nat} {w w' : World} {v : Value} {l : List Ar} (h : ARx d w (In a w) v l) (hb : Below w.heap.size w w') : ARx d w' (In a w') v l :=
  ARx.imp h (in_more hb) fun p hp => hb.cell hp.2.1
theorem In.lower {d a b : Nat} {w u : World} {v : Value} {l : List Nd} (h : LRx d w (In a u) v l) (hb : b ≤ a) : LRx d w (In b u) v l := h.imp (fun g hg => ⟨Nat.le_trans hb hg.1, hg.2⟩) fun _ _ => rfl
/-- What the operations of the region yield that appends an argument. -/
def FJ (d : Nat) (w1 : World) (vA : Value) (b : Nat) (nm : Bool) (vn vv : Value) (n x : List Nd) : Nat → Value → World → Prop
  | 0, v, _ => v = vA
  | 1, v, _ => v = .pointer (some ⟨b, 0, none⟩)
  | 2, v, _ => v = .bool nm
  | 3, v, _ => v = .pointer (some ⟨b, 1, none⟩)
  | 4, v, _ => v = vn
  | 5, v, w => LRx d w (In w1.heap.size w) v (join n)
  | 6, v, _ => v = .pointer (some ⟨b, 2, none⟩)
  | 7, v, _ => v = vv
  | 8, v, w => LRx d w (In w1.heap.size w) v (join x)
  | 9, v, w => ∃ y z, v = .agg #[.bool nm, y, z] ∧ LRx d w (In w1.heap.size w) y (join n) ∧ LRx d w (In w1.heap.size w) z (join x)
  | _, v, w => ∃ g y z, v = .slice (some ⟨g, 0, none⟩) 1 1 ∧ w.heap[g]? = some (.cells #[.bool nm, y, z] 59) ∧ LRx d w (In w1.heap.size w) y (join n) ∧ LRx d w (In w1.heap.size w) z (join x)
theorem FJ.st {d : Nat} {w1 : World} {vA : Value} {b : Nat} {nm : Bool} {vn vv : Value} {n x : List Nd} : ∀ i v w w', FJ d w1 vA b nm vn vv n x i v w → Bl w w' → FJ d w1 vA b nm vn vv n x i v w' := by
  intro i v w w' h hb
  unfold FJ at h ⊢
  split <;> simp only at h ⊢
  all_goals first
    | exact h
    | exact In.below h hb
    | exact (let ⟨y, z, h1, h2, h3⟩ := h; ⟨y, z, h1, In.below h2 hb, In.below h3 hb⟩)
    | exact (let ⟨g, y, z, h1, h0, h2, h3⟩ := h; ⟨g, y, z, h1, (hb.block g (Array.getElem?_eq_some_iff.1 h0).1).trans h0, In.below h2 hb, In.below h3 hb⟩)
section
variable {E : Operand → Value} {o : Oper} {W : World}
theorem x_call1 {x : Operand} {t : Array TypeId} (ho : o.op = .call { callee := .value (.func 34), args := #[x], argTypes := t }) {u : Value} (hE : E (.func 34) = .func (.func 34) #[] #[]) (hx : E x = u) : (execOp E o).run Tryz.prog W = .ok (.enter 34 #[u]) W := by
  unfold execOp
  rw [ho]
  go_simp
theorem x_buildA {x y z : Operand} (ho : o.op = Op.build 59 #[(0, x), (1, y), (2, z)]) {b : Bool} {A A' : Option Addr} {n n' c c' : Nat} (hx : E x = .bool b) (hy : E y = .slice A n c) (hz : E z = .slice A' n' c') : (execOp E o).run Tryz.prog W = .ok (.value (.agg #[.bool b, .slice A n c, .slice A' n' c'])) W := by
  unfold execOp
  rw [ho]
  go_simp
theorem x_bsA {x : Operand} (ho : o.op = Op.buildSlice 60 1 #[(0, x)]) {b : Bool} {A A' : Option Addr} {n n' c c' : Nat} (hx : E x = .agg #[.bool b, .slice A n c, .slice A' n' c']) : (execOp E o).run Tryz.prog W = .ok (.value (.slice (some ⟨W.heap.size, 0, none⟩) 1 1)) (W.alloc (.cells #[.bool b, .slice A n c, .slice A' n' c'] 59)) := by
  unfold execOp
  rw [ho]
  go_simp
end
theorem start2 {a : Act} {i1 i2 : Nat} {v1 v2 : Value} {j : Nat} {v : Value} (h : lk [(i1, v1), (i2, v2)] j = some v) (h1 : a.tmps.getD i1 undef = v1) (h2 : a.tmps.getD i2 undef = v2) : a.tmps.getD j undef = v := by
  simp only [lk] at h
  split at h
  · rename_i e; rw [← Nat.eq_of_beq_eq_true e, h1]; exact Option.some.inj h
  · split at h
    · rename_i e; rw [← Nat.eq_of_beq_eq_true e, h2]; exact Option.some.inj h
    · cases h
section
variable {E : Operand → Value} {o : Oper} {W W' : World}
theorem x_append {x y : Operand} {t : TypeId} (ho : o.op = .call { callee := .builtin .append, args := #[x, y], argTypes := #[t, t] }) (ht : o.type = t) {u v r : Value} (hx : E x = u) (hy : E y = v) (hr : (Builtin.append_ #[t, t] t #[u, v]).run Tryz.prog W = .ok r W') : (execOp E o).run Tryz.prog W = .ok (.value r) W' := by
  subst ht
  simp [execOp, ho, resolve, invoke, builtin, hx, hy, hr, Result.andThen]
theorem x_assign {p : Operand} (ho : o.op = Op.assign p) {v : Value} (h : E p = v) : (execOp E o).run Tryz.prog W = .ok (.value v) W := by
  subst h
  unfold execOp
  rw [ho]
  simp [go_sem]
end
/-- What stands at the head of joinBelow's loop. -/
structure Sj (d : Nat) (w : World) (k t : Int) (s : ByteArray) (vK va : Value) (ks : List Nd) (vA : Value) (l : List Ar) (wr : World) : Prop where
  bl : Below w.heap.size w wr
  h1 : wr.heap[w.heap.size]? = some (.cells #[.int .i64 k, .int .i64 t, .string s, vK, va] 62)
  h2 : wr.heap[w.heap.size + 1]? = some (.cells #[.int .i64 0, .int .i64 0, .string ⟨#[]⟩, .slice none 0 0, .slice none 0 0] 62)
  hK : LRx d wr (Out (w.heap.size + 2) wr vA.ownBlock) vK ks
  row : RowA d (w.heap.size + 2) wr vA l
  lo : w.heap.size + 2 ≤ wr.heap.size
theorem Sj.below {d : Nat} {w : World} {k t : Int} {s : ByteArray} {vK va : Value} {ks : List Nd} {vA : Value} {l : List Ar} {wr w' : World} (h : Sj d w k t s vK va ks vA l wr) (hb : Below wr.heap.size wr w') : Sj d w k t s vK va ks vA l w' := by
  have hl := h.lo
  exact ⟨h.bl.trans (hb.mono h.bl.size), (hb.block _ (by omega)).trans h.h1, (hb.block _ (by omega)).trans h.h2, h.hK.imp (out_more hb.size fun g _ hg _ => hb.block g hg) (fun p hp => hb.cell hp.2.1), h.row.below hb, Nat.le_trans hl hb.size⟩
/-- The row grows by an argument. -/
theorem Sj.app {d : Nat} {w : World} {k t : Int} {s : ByteArray} {vK va : Value} {ks : List Nd} {vA : Value} {l : List Ar} {wr W : World} {nm : Bool} {n x : List Nd} {g : Nat} {y z : Value} (h : Sj d w k t s vK va ks vA l wr) (hb : Below wr.heap.size wr W) (hl : l.length ≤ 33554432)
    (hg : W.heap[g]? = some (.cells #[.bool nm, y, z] 59)) (hn : LRx d W (In wr.heap.size W) y (join n)) (hx : LRx d W (In wr.heap.size W) z (join x)) (ty : TypeId) :
    ∃ vA' w', (Builtin.append_ #[60, 60] ty #[vA, .slice (some ⟨g, 0, none⟩) 1 1]).run Tryz.prog W = .ok vA' w' ∧ Sj d w k t s vK va ks vA' (l ++ [.mk nm (join n) (join x)]) w' := by
  have hW := h.below hb
  have hlo := h.lo
  have hr : ∀ r, vA.ownBlock = some r → r < wr.heap.size := by
    obtain ⟨ys, o, _⟩ := h.row
    exact fun r e => (own_lt o r e).2
  have hr2 : ∀ r, vA.ownBlock = some r → w.heap.size + 2 ≤ r := by
    obtain ⟨ys, o, _⟩ := h.row
    exact fun r e => (own_lt o r e).1
  have up : ∀ q, In wr.heap.size W q → Out (w.heap.size + 2) W vA.ownBlock q := fun q hq => ⟨Nat.le_trans hlo hq.1, hq.2.1, (fun e => by have := hr q e.symm; have := hq.1; omega), hq.2.2⟩
  obtain ⟨g', cap, w', r1, G, r2⟩ := hW.row.app ty hl hW.lo hg (hn.imp up fun _ _ => rfl) (hx.imp up fun _ _ => rfl)
  have ne : ∀ q, q < w.heap.size + 2 → some q ≠ vA.ownBlock := fun q hq e => by have := hr2 q e.symm; omega
  refine ⟨_, w', r1, ⟨hW.bl.grown G.gr hW.bl.size (fun q e => by have := hr2 q e; omega), ?_, ?_, G.rx hW.hK, r2, Nat.le_trans hW.lo G.size⟩⟩
  · exact (G.block (by have := hW.lo; omega) (ne _ (by omega))).trans hW.h1
  · exact (G.block (by have := hW.lo; omega) (ne _ (by omega))).trans hW.h2
set_option maxRecDepth 100000 in
set_option maxHeartbeats 4000000 in
theorem joinBelow_step (d : Nat) (hJ : JnL 34 d) : JnB d := by
  intro B v n w h hB
  obtain ⟨vk, va, rfl, hz, f1, f2, r1, r2⟩ := h
  obtain ⟨Ak, ck, rfl⟩ := r1.form
  obtain ⟨Aa, ca, rfl, hc1, hc2, hln, R⟩ := ARd.open r2
  have hza := r2.1
  obtain ⟨k, t, s, ks, rs⟩ := n
  simp only [Nd.kind, Nd.tag, Nd.text, Nd.kids, Nd.args] at *
  have R1 := Lib.hid r1; have R2 := Lib.hid R; clear r1 R r2
  have T0 := Lib.hid (two_below w (Obj.cells #[Value.int .i64 k, Value.int .i64 t, Value.string s, Value.slice Ak ks.length ck, Value.slice Aa rs.length ca] 62) (Obj.cells #[Value.int .i64 0, Value.int .i64 0, Value.string ⟨#[]⟩, Value.slice none 0 0, Value.slice none 0 0] 62))
  go_enter Tryz.func72, Tryz.ntmps72
  go_wp2_with fail
  refine (hJ B _ ks _ (R1.out.below T0.out hB (Nat.le_refl _)) (Nat.le_trans hB T0.out.size)).mono ?_
  rintro e w1 ⟨vK, rfl, hK, hb⟩
  obtain ⟨q1, q2⟩ := two_keep hb
  obtain ⟨Bk, bk, rfl⟩ := hK.form
  have x4 : w1.cell? ⟨w.heap.size, 4, none⟩ = some (Value.slice Aa rs.length ca) := cell_heap q1 rfl
  have x3 : w1.cell? ⟨w.heap.size, 3, none⟩ = some (Value.slice Ak ks.length ck) := cell_heap q1 rfl
  have z3 : w1.frozen? ⟨w.heap.size, 3, none⟩ = false := by simp [World.frozen?, q1]
  have hlo : w.heap.size + 2 ≤ w1.heap.size := by have := hb.size; simp at this; omega
  obtain ⟨i0, hi0, hz0, hz1, hz2⟩ := info_parts infoA
  have hK' : LRx (d + 1) w1 (In (w.heap.size + 2) w1) (Value.slice Bk (join ks).length bk) (join ks) := by simpa using hK
  have bl1 : Below w.heap.size w w1 := T0.out.trans (hb.mono T0.out.size)
  clear hb hK
  have S0 : Sj (d + 1) w k t s (Value.slice Bk (join ks).length bk) (Value.slice Aa rs.length ca) (join ks) (.slice none 0 0) [] (w1.setCell ⟨w.heap.size, 3, none⟩ (Value.slice Bk (join ks).length bk)) :=
    ⟨bl1.setCell (Nat.le_refl _) _, heap_set q1, (heap_set_ne (by omega)).trans q2, hK'.imp (fun g hg => ⟨hg.1, by simpa using hg.2.1, by simp [Value.ownBlock], hg.2.2.same (heap_set_ne (by have := hg.1; omega))⟩) (fun p hp => cell_set_ne (by have := hp.1; omega)), RowA.nil _ _ _, by simpa using hlo⟩
  obtain ⟨w2, m1, m2, m3⟩ := run_make_own (P := Tryz.prog) (w1.setCell ⟨w.heap.size, 3, none⟩ (Value.slice Bk (join ks).length bk)) (w.heap.size + 2) 60 59 i0 _ 3 Tryz.underlying60 hi0 hz0 hz1 .i64 .i64 rs.length (by rw [hz2]; omega) (by simp only [maxLen]; omega) (by simpa using hlo)
  have hbm : Below (w1.setCell ⟨w.heap.size, 3, none⟩ (Value.slice Bk (join ks).length bk)).heap.size (w1.setCell ⟨w.heap.size, 3, none⟩ (Value.slice Bk (join ks).length bk)) w2 := (Below.refl _ _).grown m3 (Nat.le_refl _) (fun q e => by cases e)
  have S1 : Hid (Sj (d + 1) w k t s (Value.slice Bk (join ks).length bk) (Value.slice Aa rs.length ca) (join ks) (.slice (some ⟨(w1.setCell ⟨w.heap.size, 3, none⟩ (Value.slice Bk (join ks).length bk)).heap.size, 0, none⟩) 0 rs.length) [] w2) := by
    have q := S0.below hbm
    refine Lib.hid ⟨q.bl, q.h1, q.h2, S0.hK.imp (fun g hg => ⟨hg.1, Nat.lt_of_lt_of_le hg.2.1 hbm.size, ?_, hg.2.2.2.same (hbm.block g hg.2.1)⟩) (fun p hp => hbm.cell hp.2.1), ⟨[], m2, trivial⟩, q.lo⟩
    intro e
    have e2 := Option.some.inj e
    exact Nat.lt_irrefl _ (Nat.lt_of_lt_of_eq hg.2.1 e2.symm)
  clear m2 m3 hbm S0 hK' bl1 q2 hlo hi0 hz0 hz1 hz2 i0
  have y4 : w2.cell? ⟨w.heap.size, 4, none⟩ = some (Value.slice Aa rs.length ca) := cell_heap S1.out.h1 rfl
  rw [World.size_setCell] at m1 S1
  go_wp2_with fail
  clear m1 x3 x4 q1 y4 z3
  generalize w1.heap.size = g1 at S1 ⊢
  go_loopw [3, 17] (fun vA i wr => ∃ q : Nat, q ≤ rs.length ∧ i = .int .i64 q ∧ Hid (Sj (d + 1) w k t s (Value.slice Bk (join ks).length bk) (Value.slice Aa rs.length ca) (join ks) vA (joinA (rs.take q)) wr)) (fun _ i _ => rs.length - (intOf i).toNat)
  case atStart => exact ⟨0, Nat.zero_le _, rfl, Lib.hid (by rw [List.take_zero, joinA_nil]; exact S1.out)⟩
  case round =>
    obtain ⟨q, hq, rfl, hS⟩ := hrel
    obtain ⟨A3, c3, rfl, hl1, hl2⟩ := hS.out.row.form
    have hlq : (joinA (rs.take q)).length ≤ 16777216 := by rw [joinA_len, List.length_take]; omega
    by_cases hqa : q < rs.length
    · obtain ⟨G, O, rfl, hG, r1⟩ := R2.out (by omega)
      obtain ⟨vn, vv, p1, p2, p3, p4, p5⟩ := r1 q rs[q] (List.getElem?_eq_getElem hqa)
      obtain ⟨An, cn, rfl⟩ := p4.form
      obtain ⟨Av, cv, rfl⟩ := p5.form
      have hc1 : ∀ i, wr.cell? ⟨G, i, none⟩ = w.cell? ⟨G, i, none⟩ := fun i => hS.out.bl.cell (by show G < _; omega)
      rw [← hc1] at p1 p2 p3
      clear hc1 r1
      have HT := Lib.hid (joinA_take hqa)
      have HP := Lib.hid (And.intro p4 p5); clear p4 p5
      generalize rs[q] = ar at *
      obtain ⟨nm, na, vl⟩ := ar
      simp only [Ar.named, Ar.name, Ar.value] at p1 p2 p3 HP
      obtain ⟨O5, hO5⟩ : ∃ O, (Obj.cells #[Value.bool nm, Value.slice An na.length cn, Value.slice Av vl.length cv] 59) = O := ⟨_, rfl⟩
      go_wp2_with fail
      have hbA : Below wr.heap.size wr (wr.alloc O5).drew := ((Below.refl _ _).alloc (Nat.le_refl _) _).drew
      have hbx : (wr.alloc O5).drew.heap[wr.heap.size]? = some O5 := heap_alloc_new wr O5
      have hSA := Lib.hid (hS.out.below hbA)
      have HPA := Lib.hid (And.intro (HP.out.1.below (hS.out.bl.trans (hbA.mono hS.out.bl.size)) hB (Nat.le_refl B)) (HP.out.2.below (hS.out.bl.trans (hbA.mono hS.out.bl.size)) hB (Nat.le_refl B)))
      have hBA : B ≤ (wr.alloc O5).drew.heap.size := Nat.le_trans hB (Nat.le_trans hS.out.bl.size hbA.size)
      clear p1 p2 p3 hbA HP
      refine region_ki Bl (Below.refl _ _) [21, 22, 23, 24, 25, 26, 27, 28, 29, 30, 31] [21, 22, 23, 24, 25, 26, 27, 28, 29, 30, 31, 32, 3] [(3, .slice A3 (joinA (rs.take q)).length c3), (5, .pointer (some ⟨wr.heap.size, 0, none⟩))] (FJ (d + 1) (wr.alloc O5).drew (.slice A3 (joinA (rs.take q)).length c3) wr.heap.size nm (Value.slice An na.length cn) (Value.slice Av vl.length cv) na vl) (by kernel_rfl) (n := 11) (by kernel_rfl) (by kernel_rfl) (fun j v hj => start2 hj rfl rfl) ?_
      generalize hwx : (wr.alloc O5) = wx at hbx hSA HPA hBA ⊢
      clear hwx
      intro l0 ds hl0 hds hT
      have HL0 := Lib.hid hl0; have HDS := Lib.hid hds; clear hl0 hds
      refine ⟨?_, ?_⟩
      · intro i hi S a w' hI hd
        have hlt : wr.heap.size < wx.drew.heap.size := (Array.getElem?_eq_some_iff.1 hbx).1
        have hq5 : w'.heap[wr.heap.size]? = some (Obj.cells #[Value.bool nm, Value.slice An na.length cn, Value.slice Av vl.length cv] 59) := by rw [hO5]; exact (hI.bl.block _ hlt).trans hbx
        match i, hi with
        | 0, _ => exact head_value hI hT Bl.tr FJ.st 0 21 rfl rfl rfl rfl (x_move rfl (hI.lt.eval 3 rfl)) (Below.refl _ _) rfl
        | 1, _ => exact head_value hI hT Bl.tr FJ.st 1 22 rfl rfl rfl rfl (x_fieldA 0 (by decide) rfl (hI.lt.eval 5 rfl)) (Below.refl _ _) rfl
        | 2, _ => exact head_value hI hT Bl.tr FJ.st 2 23 rfl rfl rfl rfl (x_loadB rfl (hI.known 1 22 (hd 1 (by kernel_rfl)) rfl) (cell_heap hq5 rfl)) (Below.refl _ _) rfl
        | 3, _ => exact head_value hI hT Bl.tr FJ.st 3 24 rfl rfl rfl rfl (x_fieldA 1 (by decide) rfl (hI.lt.eval 5 rfl)) (Below.refl _ _) rfl
        | 4, _ => exact head_value hI hT Bl.tr FJ.st 4 25 rfl rfl rfl rfl (x_loadN rfl (hI.known 3 24 (hd 3 (by kernel_rfl)) rfl) (cell_heap hq5 rfl)) (Below.refl _ _) rfl
        | 5, _ =>
          have k4 : a.eval (.tmp 25) = Value.slice An na.length cn := hI.known 4 25 (hd 4 (by kernel_rfl)) rfl
          exact head_call hI hT Bl.tr FJ.st 5 26 rfl rfl rfl rfl (x_call1 rfl rfl k4) ((hJ B _ na w' (HPA.out.1.below hI.bl hBA (Nat.le_refl _)) (Nat.le_trans hBA hI.bl.size)).mono fun e w3 ⟨v', h1, h2, h3⟩ => ⟨v', h1, h3, In.lower h2 hI.bl.size⟩)
        | 6, _ => exact head_value hI hT Bl.tr FJ.st 6 27 rfl rfl rfl rfl (x_fieldA 2 (by decide) rfl (hI.lt.eval 5 rfl)) (Below.refl _ _) rfl
        | 7, _ => exact head_value hI hT Bl.tr FJ.st 7 28 rfl rfl rfl rfl (x_loadN rfl (hI.known 6 27 (hd 6 (by kernel_rfl)) rfl) (cell_heap hq5 rfl)) (Below.refl _ _) rfl
        | 8, _ =>
          have k7 : a.eval (.tmp 28) = Value.slice Av vl.length cv := hI.known 7 28 (hd 7 (by kernel_rfl)) rfl
          exact head_call hI hT Bl.tr FJ.st 8 29 rfl rfl rfl rfl (x_call1 rfl rfl k7) ((hJ B _ vl w' (HPA.out.2.below hI.bl hBA (Nat.le_refl _)) (Nat.le_trans hBA hI.bl.size)).mono fun e w3 ⟨v', h1, h2, h3⟩ => ⟨v', h1, h3, In.lower h2 hI.bl.size⟩)
        | 9, _ =>
          have k1 := hI.known 5 26 (hd 5 (by kernel_rfl)) rfl
          have k2 := hI.known 8 29 (hd 8 (by kernel_rfl)) rfl
          obtain ⟨A1, c1, e1⟩ := LRx.form k1
          obtain ⟨A2, c2, e2⟩ := LRx.form k2
          have k3 : a.eval (.tmp 23) = Value.bool nm := hI.known 2 23 (hd 2 (by kernel_rfl)) rfl
          have e1' : a.eval (.tmp 26) = Value.slice A1 (join na).length c1 := e1
          have e2' : a.eval (.tmp 29) = Value.slice A2 (join vl).length c2 := e2
          exact head_value hI hT Bl.tr FJ.st 9 30 rfl rfl rfl rfl (x_buildA rfl k3 e1' e2') (Below.refl _ _) ⟨_, _, rfl, by rw [← e1]; exact k1, by rw [← e2]; exact k2⟩
        | 10, _ =>
          obtain ⟨y, z, e1, h1, h2⟩ := hI.known 9 30 (hd 9 (by kernel_rfl)) rfl
          obtain ⟨A1, c1, rfl⟩ := LRx.form h1
          obtain ⟨A2, c2, rfl⟩ := LRx.form h2
          have hbb : Below w'.heap.size w' (w'.alloc (.cells #[.bool nm, .slice A1 (join na).length c1, .slice A2 (join vl).length c2] 59)) := (Below.refl _ _).alloc (Nat.le_refl _) _
          have e1' : a.eval (.tmp 30) = _ := e1
          exact head_value hI hT Bl.tr FJ.st 10 31 rfl rfl rfl rfl (x_bsA rfl e1') hbb ⟨_, _, _, rfl, heap_alloc_new w' _, In.below h1 hbb, In.below h2 hbb⟩
      · intro a w' hL hb hk
        have k0 : a.eval (.tmp 21) = .slice A3 (joinA (rs.take q)).length c3 := hk 0 21 (by decide) rfl
        obtain ⟨g, y, z, e1, h0, h1, h2⟩ := hk 10 31 (by decide) rfl
        have e1' : a.eval (.tmp 31) = .slice (some ⟨g, 0, none⟩) 1 1 := e1
        obtain ⟨vA', w3, hr, hS3⟩ := hSA.out.app hb (by omega) h0 h1 h2 60
        have hn37 : l0.length = 37 := by rw [HL0.out]; rfl
        refine any_val 11 32 rfl rfl rfl (by kernel_rfl) (x_append rfl rfl k0 e1' hr) ?_
        have hL2 := hL.put 32 vA' (by decide) (by omega)
        refine any_val 12 3 rfl rfl rfl (by kernel_rfl) (x_assign rfl (hL2.eval 32 rfl)) ?_
        have hL3 := hL2.put 3 vA' (by decide) (by omega)
        generalize (a.put (some 32) vA').put (some 3) vA' = a9 at hL3 ⊢
        clear hL2 hL hk k0 e1 e1' h0 h1 h2 hr
        obtain ⟨u, rfl, hu⟩ := hL3.lit
        have hu3 := hu 3 vA' rfl
        rw [HL0.out, HDS.out]
        clear hL3 hu HL0 HDS hn37 hT
        simp only [setAll, List.set_cons_zero, List.set_cons_succ]
        rw [hu3]
        clear hu3
        refine wpAny_done (by kernel_rfl) ?_ _
        have HS3 := Lib.hid hS3
        clear hS3 hbx hSA HPA hBA hb
        go_wp2_with fail
        go_roundw
        case rel => exact ⟨q + 1, by omega, by go_num, Lib.hid (by rw [HT.out]; exact HS3.out)⟩
        case measure => exact meas hqa
    · have e : q = rs.length := by omega
      subst e
      have z0 : wr.cell? ⟨w.heap.size, 0, none⟩ = some (Value.int .i64 k) := cell_heap hS.out.h1 rfl
      have o0 : wr.cell? ⟨w.heap.size + 1, 0, none⟩ = some (Value.int .i64 0) := cell_heap hS.out.h2 rfl
      have y0 : wr.frozen? ⟨w.heap.size + 1, 0, none⟩ = false := by simp [World.frozen?, hS.out.h2]
      have z1 : wr.cell? ⟨w.heap.size, 1, none⟩ = some (Value.int .i64 t) := cell_heap hS.out.h1 rfl
      have o1 : wr.cell? ⟨w.heap.size + 1, 1, none⟩ = some (Value.int .i64 0) := cell_heap hS.out.h2 rfl
      have y1 : wr.frozen? ⟨w.heap.size + 1, 1, none⟩ = false := by simp [World.frozen?, hS.out.h2]
      have z2 : wr.cell? ⟨w.heap.size, 2, none⟩ = some (Value.string s) := cell_heap hS.out.h1 rfl
      have o2 : wr.cell? ⟨w.heap.size + 1, 2, none⟩ = some (Value.string ⟨#[]⟩) := cell_heap hS.out.h2 rfl
      have y2 : wr.frozen? ⟨w.heap.size + 1, 2, none⟩ = false := by simp [World.frozen?, hS.out.h2]
      have z3 : wr.cell? ⟨w.heap.size, 3, none⟩ = some (Value.slice Bk (join ks).length bk) := cell_heap hS.out.h1 rfl
      have o3 : wr.cell? ⟨w.heap.size + 1, 3, none⟩ = some (Value.slice none 0 0) := cell_heap hS.out.h2 rfl
      have y3 : wr.frozen? ⟨w.heap.size + 1, 3, none⟩ = false := by simp [World.frozen?, hS.out.h2]
      have z4 : wr.cell? ⟨w.heap.size, 4, none⟩ = some (Value.slice Aa rs.length ca) := cell_heap hS.out.h1 rfl
      have o4 : wr.cell? ⟨w.heap.size + 1, 4, none⟩ = some (Value.slice none 0 0) := cell_heap hS.out.h2 rfl
      have y4 : wr.frozen? ⟨w.heap.size + 1, 4, none⟩ = false := by simp [World.frozen?, hS.out.h2]
      have yy : wr.frozen? ⟨w.heap.size, 4, none⟩ = false := by simp [World.frozen?, hS.out.h1]
      rw [List.take_length] at hl1
      have hS' : Hid (Sj (d + 1) w k t s (Value.slice Bk (join ks).length bk) (Value.slice Aa rs.length ca) (join ks) (.slice A3 (joinA rs).length c3) (joinA rs) wr) := Lib.hid (by have := hS.out; rwa [List.take_length] at this)
      clear hS hlq
      rw [List.take_length]
      go_wp2_with fail
      have g9 : ((((((wr.setCell ⟨w.heap.size, 4, none⟩ (Value.slice A3 (joinA rs).length c3)).setCell ⟨w.heap.size + 1, 0, none⟩ (Value.int .i64 k)).setCell ⟨w.heap.size + 1, 1, none⟩ (Value.int .i64 t)).setCell ⟨w.heap.size + 1, 2, none⟩ (Value.string s)).setCell ⟨w.heap.size + 1, 3, none⟩ (Value.slice Bk (join ks).length bk)).setCell ⟨w.heap.size + 1, 4, none⟩ (Value.slice A3 (joinA rs).length c3)).heap[w.heap.size + 1]? = some (.cells #[.int .i64 k, .int .i64 t, .string s, (Value.slice Bk (join ks).length bk), (Value.slice A3 (joinA rs).length c3)] 62) :=
        heap_set (heap_set (heap_set (heap_set (heap_set ((heap_set_ne (by omega)).trans hS'.out.h2)))))
      have b9 : Below w.heap.size w ((((((wr.setCell ⟨w.heap.size, 4, none⟩ (Value.slice A3 (joinA rs).length c3)).setCell ⟨w.heap.size + 1, 0, none⟩ (Value.int .i64 k)).setCell ⟨w.heap.size + 1, 1, none⟩ (Value.int .i64 t)).setCell ⟨w.heap.size + 1, 2, none⟩ (Value.string s)).setCell ⟨w.heap.size + 1, 3, none⟩ (Value.slice Bk (join ks).length bk)).setCell ⟨w.heap.size + 1, 4, none⟩ (Value.slice A3 (joinA rs).length c3)) := (((((hS'.out.bl.setCell (Nat.le_refl _) _).setCell (by show _ ≤ _ + 1; omega) _).setCell (by show _ ≤ _ + 1; omega) _).setCell (by show _ ≤ _ + 1; omega) _).setCell (by show _ ≤ _ + 1; omega) _).setCell (by show _ ≤ _ + 1; omega) _
      have s9 : ((((((wr.setCell ⟨w.heap.size, 4, none⟩ (Value.slice A3 (joinA rs).length c3)).setCell ⟨w.heap.size + 1, 0, none⟩ (Value.int .i64 k)).setCell ⟨w.heap.size + 1, 1, none⟩ (Value.int .i64 t)).setCell ⟨w.heap.size + 1, 2, none⟩ (Value.string s)).setCell ⟨w.heap.size + 1, 3, none⟩ (Value.slice Bk (join ks).length bk)).setCell ⟨w.heap.size + 1, 4, none⟩ (Value.slice A3 (joinA rs).length c3)).heap.size = wr.heap.size := by simp only [World.size_setCell]
      have n9 : ∀ g : Nat, w.heap.size + 2 ≤ g → ((((((wr.setCell ⟨w.heap.size, 4, none⟩ (Value.slice A3 (joinA rs).length c3)).setCell ⟨w.heap.size + 1, 0, none⟩ (Value.int .i64 k)).setCell ⟨w.heap.size + 1, 1, none⟩ (Value.int .i64 t)).setCell ⟨w.heap.size + 1, 2, none⟩ (Value.string s)).setCell ⟨w.heap.size + 1, 3, none⟩ (Value.slice Bk (join ks).length bk)).setCell ⟨w.heap.size + 1, 4, none⟩ (Value.slice A3 (joinA rs).length c3)).heap[g]? = wr.heap[g]? := fun g hg => by
        rw [heap_set_ne (by omega), heap_set_ne (by omega), heap_set_ne (by omega), heap_set_ne (by omega), heap_set_ne (by omega), heap_set_ne (by omega)]
      have c9 : ∀ p : Addr, w.heap.size + 2 ≤ p.block → ((((((wr.setCell ⟨w.heap.size, 4, none⟩ (Value.slice A3 (joinA rs).length c3)).setCell ⟨w.heap.size + 1, 0, none⟩ (Value.int .i64 k)).setCell ⟨w.heap.size + 1, 1, none⟩ (Value.int .i64 t)).setCell ⟨w.heap.size + 1, 2, none⟩ (Value.string s)).setCell ⟨w.heap.size + 1, 3, none⟩ (Value.slice Bk (join ks).length bk)).setCell ⟨w.heap.size + 1, 4, none⟩ (Value.slice A3 (joinA rs).length c3)).cell? p = wr.cell? p := fun p hp => by
        rw [cell_set_ne (by omega), cell_set_ne (by omega), cell_set_ne (by omega), cell_set_ne (by omega), cell_set_ne (by omega), cell_set_ne (by omega)]
      clear z0 z1 z2 z3 z4 o0 o1 o2 o3 o4 y0 y1 y2 y3 y4 yy
      generalize ((((((wr.setCell ⟨w.heap.size, 4, none⟩ (Value.slice A3 (joinA rs).length c3)).setCell ⟨w.heap.size + 1, 0, none⟩ (Value.int .i64 k)).setCell ⟨w.heap.size + 1, 1, none⟩ (Value.int .i64 t)).setCell ⟨w.heap.size + 1, 2, none⟩ (Value.string s)).setCell ⟨w.heap.size + 1, 3, none⟩ (Value.slice Bk (join ks).length bk)).setCell ⟨w.heap.size + 1, 4, none⟩ (Value.slice A3 (joinA rs).length c3)) = W9 at g9 b9 s9 c9 n9 ⊢
      have o0 : W9.cell? ⟨w.heap.size + 1, 0, none⟩ = some (Value.int .i64 k) := cell_heap g9 rfl
      have o1 : W9.cell? ⟨w.heap.size + 1, 1, none⟩ = some (Value.int .i64 t) := cell_heap g9 rfl
      have o2 : W9.cell? ⟨w.heap.size + 1, 2, none⟩ = some (Value.string s) := cell_heap g9 rfl
      have o3 : W9.cell? ⟨w.heap.size + 1, 3, none⟩ = some (Value.slice Bk (join ks).length bk) := cell_heap g9 rfl
      have o4 : W9.cell? ⟨w.heap.size + 1, 4, none⟩ = some (Value.slice A3 (joinA rs).length c3) := cell_heap g9 rfl
      refine bodyPost_ret (v := .agg #[.int .i64 k, .int .i64 t, .string s, (Value.slice Bk (join ks).length bk), (Value.slice A3 (joinA rs).length c3)]) (by simp [results, Tryz.results72, go_sem, o0, o1, o2, o3, o4]) rfl ⟨_, _, rfl, ?_, ?_, b9⟩
      · exact hS'.out.hK.imp (fun g hg => ⟨by have := hg.1; omega, by rw [s9]; exact hg.2.1, hg.2.2.2.same (n9 g hg.1)⟩) (fun p hp => c9 p hp.1)
      · exact ARx.imp (hS'.out.row.rx (Nat.le_trans (szA_join rs) hza)) (fun g hg => ⟨by have := hg.1; omega, by rw [s9]; exact hg.2.1, hg.2.2.same (n9 g hg.1)⟩) (fun p hp => c9 p hp.1)
end Go.Proofs.YtdojbnngdlmbgaaGreatDoor.Tr
