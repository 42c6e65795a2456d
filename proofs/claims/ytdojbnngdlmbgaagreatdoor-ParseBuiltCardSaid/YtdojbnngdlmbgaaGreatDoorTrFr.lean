/-
  Regions that draw their order, walked over a frame of which only some slots are known.
-/
import Derived.Test.YtdojbnngdlmbgaaGreatDoorTrEq2
import Derived.Deep.Quiet
namespace Go.Proofs.YtdojbnngdlmbgaaGreatDoor.Tr
open Go.RowKit

/-- What is known of a slot. -/
def lk : List (Nat × Value) → Nat → Option Value
  | [], _ => none
  | (i, v) :: r, j => if Nat.beq i j then some v else lk r j
/-- The frame a: its first k slots are those of l0, of the others those are known that stand in L. -/
structure Sf (l0 : List Value) (ds : List Deferred) (k n : Nat) (L : List (Nat × Value)) (a : Act) : Prop where
  size : a.tmps.size = n
  low : a.tmps.toList.take k = l0.take k
  def_ : a.defers = ds
  get : ∀ j v, lk L j = some v → a.tmps.getD j undef = v
theorem Sf.eval {l0 : List Value} {ds : List Deferred} {k n : Nat} {L : List (Nat × Value)} {a : Act} (h : Sf l0 ds k n L a) (j : Nat) {v : Value} (hl : lk L j = some v) : a.eval (.tmp j) = v := h.get j v hl
theorem lk_cons (d : Nat) (v : Value) (L : List (Nat × Value)) (j : Nat) : lk ((d, v) :: L) j = if Nat.beq d j then some v else lk L j := rfl
theorem Sf.put {l0 : List Value} {ds : List Deferred} {k n : Nat} {L : List (Nat × Value)} {a : Act} (h : Sf l0 ds k n L a) (d : Nat) (v : Value) (hk : Nat.ble k d = true) (hn : Nat.blt d n = true) : Sf l0 ds k n ((d, v) :: L) (a.put (some d) v) := by
  have hk' : k ≤ d := Nat.le_of_ble_eq_true hk
  have hn' : d < n := Nat.le_of_ble_eq_true hn
  obtain ⟨h1, h2, h3, h4⟩ := h
  refine ⟨by simp [Act.put, h1], ?_, h3, fun j u hj => ?_⟩
  · simp only [Act.put, Array.toList_setIfInBounds]
    rw [List.take_set_of_le hk']
    exact h2
  · rw [lk_cons] at hj
    simp only [Act.put]
    by_cases e : d = j
    · subst e
      have : Nat.beq d d = true := by simp
      rw [this, if_pos rfl] at hj
      cases hj
      have hd : d < a.tmps.size := by omega
      simp [Array.getD, hd]
    · have hq : Nat.beq d j = false := by
        cases hb : Nat.beq d j with
        | false => rfl
        | true => exact absurd (Nat.eq_of_beq_eq_true hb) e
      rw [hq] at hj
      have g := h4 j u hj
      rw [← g, Array.getD_eq_getD_getElem?, Array.getElem?_setIfInBounds_ne e, ← Array.getD_eq_getD_getElem?]
/-- The frame, written out. -/
theorem Sf.lit {l0 : List Value} {ds : List Deferred} {k n : Nat} {L : List (Nat × Value)} {a : Act} (h : Sf l0 ds k n L a) : a = ⟨(l0.take k ++ a.tmps.toList.drop k).toArray, ds⟩ := by
  obtain ⟨tm, df⟩ := a
  obtain ⟨h1, h2, h3, h4⟩ := h
  simp only at h2 h3 h1
  subst h3
  rw [← h2, List.take_append_drop]
theorem list_split : ∀ (n : Nat) (r : List Value), r.length = n → r = (List.range n).map fun i => r.getD i undef := by
  intro n r h
  refine List.ext_getElem (by simp [h]) fun i h1 h2 => ?_
  simp [List.getD, h1]
/-- The frame with its last 45 slots, of which the last is known. -/
theorem Sf.last45 {l0 : List Value} {ds : List Deferred} {k n : Nat} {L : List (Nat × Value)} {a : Act} {v : Value} (h : Sf l0 ds k n L a) (hn : n = k + 45) (hv : lk L (k + 44) = some v) : ∃ u : Nat → Value, a = ⟨(l0.take k ++ [u 0, u 1, u 2, u 3, u 4, u 5, u 6, u 7, u 8, u 9, u 10, u 11, u 12, u 13, u 14, u 15, u 16, u 17, u 18, u 19, u 20, u 21, u 22, u 23, u 24, u 25, u 26, u 27, u 28, u 29, u 30, u 31, u 32, u 33, u 34, u 35, u 36, u 37, u 38, u 39, u 40, u 41, u 42, u 43, u 44]).toArray, ds⟩ ∧ u 44 = v := by
  have hs := h.size
  have hr : (a.tmps.toList.drop k).length = 45 := by simp [hs, hn]
  refine ⟨fun i => (a.tmps.toList.drop k).getD i undef, ?_, ?_⟩
  · have e := list_split 45 _ hr
    have l := h.lit
    rw [e] at l
    exact l
  · have g := h.get _ _ hv
    rw [← g]
    simp [List.getD, Array.getD, hs, hn]
section
variable {P : Program} {ops : Array Oper} {C : World → Prop} {Q : Act → Prop} {a : Act} {o : Oper} {rest : List Oper} {l0 : List Value} {ds : List Deferred} {k n : Nat} {L : List (Nat × Value)}
/-- An operation that yields the same value in every world of the class. -/
theorem f_op (hF : Sf l0 ds k n L a) (d : Nat) (v : Value) (hd : o.dst = some d) (hk : Nat.ble k d = true) (hn : Nat.blt d n = true) (hw : Region.wanted o (yielded ops a.tmps) = true) (hy : ∀ W, C W → (execOp a.eval o).run P W = .ok (.value v) W) (h : ∀ a', Sf l0 ds k n ((d, v) :: L) a' → wpQuiet P ops C Q rest a') : wpQuiet P ops C Q (o :: rest) a := by
  refine wpQuiet_step (fun K hK => ?_)
  rw [if_pos hw]
  exact ⟨v, fun W hW => by unfold Oper.quietAt; rw [hy W hW]; exact ⟨rfl, rfl⟩, hK _ (by rw [hd]; exact h _ (hF.put d v hk hn))⟩
theorem f_skip (hF : Sf l0 ds k n L a) (d : Nat) (hd : o.dst = some d) (hk : Nat.ble k d = true) (hn : Nat.blt d n = true) (hw : Region.wanted o (yielded ops a.tmps) = false) (h : ∀ a', Sf l0 ds k n ((d, undef) :: L) a' → wpQuiet P ops C Q rest a') : wpQuiet P ops C Q (o :: rest) a := by
  refine wpQuiet_step (fun K hK => ?_)
  rw [if_neg (by rw [hw]; simp)]
  exact hK _ (by rw [hd]; exact h _ (hF.put d undef hk hn))
theorem f_call (hF : Sf l0 ds k n L a) (d : Nat) (f : FuncId) (args : Array Value) (v : Value) (hd : o.dst = some d) (hk : Nat.ble k d = true) (hn : Nat.blt d n = true) (hw : Region.wanted o (yielded ops a.tmps) = true) (hy : ∀ W, C W → (execOp a.eval o).run P W = .ok (.enter f args) W) (hc : ∀ W, C W → Calls P f args W fun e w' => e = .returned v ∧ C w') (h : ∀ a', Sf l0 ds k n ((d, v) :: L) a' → wpQuiet P ops C Q rest a') : wpQuiet P ops C Q (o :: rest) a := by
  refine wpQuiet_step (fun K hK => ?_)
  rw [if_pos hw]
  exact ⟨v, fun W hW => by unfold Oper.quietAt; rw [hy W hW]; exact ⟨rfl, hc W hW⟩, hK _ (by rw [hd]; exact h _ (hF.put d v hk hn))⟩
/-- Whether a guarded operation is carried out. -/
theorem f_free (h : o.guard = none) : Region.wanted o (yielded ops a.tmps) = true := by unfold Region.wanted; rw [h]
theorem f_guard (hF : Sf l0 ds k n L a) (j d : Nat) (want b r : Bool) (hg : o.guard = some (j, want)) (hd : (ops[j]?).bind (·.dst) = some d) (hn : Nat.blt d n = true) (hl : lk L d = some (.bool b)) (hr : (b == want) = r) : Region.wanted o (yielded ops a.tmps) = r := by
  have hn' : d < n := Nat.le_of_ble_eq_true hn
  have g := hF.get d _ hl
  have hs := hF.size
  unfold Region.wanted yielded
  rw [hg]
  simp only [hd, Option.bind_some]
  have e : a.tmps[d]? = some (.bool b) := by
    rw [← g]; simp [Array.getD, hs, hn']
  rw [e]
  subst hr
  cases b <;> cases want <;> rfl
theorem f_start {a0 : Act} {l : List Oper} (k n : Nat) (L : List (Nat × Value)) (h0 : Sf a0.tmps.toList a0.defers k n L a0) (h : ∀ a l0 ds, l0 = a0.tmps.toList → ds = a0.defers → Sf l0 ds k n L a → wpQuiet P ops C Q l a) : wpQuiet P ops C Q l a0 := h a0 _ _ rfl rfl h0
theorem region_q {l : List Oper} {id : Nat} {R : Exit → Act → World → Prop} {w : World} (hm : P.follows .mixedOrders = true) (hB : Region.lexB .any l.toArray = true) (hC : C w.drew) (h : wpQuiet P l.toArray C (fun a' => ∀ w', C w' → R .normal a' w') l a) : (Code.region id l.toArray true).wp P R a w :=
  wp_region_quiet (C := C) hm hB hC (by simpa using h)
end
section
variable {E : Operand → Value} {o : Oper} {W : World}
theorem x_neq {p q : Operand} (ho : o.op = Op.binOp BinOp.neq 4 p q 4) (x y b : Bool) (hx : E p = .bool x) (hy : E q = .bool y) (h : (x != y) = b) : (execOp E o).run Tryz.prog W = .ok (.value (.bool b)) W := by
  subst h
  unfold execOp
  rw [ho]
  simp only [hx, hy]
  cases x <;> cases y <;> simp [go_sem]
theorem x_move {p : Operand} (ho : o.op = Op.move p) {v : Value} (h : E p = v) : (execOp E o).run Tryz.prog W = .ok (.value v) W := by
  subst h
  unfold execOp
  rw [ho]
  simp [go_sem]
theorem x_not {p : Operand} (ho : o.op = Op.unOp UnOp.not 4 p) (b c : Bool) (h : E p = .bool b) (hc : (!b) = c) : (execOp E o).run Tryz.prog W = .ok (.value (.bool c)) W := by
  subst hc
  unfold execOp
  rw [ho]
  simp only [h]
  cases b <;> simp [go_sem]
theorem x_pick {p x y : Operand} (ho : o.op = Op.pick p x y) (b : Bool) {v : Value} (h : E p = .bool b) (hv : E (if b then x else y) = v) : (execOp E o).run Tryz.prog W = .ok (.value v) W := by
  unfold execOp
  rw [ho]
  subst hv
  simp only [h]
  cases b <;> simp [go_sem]
theorem x_fieldN {p : Operand} {b f : Nat} (i : Nat) (hi : i < 5) (ho : o.op = Op.fieldAddr 62 p i) (h : E p = .pointer (some ⟨b, f, none⟩)) : (execOp E o).run Tryz.prog W = .ok (.value (.pointer (some ⟨b, f + i, none⟩))) W := by
  unfold execOp
  rw [ho]
  simp only [h]
  match i, hi with
  | 0, _ => go_simp
  | 1, _ => go_simp
  | 2, _ => go_simp
  | 3, _ => go_simp
  | 4, _ => go_simp
theorem x_fieldA {p : Operand} {b f : Nat} (i : Nat) (hi : i < 3) (ho : o.op = Op.fieldAddr 59 p i) (h : E p = .pointer (some ⟨b, f, none⟩)) : (execOp E o).run Tryz.prog W = .ok (.value (.pointer (some ⟨b, f + i, none⟩))) W := by
  unfold execOp
  rw [ho]
  simp only [h]
  match i, hi with
  | 0, _ => go_simp
  | 1, _ => go_simp
  | 2, _ => go_simp
theorem x_loadA {p : Operand} {b f : Nat} {v : Value} (ho : o.op = Op.load 60 p) (h : E p = .pointer (some ⟨b, f, none⟩)) (hc : W.cell? ⟨b, f, none⟩ = some v) : (execOp E o).run Tryz.prog W = .ok (.value v) W := by
  unfold execOp
  rw [ho]
  simp only [h]
  go_simp
theorem x_loadN {p : Operand} {b f : Nat} {v : Value} (ho : o.op = Op.load 27 p) (h : E p = .pointer (some ⟨b, f, none⟩)) (hc : W.cell? ⟨b, f, none⟩ = some v) : (execOp E o).run Tryz.prog W = .ok (.value v) W := by
  unfold execOp
  rw [ho]
  simp only [h]
  go_simp
theorem x_loadB {p : Operand} {b f : Nat} {v : Value} (ho : o.op = Op.load 4 p) (h : E p = .pointer (some ⟨b, f, none⟩)) (hc : W.cell? ⟨b, f, none⟩ = some v) : (execOp E o).run Tryz.prog W = .ok (.value v) W := by
  unfold execOp
  rw [ho]
  simp only [h]
  go_simp
theorem x_indexA {p q : Operand} {g f n c i : Nat} (ho : o.op = Op.indexAddr 60 p q) (h : E p = .slice (some ⟨g, f, none⟩) n c) (hq : E q = .int .i64 (i : Int)) (hi : i < n) : (execOp E o).run Tryz.prog W = .ok (.value (.pointer (some ⟨g, f + i * 3, none⟩))) W := by
  unfold execOp
  rw [ho]
  simp only [h, hq]
  go_simp
theorem x_call2 {x y : Operand} {t : Array TypeId} (ho : o.op = .call { callee := .value (.func 14), args := #[x, y], argTypes := t }) {u v : Value} (hE : E (.func 14) = .func (.func 14) #[] #[]) (hx : E x = u) (hy : E y = v) : (execOp E o).run Tryz.prog W = .ok (.enter 14 #[u, v]) W := by
  unfold execOp
  rw [ho]
  go_simp
end
end Go.Proofs.YtdojbnngdlmbgaaGreatDoor.Tr
