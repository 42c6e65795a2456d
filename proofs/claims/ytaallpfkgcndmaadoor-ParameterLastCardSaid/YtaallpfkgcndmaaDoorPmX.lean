/-
  What single operations of drawn regions yield.
-/
import Derived.Test.YtaallpfkgcndmaaDoorPmOrd
import Derived.Test.YtaallpfkgcndmaaDoorPmMem
namespace Go.Proofs.YtaallpfkgcndmaaDoor.Pm
open Go.RowKit Go.Shelf
set_option linter.unusedVariables false
set_option linter.unusedSimpArgs false

section
variable {E : Operand → Value} {o : Oper} {W : World}
theorem x_assign {p : Operand} (ho : o.op = Op.assign p) {v : Value} (h : E p = v) : (execOp E o).run Tryd.prog W = .ok (.value v) W := by
  subst h
  unfold execOp
  rw [ho]
  simp [go_sem]
theorem x_idxV {p q : Operand} {g f n c i : Nat} (ho : o.op = Op.indexAddr 22 p q) (h : E p = .slice (some ⟨g, f, none⟩) n c) (hq : E q = .int .i64 (i : Int)) (hi : i < n) : (execOp E o).run Tryd.prog W = .ok (.value (.pointer (some ⟨g, f + i * 3, none⟩))) W := by
  unfold execOp
  rw [ho]
  simp only [h, hq]
  go_simp
theorem x_fldV {p : Operand} {b f : Nat} (i : Nat) (hi : i < 3) (ho : o.op = Op.fieldAddr 40 p i) (h : E p = .pointer (some ⟨b, f, none⟩)) : (execOp E o).run Tryd.prog W = .ok (.value (.pointer (some ⟨b, f + i, none⟩))) W := by
  unfold execOp
  rw [ho]
  simp only [h]
  match i, hi with
  | 0, _ => go_simp
  | 1, _ => go_simp
  | 2, _ => go_simp
theorem x_loadS {p : Operand} {b f : Nat} {v : Value} (ho : o.op = Op.load 9 p) (h : E p = .pointer (some ⟨b, f, none⟩)) (hc : W.cell? ⟨b, f, none⟩ = some v) : (execOp E o).run Tryd.prog W = .ok (.value v) W := by
  unfold execOp
  rw [ho]
  simp only [h]
  go_simp
theorem x_call1 (F : FuncId) (eg : ∀ args w, (callFunc F args).run Tryd.prog w = .ok (.enter F args) w) {x : Operand} {t : Array TypeId} (ho : o.op = .call { callee := .value (.func F), args := #[x], argTypes := t }) {u : Value} (hE : E (.func F) = .func (.func F) #[] #[]) (hx : E x = u) : (execOp E o).run Tryd.prog W = .ok (.enter F #[u]) W := by
  unfold execOp
  rw [ho]
  go_simp
theorem x_call3 (F : FuncId) (eg : ∀ args w, (callFunc F args).run Tryd.prog w = .ok (.enter F args) w) {x y z : Operand} {t : Array TypeId} (ho : o.op = .call { callee := .value (.func F), args := #[x, y, z], argTypes := t }) {u v s : Value} (hE : E (.func F) = .func (.func F) #[] #[]) (hx : E x = u) (hy : E y = v) (hz : E z = s) : (execOp E o).run Tryd.prog W = .ok (.enter F #[u, v, s]) W := by
  unfold execOp
  rw [ho]
  go_simp
end
theorem row_base {w : World} {base base' e k : Nat} {v : Value} {m : Nat} {xs : List Value} (h : w.ownsRow base e k v m xs) (hb : base' ≤ base) : w.ownsRow base' e k v m xs := by
  refine ⟨h.1, ?_⟩
  rcases h.2 with h2 | ⟨g, cap, cur, h3, h4, h5⟩
  · exact .inl h2
  · exact .inr ⟨g, cap, cur, h3, Nat.le_trans hb h4, h5⟩
theorem OwnB.base {w : World} {base base' : Nat} {v : Value} {l : List Bd} (h : OwnB w base v l) (hb : base' ≤ base) : OwnB w base' v l := row_base h hb
/-- Known slots hold what they hold. -/
theorem lk_ok {a : Act} {L : List (Nat × Value)} (h : ∀ p ∈ L, a.tmps.getD p.1 undef = p.2) : ∀ j v, lk L j = some v → a.tmps.getD j undef = v := fun j v hj => h (j, v) (lk_mem hj)
end Go.Proofs.YtaallpfkgcndmaaDoor.Pm
