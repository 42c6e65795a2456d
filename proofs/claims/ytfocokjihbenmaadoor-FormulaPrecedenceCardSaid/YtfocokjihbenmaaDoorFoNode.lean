/-
  The contract of makeNode, at the operands of the three forms of a node.
-/
import Derived.Test.YtfocokjihbenmaaDoorFoTake
namespace Go.Proofs.YtfocokjihbenmaaDoor.Fo
open Go.RowKit Go.Proofs.YtfocokjihbenmaaDoor.Nu
set_option linter.unusedVariables false
set_option linter.unusedSimpArgs false

/-- The node that makeNode makes of nodes in a row of k at block g. -/
def mkv (o : Tok) (A : Option Addr) (k : Nat) (lv : Nat) : Value := .agg #[sv o, .slice A k k, .int .i64 (lv : Int)]
set_option maxRecDepth 100000 in
set_option maxHeartbeats 2000000 in
theorem makeNode_0 (o : Tok) (w : World) : Calls Tryd.prog 75 #[sv o, .slice none 0 0] w fun e w' => e = .returned (mkv o none 0 1) ∧ Below w.heap.size w w' := by
  unfold sv
  go_enter Tryd.func75, Tryd.ntmps75
  go_wp2
  refine wp_loop_rounds 1 ?_
  rw [rounds_succ]
  go_wp2
  refine bodyPost_ret (v := mkv _ _ _ _) (by simp [results, Tryd.results75, go_sem, mkv, sv]) rfl ⟨rfl, (Below.refl _ w).alloc (Nat.le_refl _) _⟩
set_option maxRecDepth 100000 in
set_option maxHeartbeats 2000000 in
theorem makeNode_1 (o : Tok) (w : World) (g : Nat) (t : TypeId) (oo : ByteArray) (A : Option Addr) (k c : Nat) (n : Nat) (h : w.heap[g]? = some (.cells #[.string oo, .slice A k c, .int .i64 (n : Int)] t)) (hn : n ≤ 1000) :
    Calls Tryd.prog 75 #[sv o, .slice (some ⟨g, 0, none⟩) 1 1] w fun e w' => e = .returned (mkv o (some ⟨g, 0, none⟩) 1 (n + 1)) ∧ Below w.heap.size w w' := by
  have hg := lt_heap h
  have h0 : w.cell? ⟨g, 0, none⟩ = some (.string oo) := by unfold World.cell?; rw [h]; rfl
  have h1 : w.cell? ⟨g, 1, none⟩ = some (.slice A k c) := by unfold World.cell?; rw [h]; rfl
  have h2 : w.cell? ⟨g, 2, none⟩ = some (.int .i64 (n : Int)) := by unfold World.cell?; rw [h]; rfl
  clear h
  unfold sv
  go_enter Tryd.func75, Tryd.ntmps75
  go_wp2
  refine wp_loop_rounds 2 ?_
  rw [rounds_succ]
  go_wp2
  rw [rounds_succ]
  go_wp2
  refine bodyPost_ret (v := mkv _ _ _ _) (by simp [results, Tryd.results75, go_sem, mkv, sv]) rfl ⟨rfl, (((Below.refl _ w).alloc (Nat.le_refl _) _)).alloc (by simp) _⟩
set_option maxRecDepth 100000 in
set_option maxHeartbeats 2000000 in
theorem makeNode_2 (o : Tok) (w : World) (g : Nat) (t : TypeId) (oo : ByteArray) (A : Option Addr) (k c : Nat) (n : Nat) (o2 : ByteArray) (A2 : Option Addr) (k2 c2 : Nat) (n2 : Nat)
    (h : w.heap[g]? = some (.cells #[.string oo, .slice A k c, .int .i64 (n : Int), .string o2, .slice A2 k2 c2, .int .i64 (n2 : Int)] t)) (hn : n ≤ 1000) (hn2 : n2 ≤ 1000) :
    Calls Tryd.prog 75 #[sv o, .slice (some ⟨g, 0, none⟩) 2 2] w fun e w' => e = .returned (mkv o (some ⟨g, 0, none⟩) 2 (max n n2 + 1)) ∧ Below w.heap.size w w' := by
  have hg := lt_heap h
  have h0 : w.cell? ⟨g, 0, none⟩ = some (.string oo) := by unfold World.cell?; rw [h]; rfl
  have h1 : w.cell? ⟨g, 1, none⟩ = some (.slice A k c) := by unfold World.cell?; rw [h]; rfl
  have h2 : w.cell? ⟨g, 2, none⟩ = some (.int .i64 (n : Int)) := by unfold World.cell?; rw [h]; rfl
  have h3 : w.cell? ⟨g, 3, none⟩ = some (.string o2) := by unfold World.cell?; rw [h]; rfl
  have h4 : w.cell? ⟨g, 4, none⟩ = some (.slice A2 k2 c2) := by unfold World.cell?; rw [h]; rfl
  have h5 : w.cell? ⟨g, 5, none⟩ = some (.int .i64 (n2 : Int)) := by unfold World.cell?; rw [h]; rfl
  clear h
  obtain ⟨mx, hmx⟩ : ∃ m : Nat, max n n2 = m := ⟨_, rfl⟩
  have hm1 : max (n : Int) (n2 : Int) = (mx : Int) := by omega
  have hm2 : mx ≤ 1000 := by omega
  rw [hmx]
  clear hmx
  unfold sv
  go_enter Tryd.func75, Tryd.ntmps75
  go_wp2
  refine wp_loop_rounds 3 ?_
  rw [rounds_succ]
  go_wp2
  rw [rounds_succ]
  go_wp2
  rw [rounds_succ]
  go_wp2
  refine bodyPost_ret (v := mkv _ _ _ _) (by simp [results, Tryd.results75, go_sem, mkv, sv]) rfl ⟨rfl, ((((Below.refl _ w).alloc (Nat.le_refl _) _)).alloc (by simp) _).alloc (by simp; omega) _⟩
end Go.Proofs.YtfocokjihbenmaaDoor.Fo
