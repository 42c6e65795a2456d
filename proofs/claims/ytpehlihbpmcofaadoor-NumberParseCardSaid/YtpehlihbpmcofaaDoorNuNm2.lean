/-
  More of the boxes.
-/
import Derived.Test.YtpehlihbpmcofaaDoorNuNm
namespace Go.Proofs.YtpehlihbpmcofaaDoor.Nu
open Go.RowKit

theorem Nm.set {W : World} {b : Nat} {n d : Int} (h : Nm W b n d) (p q : Int) : Nm ((W.setCell ⟨b, 0, none⟩ (.int .i64 p)).setCell ⟨b, 1, none⟩ (.int .i64 q)) b p q := by
  have e0 := World.cell?_setCell_same W ⟨b, 0, none⟩ (.int .i64 p) h.c0
  have e1 : (W.setCell ⟨b, 0, none⟩ (.int .i64 p)).cell? ⟨b, 1, none⟩ = some (.int .i64 d) := (World.cell?_setCell_other W ⟨b, 0, none⟩ ⟨b, 1, none⟩ (.int .i64 p) (by simp)).trans h.c1
  exact ⟨(World.cell?_setCell_other (W.setCell ⟨b, 0, none⟩ (.int .i64 p)) ⟨b, 1, none⟩ ⟨b, 0, none⟩ (.int .i64 q) (by simp)).trans e0, World.cell?_setCell_same _ ⟨b, 1, none⟩ (.int .i64 q) e1⟩
theorem fz_new (W : World) (c : Array Value) (t : TypeId) (i : Nat) : (W.alloc (.cells c t)).frozen? ⟨W.heap.size, i, none⟩ = false := World.frozen?_alloc_new (w := W) c t i
theorem fz_old (W : World) (o : Obj) (b i : Nat) (h : b < W.heap.size) : (W.alloc o).frozen? ⟨b, i, none⟩ = W.frozen? ⟨b, i, none⟩ := ((Below.refl _ _).alloc (Nat.le_refl _) o).frozen (p := ⟨b, i, none⟩) h
theorem fz4 {w w1 : World} {a b c d e f g h : Int} (hb : Below ((((w.alloc (box a b)).alloc (box c d)).alloc (box e f)).alloc (box g h)).heap.size ((((w.alloc (box a b)).alloc (box c d)).alloc (box e f)).alloc (box g h)) w1) :
    (∀ i, w1.frozen? ⟨w.heap.size + 1 + 1, i, none⟩ = false) ∧ (∀ i, w1.frozen? ⟨w.heap.size + 1 + 1 + 1, i, none⟩ = false) := by
  have s1 := size_box w a b
  have s2 := size_box (w.alloc (box a b)) c d
  have s3 := size_box ((w.alloc (box a b)).alloc (box c d)) e f
  have s4 := size_box (((w.alloc (box a b)).alloc (box c d)).alloc (box e f)) g h
  refine ⟨fun i => ?_, fun i => ?_⟩
  · have h1 := fz_new ((w.alloc (box a b)).alloc (box c d)) #[.int .i64 e, .int .i64 f] 23 i
    rw [s2, s1] at h1
    exact ((bcell hb).2 _ i (by omega)).trans ((fz_old _ _ _ _ (by omega)).trans h1)
  · have h1 := fz_new (((w.alloc (box a b)).alloc (box c d)).alloc (box e f)) #[.int .i64 g, .int .i64 h] 23 i
    rw [s3, s2, s1] at h1
    exact ((bcell hb).2 _ i (by omega)).trans h1
theorem fz_set (W : World) (b c : Nat) (u v : Value) (i : Nat) (h : W.frozen? ⟨b, i, none⟩ = false) : ((W.setCell ⟨c, 0, none⟩ u).setCell ⟨c, 1, none⟩ v).frozen? ⟨b, i, none⟩ = false := by simpa using h
theorem format_wo {w : World} {l : List (Nat × Int × Int)} (p q : Int) (x : Wo w l) : Calls Tryd.prog 39 #[.agg #[.int .i64 p, .int .i64 q]] x.1 fun e w'' => e = .returned (.string (fmtS p q)) ∧ ∃ y : Wo w l, w'' = y.1 :=
  (Format_any p q x.1 x.2.tb).mono fun _ w' ⟨he, hb⟩ => ⟨he, ⟨w', x.2.below hb⟩, rfl⟩
theorem rformat_wo {w : World} {l : List (Nat × Int × Int)} (p q : Int) (x : Wo w l) : Calls Tryd.prog 40 #[.agg #[.int .i64 p, .int .i64 q]] x.1 fun e w'' => e = .returned (.string (fmtS p q)) ∧ ∃ y : Wo w l, w'' = y.1 :=
  (RFormat_any p q x.1).mono fun _ w' ⟨he, hb⟩ => ⟨he, ⟨w', x.2.below hb⟩, rfl⟩
end Go.Proofs.YtpehlihbpmcofaaDoor.Nu
