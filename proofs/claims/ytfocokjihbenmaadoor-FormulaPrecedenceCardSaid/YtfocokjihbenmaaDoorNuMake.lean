/-
  The contracts of Make and Floor of package number and of its reference.
-/
import Derived.Test.YtfocokjihbenmaaDoorNuCmp
namespace Go.Proofs.YtfocokjihbenmaaDoor.Nu
open Go.RowKit

theorem below1 {w w1 : World} {A : Obj} (hb : Below (w.alloc A).heap.size (w.alloc A) w1) : Below w.heap.size w w1 :=
  ((Below.refl _ w).alloc (Nat.le_refl _) A).trans (hb.mono (by simp))
theorem size1 {w w1 : World} {A : Obj} (hb : Below (w.alloc A).heap.size (w.alloc A) w1) : w.heap.size < w1.heap.size := by
  have := hb.size; simp at this; omega
/-- The largest integer that is at most n / d. -/
def flr (n d : Int) : Int := if okB n d then Int.fdiv n d else 0
def flE (n d : Int) : Int := if okB n d then 0 else 7
set_option maxRecDepth 100000 in
set_option maxHeartbeats 1000000 in
theorem Floor_any (n d : Int) (w : World) :
    Calls Tryd.prog 58 #[.agg #[.int .i64 n, .int .i64 d]] w fun e w' => e = .returned (.tuple #[.int .i64 (flr n d), .int .i64 (flE n d)]) ∧ Below w.heap.size w w' := by
  cases h1 : okB n d
  · have HA : Hid (flr n d = 0 ∧ flE n d = 7) := Lib.hid (by unfold flr flE; rw [h1]; exact ⟨rfl, rfl⟩)
    have V1 := Lib.hid h1; clear h1
    go_enter Tryd.func58, Tryd.ntmps58
    go_wp2_with fail
    refine (Valid_no V1.out _).mono ?_
    rintro e w1 ⟨rfl, hb⟩
    obtain ⟨hc, hf⟩ := bcell hb
    go_wp2
    go_ret2
    exact ⟨by rw [HA.out.1, HA.out.2]; rfl, below1 hb⟩
  · have HA : Hid (flr n d = Int.fdiv n d ∧ flE n d = 0) := Lib.hid (by unfold flr flE; rw [h1]; exact ⟨rfl, rfl⟩)
    have hO := okB_iff.1 h1
    have q1 := hO.n1; have q2 := hO.n2; have q3 := hO.d1
    have V1 := Lib.hid h1; clear h1 hO
    go_enter Tryd.func58, Tryd.ntmps58
    go_wp2_with fail
    refine (Valid_yes V1.out _).mono ?_
    rintro e w1 ⟨rfl, hb⟩
    obtain ⟨hc, hf⟩ := bcell hb
    have z0 := size1 hb
    have HB := Lib.hid (below1 hb)
    go_wp2_with fail
    refine (floor_any n d _ (by omega) (by omega)).mono ?_
    rintro e w2 ⟨rfl, rfl⟩
    go_wp2
    go_ret2
    exact ⟨by rw [HA.out.1, HA.out.2]; rfl, HB.out⟩
theorem flr_ref (n d : Int) (hd : d ≠ 0) : (n - Int.fmod n d).tdiv d = Int.fdiv n d := by
  have h := Int.fmod_add_mul_fdiv n d
  have e : n - Int.fmod n d = d * Int.fdiv n d := by
    generalize d * n.fdiv d = z at *
    generalize n.fmod d = y at *
    omega
  rw [e, Int.mul_tdiv_cancel_left _ hd]
end Go.Proofs.YtfocokjihbenmaaDoor.Nu
