/-
  The contracts of Compare, Make and Floor of package number and of its reference.
-/
import Derived.Test.YtfocokjihbenmaaDoorNuSub
import Derived.Test.YtfocokjihbenmaaDoorShelf
import Derived.Test.YtfocokjihbenmaaDoorNuRAdd
namespace Go.Proofs.YtfocokjihbenmaaDoor.Nu
open Go.RowKit

theorem cmp_lib {a p b q : Int} (h1 : okB a p = true) (h2 : okB b q = true) : Lib.compareInt (a * q) (b * p) = cmp a p b q := by
  unfold Lib.compareInt cmp; rw [h1, h2]; simp

set_option maxRecDepth 100000 in
set_option maxHeartbeats 1000000 in
theorem Compare_any (a p b q : Int) (w : World) :
    Calls Tryd.prog 66 #[.agg #[.int .i64 a, .int .i64 p], .agg #[.int .i64 b, .int .i64 q]] w fun e w' => e = .returned (.int .i64 (cmp a p b q)) ∧ Below w.heap.size w w' := by
  cases h1 : okB a p
  · have HA : Hid (cmp a p b q = 0) := Lib.hid (by unfold cmp; rw [h1]; rfl)
    have V1 := Lib.hid h1; clear h1
    go_enter Tryd.func66, Tryd.ntmps66
    go_wp2_with fail
    refine (Valid_no V1.out _).mono ?_
    rintro e w1 ⟨rfl, hb⟩
    go_wp2
    go_ret
    exact ⟨ret_int (by rw [HA.out]), below2 hb⟩
  · cases h2 : okB b q
    · have HA : Hid (cmp a p b q = 0) := Lib.hid (by unfold cmp; rw [h1, h2]; rfl)
      have V1 := Lib.hid h1; clear h1
      have V2 := Lib.hid h2; clear h2
      go_enter Tryd.func66, Tryd.ntmps66
      go_wp2_with fail
      refine (Valid_yes V1.out _).mono ?_
      rintro e w1 ⟨rfl, hb⟩
      obtain ⟨hc, hf⟩ := bcell hb
      obtain ⟨z0, z1⟩ := size2 hb
      have HB := Lib.hid (below2 hb)
      go_wp2_with fail
      refine (Valid_no V2.out _).mono ?_
      rintro e w2 ⟨rfl, hb2⟩
      go_wp2
      go_ret
      exact ⟨ret_int (by rw [HA.out]), HB.out.trans (hb2.mono HB.out.size)⟩
    · have hP := pr_of h1 h2
      have HL := Lib.hid (cmp_lib h1 h2)
      have q1 := hP.aq; have q2 := hP.bp
      have e0 : IntKind.i64.wrap (a * q) = a * q := IntWalk.i64_in _ (by omega)
      have e1 : IntKind.i64.wrap (b * p) = b * p := IntWalk.i64_in _ (by omega)
      have V1 := Lib.hid h1; clear h1
      have V2 := Lib.hid h2; clear h2 hP
      go_enter Tryd.func66, Tryd.ntmps66
      go_wp2_with fail
      refine (Valid_yes V1.out _).mono ?_
      rintro e w1 ⟨rfl, hb⟩
      obtain ⟨hc, hf⟩ := bcell hb
      obtain ⟨z0, z1⟩ := size2 hb
      have HB := Lib.hid (below2 hb)
      go_wp2_with fail
      refine (Valid_yes V2.out _).mono ?_
      rintro e w2 ⟨rfl, hb2⟩
      obtain ⟨hc2, hf2⟩ := bcell hb2
      obtain ⟨y0, y1⟩ := size2b z1 hb2
      have HB2 := Lib.hid (HB.out.trans (hb2.mono HB.out.size))
      go_wp2_with fail
      refine (Tryd.cmp_Compare_int _ _ _).mono ?_
      rintro e w3 ⟨rfl, hw3⟩
      go_wp2
      go_ret
      exact ⟨ret_int HL.out, by first | exact HB2.out | (rw [hw3]; exact HB2.out)⟩

end Go.Proofs.YtfocokjihbenmaaDoor.Nu
