/-
  The law on the formulas that a list of integers makes (P8.1, P8.2).
-/
import Derived.Test.YtfocokjihbenmaaGreatDoorFoRe
import Derived.Test.YtfocokjihbenmaaGreatDoorFoTp
import Derived.Test.YtfocokjihbenmaaGreatDoorFoTk
namespace Go.Proofs.YtfocokjihbenmaaGreatDoor.Fo
open Go.RowKit Go.Proofs.YtfocokjihbenmaaGreatDoor.Nu
set_option linter.unusedVariables false
set_option linter.unusedSimpArgs false

theorem Built_4 (w0 : World) (A : Option Addr) (n c b : Nat) (hs : Sl w0 A n c) (W : World) (h : Tp w0 A n c b W) :
    Calls Tryz.prog 9 #[.pointer (some ⟨b, 0, none⟩), .int .i64 4] W fun e W' => Bt w0 A n c b 4 e W' := built_any w0 A n c b hs 4 (by decide) W h
theorem EvU (s : ByteArray) (L : List UInt8) (h : s.data.toList = L) (n d x : Int) (hv : ev L = ⟨n, d, x⟩) (w : World) (ht : Tb w) : Calls Tryz.prog 7 #[.string s] w fun e w' => e = .returned (.tuple #[.agg #[.int .i64 n, .int .i64 d], .int .i64 x]) ∧ Below w.heap.size w w' := by
  have h2 := Eval_any s w ht
  rw [h, hv] at h2
  exact h2
theorem REvU (s : ByteArray) (L : List UInt8) (h : s.data.toList = L) (n d x : Int) (hv : ev L = ⟨n, d, x⟩) (w : World) : Calls Tryz.prog 8 #[.string s] w fun e w' => e = .returned (.tuple #[.agg #[.int .i64 n, .int .i64 d], .int .i64 x]) ∧ Below w.heap.size w w' := by
  have h2 := REval_any s w
  rw [h, hv] at h2
  exact h2
set_option maxRecDepth 100000 in
set_option maxHeartbeats 4000000 in
theorem FormulaBuilt_any (A : Option Addr) (n c : Nat) (w : World) (hs : Sl w A n c) (ht : Tb w) : Calls Tryz.prog 4 #[.slice A n c] w fun e w' => e = .returned (.bool true) ∧ Below w.heap.size w w' := by
  have HS := Lib.hid hs
  have HT := Lib.hid ht
  clear hs ht
  go_enter Tryz.func4, Tryz.ntmps4
  go_wp2_with fail
  (with_reducible refine (New_any A n c _).mono ?_)
  rintro e w1 ⟨rfl, ht1⟩
  have H1 := Lib.hid ht1; clear ht1
  go_wp2_with fail
  (with_reducible refine (Built_4 w A n c w.heap.size HS.out _ H1.out).mono ?_)
  rintro e w2 ⟨ps, u, hu, hf, rfl, ht2⟩
  obtain ⟨x, y, z, hV⟩ : ∃ x y z, ev u = ⟨x, y, z⟩ := ⟨_, _, _, rfl⟩
  have HV := Lib.hid hV
  have HB2 := Lib.hid ht2.bl
  clear hV hf hu ht2 H1 HS
  go_wp2_with fail
  (with_reducible refine (EvU _ u (by simp) x y z HV.out _ (HT.out.below HB2.out)).mono ?_)
  rintro e w3 ⟨rfl, hb3⟩
  have HB3 := Lib.hid (HB2.out.trans (hb3.mono HB2.out.size)); clear hb3
  have HA3 := Lib.hid (HB3.out.alloc HB3.out.size (nb1 x y))
  go_wp2_with fail
  refine (REvU _ u (by simp) x y z HV.out _).mono ?_
  rintro e w4 ⟨rfl, hb4⟩
  have p4 : w4.heap[w3.heap.size]? = some (nb1 x y) := (hb4.block _ (by simp)).trans (nhh _ _)
  have HB4 := Lib.hid (HA3.out.trans (hb4.mono HA3.out.size))
  have z4 := lth p4
  obtain ⟨p40, p41⟩ := cc2 p4
  have he : eqN x y x y = true := by simp [eqN]
  have HA4 := Lib.hid (HB4.out.alloc HB4.out.size (nb1 x y))
  have HK := Lib.hid (known_any (w4.alloc (nb1 x y)) (HT.out.below HA4.out))
  clear hb4 p4
  unfold nb1 at HK
  have eqr := eq_num
  go_wp2_with fail
  refine HK.out.mono ?_
  rintro e w5 ⟨rfl, hb5⟩
  go_wp2
  go_ret
  exact ⟨rfl, HA4.out.trans (hb5.mono HA4.out.size)⟩
end Go.Proofs.YtfocokjihbenmaaGreatDoor.Fo
