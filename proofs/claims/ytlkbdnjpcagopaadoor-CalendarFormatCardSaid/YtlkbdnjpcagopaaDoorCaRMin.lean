/-
  The contract of Minute of the calendar's reference.
-/
import Derived.Test.YtlkbdnjpcagopaaDoorCaRef
import Derived.Deep.RegionHeld3
namespace Go.Proofs.YtlkbdnjpcagopaaDoor.Ca
open Go.RowKit
set_option linter.unusedVariables false

/-- Worlds in which all that a world holds is as it was. -/
def Wb (W0 : World) := { W : World // Below W0.heap.size W0 W }
theorem Wb.cell {W0 : World} (x : Wb W0) {b o : Nat} {v : Value} (h : b < W0.heap.size) (hv : W0.cell? ⟨b, o, none⟩ = some v) : x.1.cell? ⟨b, o, none⟩ = some v := (x.2.cell (p := ⟨b, o, none⟩) h).trans hv
theorem wb_of {f : FuncId} {args : Array Value} {v : Value} {W0 : World} (h : ∀ w, Calls Tryd.prog f args w fun e w' => e = .returned v ∧ Below w.heap.size w w') (x : Wb W0) : Calls Tryd.prog f args x.1 fun e w'' => e = .returned v ∧ ∃ y : Wb W0, w'' = y.1 :=
  (h x.1).mono fun _ w'' ⟨he, hb⟩ => ⟨he, ⟨w'', x.2.trans (hb.mono x.2.size)⟩, rfl⟩
theorem wb_tb {f : FuncId} {args : Array Value} {v : Value} {W0 : World} (ht : Tb W0) (h : ∀ w, Tb w → Calls Tryd.prog f args w fun e w' => e = .returned v ∧ Below w.heap.size w w') (x : Wb W0) : Calls Tryd.prog f args x.1 fun e w'' => e = .returned v ∧ ∃ y : Wb W0, w'' = y.1 :=
  (h x.1 (ht.below x.2)).mono fun _ w'' ⟨he, hb⟩ => ⟨he, ⟨w'', x.2.trans (hb.mono x.2.size)⟩, rfl⟩
theorem region_cls {P : Program} {C : World → Prop} {a : Act} {l : List Oper} {id : Nat} {R : Exit → Act → World → Prop} {w : World} (hm : P.follows .mixedOrders = true) (hB : Region.lexB .any l.toArray = true) (hC : C w.drew)
    (h : wpQuiet P l.toArray C (fun a' => ∀ w', C w' → R .normal a' w') l a) : (Code.region id l.toArray true).wp P R a w :=
  wp_region_quiet (C := C) hm hB hC (by simpa using h)
/-- The world behind the boxing of a date. -/
def boxed (y m d : Int) (w : World) : World := w.alloc (.cells #[.int .i64 y, .int .i64 m, .int .i64 d] 23)
set_option maxRecDepth 100000 in
set_option maxHeartbeats 2000000 in
theorem RMin_1 {y m d c : Int} (w : World) (h1 : y < 2000) :
    Calls Tryd.prog 14 #[.agg #[.int .i64 y, .int .i64 m, .int .i64 d], .int .i64 c] w fun e w' => e = .returned (.tuple #[.int .i64 0, .int .i64 2]) ∧ Below w.heap.size w w' := by
  have b1 : decide (y < 2000) = true := by rw [decide_eq_true_iff]; omega
  go_enter Tryd.func14, Tryd.ntmps14
  go_wp2
  go_quiet (fail)
  go_wp2
  go_ret2
  exact ⟨rfl, below_drewN ((Below.refl _ _).alloc (Nat.le_refl _) _) _⟩
set_option maxRecDepth 100000 in
set_option maxHeartbeats 2000000 in
theorem RMin_2 {y m d c : Int} (w : World) (h1 : 2000 ≤ y) (h2 : 2099 < y) :
    Calls Tryd.prog 14 #[.agg #[.int .i64 y, .int .i64 m, .int .i64 d], .int .i64 c] w fun e w' => e = .returned (.tuple #[.int .i64 0, .int .i64 2]) ∧ Below w.heap.size w w' := by
  have b1 : decide (y < 2000) = false := by rw [decide_eq_false_iff_not]; omega
  have b2 : decide (2099 < y) = true := by rw [decide_eq_true_iff]; omega
  go_enter Tryd.func14, Tryd.ntmps14
  go_wp2
  go_quiet (fail)
  go_wp2
  go_ret2
  exact ⟨rfl, below_drewN ((Below.refl _ _).alloc (Nat.le_refl _) _) _⟩
set_option maxRecDepth 100000 in
set_option maxHeartbeats 2000000 in
theorem RMin_3 {y m d c : Int} (w : World) (h1 : 2000 ≤ y) (h2 : y ≤ 2099) (h3 : m < 1) :
    Calls Tryd.prog 14 #[.agg #[.int .i64 y, .int .i64 m, .int .i64 d], .int .i64 c] w fun e w' => e = .returned (.tuple #[.int .i64 0, .int .i64 2]) ∧ Below w.heap.size w w' := by
  have b1 : decide (y < 2000) = false := by rw [decide_eq_false_iff_not]; omega
  have b2 : decide (2099 < y) = false := by rw [decide_eq_false_iff_not]; omega
  have b3 : decide (m < 1) = true := by rw [decide_eq_true_iff]; omega
  go_enter Tryd.func14, Tryd.ntmps14
  go_wp2
  go_quiet (fail)
  go_wp2
  go_ret2
  exact ⟨rfl, below_drewN ((Below.refl _ _).alloc (Nat.le_refl _) _) _⟩
set_option maxRecDepth 100000 in
set_option maxHeartbeats 2000000 in
theorem RMin_4 {y m d c : Int} (w : World) (h1 : 2000 ≤ y) (h2 : y ≤ 2099) (h3 : 1 ≤ m) (h4 : 12 < m) :
    Calls Tryd.prog 14 #[.agg #[.int .i64 y, .int .i64 m, .int .i64 d], .int .i64 c] w fun e w' => e = .returned (.tuple #[.int .i64 0, .int .i64 2]) ∧ Below w.heap.size w w' := by
  have b1 : decide (y < 2000) = false := by rw [decide_eq_false_iff_not]; omega
  have b2 : decide (2099 < y) = false := by rw [decide_eq_false_iff_not]; omega
  have b3 : decide (m < 1) = false := by rw [decide_eq_false_iff_not]; omega
  have b4 : decide (12 < m) = true := by rw [decide_eq_true_iff]; omega
  go_enter Tryd.func14, Tryd.ntmps14
  go_wp2
  go_quiet (fail)
  go_wp2
  go_ret2
  exact ⟨rfl, below_drewN ((Below.refl _ _).alloc (Nat.le_refl _) _) _⟩
set_option maxRecDepth 100000 in
set_option maxHeartbeats 2000000 in
theorem RMin_5 {y m d c : Int} (w : World) (h1 : 2000 ≤ y) (h2 : y ≤ 2099) (h3 : 1 ≤ m) (h4 : m ≤ 12) (h5 : d < 1) :
    Calls Tryd.prog 14 #[.agg #[.int .i64 y, .int .i64 m, .int .i64 d], .int .i64 c] w fun e w' => e = .returned (.tuple #[.int .i64 0, .int .i64 2]) ∧ Below w.heap.size w w' := by
  have b1 : decide (y < 2000) = false := by rw [decide_eq_false_iff_not]; omega
  have b2 : decide (2099 < y) = false := by rw [decide_eq_false_iff_not]; omega
  have b3 : decide (m < 1) = false := by rw [decide_eq_false_iff_not]; omega
  have b4 : decide (12 < m) = false := by rw [decide_eq_false_iff_not]; omega
  have b5 : decide (d < 1) = true := by rw [decide_eq_true_iff]; omega
  go_enter Tryd.func14, Tryd.ntmps14
  go_wp2
  go_quiet (fail)
  go_wp2
  go_ret2
  exact ⟨rfl, below_drewN ((Below.refl _ _).alloc (Nat.le_refl _) _) _⟩
set_option maxRecDepth 100000 in
set_option maxHeartbeats 2000000 in
theorem RMin_6 {y m d c : Int} (w : World) (h1 : 2000 ≤ y) (h2 : y ≤ 2099) (h3 : 1 ≤ m) (h4 : m ≤ 12) (h5 : 1 ≤ d) (h6 : ml y m < d) :
    Calls Tryd.prog 14 #[.agg #[.int .i64 y, .int .i64 m, .int .i64 d], .int .i64 c] w fun e w' => e = .returned (.tuple #[.int .i64 0, .int .i64 2]) ∧ Below w.heap.size w w' := by
  have b1 : decide (y < 2000) = false := by rw [decide_eq_false_iff_not]; omega
  have b2 : decide (2099 < y) = false := by rw [decide_eq_false_iff_not]; omega
  have b3 : decide (m < 1) = false := by rw [decide_eq_false_iff_not]; omega
  have b4 : decide (12 < m) = false := by rw [decide_eq_false_iff_not]; omega
  have b5 : decide (d < 1) = false := by rw [decide_eq_false_iff_not]; omega
  have b6 : decide (ml y m < d) = true := by rw [decide_eq_true_iff]; omega
  have HC : Hid (∀ x : Wb (boxed y m d w), Calls Tryd.prog 33 #[.int .i64 y, .int .i64 m] x.1 fun e w'' => e = .returned (.int .i64 (ml y m)) ∧ ∃ z : Wb (boxed y m d w), w'' = z.1) := Lib.hid (fun x => wb_of (fun w => days_any y m w h1 h2 h3 h4) x)
  have hml := ml_ge y m
  have q0 : ∀ x : Wb (boxed y m d w), x.1.cell? ⟨w.heap.size, 0, none⟩ = some (.int .i64 y) := fun x => x.cell (by simp [boxed]) (by simp [boxed])
  have q1 : ∀ x : Wb (boxed y m d w), x.1.cell? ⟨w.heap.size, 1, none⟩ = some (.int .i64 m) := fun x => x.cell (by simp [boxed]) (by simp [boxed])
  have q2 : ∀ x : Wb (boxed y m d w), x.1.cell? ⟨w.heap.size, 2, none⟩ = some (.int .i64 d) := fun x => x.cell (by simp [boxed]) (by simp [boxed])
  have hx : Below (boxed y m d w).heap.size (boxed y m d w) (boxed y m d w).drew := below_drewN (Below.refl _ _) 1
  have ne : Nonempty (Wb (boxed y m d w)) := ⟨⟨_, hx⟩⟩
  go_enter Tryd.func14, Tryd.ntmps14
  go_wp2
  refine region_cls (C := fun W => ∃ x : Wb (boxed y m d w), W = x.1) (by kernel_rfl) (by kernel_rfl) ⟨⟨_, hx⟩, rfl⟩ ?_
  repeat (go_big_quiet_step ((go_at_call 33; with_reducible exact HC.out _)))
  refine wpQuiet_nil ?_
  intro w' hw'
  obtain ⟨x, rfl⟩ := hw'
  go_wp2
  go_ret2
  exact ⟨rfl, below1 x.2⟩
set_option maxRecDepth 100000 in
set_option maxHeartbeats 2000000 in
theorem RMin_7 {y m d c : Int} (w : World) (h1 : 2000 ≤ y) (h2 : y ≤ 2099) (h3 : 1 ≤ m) (h4 : m ≤ 12) (h5 : 1 ≤ d) (h6 : d ≤ ml y m) (h7 : c < 0) :
    Calls Tryd.prog 14 #[.agg #[.int .i64 y, .int .i64 m, .int .i64 d], .int .i64 c] w fun e w' => e = .returned (.tuple #[.int .i64 0, .int .i64 2]) ∧ Below w.heap.size w w' := by
  have b1 : decide (y < 2000) = false := by rw [decide_eq_false_iff_not]; omega
  have b2 : decide (2099 < y) = false := by rw [decide_eq_false_iff_not]; omega
  have b3 : decide (m < 1) = false := by rw [decide_eq_false_iff_not]; omega
  have b4 : decide (12 < m) = false := by rw [decide_eq_false_iff_not]; omega
  have b5 : decide (d < 1) = false := by rw [decide_eq_false_iff_not]; omega
  have b6 : decide (ml y m < d) = false := by rw [decide_eq_false_iff_not]; omega
  have b7 : decide (c < 0) = true := by rw [decide_eq_true_iff]; omega
  have HC : Hid (∀ x : Wb (boxed y m d w), Calls Tryd.prog 33 #[.int .i64 y, .int .i64 m] x.1 fun e w'' => e = .returned (.int .i64 (ml y m)) ∧ ∃ z : Wb (boxed y m d w), w'' = z.1) := Lib.hid (fun x => wb_of (fun w => days_any y m w h1 h2 h3 h4) x)
  have hml := ml_ge y m
  have q0 : ∀ x : Wb (boxed y m d w), x.1.cell? ⟨w.heap.size, 0, none⟩ = some (.int .i64 y) := fun x => x.cell (by simp [boxed]) (by simp [boxed])
  have q1 : ∀ x : Wb (boxed y m d w), x.1.cell? ⟨w.heap.size, 1, none⟩ = some (.int .i64 m) := fun x => x.cell (by simp [boxed]) (by simp [boxed])
  have q2 : ∀ x : Wb (boxed y m d w), x.1.cell? ⟨w.heap.size, 2, none⟩ = some (.int .i64 d) := fun x => x.cell (by simp [boxed]) (by simp [boxed])
  have hx : Below (boxed y m d w).heap.size (boxed y m d w) (boxed y m d w).drew := below_drewN (Below.refl _ _) 1
  have ne : Nonempty (Wb (boxed y m d w)) := ⟨⟨_, hx⟩⟩
  go_enter Tryd.func14, Tryd.ntmps14
  go_wp2
  refine region_cls (C := fun W => ∃ x : Wb (boxed y m d w), W = x.1) (by kernel_rfl) (by kernel_rfl) ⟨⟨_, hx⟩, rfl⟩ ?_
  repeat (go_big_quiet_step ((go_at_call 33; with_reducible exact HC.out _)))
  refine wpQuiet_nil ?_
  intro w' hw'
  obtain ⟨x, rfl⟩ := hw'
  go_wp2
  go_ret2
  exact ⟨rfl, below1 x.2⟩
set_option maxRecDepth 100000 in
set_option maxHeartbeats 2000000 in
theorem RMin_8 {y m d c : Int} (w : World) (h1 : 2000 ≤ y) (h2 : y ≤ 2099) (h3 : 1 ≤ m) (h4 : m ≤ 12) (h5 : 1 ≤ d) (h6 : d ≤ ml y m) (h7 : 0 ≤ c) (h8 : 1439 < c) :
    Calls Tryd.prog 14 #[.agg #[.int .i64 y, .int .i64 m, .int .i64 d], .int .i64 c] w fun e w' => e = .returned (.tuple #[.int .i64 0, .int .i64 2]) ∧ Below w.heap.size w w' := by
  have b1 : decide (y < 2000) = false := by rw [decide_eq_false_iff_not]; omega
  have b2 : decide (2099 < y) = false := by rw [decide_eq_false_iff_not]; omega
  have b3 : decide (m < 1) = false := by rw [decide_eq_false_iff_not]; omega
  have b4 : decide (12 < m) = false := by rw [decide_eq_false_iff_not]; omega
  have b5 : decide (d < 1) = false := by rw [decide_eq_false_iff_not]; omega
  have b6 : decide (ml y m < d) = false := by rw [decide_eq_false_iff_not]; omega
  have b7 : decide (c < 0) = false := by rw [decide_eq_false_iff_not]; omega
  have b8 : decide (1439 < c) = true := by rw [decide_eq_true_iff]; omega
  have HC : Hid (∀ x : Wb (boxed y m d w), Calls Tryd.prog 33 #[.int .i64 y, .int .i64 m] x.1 fun e w'' => e = .returned (.int .i64 (ml y m)) ∧ ∃ z : Wb (boxed y m d w), w'' = z.1) := Lib.hid (fun x => wb_of (fun w => days_any y m w h1 h2 h3 h4) x)
  have hml := ml_ge y m
  have q0 : ∀ x : Wb (boxed y m d w), x.1.cell? ⟨w.heap.size, 0, none⟩ = some (.int .i64 y) := fun x => x.cell (by simp [boxed]) (by simp [boxed])
  have q1 : ∀ x : Wb (boxed y m d w), x.1.cell? ⟨w.heap.size, 1, none⟩ = some (.int .i64 m) := fun x => x.cell (by simp [boxed]) (by simp [boxed])
  have q2 : ∀ x : Wb (boxed y m d w), x.1.cell? ⟨w.heap.size, 2, none⟩ = some (.int .i64 d) := fun x => x.cell (by simp [boxed]) (by simp [boxed])
  have hx : Below (boxed y m d w).heap.size (boxed y m d w) (boxed y m d w).drew := below_drewN (Below.refl _ _) 1
  have ne : Nonempty (Wb (boxed y m d w)) := ⟨⟨_, hx⟩⟩
  go_enter Tryd.func14, Tryd.ntmps14
  go_wp2
  refine region_cls (C := fun W => ∃ x : Wb (boxed y m d w), W = x.1) (by kernel_rfl) (by kernel_rfl) ⟨⟨_, hx⟩, rfl⟩ ?_
  repeat (go_big_quiet_step ((go_at_call 33; with_reducible exact HC.out _)))
  refine wpQuiet_nil ?_
  intro w' hw'
  obtain ⟨x, rfl⟩ := hw'
  go_wp2
  go_ret2
  exact ⟨rfl, below1 x.2⟩
set_option maxRecDepth 100000 in
set_option maxHeartbeats 2000000 in
theorem RMin_9 {y m d c : Int} (w : World) (h1 : 2000 ≤ y) (h2 : y ≤ 2099) (h3 : 1 ≤ m) (h4 : m ≤ 12) (h5 : 1 ≤ d) (h6 : d ≤ ml y m) (h7 : 0 ≤ c) (h8 : c ≤ 1439) :
    Calls Tryd.prog 14 #[.agg #[.int .i64 y, .int .i64 m, .int .i64 d], .int .i64 c] w fun e w' => e = .returned (.tuple #[.int .i64 (inst y m d c), .int .i64 0]) ∧ Below w.heap.size w w' := by
  have b1 : decide (y < 2000) = false := by rw [decide_eq_false_iff_not]; omega
  have b2 : decide (2099 < y) = false := by rw [decide_eq_false_iff_not]; omega
  have b3 : decide (m < 1) = false := by rw [decide_eq_false_iff_not]; omega
  have b4 : decide (12 < m) = false := by rw [decide_eq_false_iff_not]; omega
  have b5 : decide (d < 1) = false := by rw [decide_eq_false_iff_not]; omega
  have b6 : decide (ml y m < d) = false := by rw [decide_eq_false_iff_not]; omega
  have b7 : decide (c < 0) = false := by rw [decide_eq_false_iff_not]; omega
  have b8 : decide (1439 < c) = false := by rw [decide_eq_false_iff_not]; omega
  have hk : Ok y m d := ⟨h1, h2, h3, h4, h5, h6⟩
  have HR := Lib.hid (fun w => before_any hk w)
  have hD : inst y m d c = (d - 1 + cum y m + dby y) * 1440 + c := by unfold inst dn; rw [show dby y + cum y m + d - 1 = d - 1 + cum y m + dby y by omega]
  have HD := Lib.hid hD
  have hr := hk.range
  unfold dn at hr
  have b30 := cum_bd y h3 (by omega)
  clear hk hD
  have HC : Hid (∀ x : Wb (boxed y m d w), Calls Tryd.prog 33 #[.int .i64 y, .int .i64 m] x.1 fun e w'' => e = .returned (.int .i64 (ml y m)) ∧ ∃ z : Wb (boxed y m d w), w'' = z.1) := Lib.hid (fun x => wb_of (fun w => days_any y m w h1 h2 h3 h4) x)
  have hml := ml_ge y m
  have q0 : ∀ x : Wb (boxed y m d w), x.1.cell? ⟨w.heap.size, 0, none⟩ = some (.int .i64 y) := fun x => x.cell (by simp [boxed]) (by simp [boxed])
  have q1 : ∀ x : Wb (boxed y m d w), x.1.cell? ⟨w.heap.size, 1, none⟩ = some (.int .i64 m) := fun x => x.cell (by simp [boxed]) (by simp [boxed])
  have q2 : ∀ x : Wb (boxed y m d w), x.1.cell? ⟨w.heap.size, 2, none⟩ = some (.int .i64 d) := fun x => x.cell (by simp [boxed]) (by simp [boxed])
  have hx : Below (boxed y m d w).heap.size (boxed y m d w) (boxed y m d w).drew := below_drewN (Below.refl _ _) 1
  have ne : Nonempty (Wb (boxed y m d w)) := ⟨⟨_, hx⟩⟩
  go_enter Tryd.func14, Tryd.ntmps14
  go_wp2
  refine region_cls (C := fun W => ∃ x : Wb (boxed y m d w), W = x.1) (by kernel_rfl) (by kernel_rfl) ⟨⟨_, hx⟩, rfl⟩ ?_
  repeat (go_big_quiet_step ((go_at_call 33; with_reducible exact HC.out _)))
  refine wpQuiet_nil ?_
  intro w' hw'
  obtain ⟨x, rfl⟩ := hw'
  have e0 := q0 x
  have e1 := q1 x
  have e2 := q2 x
  have HX := Lib.hid (below1 (w := w) x.2)
  have hz : w.heap.size < x.1.heap.size := by have := x.2.size; simp [boxed] at this; omega
  clear q0 q1 q2 HC hx ne
  go_wp2_with fail
  refine (HR.out _).mono ?_
  rintro e w1 ⟨rfl, hb⟩
  obtain ⟨hc, hf⟩ := bcell hb
  have e3 : w1.cell? ⟨w.heap.size, 0, none⟩ = some (.int .i64 y) := (hc _ _ hz).trans e0
  have HB := Lib.hid (HX.out.trans (hb.mono HX.out.size))
  have hz1 : w.heap.size < w1.heap.size := by have := hb.size; omega
  clear hb hc hf e0 e1 e2
  go_wp2
  go_loopw [6, 7] (fun a b wr => ∃ k : Int, 2000 ≤ k ∧ k ≤ y ∧ a = .int .i64 (d - 1 + cum y m + dby k) ∧ b = .int .i64 k ∧ Hid (Below w1.heap.size w1 wr)) (fun _ b _ => (y - intOf b).toNat)
  case atStart => exact ⟨2000, by omega, by omega, by rw [dby_zero]; go_num, rfl, Lib.hid (Below.refl _ _)⟩
  case round =>
    obtain ⟨k, k1, k2, rfl, rfl, HW⟩ := hrel
    have e4 : wr.cell? ⟨w.heap.size, 0, none⟩ = some (.int .i64 y) := (HW.out.cell (p := ⟨w.heap.size, 0, none⟩) hz1).trans e3
    have g1 := dby_mono k1
    have g2 := dby_mono k2
    rw [dby_zero] at g1
    have g4 := yl_ge k
    have HS := Lib.hid (dby_succ k)
    by_cases hlt : k < y
    · go_wp2_with fail
      refine (yearDays_any k _ (by omega) (by omega)).mono ?_
      rintro e w2 ⟨rfl, hb2⟩
      have HW2 := Lib.hid (HW.out.trans (hb2.mono HW.out.size))
      clear hb2
      go_wp2
      go_roundw
      case rel => exact ⟨k + 1, by omega, by omega, by rw [HS.out]; go_num, rfl, HW2⟩
      case measure => simp [intOf]; omega
    · obtain rfl : k = y := by omega
      go_wp2
      go_ret2
      exact ⟨by rw [HD.out]; rfl, HB.out.trans (HW.out.mono HB.out.size)⟩
theorem RMinute_any (y m d c : Int) (w : World) :
    Calls Tryd.prog 14 #[.agg #[.int .i64 y, .int .i64 m, .int .i64 d], .int .i64 c] w fun e w' => e = .returned (.tuple #[.int .i64 (minu y m d c).n, .int .i64 (minu y m d c).e]) ∧ Below w.heap.size w w' := by
  by_cases h1 : y < 2000
  · rw [minu_no (fun h => by have hk := okB_iff.1 h.1; obtain ⟨a, b, c, d, e, f⟩ := hk; omega)]; exact RMin_1 w h1
  by_cases h2 : 2099 < y
  · rw [minu_no (fun h => by have hk := okB_iff.1 h.1; obtain ⟨a, b, c, d, e, f⟩ := hk; omega)]; exact RMin_2 w (by omega) h2
  by_cases h3 : m < 1
  · rw [minu_no (fun h => by have hk := okB_iff.1 h.1; obtain ⟨a, b, c, d, e, f⟩ := hk; omega)]; exact RMin_3 w (by omega) (by omega) h3
  by_cases h4 : 12 < m
  · rw [minu_no (fun h => by have hk := okB_iff.1 h.1; obtain ⟨a, b, c, d, e, f⟩ := hk; omega)]; exact RMin_4 w (by omega) (by omega) (by omega) h4
  by_cases h5 : d < 1
  · rw [minu_no (fun h => by have hk := okB_iff.1 h.1; obtain ⟨a, b, c, d, e, f⟩ := hk; omega)]; exact RMin_5 w (by omega) (by omega) (by omega) (by omega) h5
  by_cases h6 : ml y m < d
  · rw [minu_no (fun h => by have hk := okB_iff.1 h.1; obtain ⟨a, b, c, d, e, f⟩ := hk; omega)]; exact RMin_6 w (by omega) (by omega) (by omega) (by omega) (by omega) h6
  by_cases h7 : c < 0
  · rw [minu_no (fun h => by have hk := okB_iff.1 h.1; obtain ⟨a, b, c, d, e, f⟩ := hk; omega)]; exact RMin_7 w (by omega) (by omega) (by omega) (by omega) (by omega) (by omega) h7
  by_cases h8 : 1439 < c
  · rw [minu_no (fun h => by have hk := okB_iff.1 h.1; obtain ⟨a, b, c, d, e, f⟩ := hk; omega)]; exact RMin_8 w (by omega) (by omega) (by omega) (by omega) (by omega) (by omega) (by omega) h8
  rw [minu_ok ⟨by omega, by omega, by omega, by omega, by omega, by omega⟩ (by omega) (by omega)]
  exact RMin_9 w (by omega) (by omega) (by omega) (by omega) (by omega) (by omega) (by omega) (by omega)
end Go.Proofs.YtlkbdnjpcagopaaDoor.Ca
