/-
  Numbers in boxes of their own, kept by what follows.
-/
import Derived.Test.YtpehlihbpmcofaaDoorNuOf
import Derived.Deep.RegionHeld
import Derived.BigQuiet
namespace Go.Proofs.YtpehlihbpmcofaaDoor.Nu
open Go.RowKit

/-- Block b holds the number n / d. -/
structure Nm (W : World) (b : Nat) (n d : Int) : Prop where
  c0 : W.cell? ⟨b, 0, none⟩ = some (.int .i64 n)
  c1 : W.cell? ⟨b, 1, none⟩ = some (.int .i64 d)
theorem Nm.lt {W : World} {b : Nat} {n d : Int} (h : Nm W b n d) : b < W.heap.size := lt_cell h.c0
theorem Nm.past0 {W W' : World} {b : Nat} {n d : Int} (h : Nm W b n d) (hb : Below W.heap.size W W') : Nm W' b n d :=
  ⟨(hb.cell (p := ⟨b, 0, none⟩) h.lt).trans h.c0, (hb.cell (p := ⟨b, 1, none⟩) h.lt).trans h.c1⟩
def box (n d : Int) : Obj := .cells #[.int .i64 n, .int .i64 d] 23
theorem Nm.new (W : World) (n d : Int) : Nm (W.alloc (box n d)) W.heap.size n d := ⟨cell_new W _ _ 0 _ rfl, cell_new W _ _ 1 _ rfl⟩
theorem Nm.old {W : World} {b : Nat} {n d : Int} (h : Nm W b n d) (o : Obj) : Nm (W.alloc o) b n d := h.past0 ((Below.refl _ _).alloc (Nat.le_refl _) o)
theorem Nm.past1 {W W' : World} {b : Nat} {n d p q : Int} (h : Nm W b n d) (hb : Below (W.alloc (box p q)).heap.size (W.alloc (box p q)) W') : Nm W' b n d := (h.old _).past0 hb
theorem Nm.past2 {W W' : World} {b : Nat} {n d p q r s : Int} (h : Nm W b n d) (hb : Below ((W.alloc (box p q)).alloc (box r s)).heap.size ((W.alloc (box p q)).alloc (box r s)) W') : Nm W' b n d := ((h.old _).old _).past0 hb
theorem new1_0 {W W' : World} {p q : Int} (hb : Below (W.alloc (box p q)).heap.size (W.alloc (box p q)) W') : Nm W' W.heap.size p q := (Nm.new W p q).past0 hb
theorem size_box (W : World) (p q : Int) : (W.alloc (box p q)).heap.size = W.heap.size + 1 := by simp
theorem new2_0 {W W' : World} {p q r s : Int} (hb : Below ((W.alloc (box p q)).alloc (box r s)).heap.size ((W.alloc (box p q)).alloc (box r s)) W') : Nm W' W.heap.size p q := ((Nm.new W p q).old _).past0 hb
theorem new2_1 {W W' : World} {p q r s : Int} (hb : Below ((W.alloc (box p q)).alloc (box r s)).heap.size ((W.alloc (box p q)).alloc (box r s)) W') : Nm W' (W.heap.size + 1) r s := by
  have := (Nm.new (W.alloc (box p q)) r s).past0 hb
  rwa [size_box] at this
theorem new3_0 {W W' : World} {p q r s t u : Int} (hb : Below (((W.alloc (box p q)).alloc (box r s)).alloc (box t u)).heap.size (((W.alloc (box p q)).alloc (box r s)).alloc (box t u)) W') : Nm W' W.heap.size p q := (((Nm.new W p q).old _).old _).past0 hb
theorem new3_1 {W W' : World} {p q r s t u : Int} (hb : Below (((W.alloc (box p q)).alloc (box r s)).alloc (box t u)).heap.size (((W.alloc (box p q)).alloc (box r s)).alloc (box t u)) W') : Nm W' (W.heap.size + 1) r s := by
  have := ((Nm.new (W.alloc (box p q)) r s).old (box t u)).past0 hb
  rwa [size_box] at this
theorem new3_2 {W W' : World} {p q r s t u : Int} (hb : Below (((W.alloc (box p q)).alloc (box r s)).alloc (box t u)).heap.size (((W.alloc (box p q)).alloc (box r s)).alloc (box t u)) W') : Nm W' (W.heap.size + 1 + 1) t u := by
  have := (Nm.new ((W.alloc (box p q)).alloc (box r s)) t u).past0 hb
  rwa [size_box, size_box] at this
theorem Nm.past3 {W W' : World} {b : Nat} {n d p q r s t u : Int} (h : Nm W b n d) (hb : Below (((W.alloc (box p q)).alloc (box r s)).alloc (box t u)).heap.size (((W.alloc (box p q)).alloc (box r s)).alloc (box t u)) W') : Nm W' b n d := (((h.old _).old _).old _).past0 hb
theorem bl0 {w W W' : World} (h : Below w.heap.size w W) (hb : Below W.heap.size W W') : Below w.heap.size w W' := h.trans (hb.mono h.size)
theorem bl1 {w W W' : World} {a : Obj} (h : Below w.heap.size w W) (hb : Below (W.alloc a).heap.size (W.alloc a) W') : Below w.heap.size w W' := bl0 (h.alloc h.size a) hb
theorem bl2 {w W W' : World} {a b : Obj} (h : Below w.heap.size w W) (hb : Below ((W.alloc a).alloc b).heap.size ((W.alloc a).alloc b) W') : Below w.heap.size w W' := bl1 (h.alloc h.size a) hb
theorem bl3 {w W W' : World} {a b c : Obj} (h : Below w.heap.size w W) (hb : Below (((W.alloc a).alloc b).alloc c).heap.size (((W.alloc a).alloc b).alloc c) W') : Below w.heap.size w W' := bl2 (h.alloc h.size a) hb
theorem bl_here {w W : World} (h : Below w.heap.size w W) : Below w.heap.size w W := h
theorem bl_a1 {w W : World} (h : Below w.heap.size w W) (a : Obj) : Below w.heap.size w (W.alloc a) := h.alloc h.size a
theorem new4 {W W' : World} {a b c d e f g h : Int} (hb : Below ((((W.alloc (box a b)).alloc (box c d)).alloc (box e f)).alloc (box g h)).heap.size ((((W.alloc (box a b)).alloc (box c d)).alloc (box e f)).alloc (box g h)) W') :
    Nm W' W.heap.size a b ∧ Nm W' (W.heap.size + 1) c d ∧ Nm W' (W.heap.size + 1 + 1) e f ∧ Nm W' (W.heap.size + 1 + 1 + 1) g h := by
  have q1 := ((((Nm.new W a b).old (box c d)).old (box e f)).old (box g h)).past0 hb
  have q2 := (((Nm.new (W.alloc (box a b)) c d).old (box e f)).old (box g h)).past0 hb
  have q3 := ((Nm.new ((W.alloc (box a b)).alloc (box c d)) e f).old (box g h)).past0 hb
  have q4 := (Nm.new (((W.alloc (box a b)).alloc (box c d)).alloc (box e f)) g h).past0 hb
  simp only [size_box] at q2 q3 q4
  exact ⟨q1, q2, q3, q4⟩
theorem bl4 {w W W' : World} {a b c d : Obj} (h : Below w.heap.size w W) (hb : Below ((((W.alloc a).alloc b).alloc c).alloc d).heap.size ((((W.alloc a).alloc b).alloc c).alloc d) W') : Below w.heap.size w W' := bl3 (h.alloc h.size a) hb
theorem Nm.far {W : World} {b c : Nat} {n d : Int} (h : Nm W b n d) (hc : b < c) (u v : Value) : Nm ((W.setCell ⟨c, 0, none⟩ u).setCell ⟨c, 1, none⟩ v) b n d :=
  have hB := ((Below.refl c W).setCell (p := ⟨c, 0, none⟩) (Nat.le_refl _) u).setCell (p := ⟨c, 1, none⟩) (Nat.le_refl _) v
  ⟨(hB.cell (p := ⟨b, 0, none⟩) hc).trans h.c0, (hB.cell (p := ⟨b, 1, none⟩) hc).trans h.c1⟩
theorem Nm.far' {W : World} {b c : Nat} {n d : Int} (h : Nm W b n d) (hc : c ≠ b) (u v : Value) : Nm ((W.setCell ⟨c, 0, none⟩ u).setCell ⟨c, 1, none⟩ v) b n d := by
  have h0 := h.c0; have h1 := h.c1
  refine ⟨?_, ?_⟩
  · rw [World.cell?_setCell_far _ _ _ _ hc, World.cell?_setCell_far _ _ _ _ hc]; exact h0
  · rw [World.cell?_setCell_far _ _ _ _ hc, World.cell?_setCell_far _ _ _ _ hc]; exact h1
theorem bl_set {w W : World} {c : Nat} (h : Below w.heap.size w W) (hc : w.heap.size ≤ c) (u v : Value) : Below w.heap.size w ((W.setCell ⟨c, 0, none⟩ u).setCell ⟨c, 1, none⟩ v) := (h.setCell (p := ⟨c, 0, none⟩) hc u).setCell (p := ⟨c, 1, none⟩) hc v
/-- Some numbers in their boxes, the table, and the world before. -/
structure Hk (w : World) (l : List (Nat × Int × Int)) (W : World) : Prop where
  nm : ∀ x ∈ l, Nm W x.1 x.2.1 x.2.2
  tb : Tb W
  bl : Below w.heap.size w W
theorem Hk.below {w W W' : World} {l : List (Nat × Int × Int)} (h : Hk w l W) (hb : Below W.heap.size W W') : Hk w l W' := ⟨fun x hx => (h.nm x hx).past0 hb, h.tb.below hb, h.bl.trans (hb.mono h.bl.size)⟩
theorem Hk.drew {w W : World} {l : List (Nat × Int × Int)} (h : Hk w l W) : Hk w l W.drew := h.below (below_drewN (Below.refl _ _) 1)
theorem Hk.one {w W : World} {a : Nat} {p q : Int} (h : Hk w [(a, p, q)] W) : W.cell? ⟨a, 0, none⟩ = some (.int .i64 p) ∧ W.cell? ⟨a, 1, none⟩ = some (.int .i64 q) ∧ Hk w [(a, p, q)] W :=
  have h1 := h.nm (a, p, q) (by simp)
  ⟨h1.c0, h1.c1, h⟩
theorem Hk.three {w W : World} {a b c : Nat} {p q r s t u : Int} (h : Hk w [(a, p, q), (b, r, s), (c, t, u)] W) : W.cell? ⟨a, 0, none⟩ = some (.int .i64 p) ∧ W.cell? ⟨a, 1, none⟩ = some (.int .i64 q) ∧ W.cell? ⟨b, 0, none⟩ = some (.int .i64 r) ∧ W.cell? ⟨b, 1, none⟩ = some (.int .i64 s) ∧ W.cell? ⟨c, 0, none⟩ = some (.int .i64 t) ∧ W.cell? ⟨c, 1, none⟩ = some (.int .i64 u) ∧ Hk w [(a, p, q), (b, r, s), (c, t, u)] W :=
  have h1 := h.nm (a, p, q) (by simp); have h2 := h.nm (b, r, s) (by simp); have h3 := h.nm (c, t, u) (by simp)
  ⟨h1.c0, h1.c1, h2.c0, h2.c1, h3.c0, h3.c1, h⟩
theorem Hk.four {w W : World} {a b c d : Nat} {p q r s t u x y : Int} (h : Hk w [(a, p, q), (b, r, s), (c, t, u), (d, x, y)] W) : W.cell? ⟨a, 0, none⟩ = some (.int .i64 p) ∧ W.cell? ⟨a, 1, none⟩ = some (.int .i64 q) ∧ W.cell? ⟨b, 0, none⟩ = some (.int .i64 r) ∧ W.cell? ⟨b, 1, none⟩ = some (.int .i64 s) ∧ W.cell? ⟨c, 0, none⟩ = some (.int .i64 t) ∧ W.cell? ⟨c, 1, none⟩ = some (.int .i64 u) ∧ W.cell? ⟨d, 0, none⟩ = some (.int .i64 x) ∧ W.cell? ⟨d, 1, none⟩ = some (.int .i64 y) ∧ Hk w [(a, p, q), (b, r, s), (c, t, u), (d, x, y)] W :=
  have h1 := h.nm (a, p, q) (by simp); have h2 := h.nm (b, r, s) (by simp); have h3 := h.nm (c, t, u) (by simp); have h4 := h.nm (d, x, y) (by simp)
  ⟨h1.c0, h1.c1, h2.c0, h2.c1, h3.c0, h3.c1, h4.c0, h4.c1, h⟩
/-- A call that hands back v, in every world, and leaves all that is there. -/
def Cl (f : FuncId) (args : Array Value) (v : Value) : Prop := ∀ w : World, Calls Tryd.prog f args w fun e w' => e = .returned v ∧ Below w.heap.size w w'
theorem Cl.hk {f : FuncId} {args : Array Value} {v : Value} {w W : World} {l : List (Nat × Int × Int)} (h : Cl f args v) (hk : Hk w l W) : Calls Tryd.prog f args W fun e w' => e = .returned v ∧ Hk w l w' :=
  (h W).mono fun _ _ ⟨he, hb⟩ => ⟨he, hk.below hb⟩
theorem known_hk {w W : World} {l : List (Nat × Int × Int)} (hk : Hk w l W) : Calls Tryd.prog 18 #[] W fun e w' => e = .returned (.bool true) ∧ Hk w l w' :=
  (known_any W hk.tb).mono fun _ _ ⟨he, hb⟩ => ⟨he, hk.below hb⟩
/-- The worlds that hold them. -/
def Wo (w : World) (l : List (Nat × Int × Int)) := { W : World // Hk w l W }
theorem cl_wo {f : FuncId} {args : Array Value} {v : Value} {w : World} {l : List (Nat × Int × Int)} (h : Cl f args v) (x : Wo w l) : Calls Tryd.prog f args x.1 fun e w'' => e = .returned v ∧ ∃ y : Wo w l, w'' = y.1 :=
  (h.hk x.2).mono fun _ w' ⟨he, hk⟩ => ⟨he, ⟨w', hk⟩, rfl⟩
theorem known_wo {w : World} {l : List (Nat × Int × Int)} (x : Wo w l) : Calls Tryd.prog 18 #[] x.1 fun e w'' => e = .returned (.bool true) ∧ ∃ y : Wo w l, w'' = y.1 :=
  (known_hk x.2).mono fun _ w' ⟨he, hk⟩ => ⟨he, ⟨w', hk⟩, rfl⟩
theorem region_cls {P : Program} {C : World → Prop} {a : Act} {l : List Oper} {id : Nat} {R : Exit → Act → World → Prop} {w : World} (hm : P.follows .mixedOrders = true) (hB : Region.lexB .any l.toArray = true) (hC : C w.drew)
    (h : wpQuiet P l.toArray C (fun a' => ∀ w', C w' → R .normal a' w') l a) : (Code.region id l.toArray true).wp P R a w :=
  wp_region_quiet (C := C) hm hB hC (by simpa using h)
def num (n d : Int) : Value := .agg #[.int .i64 n, .int .i64 d]
theorem cl_of (a b : Int) : Cl 42 #[.int .i64 a, .int .i64 b] (.agg #[.int .i64 (ofN a b), .int .i64 (ofD a b)]) := fun w => of_any a b w
theorem cl_add {a p b q n d e : Int} (h : add a p b q = ⟨n, d, e⟩) : Cl 19 #[.agg #[.int .i64 a, .int .i64 p], .agg #[.int .i64 b, .int .i64 q]] (.tuple #[.agg #[.int .i64 n, .int .i64 d], .int .i64 e]) := fun w => by
  have := Add_any a p b q w; rw [h] at this; exact this
theorem cl_sub {a p b q n d e : Int} (h : sub a p b q = ⟨n, d, e⟩) (hb : I64 b) : Cl 21 #[.agg #[.int .i64 a, .int .i64 p], .agg #[.int .i64 b, .int .i64 q]] (.tuple #[.agg #[.int .i64 n, .int .i64 d], .int .i64 e]) := fun w => by
  have := Sub_any a p b q w hb; rw [h] at this; exact this
theorem cl_mul {a p b q n d e : Int} (h : mul a p b q = ⟨n, d, e⟩) : Cl 23 #[.agg #[.int .i64 a, .int .i64 p], .agg #[.int .i64 b, .int .i64 q]] (.tuple #[.agg #[.int .i64 n, .int .i64 d], .int .i64 e]) := fun w => by
  have := Mul_any a p b q w; rw [h] at this; exact this
theorem cl_div {a p b q n d e : Int} (h : div a p b q = ⟨n, d, e⟩) : Cl 25 #[.agg #[.int .i64 a, .int .i64 p], .agg #[.int .i64 b, .int .i64 q]] (.tuple #[.agg #[.int .i64 n, .int .i64 d], .int .i64 e]) := fun w => by
  have := Div_any a p b q w; rw [h] at this; exact this
theorem cl_mod {a p b q n d e : Int} (h : mod a p b q = ⟨n, d, e⟩) : Cl 27 #[.agg #[.int .i64 a, .int .i64 p], .agg #[.int .i64 b, .int .i64 q]] (.tuple #[.agg #[.int .i64 n, .int .i64 d], .int .i64 e]) := fun w => by
  have := Mod_any a p b q w; rw [h] at this; exact this
theorem cl_rnd {a p k n d e : Int} (h : rnd a p k = ⟨n, d, e⟩) : Cl 33 #[.agg #[.int .i64 a, .int .i64 p], .int .i64 k] (.tuple #[.agg #[.int .i64 n, .int .i64 d], .int .i64 e]) := fun w => by
  have := Round_any a p k w; rw [h] at this; exact this
theorem cl_cmp {a p b q c : Int} (h : cmp a p b q = c) : Cl 29 #[.agg #[.int .i64 a, .int .i64 p], .agg #[.int .i64 b, .int .i64 q]] (.int .i64 c) := fun w => by
  have := Compare_any a p b q w; rw [h] at this; exact this
theorem r3_eq {r : R3} (h : r.e = 0) : r = ⟨r.n, r.d, 0⟩ := by rw [← h]
theorem ok_yes {r : R3} (h : r.e = 0) : (r.e == 0) = true ∧ (r.e != 0) = false := by rw [h]; exact ⟨rfl, rfl⟩
theorem ok_not {r : R3} (h : r.e ≠ 0) : (r.e == 0) = false ∧ (r.e != 0) = true := ⟨by simpa using h, by simpa using h⟩
theorem i64_sm {n d : Int} (h : Ok n d) : I64 n := by have := h.n1; have := h.n2; unfold I64; omega
theorem i64_fit (n d : Int) (hd : d ≠ 0) : I64 (fit n d).n := by
  rcases fit_cases n hd with ⟨_, h, _⟩ | ⟨h, _⟩
  · exact i64_sm h
  · rw [h]; show I64 0; unfold I64; omega
end Go.Proofs.YtpehlihbpmcofaaDoor.Nu
