/-
  Headings by their numbers of "=": plain, by the kernel.
  SectionHeadings.
-/
import Derived.Test.YtdojbnngdlmbgaaGreatDoorSeC
import Derived.Deep.RegionHeld
import Derived.BigQuiet
import Derived.Test.YtdojbnngdlmbgaaGreatDoorSeD
namespace Go.Proofs.YtdojbnngdlmbgaaGreatDoor.Se
set_option linter.unusedVariables false

def nmS : Nat → By | 0 => [120] | 1 => [97, 32, 98] | 2 => [49] | _ => [120, 61, 121]
def blS : Nat → By | 0 => [] | 1 => [32] | 2 => [9] | _ => [32, 32]
def hdT (A B i j : Nat) : By := (((((List.replicate A 61 ++ blS j) ++ nmS i) ++ blS j) ++ List.replicate B 61) ++ blS j) ++ [10]
def hdW (A B i j : Nat) : By := (((List.replicate (A - min A (min B 6)) 61 ++ blS j) ++ nmS i) ++ blS j) ++ List.replicate (B - min A (min B 6)) 61
def scB (a b : Sc) : Bool := a.lv == b.lv && a.ti == b.ti && a.fr == b.fr && a.bo == b.bo && a.to == b.to
theorem scB_eq {a b : Sc} (h : scB a b = true) : a = b := by
  obtain ⟨a1, a2, a3, a4, a5⟩ := a
  obtain ⟨b1, b2, b3, b4, b5⟩ := b
  unfold scB at h
  simp at h
  obtain ⟨⟨⟨⟨rfl, rfl⟩, rfl⟩, rfl⟩, rfl⟩ := h
  rfl
def headings (s : By) : List Sc := secs s.length (hds headOf (plainOf (Pa.tree (Pa.toks s))) s.length 0 (lines s))
def okH (A B i j : Nat) : Bool := match headings (hdT A B i j) with
  | [x] => scB x ⟨min A (min B 6), Lib.trimS (hdW A B i j) bl, 0, (hdT A B i j).length, (hdT A B i j).length⟩
  | _ => false
theorem allH : ((List.range 8).all fun a => (List.range 8).all fun b => (List.range 4).all fun i => (List.range 4).all fun j => okH (a + 1) (b + 1) i j) = true := by kernel_rfl
theorem heads (a b i j : Nat) (ha : a < 8) (hb : b < 8) (hi : i < 4) (hj : j < 4) : headings (hdT (a + 1) (b + 1) i j) = [⟨min (a + 1) (min (b + 1) 6), Lib.trimS (hdW (a + 1) (b + 1) i j) bl, 0, (hdT (a + 1) (b + 1) i j).length, (hdT (a + 1) (b + 1) i j).length⟩] := by
  have h := allH
  rw [List.all_eq_true] at h
  have h1 := h a (List.mem_range.2 ha)
  rw [List.all_eq_true] at h1
  have h2 := h1 b (List.mem_range.2 hb)
  rw [List.all_eq_true] at h2
  have h3 := h2 i (List.mem_range.2 hi)
  rw [List.all_eq_true] at h3
  have h4 := h3 j (List.mem_range.2 hj)
  clear h h1 h2 h3
  unfold okH at h4
  split at h4
  · rename_i x hx
    rw [hx, scB_eq h4]
  · cases h4
end Go.Proofs.YtdojbnngdlmbgaaGreatDoor.Se

namespace Go.Proofs.YtdojbnngdlmbgaaGreatDoor.Se
open Go.RowKit Go.Shelf Go.Proofs.YtdojbnngdlmbgaaGreatDoor.Tr
set_option linter.unusedVariables false
set_option linter.unusedSimpArgs false

theorem and_lt (n : Int) (m : Nat) (hm : m < 64) : ∃ k : Nat, k ≤ m ∧ bits .and .i64 n (m : Int) = (k : Int) := by
  have h2 : (BitVec.ofInt 64 (m : Int)).toNat = m := by simp; omega
  have h3 : (BitVec.ofInt 64 n).toNat &&& m ≤ m := Nat.and_le_right
  have e : bits .and .i64 n m = IntKind.i64.wrap ((BitVec.ofInt 64 n &&& BitVec.ofInt 64 (m : Int)).toNat : Int) := rfl
  refine ⟨(BitVec.ofInt 64 n).toNat &&& m, h3, ?_⟩
  rw [e, BitVec.toNat_and, h2, IntKind.wrap_i64]
  omega
theorem nm_size (i : Nat) : (nmS i).length ≤ 3 := by unfold nmS; split <;> decide
theorem bl_size (i : Nat) : (blS i).length ≤ 2 := by unfold blS; split <;> decide
theorem nm_at {k : Nat} (hk : k ≤ 3) : (#[Value.string ⟨#[120]⟩, .string ⟨#[97, 32, 98]⟩, .string ⟨#[49]⟩, .string ⟨#[120, 61, 121]⟩] : Array Value)[k]? = some (.string (bsl (nmS k))) := by
  rcases (by omega : k = 0 ∨ k = 1 ∨ k = 2 ∨ k = 3) with rfl | rfl | rfl | rfl <;> rfl
theorem bl_at {k : Nat} (hk : k ≤ 3) : (#[Value.string ⟨#[]⟩, .string ⟨#[32]⟩, .string ⟨#[9]⟩, .string ⟨#[32, 32]⟩] : Array Value)[k]? = some (.string (bsl (blS k))) := by
  rcases (by omega : k = 0 ∨ k = 1 ∨ k = 2 ∨ k = 3) with rfl | rfl | rfl | rfl <;> rfl
theorem two_new (w : World) (o1 o2 : Obj) : ((w.alloc o1).alloc o2).heap[w.heap.size + 1]? = some o2 := by
  have := heap_alloc_new (w.alloc o1) o2
  rw [show (w.alloc o1).heap.size = w.heap.size + 1 by simp] at this; exact this
theorem rep61 (c : Nat) : Lib.repeatL [61] c = List.replicate c 61 := by
  induction c with
  | zero => rfl
  | succ c ih => rw [Lib.repeatL, ih]; rfl
theorem app_data (a b : ByteArray) : (a ++ b).data.toList = a.data.toList ++ b.data.toList := by simp
/-- Sections, by what they are. -/
theorem Sections_hd (s : ByteArray) (w : World) (ht : Tk.Tb w) (hs : s.size ≤ 8192) {t : By} (h : s.data.toList = t) :
    Calls Tryz.prog 16 #[.string s] w fun e w' => ∃ v, e = .returned (.tuple #[v, .int .i64 0]) ∧ OwnSc w' w.heap.size v (headings t) ∧ Below w.heap.size w w' := by
  subst h
  have := Sections_any s w ht hs
  unfold headings
  rw [size_list]; exact this
/-- One section in memory, the tables, and the world before. -/
structure Hs (w : World) (g o : Nat) (x : Sc) (W : World) : Prop where
  c0 : W.cell? ⟨g, o, none⟩ = some (.int .i64 (x.lv : Int))
  c1 : W.cell? ⟨g, o + 1, none⟩ = some (.string (bsl x.ti))
  c2 : W.cell? ⟨g, o + 2, none⟩ = some (.int .i64 (x.fr : Int))
  c3 : W.cell? ⟨g, o + 3, none⟩ = some (.int .i64 (x.bo : Int))
  c4 : W.cell? ⟨g, o + 4, none⟩ = some (.int .i64 (x.to : Int))
  lt : g < W.heap.size
  tb : Tk.Tb W
  bl : Below w.heap.size w W
theorem Hs.below {w W W' : World} {g o : Nat} {x : Sc} (h : Hs w g o x W) (hb : Below W.heap.size W W') : Hs w g o x W' :=
  ⟨(hb.cell (p := ⟨g, o, none⟩) h.lt).trans h.c0, (hb.cell (p := ⟨g, o + 1, none⟩) h.lt).trans h.c1, (hb.cell (p := ⟨g, o + 2, none⟩) h.lt).trans h.c2, (hb.cell (p := ⟨g, o + 3, none⟩) h.lt).trans h.c3, (hb.cell (p := ⟨g, o + 4, none⟩) h.lt).trans h.c4, Nat.lt_of_lt_of_le h.lt hb.size, h.tb.below hb, h.bl.trans (hb.mono h.bl.size)⟩
theorem Hs.drew {w W : World} {g o : Nat} {x : Sc} (h : Hs w g o x W) : Hs w g o x W.drew := h.below (below_drewN (Below.refl _ _) 1)
def Wh (w : World) (g o : Nat) (x : Sc) := { W : World // Hs w g o x W }
theorem known_wh {w : World} {g o : Nat} {x : Sc} (y : Wh w g o x) : Calls Tryz.prog 15 #[] y.1 fun e w'' => e = .returned (.bool true) ∧ ∃ z : Wh w g o x, w'' = z.1 :=
  (known_any y.1 y.2.tb).mono fun _ w' ⟨he, hb⟩ => ⟨he, ⟨w', y.2.below hb⟩, rfl⟩
theorem trim_wh {w : World} {g o : Nat} {x : Sc} {s : ByteArray} {t : By} (hs : s.size ≤ 4294967281) (h : tr s.data.toList = t) (y : Wh w g o x) : Calls Tryz.prog 24 #[.string s] y.1 fun e w'' => e = .returned (.string (bsl t)) ∧ ∃ z : Wh w g o x, w'' = z.1 := by
  subst h
  exact (RTrim_any s y.1 hs).mono fun _ w' ⟨he, hb⟩ => ⟨he, y, hb⟩
theorem region_cls {P : Program} {C : World → Prop} {a : Act} {l : List Oper} {id : Nat} {R : Exit → Act → World → Prop} {w : World} (hm : P.follows .mixedOrders = true) (hB : Region.lexB .any l.toArray = true) (hC : C w.drew)
    (h : wpQuiet P l.toArray C (fun a' => ∀ w', C w' → R .normal a' w') l a) : (Code.region id l.toArray true).wp P R a w :=
  wp_region_quiet (C := C) hm hB hC (by simpa using h)
theorem Repeat_any (c : Nat) (z : Int) (w : World) (hz : z = (c : Int)) (hc : c ≤ 1000) : Calls Tryz.prog 23 #[.string ⟨#[61]⟩, .int .i64 z] w fun e w' => e = .returned (.string (bsl (List.replicate c 61))) ∧ Below w.heap.size w w' := by
  subst hz
  have := Tryz.strings_Repeat ⟨#[61]⟩ c w (by omega) (by rw [show (⟨#[61]⟩ : ByteArray).size = 1 from rfl]; omega)
  rw [show (⟨#[61]⟩ : ByteArray).data.toList = [61] from rfl, rep61] at this
  exact this
set_option maxRecDepth 100000 in
set_option maxHeartbeats 4000000 in
theorem SectionHeadings_any (a b n : Int) (w : World) (ht : Tk.Tb w) :
    Calls Tryz.prog 8 #[.int .i64 a, .int .i64 b, .int .i64 n] w fun e w' => e = .returned (.bool true) ∧ Below w.heap.size w w' := by
  obtain ⟨x, hx, ex0⟩ := and_lt a 7 (by omega)
  obtain ⟨y, hy, ey0⟩ := and_lt b 7 (by omega)
  obtain ⟨i, hi, ei0⟩ := and_lt n 3 (by omega)
  obtain ⟨j, hj, ej0⟩ := and_lt (n / 4) 3 (by omega)
  have ex : bits .and .i64 a 7 = (x : Int) := ex0
  have ey : bits .and .i64 b 7 = (y : Int) := ey0
  have ei : bits .and .i64 n 3 = (i : Int) := ei0
  have ej : bits .and .i64 (n / 4) 3 = (j : Int) := ej0
  clear ex0 ey0 ei0 ej0
  have pn : (w.alloc (.cells #[.string ⟨#[120]⟩, .string ⟨#[97, 32, 98]⟩, .string ⟨#[49]⟩, .string ⟨#[120, 61, 121]⟩] 9 (0, 0))).cell? ⟨w.heap.size, i, none⟩ = some (.string (bsl (nmS i))) := cell_heap (heap_alloc_new w _) (nm_at hi)
  have pb : ((w.alloc (.cells #[.string ⟨#[120]⟩, .string ⟨#[97, 32, 98]⟩, .string ⟨#[49]⟩, .string ⟨#[120, 61, 121]⟩] 9 (0, 0))).alloc (.cells #[.string ⟨#[]⟩, .string ⟨#[32]⟩, .string ⟨#[9]⟩, .string ⟨#[32, 32]⟩] 9 (0, 0))).cell? ⟨w.heap.size + 1, j, none⟩ = some (.string (bsl (blS j))) := cell_heap (two_new w _ _) (bl_at hj)
  have BW : Hid (Below w.heap.size w ((w.alloc (.cells #[.string ⟨#[120]⟩, .string ⟨#[97, 32, 98]⟩, .string ⟨#[49]⟩, .string ⟨#[120, 61, 121]⟩] 9 (0, 0))).alloc (.cells #[.string ⟨#[]⟩, .string ⟨#[32]⟩, .string ⟨#[9]⟩, .string ⟨#[32, 32]⟩] 9 (0, 0)))) := Lib.hid (((Below.refl _ _).alloc (Nat.le_refl _) _).alloc (by simp) _)
  have z3 := nm_size i
  have z4 := bl_size j
  obtain ⟨nm, hnm⟩ : ∃ nm, nm = bsl (nmS i) := ⟨_, rfl⟩
  obtain ⟨bk, hbk⟩ : ∃ bk, bk = bsl (blS j) := ⟨_, rfl⟩
  rw [← hnm] at pn
  rw [← hbk] at pb
  have zn : nm.size ≤ 3 := by rw [hnm, bsl_size]; exact z3
  have zb : bk.size ≤ 2 := by rw [hbk, bsl_size]; exact z4
  have HNM := Lib.hid hnm
  have HBK := Lib.hid hbk
  clear hnm hbk z3 z4
  have i1 : (i : Int) < 4 := by omega
  have j1 : (j : Int) < 4 := by omega
  have HT := Lib.hid ht
  clear ht
  have HRx : Hid (∀ w, Calls Tryz.prog 23 #[.string ⟨#[61]⟩, .int .i64 (1 + (x : Int))] w fun e w' => e = .returned (.string (bsl (List.replicate (x + 1) 61))) ∧ Below w.heap.size w w') := Lib.hid fun w => Repeat_any (x + 1) _ w (by omega) (by omega)
  have HRy : Hid (∀ w, Calls Tryz.prog 23 #[.string ⟨#[61]⟩, .int .i64 (1 + (y : Int))] w fun e w' => e = .returned (.string (bsl (List.replicate (y + 1) 61))) ∧ Below w.heap.size w w') := Lib.hid fun w => Repeat_any (y + 1) _ w (by omega) (by omega)
  go_enter Tryz.func8, Tryz.ntmps8
  go_wp2_with fail
  with_reducible refine (HRx.out _).mono ?_
  rintro e w1 ⟨rfl, b1⟩
  have B1 := Lib.hid (BW.out.trans (b1.mono BW.out.size))
  clear b1 HRx BW pn pb
  have zx : (bsl (List.replicate (x + 1) 61)).size ≤ 8 := by rw [bsl_size, List.length_replicate]; omega
  have zy : (bsl (List.replicate (y + 1) 61)).size ≤ 8 := by rw [bsl_size, List.length_replicate]; omega
  obtain ⟨R1, hR1⟩ : ∃ R1, R1 = bsl (List.replicate (x + 1) 61) := ⟨_, rfl⟩
  obtain ⟨R2, hR2⟩ : ∃ R2, R2 = bsl (List.replicate (y + 1) 61) := ⟨_, rfl⟩
  rw [← hR1] at zx ⊢
  rw [← hR2] at zy HRy
  have HR1 := Lib.hid hR1
  have HR2 := Lib.hid hR2
  clear hR1 hR2
  go_wp2_with fail
  with_reducible refine (HRy.out _).mono ?_
  rintro e w2 ⟨rfl, b2⟩
  have B2 := Lib.hid (B1.out.trans (b2.mono B1.out.size))
  clear b2 B1 HRy
  obtain ⟨lv, hlv⟩ : ∃ lv, lv = min (x + 1) (min (y + 1) 6) := ⟨_, rfl⟩
  have HSc : Hid (∀ w, Tk.Tb w → Calls Tryz.prog 16 #[.string (R1 ++ bk ++ nm ++ bk ++ R2 ++ bk ++ ⟨#[10]⟩)] w fun e w' => ∃ v, e = .returned (.tuple #[v, .int .i64 0]) ∧ OwnSc w' w.heap.size v (headings (hdT (x + 1) (y + 1) i j)) ∧ Below w.heap.size w w') := Lib.hid fun w ht => by
    have hd : (R1 ++ bk ++ nm ++ bk ++ R2 ++ bk ++ ⟨#[10]⟩ : ByteArray).data.toList = hdT (x + 1) (y + 1) i j := by
      simp only [app_data]
      rw [HR1.out, HR2.out, HBK.out, HNM.out]; rfl
    exact Sections_hd _ w ht (by simp only [ByteArray.size_append]; have : (⟨#[10]⟩ : ByteArray).size = 1 := rfl; omega) hd
  have HH := Lib.hid (heads x y i j (by omega) (by omega) (by omega) (by omega))
  rw [← hlv] at HH
  have HW : Hid (hdW (x + 1) (y + 1) i j = (((List.replicate (x + 1 - lv) 61 ++ blS j) ++ nmS i) ++ blS j) ++ List.replicate (y + 1 - lv) 61) := Lib.hid (by rw [hlv]; rfl)
  have HM : ∀ (ts : Array TypeId) (t : TypeId) (w : World), (Builtin.min_ ts t #[.int .i64 (1 + (x : Int)), .int .i64 (1 + (y : Int)), .int .i64 6]).run Tryz.prog w = .ok (.int .i64 (lv : Int)) w := by
    intro ts t w
    rw [Go.run_min_int3]
    congr 2
    by_cases q1 : 1 + (y : Int) < 1 + (x : Int)
    · rw [if_pos q1]; split <;> omega
    · rw [if_neg q1]; split <;> omega
  have l1 : lv ≤ x + 1 := by omega
  have l2 : lv ≤ y + 1 := by omega
  have HR3 : Hid (∀ w, Calls Tryz.prog 23 #[.string ⟨#[61]⟩, .int .i64 (1 + (x : Int) - (lv : Int))] w fun e w' => e = .returned (.string (bsl (List.replicate (x + 1 - lv) 61))) ∧ Below w.heap.size w w') := Lib.hid fun w => Repeat_any (x + 1 - lv) _ w (by omega) (by omega)
  have HR4 : Hid (∀ w, Calls Tryz.prog 23 #[.string ⟨#[61]⟩, .int .i64 (1 + (y : Int) - (lv : Int))] w fun e w' => e = .returned (.string (bsl (List.replicate (y + 1 - lv) 61))) ∧ Below w.heap.size w w') := Lib.hid fun w => Repeat_any (y + 1 - lv) _ w (by omega) (by omega)
  have HLV := Lib.hid hlv
  clear hlv
  go_wp2_with fail
  with_reducible refine (HSc.out w2 (HT.out.below B2.out)).mono ?_
  rintro e w3 ⟨v, rfl, o3, b3⟩
  have B3 := Lib.hid (B2.out.trans (b3.mono B2.out.size))
  rw [HH.out] at o3
  obtain ⟨tt, htt⟩ : ∃ tt, tt = Lib.trimS (hdW (x + 1) (y + 1) i j) bl := ⟨_, rfl⟩
  obtain ⟨N, hN⟩ : ∃ N, N = (hdT (x + 1) (y + 1) i j).length := ⟨_, rfl⟩
  rw [← htt, ← hN] at o3
  obtain ⟨Ao, co, e3, k1, k2, R3⟩ := o3.rd.ex
  obtain ⟨g, o, e4, hg, q⟩ := R3 (by simp)
  have c0 := q 0 _ rfl 0 _ rfl
  have c1 := q 0 _ rfl 1 _ rfl
  have c2 := q 0 _ rfl 2 _ rfl
  have c3 := q 0 _ rfl 3 _ rfl
  have c4 := q 0 _ rfl 4 _ rfl
  simp only [Nat.zero_mul, Nat.add_zero] at c0 c1 c2 c3 c4
  have e5 : v = .slice (some ⟨g, o, none⟩) 1 co := by rw [e3, e4]; rfl
  have HS0 : Hid (Hs w g o ⟨lv, tt, 0, N, N⟩ w3) := Lib.hid ⟨c0, c1, c2, c3, c4, hg, HT.out.below B3.out, B3.out⟩
  have HTT := Lib.hid htt
  unfold maxLen at k2
  have k3 : 1 ≤ co := k1
  clear b3 B3 B2 o3 HSc HH R3 q e3 e4 htt hN k1 c1 c2 c3 c4 hg
  subst e5
  go_wp2_with fail
  with_reducible refine (HR3.out _).mono ?_
  rintro e w4 ⟨rfl, b4⟩
  have HS1 := Lib.hid (HS0.out.below b4)
  clear b4 HS0 HR3 c0
  have zx3 : (bsl (List.replicate (x + 1 - lv) 61)).size ≤ 8 := by rw [bsl_size, List.length_replicate]; omega
  have zy3 : (bsl (List.replicate (y + 1 - lv) 61)).size ≤ 8 := by rw [bsl_size, List.length_replicate]; omega
  obtain ⟨R3, hR3⟩ : ∃ R3, R3 = bsl (List.replicate (x + 1 - lv) 61) := ⟨_, rfl⟩
  obtain ⟨R4, hR4⟩ : ∃ R4, R4 = bsl (List.replicate (y + 1 - lv) 61) := ⟨_, rfl⟩
  rw [← hR3] at zx3 ⊢
  rw [← hR4] at zy3 HR4
  have HX3 := Lib.hid hR3
  have HX4 := Lib.hid hR4
  clear hR3 hR4
  go_wp2_with fail
  with_reducible refine (HR4.out _).mono ?_
  rintro e w5 ⟨rfl, b5⟩
  have HS2 := Lib.hid (HS1.out.below b5)
  clear b5 HS1 HR4
  have HTW : Hid (tr (R3 ++ bk ++ nm ++ bk ++ R4).data.toList = tt) := Lib.hid (by
    have hd : (R3 ++ bk ++ nm ++ bk ++ R4 : ByteArray).data.toList = hdW (x + 1) (y + 1) i j := by
      simp only [app_data]
      rw [HX3.out, HX4.out, HBK.out, HNM.out, HW.out]; rfl
    rw [hd, HTT.out]; rfl)
  have HZW : Hid ((R3 ++ bk ++ nm ++ bk ++ R4).size ≤ 4294967281) := Lib.hid (by simp only [ByteArray.size_append]; omega)
  go_wp2_with fail
  obtain ⟨SC, hSC⟩ : ∃ SC : Sc, SC = ⟨lv, tt, 0, N, N⟩ := ⟨_, rfl⟩
  have HS3 : Hs w g o SC w5 := by rw [hSC]; exact HS2.out
  have q1 : ∀ x : Wh w g o SC, x.1.cell? ⟨g, o + 1, none⟩ = some (.string (bsl tt)) := fun x => (x.2.c1).trans (by rw [hSC])
  have q2 : ∀ x : Wh w g o SC, x.1.cell? ⟨g, o + 2, none⟩ = some (.int .i64 0) := fun x => (x.2.c2).trans (by rw [hSC]; rfl)
  have q3 : ∀ x : Wh w g o SC, x.1.cell? ⟨g, o + 3, none⟩ = some (.int .i64 (N : Int)) := fun x => (x.2.c3).trans (by rw [hSC])
  have q4 : ∀ x : Wh w g o SC, x.1.cell? ⟨g, o + 4, none⟩ = some (.int .i64 (N : Int)) := fun x => (x.2.c4).trans (by rw [hSC])
  have ne : Nonempty (Wh w g o SC) := ⟨⟨_, HS3.drew⟩⟩
  clear hSC HS2
  refine region_cls (C := fun W => ∃ x : Wh w g o SC, W = x.1) (by kernel_rfl) (by kernel_rfl) ⟨⟨_, HS3.drew⟩, rfl⟩ ?_
  repeat (go_big_quiet_step ((first | (go_at_call 24; with_reducible exact trim_wh HZW.out HTW.out _) | (go_at_call 15; with_reducible exact known_wh _))))
  refine wpQuiet_nil ?_
  intro w' hw'
  obtain ⟨x, rfl⟩ := hw'
  go_wp2
  go_ret
  exact ⟨rfl, x.2.bl⟩
end Go.Proofs.YtdojbnngdlmbgaaGreatDoor.Se
