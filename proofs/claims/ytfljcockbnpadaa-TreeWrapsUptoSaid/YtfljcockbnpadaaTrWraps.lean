/-
  The law TreeWraps.
-/
import Derived.Test.YtfljcockbnpadaaTrKnown
namespace Go.Proofs.Ytfljcockbnpadaa.Tr
open Go.RowKit

theorem five (w : World) (o1 o2 o3 o4 o5 : Obj) :
    ∃ Z, (((((w.alloc o1).alloc o2).alloc o3).alloc o4).alloc o5) = Z ∧ Z.heap[w.heap.size + 1 + 1 + 1 + 1]? = some o5 ∧ Z.heap[w.heap.size + 1 + 1 + 1]? = some o4 ∧ Z.heap[w.heap.size + 1 + 1]? = some o3 ∧ Z.heap[w.heap.size + 1]? = some o2 ∧ Z.heap.size = w.heap.size + 5 ∧ Below w.heap.size w Z := by
  refine ⟨_, rfl, ?_, ?_, ?_, ?_, by simp, (((((Below.refl _ _).alloc (Nat.le_refl _) _).alloc (by simp) _).alloc (by simp; omega) _).alloc (by simp; omega) _).alloc (by simp; omega) _⟩
  · have := heap_new ((((w.alloc o1).alloc o2).alloc o3).alloc o4) o5
    simpa using this
  · have := heap_new (((w.alloc o1).alloc o2).alloc o3) o4
    rw [Below.heap_alloc _ _ _ (by simp)]
    simpa using this
  · have := heap_new ((w.alloc o1).alloc o2) o3
    rw [Below.heap_alloc _ _ _ (by simp), Below.heap_alloc _ _ _ (by simp)]
    simpa using this
  · have := heap_new (w.alloc o1) o2
    rw [Below.heap_alloc _ _ _ (by simp), Below.heap_alloc _ _ _ (by simp), Below.heap_alloc _ _ _ (by simp)]
    simpa using this
theorem i64_and3 (n : Int) : bits .and .i64 n 3 = n % 4 := by
  have h7 : (BitVec.ofInt 64 3).toNat = 2 ^ 2 - 1 := by decide
  have key : (BitVec.ofInt 64 n &&& BitVec.ofInt 64 3).toNat = (n % ((2 ^ 64 : Nat) : Int)).toNat % 2 ^ 2 := by
    rw [BitVec.toNat_and, BitVec.toNat_ofInt, h7, Nat.and_two_pow_sub_one_eq_mod]
  show IntKind.i64.wrap ((BitVec.ofInt 64 n &&& BitVec.ofInt 64 3).toNat : Nat) = n % 4
  rw [key, IntKind.wrap_i64]
  omega
/-- The two nodes of the law. -/
def wx (t : Int) (l : List Nd) : Nd := .mk 6 t ⟨#[]⟩ l []
def wy (l m : List Nd) : Nd := .mk 5 0 ⟨#[]⟩ l [.mk false [] m]
theorem wx_src {t : Int} (h1 : 1 ≤ t) (h3 : t ≤ 3) (l : List Nd) : src [wx t l] = [60] ++ tname t ++ [62] ++ src l ++ [60, 47] ++ tname t ++ [62] := by
  rw [src_cons, src_nil, List.append_nil, srcN_eq, wx]; simp only [Nd.kind, Nd.tag, Nd.text, Nd.kids, Nd.args]
  unfold ntext tagged
  rw [if_neg (by decide), if_neg (by decide), if_neg (by decide), if_neg (by decide), if_neg (by decide), if_pos rfl, if_neg (tname_ne h1 h3)]
theorem wy_src (l m : List Nd) : src [wy l m] = [123, 123, 123] ++ src l ++ [124] ++ src m ++ [125, 125, 125] := by
  rw [src_cons, src_nil, List.append_nil, srcN_eq, wy]; simp only [Nd.kind, Nd.tag, Nd.text, Nd.kids, Nd.args]
  unfold ntext
  rw [if_neg (by decide), if_neg (by decide), if_neg (by decide), if_neg (by decide), if_pos rfl, srcA_cons, srcA_nil, srcG_eq]
  simp [Ar.named, Ar.value]
theorem wx_dep (t : Int) (l : List Nd) : dep [wx t l] = 1 + dep l := by
  simp [dep, depM, depN, wx, hasK, hasA]
theorem wx_rd {d : Nat} {w : World} {B g : Nat} {t : Int} {v : Value} {l : List Nd} {T : TypeId} (h1 : 1 ≤ t) (h3 : t ≤ 3) (hz : sz l ≤ 1048576) (hg : g < B) (h : w.heap[g]? = some (.cells #[.int .i64 6, .int .i64 t, .string ⟨#[]⟩, v, .slice none 0 0] T)) (hl : LRd d w B v l) : LRd (d + 1) w B (.slice (some ⟨g, 0, none⟩) 1 1) [wx t l] :=
  LRd_one (n := wx t l) (by rw [sz_cons, sz_nil, szN_eq, wx]; simp only [Nd.text, Nd.kids, Nd.args, szA_nil]; change 1 + 0 + sz l + 0 + 0 ≤ _; omega) hg h (fit_small (k := 6) (by decide) (by decide)) (fit_small (k := t) (by omega) (by omega)) hl (ARd_nil d _ _ _ _ maxLen0)
theorem wy_rd {d : Nat} {w : World} {B g g2 : Nat} {v v2 : Value} {l m : List Nd} {T T2 : TypeId} (hz : sz l ≤ 1048576) (hz2 : sz m ≤ 1048576) (hg : g < B) (hg2 : g2 < B) (h : w.heap[g]? = some (.cells #[.int .i64 5, .int .i64 0, .string ⟨#[]⟩, v, .slice (some ⟨g2, 0, none⟩) 1 1] T)) (h2 : w.heap[g2]? = some (.cells #[.bool false, .slice none 0 0, v2] T2)) (hl : LRd d w B v l) (hm : LRd d w B v2 m) : LRd (d + 1) w B (.slice (some ⟨g, 0, none⟩) 1 1) [wy l m] := by
  cases d with
  | zero => exact hl.elim
  | succ d =>
  refine LRd_one (n := wy l m) (by rw [sz_cons, sz_nil, szN_eq, wy]; simp only [Nd.text, Nd.kids, Nd.args, szA_cons, szA_nil, szG_eq, Ar.name, Ar.value, sz_nil]; change 1 + 0 + sz l + (1 + 0 + sz m + 0) + 0 ≤ _; omega) hg h (fit_small (k := 5) (by decide) (by decide)) (fit_small (k := 0) (by decide) (by decide)) hl ?_
  exact ARd_one (a := .mk false [] m) (by rw [szA_cons, szA_nil, szG_eq]; simp only [Ar.name, Ar.value, sz_nil]; omega) hg2 h2 (LRd_nil d _ _ _ _ maxLen0) hm
theorem ex_list (x : List UInt8) : ∃ S : ByteArray, (⟨x.toArray⟩ : ByteArray) = S ∧ S.data.toList = x := ⟨_, rfl, rfl⟩


set_option maxRecDepth 100000 in
set_option maxHeartbeats 8000000 in
theorem TreeWraps_0 (d : Nat) (v : Value) (l : List Nd) (v2 : Value) (m : List Nd) (t : Int) (w : World) (h : LRd d w w.heap.size v l) (h2 : LRd d w w.heap.size v2 m) (hz : sz l ≤ 1048576) (hz2 : sz m ≤ 1048576) (hr : bits .and .i64 t 3 = 0) :
    Calls Try.prog 9 #[v, v2, .int .i64 t] w fun e w' => e = .returned (.bool true) ∧ Below w.heap.size w w' := by
  obtain ⟨A, c, rfl⟩ := h.form
  obtain ⟨A2, c2, rfl⟩ := h2.form
  have H0 := Lib.hid (And.intro h h2); clear h h2
  have hsl : (src l).length ≤ 28311552 := Nat.le_trans (src_len l) (by omega)
  have hsm : (src m).length ≤ 28311552 := Nat.le_trans (src_len m) (by omega)
  have hdl : dep l ≤ 1048577 := Nat.le_trans (dep_le l) (by omega)
  go_enter Try.func9, Try.ntmps9
  go_wp2_with fail
  refine (large_any d w.heap.size _ l w H0.out.1 (Nat.le_refl _)).mono ?_
  rintro e w1 ⟨rfl, hb⟩
  have B1 := Lib.hid hb; clear hb
  cases big l with
  | true =>
    go_wp2_with fail
    refine (known_any w1).mono ?_
    rintro e w4 ⟨rfl, hb⟩
    have B4 := Lib.hid (B1.out.trans (hb.mono B1.out.size)); clear hb
    go_wp2_with fail
    go_ret
    exact ⟨rfl, B4.out⟩
  | false =>
    go_wp2_with fail
    refine (large_any d w.heap.size _ m w1 (H0.out.2.below B1.out (Nat.le_refl _) (Nat.le_refl _)) B1.out.size).mono ?_
    rintro e w2 ⟨rfl, hb⟩
    have B2 := Lib.hid (B1.out.trans (hb.mono B1.out.size)); clear hb
    cases big m with
    | true =>
      go_wp2_with fail
      refine (known_any w2).mono ?_
      rintro e w4 ⟨rfl, hb⟩
      have B4 := Lib.hid (B2.out.trans (hb.mono B2.out.size)); clear hb
      go_wp2_with fail
      go_ret
      exact ⟨rfl, B4.out⟩
    | false =>
      go_wp2_with fail
      obtain ⟨Z, hZ, z5, z4, z3, z2, hZs, hZb⟩ := five w2 (Obj.cells #[.string ⟨#[110, 111, 105, 110, 99, 108, 117, 100, 101]⟩, .string ⟨#[105, 110, 99, 108, 117, 100, 101, 111, 110, 108, 121]⟩, .string ⟨#[111, 110, 108, 121, 105, 110, 99, 108, 117, 100, 101]⟩] 9)
        (Obj.cells #[.int .i64 6, .int .i64 1, .string ⟨#[]⟩, .slice A l.length c, .slice none 0 0] 30)
        (Obj.cells #[.bool false, .slice none 0 0, .slice A2 m.length c2] 32)
        (Obj.cells #[.int .i64 5, .int .i64 0, .string ⟨#[]⟩, .slice A l.length c, .slice (some ⟨w2.heap.size + 1 + 1, 0, none⟩) 1 1] 30)
        (Obj.cells #[.int .i64 6, .int .i64 1, .string ⟨#[]⟩, .slice A l.length c, .slice none 0 0] 30)
      rw [hZ]
      have BZ := Lib.hid (B2.out.trans (hZb.mono B2.out.size))
      have L0 := Lib.hid (And.intro (H0.out.1.below BZ.out (Nat.le_refl _) BZ.out.size) (H0.out.2.below BZ.out (Nat.le_refl _) BZ.out.size))
      generalize w2.heap.size = b at z5 z4 z3 z2 hZs ⊢
      have HZ := Lib.hid (And.intro z2 (And.intro z3 z4))
      have R5 := Lib.hid (wx_rd (t := 1) (by decide) (by decide) hz (by omega) z5 L0.out.1)
      clear hZ hZb z5 z4 z3 z2 B1 B2 H0
      refine (Source_any (d + 1) _ _ [wx 1 l] Z R5.out (Nat.le_refl _)).mono ?_
      rintro e w3 ⟨rfl, hb⟩
      obtain ⟨X, hX1, hX⟩ := ex_list (src [wx 1 l])
      rw [hX1]
      have B3 := Lib.hid hb
      have HX := Lib.hid hX
      clear hb hX1 hX R5
      go_wp2_with fail
      refine (Source_any d _ _ l w3 (L0.out.1.below B3.out (Nat.le_refl _) (Nat.le_refl _)) B3.out.size).mono ?_
      rintro e w4 ⟨rfl, hb⟩
      obtain ⟨S, hS1, hS⟩ := ex_list (src l)
      rw [hS1]
      have hSs : S.size ≤ 28311552 := by rw [size_of hS]; exact hsl
      have B4 := Lib.hid (B3.out.trans (hb.mono B3.out.size))
      have HS := Lib.hid hS
      clear hb hS1 hS
      obtain rfl : X = ((⟨#[60]⟩ : ByteArray) ++ (⟨#[110, 111, 105, 110, 99, 108, 117, 100, 101]⟩ : ByteArray) ++ (⟨#[62]⟩ : ByteArray) ++ S ++ (⟨#[60, 47]⟩ : ByteArray) ++ (⟨#[110, 111, 105, 110, 99, 108, 117, 100, 101]⟩ : ByteArray) ++ (⟨#[62]⟩ : ByteArray)) := ba_ext HX.out (by simp only [cat_list]; rw [HS.out, wx_src (by decide) (by decide)]; rfl)
      have y3 := (B4.out.block (b + 1 + 1 + 1) (by omega)).trans HZ.out.2.2
      have c0 : w4.cell? ⟨b + 1 + 1 + 1, 0, none⟩ = some (.int .i64 5) := cell_heap y3 rfl
      have c1 : w4.cell? ⟨b + 1 + 1 + 1, 1, none⟩ = some (.int .i64 0) := cell_heap y3 rfl
      have c2' : w4.cell? ⟨b + 1 + 1 + 1, 2, none⟩ = some (.string ⟨#[]⟩) := cell_heap y3 rfl
      have c3 : w4.cell? ⟨b + 1 + 1 + 1, 3, none⟩ = some (.slice A l.length c) := cell_heap y3 rfl
      have c4 : w4.cell? ⟨b + 1 + 1 + 1, 4, none⟩ = some (.slice (some ⟨b + 1 + 1, 0, none⟩) 1 1) := cell_heap y3 rfl
      clear y3 HX
      go_wp2_with fail
      obtain ⟨Y4, hY4⟩ : ∃ Y, w4.alloc (Obj.cells #[.int .i64 5, .int .i64 0, .string ⟨#[]⟩, .slice A l.length c, .slice (some ⟨b + 1 + 1, 0, none⟩) 1 1] 30) = Y := ⟨_, rfl⟩
      have k4 : Y4.heap[w4.heap.size]? = some (.cells #[.int .i64 5, .int .i64 0, .string ⟨#[]⟩, .slice A l.length c, .slice (some ⟨b + 1 + 1, 0, none⟩) 1 1] 30) := by rw [← hY4]; exact heap_new _ _
      have s4 : Y4.heap.size = w4.heap.size + 1 := by rw [← hY4]; simp
      have BY := Lib.hid (show Below Z.heap.size Z Y4 by rw [← hY4]; exact B4.out.alloc B4.out.size _)
      rw [hY4]
      have R4 := Lib.hid (wy_rd hz hz2 (by omega) (by have := B4.out.size; omega) k4 ((BY.out.block (b + 1 + 1) (by omega)).trans HZ.out.2.1) (L0.out.1.below BY.out (Nat.le_refl _) BY.out.size) (L0.out.2.below BY.out (Nat.le_refl _) BY.out.size))
      clear hY4 k4 c0 c1 c2' c3 c4 s4
      generalize w4.heap.size = g4 at R4 ⊢
      refine (Source_any (d + 1) _ _ [wy l m] Y4 R4.out (Nat.le_refl _)).mono ?_
      rintro e w5 ⟨rfl, hb⟩
      obtain ⟨X, hX1, hX⟩ := ex_list (src [wy l m])
      rw [hX1]
      have B5 := Lib.hid (BY.out.trans (hb.mono BY.out.size))
      have HX := Lib.hid hX
      clear hb hX1 hX R4
      go_wp2_with fail
      refine (Source_any d _ _ l w5 (L0.out.1.below B5.out (Nat.le_refl _) (Nat.le_refl _)) B5.out.size).mono ?_
      rintro e w6 ⟨rfl, hb⟩
      rw [ba_ext (K := S) (X := ⟨(src l).toArray⟩) rfl HS.out]
      have B6 := Lib.hid (B5.out.trans (hb.mono B5.out.size)); clear hb
      go_wp2_with fail
      refine (Source_any d _ _ m w6 (L0.out.2.below B6.out (Nat.le_refl _) (Nat.le_refl _)) B6.out.size).mono ?_
      rintro e w7 ⟨rfl, hb⟩
      obtain ⟨M, hM1, hM⟩ := ex_list (src m)
      rw [hM1]
      have hMs : M.size ≤ 28311552 := by rw [size_of hM]; exact hsm
      have B7 := Lib.hid (B6.out.trans (hb.mono B6.out.size))
      have HM := Lib.hid hM
      clear hb hM1 hM
      obtain rfl : X = ((⟨#[123, 123, 123]⟩ : ByteArray) ++ S ++ (⟨#[124]⟩ : ByteArray) ++ M ++ (⟨#[125, 125, 125]⟩ : ByteArray)) := ba_ext HX.out (by simp only [cat_list]; rw [HS.out, HM.out, wy_src])
      have y3 := (B7.out.block (b + 1) (by omega)).trans HZ.out.1
      have c0 : w7.cell? ⟨b + 1, 0, none⟩ = some (.int .i64 6) := cell_heap y3 rfl
      have c1 : w7.cell? ⟨b + 1, 1, none⟩ = some (.int .i64 1) := cell_heap y3 rfl
      have c2' : w7.cell? ⟨b + 1, 2, none⟩ = some (.string ⟨#[]⟩) := cell_heap y3 rfl
      have c3 : w7.cell? ⟨b + 1, 3, none⟩ = some (.slice A l.length c) := cell_heap y3 rfl
      have c4 : w7.cell? ⟨b + 1, 4, none⟩ = some (.slice none 0 0) := cell_heap y3 rfl
      clear y3 HX
      go_wp2_with fail
      obtain ⟨Y8, hY8⟩ : ∃ Y, w7.alloc (Obj.cells #[.int .i64 6, .int .i64 1, .string ⟨#[]⟩, .slice A l.length c, .slice none 0 0] 30) = Y := ⟨_, rfl⟩
      have k8 : Y8.heap[w7.heap.size]? = some (.cells #[.int .i64 6, .int .i64 1, .string ⟨#[]⟩, .slice A l.length c, .slice none 0 0] 30) := by rw [← hY8]; exact heap_new _ _
      have s8 : Y8.heap.size = w7.heap.size + 1 := by rw [← hY8]; simp
      have B8 := Lib.hid (show Below Z.heap.size Z Y8 by rw [← hY8]; exact B7.out.alloc B7.out.size _)
      rw [hY8]
      have R8 := Lib.hid (wx_rd (t := 1) (by decide) (by decide) hz (by omega) k8 (L0.out.1.below B8.out (Nat.le_refl _) B8.out.size))
      clear hY8 k8 c0 c1 c2' c3 c4 s8
      generalize w7.heap.size = g8 at R8 ⊢
      refine (depths (d + 1) _ _ [wx 1 l] Y8 R8.out (Nat.le_refl _)).mono ?_
      rintro e w9 ⟨rfl, hb⟩
      rw [wx_dep]
      have B9 := Lib.hid (B8.out.trans (hb.mono B8.out.size)); clear hb R8
      go_wp2_with fail
      refine (depths d _ _ l w9 (L0.out.1.below B9.out (Nat.le_refl _) (Nat.le_refl _)) B9.out.size).mono ?_
      rintro e w10 ⟨rfl, hb⟩
      have B10 := Lib.hid (B9.out.trans (hb.mono B9.out.size)); clear hb
      go_wp2_with fail
      refine (known_any w10).mono ?_
      rintro e w11 ⟨rfl, hb⟩
      have B11 := Lib.hid (B10.out.trans (hb.mono B10.out.size)); clear hb
      go_wp2_with fail
      go_ret
      exact ⟨rfl, BZ.out.trans (B11.out.mono BZ.out.size)⟩

set_option maxRecDepth 100000 in
set_option maxHeartbeats 8000000 in
theorem TreeWraps_1 (d : Nat) (v : Value) (l : List Nd) (v2 : Value) (m : List Nd) (t : Int) (w : World) (h : LRd d w w.heap.size v l) (h2 : LRd d w w.heap.size v2 m) (hz : sz l ≤ 1048576) (hz2 : sz m ≤ 1048576) (hr : bits .and .i64 t 3 = 1) :
    Calls Try.prog 9 #[v, v2, .int .i64 t] w fun e w' => e = .returned (.bool true) ∧ Below w.heap.size w w' := by
  obtain ⟨A, c, rfl⟩ := h.form
  obtain ⟨A2, c2, rfl⟩ := h2.form
  have H0 := Lib.hid (And.intro h h2); clear h h2
  have hsl : (src l).length ≤ 28311552 := Nat.le_trans (src_len l) (by omega)
  have hsm : (src m).length ≤ 28311552 := Nat.le_trans (src_len m) (by omega)
  have hdl : dep l ≤ 1048577 := Nat.le_trans (dep_le l) (by omega)
  go_enter Try.func9, Try.ntmps9
  go_wp2_with fail
  refine (large_any d w.heap.size _ l w H0.out.1 (Nat.le_refl _)).mono ?_
  rintro e w1 ⟨rfl, hb⟩
  have B1 := Lib.hid hb; clear hb
  cases big l with
  | true =>
    go_wp2_with fail
    refine (known_any w1).mono ?_
    rintro e w4 ⟨rfl, hb⟩
    have B4 := Lib.hid (B1.out.trans (hb.mono B1.out.size)); clear hb
    go_wp2_with fail
    go_ret
    exact ⟨rfl, B4.out⟩
  | false =>
    go_wp2_with fail
    refine (large_any d w.heap.size _ m w1 (H0.out.2.below B1.out (Nat.le_refl _) (Nat.le_refl _)) B1.out.size).mono ?_
    rintro e w2 ⟨rfl, hb⟩
    have B2 := Lib.hid (B1.out.trans (hb.mono B1.out.size)); clear hb
    cases big m with
    | true =>
      go_wp2_with fail
      refine (known_any w2).mono ?_
      rintro e w4 ⟨rfl, hb⟩
      have B4 := Lib.hid (B2.out.trans (hb.mono B2.out.size)); clear hb
      go_wp2_with fail
      go_ret
      exact ⟨rfl, B4.out⟩
    | false =>
      go_wp2_with fail
      obtain ⟨Z, hZ, z5, z4, z3, z2, hZs, hZb⟩ := five w2 (Obj.cells #[.string ⟨#[110, 111, 105, 110, 99, 108, 117, 100, 101]⟩, .string ⟨#[105, 110, 99, 108, 117, 100, 101, 111, 110, 108, 121]⟩, .string ⟨#[111, 110, 108, 121, 105, 110, 99, 108, 117, 100, 101]⟩] 9)
        (Obj.cells #[.int .i64 6, .int .i64 2, .string ⟨#[]⟩, .slice A l.length c, .slice none 0 0] 30)
        (Obj.cells #[.bool false, .slice none 0 0, .slice A2 m.length c2] 32)
        (Obj.cells #[.int .i64 5, .int .i64 0, .string ⟨#[]⟩, .slice A l.length c, .slice (some ⟨w2.heap.size + 1 + 1, 0, none⟩) 1 1] 30)
        (Obj.cells #[.int .i64 6, .int .i64 2, .string ⟨#[]⟩, .slice A l.length c, .slice none 0 0] 30)
      rw [hZ]
      have BZ := Lib.hid (B2.out.trans (hZb.mono B2.out.size))
      have L0 := Lib.hid (And.intro (H0.out.1.below BZ.out (Nat.le_refl _) BZ.out.size) (H0.out.2.below BZ.out (Nat.le_refl _) BZ.out.size))
      generalize w2.heap.size = b at z5 z4 z3 z2 hZs ⊢
      have HZ := Lib.hid (And.intro z2 (And.intro z3 z4))
      have R5 := Lib.hid (wx_rd (t := 2) (by decide) (by decide) hz (by omega) z5 L0.out.1)
      clear hZ hZb z5 z4 z3 z2 B1 B2 H0
      refine (Source_any (d + 1) _ _ [wx 2 l] Z R5.out (Nat.le_refl _)).mono ?_
      rintro e w3 ⟨rfl, hb⟩
      obtain ⟨X, hX1, hX⟩ := ex_list (src [wx 2 l])
      rw [hX1]
      have B3 := Lib.hid hb
      have HX := Lib.hid hX
      clear hb hX1 hX R5
      go_wp2_with fail
      refine (Source_any d _ _ l w3 (L0.out.1.below B3.out (Nat.le_refl _) (Nat.le_refl _)) B3.out.size).mono ?_
      rintro e w4 ⟨rfl, hb⟩
      obtain ⟨S, hS1, hS⟩ := ex_list (src l)
      rw [hS1]
      have hSs : S.size ≤ 28311552 := by rw [size_of hS]; exact hsl
      have B4 := Lib.hid (B3.out.trans (hb.mono B3.out.size))
      have HS := Lib.hid hS
      clear hb hS1 hS
      obtain rfl : X = ((⟨#[60]⟩ : ByteArray) ++ (⟨#[105, 110, 99, 108, 117, 100, 101, 111, 110, 108, 121]⟩ : ByteArray) ++ (⟨#[62]⟩ : ByteArray) ++ S ++ (⟨#[60, 47]⟩ : ByteArray) ++ (⟨#[105, 110, 99, 108, 117, 100, 101, 111, 110, 108, 121]⟩ : ByteArray) ++ (⟨#[62]⟩ : ByteArray)) := ba_ext HX.out (by simp only [cat_list]; rw [HS.out, wx_src (by decide) (by decide)]; rfl)
      have y3 := (B4.out.block (b + 1 + 1 + 1) (by omega)).trans HZ.out.2.2
      have c0 : w4.cell? ⟨b + 1 + 1 + 1, 0, none⟩ = some (.int .i64 5) := cell_heap y3 rfl
      have c1 : w4.cell? ⟨b + 1 + 1 + 1, 1, none⟩ = some (.int .i64 0) := cell_heap y3 rfl
      have c2' : w4.cell? ⟨b + 1 + 1 + 1, 2, none⟩ = some (.string ⟨#[]⟩) := cell_heap y3 rfl
      have c3 : w4.cell? ⟨b + 1 + 1 + 1, 3, none⟩ = some (.slice A l.length c) := cell_heap y3 rfl
      have c4 : w4.cell? ⟨b + 1 + 1 + 1, 4, none⟩ = some (.slice (some ⟨b + 1 + 1, 0, none⟩) 1 1) := cell_heap y3 rfl
      clear y3 HX
      go_wp2_with fail
      obtain ⟨Y4, hY4⟩ : ∃ Y, w4.alloc (Obj.cells #[.int .i64 5, .int .i64 0, .string ⟨#[]⟩, .slice A l.length c, .slice (some ⟨b + 1 + 1, 0, none⟩) 1 1] 30) = Y := ⟨_, rfl⟩
      have k4 : Y4.heap[w4.heap.size]? = some (.cells #[.int .i64 5, .int .i64 0, .string ⟨#[]⟩, .slice A l.length c, .slice (some ⟨b + 1 + 1, 0, none⟩) 1 1] 30) := by rw [← hY4]; exact heap_new _ _
      have s4 : Y4.heap.size = w4.heap.size + 1 := by rw [← hY4]; simp
      have BY := Lib.hid (show Below Z.heap.size Z Y4 by rw [← hY4]; exact B4.out.alloc B4.out.size _)
      rw [hY4]
      have R4 := Lib.hid (wy_rd hz hz2 (by omega) (by have := B4.out.size; omega) k4 ((BY.out.block (b + 1 + 1) (by omega)).trans HZ.out.2.1) (L0.out.1.below BY.out (Nat.le_refl _) BY.out.size) (L0.out.2.below BY.out (Nat.le_refl _) BY.out.size))
      clear hY4 k4 c0 c1 c2' c3 c4 s4
      generalize w4.heap.size = g4 at R4 ⊢
      refine (Source_any (d + 1) _ _ [wy l m] Y4 R4.out (Nat.le_refl _)).mono ?_
      rintro e w5 ⟨rfl, hb⟩
      obtain ⟨X, hX1, hX⟩ := ex_list (src [wy l m])
      rw [hX1]
      have B5 := Lib.hid (BY.out.trans (hb.mono BY.out.size))
      have HX := Lib.hid hX
      clear hb hX1 hX R4
      go_wp2_with fail
      refine (Source_any d _ _ l w5 (L0.out.1.below B5.out (Nat.le_refl _) (Nat.le_refl _)) B5.out.size).mono ?_
      rintro e w6 ⟨rfl, hb⟩
      rw [ba_ext (K := S) (X := ⟨(src l).toArray⟩) rfl HS.out]
      have B6 := Lib.hid (B5.out.trans (hb.mono B5.out.size)); clear hb
      go_wp2_with fail
      refine (Source_any d _ _ m w6 (L0.out.2.below B6.out (Nat.le_refl _) (Nat.le_refl _)) B6.out.size).mono ?_
      rintro e w7 ⟨rfl, hb⟩
      obtain ⟨M, hM1, hM⟩ := ex_list (src m)
      rw [hM1]
      have hMs : M.size ≤ 28311552 := by rw [size_of hM]; exact hsm
      have B7 := Lib.hid (B6.out.trans (hb.mono B6.out.size))
      have HM := Lib.hid hM
      clear hb hM1 hM
      obtain rfl : X = ((⟨#[123, 123, 123]⟩ : ByteArray) ++ S ++ (⟨#[124]⟩ : ByteArray) ++ M ++ (⟨#[125, 125, 125]⟩ : ByteArray)) := ba_ext HX.out (by simp only [cat_list]; rw [HS.out, HM.out, wy_src])
      have y3 := (B7.out.block (b + 1) (by omega)).trans HZ.out.1
      have c0 : w7.cell? ⟨b + 1, 0, none⟩ = some (.int .i64 6) := cell_heap y3 rfl
      have c1 : w7.cell? ⟨b + 1, 1, none⟩ = some (.int .i64 2) := cell_heap y3 rfl
      have c2' : w7.cell? ⟨b + 1, 2, none⟩ = some (.string ⟨#[]⟩) := cell_heap y3 rfl
      have c3 : w7.cell? ⟨b + 1, 3, none⟩ = some (.slice A l.length c) := cell_heap y3 rfl
      have c4 : w7.cell? ⟨b + 1, 4, none⟩ = some (.slice none 0 0) := cell_heap y3 rfl
      clear y3 HX
      go_wp2_with fail
      obtain ⟨Y8, hY8⟩ : ∃ Y, w7.alloc (Obj.cells #[.int .i64 6, .int .i64 2, .string ⟨#[]⟩, .slice A l.length c, .slice none 0 0] 30) = Y := ⟨_, rfl⟩
      have k8 : Y8.heap[w7.heap.size]? = some (.cells #[.int .i64 6, .int .i64 2, .string ⟨#[]⟩, .slice A l.length c, .slice none 0 0] 30) := by rw [← hY8]; exact heap_new _ _
      have s8 : Y8.heap.size = w7.heap.size + 1 := by rw [← hY8]; simp
      have B8 := Lib.hid (show Below Z.heap.size Z Y8 by rw [← hY8]; exact B7.out.alloc B7.out.size _)
      rw [hY8]
      have R8 := Lib.hid (wx_rd (t := 2) (by decide) (by decide) hz (by omega) k8 (L0.out.1.below B8.out (Nat.le_refl _) B8.out.size))
      clear hY8 k8 c0 c1 c2' c3 c4 s8
      generalize w7.heap.size = g8 at R8 ⊢
      refine (depths (d + 1) _ _ [wx 2 l] Y8 R8.out (Nat.le_refl _)).mono ?_
      rintro e w9 ⟨rfl, hb⟩
      rw [wx_dep]
      have B9 := Lib.hid (B8.out.trans (hb.mono B8.out.size)); clear hb R8
      go_wp2_with fail
      refine (depths d _ _ l w9 (L0.out.1.below B9.out (Nat.le_refl _) (Nat.le_refl _)) B9.out.size).mono ?_
      rintro e w10 ⟨rfl, hb⟩
      have B10 := Lib.hid (B9.out.trans (hb.mono B9.out.size)); clear hb
      go_wp2_with fail
      refine (known_any w10).mono ?_
      rintro e w11 ⟨rfl, hb⟩
      have B11 := Lib.hid (B10.out.trans (hb.mono B10.out.size)); clear hb
      go_wp2_with fail
      go_ret
      exact ⟨rfl, BZ.out.trans (B11.out.mono BZ.out.size)⟩

set_option maxRecDepth 100000 in
set_option maxHeartbeats 8000000 in
theorem TreeWraps_2 (d : Nat) (v : Value) (l : List Nd) (v2 : Value) (m : List Nd) (t : Int) (w : World) (h : LRd d w w.heap.size v l) (h2 : LRd d w w.heap.size v2 m) (hz : sz l ≤ 1048576) (hz2 : sz m ≤ 1048576) (hr : bits .and .i64 t 3 = 2) :
    Calls Try.prog 9 #[v, v2, .int .i64 t] w fun e w' => e = .returned (.bool true) ∧ Below w.heap.size w w' := by
  obtain ⟨A, c, rfl⟩ := h.form
  obtain ⟨A2, c2, rfl⟩ := h2.form
  have H0 := Lib.hid (And.intro h h2); clear h h2
  have hsl : (src l).length ≤ 28311552 := Nat.le_trans (src_len l) (by omega)
  have hsm : (src m).length ≤ 28311552 := Nat.le_trans (src_len m) (by omega)
  have hdl : dep l ≤ 1048577 := Nat.le_trans (dep_le l) (by omega)
  go_enter Try.func9, Try.ntmps9
  go_wp2_with fail
  refine (large_any d w.heap.size _ l w H0.out.1 (Nat.le_refl _)).mono ?_
  rintro e w1 ⟨rfl, hb⟩
  have B1 := Lib.hid hb; clear hb
  cases big l with
  | true =>
    go_wp2_with fail
    refine (known_any w1).mono ?_
    rintro e w4 ⟨rfl, hb⟩
    have B4 := Lib.hid (B1.out.trans (hb.mono B1.out.size)); clear hb
    go_wp2_with fail
    go_ret
    exact ⟨rfl, B4.out⟩
  | false =>
    go_wp2_with fail
    refine (large_any d w.heap.size _ m w1 (H0.out.2.below B1.out (Nat.le_refl _) (Nat.le_refl _)) B1.out.size).mono ?_
    rintro e w2 ⟨rfl, hb⟩
    have B2 := Lib.hid (B1.out.trans (hb.mono B1.out.size)); clear hb
    cases big m with
    | true =>
      go_wp2_with fail
      refine (known_any w2).mono ?_
      rintro e w4 ⟨rfl, hb⟩
      have B4 := Lib.hid (B2.out.trans (hb.mono B2.out.size)); clear hb
      go_wp2_with fail
      go_ret
      exact ⟨rfl, B4.out⟩
    | false =>
      go_wp2_with fail
      obtain ⟨Z, hZ, z5, z4, z3, z2, hZs, hZb⟩ := five w2 (Obj.cells #[.string ⟨#[110, 111, 105, 110, 99, 108, 117, 100, 101]⟩, .string ⟨#[105, 110, 99, 108, 117, 100, 101, 111, 110, 108, 121]⟩, .string ⟨#[111, 110, 108, 121, 105, 110, 99, 108, 117, 100, 101]⟩] 9)
        (Obj.cells #[.int .i64 6, .int .i64 3, .string ⟨#[]⟩, .slice A l.length c, .slice none 0 0] 30)
        (Obj.cells #[.bool false, .slice none 0 0, .slice A2 m.length c2] 32)
        (Obj.cells #[.int .i64 5, .int .i64 0, .string ⟨#[]⟩, .slice A l.length c, .slice (some ⟨w2.heap.size + 1 + 1, 0, none⟩) 1 1] 30)
        (Obj.cells #[.int .i64 6, .int .i64 3, .string ⟨#[]⟩, .slice A l.length c, .slice none 0 0] 30)
      rw [hZ]
      have BZ := Lib.hid (B2.out.trans (hZb.mono B2.out.size))
      have L0 := Lib.hid (And.intro (H0.out.1.below BZ.out (Nat.le_refl _) BZ.out.size) (H0.out.2.below BZ.out (Nat.le_refl _) BZ.out.size))
      generalize w2.heap.size = b at z5 z4 z3 z2 hZs ⊢
      have HZ := Lib.hid (And.intro z2 (And.intro z3 z4))
      have R5 := Lib.hid (wx_rd (t := 3) (by decide) (by decide) hz (by omega) z5 L0.out.1)
      clear hZ hZb z5 z4 z3 z2 B1 B2 H0
      refine (Source_any (d + 1) _ _ [wx 3 l] Z R5.out (Nat.le_refl _)).mono ?_
      rintro e w3 ⟨rfl, hb⟩
      obtain ⟨X, hX1, hX⟩ := ex_list (src [wx 3 l])
      rw [hX1]
      have B3 := Lib.hid hb
      have HX := Lib.hid hX
      clear hb hX1 hX R5
      go_wp2_with fail
      refine (Source_any d _ _ l w3 (L0.out.1.below B3.out (Nat.le_refl _) (Nat.le_refl _)) B3.out.size).mono ?_
      rintro e w4 ⟨rfl, hb⟩
      obtain ⟨S, hS1, hS⟩ := ex_list (src l)
      rw [hS1]
      have hSs : S.size ≤ 28311552 := by rw [size_of hS]; exact hsl
      have B4 := Lib.hid (B3.out.trans (hb.mono B3.out.size))
      have HS := Lib.hid hS
      clear hb hS1 hS
      obtain rfl : X = ((⟨#[60]⟩ : ByteArray) ++ (⟨#[111, 110, 108, 121, 105, 110, 99, 108, 117, 100, 101]⟩ : ByteArray) ++ (⟨#[62]⟩ : ByteArray) ++ S ++ (⟨#[60, 47]⟩ : ByteArray) ++ (⟨#[111, 110, 108, 121, 105, 110, 99, 108, 117, 100, 101]⟩ : ByteArray) ++ (⟨#[62]⟩ : ByteArray)) := ba_ext HX.out (by simp only [cat_list]; rw [HS.out, wx_src (by decide) (by decide)]; rfl)
      have y3 := (B4.out.block (b + 1 + 1 + 1) (by omega)).trans HZ.out.2.2
      have c0 : w4.cell? ⟨b + 1 + 1 + 1, 0, none⟩ = some (.int .i64 5) := cell_heap y3 rfl
      have c1 : w4.cell? ⟨b + 1 + 1 + 1, 1, none⟩ = some (.int .i64 0) := cell_heap y3 rfl
      have c2' : w4.cell? ⟨b + 1 + 1 + 1, 2, none⟩ = some (.string ⟨#[]⟩) := cell_heap y3 rfl
      have c3 : w4.cell? ⟨b + 1 + 1 + 1, 3, none⟩ = some (.slice A l.length c) := cell_heap y3 rfl
      have c4 : w4.cell? ⟨b + 1 + 1 + 1, 4, none⟩ = some (.slice (some ⟨b + 1 + 1, 0, none⟩) 1 1) := cell_heap y3 rfl
      clear y3 HX
      go_wp2_with fail
      obtain ⟨Y4, hY4⟩ : ∃ Y, w4.alloc (Obj.cells #[.int .i64 5, .int .i64 0, .string ⟨#[]⟩, .slice A l.length c, .slice (some ⟨b + 1 + 1, 0, none⟩) 1 1] 30) = Y := ⟨_, rfl⟩
      have k4 : Y4.heap[w4.heap.size]? = some (.cells #[.int .i64 5, .int .i64 0, .string ⟨#[]⟩, .slice A l.length c, .slice (some ⟨b + 1 + 1, 0, none⟩) 1 1] 30) := by rw [← hY4]; exact heap_new _ _
      have s4 : Y4.heap.size = w4.heap.size + 1 := by rw [← hY4]; simp
      have BY := Lib.hid (show Below Z.heap.size Z Y4 by rw [← hY4]; exact B4.out.alloc B4.out.size _)
      rw [hY4]
      have R4 := Lib.hid (wy_rd hz hz2 (by omega) (by have := B4.out.size; omega) k4 ((BY.out.block (b + 1 + 1) (by omega)).trans HZ.out.2.1) (L0.out.1.below BY.out (Nat.le_refl _) BY.out.size) (L0.out.2.below BY.out (Nat.le_refl _) BY.out.size))
      clear hY4 k4 c0 c1 c2' c3 c4 s4
      generalize w4.heap.size = g4 at R4 ⊢
      refine (Source_any (d + 1) _ _ [wy l m] Y4 R4.out (Nat.le_refl _)).mono ?_
      rintro e w5 ⟨rfl, hb⟩
      obtain ⟨X, hX1, hX⟩ := ex_list (src [wy l m])
      rw [hX1]
      have B5 := Lib.hid (BY.out.trans (hb.mono BY.out.size))
      have HX := Lib.hid hX
      clear hb hX1 hX R4
      go_wp2_with fail
      refine (Source_any d _ _ l w5 (L0.out.1.below B5.out (Nat.le_refl _) (Nat.le_refl _)) B5.out.size).mono ?_
      rintro e w6 ⟨rfl, hb⟩
      rw [ba_ext (K := S) (X := ⟨(src l).toArray⟩) rfl HS.out]
      have B6 := Lib.hid (B5.out.trans (hb.mono B5.out.size)); clear hb
      go_wp2_with fail
      refine (Source_any d _ _ m w6 (L0.out.2.below B6.out (Nat.le_refl _) (Nat.le_refl _)) B6.out.size).mono ?_
      rintro e w7 ⟨rfl, hb⟩
      obtain ⟨M, hM1, hM⟩ := ex_list (src m)
      rw [hM1]
      have hMs : M.size ≤ 28311552 := by rw [size_of hM]; exact hsm
      have B7 := Lib.hid (B6.out.trans (hb.mono B6.out.size))
      have HM := Lib.hid hM
      clear hb hM1 hM
      obtain rfl : X = ((⟨#[123, 123, 123]⟩ : ByteArray) ++ S ++ (⟨#[124]⟩ : ByteArray) ++ M ++ (⟨#[125, 125, 125]⟩ : ByteArray)) := ba_ext HX.out (by simp only [cat_list]; rw [HS.out, HM.out, wy_src])
      have y3 := (B7.out.block (b + 1) (by omega)).trans HZ.out.1
      have c0 : w7.cell? ⟨b + 1, 0, none⟩ = some (.int .i64 6) := cell_heap y3 rfl
      have c1 : w7.cell? ⟨b + 1, 1, none⟩ = some (.int .i64 3) := cell_heap y3 rfl
      have c2' : w7.cell? ⟨b + 1, 2, none⟩ = some (.string ⟨#[]⟩) := cell_heap y3 rfl
      have c3 : w7.cell? ⟨b + 1, 3, none⟩ = some (.slice A l.length c) := cell_heap y3 rfl
      have c4 : w7.cell? ⟨b + 1, 4, none⟩ = some (.slice none 0 0) := cell_heap y3 rfl
      clear y3 HX
      go_wp2_with fail
      obtain ⟨Y8, hY8⟩ : ∃ Y, w7.alloc (Obj.cells #[.int .i64 6, .int .i64 3, .string ⟨#[]⟩, .slice A l.length c, .slice none 0 0] 30) = Y := ⟨_, rfl⟩
      have k8 : Y8.heap[w7.heap.size]? = some (.cells #[.int .i64 6, .int .i64 3, .string ⟨#[]⟩, .slice A l.length c, .slice none 0 0] 30) := by rw [← hY8]; exact heap_new _ _
      have s8 : Y8.heap.size = w7.heap.size + 1 := by rw [← hY8]; simp
      have B8 := Lib.hid (show Below Z.heap.size Z Y8 by rw [← hY8]; exact B7.out.alloc B7.out.size _)
      rw [hY8]
      have R8 := Lib.hid (wx_rd (t := 3) (by decide) (by decide) hz (by omega) k8 (L0.out.1.below B8.out (Nat.le_refl _) B8.out.size))
      clear hY8 k8 c0 c1 c2' c3 c4 s8
      generalize w7.heap.size = g8 at R8 ⊢
      refine (depths (d + 1) _ _ [wx 3 l] Y8 R8.out (Nat.le_refl _)).mono ?_
      rintro e w9 ⟨rfl, hb⟩
      rw [wx_dep]
      have B9 := Lib.hid (B8.out.trans (hb.mono B8.out.size)); clear hb R8
      go_wp2_with fail
      refine (depths d _ _ l w9 (L0.out.1.below B9.out (Nat.le_refl _) (Nat.le_refl _)) B9.out.size).mono ?_
      rintro e w10 ⟨rfl, hb⟩
      have B10 := Lib.hid (B9.out.trans (hb.mono B9.out.size)); clear hb
      go_wp2_with fail
      refine (known_any w10).mono ?_
      rintro e w11 ⟨rfl, hb⟩
      have B11 := Lib.hid (B10.out.trans (hb.mono B10.out.size)); clear hb
      go_wp2_with fail
      go_ret
      exact ⟨rfl, BZ.out.trans (B11.out.mono BZ.out.size)⟩

set_option maxRecDepth 100000 in
set_option maxHeartbeats 8000000 in
theorem TreeWraps_3 (d : Nat) (v : Value) (l : List Nd) (v2 : Value) (m : List Nd) (t : Int) (w : World) (h : LRd d w w.heap.size v l) (h2 : LRd d w w.heap.size v2 m) (hz : sz l ≤ 1048576) (hz2 : sz m ≤ 1048576) (hr : bits .and .i64 t 3 = 3) :
    Calls Try.prog 9 #[v, v2, .int .i64 t] w fun e w' => e = .returned (.bool true) ∧ Below w.heap.size w w' := by
  obtain ⟨A, c, rfl⟩ := h.form
  obtain ⟨A2, c2, rfl⟩ := h2.form
  have H0 := Lib.hid (And.intro h h2); clear h h2
  have hsl : (src l).length ≤ 28311552 := Nat.le_trans (src_len l) (by omega)
  have hsm : (src m).length ≤ 28311552 := Nat.le_trans (src_len m) (by omega)
  have hdl : dep l ≤ 1048577 := Nat.le_trans (dep_le l) (by omega)
  go_enter Try.func9, Try.ntmps9
  go_wp2_with fail
  refine (large_any d w.heap.size _ l w H0.out.1 (Nat.le_refl _)).mono ?_
  rintro e w1 ⟨rfl, hb⟩
  have B1 := Lib.hid hb; clear hb
  cases big l with
  | true =>
    go_wp2_with fail
    refine (known_any w1).mono ?_
    rintro e w4 ⟨rfl, hb⟩
    have B4 := Lib.hid (B1.out.trans (hb.mono B1.out.size)); clear hb
    go_wp2_with fail
    go_ret
    exact ⟨rfl, B4.out⟩
  | false =>
    go_wp2_with fail
    refine (large_any d w.heap.size _ m w1 (H0.out.2.below B1.out (Nat.le_refl _) (Nat.le_refl _)) B1.out.size).mono ?_
    rintro e w2 ⟨rfl, hb⟩
    have B2 := Lib.hid (B1.out.trans (hb.mono B1.out.size)); clear hb
    cases big m with
    | true =>
      go_wp2_with fail
      refine (known_any w2).mono ?_
      rintro e w4 ⟨rfl, hb⟩
      have B4 := Lib.hid (B2.out.trans (hb.mono B2.out.size)); clear hb
      go_wp2_with fail
      go_ret
      exact ⟨rfl, B4.out⟩
    | false =>
      go_wp2_with fail
      obtain ⟨Z, hZ, z5, z4, z3, z2, hZs, hZb⟩ := five w2 (Obj.cells #[.string ⟨#[110, 111, 105, 110, 99, 108, 117, 100, 101]⟩, .string ⟨#[105, 110, 99, 108, 117, 100, 101, 111, 110, 108, 121]⟩, .string ⟨#[111, 110, 108, 121, 105, 110, 99, 108, 117, 100, 101]⟩] 9)
        (Obj.cells #[.int .i64 6, .int .i64 1, .string ⟨#[]⟩, .slice A l.length c, .slice none 0 0] 30)
        (Obj.cells #[.bool false, .slice none 0 0, .slice A2 m.length c2] 32)
        (Obj.cells #[.int .i64 5, .int .i64 0, .string ⟨#[]⟩, .slice A l.length c, .slice (some ⟨w2.heap.size + 1 + 1, 0, none⟩) 1 1] 30)
        (Obj.cells #[.int .i64 6, .int .i64 1, .string ⟨#[]⟩, .slice A l.length c, .slice none 0 0] 30)
      rw [hZ]
      have BZ := Lib.hid (B2.out.trans (hZb.mono B2.out.size))
      have L0 := Lib.hid (And.intro (H0.out.1.below BZ.out (Nat.le_refl _) BZ.out.size) (H0.out.2.below BZ.out (Nat.le_refl _) BZ.out.size))
      generalize w2.heap.size = b at z5 z4 z3 z2 hZs ⊢
      have HZ := Lib.hid (And.intro z2 (And.intro z3 z4))
      have R5 := Lib.hid (wx_rd (t := 1) (by decide) (by decide) hz (by omega) z5 L0.out.1)
      clear hZ hZb z5 z4 z3 z2 B1 B2 H0
      refine (Source_any (d + 1) _ _ [wx 1 l] Z R5.out (Nat.le_refl _)).mono ?_
      rintro e w3 ⟨rfl, hb⟩
      obtain ⟨X, hX1, hX⟩ := ex_list (src [wx 1 l])
      rw [hX1]
      have B3 := Lib.hid hb
      have HX := Lib.hid hX
      clear hb hX1 hX R5
      go_wp2_with fail
      refine (Source_any d _ _ l w3 (L0.out.1.below B3.out (Nat.le_refl _) (Nat.le_refl _)) B3.out.size).mono ?_
      rintro e w4 ⟨rfl, hb⟩
      obtain ⟨S, hS1, hS⟩ := ex_list (src l)
      rw [hS1]
      have hSs : S.size ≤ 28311552 := by rw [size_of hS]; exact hsl
      have B4 := Lib.hid (B3.out.trans (hb.mono B3.out.size))
      have HS := Lib.hid hS
      clear hb hS1 hS
      obtain rfl : X = ((⟨#[60]⟩ : ByteArray) ++ (⟨#[110, 111, 105, 110, 99, 108, 117, 100, 101]⟩ : ByteArray) ++ (⟨#[62]⟩ : ByteArray) ++ S ++ (⟨#[60, 47]⟩ : ByteArray) ++ (⟨#[110, 111, 105, 110, 99, 108, 117, 100, 101]⟩ : ByteArray) ++ (⟨#[62]⟩ : ByteArray)) := ba_ext HX.out (by simp only [cat_list]; rw [HS.out, wx_src (by decide) (by decide)]; rfl)
      have y3 := (B4.out.block (b + 1 + 1 + 1) (by omega)).trans HZ.out.2.2
      have c0 : w4.cell? ⟨b + 1 + 1 + 1, 0, none⟩ = some (.int .i64 5) := cell_heap y3 rfl
      have c1 : w4.cell? ⟨b + 1 + 1 + 1, 1, none⟩ = some (.int .i64 0) := cell_heap y3 rfl
      have c2' : w4.cell? ⟨b + 1 + 1 + 1, 2, none⟩ = some (.string ⟨#[]⟩) := cell_heap y3 rfl
      have c3 : w4.cell? ⟨b + 1 + 1 + 1, 3, none⟩ = some (.slice A l.length c) := cell_heap y3 rfl
      have c4 : w4.cell? ⟨b + 1 + 1 + 1, 4, none⟩ = some (.slice (some ⟨b + 1 + 1, 0, none⟩) 1 1) := cell_heap y3 rfl
      clear y3 HX
      go_wp2_with fail
      obtain ⟨Y4, hY4⟩ : ∃ Y, w4.alloc (Obj.cells #[.int .i64 5, .int .i64 0, .string ⟨#[]⟩, .slice A l.length c, .slice (some ⟨b + 1 + 1, 0, none⟩) 1 1] 30) = Y := ⟨_, rfl⟩
      have k4 : Y4.heap[w4.heap.size]? = some (.cells #[.int .i64 5, .int .i64 0, .string ⟨#[]⟩, .slice A l.length c, .slice (some ⟨b + 1 + 1, 0, none⟩) 1 1] 30) := by rw [← hY4]; exact heap_new _ _
      have s4 : Y4.heap.size = w4.heap.size + 1 := by rw [← hY4]; simp
      have BY := Lib.hid (show Below Z.heap.size Z Y4 by rw [← hY4]; exact B4.out.alloc B4.out.size _)
      rw [hY4]
      have R4 := Lib.hid (wy_rd hz hz2 (by omega) (by have := B4.out.size; omega) k4 ((BY.out.block (b + 1 + 1) (by omega)).trans HZ.out.2.1) (L0.out.1.below BY.out (Nat.le_refl _) BY.out.size) (L0.out.2.below BY.out (Nat.le_refl _) BY.out.size))
      clear hY4 k4 c0 c1 c2' c3 c4 s4
      generalize w4.heap.size = g4 at R4 ⊢
      refine (Source_any (d + 1) _ _ [wy l m] Y4 R4.out (Nat.le_refl _)).mono ?_
      rintro e w5 ⟨rfl, hb⟩
      obtain ⟨X, hX1, hX⟩ := ex_list (src [wy l m])
      rw [hX1]
      have B5 := Lib.hid (BY.out.trans (hb.mono BY.out.size))
      have HX := Lib.hid hX
      clear hb hX1 hX R4
      go_wp2_with fail
      refine (Source_any d _ _ l w5 (L0.out.1.below B5.out (Nat.le_refl _) (Nat.le_refl _)) B5.out.size).mono ?_
      rintro e w6 ⟨rfl, hb⟩
      rw [ba_ext (K := S) (X := ⟨(src l).toArray⟩) rfl HS.out]
      have B6 := Lib.hid (B5.out.trans (hb.mono B5.out.size)); clear hb
      go_wp2_with fail
      refine (Source_any d _ _ m w6 (L0.out.2.below B6.out (Nat.le_refl _) (Nat.le_refl _)) B6.out.size).mono ?_
      rintro e w7 ⟨rfl, hb⟩
      obtain ⟨M, hM1, hM⟩ := ex_list (src m)
      rw [hM1]
      have hMs : M.size ≤ 28311552 := by rw [size_of hM]; exact hsm
      have B7 := Lib.hid (B6.out.trans (hb.mono B6.out.size))
      have HM := Lib.hid hM
      clear hb hM1 hM
      obtain rfl : X = ((⟨#[123, 123, 123]⟩ : ByteArray) ++ S ++ (⟨#[124]⟩ : ByteArray) ++ M ++ (⟨#[125, 125, 125]⟩ : ByteArray)) := ba_ext HX.out (by simp only [cat_list]; rw [HS.out, HM.out, wy_src])
      have y3 := (B7.out.block (b + 1) (by omega)).trans HZ.out.1
      have c0 : w7.cell? ⟨b + 1, 0, none⟩ = some (.int .i64 6) := cell_heap y3 rfl
      have c1 : w7.cell? ⟨b + 1, 1, none⟩ = some (.int .i64 1) := cell_heap y3 rfl
      have c2' : w7.cell? ⟨b + 1, 2, none⟩ = some (.string ⟨#[]⟩) := cell_heap y3 rfl
      have c3 : w7.cell? ⟨b + 1, 3, none⟩ = some (.slice A l.length c) := cell_heap y3 rfl
      have c4 : w7.cell? ⟨b + 1, 4, none⟩ = some (.slice none 0 0) := cell_heap y3 rfl
      clear y3 HX
      go_wp2_with fail
      obtain ⟨Y8, hY8⟩ : ∃ Y, w7.alloc (Obj.cells #[.int .i64 6, .int .i64 1, .string ⟨#[]⟩, .slice A l.length c, .slice none 0 0] 30) = Y := ⟨_, rfl⟩
      have k8 : Y8.heap[w7.heap.size]? = some (.cells #[.int .i64 6, .int .i64 1, .string ⟨#[]⟩, .slice A l.length c, .slice none 0 0] 30) := by rw [← hY8]; exact heap_new _ _
      have s8 : Y8.heap.size = w7.heap.size + 1 := by rw [← hY8]; simp
      have B8 := Lib.hid (show Below Z.heap.size Z Y8 by rw [← hY8]; exact B7.out.alloc B7.out.size _)
      rw [hY8]
      have R8 := Lib.hid (wx_rd (t := 1) (by decide) (by decide) hz (by omega) k8 (L0.out.1.below B8.out (Nat.le_refl _) B8.out.size))
      clear hY8 k8 c0 c1 c2' c3 c4 s8
      generalize w7.heap.size = g8 at R8 ⊢
      refine (depths (d + 1) _ _ [wx 1 l] Y8 R8.out (Nat.le_refl _)).mono ?_
      rintro e w9 ⟨rfl, hb⟩
      rw [wx_dep]
      have B9 := Lib.hid (B8.out.trans (hb.mono B8.out.size)); clear hb R8
      go_wp2_with fail
      refine (depths d _ _ l w9 (L0.out.1.below B9.out (Nat.le_refl _) (Nat.le_refl _)) B9.out.size).mono ?_
      rintro e w10 ⟨rfl, hb⟩
      have B10 := Lib.hid (B9.out.trans (hb.mono B9.out.size)); clear hb
      go_wp2_with fail
      refine (known_any w10).mono ?_
      rintro e w11 ⟨rfl, hb⟩
      have B11 := Lib.hid (B10.out.trans (hb.mono B10.out.size)); clear hb
      go_wp2_with fail
      go_ret
      exact ⟨rfl, BZ.out.trans (B11.out.mono BZ.out.size)⟩

theorem TreeWraps_any (d B : Nat) (v : Value) (l : List Nd) (d2 B2 : Nat) (v2 : Value) (m : List Nd) (t : Int) (_ : -9223372036854775808 ≤ t ∧ t ≤ 9223372036854775807) (w : World) (h : LRd d w B v l) (h2 : LRd d2 w B2 v2 m) (hB : B ≤ w.heap.size) (hB2 : B2 ≤ w.heap.size) (hz : sz l ≤ 1048576) (hz2 : sz m ≤ 1048576) :
    Calls Try.prog 9 #[v, v2, .int .i64 t] w fun e w' => e = .returned (.bool true) ∧ Below w.heap.size w w' := by
  have q1 : LRd (max d d2) w w.heap.size v l := (h.more hB).deep (by omega)
  have q2 : LRd (max d d2) w w.heap.size v2 m := (h2.more hB2).deep (by omega)
  have hr := i64_and3 t
  have : t % 4 = 0 ∨ t % 4 = 1 ∨ t % 4 = 2 ∨ t % 4 = 3 := by omega
  rcases this with e | e | e | e <;> rw [e] at hr
  · exact TreeWraps_0 _ v l v2 m t w q1 q2 hz hz2 hr
  · exact TreeWraps_1 _ v l v2 m t w q1 q2 hz hz2 hr
  · exact TreeWraps_2 _ v l v2 m t w q1 q2 hz hz2 hr
  · exact TreeWraps_3 _ v l v2 m t w q1 q2 hz hz2 hr
end Go.Proofs.Ytfljcockbnpadaa.Tr
