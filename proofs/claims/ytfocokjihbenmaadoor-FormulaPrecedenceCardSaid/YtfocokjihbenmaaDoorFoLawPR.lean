/-
  The law on precedence (P8.1).
-/
import Derived.Test.YtfocokjihbenmaaDoorFoPrecP
import Derived.Test.YtfocokjihbenmaaDoorFoDig
import Derived.Laws.Rows
namespace Go.Proofs.YtfocokjihbenmaaDoor.Fo
open Go.RowKit Go.Proofs.YtfocokjihbenmaaDoor.Nu
set_option linter.unusedVariables false
set_option linter.unusedSimpArgs false

theorem neq_num (a p b q : Int) (w : World) : (binOp .neq 23 (.agg #[.int .i64 a, .int .i64 p]) (.agg #[.int .i64 b, .int .i64 q])).run Tryd.prog w = .ok (.bool (!eqN a p b q)) w := by
  rw [run_neq_struct, eq_run]
  simp
theorem and_lt (n : Int) (m : Nat) (hm : m < 64) : ∃ k : Nat, k ≤ m ∧ bits .and .i64 n (m : Int) = (k : Int) := by
  have h2 : (BitVec.ofInt 64 (m : Int)).toNat = m := by
    rw [BitVec.toNat_ofInt]; omega
  have h3 : (BitVec.ofInt 64 n).toNat &&& m ≤ m := Nat.and_le_right
  refine ⟨(BitVec.ofInt 64 n).toNat &&& m, h3, ?_⟩
  have e : bits .and .i64 n (m : Int) = IntKind.i64.wrap ((BitVec.ofInt 64 n &&& BitVec.ofInt 64 (m : Int)).toNat : Int) := rfl
  rw [e, BitVec.toNat_and, h2, IntKind.wrap_i64]
  omega
theorem p_pick {k : Nat} (h : k ≤ 1) : ∃ pp ∈ pP, ∃ P : List UInt8, Hid (pp.flatten = P) ∧ P.length ≤ 5 ∧ ∀ h : k < 2, [Value.string ⟨#[32, 43, 32]⟩, .string ⟨#[32, 45, 32]⟩][k]'h = .string ⟨P.toArray⟩ := by
  rcases (by omega : k = 0 ∨ k = 1) with rfl | rfl
  · exact ⟨[[32], [43], [32]], by decide, _, Lib.hid rfl, by decide, fun _ => rfl⟩
  · exact ⟨[[32], [45], [32]], by decide, _, Lib.hid rfl, by decide, fun _ => rfl⟩
theorem q_pick {k : Nat} (h : k ≤ 2) : ∃ pp ∈ qP, ∃ P : List UInt8, Hid (pp.flatten = P) ∧ P.length ≤ 5 ∧ ∀ h : k < 3, [Value.string ⟨#[32, 42, 32]⟩, .string ⟨#[32, 109, 111, 100, 32]⟩, .string ⟨#[32, 47, 32]⟩][k]'h = .string ⟨P.toArray⟩ := by
  rcases (by omega : k = 0 ∨ k = 1 ∨ k = 2) with rfl | rfl | rfl
  · exact ⟨[[32], [42], [32]], by decide, _, Lib.hid rfl, by decide, fun _ => rfl⟩
  · exact ⟨[[32], [109, 111, 100], [32]], by decide, _, Lib.hid rfl, by decide, fun _ => rfl⟩
  · exact ⟨[[32], [47], [32]], by decide, _, Lib.hid rfl, by decide, fun _ => rfl⟩
theorem r_pick {k : Nat} (h : k ≤ 1) : ∃ pp ∈ rP, ∃ P : List UInt8, Hid (pp.flatten = P) ∧ P.length ≤ 5 ∧ ∀ h : k < 2, [Value.string ⟨#[32, 61, 32]⟩, .string ⟨#[32, 60, 32]⟩][k]'h = .string ⟨P.toArray⟩ := by
  rcases (by omega : k = 0 ∨ k = 1) with rfl | rfl
  · exact ⟨[[32], [61], [32]], by decide, _, Lib.hid rfl, by decide, fun _ => rfl⟩
  · exact ⟨[[32], [60], [32]], by decide, _, Lib.hid rfl, by decide, fun _ => rfl⟩
theorem tm3 (n : Int) : ∃ k : Nat, k ≤ 2 ∧ (bits .and .i64 n 3).tmod 3 = (k : Int) := by
  obtain ⟨m, hm, e⟩ := and_lt n 3 (by decide)
  have e : bits .and .i64 n 3 = (m : Int) := e
  refine ⟨m % 3, by omega, ?_⟩
  rw [e]; rfl
/-- The pairs of texts as the law lays them. -/
structure Fc (w : World) (S : Nat) (L R : Nat → ByteArray) (W : World) : Prop where
  rows : ∀ k, k < 7 → At (S + k) (.cells #[.string (L k), .string (R k)] 9) W
  outer : At (S + 7) (.cells #[.slice (some ⟨S, 0, none⟩) 2 2, .slice (some ⟨S + 1, 0, none⟩) 2 2, .slice (some ⟨S + 1 + 1, 0, none⟩) 2 2, .slice (some ⟨S + 1 + 1 + 1, 0, none⟩) 2 2, .slice (some ⟨S + 1 + 1 + 1 + 1, 0, none⟩) 2 2, .slice (some ⟨S + 1 + 1 + 1 + 1 + 1, 0, none⟩) 2 2, .slice (some ⟨S + 1 + 1 + 1 + 1 + 1 + 1, 0, none⟩) 2 2] 36) W
  up : Up w W
def Ls (pp qq rr : Pc) (i j l : Int) (k : Nat) : List UInt8 := (lhs pp qq rr (sgP (decide (i < 0)) (Lib.decDigits i.natAbs)) (sgP (decide (j < 0)) (Lib.decDigits j.natAbs)) (sgP (decide (l < 0)) (Lib.decDigits l.natAbs)) k).flatten
def Rs (pp qq rr : Pc) (i j l : Int) (k : Nat) : List UInt8 := (rhs pp qq rr (sgP (decide (i < 0)) (Lib.decDigits i.natAbs)) (sgP (decide (j < 0)) (Lib.decDigits j.natAbs)) (sgP (decide (l < 0)) (Lib.decDigits l.natAbs)) k).flatten
theorem Fc.call {w : World} {S : Nat} {L R : Nat → ByteArray} {W W' : World} (hb : Below W.heap.size W W') (h : Fc w S L R W) : Fc w S L R W' := ⟨fun k hk => (h.rows k hk).call hb, h.outer.call hb, Below.trans h.up (hb.mono h.up.size)⟩
theorem Fc.alloc {w : World} {S : Nat} {L R : Nat → ByteArray} {W : World} (h : Fc w S L R W) (o : Obj) : Fc w S L R (W.alloc o) := ⟨fun k hk => (h.rows k hk).alloc o, h.outer.alloc o, Below.alloc h.up h.up.size o⟩
theorem Up.alloc {w W : World} (h : Up w W) (o : Obj) : Up w (W.alloc o) := Below.alloc h h.size o
abbrev c2o (l r : ByteArray) : Obj := .cells #[.string l, .string r] 9
theorem fc_start {w V : World} {S : Nat} {L R : Nat → ByteArray} {l0 r0 l1 r1 l2 r2 l3 r3 l4 r4 l5 r5 l6 r6 : ByteArray} (hS : V.heap.size = S) (hu : Up w V) (hl0 : L 0 = l0) (hr0 : R 0 = r0) (hl1 : L 1 = l1) (hr1 : R 1 = r1) (hl2 : L 2 = l2) (hr2 : R 2 = r2) (hl3 : L 3 = l3) (hr3 : R 3 = r3) (hl4 : L 4 = l4) (hr4 : R 4 = r4) (hl5 : L 5 = l5) (hr5 : R 5 = r5) (hl6 : L 6 = l6) (hr6 : R 6 = r6) :
    Fc w S L R ((((((((V.alloc (c2o l0 r0)).alloc (c2o l1 r1)).alloc (c2o l2 r2)).alloc (c2o l3 r3)).alloc (c2o l4 r4)).alloc (c2o l5 r5)).alloc (c2o l6 r6)).alloc (.cells #[.slice (some ⟨S, 0, none⟩) 2 2, .slice (some ⟨S + 1, 0, none⟩) 2 2, .slice (some ⟨S + 1 + 1, 0, none⟩) 2 2, .slice (some ⟨S + 1 + 1 + 1, 0, none⟩) 2 2, .slice (some ⟨S + 1 + 1 + 1 + 1, 0, none⟩) 2 2, .slice (some ⟨S + 1 + 1 + 1 + 1 + 1, 0, none⟩) 2 2, .slice (some ⟨S + 1 + 1 + 1 + 1 + 1 + 1, 0, none⟩) 2 2] 36)) := by
  have s0 : V.heap.size = S + 0 := by rw [hS]; rfl
  have a0 : At (S + 0) (c2o l0 r0) (V.alloc (c2o l0 r0)) := by have h := nhh V (c2o l0 r0); rw [s0] at h; exact h
  have s1 : (V.alloc (c2o l0 r0)).heap.size = S + 1 := by rw [World.size_alloc, s0]
  have a1 : At (S + 1) (c2o l1 r1) ((V.alloc (c2o l0 r0)).alloc (c2o l1 r1)) := by have h := nhh (V.alloc (c2o l0 r0)) (c2o l1 r1); rw [s1] at h; exact h
  have s2 : ((V.alloc (c2o l0 r0)).alloc (c2o l1 r1)).heap.size = S + 2 := by rw [World.size_alloc, s1]
  have a2 : At (S + 2) (c2o l2 r2) (((V.alloc (c2o l0 r0)).alloc (c2o l1 r1)).alloc (c2o l2 r2)) := by have h := nhh ((V.alloc (c2o l0 r0)).alloc (c2o l1 r1)) (c2o l2 r2); rw [s2] at h; exact h
  have s3 : (((V.alloc (c2o l0 r0)).alloc (c2o l1 r1)).alloc (c2o l2 r2)).heap.size = S + 3 := by rw [World.size_alloc, s2]
  have a3 : At (S + 3) (c2o l3 r3) ((((V.alloc (c2o l0 r0)).alloc (c2o l1 r1)).alloc (c2o l2 r2)).alloc (c2o l3 r3)) := by have h := nhh (((V.alloc (c2o l0 r0)).alloc (c2o l1 r1)).alloc (c2o l2 r2)) (c2o l3 r3); rw [s3] at h; exact h
  have s4 : ((((V.alloc (c2o l0 r0)).alloc (c2o l1 r1)).alloc (c2o l2 r2)).alloc (c2o l3 r3)).heap.size = S + 4 := by rw [World.size_alloc, s3]
  have a4 : At (S + 4) (c2o l4 r4) (((((V.alloc (c2o l0 r0)).alloc (c2o l1 r1)).alloc (c2o l2 r2)).alloc (c2o l3 r3)).alloc (c2o l4 r4)) := by have h := nhh ((((V.alloc (c2o l0 r0)).alloc (c2o l1 r1)).alloc (c2o l2 r2)).alloc (c2o l3 r3)) (c2o l4 r4); rw [s4] at h; exact h
  have s5 : (((((V.alloc (c2o l0 r0)).alloc (c2o l1 r1)).alloc (c2o l2 r2)).alloc (c2o l3 r3)).alloc (c2o l4 r4)).heap.size = S + 5 := by rw [World.size_alloc, s4]
  have a5 : At (S + 5) (c2o l5 r5) ((((((V.alloc (c2o l0 r0)).alloc (c2o l1 r1)).alloc (c2o l2 r2)).alloc (c2o l3 r3)).alloc (c2o l4 r4)).alloc (c2o l5 r5)) := by have h := nhh (((((V.alloc (c2o l0 r0)).alloc (c2o l1 r1)).alloc (c2o l2 r2)).alloc (c2o l3 r3)).alloc (c2o l4 r4)) (c2o l5 r5); rw [s5] at h; exact h
  have s6 : ((((((V.alloc (c2o l0 r0)).alloc (c2o l1 r1)).alloc (c2o l2 r2)).alloc (c2o l3 r3)).alloc (c2o l4 r4)).alloc (c2o l5 r5)).heap.size = S + 6 := by rw [World.size_alloc, s5]
  have a6 : At (S + 6) (c2o l6 r6) (((((((V.alloc (c2o l0 r0)).alloc (c2o l1 r1)).alloc (c2o l2 r2)).alloc (c2o l3 r3)).alloc (c2o l4 r4)).alloc (c2o l5 r5)).alloc (c2o l6 r6)) := by have h := nhh ((((((V.alloc (c2o l0 r0)).alloc (c2o l1 r1)).alloc (c2o l2 r2)).alloc (c2o l3 r3)).alloc (c2o l4 r4)).alloc (c2o l5 r5)) (c2o l6 r6); rw [s6] at h; exact h
  have s7 : (((((((V.alloc (c2o l0 r0)).alloc (c2o l1 r1)).alloc (c2o l2 r2)).alloc (c2o l3 r3)).alloc (c2o l4 r4)).alloc (c2o l5 r5)).alloc (c2o l6 r6)).heap.size = S + 7 := by rw [World.size_alloc, s6]
  refine ⟨fun k hk => ?_, ?_, ((((((((hu.alloc _).alloc _).alloc _).alloc _).alloc _).alloc _).alloc _).alloc _)⟩
  · rcases (by omega : k = 0 ∨ k = 1 ∨ k = 2 ∨ k = 3 ∨ k = 4 ∨ k = 5 ∨ k = 6) with rfl | rfl | rfl | rfl | rfl | rfl | rfl
    · rw [hl0, hr0]; exact (((((((a0.alloc _).alloc _).alloc _).alloc _).alloc _).alloc _).alloc _)
    · rw [hl1, hr1]; exact ((((((a1.alloc _).alloc _).alloc _).alloc _).alloc _).alloc _)
    · rw [hl2, hr2]; exact (((((a2.alloc _).alloc _).alloc _).alloc _).alloc _)
    · rw [hl3, hr3]; exact ((((a3.alloc _).alloc _).alloc _).alloc _)
    · rw [hl4, hr4]; exact (((a4.alloc _).alloc _).alloc _)
    · rw [hl5, hr5]; exact ((a5.alloc _).alloc _)
    · rw [hl6, hr6]; exact (a6.alloc _)
  · have h := nhh (((((((V.alloc (c2o l0 r0)).alloc (c2o l1 r1)).alloc (c2o l2 r2)).alloc (c2o l3 r3)).alloc (c2o l4 r4)).alloc (c2o l5 r5)).alloc (c2o l6 r6)) (.cells #[.slice (some ⟨S, 0, none⟩) 2 2, .slice (some ⟨S + 1, 0, none⟩) 2 2, .slice (some ⟨S + 1 + 1, 0, none⟩) 2 2, .slice (some ⟨S + 1 + 1 + 1, 0, none⟩) 2 2, .slice (some ⟨S + 1 + 1 + 1 + 1, 0, none⟩) 2 2, .slice (some ⟨S + 1 + 1 + 1 + 1 + 1, 0, none⟩) 2 2, .slice (some ⟨S + 1 + 1 + 1 + 1 + 1 + 1, 0, none⟩) 2 2] 36); rw [s7] at h; exact h
theorem bs_ext2 {a b : ByteArray} (h : a.data.toList = b.data.toList) : a = b := by
  apply ByteArray.ext; apply Array.ext'; exact h
theorem Fc.cells {w : World} {S : Nat} {L R : Nat → ByteArray} {W : World} (h : Fc w S L R W) {k : Nat} (hk : k < 7) :
    W.cell? ⟨S + 7, k, none⟩ = some (.slice (some ⟨S + k, 0, none⟩) 2 2) ∧ W.cell? ⟨S + k, 0, none⟩ = some (.string (L k)) ∧ W.cell? ⟨S + k, 1, none⟩ = some (.string (R k)) ∧ S + 7 < W.heap.size ∧ S + k < W.heap.size := by
  have h1 : W.heap[S + 7]? = some _ := h.outer
  have h2 : W.heap[S + k]? = some _ := h.rows k hk
  refine ⟨?_, ?_, ?_, (Array.getElem?_eq_some_iff.1 h1).1, (Array.getElem?_eq_some_iff.1 h2).1⟩
  · rw [cell_of_row W (S + 7) k _ _ _ h1]
    rcases (by omega : k = 0 ∨ k = 1 ∨ k = 2 ∨ k = 3 ∨ k = 4 ∨ k = 5 ∨ k = 6) with rfl | rfl | rfl | rfl | rfl | rfl | rfl <;> rfl
  · rw [cell_of_row W (S + k) 0 _ _ _ h2]; rfl
  · rw [cell_of_row W (S + k) 1 _ _ _ h2]; rfl
theorem tx {pp qq rr : Pc} {i j l : Int} {x y z P Q R : List UInt8} (hx : dg i = x) (hy : dg j = y) (hz : dg l = z) (hP : pp.flatten = P) (hQ : qq.flatten = Q) (hR : rr.flatten = R) :
    ((⟨(Ls pp qq rr i j l 0).toArray⟩ : ByteArray) = (⟨x.toArray⟩ : ByteArray) ++ (⟨P.toArray⟩ : ByteArray) ++ (⟨y.toArray⟩ : ByteArray) ++ (⟨Q.toArray⟩ : ByteArray) ++ (⟨z.toArray⟩ : ByteArray)) ∧ ((⟨(Rs pp qq rr i j l 0).toArray⟩ : ByteArray) = (⟨x.toArray⟩ : ByteArray) ++ (⟨P.toArray⟩ : ByteArray) ++ (⟨#[40]⟩ : ByteArray) ++ (⟨y.toArray⟩ : ByteArray) ++ (⟨Q.toArray⟩ : ByteArray) ++ (⟨z.toArray⟩ : ByteArray) ++ (⟨#[41]⟩ : ByteArray)) ∧
    ((⟨(Ls pp qq rr i j l 1).toArray⟩ : ByteArray) = (⟨x.toArray⟩ : ByteArray) ++ (⟨Q.toArray⟩ : ByteArray) ++ (⟨y.toArray⟩ : ByteArray) ++ (⟨P.toArray⟩ : ByteArray) ++ (⟨z.toArray⟩ : ByteArray)) ∧ ((⟨(Rs pp qq rr i j l 1).toArray⟩ : ByteArray) = (⟨#[40]⟩ : ByteArray) ++ (⟨x.toArray⟩ : ByteArray) ++ (⟨Q.toArray⟩ : ByteArray) ++ (⟨y.toArray⟩ : ByteArray) ++ (⟨#[41]⟩ : ByteArray) ++ (⟨P.toArray⟩ : ByteArray) ++ (⟨z.toArray⟩ : ByteArray)) ∧
    ((⟨(Ls pp qq rr i j l 2).toArray⟩ : ByteArray) = (⟨x.toArray⟩ : ByteArray) ++ (⟨P.toArray⟩ : ByteArray) ++ (⟨y.toArray⟩ : ByteArray) ++ (⟨R.toArray⟩ : ByteArray) ++ (⟨z.toArray⟩ : ByteArray)) ∧ ((⟨(Rs pp qq rr i j l 2).toArray⟩ : ByteArray) = (⟨#[40]⟩ : ByteArray) ++ (⟨x.toArray⟩ : ByteArray) ++ (⟨P.toArray⟩ : ByteArray) ++ (⟨y.toArray⟩ : ByteArray) ++ (⟨#[41]⟩ : ByteArray) ++ (⟨R.toArray⟩ : ByteArray) ++ (⟨z.toArray⟩ : ByteArray)) ∧
    ((⟨(Ls pp qq rr i j l 3).toArray⟩ : ByteArray) = (⟨x.toArray⟩ : ByteArray) ++ (⟨R.toArray⟩ : ByteArray) ++ (⟨y.toArray⟩ : ByteArray) ++ (⟨#[32, 97, 110, 100, 32]⟩ : ByteArray) ++ (⟨z.toArray⟩ : ByteArray)) ∧ ((⟨(Rs pp qq rr i j l 3).toArray⟩ : ByteArray) = (⟨#[40]⟩ : ByteArray) ++ (⟨x.toArray⟩ : ByteArray) ++ (⟨R.toArray⟩ : ByteArray) ++ (⟨y.toArray⟩ : ByteArray) ++ (⟨#[41, 32, 97, 110, 100, 32]⟩ : ByteArray) ++ (⟨z.toArray⟩ : ByteArray)) ∧
    ((⟨(Ls pp qq rr i j l 4).toArray⟩ : ByteArray) = (⟨x.toArray⟩ : ByteArray) ++ (⟨#[32, 111, 114, 32]⟩ : ByteArray) ++ (⟨y.toArray⟩ : ByteArray) ++ (⟨#[32, 97, 110, 100, 32]⟩ : ByteArray) ++ (⟨z.toArray⟩ : ByteArray)) ∧ ((⟨(Rs pp qq rr i j l 4).toArray⟩ : ByteArray) = (⟨x.toArray⟩ : ByteArray) ++ (⟨#[32, 111, 114, 32, 40]⟩ : ByteArray) ++ (⟨y.toArray⟩ : ByteArray) ++ (⟨#[32, 97, 110, 100, 32]⟩ : ByteArray) ++ (⟨z.toArray⟩ : ByteArray) ++ (⟨#[41]⟩ : ByteArray)) ∧
    ((⟨(Ls pp qq rr i j l 5).toArray⟩ : ByteArray) = (⟨x.toArray⟩ : ByteArray) ++ (⟨P.toArray⟩ : ByteArray) ++ (⟨y.toArray⟩ : ByteArray) ++ (⟨P.toArray⟩ : ByteArray) ++ (⟨z.toArray⟩ : ByteArray)) ∧ ((⟨(Rs pp qq rr i j l 5).toArray⟩ : ByteArray) = (⟨#[40]⟩ : ByteArray) ++ (⟨x.toArray⟩ : ByteArray) ++ (⟨P.toArray⟩ : ByteArray) ++ (⟨y.toArray⟩ : ByteArray) ++ (⟨#[41]⟩ : ByteArray) ++ (⟨P.toArray⟩ : ByteArray) ++ (⟨z.toArray⟩ : ByteArray)) ∧
    ((⟨(Ls pp qq rr i j l 6).toArray⟩ : ByteArray) = (⟨#[45]⟩ : ByteArray) ++ (⟨x.toArray⟩ : ByteArray) ++ (⟨Q.toArray⟩ : ByteArray) ++ (⟨y.toArray⟩ : ByteArray)) ∧ ((⟨(Rs pp qq rr i j l 6).toArray⟩ : ByteArray) = (⟨#[40, 45]⟩ : ByteArray) ++ (⟨x.toArray⟩ : ByteArray) ++ (⟨#[41]⟩ : ByteArray) ++ (⟨Q.toArray⟩ : ByteArray) ++ (⟨y.toArray⟩ : ByteArray)) := by
  rw [dg_sg] at hx hy hz
  subst hx; subst hy; subst hz; subst hP; subst hQ; subst hR
  refine ⟨?_, ?_, ?_, ?_, ?_, ?_, ?_, ?_, ?_, ?_, ?_, ?_, ?_, ?_⟩
  all_goals
    apply bs_ext2
    simp [Ls, Rs, lhs, rhs]
theorem same_ev {pp qq rr : Pc} (hpp : pp ∈ pP) (hqq : qq ∈ qP) (hrr : rr ∈ rP) (a b c : Int) {k : Nat} (hk : k < 7) :
    ev (Ls pp qq rr (a.tmod 10000) (b.tmod 10000) (c.tmod 10000) k) = ev (Rs pp qq rr (a.tmod 10000) (b.tmod 10000) (c.tmod 10000) k) := by
  have h1 := tmod_bd4 a; have h2 := tmod_bd4 b; have h3 := tmod_bd4 c
  exact prec_ev (dec_dgt (by omega)) (dec_dgt (by omega)) (dec_dgt (by omega)) _ _ _ hpp hqq hrr hk
theorem EvF (s : ByteArray) (L : List UInt8) (h : s.data.toList = L) (n d x : Int) (hv : ev L = ⟨n, d, x⟩) (w : World) (ht : Tb w) : Calls Tryd.prog 8 #[.string s] w fun e w' => e = .returned (.tuple #[.agg #[.int .i64 n, .int .i64 d], .int .i64 x]) ∧ Below w.heap.size w w' := by
  have h2 := Eval_any s w ht
  rw [h, hv] at h2
  exact h2
set_option maxRecDepth 100000 in
set_option maxHeartbeats 8000000 in
theorem FormulaPrecedence_any (a b c o : Int) (w : World) (ht : Tb w) : Calls Tryd.prog 5 #[.int .i64 a, .int .i64 b, .int .i64 c, .int .i64 o] w fun e w' => e = .returned (.bool true) ∧ Below w.heap.size w w' := by
  have HDa := Lib.hid (digitsM_any a)
  have HDb := Lib.hid (digitsM_any b)
  have HDc := Lib.hid (digitsM_any c)
  have hla := dg_len _ (tmod_bd4 a)
  have hlb := dg_len _ (tmod_bd4 b)
  have hlc := dg_len _ (tmod_bd4 c)
  obtain ⟨k1, h1, e1⟩ := and_lt o 1 (by decide)
  have e1 : bits .and .i64 o 1 = (k1 : Int) := e1
  obtain ⟨k2, h2, e2⟩ := tm3 (o / 2)
  obtain ⟨k3, h3, e3⟩ := and_lt (o / 8) 1 (by decide)
  have e3 : bits .and .i64 (o / 8) 1 = (k3 : Int) := e3
  obtain ⟨pp, hpp, P, HP, hlP, hsP⟩ := p_pick h1
  obtain ⟨qq, hqq, Q, HQ, hlQ, hsQ⟩ := q_pick h2
  obtain ⟨rr, hrr, R, HR, hlR, hsR⟩ := r_pick h3
  have i1 : (k1 : Int) < 2 := by omega
  have i2 : (k2 : Int) < 3 := by omega
  have i3 : (k3 : Int) < 2 := by omega
  have g1 : k1 < 2 := by omega
  have g2 : k2 < 3 := by omega
  have g3 : k3 < 2 := by omega
  obtain ⟨x, hx⟩ : ∃ x, dg (a.tmod 10000) = x := ⟨_, rfl⟩
  obtain ⟨y, hy⟩ : ∃ y, dg (b.tmod 10000) = y := ⟨_, rfl⟩
  obtain ⟨z, hz⟩ : ∃ z, dg (c.tmod 10000) = z := ⟨_, rfl⟩
  rw [hx] at HDa hla
  rw [hy] at HDb hlb
  rw [hz] at HDc hlc
  have HX := Lib.hid hx; have HY := Lib.hid hy; have HZ := Lib.hid hz
  have HT := Lib.hid ht
  clear ht hx hy hz
  go_enter Tryd.func5, Tryd.ntmps5
  go_wp2_with fail
  (with_reducible refine (HDa.out _).mono ?_)
  rintro e w1 ⟨rfl, hb1⟩
  have HB1 := Lib.hid hb1; clear hb1
  go_wp2_with fail
  (with_reducible refine (HDb.out _).mono ?_)
  rintro e w2 ⟨rfl, hb2⟩
  have HB2 := Lib.hid (HB1.out.trans (hb2.mono HB1.out.size)); clear hb2
  go_wp2_with fail
  (with_reducible refine (HDc.out _).mono ?_)
  rintro e w3 ⟨rfl, hb3⟩
  have HB3 := Lib.hid (HB2.out.trans (hb3.mono HB2.out.size)); clear hb3
  go_wp2_with fail
  go_loopw [16] (fun i wr => ∃ k : Nat, i = .int .i64 k ∧ k ≤ 7 ∧ Hid (Fc w (w3.heap.size + 1 + 1 + 1) (fun k => ⟨(Ls pp qq rr (a.tmod 10000) (b.tmod 10000) (c.tmod 10000) k).toArray⟩) (fun k => ⟨(Rs pp qq rr (a.tmod 10000) (b.tmod 10000) (c.tmod 10000) k).toArray⟩) wr)) (fun i _ => 7 - (intOf i).toNat)
  case atStart =>
    refine ⟨0, rfl, by omega, Lib.hid ?_⟩
    obtain ⟨t0, u0, t1, u1, t2, u2, t3, u3, t4, u4, t5, u5, t6, u6⟩ := tx HX.out HY.out HZ.out HP.out HQ.out HR.out
    have hu : Up w (((w3.alloc (.cells #[.string ⟨#[32, 43, 32]⟩, .string ⟨#[32, 45, 32]⟩] 9)).alloc (.cells #[.string ⟨#[32, 42, 32]⟩, .string ⟨#[32, 109, 111, 100, 32]⟩, .string ⟨#[32, 47, 32]⟩] 9)).alloc (.cells #[.string ⟨#[32, 61, 32]⟩, .string ⟨#[32, 60, 32]⟩] 9)) := ((Up.alloc HB3.out _).alloc _).alloc _
    exact fc_start (by simp) hu t0 u0 t1 u1 t2 u2 t3 u3 t4 u4 t5 u5 t6 u6
  case round =>
    obtain ⟨k, rfl, hk, HF⟩ := hrel
    clear HDa HDb HDc hlP hsP hlQ hsQ hlR hsR i1 i2 i3 g1 g2 g3 e1 e2 e3 h1 h2 h3 hla hlb hlc
    by_cases hlt : k < 7
    · have d1 : decide ((k : Int) < 7) = true := by rw [decide_eq_true_iff]; omega
      have hk7 : (k : Int) < 7 := by omega
      have hse := same_ev hpp hqq hrr a b c hlt
      obtain ⟨n, d, e, hV⟩ : ∃ n d e, ev (Ls pp qq rr (a.tmod 10000) (b.tmod 10000) (c.tmod 10000) k) = ⟨n, d, e⟩ := ⟨_, _, _, rfl⟩
      rw [hV] at hse
      have HE1 := Lib.hid (EvF ⟨(Ls pp qq rr (a.tmod 10000) (b.tmod 10000) (c.tmod 10000) k).toArray⟩ _ (by simp) _ _ _ hV)
      have HE2 := Lib.hid (EvF ⟨(Rs pp qq rr (a.tmod 10000) (b.tmod 10000) (c.tmod 10000) k).toArray⟩ _ (by simp) _ _ _ hse.symm)
      have HC : Hid (∀ W, Fc w (w3.heap.size + 1 + 1 + 1) (fun k => ⟨(Ls pp qq rr (a.tmod 10000) (b.tmod 10000) (c.tmod 10000) k).toArray⟩) (fun k => ⟨(Rs pp qq rr (a.tmod 10000) (b.tmod 10000) (c.tmod 10000) k).toArray⟩) W → _) := Lib.hid (fun W h => Fc.cells h hlt)
      obtain ⟨gk, hgk⟩ : ∃ gk, w3.heap.size + 1 + 1 + 1 + k = gk := ⟨_, rfl⟩
      simp only [hgk] at HC
      obtain ⟨c1, c2', c3, cl, cl2⟩ := HC.out _ HF.out
      have c1 : wr.cell? ⟨w3.heap.size + 1 + 1 + 1 + 1 + 1 + 1 + 1 + 1 + 1 + 1, k, none⟩ = some (.slice (some ⟨gk, 0, none⟩) 2 2) := c1
      have cl : w3.heap.size + 1 + 1 + 1 + 1 + 1 + 1 + 1 + 1 + 1 + 1 < wr.heap.size := cl
      generalize Ls pp qq rr (a.tmod 10000) (b.tmod 10000) (c.tmod 10000) k = u at HE1 c2'
      have HL := Lib.hid hlt
      clear hV hse hgk hlt hk
      go_wp2_with fail
      have HT1 := Lib.hid (HT.out.below (show Below w.heap.size w wr from HF.out.up))
      (with_reducible refine (HE1.out _ HT1.out).mono ?_)
      rintro e5 w5 ⟨rfl, hb5⟩
      have F5 := HF.out.call hb5
      obtain ⟨a1, a2, a3, al, al2⟩ := HC.out _ F5
      have a1 : w5.cell? ⟨w3.heap.size + 1 + 1 + 1 + 1 + 1 + 1 + 1 + 1 + 1 + 1, k, none⟩ = some (.slice (some ⟨gk, 0, none⟩) 2 2) := a1
      have al : w3.heap.size + 1 + 1 + 1 + 1 + 1 + 1 + 1 + 1 + 1 + 1 < w5.heap.size := al
      have HF5 := Lib.hid (F5.alloc (nb1 n d))
      clear hb5 F5 a2 c1 c2' c3 cl cl2
      generalize Rs pp qq rr (a.tmod 10000) (b.tmod 10000) (c.tmod 10000) k = v at HE2 a3
      go_wp2_with fail
      refine (HE2.out _ (HT.out.below HF5.out.up)).mono ?_
      rintro e6 w6 ⟨rfl, hb6⟩
      have p6 : At w5.heap.size (nb1 n d) w6 := At.call hb6 (nhh _ _)
      obtain ⟨p0, p1, _, _, pl⟩ := p6.n2
      have HF6 := Lib.hid ((HF5.out.call hb6).alloc (nb1 n d))
      have he : eqN n d n d = true := by simp [eqN]
      have eqr := neq_num
      clear hb6 p6 a1 a3 al al2
      go_wp2_with fail
      go_roundw
      case rel => exact ⟨k + 1, by simp, by have := HL.out; omega, HF6⟩
      case measure => have := HL.out; simp [intOf]; omega
    · have hk7 : k = 7 := by omega
      subst hk7
      have HK := Lib.hid (known_any wr (HT.out.below HF.out.up))
      clear hlt hk
      go_wp2_with fail
      refine HK.out.mono ?_
      rintro e w6 ⟨rfl, hb6⟩
      go_wp2
      go_ret
      exact ⟨rfl, Below.trans HF.out.up (hb6.mono HF.out.up.size)⟩
end Go.Proofs.YtfocokjihbenmaaDoor.Fo
