/-
  The law ParseNests, for every number.
-/
import Derived.Test.YtdogoblnblkogaaDoorPaF
import Derived.Test.YtdogoblnblkogaaDoorPaNr
namespace Go.Proofs.YtdogoblnblkogaaDoor.Pa
open Go.RowKit Go.Proofs.YtdogoblnblkogaaDoor.Tr
set_option linter.unusedVariables false

theorem and_low (n : Int) (k : Nat) (h : k < 64) : 0 ≤ bits .and .i64 n k ∧ bits .and .i64 n k ≤ k := by
  have h2 : (BitVec.ofInt 64 (k : Int)).toNat = k := by rw [BitVec.toNat_ofInt]; omega
  have h3 : (BitVec.ofInt 64 n).toNat &&& k ≤ k := Nat.and_le_right
  have e : bits .and .i64 n k = IntKind.i64.wrap ((BitVec.ofInt 64 n &&& BitVec.ofInt 64 k).toNat : Int) := rfl
  rw [e, BitVec.toNat_and, h2, IntKind.wrap_i64]
  omega
theorem rep_rp (l : List UInt8) : ∀ c, Lib.repeatL l c = rp c l
  | 0 => rfl
  | c + 1 => by
    show l ++ Lib.repeatL l c = rp (c + 1) l
    rw [rep_rp l c]
    unfold rp
    rw [List.replicate_succ, List.flatten_cons]
/-- The first node of a list that is read. -/
theorem LX.at0 {w : World} {X : Nat → Prop} {v : Value} {n : Nd} {r : List Nd} (h : LX w X v (n :: r)) : ∃ g o c vk va, v = .slice (some ⟨g, o, none⟩) (n :: r).length c ∧ (n :: r).length ≤ c ∧ c ≤ 9223372036854775807 ∧ X g ∧ w.cell? ⟨g, o, none⟩ = some (.int .i64 n.kind) ∧ w.cell? ⟨g, o + 1, none⟩ = some (.int .i64 n.tag) ∧ w.cell? ⟨g, o + 2, none⟩ = some (.string n.text) ∧ w.cell? ⟨g, o + 3, none⟩ = some vk ∧ w.cell? ⟨g, o + 4, none⟩ = some va ∧ Fit n.kind ∧ LX w X vk n.kids ∧ AX w X va n.args := by
  obtain ⟨d, h⟩ := h
  cases d with
  | zero => exact h.elim
  | succ d =>
    obtain ⟨_, A, c, rfl, h2, h3, R⟩ := h
    obtain ⟨g, o, rfl, hg, q⟩ := R (by simp)
    obtain ⟨vk, va, a1, a2, a3, a4, a5, f1, f2, a6, a7⟩ := q 0 (by simp) n rfl
    simp only [Nat.zero_mul, Nat.add_zero] at a1 a2 a3 a4 a5
    exact ⟨g, o, c, vk, va, rfl, h2, by simpa [maxLen] using h3, hg, a1, a2, a3, a4, a5, f1, ⟨d, a6⟩, ⟨d, a7⟩⟩
theorem cnt_stop (f : Nat) {n : Nd} {r : List Nd} (h : n.kind ≠ 4 ∨ n.args = []) : cnt f (n :: r) = 0 := by
  cases f with
  | zero => rfl
  | succ f =>
    unfold cnt
    cases ha : n.args with
    | nil => rfl
    | cons a q =>
      rcases h with h | h
      · simp only; rw [if_neg h]
      · rw [h] at ha; cases ha
theorem cnt_go (f : Nat) {n : Nd} {r : List Nd} {a : Ar} {q : List Ar} (h : n.kind = 4) (ha : n.args = a :: q) : cnt (f + 1) (n :: r) = 1 + cnt f a.value := by
  rw [cnt, ha]
  simp only
  rw [if_pos h]
theorem cnt_nil (f : Nat) : cnt f [] = 0 := by cases f <;> rfl
/-- A string that was repeated. -/
theorem rep_any (s : ByteArray) (k m : Nat) (w : World) (hk : s.size = k) (hm : m ≤ 1000) (hk2 : k ≤ 1000) : Calls Tryd.prog 12 #[.string s, .int .i64 (m : Int)] w fun e w' => ∃ S : ByteArray, e = .returned (.string S) ∧ S.size = k * m ∧ Hid (S.data.toList = rp m s.data.toList) ∧ Below w.heap.size w w' :=
  (Tryd.strings_Repeat s m w (by omega) (by rw [hk]; exact Nat.le_trans (Nat.mul_le_mul hk2 hm) (by decide))).mono fun _ _ ⟨a, b⟩ => ⟨_, a, by
    show (Lib.repeatL s.data.toList m).length = _
    rw [Lib.repeatL_length, Nat.mul_comm]
    have : s.data.toList.length = s.size := rfl
    rw [this, hk], Lib.hid (rep_rp _ _), b⟩
set_option maxRecDepth 100000 in
set_option maxHeartbeats 4000000 in
theorem ParseNests_any (n : Int) (w : World) (ht : Tk.Tb w) : Calls Tryd.prog 4 #[.int .i64 n] w fun e w' => e = .returned (.bool true) ∧ Below w.heap.size w w' := by
  have HT := Lib.hid ht
  clear ht
  obtain ⟨k0, k3⟩ := and_low n 31 (by decide)
  obtain ⟨m, hm⟩ : ∃ m : Nat, bits BinOp.and IntKind.i64 n 31 = (m : Int) := ⟨(bits BinOp.and IntKind.i64 n 31).toNat, by have : (0 : Int) ≤ bits BinOp.and IntKind.i64 n 31 := k0; omega⟩
  have k0' : bits BinOp.and IntKind.i64 n 31 ≤ 31 := k3
  have hm31 : m ≤ 31 := by omega
  have HR1 := Lib.hid (rep_any ⟨#[123, 123, 97, 124]⟩ 4 m w rfl (by omega) (by omega))
  have HC := Lib.hid (nest_cnt (n := m) (by omega))
  clear k0 k3 k0'
  go_enter Tryd.func4, Tryd.ntmps4
  go_wp2_with fail
  refine HR1.out.mono ?_
  rintro e w1 ⟨S1, rfl, z1, h1, b1⟩
  have B1 := Lib.hid b1
  clear b1 HR1
  go_wp2_with fail
  refine (rep_any ⟨#[125, 125]⟩ 2 m w1 rfl (by omega) (by omega)).mono ?_
  rintro e w2 ⟨S2, rfl, z2, h2, b2⟩
  have B2 := Lib.hid (B1.out.trans (b2.mono B1.out.size))
  clear b2 B1
  have hz : (S1 ++ S2).size ≤ 8192 := by rw [ByteArray.size_append]; omega
  have HL : Hid ((S1 ++ S2).data.toList = nestT m) := Lib.hid (by rw [show (S1 ++ S2).data.toList = S1.data.toList ++ S2.data.toList by simp, h1.out, h2.out]; rfl)
  clear h1 h2
  go_wp2_with fail
  refine (Parse_any _ w2 (HT.out.below B2.out) hz).mono ?_
  rintro e w3 ⟨v, d, rfl, l3, b3⟩
  replace l3 := Eq.mp (congrArg (fun q => LRx d w3 (In w2.heap.size w3) v (tree (toks q))) HL.out) l3
  clear hz HL
  generalize tree (toks (nestT m)) = L at l3 HC
  obtain ⟨A, c, hv⟩ := l3.form
  subst hv
  have B3 := Lib.hid (B2.out.trans (b3.mono B2.out.size))
  have L3 := Lib.hid (LRx.lx l3)
  clear l3 b3 B2
  go_wp2
  go_loopw [3, 5] (fun vl op wr => ∃ (k : Nat) (M : List Nd), op = .int .i64 k ∧ Hid (cnt (40 - k) M + k = min m 20) ∧ k ≤ 20 ∧ Hid (LX w3 (fun g => g < w3.heap.size) vl M) ∧ wr = w3) (fun _ op _ => 40 - (intOf op).toNat)
  case atStart => exact ⟨0, L, rfl, HC, by omega, L3, rfl⟩
  case round =>
    obtain ⟨k, M, rfl, hc, hk, hl, rfl⟩ := hrel
    have stop : cnt (40 - k) M = 0 → (k : Int) = min (m : Int) 20 := fun h => by have := hc.out; omega
    cases M with
    | nil =>
      obtain ⟨A, c, rfl⟩ := hl.out.form
      have hs := stop (cnt_nil _)
      clear hc hl stop
      go_wp2_with fail
      refine (known_any wr (HT.out.below B3.out)).mono ?_
      rintro e w4 ⟨rfl, b4⟩
      go_wp2_with fail
      go_ret
      exact ⟨rfl, B3.out.trans (b4.mono B3.out.size)⟩
    | cons x r =>
      obtain ⟨g, o, c, vk, va, rfl, c1, c2, hg, a1, a2, a3, a4, a5, f1, lk, la⟩ := hl.out.at0
      have hpos : (0 : Int) < ((x :: r).length : Int) := by simp only [List.length_cons]; omega
      by_cases h4 : x.kind = 4
      · cases ha : x.args with
        | nil =>
          have hs := stop (cnt_stop _ (.inr ha))
          rw [ha] at la
          obtain ⟨A2, c2, rfl⟩ := la.form
          rw [h4] at a1
          clear hc hl stop
          go_wp2_with fail
          refine (known_any wr (HT.out.below B3.out)).mono ?_
          rintro e w4 ⟨rfl, b4⟩
          go_wp2_with fail
          go_ret
          exact ⟨rfl, B3.out.trans (b4.mono B3.out.size)⟩
        | cons a q =>
          rw [ha] at la
          obtain ⟨ga, oa, ca, vn, vv, rfl, c3, c4, hga, b1, b2, b3, ln, lv⟩ := AX.at la (i := 0) (by simp)
          simp only [Nat.zero_mul, Nat.add_zero] at b1 b2 b3
          have hpa : (0 : Int) < ((a :: q).length : Int) := by simp only [List.length_cons]; omega
          have hstep : cnt (40 - k) (x :: r) = 1 + cnt (40 - (k + 1)) a.value := by
            rw [show 40 - k = (40 - (k + 1)) + 1 by omega]; exact cnt_go _ h4 ha
          have hk19 : k + 1 ≤ 20 := by have := hc.out; omega
          have hc2 := Lib.hid (show cnt (40 - (k + 1)) a.value + (k + 1) = min m 20 by have := hc.out; omega)
          have lv2 := Lib.hid (show LX wr (fun g => g < wr.heap.size) vv a.value from lv)
          rw [h4] at a1
          clear hc hl stop lv ln hstep
          obtain ⟨A3, c5, rfl⟩ := lv2.out.form
          go_wp2
          go_roundw
          case rel => exact ⟨k + 1, a.value, by go_num, hc2, hk19, lv2, trivial⟩
          case measure => simp [intOf]; omega
      · have hs := stop (cnt_stop _ (.inl h4))
        clear hc hl stop
        go_wp2_with fail
        refine (known_any wr (HT.out.below B3.out)).mono ?_
        rintro e w4 ⟨rfl, b4⟩
        go_wp2_with fail
        go_ret
        exact ⟨rfl, B3.out.trans (b4.mono B3.out.size)⟩
end Go.Proofs.YtdogoblnblkogaaDoor.Pa
