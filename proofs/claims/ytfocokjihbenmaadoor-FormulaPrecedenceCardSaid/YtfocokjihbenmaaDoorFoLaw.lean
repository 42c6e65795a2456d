/-
  The law on logic (P8.2).
-/
import Derived.Test.YtfocokjihbenmaaDoorFoKnown
namespace Go.Proofs.YtfocokjihbenmaaDoor.Fo
open Go.RowKit Go.Proofs.YtfocokjihbenmaaDoor.Nu
set_option linter.unusedVariables false
set_option linter.unusedSimpArgs false

def eqN (a p b q : Int) : Bool := decide (a = b ∧ p = q)
theorem eq_run (a p b q : Int) (w : World) : (Op.equalIn 10000 23 (.agg #[.int .i64 a, .int .i64 p]) (.agg #[.int .i64 b, .int .i64 q])).run Tryd.prog w = .ok (eqN a p b q) w := by
  rw [show (10000 : Nat) = 9998 + 1 + 1 from rfl, run_equalIn_agg _ _ _ _ _ (by kernel_rfl) (by kernel_rfl)]
  go_simp
  unfold eqN
  by_cases h1 : a = b
  · by_cases h2 : p = q
    · simp [h1, h2]
    · simp [h1, h2]
  · simp [h1]
theorem eq_num (a p b q : Int) (w : World) : (binOp .eql 23 (.agg #[.int .i64 a, .int .i64 p]) (.agg #[.int .i64 b, .int .i64 q])).run Tryd.prog w = .ok (.bool (eqN a p b q)) w := by
  rw [run_eql_struct, eq_run]
  simp
set_option maxRecDepth 100000 in
theorem known_any (w : World) (ht : Tb w) : Calls Tryd.prog 10 #[] w fun e w' => e = .returned (.bool true) ∧ Below w.heap.size w w' := by
  have HE : Hid (Calls Tryd.prog 8 #[.string ⟨#[50, 32, 43, 32, 51, 32, 42, 32, 52, 32, 61, 32, 49, 52]⟩] w fun e w' => e = .returned (.tuple #[.agg #[.int .i64 1, .int .i64 1], .int .i64 0]) ∧ Below w.heap.size w w') := Lib.hid (by
    have h := Eval_any ⟨#[50, 32, 43, 32, 51, 32, 42, 32, 52, 32, 61, 32, 49, 52]⟩ w ht
    rw [show ((⟨#[50, 32, 43, 32, 51, 32, 42, 32, 52, 32, 61, 32, 49, 52]⟩ : ByteArray).data.toList) = [50, 32, 43, 32, 51, 32, 42, 32, 52, 32, 61, 32, 49, 52] from rfl, ev_known] at h
    exact h)
  go_enter Tryd.func10, Tryd.ntmps10
  go_wp2_with fail
  refine HE.out.mono ?_
  rintro e w1 ⟨rfl, hb⟩
  go_wp2
  go_ret
  exact ⟨rfl, hb.alloc hb.size _⟩
theorem itoa_len (n : Int) (h : n.natAbs ≤ 9999) : (Lib.itoa n).length ≤ 20 := by
  have h1 := dec_len19 (u := n.natAbs) (by omega)
  unfold Lib.itoa
  split
  · simp; omega
  · have e : n.toNat = n.natAbs := by omega
    first | (rw [e]; omega) | omega
theorem dg_len (i : Int) (h : i.natAbs ≤ 9999) : (dg i).length ≤ 22 := by
  have h1 := itoa_len i h
  unfold dg
  split
  · simp; omega
  · omega
theorem tmod_small (n : Int) (m : Nat) (h : n.natAbs < m) : n.tmod (m : Int) = n := by
  rcases Int.natAbs_eq n with e | e
  · rw [e]; exact Int.tmod_eq_of_lt (by omega) (by omega)
  · rw [e, Int.neg_tmod, Int.tmod_eq_of_lt (by omega) (by omega)]
theorem tmod_bd (n : Int) : (n.tmod 3).natAbs ≤ 2 := by
  have := Int.natAbs_tmod n 3
  rw [this]
  have h2 : n.natAbs % (Int.natAbs 3) < Int.natAbs 3 := Nat.mod_lt _ (by decide)
  have h3 : Int.natAbs 3 = 3 := rfl
  omega
set_option maxRecDepth 100000 in
theorem digits_any (n : Int) (h : n.natAbs ≤ 9999) (w : World) : Calls Tryd.prog 13 #[.int .i64 n] w fun e w' => e = .returned (.string ⟨(dg n).toArray⟩) ∧ Below w.heap.size w w' := by
  have hm : n.tmod 10000 = n := tmod_small n 10000 (by omega)
  have HD := Lib.hid (RItoa_any n w (by omega))
  have hl := itoa_len n h
  by_cases h0 : n < 0
  · have hd : decide (n < 0) = true := decide_eq_true h0
    have HG : Hid (dg n = [40] ++ Lib.itoa n ++ [41]) := Lib.hid (if_pos h0)
    clear h0
    go_enter Tryd.func13, Tryd.ntmps13
    go_wp2_with fail
    refine HD.out.mono ?_
    rintro e w1 ⟨rfl, hb⟩
    go_wp2
    go_ret
    refine ⟨?_, hb⟩
    rw [HG.out]
    show Ending.returned (Value.string ((⟨#[40]⟩ : ByteArray) ++ ⟨(Lib.itoa n).toArray⟩ ++ ⟨#[41]⟩)) = _
    congr 2
  · have hd : decide (n < 0) = false := decide_eq_false h0
    have HG : Hid (dg n = Lib.itoa n) := Lib.hid (if_neg h0)
    clear h0
    go_enter Tryd.func13, Tryd.ntmps13
    go_wp2_with fail
    refine HD.out.mono ?_
    rintro e w1 ⟨rfl, hb⟩
    go_wp2
    go_ret
    exact ⟨by rw [HG.out]; rfl, hb⟩
theorem EvOne (s : ByteArray) (L : List UInt8) (h : s.data.toList = L) (hv : ev L = ⟨1, 1, 0⟩) (w : World) (ht : Tb w) : Calls Tryd.prog 8 #[.string s] w fun e w' => e = .returned (.tuple #[.agg #[.int .i64 1, .int .i64 1], .int .i64 0]) ∧ Below w.heap.size w w' := by
  have h2 := Eval_any s w ht
  rw [h, hv] at h2
  exact h2
theorem one_iff {r : R3} (h : isOne r = true) : r = ⟨1, 1, 0⟩ := by
  obtain ⟨n, d, e⟩ := r
  unfold isOne at h
  simp at h
  obtain ⟨rfl, rfl, rfl⟩ := h
  rfl
theorem sm_mem {i : Int} (h : i.natAbs ≤ 2) : i ∈ sm := by
  unfold sm
  have : i = -2 ∨ i = -1 ∨ i = 0 ∨ i = 1 ∨ i = 2 := by omega
  rcases this with rfl | rfl | rfl | rfl | rfl <;> decide
theorem logic_ev {i j : Int} (hi : i.natAbs ≤ 2) (hj : j.natAbs ≤ 2) : ev (e1 (dg i) (dg j)) = ⟨1, 1, 0⟩ ∧ ev (e2 (dg i) (dg j)) = ⟨1, 1, 0⟩ ∧ ev (e3 (dg i) (dg j)) = ⟨1, 1, 0⟩ := by
  have h := all_ok
  unfold allOk at h
  have h1 := List.all_eq_true.1 (List.all_eq_true.1 h i (sm_mem hi)) j (sm_mem hj)
  simp only [Bool.and_eq_true] at h1
  exact ⟨one_iff h1.1.1, one_iff h1.1.2, one_iff h1.2⟩
def nb1 (n d : Int) : Obj := .cells #[.int .i64 n, .int .i64 d] 23
theorem nhh (w : World) (o : Obj) : (w.alloc o).heap[w.heap.size]? = some o := by
  show (w.heap.push o)[w.heap.size]? = _
  rw [Array.getElem?_push, if_pos rfl]
theorem lth {W : World} {g : Nat} {o : Obj} (h : W.heap[g]? = some o) : g < W.heap.size := (Array.getElem?_eq_some_iff.1 h).1
theorem cc2 {W : World} {c : Nat} {n d : Int} (h : W.heap[c]? = some (nb1 n d)) : W.cell? ⟨c, 0, none⟩ = some (.int .i64 n) ∧ W.cell? ⟨c, 1, none⟩ = some (.int .i64 d) := by
  refine ⟨?_, ?_⟩
  · unfold World.cell?; rw [h]; rfl
  · unfold World.cell?; rw [h]; rfl
set_option maxRecDepth 100000 in
set_option maxHeartbeats 4000000 in
theorem FormulaLogic_any (a b : Int) (w : World) (ht : Tb w) : Calls Tryd.prog 6 #[.int .i64 a, .int .i64 b] w fun e w' => e = .returned (.bool true) ∧ Below w.heap.size w w' := by
  obtain ⟨i, hi⟩ : ∃ i, a.tmod 3 = i := ⟨_, rfl⟩
  obtain ⟨j, hj⟩ : ∃ j, b.tmod 3 = j := ⟨_, rfl⟩
  have hi2 : i.natAbs ≤ 2 := by rw [← hi]; exact tmod_bd a
  have hj2 : j.natAbs ≤ 2 := by rw [← hj]; exact tmod_bd b
  have HV := Lib.hid (logic_ev hi2 hj2)
  have HDi := Lib.hid (digits_any i (by omega))
  have HDj := Lib.hid (digits_any j (by omega))
  have hli := dg_len i (by omega)
  have hlj := dg_len j (by omega)
  have HT := Lib.hid ht
  generalize dg i = x at HV HDi hli
  generalize dg j = y at HV HDj hlj
  clear hi2 hj2 ht
  go_enter Tryd.func6, Tryd.ntmps6
  go_wp2_with fail
  refine (HDi.out _).mono ?_
  rintro e w1 ⟨rfl, hb1⟩
  have HB1 := Lib.hid hb1; clear hb1
  go_wp2_with fail
  refine (HDj.out _).mono ?_
  rintro e w2 ⟨rfl, hb2⟩
  have HB2 := Lib.hid (HB1.out.trans (hb2.mono HB1.out.size)); clear hb2
  go_wp2_with fail
  refine (EvOne _ (e1 x y) (by simp [e1]) HV.out.1 _ (HT.out.below HB2.out)).mono ?_
  rintro e w3 ⟨rfl, hb3⟩
  have HB3 := Lib.hid (HB2.out.trans (hb3.mono HB2.out.size)); clear hb3
  go_wp2_with fail
  have HA3 := Lib.hid (HB3.out.alloc HB3.out.size (nb1 1 1))
  refine (EvOne _ (e2 x y) (by simp [e2]) HV.out.2.1 _ (HT.out.below HA3.out)).mono ?_
  rintro e w4 ⟨rfl, hb4⟩
  have p4 : w4.heap[w3.heap.size]? = some (nb1 1 1) := (hb4.block _ (by simp)).trans (nhh _ _)
  have HB4 := Lib.hid (HA3.out.trans (hb4.mono HA3.out.size))
  have z4 := lth p4
  have HP4 := Lib.hid p4
  clear hb4 p4
  go_wp2_with fail
  have HA4 := Lib.hid (HB4.out.alloc HB4.out.size (nb1 1 1))
  refine (EvOne _ (e3 x y) (by simp [e3]) HV.out.2.2 _ (HT.out.below HA4.out)).mono ?_
  rintro e w5 ⟨rfl, hb5⟩
  have q5 : w5.heap[w4.heap.size]? = some (nb1 1 1) := (hb5.block _ (by simp)).trans (nhh _ _)
  have p5 : w5.heap[w3.heap.size]? = some (nb1 1 1) := (hb5.block _ (by simp; omega)).trans ((Below.heap_alloc _ _ _ z4).trans HP4.out)
  have HB5 := Lib.hid (HA4.out.trans (hb5.mono HA4.out.size))
  have z5 := lth p5
  have z6 := lth q5
  obtain ⟨p50, p51⟩ := cc2 p5
  obtain ⟨q50, q51⟩ := cc2 q5
  have he : eqN 1 1 1 1 = true := by decide
  have HA5 := Lib.hid ((HB5.out.alloc HB5.out.size (nb1 1 1)).alloc (by have := HB5.out.size; simp; omega) (nb1 1 1))
  have HK := Lib.hid (known_any ((w5.alloc (nb1 1 1)).alloc (nb1 1 1)) (HT.out.below HA5.out))
  clear hb5 q5 p5
  unfold nb1 at HK
  have eqr := eq_num
  go_wp2_with fail
  refine HK.out.mono ?_
  rintro e w6 ⟨rfl, hb6⟩
  go_wp2
  go_ret
  exact ⟨rfl, HA5.out.trans (hb6.mono HA5.out.size)⟩
end Go.Proofs.YtfocokjihbenmaaDoor.Fo
