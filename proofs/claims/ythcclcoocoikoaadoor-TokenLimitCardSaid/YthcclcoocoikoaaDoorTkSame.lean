/-
  A slice that reads as a list of tokens, and the contract of the reference's SameTokens.
-/
import Derived.Test.YthcclcoocoikoaaDoorTkScan
namespace Go.Proofs.YthcclcoocoikoaaDoor.Tk
open Go.RowKit

/-- The slice v reads as the list l of tokens, in blocks below B. -/
structure Rd (w : World) (B : Nat) (v : Value) (l : List Tok) : Prop where
  ex : ∃ A c, v = .slice A l.length c ∧ l.length ≤ c ∧ c ≤ maxLen ∧ (0 < l.length → ∃ g, A = some ⟨g, 0, none⟩ ∧ g < B ∧ ∀ (i : Nat) (x : Tok), l[i]? = some x →
    w.cell? ⟨g, i * 3, none⟩ = some (.int .i64 (x.1 : Int)) ∧ w.cell? ⟨g, i * 3 + 1, none⟩ = some (.int .i64 (x.2.1 : Int)) ∧ w.cell? ⟨g, i * 3 + 2, none⟩ = some (.int .i64 (x.2.2 : Int)))
theorem cellsOf_at : ∀ (l : List Tok) (i : Nat) (x : Tok), l[i]? = some x → (cellsOf l)[i * 3]? = some (.int .i64 (x.1 : Int)) ∧ (cellsOf l)[i * 3 + 1]? = some (.int .i64 (x.2.1 : Int)) ∧ (cellsOf l)[i * 3 + 2]? = some (.int .i64 (x.2.2 : Int))
  | [], i, x, h => by simp at h
  | a :: r, 0, x, h => by
    simp at h; subst h; simp [cellsOf]
  | a :: r, i + 1, x, h => by
    have ih := cellsOf_at r i x (by simpa using h)
    have e : cellsOf (a :: r) = [.int .i64 (a.1 : Int), .int .i64 (a.2.1 : Int), .int .i64 (a.2.2 : Int)] ++ cellsOf r := by simp [cellsOf]
    rw [e, show (i + 1) * 3 = i * 3 + 3 from by omega]
    refine ⟨?_, ?_, ?_⟩
    · rw [List.getElem?_append_right (by simp)]; simpa using ih.1
    · rw [List.getElem?_append_right (by simp)]; simpa using ih.2.1
    · rw [List.getElem?_append_right (by simp)]; simpa using ih.2.2
theorem Own.rd {w : World} {base : Nat} {v : Value} {l : List Tok} (h : Own w base v l) : Rd w w.heap.size v l := by
  rcases h.2 with ⟨h1, h2⟩ | ⟨g, cap, cur, h3, h4, h5, h6, h7, h8, h9⟩
  · exact ⟨none, 0, by rw [h1, h2], by omega, by simp [maxLen], fun hn => by omega⟩
  · refine ⟨some ⟨g, 0, none⟩, cap, h3, h6, h7, fun hn => ⟨g, rfl, (Array.getElem?_eq_some_iff.1 h5).1, fun i x hx => ?_⟩⟩
    have hc : ∀ (j : Nat) (u : Value), (cellsOf l)[j]? = some u → w.cell? ⟨g, j, none⟩ = some u := fun j u hu => by
      rw [cell_of_row _ _ _ _ _ _ h5]
      rw [← h9, List.getElem?_take] at hu
      split at hu
      · simpa using hu
      · cases hu
    obtain ⟨a1, a2, a3⟩ := cellsOf_at l i x hx
    exact ⟨hc _ _ a1, hc _ _ a2, hc _ _ a3⟩
theorem Rd.keep {w w' : World} {B : Nat} {v : Value} {l : List Tok} (h : Rd w B v l) (hk : ∀ p : Addr, p.block < B → w'.cell? p = w.cell? p) : Rd w' B v l := by
  obtain ⟨A, c, h1, h2, h3, h4⟩ := h.ex
  refine ⟨A, c, h1, h2, h3, fun hn => ?_⟩
  obtain ⟨g, h5, h6, h7⟩ := h4 hn
  exact ⟨g, h5, h6, fun i x hx => by
    obtain ⟨a1, a2, a3⟩ := h7 i x hx
    exact ⟨(hk _ h6).trans a1, (hk _ h6).trans a2, (hk _ h6).trans a3⟩⟩
theorem Rd.below {w w' : World} {B B' : Nat} {v : Value} {l : List Tok} (h : Rd w B v l) (hb : Below B' w w') (hB : B ≤ B') : Rd w' B v l := h.keep fun _ hp => hb.cell (by omega)
theorem Rd.more {w : World} {B B' : Nat} {v : Value} {l : List Tok} (h : Rd w B v l) (hB : B ≤ B') : Rd w B' v l := by
  obtain ⟨A, c, h1, h2, h3, h4⟩ := h.ex
  exact ⟨A, c, h1, h2, h3, fun hn => by
    obtain ⟨g, h5, h6, h7⟩ := h4 hn
    exact ⟨g, h5, by omega, h7⟩⟩

theorem neq_tok (x y : Tok) (w : World) : (binOp .neq 30 (.agg #[.int .i64 (x.1 : Int), .int .i64 (x.2.1 : Int), .int .i64 (x.2.2 : Int)]) (.agg #[.int .i64 (y.1 : Int), .int .i64 (y.2.1 : Int), .int .i64 (y.2.2 : Int)])).run Tryd.prog w = .ok (.bool (decide (x ≠ y))) w := by
  have h : (Op.equalIn 10000 30 (.agg #[.int .i64 (x.1 : Int), .int .i64 (x.2.1 : Int), .int .i64 (x.2.2 : Int)]) (.agg #[.int .i64 (y.1 : Int), .int .i64 (y.2.1 : Int), .int .i64 (y.2.2 : Int)])).run Tryd.prog w = .ok (decide (x = y)) w := by
    rw [show (10000 : Nat) = 9998 + 1 + 1 from rfl, run_equalIn_agg _ _ _ _ _ (by kernel_rfl) (by kernel_rfl)]
    go_simp
    obtain ⟨x1, x2, x3⟩ := x
    obtain ⟨y1, y2, y3⟩ := y
    simp only [Prod.mk.injEq]
    by_cases h1 : x1 = y1
    · by_cases h2 : x2 = y2
      · by_cases h3 : x3 = y3
        · simp [h1, h2, h3]
        · rw [if_pos (by omega), if_pos (by omega), if_neg (by omega)]; simp [h3]
      · rw [if_pos (by omega), if_neg (by omega)]; simp [h2]
    · rw [if_neg (by omega)]; simp [h1]
  rw [run_neq_struct, h]
  simp

set_option maxHeartbeats 1000000 in
theorem SameTokens_any (u v : Value) (a b : List Tok) (B : Nat) (w : World) (hu : Rd w B u a) (hv : Rd w B v b) :
    Calls Tryd.prog 12 #[u, v] w fun e w' => e = .returned (.bool (decide (a = b))) ∧ ∃ n, w' = w.drewN n := by
  obtain ⟨A1, c1, rfl, l1, m1, r1⟩ := hu.ex
  obtain ⟨A2, c2, rfl, l2, m2, r2⟩ := hv.ex
  unfold maxLen at m1 m2
  clear hu hv
  by_cases hl : a.length = b.length
  · have h1 : ((a.length : Int) != (b.length : Int)) = false := by rw [bne_eq_false_iff_eq]; omega
    have HL := Lib.hid hl; clear hl
    have R1 := Lib.hid r1; have R2 := Lib.hid r2; clear r1 r2
    go_enter Tryd.func12, Tryd.ntmps12
    go_wp2
    go_loopw [5] (fun i wr => ∃ (k nq : Nat), k ≤ a.length ∧ i = .int .i64 k ∧ Hid (wr = w.drewN nq) ∧ Hid (a.take k = b.take k)) (fun i _ => a.length - (intOf i).toNat)
    case atStart => exact ⟨0, 0, Nat.zero_le _, rfl, Lib.hid rfl, Lib.hid rfl⟩
    case round =>
      obtain ⟨k, m0, hk, rfl, hw, hr⟩ := hrel
      by_cases hlt : k < a.length
      · have hlb : k < b.length := by have := HL.out; omega
        obtain ⟨g1, rfl, _, q1⟩ := R1.out (by omega)
        obtain ⟨g2, rfl, _, q2⟩ := R2.out (by omega)
        obtain ⟨x1, x2, x3⟩ := q1 k a[k] (List.getElem?_eq_getElem hlt)
        obtain ⟨y1, y2, y3⟩ := q2 k b[k] (List.getElem?_eq_getElem hlb)
        clear q1 q2
        have hcell : ∀ p, wr.cell? p = w.cell? p := fun p => by rw [hw.out]; rfl
        rw [← hcell] at x1 x2 x3 y1 y2 y3
        clear hcell
        have hki : (k : Int) < (a.length : Int) := by omega
        have hkj : (k : Int) < (b.length : Int) := by omega
        have hne := neq_tok a[k] b[k]
        by_cases hx : a[k] = b[k]
        · have hd : decide (a[k] ≠ b[k]) = false := by simp [hx]
          have HX : Hid (a.take (k + 1) = b.take (k + 1)) := Lib.hid (by rw [List.take_succ_eq_append_getElem hlt, List.take_succ_eq_append_getElem hlb, hr.out, hx])
          clear hx
          generalize decide (a[k] ≠ b[k]) = dd at hne hd
          subst hd
          go_wp2
          go_quiet (fail)
          go_wp2
          go_roundw
          case rel => exact ⟨k + 1, m0 + nq, by omega, by go_num, Lib.hid (by rw [hw.out, World.drewN_drewN]), HX⟩
          case measure => simp [intOf]; omega
        · have hd : decide (a[k] ≠ b[k]) = true := by simp [hx]
          have HX : Hid (a ≠ b) := Lib.hid (fun e => hx (by subst e; rfl))
          clear hx
          generalize decide (a[k] ≠ b[k]) = dd at hne hd
          subst hd
          go_wp2
          go_quiet (fail)
          go_wp2
          go_ret
          exact ⟨ret_bool (by rw [decide_eq_false HX.out]), m0 + nq, by rw [hw.out, World.drewN_drewN]⟩
      · have HX : Hid (a = b) := Lib.hid (by
          have h2 := hr.out
          have h3 := HL.out
          rw [List.take_of_length_le (by omega), List.take_of_length_le (by omega)] at h2; exact h2)
        go_wp2
        go_ret
        exact ⟨ret_bool (by rw [decide_eq_true HX.out]), m0, hw.out⟩
  · have h1 : ((a.length : Int) != (b.length : Int)) = true := by rw [bne_iff_ne]; omega
    have HX : Hid (a ≠ b) := Lib.hid (fun e => hl (by rw [e]))
    clear hl r1 r2
    go_enter Tryd.func12, Tryd.ntmps12
    go_wp2
    go_ret
    exact ⟨ret_bool (by rw [decide_eq_false HX.out]), 0, rfl⟩
end Go.Proofs.YthcclcoocoikoaaDoor.Tk
