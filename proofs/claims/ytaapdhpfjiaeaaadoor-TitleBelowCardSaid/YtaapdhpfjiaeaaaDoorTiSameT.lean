/-
  A slice that reads as a list of titles, and the contract of the reference's SameTitles.
-/
import Derived.Test.YtaapdhpfjiaeaaaDoorTiAnc2
namespace Go.Proofs.YtaapdhpfjiaeaaaDoor.Ti
open Go.RowKit

/-- The slice v reads as the list l of titles. -/
structure RdT (w : World) (v : Value) (l : List Ttl) : Prop where
  ex : ∃ A c, v = .slice A l.length c ∧ l.length ≤ c ∧ c ≤ maxLen ∧ (0 < l.length → ∃ g, A = some ⟨g, 0, none⟩ ∧ g < w.heap.size ∧ ∀ (i : Nat) (x : Ttl), l[i]? = some x →
    w.cell? ⟨g, i * 2, none⟩ = some (.int .i64 x.1) ∧ w.cell? ⟨g, i * 2 + 1, none⟩ = some (.string ⟨x.2.toArray⟩))
theorem cellsT_at : ∀ (l : List Ttl) (i : Nat) (x : Ttl), l[i]? = some x → (cellsT l)[i * 2]? = some (.int .i64 x.1) ∧ (cellsT l)[i * 2 + 1]? = some (.string ⟨x.2.toArray⟩)
  | [], i, x, h => by simp at h
  | a :: r, 0, x, h => by
    simp at h; subst h; simp [cellsT]
  | a :: r, i + 1, x, h => by
    have ih := cellsT_at r i x (by simpa using h)
    have e : cellsT (a :: r) = [.int .i64 a.1, .string ⟨a.2.toArray⟩] ++ cellsT r := by simp [cellsT]
    rw [e, show (i + 1) * 2 = i * 2 + 2 from by omega]
    refine ⟨?_, ?_⟩
    · rw [List.getElem?_append_right (by simp)]; simpa using ih.1
    · rw [List.getElem?_append_right (by simp)]; simpa using ih.2
theorem OwnT.rd {w : World} {base : Nat} {v : Value} {l : List Ttl} (h : OwnT w base v l) : RdT w v l := by
  rcases h.2 with ⟨h1, h2⟩ | ⟨g, cap, cur, h3, h4, h5, h6, h7, h8, h9⟩
  · exact ⟨none, 0, by rw [h1, h2], by omega, by simp [maxLen], fun hn => by omega⟩
  · refine ⟨some ⟨g, 0, none⟩, cap, h3, h6, h7, fun hn => ⟨g, rfl, (Array.getElem?_eq_some_iff.1 h5).1, fun i x hx => ?_⟩⟩
    have hc : ∀ (j : Nat) (u : Value), (cellsT l)[j]? = some u → w.cell? ⟨g, j, none⟩ = some u := fun j u hu => by
      rw [cell_of_row _ _ _ _ _ _ h5]
      rw [← h9, List.getElem?_take] at hu
      split at hu
      · simpa using hu
      · cases hu
    obtain ⟨a1, a2⟩ := cellsT_at l i x hx
    exact ⟨hc _ _ a1, hc _ _ a2⟩
theorem RdT.below {w w' : World} {v : Value} {l : List Ttl} (h : RdT w v l) (hb : Below w.heap.size w w') : RdT w' v l := by
  obtain ⟨A, c, h1, h2, h3, h4⟩ := h.ex
  refine ⟨A, c, h1, h2, h3, fun hn => ?_⟩
  obtain ⟨g, h5, h6, h7⟩ := h4 hn
  exact ⟨g, h5, Nat.lt_of_lt_of_le h6 hb.size, fun i x hx => by
    obtain ⟨a1, a2⟩ := h7 i x hx
    exact ⟨(hb.cell (p := ⟨g, i * 2, none⟩) h6).trans a1, (hb.cell (p := ⟨g, i * 2 + 1, none⟩) h6).trans a2⟩⟩
theorem RdT.front {w : World} {g c : Nat} {l : List Ttl} (h : RdT w (.slice (some ⟨g, 0, none⟩) l.length c) l) {k : Nat} (hk : k ≤ l.length) : RdT w (.slice (some ⟨g, 0, none⟩) k c) (l.take k) := by
  obtain ⟨A, c', h1, h2, h3, h4⟩ := h.ex
  simp only [Value.slice.injEq] at h1
  obtain ⟨rfl, _, rfl⟩ := h1
  have hl : (l.take k).length = k := by rw [List.length_take, Nat.min_eq_left hk]
  refine ⟨_, c, by rw [hl], by omega, h3, fun hn => ?_⟩
  obtain ⟨g', e, h5, h6⟩ := h4 (by omega)
  obtain rfl : g = g' := by simpa using e
  refine ⟨g, rfl, h5, fun i x hx => h6 i x ?_⟩
  rw [List.getElem?_take] at hx
  split at hx
  · exact hx
  · cases hx

theorem neq_ttl (x y : Ttl) (w : World) : (binOp .neq 24 (.agg #[.int .i64 x.1, .string ⟨x.2.toArray⟩]) (.agg #[.int .i64 y.1, .string ⟨y.2.toArray⟩])).run Tryd.prog w = .ok (.bool (decide (x ≠ y))) w := by
  have h : (Op.equalIn 10000 24 (.agg #[.int .i64 x.1, .string ⟨x.2.toArray⟩]) (.agg #[.int .i64 y.1, .string ⟨y.2.toArray⟩])).run Tryd.prog w = .ok (decide (x = y)) w := by
    obtain ⟨x1, x2⟩ := x
    obtain ⟨y1, y2⟩ := y
    have e : ((⟨x2.toArray⟩ : ByteArray).toList == (⟨y2.toArray⟩ : ByteArray).toList) = decide (x2 = y2) := by
      rw [Lib.toList_data, Lib.toList_data]
      by_cases h : x2 = y2
      · simp [h]
      · rw [decide_eq_false h]; simpa using h
    rw [show (10000 : Nat) = 9998 + 1 + 1 from rfl, run_equalIn_agg _ _ _ _ _ (by kernel_rfl) (by kernel_rfl)]
    go_simp
    by_cases h1 : x1 = y1 <;> by_cases h2 : x2 = y2 <;> simp [h1, h2]
  rw [run_neq_struct, h]
  simp

set_option maxHeartbeats 1000000 in
theorem SameTitles_any (u v : Value) (a b : List Ttl) (w : World) (hu : RdT w u a) (hv : RdT w v b) :
    Calls Tryd.prog 22 #[u, v] w fun e w' => e = .returned (.bool (decide (a = b))) ∧ ∃ n, w' = w.drewN n := by
  obtain ⟨A1, c1, rfl, l1, m1, r1⟩ := hu.ex
  obtain ⟨A2, c2, rfl, l2, m2, r2⟩ := hv.ex
  unfold maxLen at m1 m2
  clear hu hv
  by_cases hl : a.length = b.length
  · have h1 : ((a.length : Int) != (b.length : Int)) = false := by rw [bne_eq_false_iff_eq]; omega
    have HL := Lib.hid hl; clear hl
    have R1 := Lib.hid r1; have R2 := Lib.hid r2; clear r1 r2
    go_enter Tryd.func22, Tryd.ntmps22
    go_wp2
    go_loopw [5] (fun i wr => ∃ (k nq : Nat), k ≤ a.length ∧ i = .int .i64 k ∧ Hid (wr = w.drewN nq) ∧ Hid (a.take k = b.take k)) (fun i _ => a.length - (intOf i).toNat)
    case atStart => exact ⟨0, 0, Nat.zero_le _, rfl, Lib.hid rfl, Lib.hid rfl⟩
    case round =>
      obtain ⟨k, m0, hk, rfl, hw, hr⟩ := hrel
      by_cases hlt : k < a.length
      · have hlb : k < b.length := by have := HL.out; omega
        obtain ⟨g1, rfl, _, q1⟩ := R1.out (by omega)
        obtain ⟨g2, rfl, _, q2⟩ := R2.out (by omega)
        obtain ⟨x1, x2⟩ := q1 k a[k] (List.getElem?_eq_getElem hlt)
        obtain ⟨y1, y2⟩ := q2 k b[k] (List.getElem?_eq_getElem hlb)
        clear q1 q2
        have hcell : ∀ p, wr.cell? p = w.cell? p := fun p => by rw [hw.out]; rfl
        rw [← hcell] at x1 x2 y1 y2
        clear hcell
        have hki : (k : Int) < (a.length : Int) := by omega
        have hkj : (k : Int) < (b.length : Int) := by omega
        have hne := neq_ttl a[k] b[k]
        by_cases hx : a[k] = b[k]
        · have hd : decide (a[k] ≠ b[k]) = false := by simp [hx]
          have HX : Hid (a.take (k + 1) = b.take (k + 1)) := Lib.hid (by rw [List.take_succ_eq_append_getElem hlt, List.take_succ_eq_append_getElem hlb, hr.out, hx])
          clear hx
          generalize decide (a[k] ≠ b[k]) = dd at hne hd
          subst hd
          go_wp2
          go_quiet (fail)
          go_wp2
          go_roundw
          case rel => exact ⟨k + 1, m0 + nq, by omega, by go_num, Lib.hid (by rw [hw.out, World.drewN_drewN]), HX⟩
          case measure => simp [intOf]; omega
        · have hd : decide (a[k] ≠ b[k]) = true := by simp [hx]
          have HX : Hid (a ≠ b) := Lib.hid (fun e => hx (by subst e; rfl))
          clear hx
          generalize decide (a[k] ≠ b[k]) = dd at hne hd
          subst hd
          go_wp2
          go_quiet (fail)
          go_wp2
          go_ret
          exact ⟨ret_bool (by rw [decide_eq_false HX.out]), m0 + nq, by rw [hw.out, World.drewN_drewN]⟩
      · have HX : Hid (a = b) := Lib.hid (by
          have h2 := hr.out
          have h3 := HL.out
          rw [List.take_of_length_le (by omega), List.take_of_length_le (by omega)] at h2; exact h2)
        go_wp2
        go_ret
        exact ⟨ret_bool (by rw [decide_eq_true HX.out]), m0, hw.out⟩
  · have h1 : ((a.length : Int) != (b.length : Int)) = true := by rw [bne_iff_ne]; omega
    have HX : Hid (a ≠ b) := Lib.hid (fun e => hl (by rw [e]))
    clear hl r1 r2
    go_enter Tryd.func22, Tryd.ntmps22
    go_wp2
    go_ret
    exact ⟨ret_bool (by rw [decide_eq_false HX.out]), 0, rfl⟩
end Go.Proofs.YtaapdhpfjiaeaaaDoor.Ti
