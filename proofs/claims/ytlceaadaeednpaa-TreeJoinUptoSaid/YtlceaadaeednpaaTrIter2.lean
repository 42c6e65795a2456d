/-
  What the iterator of package tree's lists promises: the lists directly below the nodes, in order.
-/
import Derived.Test.YtlceaadaeednpaaTrIter
namespace Go.Proofs.Ytlceaadaeednpaa.Tr
open Go.RowKit Go.Shelf Rf
attribute [local go_sem] Oper.semAt_some

/-- What a round may rely on and owes. -/
def Rounds (d : Nat) (w : World) (B l : Nat) (J : List (Ls d w B) → World → Prop) : Prop :=
  ∀ pre x W1, J pre W1 → YieldAt Fence.wide 0 Try.prog l (encL x) W1 fun e W' => e = .returned (.bool true) ∧ J (pre ++ [x]) W' ∧ Kp w.heap.size W1 W'
theorem flat_take {α β : Type} {l : List α} {k : Nat} (f : α → List β) (h : k < l.length) : (l.take (k + 1)).flatMap f = (l.take k).flatMap f ++ f l[k] := by
  rw [List.take_succ_eq_append_getElem h, List.flatMap_append, List.flatMap_cons, List.flatMap_nil, List.append_nil]
theorem lst_append {d : Nat} {w : World} {B : Nat} (a b : List (Ls d w B)) : lst (a ++ b) = lst a ++ lst b := by simp [lst]

set_option maxRecDepth 100000 in
set_option maxHeartbeats 4000000 in
theorem yieldArgs_in (d : Nat) (w : World) (B l : Nat) (hB : B ≤ w.heap.size) (J : List (Ls d w B) → World → Prop) (hJ : ∀ s A o, w.heap.size ≤ A.heap.size → J s A → J s (A.alloc o)) (hY : Rounds d w B l J)
    (va : Value) (args : List Ar) (ha : ARd d w B va args) (pre : List (Ls d w B)) (W : World) (hW : Below w.heap.size w W) (hn : w.heap.size < W.heap.size) (h0 : J pre W) :
    CallsIn Fence.wide 0 Try.prog 35 #[va, .func (.yield l) #[] #[]] W fun e W' => e = .returned (.bool true) ∧ ∃ xs, lst xs = args.flatMap belowG ∧ J (pre ++ xs) W' ∧ Kp w.heap.size W W' := by
  obtain ⟨A, c, rfl, hc1, hc2, hln, R⟩ := ha.open
  have R' := Lib.hid R; clear R ha
  have H0 := Lib.hid h0; clear h0
  refine callsIn_of_wp Try.func35 rfl trivial ?_ rfl
  simp only [Try.ntmps35, List.size_toArray, List.length_cons, List.length_nil, Nat.reduceAdd, Nat.reduceSub, Array.replicate_succ, Array.replicate_zero, List.push_toArray, List.append_toArray, List.nil_append, List.cons_append]
  gi_wp2
  gi_loopw [9] (fun i wr => ∃ (k : Nat) (xs : List (Ls d w B)), k ≤ args.length ∧ i = .int .i64 k ∧ Hid (lst xs = (args.take k).flatMap belowG) ∧ Hid (J (pre ++ xs) wr) ∧ Hid (Kp w.heap.size W wr)) (fun i _ => args.length - (intOf i).toNat)
  case atStart => exact ⟨0, [], Nat.zero_le _, rfl, Lib.hid (by simp [lst]), Lib.hid (by simpa using H0.out), Lib.hid (Kp.refl _ _)⟩
  case round =>
    obtain ⟨k, xs, hk, rfl, hx, hj, hkp⟩ := hrel
    by_cases hlt : k < args.length
    · obtain ⟨g, o, rfl, hg, q⟩ := R'.out (by omega)
      obtain ⟨vn, vv, y1, y2, y3, y4, y5⟩ := q k args[k] (List.getElem?_eq_getElem hlt)
      clear q
      obtain ⟨An, cn, rfl⟩ := y4.form
      obtain ⟨Av, cv, rfl⟩ := y5.form
      have hbl := hW.trans hkp.out.bl
      have hcell : ∀ i, wr.cell? ⟨g, i, none⟩ = w.cell? ⟨g, i, none⟩ := fun i => hbl.cell (by show g < _; omega)
      rw [← hcell] at y1 y2 y3
      clear hcell
      have HT := Lib.hid (flat_take belowG hlt)
      have hsz : w.heap.size < wr.heap.size := Nat.lt_of_lt_of_le hn hkp.out.bl.size
      have HB := Lib.hid hbl; clear hbl
      generalize args[k] = ar at *
      obtain ⟨nm, nam, val⟩ := ar
      simp only [Ar.named, Ar.name, Ar.value] at y1 y2 y3 y4 y5
      have Y4 := Lib.hid y4; have Y5 := Lib.hid y5; clear y4 y5
      have J1 := Lib.hid (hJ _ _ (Obj.cells #[Value.bool nm, Value.slice An nam.length cn, Value.slice Av val.length cv] 33) (Nat.le_of_lt hsz) hj.out)
      have K1 := Lib.hid (hkp.out.alloc (Nat.le_of_lt hsz) (Obj.cells #[Value.bool nm, Value.slice An nam.length cn, Value.slice Av val.length cv] 33))
      cases nm with
      | false =>
        obtain ⟨fn, tmps, assign, body, hy, hR⟩ := hY _ ⟨(Value.slice Av val.length cv, val), Y5.out⟩ _ J1.out
        dsimp only [encL] at hy
        gi_wp2
        refine ⟨fun _ h => (by cases h), ?_⟩
        gi_wp2
        refine ⟨rfl, hR.mono ?_⟩
        rintro e W3 ⟨rfl, hj3, hk3⟩
        have J3 := Lib.hid hj3; have K3 := Lib.hid (K1.out.trans hk3); clear hj3 hk3 hR hy
        gi_wp2
        go_roundw
        case rel => exact ⟨k + 1, xs ++ [⟨(Value.slice Av val.length cv, val), Y5.out⟩], by omega, by go_num, Lib.hid (by rw [lst_append, hx.out, HT.out]; simp [lst, belowG, Ar.named, Ar.value]), Lib.hid (by rw [← List.append_assoc]; exact J3.out), K3⟩
        case measure => exact meas hlt
      | true =>
        obtain ⟨fn, tmps, assign, body, hy, hR⟩ := hY _ ⟨(Value.slice An nam.length cn, nam), Y4.out⟩ _ J1.out
        dsimp only [encL] at hy
        gi_wp2
        refine ⟨rfl, hR.mono ?_⟩
        rintro e W3 ⟨rfl, hj3, hk3⟩
        have q3 := hk3.cell (k := wr.heap.size) (by omega) (heap_new _ _)
        have z2 : W3.cell? ⟨wr.heap.size, 2, none⟩ = some (Value.slice Av val.length cv) := cell_heap q3 rfl
        have J3 := Lib.hid hj3; have K3 := Lib.hid (K1.out.trans hk3); clear hj3 hk3 hR hy q3
        obtain ⟨fn, tmps, assign, body, hy, hR⟩ := hY _ ⟨(Value.slice Av val.length cv, val), Y5.out⟩ _ J3.out
        dsimp only [encL] at hy
        gi_wp2
        refine ⟨rfl, hR.mono ?_⟩
        rintro e W4 ⟨rfl, hj4, hk4⟩
        have J4 := Lib.hid hj4; have K4 := Lib.hid (K3.out.trans hk4); clear hj4 hk4 hR hy
        gi_wp2
        go_roundw
        case rel => exact ⟨k + 1, xs ++ [⟨(Value.slice An nam.length cn, nam), Y4.out⟩, ⟨(Value.slice Av val.length cv, val), Y5.out⟩], by omega, by go_num, Lib.hid (by rw [lst_append, hx.out, HT.out]; simp [lst, belowG, Ar.named, Ar.value, Ar.name]), Lib.hid (by have h := J4.out; simpa using h), K4⟩
        case measure => exact meas hlt
    · have e : k = args.length := by omega
      subst e
      rw [List.take_length] at hx
      gi_wp2
      go_ret
      exact ⟨rfl, xs, hx.out, hj.out, hkp.out⟩
end Go.Proofs.Ytlceaadaeednpaa.Tr
