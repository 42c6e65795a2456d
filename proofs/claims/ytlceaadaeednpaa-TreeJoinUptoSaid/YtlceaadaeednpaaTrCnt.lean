/-
  The contracts of package tree's Count and Depth.
-/
import Derived.Test.YtlceaadaeednpaaTrIter3
namespace Go.Proofs.Ytlceaadaeednpaa.Tr
open Go.RowKit Go.Shelf Rf
attribute [local go_sem] Oper.semAt_some

def CntL (d : Nat) : Prop := ∀ (B : Nat) (v : Value) (l : List Nd) (w : World), LRd d w B v l → B ≤ w.heap.size →
    Calls Try.prog 14 #[v] w fun e w' => e = .returned (.int .i64 (cnt l : Nat)) ∧ Below w.heap.size w w'
def DepL (d : Nat) : Prop := ∀ (B : Nat) (v : Value) (l : List Nd) (w : World), LRd d w B v l → B ≤ w.heap.size →
    Calls Try.prog 15 #[v] w fun e w' => e = .returned (.int .i64 (dep l : Nat)) ∧ Below w.heap.size w w'
theorem keeps_below {V V' : World} (h : Below V.heap.size V V') : KeepsOthers V V' := ⟨h.size, fun k _ hk _ => (h.block k (Array.getElem?_eq_some_iff.1 hk).1).trans hk⟩
/-- What stands while a round runs: the variable in block n holds c. -/
structure Rn (n : Nat) (c : Value) (w W V : World) : Prop where
  box : Boxed V n 3 c
  bl : Below n w V
  kp : Kp n W V
  ko : KeepsOthers W V
theorem Rn.drew {n : Nat} {c : Value} {w W V : World} (h : Rn n c w W V) : Rn n c w W V.drew := ⟨h.box, h.bl.drew, ⟨h.kp.bl.drew, h.kp.cells⟩, h.ko.trans (KeepsOthers.drew _)⟩
theorem Rn.below {n : Nat} {c : Value} {w W V V' : World} (h : Rn n c w W V) (hb : Below V.heap.size V V') : Rn n c w W V' :=
  have hn : n < V.heap.size := h.box.lt
  ⟨(hb.block n hn).trans h.box, h.bl.trans (hb.mono (Nat.le_of_lt hn)), h.kp.trans (Kp.of hb (Nat.le_of_lt hn)), h.ko.trans (keeps_below hb)⟩
theorem Rn.set {n : Nat} {c : Value} {w W V : World} (h : Rn n c w W V) (c' : Value) : KeepsOthers W (V.setCell ⟨n, 0, none⟩ c') ∧ Kp n W (V.setCell ⟨n, 0, none⟩ c') ∧ Boxed (V.setCell ⟨n, 0, none⟩ c') n 3 c' ∧ Below n w (V.setCell ⟨n, 0, none⟩ c') :=
  ⟨h.ko.trans (KeepsOthers.setCell _ _ _), h.kp.set _, h.box.set _, h.bl.setCell (p := ⟨n, 0, none⟩) (Nat.le_refl _) _⟩
theorem dep_rn {d : Nat} (hC : DepL d) {B : Nat} {w W V : World} {c : Value} (hB : B ≤ w.heap.size) (x : Ls d w B) (h : Rn w.heap.size c w W V) :
    Calls Try.prog 15 #[x.1.1] V fun e V' => e = .returned (.int .i64 (dep x.1.2 : Nat)) ∧ V'.cell? ⟨w.heap.size, 0, none⟩ = some c ∧ V'.frozen? ⟨w.heap.size, 0, none⟩ = false ∧ Hid (Rn w.heap.size c w W V') :=
  (hC B _ _ V (x.2.below h.bl hB (Nat.le_refl _)) (Nat.le_trans hB h.bl.size)).mono fun _ _ ⟨he, hb⟩ => ⟨he, (h.below hb).box.cell, (h.below hb).box.frozen, Lib.hid (h.below hb)⟩
theorem cnt_rn {d : Nat} (hC : CntL d) {B : Nat} {w W V : World} {c : Value} (hB : B ≤ w.heap.size) (x : Ls d w B) (h : Rn w.heap.size c w W V) :
    Calls Try.prog 14 #[x.1.1] V fun e V' => e = .returned (.int .i64 (cnt x.1.2 : Nat)) ∧ V'.cell? ⟨w.heap.size, 0, none⟩ = some c ∧ V'.frozen? ⟨w.heap.size, 0, none⟩ = false ∧ Hid (Rn w.heap.size c w W V') :=
  (hC B _ _ V (x.2.below h.bl hB (Nat.le_refl _)) (Nat.le_trans hB h.bl.size)).mono fun _ _ ⟨he, hb⟩ => ⟨he, (h.below hb).box.cell, (h.below hb).box.frozen, Lib.hid (h.below hb)⟩
theorem wrap_add (a b : Int) : IntKind.i64.wrap (IntKind.i64.wrap a + b) = IntKind.i64.wrap (a + b) := by
  rw [IntKind.wrap_i64, IntKind.wrap_i64, IntKind.wrap_i64]; omega
theorem wrap_id (a : Nat) (h : a ≤ 9223372036854775807) : IntKind.i64.wrap (a : Int) = (a : Int) := by rw [IntKind.wrap_i64]; omega
/-- The sum that has been reached. -/
def csum {d : Nat} {w : World} {B : Nat} (n : Nat) (xs : List (Ls d w B)) : Int := IntKind.i64.wrap ((n + ((lst xs).map cnt).sum : Nat) : Int)
theorem csum_snoc {d : Nat} {w : World} {B : Nat} (n : Nat) (xs : List (Ls d w B)) (x : Ls d w B) : csum n (xs ++ [x]) = IntKind.i64.wrap (csum n xs + (cnt x.1.2 : Nat)) := by
  unfold csum; rw [wrap_add]; congr 1; rw [lst_append, List.map_append, List.sum_append]; simp [lst]; omega

set_option maxRecDepth 100000 in
set_option maxHeartbeats 4000000 in
theorem Count_step (d : Nat) (hC : CntL d) : CntL (d + 1) := by
  intro B v ns w h hB
  have hz := h.1
  obtain ⟨A, c, rfl⟩ := h.form
  have HH := Lib.hid h; clear h
  refine (callsIn_wide (n := 0)).1 ?_
  refine callsIn_of_wp_marks Try.func14 rfl trivial ?_ rfl
  simp only [Try.ntmps14, List.size_toArray, List.length_cons, List.length_nil, Nat.reduceAdd, Nat.reduceSub, Array.replicate_succ, Array.replicate_zero, List.push_toArray, List.append_toArray, List.nil_append, List.cons_append]
  gi_wp2
  refine ⟨trivial, rfl, (callsIn_wide.2 (lists_any _ _ _ _ rfl _)).mono ?_⟩
  rintro e w' ⟨rfl, rfl⟩
  gi_wp2
  have q1 : ((w.alloc (Obj.cells #[Value.int .i64 (ns.length : Int)] 3)).alloc (Obj.cells #[Value.slice A ns.length c] 22)).heap[w.heap.size + 1]? = some (.cells #[Value.slice A ns.length c] 22) := heap_alloc2_new w _ _
  have b1 : Below w.heap.size w ((w.alloc (Obj.cells #[Value.int .i64 (ns.length : Int)] 3)).alloc (Obj.cells #[Value.slice A ns.length c] 22)) := two_below w _ _
  have x1 : Boxed ((w.alloc (Obj.cells #[Value.int .i64 (ns.length : Int)] 3)).alloc (Obj.cells #[Value.slice A ns.length c] 22)) w.heap.size 3 (.int .i64 (ns.length : Int)) := heap_alloc2_old w _ _
  have hs1 : w.heap.size ≤ ((w.alloc (Obj.cells #[Value.int .i64 (ns.length : Int)] 3)).alloc (Obj.cells #[Value.slice A ns.length c] 22)).heap.size := b1.size
  have hln : ns.length ≤ 16777216 := Nat.le_trans (sz_len ns) hz
  refine range2 (gf := 32) (lb := #[.pointer (some ⟨w.heap.size + 1, 0, none⟩)]) rfl (enters_of Try.func32 (by kernel_rfl) rfl)
    (lists_seq d w B hB _ ns HH.out _ b1 q1) (fun _ => rfl) hs1
    (fun pre W => Boxed W w.heap.size 3 (.int .i64 (csum ns.length pre)) ∧ Below w.heap.size w W)
    (OwnFrom.and (Own.from (boxed_own _ _ _) _) (ownFrom_below (Nat.le_refl _) hs1))
    ⟨by simpa [csum, lst, wrap_id ns.length (by omega)] using x1, b1⟩
    (fun x => { tmps := #[Value.slice A ns.length c, undef, Value.int .i64 0, Value.pointer (some ⟨w.heap.size, 0, none⟩), x.1.1, Value.slice A ns.length c, Value.int .i64 (ns.length : Int), Value.slice A ns.length c, Value.func (Fn.func 32) #[] #[Value.pointer (some ⟨w.heap.size + 1, 0, none⟩)], x.1.1, undef, undef, undef, undef, undef], defers := [] }) ?assign ?body ?done
  case assign =>
    intro l x W K hK
    dsimp only [encL]
    gi_wp2
    exact hK
  case body =>
    rintro l pre x W ⟨hx, hB1⟩
    have hR : Rn w.heap.size (.int .i64 (csum ns.length pre)) w W W := ⟨hx, hB1, Kp.refl _ _, KeepsOthers.refl _⟩
    have HR := Lib.hid hR.drew; clear hR
    have hc0 := hx.cell
    have hf0 := hx.frozen
    have hmx : Try.prog.follows .mixedOrders = true := by kernel_rfl
    have HS := Lib.hid (csum_snoc ns.length pre x)
    clear hx hB1 q1 b1 x1 hs1
    gi_wp2
    gi_region_with_o (refine ⟨trivial, rfl, (CallsIn.inRound l (callsIn_wide.2 (cnt_rn hC hB x HR.out))).mono ?_⟩; rintro e V ⟨rfl, hc2, hf2, hr2⟩)
    all_goals gi_wp2
    all_goals (rw [← HS.out]; exact hr2.out.set _)
  case done =>
    rintro D xs W hD hS ⟨hx, hB1⟩ hK
    have hc0 := hx.cell
    have HV : Hid (csum ns.length xs = (cnt ns : Nat)) := Lib.hid (by unfold csum; rw [hS, ← cnt_sum]; exact wrap_id _ (by have := cnt_le ns; omega))
    gi_wp2
    refine ⟨by simp, .inl ⟨_, _, rfl, run_takeDeferred hK, ?_⟩⟩
    exact ⟨_, results_tmp rfl _ _ _, by rw [HV.out]; rfl, hB1.trans (belowK_b (w := w) (Nat.le_refl _) W D _ _ (by have := b1.size; omega) hK rfl rfl)⟩
theorem counts : ∀ d, CntL d
  | 0 => fun _ _ _ _ h => h.elim
  | d + 1 => Count_step d (counts d)

/-- The depth that has been reached. -/
def dtop {d : Nat} {w : World} {B : Nat} (xs : List (Ls d w B)) : Nat := top ((lst xs).map dep)
theorem dtop_snoc {d : Nat} {w : World} {B : Nat} (xs : List (Ls d w B)) (x : Ls d w B) : dtop (xs ++ [x]) = max (dtop xs) (dep x.1.2) := by
  unfold dtop; rw [lst_append, List.map_append, top_append]; simp [lst, top]
set_option maxRecDepth 100000 in
set_option maxHeartbeats 4000000 in
theorem Depth_step (d : Nat) (hC : DepL d) : DepL (d + 1) := by
  intro B v ns w h hB
  have hz := h.1
  obtain ⟨A, c, rfl⟩ := h.form
  have HH := Lib.hid h; clear h
  have hln : ns.length ≤ 16777216 := Nat.le_trans (sz_len ns) hz
  by_cases hne : ns.length = 0
  · have H : Hid (dep ns = 0) := Lib.hid (by cases ns with | nil => rfl | cons a r => simp at hne)
    rw [hne]
    go_enter Try.func15, Try.ntmps15
    go_wp2
    go_ret
    exact ⟨ret_int (by rw [H.out]; rfl), Below.refl _ _⟩
  have HD : Hid (dep ns = 1 + depM ns) := Lib.hid (by unfold dep; rw [if_neg (by simpa using hne)])
  have hne' : ((ns.length : Int) == 0) = false := by rw [beq_eq_false_iff_ne]; omega
  refine (callsIn_wide (n := 0)).1 ?_
  refine callsIn_of_wp_marks Try.func15 rfl trivial ?_ rfl
  simp only [Try.ntmps15, List.size_toArray, List.length_cons, List.length_nil, Nat.reduceAdd, Nat.reduceSub, Array.replicate_succ, Array.replicate_zero, List.push_toArray, List.append_toArray, List.nil_append, List.cons_append]
  gi_wp2
  refine ⟨trivial, rfl, (callsIn_wide.2 (lists_any _ _ _ _ rfl _)).mono ?_⟩
  rintro e w' ⟨rfl, rfl⟩
  gi_wp2
  have q1 : ((w.alloc (Obj.cells #[Value.int .i64 0] 3)).alloc (Obj.cells #[Value.slice A ns.length c] 22)).heap[w.heap.size + 1]? = some (.cells #[Value.slice A ns.length c] 22) := heap_alloc2_new w _ _
  have b1 : Below w.heap.size w ((w.alloc (Obj.cells #[Value.int .i64 0] 3)).alloc (Obj.cells #[Value.slice A ns.length c] 22)) := two_below w _ _
  have x1 : Boxed ((w.alloc (Obj.cells #[Value.int .i64 0] 3)).alloc (Obj.cells #[Value.slice A ns.length c] 22)) w.heap.size 3 (.int .i64 0) := heap_alloc2_old w _ _
  have hs1 : w.heap.size ≤ ((w.alloc (Obj.cells #[Value.int .i64 0] 3)).alloc (Obj.cells #[Value.slice A ns.length c] 22)).heap.size := b1.size
  refine range2 (gf := 32) (lb := #[.pointer (some ⟨w.heap.size + 1, 0, none⟩)]) rfl (enters_of Try.func32 (by kernel_rfl) rfl)
    (lists_seq d w B hB _ ns HH.out _ b1 q1) (fun _ => rfl) hs1
    (fun pre W => Boxed W w.heap.size 3 (.int .i64 (dtop pre : Nat)) ∧ Below w.heap.size w W)
    (OwnFrom.and (Own.from (boxed_own _ _ _) _) (ownFrom_below (Nat.le_refl _) hs1))
    ⟨by simpa [dtop, lst, top] using x1, b1⟩
    (fun x => { tmps := #[Value.slice A ns.length c, undef, Value.int .i64 0, Value.pointer (some ⟨w.heap.size, 0, none⟩), x.1.1, Value.slice A ns.length c, Value.int .i64 (ns.length : Int), Value.bool false, Value.slice A ns.length c, Value.func (Fn.func 32) #[] #[Value.pointer (some ⟨w.heap.size + 1, 0, none⟩)], x.1.1, undef, undef, undef, undef, undef, undef], defers := [] }) ?assign ?body ?done
  case assign =>
    intro l x W K hK
    dsimp only [encL]
    gi_wp2
    exact hK
  case body =>
    rintro l pre x W ⟨hx, hB1⟩
    have hR : Rn w.heap.size (.int .i64 (dtop pre : Nat)) w W W := ⟨hx, hB1, Kp.refl _ _, KeepsOthers.refl _⟩
    have HR := Lib.hid hR.drew; clear hR
    have hc0 := hx.cell
    have hf0 := hx.frozen
    have hmx : Try.prog.follows .mixedOrders = true := by kernel_rfl
    have HS := Lib.hid (dtop_snoc pre x)
    clear hx hB1 q1 b1 x1 hs1
    gi_wp2
    gi_region_with_o (refine ⟨trivial, rfl, (CallsIn.inRound l (callsIn_wide.2 (dep_rn hC hB x HR.out))).mono ?_⟩; rintro e V ⟨rfl, hc2, hf2, hr2⟩)
    all_goals gi_wp2
    all_goals (rw [show max ((dtop pre : Nat) : Int) ((dep x.1.2 : Nat) : Int) = ((dtop (pre ++ [x]) : Nat) : Int) from by rw [HS.out]; omega]; exact hr2.out.set _)
  case done =>
    rintro D xs W hD hS ⟨hx, hB1⟩ hK
    have hc0 := hx.cell
    have hv : dtop xs = depM ns := by unfold dtop; rw [hS, ← depM_eq]
    have hdb : dtop xs ≤ 16777216 := by rw [hv]; exact Nat.le_trans (depM_le ns) hz
    have HV := Lib.hid hv; clear hv
    gi_wp2
    refine ⟨by simp, .inl ⟨_, _, rfl, run_takeDeferred hK, ?_⟩⟩
    refine ⟨_, results_tmp rfl _ _ _, ?_, hB1.trans (belowK_b (w := w) (Nat.le_refl _) W D _ _ (by have := b1.size; omega) hK rfl rfl)⟩
    rw [HD.out, ← HV.out]
    exact ret_int (by omega)
theorem depths : ∀ d, DepL d
  | 0 => fun _ _ _ _ h => h.elim
  | d + 1 => Depth_step d (depths d)
end Go.Proofs.Ytlceaadaeednpaa.Tr
