/-
  An argument that reads as a datum of small bulk is a list of nodes in memory.
-/
import Derived.Test.YtlceaadaeednpaaTrKnown
import Derived.Test.YtlceaadaeednpaaRows
import Derived.ProofKit
import Derived.OpenShut
import Derived.JoinedCond
import Derived.ChangeSlices
import Derived.Carry
import Derived.Deep.Slices
namespace Go.Proofs.Ytlceaadaeednpaa.Tr
open Go.RowKit Go.Deep
open Go.Proofs.Ytlceaadaeednpaa.Rows (uptoBulk uptoBulkAll)

theorem cellsNode : Try.prog.cellsOf 31 = 5 := by kernel_rfl
theorem cellsArg : Try.prog.cellsOf 33 = 3 := by kernel_rfl
theorem cellsInt : Try.prog.cellsOf 3 = 1 := by kernel_rfl
theorem cellsBool : Try.prog.cellsOf 4 = 1 := by kernel_rfl
theorem cellsStr : Try.prog.cellsOf 9 = 1 := by kernel_rfl
theorem cellsLN : Try.prog.cellsOf 22 = 1 := by kernel_rfl
theorem cellsLA : Try.prog.cellsOf 29 = 1 := by kernel_rfl
section
variable {H : Type} {enc : TypeId × Value → H} {w : World}
theorem bulkAll_sum (l : List (DataW H)) : uptoBulkAll l = (l.map uptoBulk).sum := by
  induction l with
  | nil => simp [uptoBulkAll]
  | cons a r ih => simp [uptoBulkAll, ih]
theorem bulk_mem {d : DataW H} {l : List (DataW H)} (h : d ∈ l) : uptoBulk d ≤ uptoBulkAll l := by
  induction l with
  | nil => cases h
  | cons x r ih =>
    simp only [uptoBulkAll]
    rcases List.mem_cons.1 h with e | e
    · subst e; omega
    · have := ih e; omega
theorem build {Y : Type} (bulk : Y → Nat) : ∀ (ys : List Y) (Q : Nat → Nd → Prop), (∀ i y, ys[i]? = some y → ∃ nd, Q i nd ∧ szN nd ≤ bulk y) → ∃ l : List Nd, l.length = ys.length ∧ (∀ i nd, l[i]? = some nd → Q i nd) ∧ sz l ≤ (ys.map bulk).sum
  | [], _, _ => ⟨[], rfl, fun i nd h => by simp at h, by simp [sz_nil]⟩
  | y :: ys, Q, h => by
    obtain ⟨nd, h1, h2⟩ := h 0 y rfl
    obtain ⟨l, h3, h4, h5⟩ := build bulk ys (fun i => Q (i + 1)) (fun i z hz => h (i + 1) z (by simpa using hz))
    refine ⟨nd :: l, by simp [h3], fun i m hm => ?_, by rw [sz_cons]; simp; omega⟩
    cases i with
    | zero => simp at hm; subst hm; exact h1
    | succ i => exact h4 i m (by simpa using hm)
theorem buildA {Y : Type} (bulk : Y → Nat) : ∀ (ys : List Y) (Q : Nat → Ar → Prop), (∀ i y, ys[i]? = some y → ∃ nd, Q i nd ∧ szG nd ≤ bulk y) → ∃ l : List Ar, l.length = ys.length ∧ (∀ i nd, l[i]? = some nd → Q i nd) ∧ szA l ≤ (ys.map bulk).sum
  | [], _, _ => ⟨[], rfl, fun i nd h => by simp at h, by simp [szA_nil]⟩
  | y :: ys, Q, h => by
    obtain ⟨nd, h1, h2⟩ := h 0 y rfl
    obtain ⟨l, h3, h4, h5⟩ := buildA bulk ys (fun i => Q (i + 1)) (fun i z hz => h (i + 1) z (by simpa using hz))
    refine ⟨nd :: l, by simp [h3], fun i m hm => ?_, by rw [szA_cons]; simp; omega⟩
    cases i with
    | zero => simp at hm; subst hm; exact h1
    | succ i => exact h4 i m (by simpa using hm)
/-- Of what fuel the opening holds. -/
def OpenL (enc : TypeId × Value → H) (w : World) (n : Nat) : Prop := ∀ cs x, DataW.trod enc Try.prog w 0 (fun _ => true) true n 22 cs = some x → uptoBulk x.1 ≤ 1048576 → ∃ v l, cs = [v] ∧ LRd n w w.heap.size v l ∧ sz l ≤ uptoBulk x.1
theorem spot_none {a : Addr} {v : Value} (h : w.cell? a = some v) : a.spot = none ∧ a.block < w.heap.size := by
  unfold World.cell? at h
  split at h
  · rename_i c _ _ hc
    refine ⟨?_, (Array.getElem?_eq_some_iff.1 hc).1⟩
    cases hs : a.spot with
    | none => rfl
    | some s => simp [hs] at h
  · cases h
theorem cells_at {g o j n : Nat} {cs : List Value} (h : w.cells? 0 ((⟨g, o, none⟩ : Addr).add j) n = some cs) : cs.length = n ∧ ∀ i, i < n → w.cell? ⟨g, o + j + i, none⟩ = cs[i]? := by
  obtain ⟨_, h2, h3⟩ := World.cells?_some h
  refine ⟨h2, fun i hi => ?_⟩
  rw [← h3 i hi, add_add]
  unfold Addr.add
  split
  · rename_i e; rw [show o + j + i = o by omega]
  · rw [Nat.add_assoc]
/-- An argument's cells. -/
theorem open_arg (n : Nat) (hI : ∀ m, m < n → OpenL enc w m) (cs : List Value) (y : DataW H × List MemPlace) (h : DataW.trod enc Try.prog w 0 (fun _ => true) true n 33 cs = some y) (hb : uptoBulk y.1 ≤ 1048576) :
    ∃ (a : Ar) (vn vv : Value), cs = [.bool a.named, vn, vv] ∧ LRd n w w.heap.size vn a.name ∧ LRd n w w.heap.size vv a.value ∧ szG a ≤ uptoBulk y.1 := by
  obtain ⟨xs, m, rfl, rfl, hl, hlen, hf⟩ := DataW.trod_struct Try.underlying33 h
  rw [cellsArg] at hl
  match cs, hl with
  | [c0, c1, c2], _ =>
  match xs, hlen with
  | [x0, x1, x2], _ =>
  have g0 : DataW.trod enc Try.prog w 0 (fun _ => true) true m 4 (([c0, c1, c2].drop 0).take (Try.prog.cellsOf 4)) = some x0 := hf 0 _ rfl
  have g1 : DataW.trod enc Try.prog w 0 (fun _ => true) true m 22 (([c0, c1, c2].drop 1).take (Try.prog.cellsOf 22)) = some x1 := hf 1 _ rfl
  have g2 : DataW.trod enc Try.prog w 0 (fun _ => true) true m 22 (([c0, c1, c2].drop 2).take (Try.prog.cellsOf 22)) = some x2 := hf 2 _ rfl
  rw [cellsBool] at g0
  rw [cellsLN] at g1 g2
  obtain ⟨b, e0, rfl⟩ := DataW.trod_bool Try.underlying4 g0
  simp only [List.map_cons, List.map_nil, uptoBulk, uptoBulkAll] at hb ⊢
  obtain ⟨v1, l1, e1, r1, s1⟩ := hI m (by omega) _ _ g1 (by omega)
  obtain ⟨v2, l2, e2, r2, s2⟩ := hI m (by omega) _ _ g2 (by omega)
  simp at e0 e1 e2
  subst e0 e1 e2
  exact ⟨.mk b l1 l2, c1, c2, rfl, r1.deep1, r2.deep1, by rw [szG_eq]; simp only [Ar.name, Ar.value]; omega⟩
theorem open_args (n : Nat) (hI : ∀ m, m < n → OpenL enc w m) (cs : List Value) (x : DataW H × List MemPlace) (h : DataW.trod enc Try.prog w 0 (fun _ => true) true n 29 cs = some x) (hb : uptoBulk x.1 ≤ 1048576) :
    ∃ v l, cs = [v] ∧ ARd n w w.heap.size v l ∧ szA l ≤ uptoBulk x.1 := by
  rcases DataW.trod_slice Try.underlying29 h with ⟨rfl, rfl⟩ | ⟨a, len, cap, elems, rest, m, rfl, rfl, rfl, _, hl, hm, hlen, hel, _⟩
  · exact ⟨_, [], rfl, ARd_nil _ _ _ _ _ (by simp [maxLen]), by rw [szA_nil]; omega⟩
  · simp only [uptoBulk] at hb ⊢
    rw [cellsArg] at hel
    by_cases h0 : len = 0
    · subst h0
      exact ⟨_, [], rfl, ARd_nil _ _ _ _ _ hm, by rw [szA_nil]; omega⟩
    have key : ∀ i y, elems[i]? = some y → ∃ cs', w.cells? 0 (a.add (i * 3)) 3 = some cs' ∧ DataW.trod enc Try.prog w 0 (fun _ => true) true m 33 cs' = some y := by
      intro i y hy
      have hi : i < len := by rw [← hlen]; exact (List.getElem?_eq_some_iff.1 hy).1
      have h1 := hel i hi
      rw [hy] at h1
      exact Option.bind_eq_some_iff.1 h1
    have hsp : a.spot = none ∧ a.block < w.heap.size := by
      obtain ⟨y, hy⟩ : ∃ y, elems[0]? = some y := ⟨_, List.getElem?_eq_getElem (by omega)⟩
      obtain ⟨cs', h1, _⟩ := key 0 y hy
      obtain ⟨_, h2, h3⟩ := World.cells?_some h1
      have h4 := h3 0 (by omega)
      rw [show (a.add (0 * 3)).add 0 = a by simp [Addr.add], List.getElem?_eq_getElem (by omega)] at h4
      exact spot_none h4
    obtain ⟨g, o, sp⟩ := a
    obtain ⟨rfl, hg⟩ := hsp
    obtain ⟨l, q1, q2, q3⟩ := buildA (fun y : DataW H × List MemPlace => uptoBulk y.1) elems (fun i ar => ArAt (LRd (m + 1) w w.heap.size) w g (o + i * 3) ar) (by
      intro i y hy
      obtain ⟨cs', h1, h2⟩ := key i y hy
      have hby : uptoBulk y.1 ≤ uptoBulkAll (elems.map (·.1)) := bulk_mem (List.mem_map_of_mem (List.mem_of_getElem? hy))
      obtain ⟨ar, vn, vv, rfl, r1, r2, s⟩ := open_arg m (fun k hk => hI k (by omega)) cs' y h2 (by omega)
      obtain ⟨_, hc⟩ := cells_at h1
      exact ⟨ar, ⟨vn, vv, hc 0 (by omega), hc 1 (by omega), hc 2 (by omega), r1.deep1, r2.deep1⟩, s⟩)
    have hsum : (elems.map fun y : DataW H × List MemPlace => uptoBulk y.1).sum = uptoBulkAll (elems.map (·.1)) := by rw [bulkAll_sum, List.map_map]; rfl
    rw [hsum] at q3
    rw [hlen] at q1
    refine ⟨_, l, rfl, ⟨by omega, some ⟨g, o, none⟩, cap, by rw [q1], by omega, hm, fun _ => ⟨g, o, rfl, hg, fun i _ ar har => q2 i ar har⟩⟩, by omega⟩
/-- A node's cells. -/
theorem open_node (n : Nat) (hI : ∀ m, m < n → OpenL enc w m) (cs : List Value) (y : DataW H × List MemPlace) (h : DataW.trod enc Try.prog w 0 (fun _ => true) true n 31 cs = some y) (hb : uptoBulk y.1 ≤ 1048576) :
    ∃ (nd : Nd) (vk va : Value), cs = [.int .i64 nd.kind, .int .i64 nd.tag, .string nd.text, vk, va] ∧ Fit nd.kind ∧ Fit nd.tag ∧ LRd n w w.heap.size vk nd.kids ∧ ARd n w w.heap.size va nd.args ∧ szN nd ≤ uptoBulk y.1 := by
  obtain ⟨xs, m, rfl, rfl, hl, hlen, hf⟩ := DataW.trod_struct Try.underlying31 h
  rw [cellsNode] at hl
  match cs, hl with
  | [c0, c1, c2, c3, c4], _ =>
  match xs, hlen with
  | [x0, x1, x2, x3, x4], _ =>
  have g0 : DataW.trod enc Try.prog w 0 (fun _ => true) true m 3 (([c0, c1, c2, c3, c4].drop 0).take (Try.prog.cellsOf 3)) = some x0 := hf 0 _ rfl
  have g1 : DataW.trod enc Try.prog w 0 (fun _ => true) true m 3 (([c0, c1, c2, c3, c4].drop 1).take (Try.prog.cellsOf 3)) = some x1 := hf 1 _ rfl
  have g2 : DataW.trod enc Try.prog w 0 (fun _ => true) true m 9 (([c0, c1, c2, c3, c4].drop 2).take (Try.prog.cellsOf 9)) = some x2 := hf 2 _ rfl
  have g3 : DataW.trod enc Try.prog w 0 (fun _ => true) true m 22 (([c0, c1, c2, c3, c4].drop 3).take (Try.prog.cellsOf 22)) = some x3 := hf 3 _ rfl
  have g4 : DataW.trod enc Try.prog w 0 (fun _ => true) true m 29 (([c0, c1, c2, c3, c4].drop 4).take (Try.prog.cellsOf 29)) = some x4 := hf 4 _ rfl
  rw [cellsInt] at g0 g1
  rw [cellsStr] at g2
  rw [cellsLN] at g3
  rw [cellsLA] at g4
  obtain ⟨k, e0, rfl, w0⟩ := DataW.trod_int Try.underlying3 g0
  obtain ⟨t, e1, rfl, w1⟩ := DataW.trod_int Try.underlying3 g1
  obtain ⟨s, e2, rfl, w2⟩ := DataW.trod_string Try.underlying9 g2
  simp only [List.map_cons, List.map_nil, uptoBulk, uptoBulkAll] at hb ⊢
  obtain ⟨v3, l3, e3, r3, s3⟩ := hI m (by omega) _ _ g3 (by omega)
  obtain ⟨v4, l4, e4, r4, s4⟩ := open_args m (fun k hk => hI k (by omega)) _ _ g4 (by omega)
  simp at e0 e1 e2 e3 e4
  subst e0 e1 e2 e3 e4
  have hs : s.data.toList.length = s.size := rfl
  exact ⟨.mk k t s l3 l4, c3, c4, rfl, show Fit k from by simpa [Lit.wf, IntKind.min, IntKind.max, IntKind.signed, IntKind.bits, Fit] using w0, show Fit t from by simpa [Lit.wf, IntKind.min, IntKind.max, IntKind.signed, IntKind.bits, Fit] using w1, r3.deep1, r4.deep (by omega), by rw [szN_eq]; simp only [Nd.text, Nd.kids, Nd.args]; omega⟩
theorem open_nodes (n : Nat) (hI : ∀ m, m < n → OpenL enc w m) : OpenL enc w n := by
  intro cs x h hb
  rcases DataW.trod_slice Try.underlying22 h with ⟨rfl, rfl⟩ | ⟨a, len, cap, elems, rest, m, rfl, rfl, rfl, _, hl, hm, hlen, hel, _⟩
  · cases n with
    | zero => simp [DataW.trod] at h
    | succ n => exact ⟨_, [], rfl, LRd_nil _ _ _ _ _ (by simp [maxLen]), by rw [sz_nil]; omega⟩
  · simp only [uptoBulk] at hb ⊢
    rw [cellsNode] at hel
    by_cases h0 : len = 0
    · subst h0
      exact ⟨_, [], rfl, LRd_nil _ _ _ _ _ hm, by rw [sz_nil]; omega⟩
    have key : ∀ i y, elems[i]? = some y → ∃ cs', w.cells? 0 (a.add (i * 5)) 5 = some cs' ∧ DataW.trod enc Try.prog w 0 (fun _ => true) true m 31 cs' = some y := by
      intro i y hy
      have hi : i < len := by rw [← hlen]; exact (List.getElem?_eq_some_iff.1 hy).1
      have h1 := hel i hi
      rw [hy] at h1
      exact Option.bind_eq_some_iff.1 h1
    have hsp : a.spot = none ∧ a.block < w.heap.size := by
      obtain ⟨y, hy⟩ : ∃ y, elems[0]? = some y := ⟨_, List.getElem?_eq_getElem (by omega)⟩
      obtain ⟨cs', h1, _⟩ := key 0 y hy
      obtain ⟨_, h2, h3⟩ := World.cells?_some h1
      have h4 := h3 0 (by omega)
      rw [show (a.add (0 * 5)).add 0 = a by simp [Addr.add], List.getElem?_eq_getElem (by omega)] at h4
      exact spot_none h4
    obtain ⟨g, o, sp⟩ := a
    obtain ⟨rfl, hg⟩ := hsp
    obtain ⟨l, q1, q2, q3⟩ := build (fun y : DataW H × List MemPlace => uptoBulk y.1) elems (fun i nd => NdAt (LRd m w w.heap.size) w w.heap.size g (o + i * 5) nd) (by
      intro i y hy
      obtain ⟨cs', h1, h2⟩ := key i y hy
      have hby : uptoBulk y.1 ≤ uptoBulkAll (elems.map (·.1)) := bulk_mem (List.mem_map_of_mem (List.mem_of_getElem? hy))
      obtain ⟨nd, vk, va, rfl, f1, f2, r1, r2, s⟩ := open_node m (fun k hk => hI k (by omega)) cs' y h2 (by omega)
      obtain ⟨_, hc⟩ := cells_at h1
      exact ⟨nd, ⟨vk, va, hc 0 (by omega), hc 1 (by omega), hc 2 (by omega), hc 3 (by omega), hc 4 (by omega), f1, f2, r1, r2⟩, s⟩)
    have hsum : (elems.map fun y : DataW H × List MemPlace => uptoBulk y.1).sum = uptoBulkAll (elems.map (·.1)) := by rw [bulkAll_sum, List.map_map]; rfl
    rw [hsum] at q3
    rw [hlen] at q1
    refine ⟨_, l, rfl, ⟨by omega, some ⟨g, o, none⟩, cap, by rw [q1], by omega, hm, fun _ => ⟨g, o, rfl, hg, fun i _ nd hnd => q2 i nd hnd⟩⟩, by omega⟩
theorem opens (n : Nat) : OpenL enc w n := Nat.strongRecOn n fun n ih => open_nodes n ih
end
end Go.Proofs.Ytlceaadaeednpaa.Tr
