/-
  The contracts of the law's large and of the reference's Put.
-/
import Derived.Test.YtaallpfkgcndmaaDoorPmLeaf
import Derived.Laws.Cover1
namespace Go.Proofs.YtaallpfkgcndmaaDoor.Pm
open Go.RowKit Go.Shelf
set_option linter.unusedVariables false
set_option linter.unusedSimpArgs false

/-- Arguments that are not large. -/
structure Sm (l : List Val) : Prop where
  len : l.length ≤ 61
  name : ∀ x ∈ l, x.2.1.length ≤ 100
  text : ∀ x ∈ l, x.2.2.length ≤ 300
def Lg (l : List Val) (w : World) : Ending → World → Prop := fun e w' => ∃ b, e = .returned (.bool b) ∧ (b = false → Sm l) ∧ w' = w
set_option maxRecDepth 100000 in
set_option maxHeartbeats 4000000 in
theorem large_any (v : Value) (l : List Val) (w : World) (hr : RdV w w.heap.size v l) :
    Calls Tryd.prog 8 #[v] w (Lg l w) := by
  obtain ⟨A1, c1, rfl, l1, m1, r1⟩ := hr.ex
  unfold maxLen at m1
  clear hr
  have R1 := Lib.hid r1; clear r1
  go_enter Tryd.func8, Tryd.ntmps8
  go_wp2
  go_loopw [3] (fun i wr => ∃ (k : Nat), k ≤ l.length ∧ k ≤ 61 ∧ i = .int .i64 k ∧ w = wr ∧ Hid (∀ x ∈ l.take k, x.2.1.length ≤ 100 ∧ x.2.2.length ≤ 300)) (fun i _ => l.length - (intOf i).toNat)
  case atStart => exact ⟨0, Nat.zero_le _, by omega, rfl, rfl, Lib.hid (by simp)⟩
  case round =>
    obtain ⟨k, hk, h61, rfl, rfl, hs⟩ := hrel
    by_cases hlt : k < l.length
    · obtain ⟨g, o, rfl, hg, q⟩ := R1.out (by omega)
      have hki : (k : Int) < (l.length : Int) := by omega
      have q2 := q k l[k] (List.getElem?_eq_getElem hlt) 1 _ rfl
      have q3 := q k l[k] (List.getElem?_eq_getElem hlt) 2 _ rfl
      have HF : Hid (∀ y ∈ l.take (k + 1), y ∈ l.take k ∨ y = l[k]) := Lib.hid (fun y hy => by
        rw [List.take_succ_eq_append_getElem hlt, List.mem_append, List.mem_singleton] at hy; exact hy)
      generalize l[k] = p at q2 q3 HF
      obtain ⟨pb, pn, pt⟩ := p
      clear q
      by_cases h1 : 60 < k
      · have d1 : decide ((60 : Int) < (k : Int)) = true := decide_eq_true (by omega)
        go_wp2
        go_ret
        exact ⟨true, rfl, (fun h => by cases h), rfl⟩
      · have d1 : decide ((60 : Int) < (k : Int)) = false := decide_eq_false (by omega)
        have z2 : (bsl pn).size = pn.length := bsl_size _
        have z3 : (bsl pt).size = pt.length := bsl_size _
        by_cases h2 : 100 < pn.length
        · have d2 : decide ((100 : Int) < ((bsl pn).size : Int)) = true := decide_eq_true (by omega)
          go_wp2
          go_ret
          exact ⟨true, rfl, (fun h => by cases h), rfl⟩
        · have d2 : decide ((100 : Int) < ((bsl pn).size : Int)) = false := decide_eq_false (by omega)
          by_cases h3 : 300 < pt.length
          · have d3 : decide ((300 : Int) < ((bsl pt).size : Int)) = true := decide_eq_true (by omega)
            go_wp2
            go_ret
            exact ⟨true, rfl, (fun h => by cases h), rfl⟩
          · have d3 : decide ((300 : Int) < ((bsl pt).size : Int)) = false := decide_eq_false (by omega)
            have HN : Hid (∀ x ∈ l.take (k + 1), x.2.1.length ≤ 100 ∧ x.2.2.length ≤ 300) := Lib.hid (fun x hx => by
              rcases HF.out x hx with h | rfl
              · exact hs.out x h
              · exact ⟨by show pn.length ≤ 100; omega, by show pt.length ≤ 300; omega⟩)
            go_wp2
            go_roundw
            case rel => exact ⟨k + 1, by omega, by omega, by go_num, trivial, HN⟩
            case measure => simp [intOf]; omega
    · have HN : Hid (Sm l) := Lib.hid (by
        have h := hs.out
        rw [List.take_of_length_le (by omega)] at h
        exact ⟨by omega, fun x hx => (h x hx).1, fun x hx => (h x hx).2⟩)
      go_wp2
      go_ret
      exact ⟨false, rfl, fun _ => HN.out, rfl⟩

theorem less_str (a b : By) : Op.bytesLess (bsl a).toList (bsl b).toList = !(decide (b ≤ a)) := by
  rw [bsl_toList, bsl_toList, bytesLess_eq]
  by_cases h : a < b
  · have q : ¬ b ≤ a := fun q => q h
    rw [decide_eq_true h, decide_eq_false q]; rfl
  · have q : b ≤ a := List.not_lt.1 h
    rw [decide_eq_false h, decide_eq_true q]; rfl
end Go.Proofs.YtaallpfkgcndmaaDoor.Pm
