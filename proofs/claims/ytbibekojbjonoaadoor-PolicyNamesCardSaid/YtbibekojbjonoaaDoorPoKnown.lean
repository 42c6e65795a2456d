/-
  The contract of known: the first example of the chapter.
-/
import Derived.Test.YtbibekojbjonoaaDoorPoParse
namespace Go.Proofs.YtbibekojbjonoaaDoor.Po
open Go.RowKit Go.Shelf
set_option linter.unusedVariables false
set_option linter.unusedSimpArgs false

def exL : By := [103, 114, 111, 117, 112, 32, 115, 116, 97, 102, 102, 32, 97, 110, 110, 32, 98, 111, 98, 10, 97, 108, 108, 111, 119, 32, 114, 101, 97, 100, 32, 97, 108, 108, 32, 60, 97, 108, 108, 62, 10, 100, 101, 110, 121, 32, 114, 101, 97, 100, 32, 97, 108, 108, 32, 85, 115, 101, 114, 58, 65, 110, 110, 47, 100, 105, 97, 114, 121, 10, 103, 117, 97, 114, 100, 32, 115, 116, 97, 102, 102, 32, 77, 97, 105, 110, 32, 80, 97, 103, 101, 32, 124, 32, 82, 117, 108, 101, 115]
def exD : Gud := ⟨false, [115, 116, 97, 102, 102], 0, [77, 97, 105, 110, 32, 80, 97, 103, 101], [82, 117, 108, 101, 115]⟩
def exP : Pol := ⟨[⟨[115, 116, 97, 102, 102], [[97, 110, 110], [98, 111, 98]]⟩], [⟨true, 1, [97, 108, 108], 1, 0, []⟩, ⟨false, 1, [97, 108, 108], 3, 2, [65, 110, 110, 47, 100, 105, 97, 114, 121]⟩], [exD]⟩
theorem ex_parse : parse exL = ⟨exP, 0, 0⟩ := by decide +kernel
theorem ex_val : validate exP = 0 := by decide +kernel
theorem ex_name : isName [115, 116, 97, 102, 102] = true ∧ isName [64, 120] = false := by decide +kernel
theorem ex_fit : FitP exP := by
  refine ⟨?_, ?_, ?_⟩
  · intro g hg
    simp only [exP, List.mem_singleton] at hg
    subst hg
    refine ⟨by unfold Fits maxLen; simp, ?_⟩
    intro m hm
    simp only [List.mem_cons, List.not_mem_nil, or_false] at hm
    rcases hm with rfl | rfl <;> (unfold Fits maxLen; simp)
  · intro r hr
    simp only [exP, List.mem_cons, List.not_mem_nil, or_false] at hr
    rcases hr with rfl | rfl <;> (unfold Fits maxLen; simp)
  · intro d hd
    simp only [exP, exD, List.mem_singleton] at hd
    subst hd
    exact ⟨by unfold Fits maxLen; simp, by unfold Fits maxLen; simp⟩
theorem eql_ex (w : World) : (binOp .eql 36 (.agg #[.bool exD.st, .string (bsl exD.gr), .int .i64 exD.sp, .string (bsl exD.tn), .string (bsl exD.se)]) (.agg #[.bool false, .string ⟨#[115, 116, 97, 102, 102]⟩, .int .i64 0, .string ⟨#[77, 97, 105, 110, 32, 80, 97, 103, 101]⟩, .string ⟨#[82, 117, 108, 101, 115]⟩])).run Tryd.prog w = .ok (.bool true) w := by kernel_rfl
set_option maxRecDepth 100000 in
set_option maxHeartbeats 4000000 in
theorem known_any (w : World) (ht : Tb w) : Calls Tryd.prog 6 #[] w fun e w' => e = .returned (.bool true) ∧ Below w.heap.size w w' := by
  have HP := Lib.hid (Parse_any exL w (by unfold maxLen; decide) ht)
  rw [ex_parse] at HP
  have HP2 := Lib.hid ((HP.out).mono (R' := fun e w' => ∃ gv rv dv, e = .returned (.tuple #[.agg #[gv, rv, dv], .int .i64 0, .int .i64 0]) ∧ RdP w' w'.heap.size gv rv dv exP ∧ Below w.heap.size w w') (by rintro e w' ⟨gv, rv, dv, he, h1, h2⟩; exact ⟨gv, rv, dv, he, h1, h2⟩))
  clear HP
  have HV := Lib.hid (fun gv rv dv W h1 h2 => Validate_any gv rv dv exP W h1 ex_fit h2)
  rw [ex_val] at HV
  have HN1 := Lib.hid (fun W => IsNameL [115, 116, 97, 102, 102] W (by unfold Fits maxLen; decide))
  have HN2 := Lib.hid (fun W => IsNameL [64, 120] W (by unfold Fits maxLen; decide))
  rw [ex_name.1, show bsl [115, 116, 97, 102, 102] = (⟨#[115, 116, 97, 102, 102]⟩ : ByteArray) from rfl] at HN1
  rw [ex_name.2, show bsl [64, 120] = (⟨#[64, 120]⟩ : ByteArray) from rfl] at HN2
  have heq := fun W => eql_ex W
  have HT := Lib.hid ht
  clear ht
  go_enter Tryd.func6, Tryd.ntmps6
  go_wp2_with fail
  refine (HP2.out).mono ?_
  rintro e w1 ⟨gv, rv, dv, rfl, hrd, hb⟩
  obtain ⟨A1, n1, A2, n2, A3, n3, rfl, rfl, rfl, l1, l2, l3, m1, m2, m3⟩ := hrd.form
  obtain ⟨A4, n4, e4, l4, m4, h4⟩ := hrd.ds.ex
  injection e4 with e5 e6 e7
  subst e5; subst e7
  obtain ⟨g, o, rfl, hg, q⟩ := h4 (by decide)
  have q0 := q 0 exD rfl 0 _ rfl
  have q1 := q 0 exD rfl 1 _ rfl
  have q2 := q 0 exD rfl 2 _ rfl
  have q3 := q 0 exD rfl 3 _ rfl
  have q4 := q 0 exD rfl 4 _ rfl
  simp only [Nat.zero_mul, Nat.add_zero] at q0 q1 q2 q3 q4
  have z1 : exP.gs.length = 1 := rfl
  have z2 : exP.rs.length = 2 := rfl
  have z3 : exP.ds.length = 1 := rfl
  rw [z1, z2, z3] at hrd
  rw [z1, z2, z3]
  have HB1 : Hid (Below w.heap.size w (w1.alloc (.cells #[.slice A1 1 n1, .slice A2 2 n2, .slice (some ⟨g, o, none⟩) 1 n3] 29))) := Lib.hid (hb.alloc hb.size _)
  have HR := Lib.hid hrd
  have HRA := Lib.hid (hrd.below ((Below.refl w1.heap.size w1).alloc (Nat.le_refl _) (.cells #[.slice A1 1 n1, .slice A2 2 n2, .slice (some ⟨g, o, none⟩) 1 n3] 29)) (Nat.le_refl _))
  clear hrd hb l1 l2 l3 l4 m1 m2 m3 m4 h4 q e6 z1 z2 z3
  go_wp2_with fail
  have HC := Lib.hid (HV.out _ _ _ _ (show RdP _ (w1.alloc (.cells #[.slice A1 1 n1, .slice A2 2 n2, .slice (some ⟨g, o, none⟩) 1 n3] 29)).heap.size _ _ _ _ from ⟨HRA.out.gs.more (by simp), HRA.out.rs.more (by simp), HRA.out.ds.more (by simp)⟩) (HT.out.below HB1.out))
  with_reducible refine (HC.out).mono ?_
  rintro e w2 ⟨rfl, hb2⟩
  have HB2 := Lib.hid (HB1.out.trans (hb2.mono HB1.out.size))
  clear hb2
  go_wp2_with fail
  with_reducible refine (HN1.out _).mono ?_
  rintro e w3 ⟨rfl, rfl⟩
  go_wp2_with fail
  with_reducible refine (HN2.out _).mono ?_
  rintro e w4 ⟨rfl, rfl⟩
  go_wp2
  go_ret
  exact ⟨rfl, HB2.out⟩
end Go.Proofs.YtbibekojbjonoaaDoor.Po
