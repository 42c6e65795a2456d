/-
  The law NumberParse returns true for all strings, in every world that holds the library's tables.
-/
import Derived.Test.YtpehlihbpmcofaaDoorNuParse
import Derived.Test.YtpehlihbpmcofaaDoorNuRPd
import Derived.Test.YtpehlihbpmcofaaDoorNuNm2
namespace Go.Proofs.YtpehlihbpmcofaaDoor.Nu
open Go.RowKit
set_option linter.unusedVariables false

theorem eqN_self' (n d : Int) : eqN n d n d = true := by unfold eqN; rw [decide_eq_true_iff]; exact ⟨rfl, rfl⟩
set_option maxRecDepth 100000 in
set_option maxHeartbeats 4000000 in
theorem NumberParse_any (s : ByteArray) (w : World) (hs : s.size ≤ maxLen) (ht : Tb w) : Calls Tryd.prog 6 #[.string s] w fun e w' => e = .returned (.bool true) ∧ Below w.heap.size w w' := by
  unfold maxLen at hs
  have HT := Lib.hid ht
  clear ht
  by_cases hl : 100 < s.size
  · have hl2 : (100 : Int) < (s.size : Int) := by omega
    clear hl
    go_enter Tryd.func6, Tryd.ntmps6
    go_wp2_with fail
    refine (known_any _ HT.out).mono ?_
    rintro e w1 ⟨rfl, hb⟩
    go_wp2
    go_ret
    exact ⟨rfl, hb⟩
  · have hl2 : (s.size : Int) ≤ 100 := by omega
    have C1 := Lib.hid (fun w ht => Parse_any s w ht (by omega))
    have C2 := Lib.hid (fun w => RParse_any s w (by omega))
    obtain ⟨n, hn⟩ : ∃ n, (parse s.data.toList).n = n := ⟨_, rfl⟩
    obtain ⟨d, hd⟩ : ∃ d, (parse s.data.toList).d = d := ⟨_, rfl⟩
    obtain ⟨g, hg⟩ : ∃ g, (parse s.data.toList).e = g := ⟨_, rfl⟩
    rw [hn, hd, hg] at C1 C2
    have eN := eq_num n d n d
    rw [eqN_self'] at eN
    clear hn hd hg hl
    go_enter Tryd.func6, Tryd.ntmps6
    go_wp2_with fail
    (with_reducible refine (C1.out _ HT.out).mono ?_)
    rintro e w1 ⟨rfl, hb1⟩
    have HB1 := Lib.hid hb1
    clear hb1 C1
    go_wp2_with fail
    (with_reducible refine (C2.out _).mono ?_)
    rintro e w2 ⟨rfl, hb2⟩
    have Fn : Nm w2 _ n d := new1_0 hb2
    have HB2 := Lib.hid (bl1 HB1.out hb2)
    clear hb2 C2
    have cn0 := Fn.c0; have cn1 := Fn.c1; have cnl := Fn.lt
    go_wp2_with fail
    refine (known_any _ (HT.out.below (bl_a1 HB2.out (box n d)))).mono ?_
    clear cn0 cn1 cnl
    rintro e w3 ⟨rfl, hb3⟩
    have HB3 := Lib.hid (bl1 HB2.out hb3)
    go_wp2
    go_ret
    exact ⟨rfl, HB3.out⟩
end Go.Proofs.YtpehlihbpmcofaaDoor.Nu
