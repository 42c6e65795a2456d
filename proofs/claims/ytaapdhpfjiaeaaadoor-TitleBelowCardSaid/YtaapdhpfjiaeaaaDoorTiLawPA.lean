/-
  The law TitleParse returns true for every text, in every world that holds the tables.
-/
import Derived.Test.YtaapdhpfjiaeaaaDoorTiRefPa
import Derived.Test.YtaapdhpfjiaeaaaDoorTiLawRT
namespace Go.Proofs.YtaapdhpfjiaeaaaDoor.Ti
open Go.RowKit

theorem RefParse_eq {l nm : List UInt8} {k er : Nat} (hp : parse l = ((k, nm), er)) (w : World) (hl : l.length < 4294967281) :
    Calls Tryd.prog 14 #[.string ⟨l.toArray⟩] w fun e w' => e = .returned (.tuple #[.agg #[.int .i64 (k : Int), .string ⟨nm.toArray⟩], .int .i64 (er : Int)]) ∧ Below w.heap.size w w' := by
  have h := RefParse_any ⟨l.toArray⟩ w hl
  have hd : (⟨l.toArray⟩ : ByteArray).data.toList = l := rfl
  rw [hd, hp] at h
  exact h

set_option maxRecDepth 100000 in
set_option maxHeartbeats 1000000 in
theorem parse_any (s : ByteArray) (w : World) (hs : s.size ≤ maxLen) (ht : Tb w) :
    Calls Tryd.prog 3 #[.string s] w fun e w' => e = .returned (.bool true) ∧ Below w.heap.size w w' := by
  unfold maxLen at hs
  by_cases hbig : 400 < s.size
  · go_enter Tryd.func3, Tryd.ntmps3
    go_wp2_with fail
    refine (known_any _ ht).mono ?_
    rintro e w1 ⟨rfl, hb1⟩
    go_wp2
    go_ret
    exact ⟨rfl, hb1⟩
  obtain ⟨k, nm, er, hp⟩ : ∃ k nm er, parse s.data.toList = ((k, nm), er) := ⟨_, _, _, rfl⟩
  have HP := Lib.hid hp; clear hp
  go_enter Tryd.func3, Tryd.ntmps3
  go_wp2_with fail
  refine (Parse_any _ _ (by omega) ht).mono ?_
  rintro e w1 ⟨he, hb1⟩
  rw [HP.out] at he
  dsimp only at he
  subst he
  have t1 := ht.below hb1
  have c1 : Below w1.heap.size w1 (w1.alloc (.cells #[.int .i64 (k : Int), .string ⟨nm.toArray⟩] 24)) := (Below.refl _ w1).alloc (Nat.le_refl _) _
  have t1' := t1.below c1
  go_wp2_with fail
  refine (RefParse_any _ _ (by omega)).mono ?_
  rintro e w2 ⟨he, hb2⟩
  rw [HP.out] at he
  dsimp only at he
  subst he
  have t2 := t1'.below hb2
  have k2 := keep2 (by simpa using hb2)
  obtain ⟨a0, a1, _, _⟩ := k2
  have Z1 := hb1.size
  have Z2 : w1.heap.size + 1 ≤ w2.heap.size := by simpa using hb2.size
  have z2 : w1.heap.size < w2.heap.size := by omega
  have c2 : Below w2.heap.size w2 (w2.alloc (.cells #[.int .i64 (k : Int), .string ⟨nm.toArray⟩] 24)) := (Below.refl _ w2).alloc (Nat.le_refl _) _
  have t2' := t2.below c2
  have B2 : Below w.heap.size w (w2.alloc (.cells #[.int .i64 (k : Int), .string ⟨nm.toArray⟩] 24)) := ((hb1.trans (c1.mono hb1.size)).trans (hb2.mono (by simp; omega))).trans (c2.mono (by omega))
  go_wp2_with fail
  refine (known_any _ t2').mono ?_
  rintro e w4 ⟨rfl, hb4⟩
  go_wp2
  go_ret
  exact ⟨rfl, B2.trans (hb4.mono (by simp; omega))⟩
end Go.Proofs.YtaapdhpfjiaeaaaDoor.Ti
