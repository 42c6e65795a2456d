/-
  The law TitleRoundTrip returns true for every text, in every world that holds the tables.
-/
import Derived.Test.YtaapdhpfjiaeaaaDoorTiRound
import Derived.Test.YtaapdhpfjiaeaaaDoorTiKnown
namespace Go.Proofs.YtaapdhpfjiaeaaaDoor.Ti
open Go.RowKit

theorem parse_len (l : List UInt8) : (parse l).1.2.length ≤ 100 := by
  unfold parse
  split
  · simp
  · split
    · simp only []; omega
    · simp
theorem Parse_eq {l nm : List UInt8} {k er : Nat} (hp : parse l = ((k, nm), er)) (w : World) (hl : l.length < 4294967281) (ht : Tb w) :
    Calls Tryd.prog 13 #[.string ⟨l.toArray⟩] w fun e w' => e = .returned (.tuple #[.agg #[.int .i64 (k : Int), .string ⟨nm.toArray⟩], .int .i64 (er : Int)]) ∧ Below w.heap.size w w' := by
  have h := Parse_any ⟨l.toArray⟩ w hl ht
  have hd : (⟨l.toArray⟩ : ByteArray).data.toList = l := rfl
  rw [hd, hp] at h
  exact h
theorem cat_colon (l : List UInt8) : (⟨#[58]⟩ : ByteArray) ++ ⟨l.toArray⟩ = ⟨(58 :: l).toArray⟩ := by
  apply ByteArray.ext
  apply Array.ext'
  simp [ByteArray.data_append]
theorem Format_eq {l fm : List UInt8} {sp : Int} (hf : format sp l = fm) (w : World) (hl : l.length ≤ maxLen) (ht : Tb w) :
    Calls Tryd.prog 17 #[.agg #[.int .i64 sp, .string ⟨l.toArray⟩]] w fun e w' => e = .returned (.string ⟨fm.toArray⟩) ∧ Below w.heap.size w w' := by
  have h := Format_any sp ⟨l.toArray⟩ w hl ht
  have hd : (⟨l.toArray⟩ : ByteArray).data.toList = l := rfl
  rw [hd, hf] at h
  exact h
theorem format_len (sp : Int) (l : List UInt8) : (format sp l).length ≤ 109 := by
  unfold format
  split
  · rename_i h
    have h1 := valid_len h
    have h2 := name_len sp.toNat
    split
    · omega
    · simp; omega
  · simp

set_option maxRecDepth 100000 in
set_option maxHeartbeats 1000000 in
theorem roundTrip_any (s : ByteArray) (w : World) (hs : s.size ≤ maxLen) (ht : Tb w) :
    Calls Tryd.prog 5 #[.string s] w fun e w' => e = .returned (.bool true) ∧ Below w.heap.size w w' := by
  unfold maxLen at hs
  by_cases hbig : 400 < s.size
  · go_enter Tryd.func5, Tryd.ntmps5
    go_wp2_with fail
    refine (known_any _ ht).mono ?_
    rintro e w1 ⟨rfl, hb1⟩
    go_wp2
    go_ret
    exact ⟨rfl, hb1⟩
  have hpl := parse_len s.data.toList
  by_cases hok : (parse s.data.toList).2 = 0
  · have hv := parse_valid hok
    obtain ⟨k, nm, hp⟩ : ∃ k nm, parse s.data.toList = ((k, nm), 0) := ⟨_, _, Prod.ext rfl hok⟩
    rw [hp] at hv hpl
    dsimp only at hv hpl
    obtain ⟨f1, f2⟩ := parse_format hv
    rw [Int.toNat_natCast] at f1 f2
    have hfl := format_len (k : Int) nm
    obtain ⟨fm, hfm⟩ : ∃ fm, format (k : Int) nm = fm := ⟨_, rfl⟩
    rw [hfm] at f1 f2 hfl
    have HFM := Lib.hid hfm; clear hfm
    have hnm : nm.length ≤ maxLen := by unfold maxLen; omega
    have HNM := Lib.hid hnm; clear hnm
    have s1 : 1 + fm.length ≤ 9223372036854775807 := by omega
    have HP := Lib.hid hp; have HF1 := Lib.hid f1; have HF2 := Lib.hid f2; have HV := Lib.hid hv
    clear hp f1 f2 hv hok
    go_enter Tryd.func5, Tryd.ntmps5
    go_wp2_with fail
    refine (Parse_any _ _ (by omega) ht).mono ?_
    rintro e w1 ⟨he, hb1⟩
    rw [HP.out] at he
    dsimp only at he
    subst he
    have t1 := ht.below hb1
    have c1 : Below w1.heap.size w1 (w1.alloc (.cells #[.int .i64 (k : Int), .string ⟨nm.toArray⟩] 24)) := (Below.refl _ w1).alloc (Nat.le_refl _) _
    have t1' := t1.below c1
    go_wp2_with fail
    refine (Format_eq HFM.out _ HNM.out t1').mono ?_
    rintro e w2 ⟨rfl, hb2⟩
    have t2 := t1'.below hb2
    have k2 := keep2 (by simpa using hb2)
    obtain ⟨a0, a1, _, _⟩ := k2
    have Z1 := hb1.size
    have Z2 : w1.heap.size + 1 ≤ w2.heap.size := by simpa using hb2.size
    go_wp2_with fail
    refine (Parse_eq HF1.out _ (by omega) t2).mono ?_
    rintro e w3 ⟨rfl, hb3⟩
    have t3 := t2.below hb3
    have Z3 := hb3.size
    have b0 : w3.cell? ⟨w1.heap.size, 0, none⟩ = some (.int .i64 (k : Int)) := (hb3.cell (p := ⟨w1.heap.size, 0, none⟩) (by show w1.heap.size < _; omega)).trans a0
    have b1 : w3.cell? ⟨w1.heap.size, 1, none⟩ = some (.string ⟨nm.toArray⟩) := (hb3.cell (p := ⟨w1.heap.size, 1, none⟩) (by show w1.heap.size < _; omega)).trans a1
    have z3 : w1.heap.size < w3.heap.size := by omega
    have c3 : Below w3.heap.size w3 (w3.alloc (.cells #[.int .i64 (k : Int), .string ⟨nm.toArray⟩] 24)) := (Below.refl _ w3).alloc (Nat.le_refl _) _
    have t3' := t3.below c3
    clear a0 a1
    go_wp2_with fail
    refine (Format_eq HFM.out _ HNM.out t3').mono ?_
    rintro e w4 ⟨rfl, hb4⟩
    have t4 := t3'.below hb4
    have Z4 : w3.heap.size + 1 ≤ w4.heap.size := by simpa using hb4.size
    have d4 := keep2 (by simpa using hb4)
    obtain ⟨u0, u1, _, _⟩ := d4
    have b0' : w4.cell? ⟨w1.heap.size, 0, none⟩ = some (.int .i64 (k : Int)) := (hb4.cell (p := ⟨w1.heap.size, 0, none⟩) (by show w1.heap.size < _; simp; omega)).trans (Rf.oldCell _ b0)
    have b1' : w4.cell? ⟨w1.heap.size, 1, none⟩ = some (.string ⟨nm.toArray⟩) := (hb4.cell (p := ⟨w1.heap.size, 1, none⟩) (by show w1.heap.size < _; simp; omega)).trans (Rf.oldCell _ b1)
    clear b0 b1
    go_wp2_with fail
    rw [cat_colon]
    refine (Parse_eq HF2.out _ (by simp; omega) t4).mono ?_
    rintro e w5 ⟨rfl, hb5⟩
    have t5 := t4.below hb5
    have Z5 := hb5.size
    have p0 : w5.cell? ⟨w1.heap.size, 0, none⟩ = some (.int .i64 (k : Int)) := (hb5.cell (p := ⟨w1.heap.size, 0, none⟩) (by show w1.heap.size < _; omega)).trans b0'
    have p1 : w5.cell? ⟨w1.heap.size, 1, none⟩ = some (.string ⟨nm.toArray⟩) := (hb5.cell (p := ⟨w1.heap.size, 1, none⟩) (by show w1.heap.size < _; omega)).trans b1'
    have q0 : w5.cell? ⟨w3.heap.size, 0, none⟩ = some (.int .i64 (k : Int)) := (hb5.cell (p := ⟨w3.heap.size, 0, none⟩) (by show w3.heap.size < _; omega)).trans u0
    have q1 : w5.cell? ⟨w3.heap.size, 1, none⟩ = some (.string ⟨nm.toArray⟩) := (hb5.cell (p := ⟨w3.heap.size, 1, none⟩) (by show w3.heap.size < _; omega)).trans u1
    have z5 : w1.heap.size < w5.heap.size := by omega
    have z5' : w3.heap.size < w5.heap.size := by omega
    have c5 : Below w5.heap.size w5 (w5.alloc (.cells #[.int .i64 (k : Int), .string ⟨nm.toArray⟩] 24)) := (Below.refl _ w5).alloc (Nat.le_refl _) _
    have t5' := t5.below c5
    clear b0' b1' u0 u1
    go_wp2_with fail
    have hV := Valid_any (k : Int) ⟨nm.toArray⟩ (w5.alloc (.cells #[.int .i64 (k : Int), .string ⟨nm.toArray⟩] 24)) HNM.out t5'
    have hd : (⟨nm.toArray⟩ : ByteArray).data.toList = nm := rfl
    rw [hd, HV.out] at hV
    refine hV.mono ?_
    rintro e w6 ⟨rfl, hb6⟩
    have t6 := t5'.below hb6
    have Z6 : w5.heap.size + 1 ≤ w6.heap.size := by simpa using hb6.size
    have d6 := keep2 (by simpa using hb6)
    obtain ⟨r0, r1, _, _⟩ := d6
    have s0 : w6.cell? ⟨w1.heap.size, 0, none⟩ = some (.int .i64 (k : Int)) := (hb6.cell (p := ⟨w1.heap.size, 0, none⟩) (by show w1.heap.size < _; simp; omega)).trans (Rf.oldCell _ p0)
    have s1' : w6.cell? ⟨w1.heap.size, 1, none⟩ = some (.string ⟨nm.toArray⟩) := (hb6.cell (p := ⟨w1.heap.size, 1, none⟩) (by show w1.heap.size < _; simp; omega)).trans (Rf.oldCell _ p1)
    have v0 : w6.cell? ⟨w3.heap.size, 0, none⟩ = some (.int .i64 (k : Int)) := (hb6.cell (p := ⟨w3.heap.size, 0, none⟩) (by show w3.heap.size < _; simp; omega)).trans (Rf.oldCell _ q0)
    have v1 : w6.cell? ⟨w3.heap.size, 1, none⟩ = some (.string ⟨nm.toArray⟩) := (hb6.cell (p := ⟨w3.heap.size, 1, none⟩) (by show w3.heap.size < _; simp; omega)).trans (Rf.oldCell _ q1)
    clear hV hd p0 p1 q0 q1
    have B6 : Below w.heap.size w w6 := ((((((hb1.trans (c1.mono hb1.size)).trans (hb2.mono (by simp; omega))).trans (hb3.mono (by omega))).trans (c3.mono (by omega))).trans (hb4.mono (by simp; omega))).trans (hb5.mono (by omega))).trans ((c5.mono (by omega)).trans (hb6.mono (by simp; omega)))
    go_wp2_with fail
    refine (known_any _ t6).mono ?_
    rintro e w7 ⟨rfl, hb7⟩
    go_wp2
    go_ret
    exact ⟨rfl, B6.trans (hb7.mono (by omega))⟩
  · have he := parse_err hok
    obtain ⟨er, hp⟩ : ∃ er, parse s.data.toList = ((0, []), er) := ⟨(parse s.data.toList).2, by rw [← he]⟩
    rw [hp] at hok
    dsimp only at hok
    have hd0 : ((er : Int) != 0) = true := by rw [bne_iff_ne]; omega
    have HP := Lib.hid hp; clear hp he hok
    go_enter Tryd.func5, Tryd.ntmps5
    go_wp2_with fail
    refine (Parse_any _ _ (by omega) ht).mono ?_
    rintro e w1 ⟨he, hb1⟩
    rw [HP.out] at he
    dsimp only at he
    subst he
    have t1 := ht.below hb1
    have c1 : Below w1.heap.size w1 (w1.alloc (.cells #[.int .i64 ((0 : Nat) : Int), .string ⟨#[]⟩] 24)) := (Below.refl _ w1).alloc (Nat.le_refl _) _
    have t1' := t1.below c1
    go_wp2_with fail
    refine (known_any _ t1').mono ?_
    rintro e w2 ⟨rfl, hb2⟩
    go_wp2
    go_ret
    exact ⟨rfl, (hb1.trans (c1.mono hb1.size)).trans (hb2.mono (by simp; have := hb1.size; omega))⟩
end Go.Proofs.YtaapdhpfjiaeaaaDoor.Ti
