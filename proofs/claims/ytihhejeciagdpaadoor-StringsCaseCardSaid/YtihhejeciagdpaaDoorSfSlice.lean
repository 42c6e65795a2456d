/-
  The contract of Slice of package strfunc.
-/
import Derived.Test.YtihhejeciagdpaaDoorSfFun
namespace Go.Proofs.YtihhejeciagdpaaDoor.Sf
open Go.RowKit
set_option linter.unusedVariables false

def I64 (n : Int) : Prop := -9223372036854775808 ≤ n ∧ n ≤ 9223372036854775807
theorem slF_neg {s : ByteArray} {f : Int} (h : f < 0) : (max 0 (f + (rc s : Int)) : Int) = ((slF s f : Nat) : Int) := by unfold slF; rw [if_pos h]; omega
theorem slF_pos {s : ByteArray} {f : Int} (h : ¬ f < 0) : f = ((slF s f : Nat) : Int) := by unfold slF; rw [if_neg h]; omega
theorem slN_neg {s : ByteArray} {F : Nat} {n : Int} (h : n < 0) : (max 0 (n + ((rc s - F : Nat) : Int)) : Int) = ((slN s F n : Nat) : Int) := by unfold slN; rw [if_pos h]; omega
theorem slN_pos {s : ByteArray} {F : Nat} {n : Int} (h : ¬ n < 0) : n = ((slN s F n : Nat) : Int) := by unfold slN; rw [if_neg h]; omega
set_option maxRecDepth 100000 in
set_option maxHeartbeats 2000000 in
theorem Slice_any (s : ByteArray) (f n : Int) (w : World) (hs : s.size ≤ 4294967281) (hf : I64 f) (hn : I64 n) :
    Calls Tryd.prog 13 #[.string s, .int .i64 f, .int .i64 n] w fun e w' => e = .returned (.string (slice s f n)) ∧ Below w.heap.size w w' := by
  obtain ⟨hf1, hf2⟩ := hf
  obtain ⟨hn1, hn2⟩ := hn
  have hrc := rc_le s
  obtain ⟨F, hF⟩ : ∃ F, slF s f = F := ⟨_, rfl⟩
  have hsl : slice s f n = sl s F (slN s F n) := by unfold slice; rw [hF]
  have HSL := Lib.hid hsl
  clear hsl
  have hag := ag_le s F
  have hag2 : (ag s F : Int) ≤ (s.size : Int) := by omega
  have htl := Lib.tail_size s (ag s F)
  have hrt := rc_tail s F
  have hlast : ∀ (N : Nat) (W W1 : World), slN s F n = N → Below w.heap.size w W → Below W.heap.size W W1 → Ending.returned (.string ((s.extract (ag s F) s.size).extract 0 (ag (s.extract (ag s F) s.size) N))) = .returned (.string (slice s f n)) ∧ Below w.heap.size w W1 :=
    fun N W W1 h1 h2 h3 => ⟨by rw [HSL.out, h1, sl_tail], h2.trans (h3.mono h2.size)⟩
  have HL := Lib.hid hlast
  clear hlast
  have hta : ∀ N, (ag (s.extract (ag s F) s.size) N : Int) ≤ ((s.extract (ag s F) s.size).size : Int) := fun N => by have := ag_le (s.extract (ag s F) s.size) N; omega
  have hrest : ∀ (W : World) (r : ByteArray), s.extract (ag s F) s.size = r → r.size ≤ 4294967281 := fun W r h => by rw [← h, htl]; omega
  by_cases h : f < 0
  · have hm := slF_neg (s := s) h
    rw [hF] at hm
    by_cases h2 : n < 0
    · have hm2 := slN_neg (s := s) (F := F) h2
      rw [← hrt] at hm2
      obtain ⟨N, hN⟩ : ∃ N, slN s F n = N := ⟨_, rfl⟩
      rw [hN] at hm2
      have HL2 := Lib.hid (HL.out N)
      have hta2 := hta N
      obtain ⟨r, hr⟩ : ∃ r, s.extract (ag s F) s.size = r := ⟨_, rfl⟩
      have hr2 := hrest w r hr
      rw [hr] at hm2 HL2 hta2 hrt htl
      have hrr := rc_le r
      clear hrest hta HL HSL hrt
      go_enter Tryd.func13, Tryd.ntmps13
      go_wp2_with fail
      refine (Length_any s _ hs).mono ?_
      rintro e w1 ⟨rfl, hb1⟩
      go_wp2_with fail
      refine (offset_any s F _ hs).mono ?_
      rintro e w2 ⟨rfl, hb2⟩
      go_wp2_with fail
      refine (Length_any r _ hr2).mono ?_
      rintro e w3 ⟨rfl, hb3⟩
      go_wp2_with fail
      refine (offset_any r N _ hr2).mono ?_
      rintro e w4 ⟨rfl, hb4⟩
      go_wp2
      go_ret
      exact HL2.out w3 w4 hN ((hb1.trans (hb2.mono hb1.size)).trans (hb3.mono (Nat.le_trans hb1.size hb2.size))) hb4
    · have hm2 := slN_pos (s := s) (F := F) h2
      obtain ⟨N, hN⟩ : ∃ N, slN s F n = N := ⟨_, rfl⟩
      rw [hN] at hm2
      subst hm2
      have HL2 := Lib.hid (HL.out N)
      have hta2 := hta N
      obtain ⟨r, hr⟩ : ∃ r, s.extract (ag s F) s.size = r := ⟨_, rfl⟩
      have hr2 := hrest w r hr
      rw [hr] at HL2 hta2 hrt htl
      have hnn : decide ((N : Int) < 0) = false := decide_eq_false (by omega)
      clear hrest hta HL HSL hrt h2
      go_enter Tryd.func13, Tryd.ntmps13
      go_wp2_with fail
      refine (Length_any s _ hs).mono ?_
      rintro e w1 ⟨rfl, hb1⟩
      go_wp2_with fail
      refine (offset_any s F _ hs).mono ?_
      rintro e w2 ⟨rfl, hb2⟩
      go_wp2_with fail
      refine (offset_any r N _ hr2).mono ?_
      rintro e w4 ⟨rfl, hb4⟩
      go_wp2
      go_ret
      exact HL2.out w2 w4 hN (hb1.trans (hb2.mono hb1.size)) hb4
  · have hm := slF_pos (s := s) h
    rw [hF] at hm
    subst hm
    have hff : decide ((F : Int) < 0) = false := decide_eq_false (by omega)
    clear h
    by_cases h2 : n < 0
    · have hm2 := slN_neg (s := s) (F := F) h2
      rw [← hrt] at hm2
      obtain ⟨N, hN⟩ : ∃ N, slN s F n = N := ⟨_, rfl⟩
      rw [hN] at hm2
      have HL2 := Lib.hid (HL.out N)
      have hta2 := hta N
      obtain ⟨r, hr⟩ : ∃ r, s.extract (ag s F) s.size = r := ⟨_, rfl⟩
      have hr2 := hrest w r hr
      rw [hr] at hm2 HL2 hta2 hrt htl
      have hrr := rc_le r
      clear hrest hta HL HSL hrt
      go_enter Tryd.func13, Tryd.ntmps13
      go_wp2_with fail
      refine (offset_any s F _ hs).mono ?_
      rintro e w2 ⟨rfl, hb2⟩
      go_wp2_with fail
      refine (Length_any r _ hr2).mono ?_
      rintro e w3 ⟨rfl, hb3⟩
      go_wp2_with fail
      refine (offset_any r N _ hr2).mono ?_
      rintro e w4 ⟨rfl, hb4⟩
      go_wp2
      go_ret
      exact HL2.out w3 w4 hN (hb2.trans (hb3.mono hb2.size)) hb4
    · have hm2 := slN_pos (s := s) (F := F) h2
      obtain ⟨N, hN⟩ : ∃ N, slN s F n = N := ⟨_, rfl⟩
      rw [hN] at hm2
      subst hm2
      have HL2 := Lib.hid (HL.out N)
      have hta2 := hta N
      obtain ⟨r, hr⟩ : ∃ r, s.extract (ag s F) s.size = r := ⟨_, rfl⟩
      have hr2 := hrest w r hr
      rw [hr] at HL2 hta2 hrt htl
      have hnn : decide ((N : Int) < 0) = false := decide_eq_false (by omega)
      clear hrest hta HL HSL hrt h2
      go_enter Tryd.func13, Tryd.ntmps13
      go_wp2_with fail
      refine (offset_any s F _ hs).mono ?_
      rintro e w2 ⟨rfl, hb2⟩
      go_wp2_with fail
      refine (offset_any r N _ hr2).mono ?_
      rintro e w4 ⟨rfl, hb4⟩
      go_wp2
      go_ret
      exact HL2.out w2 w4 hN hb2 hb4
end Go.Proofs.YtihhejeciagdpaaDoor.Sf
