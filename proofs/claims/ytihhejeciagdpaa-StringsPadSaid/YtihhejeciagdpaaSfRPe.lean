/-
  The contracts of pad, PadLeft, PadRight of the reference of chapter 9.
-/
import Derived.Test.YtihhejeciagdpaaSfRPd
namespace Go.Proofs.Ytihhejeciagdpaa.Sf
open Go.RowKit Go.Shelf
set_option linter.unusedVariables false

theorem lack_small {s f : ByteArray} {n : Int} (h : n ≤ (rc s : Int)) : lack s f n = 0 := by unfold lack; split <;> omega
theorem lack_emp {s f : ByteArray} {n : Int} (h : f.size = 0) : lack s f n = 0 := if_pos h
theorem lack_big {s f : ByteArray} {n : Int} {m : Nat} (h : f.size ≠ 0) (hm : n - (rc s : Int) = (m : Int)) : lack s f n = m := by unfold lack; rw [if_neg h]; omega
/-- No padding at all. -/
theorem pad_none {s f : ByteArray} {n : Int} (hs : s.size ≤ 400) (h : lack s f n = 0) : pL s f n = s ∧ pR s f n = s ∧ padE s f n = 0 := by
  have hb : ¬ padBig s f n := by unfold padBig; rw [h, pdl_zero]; show ¬ 32768 < s.size + 0; omega
  have hp : padB s f n = ⟨#[]⟩ := by unfold padB; rw [h, pdl_zero]
  refine ⟨?_, ?_, if_neg hb⟩
  · unfold pL; rw [if_neg hb, hp]; apply bs_inj; rw [app_list]; rfl
  · unfold pR; rw [if_neg hb, hp]; apply bs_inj; rw [app_list]; exact List.append_nil _
theorem app_nil (s : ByteArray) : s ++ (⟨#[]⟩ : ByteArray) = s := by apply bs_inj; rw [app_list]; exact List.append_nil _
theorem nil_app (s : ByteArray) : (⟨#[]⟩ : ByteArray) ++ s = s := by apply bs_inj; rw [app_list]; rfl
set_option maxRecDepth 100000 in
set_option maxHeartbeats 4000000 in
theorem RpadL_any (s f : ByteArray) (n : Int) (w : World) (hs : s.size ≤ 400) (hf : f.size ≤ 1048576) (hn : I64 n) :
    Calls Try.prog 43 #[.string s, .int .i64 n, .string f, .bool true] w fun e w' => e = .returned (.tuple #[.string (pL s f n), .int .i64 (padE s f n)]) ∧ Below w.heap.size w w' := by
  obtain ⟨hn1, hn2⟩ := hn
  have hrc := rc_le s
  have HL := Lib.hid (fun w => RLength_any s w (by omega))
  have hls := fun h => lack_small (s := s) (f := f) (n := n) h
  have hle := fun h => lack_emp (s := s) (f := f) (n := n) h
  have hlb := fun m h hm => lack_big (s := s) (f := f) (n := n) (m := m) h hm
  obtain ⟨R, hR⟩ : ∃ R, rc s = R := ⟨_, rfl⟩
  rw [hR] at HL hrc hls
  simp only [hR] at hlb
  clear hR
  have n0 : (⟨#[]⟩ : ByteArray).size = 0 := rfl
  by_cases h1 : n ≤ (R : Int)
  · have d1 : decide ((R : Int) < n) = false := decide_eq_false (by omega)
    have hno := pad_none hs (hls h1)
    have H1 := Lib.hid hno.1
    have H2 := Lib.hid hno.2.2
    clear hls hle hlb hno
    go_enter Try.func43, Try.ntmps43
    go_wp2_with fail
    refine (HL.out _).mono ?_
    rintro e w1 ⟨rfl, hb1⟩
    go_wp2
    go_ret2
    exact ⟨by rw [H1.out, H2.out, nil_app]; rfl, hb1⟩
  · have d1 : decide ((R : Int) < n) = true := decide_eq_true (by omega)
    by_cases h0 : f.size = 0
    · have e1 : f.toList.isEmpty = true := by
        rw [Lib.toList_data]; cases hl : f.data.toList with
        | nil => rfl
        | cons a l => rw [← size_list, hl] at h0; cases h0
      have hno := pad_none hs (hle h0)
      have H1 := Lib.hid hno.1
      have H2 := Lib.hid hno.2.2
      clear hls hle hlb hno h0
      go_enter Try.func43, Try.ntmps43
      go_wp2_with fail
      refine (HL.out _).mono ?_
      rintro e w1 ⟨rfl, hb1⟩
      go_wp2
      go_ret2
      exact ⟨by rw [H1.out, H2.out, nil_app]; rfl, hb1⟩
    · have e1 := emp_no h0
      obtain ⟨m, hm⟩ : ∃ m : Nat, n - (R : Int) = (m : Int) := ⟨(n - R).toNat, by omega⟩
      have hlk := hlb m h0 hm
      have HP := Lib.hid (fun w => Rpadding_any f m w hf h0 (by omega))
      have hbig : padBig s f n ↔ 32768 < s.size + (pdl f m).length := by unfold padBig; rw [hlk]
      have hpb : padB s f n = ⟨(pdl f m).toArray⟩ := by unfold padB; rw [hlk]
      clear hls hle hlb hlk h0
      by_cases hb1 : 32768 < (pdl f m).length
      · have hbb : padBig s f n := hbig.2 (by omega)
        have H1 : Hid (pL s f n = ⟨#[]⟩) := Lib.hid (if_pos hbb)
        have H2 : Hid (padE s f n = 3) := Lib.hid (if_pos hbb)
        have r1 : rpdS f m = ⟨#[]⟩ := if_pos hb1
        have r2 : rpdB f m = false := if_pos hb1
        rw [r1, r2] at HP
        clear hbig hpb hb1 hbb r1 r2
        go_enter Try.func43, Try.ntmps43
        go_wp2_with fail
        refine (HL.out _).mono ?_
        rintro e w1 ⟨rfl, hb1⟩
        go_wp2_with fail
        refine (HP.out _).mono ?_
        rintro e w2 ⟨rfl, hb2⟩
        go_wp2
        go_ret2
        exact ⟨by rw [H1.out, H2.out]; rfl, bnx hb1 hb2⟩
      · have r1 : rpdS f m = ⟨(pdl f m).toArray⟩ := if_neg hb1
        have r2 : rpdB f m = true := if_neg hb1
        have hz := pdl_size f m
        rw [← hpb] at r1 hz
        rw [r1, r2] at HP
        by_cases hb2 : 32768 < s.size + (pdl f m).length
        · have hbb : padBig s f n := hbig.2 hb2
          have H1 : Hid (pL s f n = ⟨#[]⟩) := Lib.hid (if_pos hbb)
          have H2 : Hid (padE s f n = 3) := Lib.hid (if_pos hbb)
          obtain ⟨p, hp⟩ : ∃ p, padB s f n = p := ⟨_, rfl⟩
          rw [hp] at HP hz
          have d2 : decide ((32768 : Int) - (s.size : Int) < (p.size : Int)) = true := decide_eq_true (by omega)
          clear hbig hpb hb1 hbb r1 r2 hp hz hb2
          go_enter Try.func43, Try.ntmps43
          go_wp2_with fail
          refine (HL.out _).mono ?_
          rintro e w1 ⟨rfl, hb1⟩
          go_wp2_with fail
          refine (HP.out _).mono ?_
          rintro e w2 ⟨rfl, hb2⟩
          go_wp2
          go_ret2
          exact ⟨by rw [H1.out, H2.out]; rfl, bnx hb1 hb2⟩
        · have hbb : ¬ padBig s f n := fun h => hb2 (hbig.1 h)
          have H1 : Hid (pL s f n = padB s f n ++ s) := Lib.hid (if_neg hbb)
          have H2 : Hid (padE s f n = 0) := Lib.hid (if_neg hbb)
          obtain ⟨p, hp⟩ : ∃ p, padB s f n = p := ⟨_, rfl⟩
          rw [hp] at HP hz H1
          have d2 : decide ((32768 : Int) - (s.size : Int) < (p.size : Int)) = false := decide_eq_false (by omega)
          have hsz : p.size + s.size ≤ 32768 := by omega
          have hsz2 : s.size + p.size ≤ 32768 := by omega
          clear hbig hpb hb1 hbb r1 r2 hp hz hb2
          go_enter Try.func43, Try.ntmps43
          go_wp2_with fail
          refine (HL.out _).mono ?_
          rintro e w1 ⟨rfl, hb1⟩
          go_wp2_with fail
          refine (HP.out _).mono ?_
          rintro e w2 ⟨rfl, hb2⟩
          go_wp2
          go_ret2
          exact ⟨by rw [H1.out, H2.out]; rfl, bnx hb1 hb2⟩
set_option maxRecDepth 100000 in
theorem RPadLeft_any (s f : ByteArray) (n : Int) (w : World) (hs : s.size ≤ 400) (hf : f.size ≤ 1048576) (hn : I64 n) :
    Calls Try.prog 26 #[.string s, .int .i64 n, .string f] w fun e w' => e = .returned (.tuple #[.string (pL s f n), .int .i64 (padE s f n)]) ∧ Below w.heap.size w w' := by
  go_enter Try.func26, Try.ntmps26
  go_wp2_with fail
  refine (RpadL_any s f n _ hs hf hn).mono ?_
  rintro e w1 ⟨rfl, hb1⟩
  go_wp2
  go_ret2
  exact ⟨rfl, hb1⟩
set_option maxRecDepth 100000 in
set_option maxHeartbeats 4000000 in
theorem RpadR_any (s f : ByteArray) (n : Int) (w : World) (hs : s.size ≤ 400) (hf : f.size ≤ 1048576) (hn : I64 n) :
    Calls Try.prog 43 #[.string s, .int .i64 n, .string f, .bool false] w fun e w' => e = .returned (.tuple #[.string (pR s f n), .int .i64 (padE s f n)]) ∧ Below w.heap.size w w' := by
  obtain ⟨hn1, hn2⟩ := hn
  have hrc := rc_le s
  have HL := Lib.hid (fun w => RLength_any s w (by omega))
  have hls := fun h => lack_small (s := s) (f := f) (n := n) h
  have hle := fun h => lack_emp (s := s) (f := f) (n := n) h
  have hlb := fun m h hm => lack_big (s := s) (f := f) (n := n) (m := m) h hm
  obtain ⟨R, hR⟩ : ∃ R, rc s = R := ⟨_, rfl⟩
  rw [hR] at HL hrc hls
  simp only [hR] at hlb
  clear hR
  have n0 : (⟨#[]⟩ : ByteArray).size = 0 := rfl
  by_cases h1 : n ≤ (R : Int)
  · have d1 : decide ((R : Int) < n) = false := decide_eq_false (by omega)
    have hno := pad_none hs (hls h1)
    have H1 := Lib.hid hno.2.1
    have H2 := Lib.hid hno.2.2
    clear hls hle hlb hno
    go_enter Try.func43, Try.ntmps43
    go_wp2_with fail
    refine (HL.out _).mono ?_
    rintro e w1 ⟨rfl, hb1⟩
    go_wp2
    go_ret2
    exact ⟨by rw [H1.out, H2.out, app_nil]; rfl, hb1⟩
  · have d1 : decide ((R : Int) < n) = true := decide_eq_true (by omega)
    by_cases h0 : f.size = 0
    · have e1 : f.toList.isEmpty = true := by
        rw [Lib.toList_data]; cases hl : f.data.toList with
        | nil => rfl
        | cons a l => rw [← size_list, hl] at h0; cases h0
      have hno := pad_none hs (hle h0)
      have H1 := Lib.hid hno.2.1
      have H2 := Lib.hid hno.2.2
      clear hls hle hlb hno h0
      go_enter Try.func43, Try.ntmps43
      go_wp2_with fail
      refine (HL.out _).mono ?_
      rintro e w1 ⟨rfl, hb1⟩
      go_wp2
      go_ret2
      exact ⟨by rw [H1.out, H2.out, app_nil]; rfl, hb1⟩
    · have e1 := emp_no h0
      obtain ⟨m, hm⟩ : ∃ m : Nat, n - (R : Int) = (m : Int) := ⟨(n - R).toNat, by omega⟩
      have hlk := hlb m h0 hm
      have HP := Lib.hid (fun w => Rpadding_any f m w hf h0 (by omega))
      have hbig : padBig s f n ↔ 32768 < s.size + (pdl f m).length := by unfold padBig; rw [hlk]
      have hpb : padB s f n = ⟨(pdl f m).toArray⟩ := by unfold padB; rw [hlk]
      clear hls hle hlb hlk h0
      by_cases hb1 : 32768 < (pdl f m).length
      · have hbb : padBig s f n := hbig.2 (by omega)
        have H1 : Hid (pR s f n = ⟨#[]⟩) := Lib.hid (if_pos hbb)
        have H2 : Hid (padE s f n = 3) := Lib.hid (if_pos hbb)
        have r1 : rpdS f m = ⟨#[]⟩ := if_pos hb1
        have r2 : rpdB f m = false := if_pos hb1
        rw [r1, r2] at HP
        clear hbig hpb hb1 hbb r1 r2
        go_enter Try.func43, Try.ntmps43
        go_wp2_with fail
        refine (HL.out _).mono ?_
        rintro e w1 ⟨rfl, hb1⟩
        go_wp2_with fail
        refine (HP.out _).mono ?_
        rintro e w2 ⟨rfl, hb2⟩
        go_wp2
        go_ret2
        exact ⟨by rw [H1.out, H2.out]; rfl, bnx hb1 hb2⟩
      · have r1 : rpdS f m = ⟨(pdl f m).toArray⟩ := if_neg hb1
        have r2 : rpdB f m = true := if_neg hb1
        have hz := pdl_size f m
        rw [← hpb] at r1 hz
        rw [r1, r2] at HP
        by_cases hb2 : 32768 < s.size + (pdl f m).length
        · have hbb : padBig s f n := hbig.2 hb2
          have H1 : Hid (pR s f n = ⟨#[]⟩) := Lib.hid (if_pos hbb)
          have H2 : Hid (padE s f n = 3) := Lib.hid (if_pos hbb)
          obtain ⟨p, hp⟩ : ∃ p, padB s f n = p := ⟨_, rfl⟩
          rw [hp] at HP hz
          have d2 : decide ((32768 : Int) - (s.size : Int) < (p.size : Int)) = true := decide_eq_true (by omega)
          clear hbig hpb hb1 hbb r1 r2 hp hz hb2
          go_enter Try.func43, Try.ntmps43
          go_wp2_with fail
          refine (HL.out _).mono ?_
          rintro e w1 ⟨rfl, hb1⟩
          go_wp2_with fail
          refine (HP.out _).mono ?_
          rintro e w2 ⟨rfl, hb2⟩
          go_wp2
          go_ret2
          exact ⟨by rw [H1.out, H2.out]; rfl, bnx hb1 hb2⟩
        · have hbb : ¬ padBig s f n := fun h => hb2 (hbig.1 h)
          have H1 : Hid (pR s f n = s ++ padB s f n) := Lib.hid (if_neg hbb)
          have H2 : Hid (padE s f n = 0) := Lib.hid (if_neg hbb)
          obtain ⟨p, hp⟩ : ∃ p, padB s f n = p := ⟨_, rfl⟩
          rw [hp] at HP hz H1
          have d2 : decide ((32768 : Int) - (s.size : Int) < (p.size : Int)) = false := decide_eq_false (by omega)
          have hsz : p.size + s.size ≤ 32768 := by omega
          have hsz2 : s.size + p.size ≤ 32768 := by omega
          clear hbig hpb hb1 hbb r1 r2 hp hz hb2
          go_enter Try.func43, Try.ntmps43
          go_wp2_with fail
          refine (HL.out _).mono ?_
          rintro e w1 ⟨rfl, hb1⟩
          go_wp2_with fail
          refine (HP.out _).mono ?_
          rintro e w2 ⟨rfl, hb2⟩
          go_wp2
          go_ret2
          exact ⟨by rw [H1.out, H2.out]; rfl, bnx hb1 hb2⟩
set_option maxRecDepth 100000 in
theorem RPadRight_any (s f : ByteArray) (n : Int) (w : World) (hs : s.size ≤ 400) (hf : f.size ≤ 1048576) (hn : I64 n) :
    Calls Try.prog 28 #[.string s, .int .i64 n, .string f] w fun e w' => e = .returned (.tuple #[.string (pR s f n), .int .i64 (padE s f n)]) ∧ Below w.heap.size w w' := by
  go_enter Try.func28, Try.ntmps28
  go_wp2_with fail
  refine (RpadR_any s f n _ hs hf hn).mono ?_
  rintro e w1 ⟨rfl, hb1⟩
  go_wp2
  go_ret2
  exact ⟨rfl, hb1⟩
end Go.Proofs.Ytihhejeciagdpaa.Sf
