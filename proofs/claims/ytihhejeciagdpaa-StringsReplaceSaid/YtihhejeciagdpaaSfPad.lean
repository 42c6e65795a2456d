/-
  The contracts of padding, PadLeft, PadRight of package strfunc.
-/
import Derived.Test.YtihhejeciagdpaaSfSlice
import Derived.Test.YtihhejeciagdpaaSfPd
import Derived.Test.YtihhejeciagdpaaShelf2
namespace Go.Proofs.Ytihhejeciagdpaa.Sf
open Go.RowKit
set_option linter.unusedVariables false

theorem rep_repeat (l : List UInt8) (q : Nat) : Lib.repeatL l q = rep q l := by
  induction q with
  | zero => rfl
  | succ q ih => rw [rep_succ, Lib.repeatL_add, ih, Lib.repeatL_one]
def padB (s f : ByteArray) (n : Int) : ByteArray := ⟨(pdl f (lack s f n)).toArray⟩
def padBig (s f : ByteArray) (n : Int) : Prop := 32768 < s.size + (pdl f (lack s f n)).length
instance (s f : ByteArray) (n : Int) : Decidable (padBig s f n) := inferInstanceAs (Decidable (_ < _))
def padS (s f : ByteArray) (n : Int) : ByteArray := if padBig s f n then ⟨#[]⟩ else padB s f n
def padE (s f : ByteArray) (n : Int) : Int := if padBig s f n then 3 else 0
theorem slice_front (f : ByteArray) (r : Nat) : slice f 0 (r : Int) = sl f 0 r := by
  unfold slice slF slN
  simp only [show ¬ ((0 : Int) < 0) from by omega, show ¬ ((r : Int) < 0) from by omega, if_false, Int.toNat_natCast]
  rfl
theorem region_cls {P : Program} {C : World → Prop} {a : Act} {l : List Oper} {id : Nat} {R : Exit → Act → World → Prop} {w : World} (hm : P.follows .mixedOrders = true) (hB : Region.lexB .any l.toArray = true) (hC : C w.drew)
    (h : wpQuiet P l.toArray C (fun a' => ∀ w', C w' → R .normal a' w') l a) : (Code.region id l.toArray true).wp P R a w :=
  wp_region_quiet (C := C) hm hB hC (by simpa using h)
theorem bnx {w W W' : World} (h : Below w.heap.size w W) (k : Below W.heap.size W W') : Below w.heap.size w W' := h.trans (k.mono h.size)
/-- The worlds that keep what w holds. -/
def Ws (w : World) := { W : World // Below w.heap.size w W }
theorem slice_ws (s : ByteArray) (f n : Int) (hs : s.size ≤ 4294967281) (hf : I64 f) (hn : I64 n) {w : World} (x : Ws w) :
    Calls Try.prog 16 #[.string s, .int .i64 f, .int .i64 n] x.1 fun e w'' => e = .returned (.string (slice s f n)) ∧ ∃ y : Ws w, w'' = y.1 :=
  (Slice_any s f n x.1 hs hf hn).mono fun e w' ⟨he, hb⟩ => ⟨he, ⟨w', x.2.trans (hb.mono x.2.size)⟩, rfl⟩
set_option maxRecDepth 100000 in
set_option maxHeartbeats 2000000 in
theorem padding_any (s f : ByteArray) (n : Int) (w : World) (hs : s.size ≤ 1048576) (hf : f.size ≤ 1048576) (hn : I64 n) :
    Calls Try.prog 42 #[.string s, .int .i64 n, .string f] w fun e w' => e = .returned (.tuple #[.string (padS s f n), .int .i64 (padE s f n)]) ∧ Below w.heap.size w w' := by
  obtain ⟨hn1, hn2⟩ := hn
  have hrs := rc_le s
  have hrf := rc_le f
  have hs2 : s.size ≤ 4294967281 := by omega
  have hf2 : f.size ≤ 4294967281 := by omega
  have HS : Hid (padS s f n = if padBig s f n then ⟨#[]⟩ else padB s f n) := Lib.hid rfl
  have HE : Hid (padE s f n = if padBig s f n then 3 else 0) := Lib.hid rfl
  obtain ⟨k0, hk0⟩ : ∃ k0 : Nat, (max n (rc s : Int) - (rc s : Int)).toNat = k0 := ⟨_, rfl⟩
  obtain ⟨M, hM⟩ : ∃ M : Int, (rc s : Int) + (k0 : Int) = M := ⟨_, rfl⟩
  have hmx : max n (rc s : Int) = M := by omega
  have hMb : M ≤ 9223372036854775807 := by omega
  have hsub : M - (rc s : Int) = (k0 : Int) := by omega
  clear hM
  obtain ⟨k, hk⟩ : ∃ k, lack s f n = k := ⟨_, rfl⟩
  have hkk : k = if f.size = 0 then 0 else k0 := by rw [← hk, ← hk0]; rfl
  have hbig : padBig s f n ↔ 32768 < s.size + (pdl f k).length := by unfold padBig; rw [hk]
  have hpb : padB s f n = ⟨(pdl f k).toArray⟩ := by unfold padB; rw [hk]
  clear hk hk0
  by_cases hfe : f.size = 0
  · have hemp : f.toList.isEmpty = true := by
      rw [Lib.toList_data]; cases hl : f.data.toList with
      | nil => rfl
      | cons a l => rw [← size_list, hl] at hfe; cases hfe
    rw [if_pos hfe] at hkk
    subst hkk
    have hr0 : rc f = 0 := by omega
    have hmx1 : max 1 (rc f : Int) = 1 := by omega
    have hI0 : I64 0 := ⟨by omega, by omega⟩
    have hIr := hI0
    have hpl0 : pdl f 0 = [] := pdl_zero f
    obtain ⟨rest, hrest⟩ : ∃ rest, slice f 0 0 = rest := ⟨_, rfl⟩
    have hre : rest = ⟨#[]⟩ := by
      rw [← hrest]; exact (slice_front f 0).trans (bs_inj (sl_none f))
    have HRS := Lib.hid hrest
    rw [hre] at HRS
    clear hrest hre
    rw [hpl0] at hbig hpb
    have HC : Hid ((⟨#[]⟩ : ByteArray) = padB s f n) := Lib.hid hpb.symm
    have ne : ∀ w : World, Nonempty (Ws w) := fun w => ⟨⟨w, Below.refl _ w⟩⟩
    by_cases hb3 : padBig s f n
    · rw [if_pos hb3] at HS HE
      rw [hbig] at hb3
      have hb4 : 32768 < s.size := hb3
      have hd2 : decide ((32768 : Int) < (s.size : Int)) = true := decide_eq_true (by omega)
      clear hbig hpb hb3
      go_enter Try.func42, Try.ntmps42
      go_wp2_with fail
      refine (Length_any s _ hs2).mono ?_
      rintro e w1 ⟨rfl, hb1⟩
      go_wp2_with fail
      refine (Length_any s _ hs2).mono ?_
      rintro e w2 ⟨rfl, hb2'⟩
      go_wp2_with fail
      refine (Length_any f _ hf2).mono ?_
      rintro e w3 ⟨rfl, hb3'⟩
      go_wp2
      have ne3 := ne w3
      refine region_cls (C := fun W => ∃ x : Ws w3, W = x.1) (by kernel_rfl) (by kernel_rfl) ⟨⟨_, (Below.refl _ w3).drew⟩, rfl⟩ ?_
      repeat (go_big_quiet_step ((first | (go_at_call 16; with_reducible exact slice_ws f 0 0 hf2 hI0 hIr _))))
      refine wpQuiet_nil ?_
      intro w' hw'
      obtain ⟨x, rfl⟩ := hw'
      rw [HRS.out]
      have hx := bnx (bnx (bnx hb1 hb2') hb3') x.2
      go_wp2
      go_ret2
      exact ⟨by rw [HS.out, HE.out]; rfl, hx⟩
    · rw [if_neg hb3] at HS HE
      rw [hbig] at hb3
      have hb4 : ¬ 32768 < s.size := hb3
      have hd2 : decide ((32768 : Int) < (s.size : Int)) = false := decide_eq_false (by omega)
      clear hbig hpb hb3
      go_enter Try.func42, Try.ntmps42
      go_wp2_with fail
      refine (Length_any s _ hs2).mono ?_
      rintro e w1 ⟨rfl, hb1⟩
      go_wp2_with fail
      refine (Length_any s _ hs2).mono ?_
      rintro e w2 ⟨rfl, hb2'⟩
      go_wp2_with fail
      refine (Length_any f _ hf2).mono ?_
      rintro e w3 ⟨rfl, hb3'⟩
      go_wp2
      have ne3 := ne w3
      refine region_cls (C := fun W => ∃ x : Ws w3, W = x.1) (by kernel_rfl) (by kernel_rfl) ⟨⟨_, (Below.refl _ w3).drew⟩, rfl⟩ ?_
      repeat (go_big_quiet_step ((first | (go_at_call 16; with_reducible exact slice_ws f 0 0 hf2 hI0 hIr _))))
      refine wpQuiet_nil ?_
      intro w' hw'
      obtain ⟨x, rfl⟩ := hw'
      rw [HRS.out]
      have hx := bnx (bnx (bnx hb1 hb2') hb3') x.2
      go_wp2_with fail
      refine (Try.strings_Repeat f 0 _ (by omega) (by rw [Nat.mul_comm]; omega)).mono ?_
      rintro e w4 ⟨rfl, hb4⟩
      go_wp2
      go_ret2
      exact ⟨by rw [HS.out, HE.out, ← HC.out]; rfl, bnx hx hb4⟩
  · have hemp := emp_no hfe
    rw [if_neg hfe] at hkk
    subst hkk
    have hrp := rc_pos hfe
    have hpl := pdl_len f k
    have hge := pdl_ge hrp k
    by_cases hk3 : 32768 < k
    · have hb2 : padBig s f n := by rw [hbig]; omega
      rw [if_pos hb2] at HS HE
      have hd : decide ((32768 : Int) < (k : Int)) = true := decide_eq_true (by omega)
      clear hbig hpb hpl
      go_enter Try.func42, Try.ntmps42
      go_wp2_with fail
      refine (Length_any s _ hs2).mono ?_
      rintro e w1 ⟨rfl, hb1⟩
      go_wp2_with fail
      refine (Length_any s _ hs2).mono ?_
      rintro e w2 ⟨rfl, hb2'⟩
      go_wp2
      go_ret2
      exact ⟨by rw [HS.out, HE.out]; rfl, hb1.trans (hb2'.mono hb1.size)⟩
    · have hd : decide ((32768 : Int) < (k : Int)) = false := decide_eq_false (by omega)
      obtain ⟨q, hq⟩ : ∃ q, k / rc f = q := ⟨_, rfl⟩
      obtain ⟨r, hr⟩ : ∃ r, k % rc f = r := ⟨_, rfl⟩
      have hqk : q ≤ k := by rw [← hq]; exact Nat.div_le_self _ _
      have hrk : r < rc f := by rw [← hr]; exact Nat.mod_lt _ hrp
      have hmx1 : max 1 (rc f : Int) = (rc f : Int) := by omega
      have hdv : (k : Int).tdiv (rc f : Int) = (q : Int) := by rw [← hq]; rfl
      have hmd : (k : Int).tmod (rc f : Int) = (r : Int) := by rw [← hr]; rfl
      have hnz : ¬ ((rc f : Int) = 0) := by omega
      rw [hq, hr] at hpl
      have HR := Lib.hid (slice_front f r)
      obtain ⟨rest, hrest⟩ : ∃ rest, slice f 0 (r : Int) = rest := ⟨_, rfl⟩
      rw [← HR.out, hrest] at hpl
      have hrs3 : rest.size ≤ f.size := by
        rw [← hrest, HR.out]; unfold sl; rw [ByteArray.size_extract]; have := ag_le f (0 + r); omega
      obtain ⟨P, hP⟩ : ∃ P, q * f.size = P := ⟨_, rfl⟩
      have hPb : P ≤ 34359738368 := by
        rw [← hP]
        have : q * f.size ≤ 32768 * 1048576 := Nat.mul_le_mul (by omega) hf
        omega
      have hPi : (q : Int) * (f.size : Int) = (P : Int) := by rw [← hP]; exact (Int.natCast_mul _ _).symm
      rw [hP] at hpl
      have hI0 : I64 0 := ⟨by omega, by omega⟩
      have hIr : I64 (r : Int) := ⟨by omega, by omega⟩
      have HC : Hid ((⟨(Lib.repeatL f.data.toList q).toArray⟩ : ByteArray) ++ rest = padB s f n) := Lib.hid (by
        rw [hpb]; apply bs_inj
        rw [app_list, rep_repeat, ← hrest, HR.out, ← hq, ← hr]; rfl)
      have ne : ∀ w : World, Nonempty (Ws w) := fun w => ⟨⟨w, Below.refl _ w⟩⟩
      have HRS := Lib.hid hrest
      have hrsz : (⟨(Lib.repeatL f.data.toList q).toArray⟩ : ByteArray).size = P := by
        rw [← size_list]
        show (Lib.repeatL f.data.toList q).length = P
        rw [Lib.repeatL_length, size_list, hP]
      clear hrest
      by_cases hb3 : padBig s f n
      · rw [if_pos hb3] at HS HE
        rw [hbig] at hb3
        have hd2 : decide ((32768 : Int) < (s.size : Int) + (P : Int) + (rest.size : Int)) = true := decide_eq_true (by omega)
        clear hbig hpb hb3
        go_enter Try.func42, Try.ntmps42
        go_wp2_with fail
        refine (Length_any s _ hs2).mono ?_
        rintro e w1 ⟨rfl, hb1⟩
        go_wp2_with fail
        refine (Length_any s _ hs2).mono ?_
        rintro e w2 ⟨rfl, hb2'⟩
        go_wp2_with fail
        refine (Length_any f _ hf2).mono ?_
        rintro e w3 ⟨rfl, hb3'⟩
        go_wp2
        have ne3 := ne w3
        refine region_cls (C := fun W => ∃ x : Ws w3, W = x.1) (by kernel_rfl) (by kernel_rfl) ⟨⟨_, (Below.refl _ w3).drew⟩, rfl⟩ ?_
        repeat (go_big_quiet_step ((first | (go_at_call 16; with_reducible exact slice_ws f 0 r hf2 hI0 hIr _))))
        refine wpQuiet_nil ?_
        intro w' hw'
        obtain ⟨x, rfl⟩ := hw'
        rw [HRS.out]
        have hx := bnx (bnx (bnx hb1 hb2') hb3') x.2
        go_wp2
        go_ret2
        exact ⟨by rw [HS.out, HE.out]; rfl, hx⟩
      · rw [if_neg hb3] at HS HE
        rw [hbig] at hb3
        have hd2 : decide ((32768 : Int) < (s.size : Int) + (P : Int) + (rest.size : Int)) = false := decide_eq_false (by omega)
        have hcat : (⟨(Lib.repeatL f.data.toList q).toArray⟩ : ByteArray).size + rest.size ≤ 32768 := by omega
        clear hbig hpb hb3
        go_enter Try.func42, Try.ntmps42
        go_wp2_with fail
        refine (Length_any s _ hs2).mono ?_
        rintro e w1 ⟨rfl, hb1⟩
        go_wp2_with fail
        refine (Length_any s _ hs2).mono ?_
        rintro e w2 ⟨rfl, hb2'⟩
        go_wp2_with fail
        refine (Length_any f _ hf2).mono ?_
        rintro e w3 ⟨rfl, hb3'⟩
        go_wp2
        have ne3 := ne w3
        refine region_cls (C := fun W => ∃ x : Ws w3, W = x.1) (by kernel_rfl) (by kernel_rfl) ⟨⟨_, (Below.refl _ w3).drew⟩, rfl⟩ ?_
        repeat (go_big_quiet_step ((first | (go_at_call 16; with_reducible exact slice_ws f 0 r hf2 hI0 hIr _))))
        refine wpQuiet_nil ?_
        intro w' hw'
        obtain ⟨x, rfl⟩ := hw'
        rw [HRS.out]
        have hx := bnx (bnx (bnx hb1 hb2') hb3') x.2
        go_wp2_with fail
        refine (Try.strings_Repeat f q _ (by omega) (by rw [Nat.mul_comm]; omega)).mono ?_
        rintro e w4 ⟨rfl, hb4⟩
        go_wp2
        go_ret2
        exact ⟨by rw [HS.out, HE.out, ← HC.out]; rfl, bnx hx hb4⟩
/-- What PadLeft returns, and PadRight. -/
def pL (s f : ByteArray) (n : Int) : ByteArray := if padBig s f n then ⟨#[]⟩ else padB s f n ++ s
def pR (s f : ByteArray) (n : Int) : ByteArray := if padBig s f n then ⟨#[]⟩ else s ++ padB s f n
set_option maxRecDepth 100000 in
theorem PadLeft_any (s f : ByteArray) (n : Int) (w : World) (hs : s.size ≤ 1048576) (hf : f.size ≤ 1048576) (hn : I64 n) :
    Calls Try.prog 25 #[.string s, .int .i64 n, .string f] w fun e w' => e = .returned (.tuple #[.string (pL s f n), .int .i64 (padE s f n)]) ∧ Below w.heap.size w w' := by
  have HC := Lib.hid (padding_any s f n w hs hf hn)
  by_cases hb : padBig s f n
  · have HL : Hid (pL s f n = ⟨#[]⟩) := Lib.hid (if_pos hb)
    have he : padE s f n = 3 := if_pos hb
    rw [he] at HC
    go_enter Try.func25, Try.ntmps25
    go_wp2_with fail
    refine HC.out.mono ?_
    rintro e w1 ⟨rfl, hb1⟩
    go_wp2
    go_ret2
    exact ⟨by rw [HL.out, he]; rfl, hb1⟩
  · have HL : Hid (pL s f n = padB s f n ++ s) := Lib.hid (if_neg hb)
    have hS : padS s f n = padB s f n := if_neg hb
    have hsz : (padB s f n).size + s.size ≤ 32768 := by unfold padBig at hb; rw [← size_list (padB s f n)]; unfold padB; show (pdl f (lack s f n)).length + _ ≤ _; omega
    have he : padE s f n = 0 := if_neg hb
    rw [he, hS] at HC
    go_enter Try.func25, Try.ntmps25
    go_wp2_with fail
    refine HC.out.mono ?_
    rintro e w1 ⟨rfl, hb1⟩
    go_wp2
    go_ret2
    exact ⟨by rw [HL.out, he]; rfl, hb1⟩
set_option maxRecDepth 100000 in
theorem PadRight_any (s f : ByteArray) (n : Int) (w : World) (hs : s.size ≤ 1048576) (hf : f.size ≤ 1048576) (hn : I64 n) :
    Calls Try.prog 27 #[.string s, .int .i64 n, .string f] w fun e w' => e = .returned (.tuple #[.string (pR s f n), .int .i64 (padE s f n)]) ∧ Below w.heap.size w w' := by
  have HC := Lib.hid (padding_any s f n w hs hf hn)
  by_cases hb : padBig s f n
  · have HL : Hid (pR s f n = ⟨#[]⟩) := Lib.hid (if_pos hb)
    have he : padE s f n = 3 := if_pos hb
    rw [he] at HC
    go_enter Try.func27, Try.ntmps27
    go_wp2_with fail
    refine HC.out.mono ?_
    rintro e w1 ⟨rfl, hb1⟩
    go_wp2
    go_ret2
    exact ⟨by rw [HL.out, he]; rfl, hb1⟩
  · have HL : Hid (pR s f n = s ++ padB s f n) := Lib.hid (if_neg hb)
    have hS : padS s f n = padB s f n := if_neg hb
    have hsz : (padB s f n).size + s.size ≤ 32768 := by unfold padBig at hb; rw [← size_list (padB s f n)]; unfold padB; show (pdl f (lack s f n)).length + _ ≤ _; omega
    have he : padE s f n = 0 := if_neg hb
    rw [he, hS] at HC
    go_enter Try.func27, Try.ntmps27
    go_wp2_with fail
    refine HC.out.mono ?_
    rintro e w1 ⟨rfl, hb1⟩
    go_wp2
    go_ret2
    exact ⟨by rw [HL.out, he]; rfl, hb1⟩
end Go.Proofs.Ytihhejeciagdpaa.Sf
