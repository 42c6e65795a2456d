/-
  The contract of strings.ContainsAny for strings of any bytes, at some ASCII characters.
-/
import Derived.Test.YtbibekojbjonoaaDoorChecked
import Derived.Test.YtbibekojbjonoaaDoorShelf
import Derived.WalkKit
import Derived.WalkSpells
import Derived.WalkLawsBesides
import Derived.Outline
import Derived.Deep.QuietTactic
import Derived.BigQuiet
import Derived.Lib.Hide
import Derived.IntWalk
import Derived.Lib.RuneBytes
import Derived.Laws.RangeAny
import Derived.WalkMore
import Derived.Deep.RegionWith
import Derived.Lib.DecodeN
import Derived.Lib.OthersKept
import Derived.Lib.IndexAny
namespace Go.Proofs.YtbibekojbjonoaaDoor.Pa
open Go.RowKit

theorem quiet_add_same {P : Program} {f : FuncId} {args : Array Value} {w : World} {a n : Nat} {v : Value}
    (h : Calls P f args (w.drewN (a + n)) fun e w' => e = .returned v ∧ w' = w.drewN (a + n)) :
    Calls P f args (w.drewN (a + n)) fun e w'' => e = .returned v ∧ ∃ m, w'' = w.drewN (a + m) :=
  h.mono fun _ _ ⟨he, hm⟩ => ⟨he, n, hm⟩
theorem below_drewN' {w : World} (n : Nat) : Below w.heap.size w (w.drewN n) := ⟨rfl, rfl, rfl, Nat.le_refl _, fun _ _ => rfl⟩
/-- Bytes below 128 alone. -/
def Asc (s : ByteArray) : Prop := ∀ (j : Nat) b, s.data.toList[j]? = some b → b.toNat < 128
theorem Asc.at {s : ByteArray} (h : Asc s) (i : Nat) (hi : i < s.size) : (s[i]'hi).toNat < 128 := h i _ (Lib.data_getElem? s i hi)
theorem indexByte_asc {s : ByteArray} (h : Asc s) (i : Nat) (c : UInt8) (hc : 128 ≤ c.toNat) : Lib.indexByte (s.data.toList.drop i) c = -1 := by
  have hn : (s.data.toList.drop i).contains c = false := by
    rw [Bool.eq_false_iff]
    intro hh
    rw [List.contains_iff_mem] at hh
    obtain ⟨j, hj⟩ := List.mem_iff_getElem?.1 hh
    rw [List.getElem?_drop] at hj
    have := h _ _ hj
    omega
  have h1 := Lib.contains_iff_indexByte (s.data.toList.drop i) c
  rw [hn] at h1
  have h2 : ¬ (0 : Int) ≤ Lib.indexByte (s.data.toList.drop i) c := of_decide_eq_false h1.symm
  have h3 := Lib.indexByte_ge (s.data.toList.drop i) c
  omega
/-- The bytes of a rune from 128 on. -/
theorem toNat_hi (n : Nat) : (UInt8.ofNat (0x80 + n % 64)).toNat = 128 + n % 64 := by
  simp; omega
theorem enc_high {r : Int} (h : 128 ≤ r) : 2 ≤ (Utf8.encode r).size ∧ (Utf8.encode r).size ≤ 4 ∧ ∀ (k : Nat) (hi : k < (Utf8.encode r).size), (Utf8.encode r).size = k + 1 → 128 ≤ ((Utf8.encode r)[k]'hi).toNat := by
  obtain ⟨c, hc, hc2⟩ : ∃ c : Nat, (if Utf8.valid r then r.toNat else Utf8.runeError) = c ∧ 128 ≤ c := by
    refine ⟨_, rfl, ?_⟩
    split
    · omega
    · decide
  have key : ∀ (a : Array UInt8) (L : List UInt8) (m : Nat), a = (L ++ [UInt8.ofNat (0x80 + m % 64)]).toArray → Utf8.encode r = ⟨a⟩ → 1 ≤ L.length → L.length ≤ 3 → 2 ≤ (Utf8.encode r).size ∧ (Utf8.encode r).size ≤ 4 ∧ ∀ (k : Nat) (hi : k < (Utf8.encode r).size), (Utf8.encode r).size = k + 1 → 128 ≤ ((Utf8.encode r)[k]'hi).toNat := by
    intro a L m ha he h1 h3
    subst ha
    rw [he]
    have hs : (⟨(L ++ [UInt8.ofNat (0x80 + m % 64)]).toArray⟩ : ByteArray).size = L.length + 1 := by
      show (L ++ [UInt8.ofNat (0x80 + m % 64)]).toArray.size = _
      simp
    refine ⟨by omega, by omega, fun k hi hk => ?_⟩
    have hkl : k = L.length := by omega
    subst hkl
    have : (⟨(L ++ [UInt8.ofNat (0x80 + m % 64)]).toArray⟩ : ByteArray)[L.length]'hi = UInt8.ofNat (0x80 + m % 64) := by
      show ((L ++ [UInt8.ofNat (0x80 + m % 64)]).toArray)[L.length]'_ = _
      simp
    rw [this, toNat_hi]; omega
  have he : Utf8.encode r = (if c < 0x80 then ⟨#[UInt8.ofNat c]⟩ else if c < 0x800 then ⟨#[UInt8.ofNat (0xC0 + c / 64), UInt8.ofNat (0x80 + c % 64)]⟩ else if c < 0x10000 then ⟨#[UInt8.ofNat (0xE0 + c / 4096), UInt8.ofNat (0x80 + c / 64 % 64), UInt8.ofNat (0x80 + c % 64)]⟩ else ⟨#[UInt8.ofNat (0xF0 + c / 262144), UInt8.ofNat (0x80 + c / 4096 % 64), UInt8.ofNat (0x80 + c / 64 % 64), UInt8.ofNat (0x80 + c % 64)]⟩) := by
    unfold Utf8.encode
    simp only [hc]
  rw [if_neg (by omega)] at he
  split at he
  · exact key _ [UInt8.ofNat (0xC0 + c / 64)] c rfl he (by simp) (by simp)
  · split at he
    · exact key _ [UInt8.ofNat (0xE0 + c / 4096), UInt8.ofNat (0x80 + c / 64 % 64)] c rfl he (by simp) (by simp)
    · exact key _ [UInt8.ofNat (0xF0 + c / 262144), UInt8.ofNat (0x80 + c / 4096 % 64), UInt8.ofNat (0x80 + c / 64 % 64)] c rfl he (by simp) (by simp)
set_option maxRecDepth 100000 in
set_option maxHeartbeats 2000000 in
theorem IndexRune_error (s : ByteArray) (w : World) (ha : Asc s) (hs : s.size ≤ 100) : Calls Tryd.prog 56 #[.string s, .int .i32 65533] w fun e w' => e = .returned (.int .i64 (-1)) ∧ Below w.heap.size w w' := by
  have HA := Lib.hid ha; clear ha
  go_enter Tryd.func56, Tryd.ntmps56
  go_wp2
  go_loopw [5, 6] (fun _ _ w' => ∃ pos : Nat, w' = w.iter s pos ∧ pos ≤ s.size) (fun _ _ w' => s.size - w'.iterPos w.heap.size)
  case atStart => exact ⟨0, rfl, by omega⟩
  case round =>
    obtain ⟨pos, rfl, hp⟩ := hrel
    by_cases hlt : pos < s.size
    · have hx := HA.out.at pos hlt
      have hnx := fun ty => run_next_ascii (P := Tryd.prog) w s pos ty hlt hx
      have hne : ((s[pos].toNat : Int) == 65533) = false := by rw [beq_eq_false_iff_ne]; omega
      go_wp2
      go_roundw
      case rel => exact ⟨pos + 1, rfl, by omega⟩
      case measure => simp; omega
    · have hnx := fun ty => run_next_end (P := Tryd.prog) w s pos ty hlt
      go_wp2
      go_ret
      exact ⟨rfl, (Below.refl _ _).alloc (Nat.le_refl _) _⟩
set_option maxRecDepth 100000 in
set_option maxHeartbeats 2000000 in
theorem IndexRune_high (s : ByteArray) (r : Int) (w : World) (ha : Asc s) (hs : s.size ≤ 100) (h5 : s.size = 2) (h : 128 ≤ r) (hne : r ≠ 65533) : Calls Tryd.prog 56 #[.string s, .int .i32 r] w fun e w' => e = .returned (.int .i64 (-1)) ∧ Below w.heap.size w w' := by
  have h5a : 2 ≤ s.size := by omega
  have h5b : s.size ≤ 2 := by omega
  clear h5
  have h1 : decide (r < 128) = false := by rw [decide_eq_false_iff_not]; omega
  have h2 : (r == 65533) = false := by rw [beq_eq_false_iff_ne]; exact hne
  cases hv : Lib.validRune r
  · clear hne
    go_enter Tryd.func56, Tryd.ntmps56
    go_wp2_with fail
    refine (Tryd.utf8_ValidRune _ _).mono ?_
    rintro e w' ⟨rfl, hw⟩
    go_wp2
    go_ret
    exact ⟨rfl, by subst hw; exact Below.refl _ _⟩
  · clear hne
    obtain ⟨e1, e2, e3⟩ := enc_high h
    obtain ⟨R, hR⟩ : ∃ R : ByteArray, R = Utf8.encode r := ⟨_, rfl⟩
    rw [← hR] at e1 e2 e3
    have hR2 : Utf8.encode r = R := hR.symm
    clear hR
    have hz3 : R.size = 2 ∨ R.size = 3 ∨ R.size = 4 := by omega
    rcases hz3 with hz | hz | hz
    · have hz : R.size = 2 := hz
      have x1 := ha.at 1 (by omega)
      have x2 : 128 ≤ (R[1]'(by omega)).toNat := e3 1 (by omega) (by omega)
      have hi1 : 1 < s.size := by omega
      have hi2 : 2 ≤ s.size := by omega
      have hi4 : (2 : Int) ≤ (s.size : Int) := by omega
      have hi5 : ¬ (s.size : Int) < 2 := by omega
      have hi6 : ¬ s.size < 2 := by omega
      have hi3 : 1 < R.size := by omega
      have hne2 : ((s[1].toNat : Int) != (R[1].toNat : Int)) = true := by rw [bne_iff_ne]; omega
      have hIB : ∀ W : World, Calls Tryd.prog 68 #[.string (s.extract 2 s.size), .int .u8 (R[1].toNat : Int)] W fun e w' => e = .returned (.int .i64 (-1)) ∧ w' = W := fun W => by
        have c := Tryd.strings_IndexByte (s.extract 2 s.size) (R[1].toNat : Int) W
        rw [Lib.extract_to_end, show ((R[1].toNat : Int)).toNat.toUInt8 = R[1] by simp, indexByte_asc ha _ _ x2] at c
        exact c
      have HI := Lib.hid hIB; clear hIB e3 e1 e2 ha x1 x2
      go_enter Tryd.func56, Tryd.ntmps56
      go_wp2_with fail
      refine (Tryd.utf8_ValidRune _ _).mono ?_
      rintro e w' ⟨rfl, hw⟩
      subst hw
      go_wp2
      go_step3
      go_wp2
      go_loop [9, 10] (fun x y => x = .int .i64 1 ∧ y = .int .i64 0) (fun _ _ => 0)
      case atStart => exact ⟨rfl, rfl⟩
      case round =>
        obtain ⟨rfl, rfl⟩ := hrel
        go_wp2
        go_step3
        go_wp2
        go_region
        go_wp2
        go_quiet ((go_at_call 68; exact (quiet_add_same (HI.out _))))
        go_wp2
        change bodyPost Tryd.prog Tryd.f56 (fun e w'_1 => e = .returned (.int .i64 (-1)) ∧ Below w'.heap.size w' w'_1) Exit.ret _ _
        go_ret
        exact ⟨rfl, below_drewN' _⟩
    · have hz : R.size = 3 := hz
      have q1 : ¬ ((2 : Int) < (s.size : Int)) := by omega
      clear e3 e1 e2 ha
      go_enter Tryd.func56, Tryd.ntmps56
      go_wp2_with fail
      refine (Tryd.utf8_ValidRune _ _).mono ?_
      rintro e w' ⟨rfl, hw⟩
      subst hw
      go_wp2
      go_step3
      go_wp2
      go_loop [9, 10] (fun x y => x = .int .i64 2 ∧ y = .int .i64 0) (fun _ _ => 0)
      case atStart => exact ⟨rfl, rfl⟩
      case round =>
        obtain ⟨rfl, rfl⟩ := hrel
        go_wp2
        change bodyPost Tryd.prog Tryd.f56 (fun e w'_1 => e = .returned (.int .i64 (-1)) ∧ Below w'.heap.size w' w'_1) Exit.ret _ _
        go_ret
        exact ⟨rfl, Below.refl _ _⟩
    · have hz : R.size = 4 := hz
      have q1 : ¬ ((3 : Int) < (s.size : Int)) := by omega
      clear e3 e1 e2 ha
      go_enter Tryd.func56, Tryd.ntmps56
      go_wp2_with fail
      refine (Tryd.utf8_ValidRune _ _).mono ?_
      rintro e w' ⟨rfl, hw⟩
      subst hw
      go_wp2
      go_step3
      go_wp2
      go_loop [9, 10] (fun x y => x = .int .i64 3 ∧ y = .int .i64 0) (fun _ _ => 0)
      case atStart => exact ⟨rfl, rfl⟩
      case round =>
        obtain ⟨rfl, rfl⟩ := hrel
        go_wp2
        change bodyPost Tryd.prog Tryd.f56 (fun e w'_1 => e = .returned (.int .i64 (-1)) ∧ Below w'.heap.size w' w'_1) Exit.ret _ _
        go_ret
        exact ⟨rfl, Below.refl _ _⟩
theorem dec_N (n b0 b1 b2 b3 : Nat) (h : 128 ≤ b0) : 1 ≤ (Lib.decodeN n b0 b1 b2 b3).2 ∧ (Lib.decodeN n b0 b1 b2 b3).2 ≤ 4 ∧ (2 ≤ (Lib.decodeN n b0 b1 b2 b3).2 → 128 ≤ b1 ∧ 1 < n) ∧ (3 ≤ (Lib.decodeN n b0 b1 b2 b3).2 → 128 ≤ b2 ∧ 2 < n) ∧ (4 ≤ (Lib.decodeN n b0 b1 b2 b3).2 → 128 ≤ b3 ∧ 3 < n) := by
  unfold Lib.decodeN
  rw [if_neg (by omega)]
  repeat' split
  all_goals
    refine ⟨?_, ?_, ?_, ?_, ?_⟩ <;> simp only <;> omega
theorem get_list {s : ByteArray} {j : Nat} {b : UInt8} (h : s.data.toList[j]? = some b) : s.get! j = b ∧ j < s.size := by
  obtain ⟨hj, he⟩ := List.getElem?_eq_some_iff.1 h
  have hj2 : j < s.size := by simpa using hj
  have := get_at s j hj2
  rw [Nat.add_zero] at this
  refine ⟨?_, hj2⟩
  rw [this, ← he]; rfl
theorem dec_skip (s : ByteArray) (pos : Nat) (h : pos < s.size) (hb : 128 ≤ (s[pos]'h).toNat) (j : Nat) (b : UInt8) (h1 : pos ≤ j) (h2 : j < pos + (Utf8.decode s pos).2) (hj : s.data.toList[j]? = some b) : 128 ≤ b.toNat := by
  obtain ⟨hg, hl⟩ := get_list hj
  have h0 := get_at s pos h
  rw [Nat.add_zero] at h0
  rw [Lib.decode_at] at h2
  have hb2 : 128 ≤ (s.get! pos).toNat := by rw [h0]; exact hb
  obtain ⟨w1, w4, q2, q3, q4⟩ := dec_N (s.size - pos) (s.get! pos).toNat (s.get! (pos + 1)).toNat (s.get! (pos + 2)).toNat (s.get! (pos + 3)).toNat hb2
  generalize (Lib.decodeN (s.size - pos) (s.get! pos).toNat (s.get! (pos + 1)).toNat (s.get! (pos + 2)).toNat (s.get! (pos + 3)).toNat).2 = W at h2 w1 w4 q2 q3 q4
  have hk : j = pos ∨ j = pos + 1 ∨ j = pos + 2 ∨ j = pos + 3 := by omega
  rcases hk with rfl | rfl | rfl | rfl
  · rw [hg] at hb2; exact hb2
  · have := (q2 (by omega)).1; rw [hg] at this; exact this
  · have := (q3 (by omega)).1; rw [hg] at this; exact this
  · have := (q4 (by omega)).1; rw [hg] at this; exact this
theorem dec_end (s : ByteArray) (pos : Nat) (h : pos < s.size) (hb : 128 ≤ (s[pos]'h).toNat) : pos + (Utf8.decode s pos).2 ≤ s.size ∧ 1 ≤ (Utf8.decode s pos).2 := by
  have h0 := get_at s pos h
  rw [Nat.add_zero] at h0
  rw [Lib.decode_at]
  have hb2 : 128 ≤ (s.get! pos).toNat := by rw [h0]; exact hb
  obtain ⟨w1, w4, q2, q3, q4⟩ := dec_N (s.size - pos) (s.get! pos).toNat (s.get! (pos + 1)).toNat (s.get! (pos + 2)).toNat (s.get! (pos + 3)).toNat hb2
  generalize (Lib.decodeN (s.size - pos) (s.get! pos).toNat (s.get! (pos + 1)).toNat (s.get! (pos + 2)).toNat (s.get! (pos + 3)).toNat).2 = W at w1 w4 q2 q3 q4 ⊢
  have hk : W = 1 ∨ W = 2 ∨ W = 3 ∨ W = 4 := by omega
  rcases hk with rfl | rfl | rfl | rfl
  · omega
  · have := (q2 (by omega)).2; omega
  · have := (q3 (by omega)).2; omega
  · have := (q4 (by omega)).2; omega
theorem noAny_skip {s chars : ByteArray} {pos : Nat} (hc : Asc chars) (h : Lib.NoAny s.data.toList chars.data.toList pos) (hp : pos < s.size) (hb : 128 ≤ (s[pos]'hp).toNat) : Lib.NoAny s.data.toList chars.data.toList (pos + (Utf8.decode s pos).2) := by
  intro j b hj hjb
  by_cases h1 : j < pos
  · exact h j b h1 hjb
  · have h2 := dec_skip s pos hp hb j b (by omega) hj hjb
    rw [Bool.eq_false_iff]
    intro hh
    rw [List.contains_iff_mem] at hh
    obtain ⟨i, hi⟩ := List.mem_iff_getElem?.1 hh
    have := hc _ _ hi
    omega
/-- IndexRune at any rune from 128 on. -/
theorem IndexRune_far (s : ByteArray) (r : Int) (w : World) (ha : Asc s) (hs : s.size ≤ 100) (h5 : s.size = 2) (h : 128 ≤ r) : Calls Tryd.prog 56 #[.string s, .int .i32 r] w fun e w' => e = .returned (.int .i64 (-1)) ∧ Below w.heap.size w w' := by
  by_cases hr : r = 65533
  · subst hr; exact IndexRune_error s w ha hs
  · exact IndexRune_high s r w ha hs h5 h hr
theorem below_iterAt {w W : World} (h : Below w.heap.size w W) (s : ByteArray) (pos : Nat) : Below w.heap.size w (W.iterAt w.heap.size s pos) :=
  ⟨h.os, h.tape, h.output, by show w.heap.size ≤ (W.heap.setIfInBounds _ _).size; rw [Array.size_setIfInBounds]; exact h.size, fun k hk => by
    show (W.heap.setIfInBounds w.heap.size (.stringIter s pos))[k]? = _
    rw [Array.getElem?_setIfInBounds_ne (by omega)]; exact h.block k hk⟩
theorem iterPos_of {W : World} {k p : Nat} {s : ByteArray} (h : W.heap[k]? = some (.stringIter s p)) : W.iterPos k = p := by simp [World.iterPos, h]
theorem iter_past {W W' : World} {k p : Nat} {s : ByteArray} (h : W.heap[k]? = some (.stringIter s p)) (hb : Below W.heap.size W W') : W'.heap[k]? = some (.stringIter s p) :=
  (hb.block k (Array.getElem?_eq_some_iff.1 h).1).trans h
set_option maxRecDepth 100000 in
set_option maxHeartbeats 2000000 in
theorem IndexAny_short (s chars : ByteArray) (w : World) (hc : Asc chars) (hcs : chars.size ≤ 100) (h5 : chars.size = 2) (h8 : s.size ≤ 8) :
    Calls Tryd.prog 34 #[.string s, .string chars] w fun e w' => e = .returned (.int .i64 (Lib.indexAny s.data.toList chars.data.toList)) ∧ Below w.heap.size w w' := by
  have hemp : chars.toList.isEmpty = false := by
    rw [Lib.toList_data]
    cases h : chars.data.toList with
    | nil => have := Lib.size_eq chars; rw [h, List.length_nil] at this; omega
    | cons _ _ => rfl
  have hn1 : ((chars.size : Int) == 1) = false := beq_eq_false_iff_ne.2 (by omega)
  have h8z : decide ((8 : Int) < (s.size : Int)) = false := decide_eq_false (by omega)
  have HC := Lib.hid hc; clear hc
  go_enter Tryd.func34, Tryd.ntmps34
  go_wp2_with fail
  refine (Tryd.strings_shouldUseASCIISet _ _).mono ?_
  rintro e w' ⟨rfl, hw⟩
  have hw2 := hw.symm
  subst hw2
  clear hw
  go_wp2
  go_loopw [9, 10] (fun _ _ wr => ∃ pos : Nat, pos ≤ s.size ∧ Hid (wr.heap[w.heap.size]? = some (.stringIter s pos)) ∧ Hid (Below w.heap.size w wr) ∧ Hid (Lib.NoAny s.data.toList chars.data.toList pos)) (fun _ _ wr => s.size - wr.iterPos w.heap.size)
  case atStart => exact ⟨0, Nat.zero_le _, Lib.hid (World.iter_heap w s 0), Lib.hid ((Below.refl _ _).alloc (Nat.le_refl _) _), Lib.hid (Lib.NoAny.zero _ _)⟩
  case round =>
    obtain ⟨pos, hp, HT, HB, HN⟩ := hrel
    have HP := Lib.hid (iterPos_of HT.out)
    by_cases hlt : pos < s.size
    · obtain ⟨x, hx⟩ : ∃ x : UInt8, s[pos]'hlt = x := ⟨_, rfl⟩
      have hxl : s.data.toList[pos]? = some x := by rw [← hx]; exact Lib.data_getElem? s pos hlt
      by_cases h128 : x.toNat < 128
      · have hnx := fun ty => Lib.run_next_ascii_at (P := Tryd.prog) wr w.heap.size s pos ty HT.out hlt (by rw [hx]; exact h128)
        rw [hx] at hnx
        have HB2 := Lib.hid (below_iterAt HB.out s (pos + 1))
        have HT2 := Lib.hid (Lib.iterAt_heap wr w.heap.size s pos (pos + 1) HT.out)
        have Hx := Lib.hid hxl
        have hback : ((x.toNat : Int)).toNat.toUInt8 = x := by simp
        have hcon := Lib.contains_iff_indexByte chars.data.toList x
        have CR := Lib.hid (Tryd.strings_IndexRune_ascii chars (x.toNat : Int) (wr.iterAt w.heap.size s (pos + 1)) (by omega) (by omega))
        rw [hback] at CR
        clear hxl hx hback
        cases hin : chars.data.toList.contains x
        · rw [hin] at hcon
          have hlt2 : ¬ ((0 : Int) ≤ Lib.indexByte chars.data.toList x) := of_decide_eq_false hcon.symm
          have HI := Lib.hid hin
          clear hcon hin
          go_wp2_with fail
          refine CR.out.mono ?_
          rintro e w' ⟨rfl, hw⟩
          have hw2 := hw.symm
          subst hw2
          clear hw
          go_wp2
          go_roundw
          case rel => exact ⟨pos + 1, by omega, HT2, HB2, Lib.hid (HN.out.succ Hx.out HI.out)⟩
          case measure => rw [iterPos_of HT2.out, HP.out]; omega
        · rw [hin] at hcon
          have hge : (0 : Int) ≤ Lib.indexByte chars.data.toList x := of_decide_eq_true hcon.symm
          have HI := Lib.hid hin
          clear hcon hin
          go_wp2_with fail
          refine CR.out.mono ?_
          rintro e w' ⟨rfl, hw⟩
          have hw2 := hw.symm
          subst hw2
          clear hw
          go_wp2
          go_ret
          exact ⟨by rw [Lib.indexAny_hit HN.out Hx.out HI.out]; rfl, HB2.out⟩
      · have hnx := fun ty => Lib.run_next_any_at (P := Tryd.prog) wr w.heap.size s pos ty HT.out hlt
        have hh := (decode_high s pos hlt (by rw [hx]; omega)).1
        obtain ⟨q1, q2⟩ := dec_end s pos hlt (by rw [hx]; omega)
        have HN2 := Lib.hid (noAny_skip HC.out HN.out hlt (by rw [hx]; omega))
        obtain ⟨D, hD⟩ : ∃ D, D = Utf8.decode s pos := ⟨_, rfl⟩
        rw [← hD] at hnx hh q1 q2 HN2
        have HB2 := Lib.hid (below_iterAt HB.out s (pos + D.2))
        have HT2 := Lib.hid (Lib.iterAt_heap wr w.heap.size s pos (pos + D.2) HT.out)
        have CR := Lib.hid (IndexRune_far chars (D.1 : Int) (wr.iterAt w.heap.size s (pos + D.2)) HC.out hcs h5 (by omega))
        clear hxl hx hD
        go_wp2_with fail
        refine CR.out.mono ?_
        rintro e w2 ⟨rfl, hb⟩
        have HT3 := Lib.hid (iter_past HT2.out hb)
        have HB3 := Lib.hid (HB2.out.trans (hb.mono HB2.out.size))
        clear hb
        go_wp2
        go_roundw
        case rel => exact ⟨pos + D.2, q1, HT3, HB3, HN2⟩
        case measure => rw [iterPos_of HT3.out, HP.out]; omega
    · obtain rfl : pos = s.size := by omega
      have hnx := fun ty => Lib.run_next_end_at (P := Tryd.prog) wr w.heap.size s s.size ty HT.out hlt
      go_wp2
      go_ret
      exact ⟨by rw [Lib.indexAny_none (by rw [← Lib.size_eq]; exact HN.out)]; rfl, HB.out⟩
/-- strings.IndexAny at strings of any bytes and two ASCII characters. -/
theorem IndexAny_two (s chars : ByteArray) (w : World) (hc : Asc chars) (h5 : chars.size = 2) (hs : s.size < 4294967281) :
    Calls Tryd.prog 34 #[.string s, .string chars] w fun e w' => e = .returned (.int .i64 (Lib.indexAny s.data.toList chars.data.toList)) ∧ Below w.heap.size w w' := by
  by_cases h8 : s.size ≤ 8
  · exact IndexAny_short s chars w hc (by omega) h5 h8
  · refine (Tryd.strings_IndexAny_long (zero_of_info (n := 256) (by kernel_rfl)).1 s chars w (by omega) (by omega) hs (by omega) hc).mono fun e w' ⟨h1, h2⟩ => ⟨h1, ?_⟩
    rw [h2]
    exact ((Below.refl _ _).alloc (Nat.le_refl _) _).alloc (by simp) _
/-- strings.ContainsAny at strings of any bytes and two ASCII characters. -/
theorem ContainsAny_two (s chars : ByteArray) (w : World) (hc : Asc chars) (h5 : chars.size = 2) (hs : s.size < 4294967281) :
    Calls Tryd.prog 46 #[.string s, .string chars] w fun e w' => e = .returned (.bool (Lib.containsAny s.data.toList chars.data.toList)) ∧ Below w.heap.size w w' := by
  have C := Lib.hid (IndexAny_two s chars w hc h5 hs)
  go_enter Tryd.func46, Tryd.ntmps46
  go_wp2_with fail
  refine C.out.mono ?_
  rintro e w' ⟨rfl, hb⟩
  go_wp2
  go_ret
  exact ⟨rfl, hb⟩
end Go.Proofs.YtbibekojbjonoaaDoor.Pa
