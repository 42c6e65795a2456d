/-
  The contract of strings.ContainsAny for strings of any bytes, at some ASCII characters.
-/
import Derived.Test.YtikfmafhblkcpaaDoorChecked
import Derived.Test.YtikfmafhblkcpaaDoorShelf2
import Derived.WalkKit
import Derived.WalkSpells
import Derived.WalkLawsBesides
import Derived.Outline
import Derived.Deep.QuietTactic
import Derived.BigQuiet
import Derived.Lib.Hide
import Derived.IntWalk
import Derived.Lib.RuneBytes
import Derived.Laws.RangeAny
import Derived.WalkMore
import Derived.Deep.RegionWith
namespace Go.Proofs.YtikfmafhblkcpaaDoor.Pa
open Go.RowKit

theorem quiet_add_same {P : Program} {f : FuncId} {args : Array Value} {w : World} {a n : Nat} {v : Value}
    (h : Calls P f args (w.drewN (a + n)) fun e w' => e = .returned v ∧ w' = w.drewN (a + n)) :
    Calls P f args (w.drewN (a + n)) fun e w'' => e = .returned v ∧ ∃ m, w'' = w.drewN (a + m) :=
  h.mono fun _ _ ⟨he, hm⟩ => ⟨he, n, hm⟩
theorem below_drewN' {w : World} (n : Nat) : Below w.heap.size w (w.drewN n) := ⟨rfl, rfl, rfl, Nat.le_refl _, fun _ _ => rfl⟩
/-- Bytes below 128 alone. -/
def Asc (s : ByteArray) : Prop := ∀ (j : Nat) b, s.data.toList[j]? = some b → b.toNat < 128
theorem Asc.at {s : ByteArray} (h : Asc s) (i : Nat) (hi : i < s.size) : (s[i]'hi).toNat < 128 := h i _ (Lib.data_getElem? s i hi)
theorem indexByte_asc {s : ByteArray} (h : Asc s) (i : Nat) (c : UInt8) (hc : 128 ≤ c.toNat) : Lib.indexByte (s.data.toList.drop i) c = -1 := by
  have hn : (s.data.toList.drop i).contains c = false := by
    rw [Bool.eq_false_iff]
    intro hh
    rw [List.contains_iff_mem] at hh
    obtain ⟨j, hj⟩ := List.mem_iff_getElem?.1 hh
    rw [List.getElem?_drop] at hj
    have := h _ _ hj
    omega
  have h1 := Lib.contains_iff_indexByte (s.data.toList.drop i) c
  rw [hn] at h1
  have h2 : ¬ (0 : Int) ≤ Lib.indexByte (s.data.toList.drop i) c := of_decide_eq_false h1.symm
  have h3 := Lib.indexByte_ge (s.data.toList.drop i) c
  omega
/-- The bytes of a rune from 128 on. -/
theorem toNat_hi (n : Nat) : (UInt8.ofNat (0x80 + n % 64)).toNat = 128 + n % 64 := by
  simp; omega
theorem enc_high {r : Int} (h : 128 ≤ r) : 2 ≤ (Utf8.encode r).size ∧ (Utf8.encode r).size ≤ 4 ∧ ∀ (k : Nat) (hi : k < (Utf8.encode r).size), (Utf8.encode r).size = k + 1 → 128 ≤ ((Utf8.encode r)[k]'hi).toNat := by
  obtain ⟨c, hc, hc2⟩ : ∃ c : Nat, (if Utf8.valid r then r.toNat else Utf8.runeError) = c ∧ 128 ≤ c := by
    refine ⟨_, rfl, ?_⟩
    split
    · omega
    · decide
  have key : ∀ (a : Array UInt8) (L : List UInt8) (m : Nat), a = (L ++ [UInt8.ofNat (0x80 + m % 64)]).toArray → Utf8.encode r = ⟨a⟩ → 1 ≤ L.length → L.length ≤ 3 → 2 ≤ (Utf8.encode r).size ∧ (Utf8.encode r).size ≤ 4 ∧ ∀ (k : Nat) (hi : k < (Utf8.encode r).size), (Utf8.encode r).size = k + 1 → 128 ≤ ((Utf8.encode r)[k]'hi).toNat := by
    intro a L m ha he h1 h3
    subst ha
    rw [he]
    have hs : (⟨(L ++ [UInt8.ofNat (0x80 + m % 64)]).toArray⟩ : ByteArray).size = L.length + 1 := by
      show (L ++ [UInt8.ofNat (0x80 + m % 64)]).toArray.size = _
      simp
    refine ⟨by omega, by omega, fun k hi hk => ?_⟩
    have hkl : k = L.length := by omega
    subst hkl
    have : (⟨(L ++ [UInt8.ofNat (0x80 + m % 64)]).toArray⟩ : ByteArray)[L.length]'hi = UInt8.ofNat (0x80 + m % 64) := by
      show ((L ++ [UInt8.ofNat (0x80 + m % 64)]).toArray)[L.length]'_ = _
      simp
    rw [this, toNat_hi]; omega
  have he : Utf8.encode r = (if c < 0x80 then ⟨#[UInt8.ofNat c]⟩ else if c < 0x800 then ⟨#[UInt8.ofNat (0xC0 + c / 64), UInt8.ofNat (0x80 + c % 64)]⟩ else if c < 0x10000 then ⟨#[UInt8.ofNat (0xE0 + c / 4096), UInt8.ofNat (0x80 + c / 64 % 64), UInt8.ofNat (0x80 + c % 64)]⟩ else ⟨#[UInt8.ofNat (0xF0 + c / 262144), UInt8.ofNat (0x80 + c / 4096 % 64), UInt8.ofNat (0x80 + c / 64 % 64), UInt8.ofNat (0x80 + c % 64)]⟩) := by
    unfold Utf8.encode
    simp only [hc]
  rw [if_neg (by omega)] at he
  split at he
  · exact key _ [UInt8.ofNat (0xC0 + c / 64)] c rfl he (by simp) (by simp)
  · split at he
    · exact key _ [UInt8.ofNat (0xE0 + c / 4096), UInt8.ofNat (0x80 + c / 64 % 64)] c rfl he (by simp) (by simp)
    · exact key _ [UInt8.ofNat (0xF0 + c / 262144), UInt8.ofNat (0x80 + c / 4096 % 64), UInt8.ofNat (0x80 + c / 64 % 64)] c rfl he (by simp) (by simp)
set_option maxRecDepth 100000 in
set_option maxHeartbeats 2000000 in
theorem IndexRune_error (s : ByteArray) (w : World) (ha : Asc s) (hs : s.size ≤ 100) : Calls Tryd.prog 75 #[.string s, .int .i32 65533] w fun e w' => e = .returned (.int .i64 (-1)) ∧ Below w.heap.size w w' := by
  have HA := Lib.hid ha; clear ha
  go_enter Tryd.func75, Tryd.ntmps75
  go_wp2
  go_loopw [5, 6] (fun _ _ w' => ∃ pos : Nat, w' = w.iter s pos ∧ pos ≤ s.size) (fun _ _ w' => s.size - w'.iterPos w.heap.size)
  case atStart => exact ⟨0, rfl, by omega⟩
  case round =>
    obtain ⟨pos, rfl, hp⟩ := hrel
    by_cases hlt : pos < s.size
    · have hx := HA.out.at pos hlt
      have hnx := fun ty => run_next_ascii (P := Tryd.prog) w s pos ty hlt hx
      have hne : ((s[pos].toNat : Int) == 65533) = false := by rw [beq_eq_false_iff_ne]; omega
      go_wp2
      go_roundw
      case rel => exact ⟨pos + 1, rfl, by omega⟩
      case measure => simp; omega
    · have hnx := fun ty => run_next_end (P := Tryd.prog) w s pos ty hlt
      go_wp2
      go_ret
      exact ⟨rfl, (Below.refl _ _).alloc (Nat.le_refl _) _⟩
set_option maxRecDepth 100000 in
set_option maxHeartbeats 2000000 in
theorem IndexRune_high (s : ByteArray) (r : Int) (w : World) (ha : Asc s) (hs : s.size ≤ 100) (h5 : 5 ≤ s.size) (h : 128 ≤ r) (hne : r ≠ 65533) : Calls Tryd.prog 75 #[.string s, .int .i32 r] w fun e w' => e = .returned (.int .i64 (-1)) ∧ Below w.heap.size w w' := by
  have h1 : decide (r < 128) = false := by rw [decide_eq_false_iff_not]; omega
  have h2 : (r == 65533) = false := by rw [beq_eq_false_iff_ne]; exact hne
  cases hv : Lib.validRune r
  · clear hne
    go_enter Tryd.func75, Tryd.ntmps75
    go_wp2_with fail
    refine (Tryd.utf8_ValidRune _ _).mono ?_
    rintro e w' ⟨rfl, hw⟩
    go_wp2
    go_ret
    exact ⟨rfl, by subst hw; exact Below.refl _ _⟩
  · clear hne
    obtain ⟨e1, e2, e3⟩ := enc_high h
    obtain ⟨R, hR⟩ : ∃ R : ByteArray, R = Utf8.encode r := ⟨_, rfl⟩
    rw [← hR] at e1 e2 e3
    have hR2 : Utf8.encode r = R := hR.symm
    clear hR
    have hz3 : R.size = 2 ∨ R.size = 3 ∨ R.size = 4 := by omega
    rcases hz3 with hz | hz | hz
    · have hz : R.size = 2 := hz
      have x1 := ha.at 1 (by omega)
      have x2 : 128 ≤ (R[1]'(by omega)).toNat := e3 1 (by omega) (by omega)
      have hi1 : 1 < s.size := by omega
      have hi2 : 2 ≤ s.size := by omega
      have hi4 : (2 : Int) ≤ (s.size : Int) := by omega
      have hi5 : ¬ (s.size : Int) < 2 := by omega
      have hi6 : ¬ s.size < 2 := by omega
      have hi3 : 1 < R.size := by omega
      have hne2 : ((s[1].toNat : Int) != (R[1].toNat : Int)) = true := by rw [bne_iff_ne]; omega
      have hIB : ∀ W : World, Calls Tryd.prog 102 #[.string (s.extract 2 s.size), .int .u8 (R[1].toNat : Int)] W fun e w' => e = .returned (.int .i64 (-1)) ∧ w' = W := fun W => by
        have c := Tryd.strings_IndexByte (s.extract 2 s.size) (R[1].toNat : Int) W
        rw [Lib.extract_to_end, show ((R[1].toNat : Int)).toNat.toUInt8 = R[1] by simp, indexByte_asc ha _ _ x2] at c
        exact c
      have HI := Lib.hid hIB; clear hIB e3 e1 e2 ha x1 x2
      go_enter Tryd.func75, Tryd.ntmps75
      go_wp2_with fail
      refine (Tryd.utf8_ValidRune _ _).mono ?_
      rintro e w' ⟨rfl, hw⟩
      subst hw
      go_wp2
      go_step3
      go_wp2
      go_loop [9, 10] (fun x y => x = .int .i64 1 ∧ y = .int .i64 0) (fun _ _ => 0)
      case atStart => exact ⟨rfl, rfl⟩
      case round =>
        obtain ⟨rfl, rfl⟩ := hrel
        go_wp2
        go_step3
        go_wp2
        go_region
        go_wp2
        go_quiet ((go_at_call 102; exact (quiet_add_same (HI.out _))))
        go_wp2
        change bodyPost Tryd.prog Tryd.f75 (fun e w'_1 => e = .returned (.int .i64 (-1)) ∧ Below w'.heap.size w' w'_1) Exit.ret _ _
        go_ret
        exact ⟨rfl, below_drewN' _⟩
    · have hz : R.size = 3 := hz
      have x1 := ha.at 2 (by omega)
      have x2 : 128 ≤ (R[2]'(by omega)).toNat := e3 2 (by omega) (by omega)
      have hi1 : 2 < s.size := by omega
      have hi2 : 3 ≤ s.size := by omega
      have hi4 : (3 : Int) ≤ (s.size : Int) := by omega
      have hi5 : ¬ (s.size : Int) < 3 := by omega
      have hi6 : ¬ s.size < 3 := by omega
      have hi3 : 2 < R.size := by omega
      have hne2 : ((s[2].toNat : Int) != (R[2].toNat : Int)) = true := by rw [bne_iff_ne]; omega
      have hIB : ∀ W : World, Calls Tryd.prog 102 #[.string (s.extract 3 s.size), .int .u8 (R[2].toNat : Int)] W fun e w' => e = .returned (.int .i64 (-1)) ∧ w' = W := fun W => by
        have c := Tryd.strings_IndexByte (s.extract 3 s.size) (R[2].toNat : Int) W
        rw [Lib.extract_to_end, show ((R[2].toNat : Int)).toNat.toUInt8 = R[2] by simp, indexByte_asc ha _ _ x2] at c
        exact c
      have HI := Lib.hid hIB; clear hIB e3 e1 e2 ha x1 x2
      go_enter Tryd.func75, Tryd.ntmps75
      go_wp2_with fail
      refine (Tryd.utf8_ValidRune _ _).mono ?_
      rintro e w' ⟨rfl, hw⟩
      subst hw
      go_wp2
      go_step3
      go_wp2
      go_loop [9, 10] (fun x y => x = .int .i64 2 ∧ y = .int .i64 0) (fun _ _ => 0)
      case atStart => exact ⟨rfl, rfl⟩
      case round =>
        obtain ⟨rfl, rfl⟩ := hrel
        go_wp2
        go_step3
        go_wp2
        go_region
        go_wp2
        go_quiet ((go_at_call 102; exact (quiet_add_same (HI.out _))))
        go_wp2
        change bodyPost Tryd.prog Tryd.f75 (fun e w'_1 => e = .returned (.int .i64 (-1)) ∧ Below w'.heap.size w' w'_1) Exit.ret _ _
        go_ret
        exact ⟨rfl, below_drewN' _⟩
    · have hz : R.size = 4 := hz
      have x1 := ha.at 3 (by omega)
      have x2 : 128 ≤ (R[3]'(by omega)).toNat := e3 3 (by omega) (by omega)
      have hi1 : 3 < s.size := by omega
      have hi2 : 4 ≤ s.size := by omega
      have hi4 : (4 : Int) ≤ (s.size : Int) := by omega
      have hi5 : ¬ (s.size : Int) < 4 := by omega
      have hi6 : ¬ s.size < 4 := by omega
      have hi3 : 3 < R.size := by omega
      have hne2 : ((s[3].toNat : Int) != (R[3].toNat : Int)) = true := by rw [bne_iff_ne]; omega
      have hIB : ∀ W : World, Calls Tryd.prog 102 #[.string (s.extract 4 s.size), .int .u8 (R[3].toNat : Int)] W fun e w' => e = .returned (.int .i64 (-1)) ∧ w' = W := fun W => by
        have c := Tryd.strings_IndexByte (s.extract 4 s.size) (R[3].toNat : Int) W
        rw [Lib.extract_to_end, show ((R[3].toNat : Int)).toNat.toUInt8 = R[3] by simp, indexByte_asc ha _ _ x2] at c
        exact c
      have HI := Lib.hid hIB; clear hIB e3 e1 e2 ha x1 x2
      go_enter Tryd.func75, Tryd.ntmps75
      go_wp2_with fail
      refine (Tryd.utf8_ValidRune _ _).mono ?_
      rintro e w' ⟨rfl, hw⟩
      subst hw
      go_wp2
      go_step3
      go_wp2
      go_loop [9, 10] (fun x y => x = .int .i64 3 ∧ y = .int .i64 0) (fun _ _ => 0)
      case atStart => exact ⟨rfl, rfl⟩
      case round =>
        obtain ⟨rfl, rfl⟩ := hrel
        go_wp2
        go_step3
        go_wp2
        go_region
        go_wp2
        go_quiet ((go_at_call 102; exact (quiet_add_same (HI.out _))))
        go_wp2
        change bodyPost Tryd.prog Tryd.f75 (fun e w'_1 => e = .returned (.int .i64 (-1)) ∧ Below w'.heap.size w' w'_1) Exit.ret _ _
        go_ret
        exact ⟨rfl, below_drewN' _⟩
end Go.Proofs.YtikfmafhblkcpaaDoor.Pa
