/-
  The contracts of sizeUpTo, pair and braces of package token.
-/
import Derived.Test.YtdojbnngdlmbgaaGreatDoorChecked
import Derived.Test.YtdojbnngdlmbgaaGreatDoorTkPure
import Derived.Test.YtdojbnngdlmbgaaGreatDoorShelf
import Derived.WalkKit
import Derived.WalkSpells
import Derived.WalkLawsBesides
import Derived.Outline
import Derived.Deep.QuietTactic
import Derived.BigQuiet
import Derived.Lib.Hide
import Derived.IntWalk
namespace Go.Proofs.YtdojbnngdlmbgaaGreatDoor.Tk
open Go.RowKit

theorem ret_int {k : IntKind} {a b : Int} (h : a = b) : Ending.returned (.int k a) = .returned (.int k b) := by rw [h]
theorem ret_bool {a b : Bool} (h : a = b) : Ending.returned (.bool a) = .returned (.bool b) := by rw [h]
theorem ret_str {a b : ByteArray} (h : a = b) : Ending.returned (.string a) = .returned (.string b) := by rw [h]
theorem below_drewN {B : Nat} {a w : World} (h : Below B a w) (n : Nat) : Below B a (w.drewN n) := ⟨h.os, h.tape, h.output, h.size, h.block⟩
/-- Two numbers, as a function returns them. -/
def two (x : Nat × Nat) : Value := .tuple #[.int .i64 (x.1 : Int), .int .i64 (x.2 : Int)]
theorem two_eq (x : Nat × Nat) (a b : Int) (ha : (x.1 : Int) = a) (hb : (x.2 : Int) = b) : two x = .tuple #[.int .i64 a, .int .i64 b] := by unfold two; rw [ha, hb]

theorem sizeUpTo_any (s o n : ByteArray) (m : Int) (w : World) (ho : o.size ≤ s.size) (hs : s.size < 4294967281) (hn : n.size < 4294967281) (hm : w.cell? ⟨1, 0, none⟩ = some (.int .i64 m)) :
    Calls Tryz.prog 138 #[.string s, .string o, .string n] w fun e w' => e = .returned (.int .i64 (upTo s.data.toList o.data.toList n.data.toList : Nat)) ∧ w = w' := by
  have hx : (s.extract o.size s.size).data.toList = s.data.toList.drop o.data.toList.length := Lib.extract_to_end s o.size
  have hz : (s.extract o.size s.size).size < 4294967281 := by simp; omega
  have hz' := Lib.hid hz; clear hz
  rcases Lib.index_spec (s.data.toList.drop o.data.toList.length) n.data.toList with ⟨h1, _⟩ | ⟨i, h1, h2, _⟩
  · have HU : Hid (upTo s.data.toList o.data.toList n.data.toList = 0) := Lib.hid (by unfold upTo; rw [if_pos h1])
    have h1' := Lib.hid h1; clear h1
    have HX := Lib.hid hx; clear hx
    go_enter Tryz.func138, Tryz.ntmps138
    go_wp2_with fail
    refine (Tryz.strings_Index _ _ m _ hz'.out hm).mono ?_
    rintro e w' ⟨rfl, rfl⟩
    rw [HX.out, h1'.out]
    go_wp2
    go_ret
    exact ⟨ret_int (by rw [HU.out]; rfl), rfl⟩
  · have HU : Hid (upTo s.data.toList o.data.toList n.data.toList = o.data.toList.length + i + n.data.toList.length) := Lib.hid (by unfold upTo; rw [if_neg (by omega), h1]; simp)
    have h1' := Lib.hid h1; clear h1
    have HX := Lib.hid hx; clear hx
    have hi : i < 4294967281 := by simp at h2; have : s.data.toList.length = s.size := rfl; omega
    have hi0 : ¬ (i : Int) < 0 := by omega
    clear h2
    go_enter Tryz.func138, Tryz.ntmps138
    go_wp2_with fail
    refine (Tryz.strings_Index _ _ m _ hz'.out hm).mono ?_
    rintro e w' ⟨rfl, rfl⟩
    rw [HX.out, h1'.out]
    go_wp2
    go_ret
    exact ⟨ret_int (by rw [HU.out]; have a1 : o.data.toList.length = o.size := rfl; have a2 : n.data.toList.length = n.size := rfl; rw [a1, a2]; push_cast; rfl), rfl⟩

theorem two_data {s : ByteArray} (h : 2 ≤ s.size) : ∃ r, s.data.toList = s[0] :: s[1] :: r := Lib.two_bytes s h
theorem one_data {s : ByteArray} (h : s.size = 1) : ∃ c, s.data.toList = [c] := by
  have : s.data.toList.length = 1 := h
  match e : s.data.toList, this with
  | [c], _ => exact ⟨c, rfl⟩
theorem pair_any (s : ByteArray) (k : Nat) (w : World) (h0 : 0 < s.size) (hs : s.size ≤ maxLen) :
    Calls Tryz.prog 111 #[.string s, .int .i64 k] w fun e w' => e = .returned (two (pair k s.data.toList)) ∧ ∃ n, w' = w.drewN n := by
  unfold maxLen at hs
  by_cases h2 : 2 ≤ s.size
  · obtain ⟨r, hr⟩ := two_data h2
    have HR := Lib.hid hr; clear hr
    have g1 : decide ((s.size : Int) < 2) = false := by simp; omega
    have g2 : (1 : Int) < (s.size : Int) := by omega
    have g3 : (0 : Int) < (s.size : Int) := by omega
    have g4 : 1 < s.size := by omega
    by_cases hc : s[1] = s[0]
    · have hd : (((s[1]).toNat : Int) != ((s[0]).toNat : Int)) = false := by rw [hc]; simp
      have HC := Lib.hid hc; clear hc
      go_enter Tryz.func111, Tryz.ntmps111
      go_wp2
      go_quiet (fail)
      go_wp2
      go_ret2
      exact ⟨by rw [HR.out, pair, if_pos HC.out]; rfl, nq, rfl⟩
    · have hd : (((s[1]).toNat : Int) != ((s[0]).toNat : Int)) = true := by
        rw [bne_iff_ne]; intro e; exact hc (UInt8.toNat_inj.1 (by omega))
      have HC := Lib.hid hc; clear hc
      go_enter Tryz.func111, Tryz.ntmps111
      go_wp2
      go_quiet (fail)
      go_wp2
      go_ret2
      exact ⟨by rw [HR.out, pair, if_neg HC.out]; rfl, nq, rfl⟩
  · obtain ⟨c, hr⟩ := one_data (s := s) (by omega)
    have HR := Lib.hid hr; clear hr
    have g1 : (s.size : Int) < 2 := by omega
    go_enter Tryz.func111, Tryz.ntmps111
    go_wp2
    go_quiet (fail)
    go_wp2
    go_ret2
    exact ⟨by rw [HR.out]; rfl, nq, rfl⟩

theorem trim_run (c : UInt8) (l : List UInt8) : (Lib.trimLeftB l c).length + run c l = l.length := by
  unfold run
  induction l with
  | nil => rfl
  | cons a r ih => by_cases ha : (a == c) = true <;> simp_all [Lib.trimLeftB] <;> omega
theorem braces_any (s : ByteArray) (c : UInt8) (k : Nat) (w : World) (hs : s.size ≤ maxLen) (h0 : 0 < s.size) (hc : s[0] = c) (hc' : c.toNat < 128) :
    Calls Tryz.prog 110 #[.string s, .int .i64 k] w fun e w' => e = .returned (two (braces c k s.data.toList)) ∧ w = w' := by
  unfold maxLen at hs
  have hx : s.extract 0 1 = ⟨#[c]⟩ := by
    rw [Lib.extract_eq]
    have e := List.getElem_cons_drop (show 0 < s.data.toList.length from h0)
    have e' : s.data.toList[0]'h0 = c := hc
    rw [e'] at e
    rw [← e]; rfl
  have ht := trim_run c s.data.toList
  have hl : (⟨(Lib.trimLeftB s.data.toList c).toArray⟩ : ByteArray).size = (Lib.trimLeftB s.data.toList c).length := rfl
  have hsl : s.data.toList.length = s.size := rfl
  rw [hsl, ← hl] at ht
  generalize hT : (⟨(Lib.trimLeftB s.data.toList c).toArray⟩ : ByteArray) = T at ht
  have HT := Lib.hid hT; clear hT hl hsl
  have HX := Lib.hid hx; clear hx hc
  have h1 : 1 ≤ s.size := h0
  have h1' : (1 : Int) ≤ (s.size : Int) := by omega
  have h63 : T.size ≤ s.size := by omega
  have hle : (T.size : Int) ≤ (s.size : Int) := by omega
  by_cases h2 : run c s.data.toList < 2
  · have hd : (s.size : Int) - (T.size : Int) < 2 := by omega
    have HB : Hid (braces c k s.data.toList = (0, 0)) := Lib.hid (by unfold braces; rw [if_pos h2])
    clear h2
    have HN := Lib.hid ht; clear ht
    go_enter Tryz.func110, Tryz.ntmps110
    go_wp2_with fail
    rw [HX.out]
    refine (Tryz.strings_TrimLeft_one _ _ hc' _).mono ?_
    rintro e w' ⟨rfl, rfl⟩
    rw [HT.out]
    go_wp2
    go_ret2
    exact ⟨by rw [HB.out]; rfl, rfl⟩
  · have hd : ¬ (s.size : Int) - (T.size : Int) < 2 := by omega
    have HB : Hid (braces c k s.data.toList = (k, run c s.data.toList)) := Lib.hid (by unfold braces; rw [if_neg h2])
    clear h2
    have HN : Hid ((run c s.data.toList : Int) = (s.size : Int) - (T.size : Int)) := Lib.hid (by omega)
    clear ht
    go_enter Tryz.func110, Tryz.ntmps110
    go_wp2_with fail
    rw [HX.out]
    refine (Tryz.strings_TrimLeft_one _ _ hc' _).mono ?_
    rintro e w' ⟨rfl, rfl⟩
    rw [HT.out]
    go_wp2
    go_ret2
    exact ⟨by rw [HB.out, two_eq (k, run c s.data.toList) _ _ rfl HN.out]; rfl, rfl⟩
end Go.Proofs.YtdojbnngdlmbgaaGreatDoor.Tk
