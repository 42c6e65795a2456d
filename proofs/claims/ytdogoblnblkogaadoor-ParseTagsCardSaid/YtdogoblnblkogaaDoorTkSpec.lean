/-
  The contract of the reference's special: the rules of specL at an index.
-/
import Derived.Test.YtdogoblnblkogaaDoorTkRef
namespace Go.Proofs.YtdogoblnblkogaaDoor.Tk
open Go.RowKit

/-- The kind and the end of a token of kind and size x that begins at i; nothing where there is none. -/
def ends (i : Nat) (x : Nat × Nat) : Nat × Nat := if x.2 = 0 then (0, 0) else (x.1, i + x.2)
theorem ends_of {i a b : Nat} (h : b ≠ 0) : ends i (a, b) = (a, i + b) := if_neg h
theorem upTo_from {l o n : List UInt8} {i : Nat} : indexFrom l n (i + o.length) = if upTo (l.drop i) o n = 0 ∧ n ≠ [] then -1 else indexFrom l n (i + o.length) := by
  split
  · rename_i h
    unfold indexFrom
    obtain ⟨h1, h2⟩ := h
    unfold upTo at h1
    rw [List.drop_drop] at h1
    by_cases e : Lib.index (l.drop (i + o.length)) n = -1
    · rw [if_pos e]
    · rw [if_neg e] at h1
      have : n.length ≠ 0 := by simpa using h2
      omega
  · rfl
theorem upTo_hit {l o n : List UInt8} {i : Nat} (h : upTo (l.drop i) o n ≠ 0) : indexFrom l n (i + o.length) + n.length = ((i + upTo (l.drop i) o n : Nat) : Int) ∧ 0 ≤ indexFrom l n (i + o.length) := by
  have e : ¬ Lib.index ((l.drop i).drop o.length) n = -1 := fun e => h (by unfold upTo; rw [if_pos e])
  have g := Lib.index_ge ((l.drop i).drop o.length) n
  have hu : upTo (l.drop i) o n = o.length + (Lib.index ((l.drop i).drop o.length) n).toNat + n.length := by unfold upTo; rw [if_neg e]
  unfold indexFrom
  rw [List.drop_drop] at e g hu
  rw [if_neg e, hu]
  omega
theorem upTo_miss {l o n : List UInt8} {i : Nat} (hn : n ≠ []) (h : upTo (l.drop i) o n = 0) : indexFrom l n (i + o.length) = -1 := by
  rw [upTo_from, if_pos ⟨h, hn⟩]

theorem special_comment (s : ByteArray) (i : Nat) (w : World) (hi : i < s.size) (hs : s.size ≤ 8192) (h1 : Lib.hasPrefix (s.data.toList.drop i) [60, 33, 45, 45] = true) :
    Calls Tryd.prog 37 #[.string s, .int .i64 (i : Int)] w fun e w' => e = .returned (two (ends i (specL (s.data.toList.drop i)))) ∧ Below w.heap.size w w' := by
  have hl := hp_len h1
  rw [List.length_drop] at hl
  have hsl : s.data.toList.length = s.size := rfl
  rw [hsl] at hl
  simp at hl
  have e4 : Hid (indexFrom s.data.toList cE (i + 4) = indexFrom s.data.toList cE (i + cO.length)) := Lib.hid rfl
  by_cases h0 : upTo (s.data.toList.drop i) cO cE = 0
  · have HS : Hid (ends i (specL (s.data.toList.drop i)) = (9, s.size)) := Lib.hid (by
      unfold specL; rw [show Lib.hasPrefix (s.data.toList.drop i) cO = true from h1, h0]; simp only [if_true]
      rw [List.length_drop, hsl, ends_of (by omega)]; simp; omega)
    have HI : Hid (indexFrom s.data.toList [45, 45, 62] (i + 4) = -1) := Lib.hid (e4.out.trans (upTo_miss (by decide) h0))
    clear h0 hsl
    go_enter Tryd.func37, Tryd.ntmps37
    go_wp2_with fail
    refine (At_any _ _ i _ (by omega) (by omega)).mono ?_
    rintro e w' ⟨rfl, rfl⟩
    go_wp2_with fail
    refine (Index_any _ _ (i + 4) _ (by omega) (by omega) (by decide)).mono ?_
    rintro e w' ⟨rfl, rfl⟩
    rw [HI.out]
    go_wp2
    go_ret2
    exact ⟨by rw [HS.out]; rfl, Below.refl _ _⟩
  · have hu := upTo_hit (o := cO) h0
    have HS : Hid (ends i (specL (s.data.toList.drop i)) = (9, i + upTo (s.data.toList.drop i) cO cE)) := Lib.hid (by
      unfold specL; rw [show Lib.hasPrefix (s.data.toList.drop i) cO = true from h1]; simp only [if_true]
      rw [if_neg h0, ends_of h0])
    obtain ⟨j, hj⟩ : ∃ j : Nat, indexFrom s.data.toList cE (i + cO.length) = j := ⟨(indexFrom s.data.toList cE (i + cO.length)).toNat, by omega⟩
    rw [hj] at hu
    have hup := upTo_le (e := cE) (hp_len (q := cO) h1)
    rw [List.length_drop, hsl] at hup
    have hlt : j < 65536 := by have := hu.1; have : cE.length = 3 := rfl; omega
    have HI : Hid (indexFrom s.data.toList [45, 45, 62] (i + 4) = j) := Lib.hid (e4.out.trans hj)
    have HU : Hid ((j : Int) + 3 = ((i + upTo (s.data.toList.drop i) cO cE : Nat) : Int)) := Lib.hid hu.1
    have hj0 : (0 : Int) ≤ (j : Int) := by omega
    clear h0 hsl hu hj hup
    go_enter Tryd.func37, Tryd.ntmps37
    go_wp2_with fail
    refine (At_any _ _ i _ (by omega) (by omega)).mono ?_
    rintro e w' ⟨rfl, rfl⟩
    go_wp2_with fail
    refine (Index_any _ _ (i + 4) _ (by omega) (by omega) (by decide)).mono ?_
    rintro e w' ⟨rfl, rfl⟩
    rw [HI.out]
    go_wp2
    go_ret2
    exact ⟨by rw [HS.out, two_eq (9, i + upTo (s.data.toList.drop i) cO cE) 9 _ rfl HU.out.symm]; rfl, Below.refl _ _⟩

theorem special_nowiki (s : ByteArray) (i : Nat) (w : World) (hi : i < s.size) (hs : s.size ≤ 8192) (h1 : Lib.hasPrefix (s.data.toList.drop i) [60, 33, 45, 45] = false) (h2 : Lib.hasPrefix (s.data.toList.drop i) [60, 110, 111, 119, 105, 107, 105, 62] = true) (h0 : upTo (s.data.toList.drop i) nO nE ≠ 0) :
    Calls Tryd.prog 37 #[.string s, .int .i64 (i : Int)] w fun e w' => e = .returned (two (ends i (specL (s.data.toList.drop i)))) ∧ Below w.heap.size w w' := by
  have hl := hp_len h2
  rw [List.length_drop] at hl
  have hsl : s.data.toList.length = s.size := rfl
  rw [hsl] at hl
  simp at hl
  have e4 : Hid (indexFrom s.data.toList nE (i + 8) = indexFrom s.data.toList nE (i + nO.length)) := Lib.hid rfl
  have hu := upTo_hit (o := nO) h0
  have HS : Hid (ends i (specL (s.data.toList.drop i)) = (10, i + upTo (s.data.toList.drop i) nO nE)) := Lib.hid (by
    unfold specL; rw [show Lib.hasPrefix (s.data.toList.drop i) cO = false from h1, show Lib.hasPrefix (s.data.toList.drop i) nO = true from h2]
    simp only [Bool.false_eq_true, if_false, true_and]
    rw [if_pos h0, ends_of h0])
  obtain ⟨j, hj⟩ : ∃ j : Nat, indexFrom s.data.toList nE (i + nO.length) = j := ⟨(indexFrom s.data.toList nE (i + nO.length)).toNat, by omega⟩
  rw [hj] at hu
  have hup := upTo_le (e := nE) (hp_len (q := nO) h2)
  rw [List.length_drop, hsl] at hup
  have hlt : j < 65536 := by have := hu.1; have : nE.length = 9 := rfl; omega
  have HI : Hid (indexFrom s.data.toList [60, 47, 110, 111, 119, 105, 107, 105, 62] (i + 8) = j) := Lib.hid (e4.out.trans hj)
  have HU : Hid ((j : Int) + 9 = ((i + upTo (s.data.toList.drop i) nO nE : Nat) : Int)) := Lib.hid hu.1
  have hj0 : (0 : Int) ≤ (j : Int) := by omega
  clear h0 hsl hu hj hup
  go_enter Tryd.func37, Tryd.ntmps37
  go_wp2_with fail
  refine (At_any _ _ i _ (by omega) (by omega)).mono ?_
  rintro e w' ⟨rfl, rfl⟩
  go_wp2_with fail
  refine (At_any _ _ i _ (by omega) (by omega)).mono ?_
  rintro e w' ⟨rfl, rfl⟩
  go_wp2_with fail
  refine (Index_any _ _ (i + 8) _ (by omega) (by omega) (by decide)).mono ?_
  rintro e w' ⟨rfl, rfl⟩
  rw [HI.out]
  go_wp2
  go_ret2
  exact ⟨by rw [HS.out, two_eq (10, i + upTo (s.data.toList.drop i) nO nE) 10 _ rfl HU.out.symm]; rfl, Below.refl _ _⟩

theorem run_ge {c : UInt8} {l : List UInt8} (h : Lib.hasPrefix l [c, c] = true) : 2 ≤ run c l := by
  obtain ⟨r, rfl⟩ := hp_app h
  unfold run; simp
/-- What is left behind the rules 1 and 2. -/
theorem spec_tag {l : List UInt8} {i : Nat} (h1 : Lib.hasPrefix l cO = false) (h2 : ¬ (Lib.hasPrefix l nO = true ∧ upTo l nO nE ≠ 0)) : ∀ a b : Nat, b ≠ 0 → tagFrom l 3 1 = (a, b) → ends i (specL l) = (a, i + b) := by
  intro a b hb h
  unfold specL
  rw [h1, if_neg (by simp), if_neg h2, h, if_pos hb, ends_of hb]
theorem spec_rest {l : List UInt8} {i : Nat} (h1 : Lib.hasPrefix l cO = false) (h2 : ¬ (Lib.hasPrefix l nO = true ∧ upTo l nO nE ≠ 0)) : tagFrom l 3 1 = (0, 0) → ends i (specL l) = ends i (restL l) := by
  intro h
  unfold specL
  rw [h1, if_neg (by simp), if_neg h2, h, if_neg (by simp)]
end Go.Proofs.YtdogoblnblkogaaDoor.Tk
