/-
  The law TokenLimit, for every number.
-/
import Derived.Test.YthcclcoocoikoaaDoorTkCovers
import Derived.Test.YthcclcoocoikoaaDoorShelf2
import Derived.Laws.Bits64
namespace Go.Proofs.YthcclcoocoikoaaDoor.Tk
open Go.RowKit

theorem i64_and3' (n : Int) : bits .and .i64 n 3 = n % 4 := by
  have h7 : (BitVec.ofInt 64 3).toNat = 2 ^ 2 - 1 := by decide
  have key : (BitVec.ofInt 64 n &&& BitVec.ofInt 64 3).toNat = (n % ((2 ^ 64 : Nat) : Int)).toNat % 2 ^ 2 := by
    rw [BitVec.toNat_and, BitVec.toNat_ofInt, h7, Nat.and_two_pow_sub_one_eq_mod]
  show IntKind.i64.wrap ((BitVec.ofInt 64 n &&& BitVec.ofInt 64 3).toNat : Nat) = n % 4
  rw [key, IntKind.wrap_i64]
  omega
theorem chain_last {n : Nat} : ∀ {a : Nat} {l : List Tok}, Chain n a l → ∀ (p : Nat) (h : p < l.length), p + 1 = l.length → l[p].2.2 = n
  | _, [], _, p, h, _ => by simp at h
  | a, [(k, f, t)], hc, p, h, hp => by
    obtain rfl : p = 0 := by simpa using hp
    exact hc.2.2.2.2.2
  | a, (k, f, t) :: y :: r, hc, p, h, hp => by
    obtain ⟨q, rfl⟩ : ∃ q, p = q + 1 := ⟨p - 1, by simp at hp; omega⟩
    exact chain_last (l := y :: r) hc.2.2.2.2.2 q (by simpa using h) (by simpa using hp)
theorem rep_any (s : ByteArray) (w : World) (h : s.size = 1) :
    Calls Tryd.prog 19 #[.string s, .int .i64 8192] w fun e w' => ∃ S : ByteArray, e = .returned (.string S) ∧ S.size = 8192 ∧ Below w.heap.size w w' :=
  (Tryd.strings_Repeat s 8192 w (by omega) (by omega)).mono fun _ _ ⟨a, b⟩ => ⟨_, a, by
    show (Lib.repeatL s.data.toList 8192).length = 8192
    rw [Lib.repeatL_length]
    have : s.data.toList.length = 1 := h
    rw [this], b⟩

set_option maxRecDepth 100000 in
set_option maxHeartbeats 2000000 in
theorem limit_0 (n : Int) (w : World) (ht : Tb w) (hn : n % 4 = 0) :
    Calls Tryd.prog 8 #[.int .i64 n] w fun e w' => e = .returned (.bool true) ∧ Below w.heap.size w w' := by
  have hand : bits .and .i64 n 3 = 0 := by rw [i64_and3', hn]
  clear hn
  have hbel : Below w.heap.size w (w.alloc (.cells #[.string ⟨#[97]⟩, .string ⟨#[123]⟩, .string ⟨#[124]⟩, .string ⟨#[10]⟩] 9)) := (Below.refl _ _).alloc (Nat.le_refl _) _
  have HB := Lib.hid hbel; clear hbel
  go_enter Tryd.func8, Tryd.ntmps8
  go_wp2_with fail
  refine (rep_any _ _ rfl).mono ?_
  rintro e w1 ⟨S, rfl, hS, hb1⟩
  have HS := Lib.hid hS
  have hS1 : S.size ≤ 8192 := by omega
  clear hS
  have HB1 : Hid (Below w.heap.size w w1) := Lib.hid (HB.out.trans (hb1.mono HB.out.size))
  clear hb1 HB
  go_wp2_with fail
  refine (Scan_any _ _ (ht.below HB1.out) hS1).mono ?_
  rintro e w2 ⟨v2, rfl, ho2, hb2⟩
  have hch := scan_chain S.data.toList _ 0 0 (Nat.le_refl _) (Nat.le_refl _) (Nat.zero_le _)
  have hSl : S.data.toList.length = 8192 := HS.out
  rw [hSl] at hch
  generalize scanL S.data.toList 0 0 = T at ho2 hch
  have HB2 : Hid (Below w.heap.size w w2) := Lib.hid (HB1.out.trans (hb2.mono HB1.out.size))
  clear hSl hb2 HB1
  have hT : T ≠ [] := by
    intro e; subst e; exact absurd (show (0 : Nat) = 8192 from hch) (by omega)
  have hTl : 0 < T.length := List.length_pos_iff.2 hT
  clear hT
  obtain ⟨A, c, rfl, l2, m2, q2⟩ := ho2.rd.ex
  unfold maxLen at m2
  obtain ⟨g, rfl, hg, q2'⟩ := q2 hTl
  clear q2 ho2
  obtain ⟨p, hp⟩ : ∃ p, p + 1 = T.length := ⟨T.length - 1, by omega⟩
  have hpl : p < T.length := by omega
  have hlast := chain_last hch p hpl hp
  have x2 := (q2' p T[p] (List.getElem?_eq_getElem hpl)).2.2
  rw [hlast] at x2
  clear q2' hlast hch
  have b1 : (0 : Int) < (T.length : Int) := by omega
  have b2 : (1 : Int) ≤ (T.length : Int) := by omega
  have b3 : (T.length : Int) - 1 < (T.length : Int) := by omega
  have b4 : ((T.length : Int) - 1).toNat = p := by omega
  have b5 : (T.length : Int) ≤ 9223372036854775807 := by omega
  clear hp hpl
  have s1 : S.size + 1 ≤ 9223372036854775807 := by omega
  go_wp2_with fail
  generalize hD : S ++ (⟨#[97]⟩ : ByteArray) = D
  have hDs : D.size = 8193 := by rw [← hD, ByteArray.size_append, HS.out]; rfl
  clear hD
  refine (Scan_long _ _ (by omega) (by unfold maxLen; omega)).mono ?_
  rintro e w3 ⟨rfl, rfl⟩
  clear hDs
  go_wp2_with fail
  refine (known_any _ (ht.below HB2.out)).mono ?_
  rintro e w4 ⟨rfl, hb4⟩
  go_wp2
  go_ret
  exact ⟨rfl, HB2.out.trans (hb4.mono HB2.out.size)⟩

set_option maxRecDepth 100000 in
set_option maxHeartbeats 2000000 in
theorem limit_1 (n : Int) (w : World) (ht : Tb w) (hn : n % 4 = 1) :
    Calls Tryd.prog 8 #[.int .i64 n] w fun e w' => e = .returned (.bool true) ∧ Below w.heap.size w w' := by
  have hand : bits .and .i64 n 3 = 1 := by rw [i64_and3', hn]
  clear hn
  have hbel : Below w.heap.size w (w.alloc (.cells #[.string ⟨#[97]⟩, .string ⟨#[123]⟩, .string ⟨#[124]⟩, .string ⟨#[10]⟩] 9)) := (Below.refl _ _).alloc (Nat.le_refl _) _
  have HB := Lib.hid hbel; clear hbel
  go_enter Tryd.func8, Tryd.ntmps8
  go_wp2_with fail
  refine (rep_any _ _ rfl).mono ?_
  rintro e w1 ⟨S, rfl, hS, hb1⟩
  have HS := Lib.hid hS
  have hS1 : S.size ≤ 8192 := by omega
  clear hS
  have HB1 : Hid (Below w.heap.size w w1) := Lib.hid (HB.out.trans (hb1.mono HB.out.size))
  clear hb1 HB
  go_wp2_with fail
  refine (Scan_any _ _ (ht.below HB1.out) hS1).mono ?_
  rintro e w2 ⟨v2, rfl, ho2, hb2⟩
  have hch := scan_chain S.data.toList _ 0 0 (Nat.le_refl _) (Nat.le_refl _) (Nat.zero_le _)
  have hSl : S.data.toList.length = 8192 := HS.out
  rw [hSl] at hch
  generalize scanL S.data.toList 0 0 = T at ho2 hch
  have HB2 : Hid (Below w.heap.size w w2) := Lib.hid (HB1.out.trans (hb2.mono HB1.out.size))
  clear hSl hb2 HB1
  have hT : T ≠ [] := by
    intro e; subst e; exact absurd (show (0 : Nat) = 8192 from hch) (by omega)
  have hTl : 0 < T.length := List.length_pos_iff.2 hT
  clear hT
  obtain ⟨A, c, rfl, l2, m2, q2⟩ := ho2.rd.ex
  unfold maxLen at m2
  obtain ⟨g, rfl, hg, q2'⟩ := q2 hTl
  clear q2 ho2
  obtain ⟨p, hp⟩ : ∃ p, p + 1 = T.length := ⟨T.length - 1, by omega⟩
  have hpl : p < T.length := by omega
  have hlast := chain_last hch p hpl hp
  have x2 := (q2' p T[p] (List.getElem?_eq_getElem hpl)).2.2
  rw [hlast] at x2
  clear q2' hlast hch
  have b1 : (0 : Int) < (T.length : Int) := by omega
  have b2 : (1 : Int) ≤ (T.length : Int) := by omega
  have b3 : (T.length : Int) - 1 < (T.length : Int) := by omega
  have b4 : ((T.length : Int) - 1).toNat = p := by omega
  have b5 : (T.length : Int) ≤ 9223372036854775807 := by omega
  clear hp hpl
  have s1 : S.size + 1 ≤ 9223372036854775807 := by omega
  go_wp2_with fail
  generalize hD : S ++ (⟨#[97]⟩ : ByteArray) = D
  have hDs : D.size = 8193 := by rw [← hD, ByteArray.size_append, HS.out]; rfl
  clear hD
  refine (Scan_long _ _ (by omega) (by unfold maxLen; omega)).mono ?_
  rintro e w3 ⟨rfl, rfl⟩
  clear hDs
  go_wp2_with fail
  refine (known_any _ (ht.below HB2.out)).mono ?_
  rintro e w4 ⟨rfl, hb4⟩
  go_wp2
  go_ret
  exact ⟨rfl, HB2.out.trans (hb4.mono HB2.out.size)⟩

set_option maxRecDepth 100000 in
set_option maxHeartbeats 2000000 in
theorem limit_2 (n : Int) (w : World) (ht : Tb w) (hn : n % 4 = 2) :
    Calls Tryd.prog 8 #[.int .i64 n] w fun e w' => e = .returned (.bool true) ∧ Below w.heap.size w w' := by
  have hand : bits .and .i64 n 3 = 2 := by rw [i64_and3', hn]
  clear hn
  have hbel : Below w.heap.size w (w.alloc (.cells #[.string ⟨#[97]⟩, .string ⟨#[123]⟩, .string ⟨#[124]⟩, .string ⟨#[10]⟩] 9)) := (Below.refl _ _).alloc (Nat.le_refl _) _
  have HB := Lib.hid hbel; clear hbel
  go_enter Tryd.func8, Tryd.ntmps8
  go_wp2_with fail
  refine (rep_any _ _ rfl).mono ?_
  rintro e w1 ⟨S, rfl, hS, hb1⟩
  have HS := Lib.hid hS
  have hS1 : S.size ≤ 8192 := by omega
  clear hS
  have HB1 : Hid (Below w.heap.size w w1) := Lib.hid (HB.out.trans (hb1.mono HB.out.size))
  clear hb1 HB
  go_wp2_with fail
  refine (Scan_any _ _ (ht.below HB1.out) hS1).mono ?_
  rintro e w2 ⟨v2, rfl, ho2, hb2⟩
  have hch := scan_chain S.data.toList _ 0 0 (Nat.le_refl _) (Nat.le_refl _) (Nat.zero_le _)
  have hSl : S.data.toList.length = 8192 := HS.out
  rw [hSl] at hch
  generalize scanL S.data.toList 0 0 = T at ho2 hch
  have HB2 : Hid (Below w.heap.size w w2) := Lib.hid (HB1.out.trans (hb2.mono HB1.out.size))
  clear hSl hb2 HB1
  have hT : T ≠ [] := by
    intro e; subst e; exact absurd (show (0 : Nat) = 8192 from hch) (by omega)
  have hTl : 0 < T.length := List.length_pos_iff.2 hT
  clear hT
  obtain ⟨A, c, rfl, l2, m2, q2⟩ := ho2.rd.ex
  unfold maxLen at m2
  obtain ⟨g, rfl, hg, q2'⟩ := q2 hTl
  clear q2 ho2
  obtain ⟨p, hp⟩ : ∃ p, p + 1 = T.length := ⟨T.length - 1, by omega⟩
  have hpl : p < T.length := by omega
  have hlast := chain_last hch p hpl hp
  have x2 := (q2' p T[p] (List.getElem?_eq_getElem hpl)).2.2
  rw [hlast] at x2
  clear q2' hlast hch
  have b1 : (0 : Int) < (T.length : Int) := by omega
  have b2 : (1 : Int) ≤ (T.length : Int) := by omega
  have b3 : (T.length : Int) - 1 < (T.length : Int) := by omega
  have b4 : ((T.length : Int) - 1).toNat = p := by omega
  have b5 : (T.length : Int) ≤ 9223372036854775807 := by omega
  clear hp hpl
  have s1 : S.size + 1 ≤ 9223372036854775807 := by omega
  go_wp2_with fail
  generalize hD : S ++ (⟨#[97]⟩ : ByteArray) = D
  have hDs : D.size = 8193 := by rw [← hD, ByteArray.size_append, HS.out]; rfl
  clear hD
  refine (Scan_long _ _ (by omega) (by unfold maxLen; omega)).mono ?_
  rintro e w3 ⟨rfl, rfl⟩
  clear hDs
  go_wp2_with fail
  refine (known_any _ (ht.below HB2.out)).mono ?_
  rintro e w4 ⟨rfl, hb4⟩
  go_wp2
  go_ret
  exact ⟨rfl, HB2.out.trans (hb4.mono HB2.out.size)⟩

set_option maxRecDepth 100000 in
set_option maxHeartbeats 2000000 in
theorem limit_3 (n : Int) (w : World) (ht : Tb w) (hn : n % 4 = 3) :
    Calls Tryd.prog 8 #[.int .i64 n] w fun e w' => e = .returned (.bool true) ∧ Below w.heap.size w w' := by
  have hand : bits .and .i64 n 3 = 3 := by rw [i64_and3', hn]
  clear hn
  have hbel : Below w.heap.size w (w.alloc (.cells #[.string ⟨#[97]⟩, .string ⟨#[123]⟩, .string ⟨#[124]⟩, .string ⟨#[10]⟩] 9)) := (Below.refl _ _).alloc (Nat.le_refl _) _
  have HB := Lib.hid hbel; clear hbel
  go_enter Tryd.func8, Tryd.ntmps8
  go_wp2_with fail
  refine (rep_any _ _ rfl).mono ?_
  rintro e w1 ⟨S, rfl, hS, hb1⟩
  have HS := Lib.hid hS
  have hS1 : S.size ≤ 8192 := by omega
  clear hS
  have HB1 : Hid (Below w.heap.size w w1) := Lib.hid (HB.out.trans (hb1.mono HB.out.size))
  clear hb1 HB
  go_wp2_with fail
  refine (Scan_any _ _ (ht.below HB1.out) hS1).mono ?_
  rintro e w2 ⟨v2, rfl, ho2, hb2⟩
  have hch := scan_chain S.data.toList _ 0 0 (Nat.le_refl _) (Nat.le_refl _) (Nat.zero_le _)
  have hSl : S.data.toList.length = 8192 := HS.out
  rw [hSl] at hch
  generalize scanL S.data.toList 0 0 = T at ho2 hch
  have HB2 : Hid (Below w.heap.size w w2) := Lib.hid (HB1.out.trans (hb2.mono HB1.out.size))
  clear hSl hb2 HB1
  have hT : T ≠ [] := by
    intro e; subst e; exact absurd (show (0 : Nat) = 8192 from hch) (by omega)
  have hTl : 0 < T.length := List.length_pos_iff.2 hT
  clear hT
  obtain ⟨A, c, rfl, l2, m2, q2⟩ := ho2.rd.ex
  unfold maxLen at m2
  obtain ⟨g, rfl, hg, q2'⟩ := q2 hTl
  clear q2 ho2
  obtain ⟨p, hp⟩ : ∃ p, p + 1 = T.length := ⟨T.length - 1, by omega⟩
  have hpl : p < T.length := by omega
  have hlast := chain_last hch p hpl hp
  have x2 := (q2' p T[p] (List.getElem?_eq_getElem hpl)).2.2
  rw [hlast] at x2
  clear q2' hlast hch
  have b1 : (0 : Int) < (T.length : Int) := by omega
  have b2 : (1 : Int) ≤ (T.length : Int) := by omega
  have b3 : (T.length : Int) - 1 < (T.length : Int) := by omega
  have b4 : ((T.length : Int) - 1).toNat = p := by omega
  have b5 : (T.length : Int) ≤ 9223372036854775807 := by omega
  clear hp hpl
  have s1 : S.size + 1 ≤ 9223372036854775807 := by omega
  go_wp2_with fail
  generalize hD : S ++ (⟨#[97]⟩ : ByteArray) = D
  have hDs : D.size = 8193 := by rw [← hD, ByteArray.size_append, HS.out]; rfl
  clear hD
  refine (Scan_long _ _ (by omega) (by unfold maxLen; omega)).mono ?_
  rintro e w3 ⟨rfl, rfl⟩
  clear hDs
  go_wp2_with fail
  refine (known_any _ (ht.below HB2.out)).mono ?_
  rintro e w4 ⟨rfl, hb4⟩
  go_wp2
  go_ret
  exact ⟨rfl, HB2.out.trans (hb4.mono HB2.out.size)⟩

theorem limit_any (n : Int) (w : World) (ht : Tb w) :
    Calls Tryd.prog 8 #[.int .i64 n] w fun e w' => e = .returned (.bool true) ∧ Below w.heap.size w w' := by
  have hn : n % 4 = 0 ∨ n % 4 = 1 ∨ n % 4 = 2 ∨ n % 4 = 3 := by omega
  rcases hn with hn | hn | hn | hn
  · exact limit_0 n w ht hn
  · exact limit_1 n w ht hn
  · exact limit_2 n w ht hn
  · exact limit_3 n w ht hn
end Go.Proofs.YthcclcoocoikoaaDoor.Tk
