/-
  The law TitleSpaces returns true for every text and number, in every world that holds the tables.
-/
import Derived.Test.YtjnnbmdacicfcaaDoorTiBlanks
namespace Go.Proofs.YtjnnbmdacicfcaaDoor.Ti
open Go.RowKit

def isBlank (c : UInt8) : Bool := c = 32 ∨ c = 95
def lead : List UInt8 → Bool
  | [] => false
  | c :: _ => isBlank c
/-- What a text adds to a text that is not empty and behind which a blank waits (b) or not. -/
def tl (b : Bool) (l : List UInt8) : List UInt8 := if squeeze l = [] then [] else (if b || lead l then [32] else []) ++ squeeze l
theorem squeeze_blank {c : UInt8} (h : c = 32 ∨ c = 95) (r : List UInt8) : squeeze (c :: r) = squeeze r := by
  unfold squeeze sq
  rw [List.foldl_cons, sqStep, if_pos h]
  exact sq_flag r
theorem sq_cont : ∀ (l p : List UInt8) (b : Bool), p ≠ [] → (l.foldl sqStep (p, b)).1 = p ++ tl b l
  | [], p, b, _ => by simp [tl, squeeze, sq]
  | c :: r, p, b, hp => by
    rw [List.foldl_cons]
    by_cases h : c = 32 ∨ c = 95
    · rw [sqStep, if_pos h, sq_cont r p true hp]
      have hl : lead (c :: r) = true := by simp [lead, isBlank, h]
      unfold tl
      rw [squeeze_blank h, hl]
      simp
    · have hl : lead (c :: r) = false := by simp [lead, isBlank, h]
      have hpe : p.isEmpty = false := by simpa using hp
      have hs : squeeze (c :: r) = [c] ++ tl false r := by
        unfold squeeze sq
        rw [List.foldl_cons, sqStep, if_neg h]
        exact sq_cont r [c] false (by simp)
      have ht : tl b (c :: r) = (if b then [32] else []) ++ ([c] ++ tl false r) := by
        rw [show tl b (c :: r) = (if squeeze (c :: r) = [] then [] else (if b || lead (c :: r) then [32] else []) ++ squeeze (c :: r)) from rfl, hs, hl, if_neg (by simp)]
        simp
      rw [sqStep, if_neg h, sq_cont r _ false (by simp), ht]
      simp [hpe]
theorem squeeze_head {l r : List UInt8} {d : UInt8} (h : squeeze l = d :: r) : d ≠ 32 := by
  induction l with
  | nil => simp [squeeze, sq] at h
  | cons c t ih =>
    by_cases hc : c = 32 ∨ c = 95
    · rw [squeeze_blank hc] at h; exact ih h
    · unfold squeeze sq at h
      rw [List.foldl_cons, sqStep, if_neg hc, sq_cont t _ false (by simp)] at h
      simp at h
      rw [← h.1]; exact fun e => hc (.inl e)
theorem tl_trim (b : Bool) (l : List UInt8) : Lib.trimPrefix (tl b l) [32] = squeeze l := by
  unfold tl
  by_cases h : squeeze l = []
  · rw [if_pos h, h]; rfl
  · rw [if_neg h]
    by_cases hb : (b || lead l) = true
    · rw [if_pos hb]; exact trimPrefix_yes 32 _
    · rw [if_neg hb, List.nil_append]
      cases hs : squeeze l with
      | nil => exact absurd hs h
      | cons d r => exact trimPrefix_no (squeeze_head hs)
/-- A text behind a namespace. -/
theorem behind {p q l : List UInt8} {b : Bool} {k : Nat} (hsq : sq p = (q ++ [58], b)) (hq : ∀ x ∈ q, x ≠ 58) (hne : q ≠ []) (hk : spaceFrom (Lib.trimSuffix q [32]) 5 1 = k) (hk0 : k ≠ 0) :
    parse (p ++ l) = (if 100 < (cap (join (squeeze l))).length then ((0, []), 3) else if valid (k : Int) (cap (join (squeeze l))) then ((k, cap (join (squeeze l))), 0) else ((0, []), 1)) := by
  have h1 : squeeze (p ++ l) = q ++ 58 :: tl b l := by
    have : squeeze (p ++ l) = (l.foldl sqStep (sq p)).1 := by unfold squeeze sq; rw [List.foldl_append]
    rw [this, hsq, sq_cont _ _ _ (by simp)]
    simp
  have h2 : head (p ++ l) = q ++ 58 :: tl b l := by
    unfold head
    rw [h1]
    cases q with
    | nil => exact absurd rfl hne
    | cons d r => exact skip_no (hq d List.mem_cons_self)
  have h3 : space (q ++ 58 :: tl b l) = k := by unfold space; rw [cut_hit q hq, if_pos rfl]; exact hk
  have h4 : rest (q ++ 58 :: tl b l) = squeeze l := by unfold rest; rw [h3, if_neg hk0, cut_hit q hq]; exact tl_trim b l
  unfold parse nameOf
  rw [h2, h3, h4]
theorem pair {p p' q q' l : List UInt8} {b b' : Bool} {k : Nat} (hsq : sq p = (q ++ [58], b)) (hq : ∀ x ∈ q, x ≠ 58) (hne : q ≠ []) (hk : spaceFrom (Lib.trimSuffix q [32]) 5 1 = k) (hk0 : k ≠ 0)
    (hsq' : sq p' = (q' ++ [58], b')) (hq' : ∀ x ∈ q', x ≠ 58) (hne' : q' ≠ []) (hk' : spaceFrom (Lib.trimSuffix q' [32]) 5 1 = k) :
    ∃ r nm er, parse (p ++ l) = ((r, nm), er) ∧ parse (p' ++ l) = ((r, nm), er) ∧ (er = 0 → r = k) := by
  rw [behind hsq hq hne hk hk0, behind hsq' hq' hne' hk' hk0]
  split
  · exact ⟨0, [], 3, rfl, rfl, fun h => by cases h⟩
  · split
    · exact ⟨k, _, 0, rfl, rfl, fun _ => rfl⟩
    · exact ⟨0, [], 1, rfl, rfl, fun h => by cases h⟩
theorem cat_list (l : List UInt8) (s : ByteArray) : (⟨l.toArray⟩ : ByteArray) ++ s = ⟨(l ++ s.data.toList).toArray⟩ := by
  apply ByteArray.ext
  apply Array.ext'
  simp [ByteArray.data_append]
theorem two0 (l : List UInt8) : ∃ r nm er, parse ([84, 65, 76, 75, 58] ++ l) = ((r, nm), er) ∧ parse ([116, 97, 108, 107, 32, 58, 32] ++ l) = ((r, nm), er) ∧ (er = 0 → r = 1) :=
  pair (q := [84, 65, 76, 75]) (b := false) (q' := [116, 97, 108, 107, 32]) (b' := true) (by decide) (by decide) (by decide) (by decide) (by decide) (by decide) (by decide) (by decide) (by decide)
theorem two1 (l : List UInt8) : ∃ r nm er, parse ([117, 115, 101, 114, 58] ++ l) = ((r, nm), er) ∧ parse ([32, 85, 115, 101, 114, 32, 58] ++ l) = ((r, nm), er) ∧ (er = 0 → r = 2) :=
  pair (q := [117, 115, 101, 114]) (b := false) (q' := [85, 115, 101, 114, 32]) (b' := false) (by decide) (by decide) (by decide) (by decide) (by decide) (by decide) (by decide) (by decide) (by decide)
theorem two2 (l : List UInt8) : ∃ r nm er, parse ([84, 101, 77, 112, 108, 97, 116, 101, 58] ++ l) = ((r, nm), er) ∧ parse ([116, 101, 109, 112, 108, 97, 116, 101, 58, 32] ++ l) = ((r, nm), er) ∧ (er = 0 → r = 3) :=
  pair (q := [84, 101, 77, 112, 108, 97, 116, 101]) (b := false) (q' := [116, 101, 109, 112, 108, 97, 116, 101]) (b' := true) (by decide) (by decide) (by decide) (by decide) (by decide) (by decide) (by decide) (by decide) (by decide)
theorem two3 (l : List UInt8) : ∃ r nm er, parse ([99, 65, 116, 101, 103, 111, 114, 121, 58] ++ l) = ((r, nm), er) ∧ parse ([67, 97, 116, 101, 103, 111, 114, 121, 32, 32, 58, 32, 32] ++ l) = ((r, nm), er) ∧ (er = 0 → r = 4) :=
  pair (q := [99, 65, 116, 101, 103, 111, 114, 121]) (b := false) (q' := [67, 97, 116, 101, 103, 111, 114, 121, 32]) (b' := true) (by decide) (by decide) (by decide) (by decide) (by decide) (by decide) (by decide) (by decide) (by decide)
theorem two4 (l : List UInt8) : ∃ r nm er, parse ([112, 114, 111, 106, 101, 99, 116, 58] ++ l) = ((r, nm), er) ∧ parse ([95, 112, 114, 111, 106, 101, 99, 116, 95, 58, 95] ++ l) = ((r, nm), er) ∧ (er = 0 → r = 5) :=
  pair (q := [112, 114, 111, 106, 101, 99, 116]) (b := false) (q' := [112, 114, 111, 106, 101, 99, 116, 32]) (b' := true) (by decide) (by decide) (by decide) (by decide) (by decide) (by decide) (by decide) (by decide) (by decide)

set_option maxRecDepth 100000 in
set_option maxHeartbeats 1000000 in
theorem spaces_0 (s : ByteArray) (n : Int) (w : World) (hs : s.size ≤ 300) (ht : Tb w) (hn : n % 8 = 0) :
    Calls Tryd.prog 7 #[.string s, .int .i64 n] w fun e w' => e = .returned (.bool true) ∧ Below w.heap.size w w' := by
  have hand : bits .and .i64 n 7 = 0 := by rw [i64_and7, hn]
  obtain ⟨r, nm, er, hp, hq, hr⟩ := two0 s.data.toList
  have hsl : s.data.toList.length = s.size := rfl
  have HP := Lib.hid hp; have HQ := Lib.hid hq; have HR := Lib.hid hr; clear hp hq hr hn
  have s1 : 5 + s.size ≤ 9223372036854775807 := by omega
  have s2 : 7 + s.size ≤ 9223372036854775807 := by omega
  have hbig : decide (300 < (s.size : Int)) = false := by simp; omega
  have B0 : Below w.heap.size w ((w.alloc (.cells #[.string ⟨#[84, 65, 76, 75, 58]⟩, .string ⟨#[117, 115, 101, 114, 58]⟩, .string ⟨#[84, 101, 77, 112, 108, 97, 116, 101, 58]⟩, .string ⟨#[99, 65, 116, 101, 103, 111, 114, 121, 58]⟩, .string ⟨#[112, 114, 111, 106, 101, 99, 116, 58]⟩] 9)).alloc (.cells #[.string ⟨#[116, 97, 108, 107, 32, 58, 32]⟩, .string ⟨#[32, 85, 115, 101, 114, 32, 58]⟩, .string ⟨#[116, 101, 109, 112, 108, 97, 116, 101, 58, 32]⟩, .string ⟨#[67, 97, 116, 101, 103, 111, 114, 121, 32, 32, 58, 32, 32]⟩, .string ⟨#[95, 112, 114, 111, 106, 101, 99, 116, 95, 58, 95]⟩] 9)) := ((Below.refl _ w).alloc (Nat.le_refl _) _).alloc (by simp) _
  have t0 := ht.below B0
  go_enter Tryd.func7, Tryd.ntmps7
  go_wp2_with fail
  rw [cat_list]
  refine (Parse_eq HP.out _ (by simp; omega) t0).mono ?_
  rintro e w1 ⟨rfl, hb1⟩
  have t1 := t0.below hb1
  have c1 : Below w1.heap.size w1 (w1.alloc (.cells #[.int .i64 (r : Int), .string ⟨nm.toArray⟩] 24)) := (Below.refl _ w1).alloc (Nat.le_refl _) _
  have t1' := t1.below c1
  have Z1 : w.heap.size + 1 + 1 ≤ w1.heap.size := by simpa using hb1.size
  go_wp2_with fail
  rw [cat_list]
  refine (Parse_eq HQ.out _ (by simp; omega) t1').mono ?_
  rintro e w2 ⟨rfl, hb2⟩
  have t2 := t1'.below hb2
  have k2 := keep2 (by simpa using hb2)
  obtain ⟨a0, a1, _, _⟩ := k2
  have Z2 : w1.heap.size + 1 ≤ w2.heap.size := by simpa using hb2.size
  have z2 : w1.heap.size < w2.heap.size := by omega
  have c2 : Below w2.heap.size w2 (w2.alloc (.cells #[.int .i64 (r : Int), .string ⟨nm.toArray⟩] 24)) := (Below.refl _ w2).alloc (Nat.le_refl _) _
  have t2' := t2.below c2
  have BB2 : Below w.heap.size w (w2.alloc (.cells #[.int .i64 (r : Int), .string ⟨nm.toArray⟩] 24)) := (((B0.trans (hb1.mono (by simp; omega))).trans (c1.mono (by omega))).trans (hb2.mono (by simp; omega))).trans (c2.mono (by omega))
  by_cases he : er = 0
  · have hrk := HR.out he
    subst he
    have hd : ((r : Int) == 1) = true := by rw [hrk]; rfl
    clear hrk
    go_wp2_with fail
    refine (known_any _ t2').mono ?_
    rintro e w4 ⟨rfl, hb4⟩
    go_wp2
    go_ret
    exact ⟨rfl, BB2.trans (hb4.mono (by simp; omega))⟩
  · have hd : ((er : Int) != 0) = true := by rw [bne_iff_ne]; omega
    clear he
    go_wp2_with fail
    refine (known_any _ t2').mono ?_
    rintro e w4 ⟨rfl, hb4⟩
    go_wp2
    go_ret
    exact ⟨rfl, BB2.trans (hb4.mono (by simp; omega))⟩

set_option maxRecDepth 100000 in
set_option maxHeartbeats 1000000 in
theorem spaces_1 (s : ByteArray) (n : Int) (w : World) (hs : s.size ≤ 300) (ht : Tb w) (hn : n % 8 = 1) :
    Calls Tryd.prog 7 #[.string s, .int .i64 n] w fun e w' => e = .returned (.bool true) ∧ Below w.heap.size w w' := by
  have hand : bits .and .i64 n 7 = 1 := by rw [i64_and7, hn]
  obtain ⟨r, nm, er, hp, hq, hr⟩ := two1 s.data.toList
  have hsl : s.data.toList.length = s.size := rfl
  have HP := Lib.hid hp; have HQ := Lib.hid hq; have HR := Lib.hid hr; clear hp hq hr hn
  have s1 : 5 + s.size ≤ 9223372036854775807 := by omega
  have s2 : 7 + s.size ≤ 9223372036854775807 := by omega
  have hbig : decide (300 < (s.size : Int)) = false := by simp; omega
  have B0 : Below w.heap.size w ((w.alloc (.cells #[.string ⟨#[84, 65, 76, 75, 58]⟩, .string ⟨#[117, 115, 101, 114, 58]⟩, .string ⟨#[84, 101, 77, 112, 108, 97, 116, 101, 58]⟩, .string ⟨#[99, 65, 116, 101, 103, 111, 114, 121, 58]⟩, .string ⟨#[112, 114, 111, 106, 101, 99, 116, 58]⟩] 9)).alloc (.cells #[.string ⟨#[116, 97, 108, 107, 32, 58, 32]⟩, .string ⟨#[32, 85, 115, 101, 114, 32, 58]⟩, .string ⟨#[116, 101, 109, 112, 108, 97, 116, 101, 58, 32]⟩, .string ⟨#[67, 97, 116, 101, 103, 111, 114, 121, 32, 32, 58, 32, 32]⟩, .string ⟨#[95, 112, 114, 111, 106, 101, 99, 116, 95, 58, 95]⟩] 9)) := ((Below.refl _ w).alloc (Nat.le_refl _) _).alloc (by simp) _
  have t0 := ht.below B0
  go_enter Tryd.func7, Tryd.ntmps7
  go_wp2_with fail
  rw [cat_list]
  refine (Parse_eq HP.out _ (by simp; omega) t0).mono ?_
  rintro e w1 ⟨rfl, hb1⟩
  have t1 := t0.below hb1
  have c1 : Below w1.heap.size w1 (w1.alloc (.cells #[.int .i64 (r : Int), .string ⟨nm.toArray⟩] 24)) := (Below.refl _ w1).alloc (Nat.le_refl _) _
  have t1' := t1.below c1
  have Z1 : w.heap.size + 1 + 1 ≤ w1.heap.size := by simpa using hb1.size
  go_wp2_with fail
  rw [cat_list]
  refine (Parse_eq HQ.out _ (by simp; omega) t1').mono ?_
  rintro e w2 ⟨rfl, hb2⟩
  have t2 := t1'.below hb2
  have k2 := keep2 (by simpa using hb2)
  obtain ⟨a0, a1, _, _⟩ := k2
  have Z2 : w1.heap.size + 1 ≤ w2.heap.size := by simpa using hb2.size
  have z2 : w1.heap.size < w2.heap.size := by omega
  have c2 : Below w2.heap.size w2 (w2.alloc (.cells #[.int .i64 (r : Int), .string ⟨nm.toArray⟩] 24)) := (Below.refl _ w2).alloc (Nat.le_refl _) _
  have t2' := t2.below c2
  have BB2 : Below w.heap.size w (w2.alloc (.cells #[.int .i64 (r : Int), .string ⟨nm.toArray⟩] 24)) := (((B0.trans (hb1.mono (by simp; omega))).trans (c1.mono (by omega))).trans (hb2.mono (by simp; omega))).trans (c2.mono (by omega))
  by_cases he : er = 0
  · have hrk := HR.out he
    subst he
    have hd : ((r : Int) == 2) = true := by rw [hrk]; rfl
    clear hrk
    go_wp2_with fail
    refine (known_any _ t2').mono ?_
    rintro e w4 ⟨rfl, hb4⟩
    go_wp2
    go_ret
    exact ⟨rfl, BB2.trans (hb4.mono (by simp; omega))⟩
  · have hd : ((er : Int) != 0) = true := by rw [bne_iff_ne]; omega
    clear he
    go_wp2_with fail
    refine (known_any _ t2').mono ?_
    rintro e w4 ⟨rfl, hb4⟩
    go_wp2
    go_ret
    exact ⟨rfl, BB2.trans (hb4.mono (by simp; omega))⟩

set_option maxRecDepth 100000 in
set_option maxHeartbeats 1000000 in
theorem spaces_2 (s : ByteArray) (n : Int) (w : World) (hs : s.size ≤ 300) (ht : Tb w) (hn : n % 8 = 2) :
    Calls Tryd.prog 7 #[.string s, .int .i64 n] w fun e w' => e = .returned (.bool true) ∧ Below w.heap.size w w' := by
  have hand : bits .and .i64 n 7 = 2 := by rw [i64_and7, hn]
  obtain ⟨r, nm, er, hp, hq, hr⟩ := two2 s.data.toList
  have hsl : s.data.toList.length = s.size := rfl
  have HP := Lib.hid hp; have HQ := Lib.hid hq; have HR := Lib.hid hr; clear hp hq hr hn
  have s1 : 9 + s.size ≤ 9223372036854775807 := by omega
  have s2 : 10 + s.size ≤ 9223372036854775807 := by omega
  have hbig : decide (300 < (s.size : Int)) = false := by simp; omega
  have B0 : Below w.heap.size w ((w.alloc (.cells #[.string ⟨#[84, 65, 76, 75, 58]⟩, .string ⟨#[117, 115, 101, 114, 58]⟩, .string ⟨#[84, 101, 77, 112, 108, 97, 116, 101, 58]⟩, .string ⟨#[99, 65, 116, 101, 103, 111, 114, 121, 58]⟩, .string ⟨#[112, 114, 111, 106, 101, 99, 116, 58]⟩] 9)).alloc (.cells #[.string ⟨#[116, 97, 108, 107, 32, 58, 32]⟩, .string ⟨#[32, 85, 115, 101, 114, 32, 58]⟩, .string ⟨#[116, 101, 109, 112, 108, 97, 116, 101, 58, 32]⟩, .string ⟨#[67, 97, 116, 101, 103, 111, 114, 121, 32, 32, 58, 32, 32]⟩, .string ⟨#[95, 112, 114, 111, 106, 101, 99, 116, 95, 58, 95]⟩] 9)) := ((Below.refl _ w).alloc (Nat.le_refl _) _).alloc (by simp) _
  have t0 := ht.below B0
  go_enter Tryd.func7, Tryd.ntmps7
  go_wp2_with fail
  rw [cat_list]
  refine (Parse_eq HP.out _ (by simp; omega) t0).mono ?_
  rintro e w1 ⟨rfl, hb1⟩
  have t1 := t0.below hb1
  have c1 : Below w1.heap.size w1 (w1.alloc (.cells #[.int .i64 (r : Int), .string ⟨nm.toArray⟩] 24)) := (Below.refl _ w1).alloc (Nat.le_refl _) _
  have t1' := t1.below c1
  have Z1 : w.heap.size + 1 + 1 ≤ w1.heap.size := by simpa using hb1.size
  go_wp2_with fail
  rw [cat_list]
  refine (Parse_eq HQ.out _ (by simp; omega) t1').mono ?_
  rintro e w2 ⟨rfl, hb2⟩
  have t2 := t1'.below hb2
  have k2 := keep2 (by simpa using hb2)
  obtain ⟨a0, a1, _, _⟩ := k2
  have Z2 : w1.heap.size + 1 ≤ w2.heap.size := by simpa using hb2.size
  have z2 : w1.heap.size < w2.heap.size := by omega
  have c2 : Below w2.heap.size w2 (w2.alloc (.cells #[.int .i64 (r : Int), .string ⟨nm.toArray⟩] 24)) := (Below.refl _ w2).alloc (Nat.le_refl _) _
  have t2' := t2.below c2
  have BB2 : Below w.heap.size w (w2.alloc (.cells #[.int .i64 (r : Int), .string ⟨nm.toArray⟩] 24)) := (((B0.trans (hb1.mono (by simp; omega))).trans (c1.mono (by omega))).trans (hb2.mono (by simp; omega))).trans (c2.mono (by omega))
  by_cases he : er = 0
  · have hrk := HR.out he
    subst he
    have hd : ((r : Int) == 3) = true := by rw [hrk]; rfl
    clear hrk
    go_wp2_with fail
    refine (known_any _ t2').mono ?_
    rintro e w4 ⟨rfl, hb4⟩
    go_wp2
    go_ret
    exact ⟨rfl, BB2.trans (hb4.mono (by simp; omega))⟩
  · have hd : ((er : Int) != 0) = true := by rw [bne_iff_ne]; omega
    clear he
    go_wp2_with fail
    refine (known_any _ t2').mono ?_
    rintro e w4 ⟨rfl, hb4⟩
    go_wp2
    go_ret
    exact ⟨rfl, BB2.trans (hb4.mono (by simp; omega))⟩

set_option maxRecDepth 100000 in
set_option maxHeartbeats 1000000 in
theorem spaces_3 (s : ByteArray) (n : Int) (w : World) (hs : s.size ≤ 300) (ht : Tb w) (hn : n % 8 = 3) :
    Calls Tryd.prog 7 #[.string s, .int .i64 n] w fun e w' => e = .returned (.bool true) ∧ Below w.heap.size w w' := by
  have hand : bits .and .i64 n 7 = 3 := by rw [i64_and7, hn]
  obtain ⟨r, nm, er, hp, hq, hr⟩ := two3 s.data.toList
  have hsl : s.data.toList.length = s.size := rfl
  have HP := Lib.hid hp; have HQ := Lib.hid hq; have HR := Lib.hid hr; clear hp hq hr hn
  have s1 : 9 + s.size ≤ 9223372036854775807 := by omega
  have s2 : 13 + s.size ≤ 9223372036854775807 := by omega
  have hbig : decide (300 < (s.size : Int)) = false := by simp; omega
  have B0 : Below w.heap.size w ((w.alloc (.cells #[.string ⟨#[84, 65, 76, 75, 58]⟩, .string ⟨#[117, 115, 101, 114, 58]⟩, .string ⟨#[84, 101, 77, 112, 108, 97, 116, 101, 58]⟩, .string ⟨#[99, 65, 116, 101, 103, 111, 114, 121, 58]⟩, .string ⟨#[112, 114, 111, 106, 101, 99, 116, 58]⟩] 9)).alloc (.cells #[.string ⟨#[116, 97, 108, 107, 32, 58, 32]⟩, .string ⟨#[32, 85, 115, 101, 114, 32, 58]⟩, .string ⟨#[116, 101, 109, 112, 108, 97, 116, 101, 58, 32]⟩, .string ⟨#[67, 97, 116, 101, 103, 111, 114, 121, 32, 32, 58, 32, 32]⟩, .string ⟨#[95, 112, 114, 111, 106, 101, 99, 116, 95, 58, 95]⟩] 9)) := ((Below.refl _ w).alloc (Nat.le_refl _) _).alloc (by simp) _
  have t0 := ht.below B0
  go_enter Tryd.func7, Tryd.ntmps7
  go_wp2_with fail
  rw [cat_list]
  refine (Parse_eq HP.out _ (by simp; omega) t0).mono ?_
  rintro e w1 ⟨rfl, hb1⟩
  have t1 := t0.below hb1
  have c1 : Below w1.heap.size w1 (w1.alloc (.cells #[.int .i64 (r : Int), .string ⟨nm.toArray⟩] 24)) := (Below.refl _ w1).alloc (Nat.le_refl _) _
  have t1' := t1.below c1
  have Z1 : w.heap.size + 1 + 1 ≤ w1.heap.size := by simpa using hb1.size
  go_wp2_with fail
  rw [cat_list]
  refine (Parse_eq HQ.out _ (by simp; omega) t1').mono ?_
  rintro e w2 ⟨rfl, hb2⟩
  have t2 := t1'.below hb2
  have k2 := keep2 (by simpa using hb2)
  obtain ⟨a0, a1, _, _⟩ := k2
  have Z2 : w1.heap.size + 1 ≤ w2.heap.size := by simpa using hb2.size
  have z2 : w1.heap.size < w2.heap.size := by omega
  have c2 : Below w2.heap.size w2 (w2.alloc (.cells #[.int .i64 (r : Int), .string ⟨nm.toArray⟩] 24)) := (Below.refl _ w2).alloc (Nat.le_refl _) _
  have t2' := t2.below c2
  have BB2 : Below w.heap.size w (w2.alloc (.cells #[.int .i64 (r : Int), .string ⟨nm.toArray⟩] 24)) := (((B0.trans (hb1.mono (by simp; omega))).trans (c1.mono (by omega))).trans (hb2.mono (by simp; omega))).trans (c2.mono (by omega))
  by_cases he : er = 0
  · have hrk := HR.out he
    subst he
    have hd : ((r : Int) == 4) = true := by rw [hrk]; rfl
    clear hrk
    go_wp2_with fail
    refine (known_any _ t2').mono ?_
    rintro e w4 ⟨rfl, hb4⟩
    go_wp2
    go_ret
    exact ⟨rfl, BB2.trans (hb4.mono (by simp; omega))⟩
  · have hd : ((er : Int) != 0) = true := by rw [bne_iff_ne]; omega
    clear he
    go_wp2_with fail
    refine (known_any _ t2').mono ?_
    rintro e w4 ⟨rfl, hb4⟩
    go_wp2
    go_ret
    exact ⟨rfl, BB2.trans (hb4.mono (by simp; omega))⟩

set_option maxRecDepth 100000 in
set_option maxHeartbeats 1000000 in
theorem spaces_4 (s : ByteArray) (n : Int) (w : World) (hs : s.size ≤ 300) (ht : Tb w) (hn : n % 8 = 4) :
    Calls Tryd.prog 7 #[.string s, .int .i64 n] w fun e w' => e = .returned (.bool true) ∧ Below w.heap.size w w' := by
  have hand : bits .and .i64 n 7 = 4 := by rw [i64_and7, hn]
  obtain ⟨r, nm, er, hp, hq, hr⟩ := two4 s.data.toList
  have hsl : s.data.toList.length = s.size := rfl
  have HP := Lib.hid hp; have HQ := Lib.hid hq; have HR := Lib.hid hr; clear hp hq hr hn
  have s1 : 8 + s.size ≤ 9223372036854775807 := by omega
  have s2 : 11 + s.size ≤ 9223372036854775807 := by omega
  have hbig : decide (300 < (s.size : Int)) = false := by simp; omega
  have B0 : Below w.heap.size w ((w.alloc (.cells #[.string ⟨#[84, 65, 76, 75, 58]⟩, .string ⟨#[117, 115, 101, 114, 58]⟩, .string ⟨#[84, 101, 77, 112, 108, 97, 116, 101, 58]⟩, .string ⟨#[99, 65, 116, 101, 103, 111, 114, 121, 58]⟩, .string ⟨#[112, 114, 111, 106, 101, 99, 116, 58]⟩] 9)).alloc (.cells #[.string ⟨#[116, 97, 108, 107, 32, 58, 32]⟩, .string ⟨#[32, 85, 115, 101, 114, 32, 58]⟩, .string ⟨#[116, 101, 109, 112, 108, 97, 116, 101, 58, 32]⟩, .string ⟨#[67, 97, 116, 101, 103, 111, 114, 121, 32, 32, 58, 32, 32]⟩, .string ⟨#[95, 112, 114, 111, 106, 101, 99, 116, 95, 58, 95]⟩] 9)) := ((Below.refl _ w).alloc (Nat.le_refl _) _).alloc (by simp) _
  have t0 := ht.below B0
  go_enter Tryd.func7, Tryd.ntmps7
  go_wp2_with fail
  rw [cat_list]
  refine (Parse_eq HP.out _ (by simp; omega) t0).mono ?_
  rintro e w1 ⟨rfl, hb1⟩
  have t1 := t0.below hb1
  have c1 : Below w1.heap.size w1 (w1.alloc (.cells #[.int .i64 (r : Int), .string ⟨nm.toArray⟩] 24)) := (Below.refl _ w1).alloc (Nat.le_refl _) _
  have t1' := t1.below c1
  have Z1 : w.heap.size + 1 + 1 ≤ w1.heap.size := by simpa using hb1.size
  go_wp2_with fail
  rw [cat_list]
  refine (Parse_eq HQ.out _ (by simp; omega) t1').mono ?_
  rintro e w2 ⟨rfl, hb2⟩
  have t2 := t1'.below hb2
  have k2 := keep2 (by simpa using hb2)
  obtain ⟨a0, a1, _, _⟩ := k2
  have Z2 : w1.heap.size + 1 ≤ w2.heap.size := by simpa using hb2.size
  have z2 : w1.heap.size < w2.heap.size := by omega
  have c2 : Below w2.heap.size w2 (w2.alloc (.cells #[.int .i64 (r : Int), .string ⟨nm.toArray⟩] 24)) := (Below.refl _ w2).alloc (Nat.le_refl _) _
  have t2' := t2.below c2
  have BB2 : Below w.heap.size w (w2.alloc (.cells #[.int .i64 (r : Int), .string ⟨nm.toArray⟩] 24)) := (((B0.trans (hb1.mono (by simp; omega))).trans (c1.mono (by omega))).trans (hb2.mono (by simp; omega))).trans (c2.mono (by omega))
  by_cases he : er = 0
  · have hrk := HR.out he
    subst he
    have hd : ((r : Int) == 5) = true := by rw [hrk]; rfl
    clear hrk
    go_wp2_with fail
    refine (known_any _ t2').mono ?_
    rintro e w4 ⟨rfl, hb4⟩
    go_wp2
    go_ret
    exact ⟨rfl, BB2.trans (hb4.mono (by simp; omega))⟩
  · have hd : ((er : Int) != 0) = true := by rw [bne_iff_ne]; omega
    clear he
    go_wp2_with fail
    refine (known_any _ t2').mono ?_
    rintro e w4 ⟨rfl, hb4⟩
    go_wp2
    go_ret
    exact ⟨rfl, BB2.trans (hb4.mono (by simp; omega))⟩

set_option maxRecDepth 100000 in
set_option maxHeartbeats 1000000 in
theorem spaces_5 (s : ByteArray) (n : Int) (w : World) (hs : s.size ≤ 300) (ht : Tb w) (hn : n % 8 = 5) :
    Calls Tryd.prog 7 #[.string s, .int .i64 n] w fun e w' => e = .returned (.bool true) ∧ Below w.heap.size w w' := by
  have hand : bits .and .i64 n 7 = 5 := by rw [i64_and7, hn]
  obtain ⟨r, nm, er, hp, hq, hr⟩ := two0 s.data.toList
  have hsl : s.data.toList.length = s.size := rfl
  have HP := Lib.hid hp; have HQ := Lib.hid hq; have HR := Lib.hid hr; clear hp hq hr hn
  have s1 : 5 + s.size ≤ 9223372036854775807 := by omega
  have s2 : 7 + s.size ≤ 9223372036854775807 := by omega
  have hbig : decide (300 < (s.size : Int)) = false := by simp; omega
  have B0 : Below w.heap.size w ((w.alloc (.cells #[.string ⟨#[84, 65, 76, 75, 58]⟩, .string ⟨#[117, 115, 101, 114, 58]⟩, .string ⟨#[84, 101, 77, 112, 108, 97, 116, 101, 58]⟩, .string ⟨#[99, 65, 116, 101, 103, 111, 114, 121, 58]⟩, .string ⟨#[112, 114, 111, 106, 101, 99, 116, 58]⟩] 9)).alloc (.cells #[.string ⟨#[116, 97, 108, 107, 32, 58, 32]⟩, .string ⟨#[32, 85, 115, 101, 114, 32, 58]⟩, .string ⟨#[116, 101, 109, 112, 108, 97, 116, 101, 58, 32]⟩, .string ⟨#[67, 97, 116, 101, 103, 111, 114, 121, 32, 32, 58, 32, 32]⟩, .string ⟨#[95, 112, 114, 111, 106, 101, 99, 116, 95, 58, 95]⟩] 9)) := ((Below.refl _ w).alloc (Nat.le_refl _) _).alloc (by simp) _
  have t0 := ht.below B0
  go_enter Tryd.func7, Tryd.ntmps7
  go_wp2_with fail
  rw [cat_list]
  refine (Parse_eq HP.out _ (by simp; omega) t0).mono ?_
  rintro e w1 ⟨rfl, hb1⟩
  have t1 := t0.below hb1
  have c1 : Below w1.heap.size w1 (w1.alloc (.cells #[.int .i64 (r : Int), .string ⟨nm.toArray⟩] 24)) := (Below.refl _ w1).alloc (Nat.le_refl _) _
  have t1' := t1.below c1
  have Z1 : w.heap.size + 1 + 1 ≤ w1.heap.size := by simpa using hb1.size
  go_wp2_with fail
  rw [cat_list]
  refine (Parse_eq HQ.out _ (by simp; omega) t1').mono ?_
  rintro e w2 ⟨rfl, hb2⟩
  have t2 := t1'.below hb2
  have k2 := keep2 (by simpa using hb2)
  obtain ⟨a0, a1, _, _⟩ := k2
  have Z2 : w1.heap.size + 1 ≤ w2.heap.size := by simpa using hb2.size
  have z2 : w1.heap.size < w2.heap.size := by omega
  have c2 : Below w2.heap.size w2 (w2.alloc (.cells #[.int .i64 (r : Int), .string ⟨nm.toArray⟩] 24)) := (Below.refl _ w2).alloc (Nat.le_refl _) _
  have t2' := t2.below c2
  have BB2 : Below w.heap.size w (w2.alloc (.cells #[.int .i64 (r : Int), .string ⟨nm.toArray⟩] 24)) := (((B0.trans (hb1.mono (by simp; omega))).trans (c1.mono (by omega))).trans (hb2.mono (by simp; omega))).trans (c2.mono (by omega))
  by_cases he : er = 0
  · have hrk := HR.out he
    subst he
    have hd : ((r : Int) == 1) = true := by rw [hrk]; rfl
    clear hrk
    go_wp2_with fail
    refine (known_any _ t2').mono ?_
    rintro e w4 ⟨rfl, hb4⟩
    go_wp2
    go_ret
    exact ⟨rfl, BB2.trans (hb4.mono (by simp; omega))⟩
  · have hd : ((er : Int) != 0) = true := by rw [bne_iff_ne]; omega
    clear he
    go_wp2_with fail
    refine (known_any _ t2').mono ?_
    rintro e w4 ⟨rfl, hb4⟩
    go_wp2
    go_ret
    exact ⟨rfl, BB2.trans (hb4.mono (by simp; omega))⟩

set_option maxRecDepth 100000 in
set_option maxHeartbeats 1000000 in
theorem spaces_6 (s : ByteArray) (n : Int) (w : World) (hs : s.size ≤ 300) (ht : Tb w) (hn : n % 8 = 6) :
    Calls Tryd.prog 7 #[.string s, .int .i64 n] w fun e w' => e = .returned (.bool true) ∧ Below w.heap.size w w' := by
  have hand : bits .and .i64 n 7 = 6 := by rw [i64_and7, hn]
  obtain ⟨r, nm, er, hp, hq, hr⟩ := two1 s.data.toList
  have hsl : s.data.toList.length = s.size := rfl
  have HP := Lib.hid hp; have HQ := Lib.hid hq; have HR := Lib.hid hr; clear hp hq hr hn
  have s1 : 5 + s.size ≤ 9223372036854775807 := by omega
  have s2 : 7 + s.size ≤ 9223372036854775807 := by omega
  have hbig : decide (300 < (s.size : Int)) = false := by simp; omega
  have B0 : Below w.heap.size w ((w.alloc (.cells #[.string ⟨#[84, 65, 76, 75, 58]⟩, .string ⟨#[117, 115, 101, 114, 58]⟩, .string ⟨#[84, 101, 77, 112, 108, 97, 116, 101, 58]⟩, .string ⟨#[99, 65, 116, 101, 103, 111, 114, 121, 58]⟩, .string ⟨#[112, 114, 111, 106, 101, 99, 116, 58]⟩] 9)).alloc (.cells #[.string ⟨#[116, 97, 108, 107, 32, 58, 32]⟩, .string ⟨#[32, 85, 115, 101, 114, 32, 58]⟩, .string ⟨#[116, 101, 109, 112, 108, 97, 116, 101, 58, 32]⟩, .string ⟨#[67, 97, 116, 101, 103, 111, 114, 121, 32, 32, 58, 32, 32]⟩, .string ⟨#[95, 112, 114, 111, 106, 101, 99, 116, 95, 58, 95]⟩] 9)) := ((Below.refl _ w).alloc (Nat.le_refl _) _).alloc (by simp) _
  have t0 := ht.below B0
  go_enter Tryd.func7, Tryd.ntmps7
  go_wp2_with fail
  rw [cat_list]
  refine (Parse_eq HP.out _ (by simp; omega) t0).mono ?_
  rintro e w1 ⟨rfl, hb1⟩
  have t1 := t0.below hb1
  have c1 : Below w1.heap.size w1 (w1.alloc (.cells #[.int .i64 (r : Int), .string ⟨nm.toArray⟩] 24)) := (Below.refl _ w1).alloc (Nat.le_refl _) _
  have t1' := t1.below c1
  have Z1 : w.heap.size + 1 + 1 ≤ w1.heap.size := by simpa using hb1.size
  go_wp2_with fail
  rw [cat_list]
  refine (Parse_eq HQ.out _ (by simp; omega) t1').mono ?_
  rintro e w2 ⟨rfl, hb2⟩
  have t2 := t1'.below hb2
  have k2 := keep2 (by simpa using hb2)
  obtain ⟨a0, a1, _, _⟩ := k2
  have Z2 : w1.heap.size + 1 ≤ w2.heap.size := by simpa using hb2.size
  have z2 : w1.heap.size < w2.heap.size := by omega
  have c2 : Below w2.heap.size w2 (w2.alloc (.cells #[.int .i64 (r : Int), .string ⟨nm.toArray⟩] 24)) := (Below.refl _ w2).alloc (Nat.le_refl _) _
  have t2' := t2.below c2
  have BB2 : Below w.heap.size w (w2.alloc (.cells #[.int .i64 (r : Int), .string ⟨nm.toArray⟩] 24)) := (((B0.trans (hb1.mono (by simp; omega))).trans (c1.mono (by omega))).trans (hb2.mono (by simp; omega))).trans (c2.mono (by omega))
  by_cases he : er = 0
  · have hrk := HR.out he
    subst he
    have hd : ((r : Int) == 2) = true := by rw [hrk]; rfl
    clear hrk
    go_wp2_with fail
    refine (known_any _ t2').mono ?_
    rintro e w4 ⟨rfl, hb4⟩
    go_wp2
    go_ret
    exact ⟨rfl, BB2.trans (hb4.mono (by simp; omega))⟩
  · have hd : ((er : Int) != 0) = true := by rw [bne_iff_ne]; omega
    clear he
    go_wp2_with fail
    refine (known_any _ t2').mono ?_
    rintro e w4 ⟨rfl, hb4⟩
    go_wp2
    go_ret
    exact ⟨rfl, BB2.trans (hb4.mono (by simp; omega))⟩

set_option maxRecDepth 100000 in
set_option maxHeartbeats 1000000 in
theorem spaces_7 (s : ByteArray) (n : Int) (w : World) (hs : s.size ≤ 300) (ht : Tb w) (hn : n % 8 = 7) :
    Calls Tryd.prog 7 #[.string s, .int .i64 n] w fun e w' => e = .returned (.bool true) ∧ Below w.heap.size w w' := by
  have hand : bits .and .i64 n 7 = 7 := by rw [i64_and7, hn]
  obtain ⟨r, nm, er, hp, hq, hr⟩ := two2 s.data.toList
  have hsl : s.data.toList.length = s.size := rfl
  have HP := Lib.hid hp; have HQ := Lib.hid hq; have HR := Lib.hid hr; clear hp hq hr hn
  have s1 : 9 + s.size ≤ 9223372036854775807 := by omega
  have s2 : 10 + s.size ≤ 9223372036854775807 := by omega
  have hbig : decide (300 < (s.size : Int)) = false := by simp; omega
  have B0 : Below w.heap.size w ((w.alloc (.cells #[.string ⟨#[84, 65, 76, 75, 58]⟩, .string ⟨#[117, 115, 101, 114, 58]⟩, .string ⟨#[84, 101, 77, 112, 108, 97, 116, 101, 58]⟩, .string ⟨#[99, 65, 116, 101, 103, 111, 114, 121, 58]⟩, .string ⟨#[112, 114, 111, 106, 101, 99, 116, 58]⟩] 9)).alloc (.cells #[.string ⟨#[116, 97, 108, 107, 32, 58, 32]⟩, .string ⟨#[32, 85, 115, 101, 114, 32, 58]⟩, .string ⟨#[116, 101, 109, 112, 108, 97, 116, 101, 58, 32]⟩, .string ⟨#[67, 97, 116, 101, 103, 111, 114, 121, 32, 32, 58, 32, 32]⟩, .string ⟨#[95, 112, 114, 111, 106, 101, 99, 116, 95, 58, 95]⟩] 9)) := ((Below.refl _ w).alloc (Nat.le_refl _) _).alloc (by simp) _
  have t0 := ht.below B0
  go_enter Tryd.func7, Tryd.ntmps7
  go_wp2_with fail
  rw [cat_list]
  refine (Parse_eq HP.out _ (by simp; omega) t0).mono ?_
  rintro e w1 ⟨rfl, hb1⟩
  have t1 := t0.below hb1
  have c1 : Below w1.heap.size w1 (w1.alloc (.cells #[.int .i64 (r : Int), .string ⟨nm.toArray⟩] 24)) := (Below.refl _ w1).alloc (Nat.le_refl _) _
  have t1' := t1.below c1
  have Z1 : w.heap.size + 1 + 1 ≤ w1.heap.size := by simpa using hb1.size
  go_wp2_with fail
  rw [cat_list]
  refine (Parse_eq HQ.out _ (by simp; omega) t1').mono ?_
  rintro e w2 ⟨rfl, hb2⟩
  have t2 := t1'.below hb2
  have k2 := keep2 (by simpa using hb2)
  obtain ⟨a0, a1, _, _⟩ := k2
  have Z2 : w1.heap.size + 1 ≤ w2.heap.size := by simpa using hb2.size
  have z2 : w1.heap.size < w2.heap.size := by omega
  have c2 : Below w2.heap.size w2 (w2.alloc (.cells #[.int .i64 (r : Int), .string ⟨nm.toArray⟩] 24)) := (Below.refl _ w2).alloc (Nat.le_refl _) _
  have t2' := t2.below c2
  have BB2 : Below w.heap.size w (w2.alloc (.cells #[.int .i64 (r : Int), .string ⟨nm.toArray⟩] 24)) := (((B0.trans (hb1.mono (by simp; omega))).trans (c1.mono (by omega))).trans (hb2.mono (by simp; omega))).trans (c2.mono (by omega))
  by_cases he : er = 0
  · have hrk := HR.out he
    subst he
    have hd : ((r : Int) == 3) = true := by rw [hrk]; rfl
    clear hrk
    go_wp2_with fail
    refine (known_any _ t2').mono ?_
    rintro e w4 ⟨rfl, hb4⟩
    go_wp2
    go_ret
    exact ⟨rfl, BB2.trans (hb4.mono (by simp; omega))⟩
  · have hd : ((er : Int) != 0) = true := by rw [bne_iff_ne]; omega
    clear he
    go_wp2_with fail
    refine (known_any _ t2').mono ?_
    rintro e w4 ⟨rfl, hb4⟩
    go_wp2
    go_ret
    exact ⟨rfl, BB2.trans (hb4.mono (by simp; omega))⟩

theorem spaces_any (s : ByteArray) (n : Int) (w : World) (hs : s.size ≤ maxLen) (ht : Tb w) :
    Calls Tryd.prog 7 #[.string s, .int .i64 n] w fun e w' => e = .returned (.bool true) ∧ Below w.heap.size w w' := by
  unfold maxLen at hs
  by_cases hbig : 300 < s.size
  · go_enter Tryd.func7, Tryd.ntmps7
    go_wp2_with fail
    refine (known_any _ ht).mono ?_
    rintro e w1 ⟨rfl, hb1⟩
    go_wp2
    go_ret
    exact ⟨rfl, hb1⟩
  have hs' : s.size ≤ 300 := by omega
  have hm : n % 8 = 0 ∨ n % 8 = 1 ∨ n % 8 = 2 ∨ n % 8 = 3 ∨ n % 8 = 4 ∨ n % 8 = 5 ∨ n % 8 = 6 ∨ n % 8 = 7 := by omega
  rcases hm with h | h | h | h | h | h | h | h
  · exact spaces_0 s n w hs' ht h
  · exact spaces_1 s n w hs' ht h
  · exact spaces_2 s n w hs' ht h
  · exact spaces_3 s n w hs' ht h
  · exact spaces_4 s n w hs' ht h
  · exact spaces_5 s n w hs' ht h
  · exact spaces_6 s n w hs' ht h
  · exact spaces_7 s n w hs' ht h
end Go.Proofs.YtjnnbmdacicfcaaDoor.Ti
