/-
  The contracts of run and next of the reference of chapter 8.
  The contract of next of the reference of chapter 8.
  The contract of Tokens of the reference of chapter 8.
-/
import Derived.Test.YtfocokjihbenmaaGreatDoorFoRx
import Derived.Test.YtfocokjihbenmaaGreatDoorFoTk
namespace Go.Proofs.YtfocokjihbenmaaGreatDoor.Fo
open Go.RowKit Go.Proofs.YtfocokjihbenmaaGreatDoor.Nu
set_option linter.unusedVariables false
set_option linter.unusedSimpArgs false

/-- The bytes of a class that follow one another from index i on. -/
def runP (p : UInt8 → Bool) (l : List UInt8) (i : Nat) : Nat := i + ((l.drop i).takeWhile p).length
def inR (lo hi : Nat) (c : UInt8) : Bool := decide (lo ≤ c.toNat ∧ c.toNat ≤ hi)
theorem runP_yes {p : UInt8 → Bool} {l : List UInt8} {i : Nat} {x : UInt8} (hx : l[i]? = some x) (h : p x = true) : runP p l (i + 1) = runP p l i := by
  unfold runP
  obtain ⟨h1, h2⟩ := List.getElem?_eq_some_iff.1 hx
  rw [List.drop_eq_getElem_cons h1, h2, List.takeWhile_cons, if_pos h, List.length_cons]
  omega
theorem runP_no {p : UInt8 → Bool} {l : List UInt8} {i : Nat} {x : UInt8} (hx : l[i]? = some x) (h : p x = false) : runP p l i = i := by
  unfold runP
  obtain ⟨h1, h2⟩ := List.getElem?_eq_some_iff.1 hx
  rw [List.drop_eq_getElem_cons h1, h2, List.takeWhile_cons, if_neg (by rw [h]; decide)]
  simp
theorem runP_end {p : UInt8 → Bool} {l : List UInt8} {i : Nat} (h : l.length ≤ i) : runP p l i = i := by
  unfold runP; rw [List.drop_eq_nil_of_le h]; simp
set_option maxRecDepth 100000 in
set_option maxHeartbeats 2000000 in
theorem rrun_any (s : ByteArray) (i lo hi : Nat) (w : World) (hs : s.size ≤ 1000) (hi2 : i ≤ s.size) (hlo : lo ≤ 255) (hhi : hi ≤ 255) :
    Calls Tryz.prog 105 #[.string s, .int .i64 (i : Int), .int .u8 (lo : Int), .int .u8 (hi : Int)] w fun e w' => e = .returned (.int .i64 (runP (inR lo hi) s.data.toList i : Int)) ∧ w' = w := by
  have hsz : s.data.toList.length = s.size := rfl
  have HZ := Lib.hid hsz; clear hsz
  obtain ⟨F, hF⟩ : ∃ F, runP (inR lo hi) s.data.toList i = F := ⟨_, rfl⟩
  rw [hF]
  have HF := Lib.hid hF; clear hF
  go_enter Tryz.func105, Tryz.ntmps105
  go_wp2_with fail
  go_loopw [1] (fun iv wr => ∃ k : Nat, iv = .int .i64 k ∧ k ≤ s.size ∧ Hid (runP (inR lo hi) s.data.toList k = F) ∧ Hid (wr = w)) (fun iv _ => s.size - (intOf iv).toNat)
  case atStart => exact ⟨i, rfl, hi2, HF, Lib.hid rfl⟩
  case round =>
    obtain ⟨k, rfl, hk, hr, hw⟩ := hrel
    have hw' := hw.out
    subst hw'
    by_cases hlt : k < s.size
    · have hd : decide ((k : Int) < (s.size : Int)) = true := by rw [decide_eq_true_iff]; omega
      have hkI : (k : Int) < (s.size : Int) := by omega
      have hc : s.data.toList[k]? = some (s[k]) := by
        rw [List.getElem?_eq_getElem (by rw [HZ.out]; exact hlt)]; rfl
      have HC := Lib.hid hc; clear hc
      obtain ⟨ch, hch⟩ : ∃ ch, s[k] = ch := ⟨_, rfl⟩
      rw [hch] at HC
      have hget : ∀ h, s[k]'h = ch := fun _ => hch
      clear hch
      by_cases h1 : lo ≤ ch.toNat
      · have d1 : decide ((ch.toNat : Int) ≥ (lo : Int)) = true := by rw [decide_eq_true_iff]; omega
        have e1 : (lo : Int) ≤ (ch.toNat : Int) := by omega
        by_cases h2 : ch.toNat ≤ hi
        · have d2 : decide ((ch.toNat : Int) ≤ (hi : Int)) = true := by rw [decide_eq_true_iff]; omega
          have e2 : (ch.toNat : Int) ≤ (hi : Int) := by omega
          have HR := Lib.hid ((runP_yes HC.out (show inR lo hi ch = true by unfold inR; rw [decide_eq_true_iff]; omega)).trans hr.out)
          clear hr
          go_wp2_with fail
          go_roundw
          case rel => exact ⟨k + 1, by simp, by omega, HR, Lib.hid (by first | rfl | trivial)⟩
          case measure => simp [intOf]; omega
        · have d2 : decide ((ch.toNat : Int) ≤ (hi : Int)) = false := by rw [decide_eq_false_iff_not]; omega
          have e2 : ¬ (ch.toNat : Int) ≤ (hi : Int) := by omega
          have HR := Lib.hid ((runP_no HC.out (show inR lo hi ch = false by unfold inR; rw [decide_eq_false_iff_not]; omega)).symm.trans hr.out)
          clear hr
          go_wp2_with fail
          go_ret
          exact ⟨by rw [← HR.out]; rfl, by first | rfl | trivial⟩
      · have d1 : decide ((ch.toNat : Int) ≥ (lo : Int)) = false := by rw [decide_eq_false_iff_not]; omega
        have e1 : ¬ (lo : Int) ≤ (ch.toNat : Int) := by omega
        have HR := Lib.hid ((runP_no HC.out (show inR lo hi ch = false by unfold inR; rw [decide_eq_false_iff_not]; omega)).symm.trans hr.out)
        clear hr
        go_wp2_with fail
        go_ret
        exact ⟨by rw [← HR.out]; rfl, by first | rfl | trivial⟩
    · have ek : k = s.size := by omega
      subst ek
      have hd : decide ((s.size : Int) < (s.size : Int)) = false := by simp
      have HR := Lib.hid ((runP_end (p := inR lo hi) (l := s.data.toList) (by rw [HZ.out]; exact Nat.le_refl _)).symm.trans hr.out)
      clear hr hlt
      go_wp2_with fail
      go_ret
      exact ⟨by rw [← HR.out]; rfl, by first | rfl | trivial⟩
end Go.Proofs.YtfocokjihbenmaaGreatDoor.Fo

namespace Go.Proofs.YtfocokjihbenmaaGreatDoor.Fo
open Go.RowKit Go.Proofs.YtfocokjihbenmaaGreatDoor.Nu
set_option linter.unusedVariables false
set_option linter.unusedSimpArgs false

/-- Where the token at index i ends; 0 if there is none. -/
def nx (l : List UInt8) (i : Nat) : Nat := if tokLen l = 0 then 0 else i + tokLen l
theorem nx0 {l : List UInt8} {i : Nat} (h : tokLen l = 0) : nx l i = 0 := by unfold nx; rw [if_pos h]
theorem nxp {l : List UInt8} {i m : Nat} (h : tokLen l = m) (hm : 0 < m) : nx l i = i + m := by unfold nx; rw [h, if_neg (by omega)]
theorem tokLen_c (c : UInt8) (l : List UInt8) : tokLen (c :: l) = if isD c then numLen (c :: l) else if isL c then wordLen (c :: l) else signLen (c :: l) := rfl
set_option maxRecDepth 100000 in
set_option maxHeartbeats 4000000 in
theorem next_num (s : ByteArray) (i : Nat) (w : World) (hs : s.size ≤ 1000) (hi : i < s.size) (c : UInt8) (hc : s.data.toList[i]? = some c) (hD : isD c = true) :
    Calls Tryz.prog 74 #[.string s, .int .i64 (i : Int)] w fun e w' => e = .returned (.int .i64 (nx (s.data.toList.drop i) i : Int)) ∧ Below w.heap.size w w' := by
  have hsz : s.data.toList.length = s.size := rfl
  obtain ⟨W, hW⟩ : ∃ W, ((s.data.toList.drop i).takeWhile isD).length = W := ⟨_, rfl⟩
  have hcons : s.data.toList.drop i = c :: s.data.toList.drop (i + 1) := by
    obtain ⟨h1, h2⟩ := List.getElem?_eq_some_iff.1 hc
    rw [List.drop_eq_getElem_cons h1, h2]
  have hW1 : 1 ≤ W := by rw [← hW, hcons, List.takeWhile_cons, if_pos hD]; simp
  have hWl : i + W ≤ s.size := by
    have := takeWhile_le isD (s.data.toList.drop i)
    rw [List.length_drop, hsz, hW] at this; omega
  have HR := Lib.hid (rrun_any s i 48 57 · hs (by omega) (by decide) (by decide))
  have hr : runP (inR 48 57) s.data.toList i = i + W := by unfold runP; rw [← hW]; rfl
  rw [hr] at HR
  have htl : tokLen (s.data.toList.drop i) = numLen (s.data.toList.drop i) := by rw [hcons, tokLen_c, if_pos hD]
  obtain ⟨E, hE⟩ : ∃ E, i + W = E := ⟨_, rfl⟩
  rw [hE] at HR hWl
  have d0 : decide ((E : Int) > (i : Int)) = true := by rw [decide_eq_true_iff]; omega
  have hdd : (s.data.toList.drop i).drop W = s.data.toList.drop E := by rw [List.drop_drop, hE]
  have hnl : numLen (s.data.toList.drop i) = (let p := if (s.data.toList.drop E).head? = some 46 then ((s.data.toList.drop (E + 1)).takeWhile isD).length else 0; if 9 < W ∨ 9 < p then 0 else if p = 0 then W else W + 1 + p) := by
    unfold numLen
    simp only [hW, hdd]
    rw [List.drop_drop, show i + (W + 1) = E + 1 by omega]
  by_cases h9 : 9 < W
  · have HN : Hid (nx (s.data.toList.drop i) i = 0) := Lib.hid (nx0 (htl.trans (by rw [hnl]; simp only [h9, true_or, if_true])))
    have d1 : decide ((E : Int) - (i : Int) > 9) = true := by rw [decide_eq_true_iff]; omega
    clear hnl htl hdd hr hcons hW hsz
    go_enter Tryz.func74, Tryz.ntmps74
    go_wp2_with fail
    refine (HR.out _).mono ?_
    rintro e w1 ⟨rfl, rfl⟩
    go_wp2_with fail
    go_ret
    exact ⟨by rw [HN.out]; rfl, Below.refl _ _⟩
  · have d1 : decide ((E : Int) - (i : Int) > 9) = false := by rw [decide_eq_false_iff_not]; omega
    by_cases hdot : (s.data.toList.drop E).head? = some 46
    · have hElt : E < s.size := by
        rcases Nat.lt_or_ge E s.size with h | h
        · exact h
        · rw [List.drop_eq_nil_of_le (by omega)] at hdot; simp at hdot
      have hget : ∀ h, s[E]'h = 46 := fun h => by
        rw [List.head?_drop, List.getElem?_eq_getElem (by rw [hsz]; exact hElt)] at hdot
        exact Option.some.inj hdot
      have d2 : decide ((E : Int) < (s.size : Int)) = true := by rw [decide_eq_true_iff]; omega
      have e2 : (E : Int) < (s.size : Int) := by omega
      obtain ⟨V, hV⟩ : ∃ V, ((s.data.toList.drop (E + 1)).takeWhile isD).length = V := ⟨_, rfl⟩
      have hVl : E + 1 + V ≤ s.size := by
        have := takeWhile_le isD (s.data.toList.drop (E + 1))
        rw [List.length_drop, hsz, hV] at this; omega
      have HR2 : Hid (∀ w, Calls Tryz.prog 105 #[.string s, .int .i64 ((E : Int) + 1), .int .u8 48, .int .u8 57] w fun e w' => e = .returned (.int .i64 ((E + 1 + V : Nat) : Int)) ∧ w' = w) := Lib.hid fun w => by
        have h := rrun_any s (E + 1) 48 57 w hs (by omega) (by decide) (by decide)
        rw [show runP (inR 48 57) s.data.toList (E + 1) = E + 1 + V by unfold runP; rw [← hV]; rfl] at h
        exact h
      simp only [if_pos hdot, hV] at hnl
      obtain ⟨F, hF⟩ : ∃ F, E + 1 + V = F := ⟨_, rfl⟩
      rw [hF] at HR2 hVl
      by_cases h8 : 9 < V
      · have HN : Hid (nx (s.data.toList.drop i) i = 0) := Lib.hid (nx0 (htl.trans (by rw [hnl, if_pos (Or.inr h8)])))
        have d3 : decide ((F : Int) - (E : Int) - 1 > 9) = true := by rw [decide_eq_true_iff]; omega
        clear hnl htl hdd hr hcons hW hsz hdot hV
        go_enter Tryz.func74, Tryz.ntmps74
        go_wp2_with fail
        refine (HR.out _).mono ?_
        rintro e w1 ⟨rfl, rfl⟩
        go_wp2_with fail
        refine (HR2.out _).mono ?_
        rintro e w1 ⟨rfl, rfl⟩
        go_wp2_with fail
        go_ret
        exact ⟨by rw [HN.out]; rfl, Below.refl _ _⟩
      · have d3 : decide ((F : Int) - (E : Int) - 1 > 9) = false := by rw [decide_eq_false_iff_not]; omega
        by_cases h0 : V = 0
        · have HN : Hid (nx (s.data.toList.drop i) i = E) := Lib.hid ((nxp (htl.trans (by rw [hnl, if_neg (by omega), if_pos h0])) hW1).trans hE)
          have d4 : decide ((F : Int) > (E : Int) + 1) = false := by rw [decide_eq_false_iff_not]; omega
          clear hnl htl hdd hr hcons hW hsz hdot hV
          go_enter Tryz.func74, Tryz.ntmps74
          go_wp2_with fail
          refine (HR.out _).mono ?_
          rintro e w1 ⟨rfl, rfl⟩
          go_wp2_with fail
          refine (HR2.out _).mono ?_
          rintro e w1 ⟨rfl, rfl⟩
          go_wp2_with fail
          go_ret
          exact ⟨by rw [HN.out]; rfl, Below.refl _ _⟩
        · have HN : Hid (nx (s.data.toList.drop i) i = F) := Lib.hid ((nxp (m := W + 1 + V) (htl.trans (by rw [hnl, if_neg (by omega), if_neg h0])) (by omega)).trans (by omega))
          have d4 : decide ((F : Int) > (E : Int) + 1) = true := by rw [decide_eq_true_iff]; omega
          clear hnl htl hdd hr hcons hW hsz hdot hV
          go_enter Tryz.func74, Tryz.ntmps74
          go_wp2_with fail
          refine (HR.out _).mono ?_
          rintro e w1 ⟨rfl, rfl⟩
          go_wp2_with fail
          refine (HR2.out _).mono ?_
          rintro e w1 ⟨rfl, rfl⟩
          go_wp2_with fail
          go_ret
          exact ⟨by rw [HN.out]; rfl, Below.refl _ _⟩
    · simp only [if_neg hdot] at hnl
      have HN : Hid (nx (s.data.toList.drop i) i = E) := Lib.hid ((nxp (m := W) (htl.trans (by rw [hnl, if_neg (by omega)]; rfl)) hW1).trans hE)
      by_cases hElt : E < s.size
      · have d2 : decide ((E : Int) < (s.size : Int)) = true := by rw [decide_eq_true_iff]; omega
        have e2 : (E : Int) < (s.size : Int) := by omega
        obtain ⟨ch, hch⟩ : ∃ ch, s[E] = ch := ⟨_, rfl⟩
        have hget : ∀ h, s[E]'h = ch := fun _ => hch
        have hne : ((ch.toNat : Int) == 46) = false := beq_eq_false_iff_ne.2 fun h => hdot (by
          rw [List.head?_drop, List.getElem?_eq_getElem (by rw [hsz]; exact hElt)]
          have : s[E] = 46 := by rw [hch]; exact UInt8.toNat_inj.1 (by simpa using (by omega : ch.toNat = 46))
          exact congrArg some this)
        clear hnl htl hdd hr hcons hW hsz hdot hch
        go_enter Tryz.func74, Tryz.ntmps74
        go_wp2_with fail
        refine (HR.out _).mono ?_
        rintro e w1 ⟨rfl, rfl⟩
        go_wp2_with fail
        go_ret
        exact ⟨by rw [HN.out]; rfl, Below.refl _ _⟩
      · have d2 : decide ((E : Int) < (s.size : Int)) = false := by rw [decide_eq_false_iff_not]; omega
        clear hnl htl hdd hr hcons hW hsz hdot
        go_enter Tryz.func74, Tryz.ntmps74
        go_wp2_with fail
        refine (HR.out _).mono ?_
        rintro e w1 ⟨rfl, rfl⟩
        go_wp2_with fail
        go_ret
        exact ⟨by rw [HN.out]; rfl, Below.refl _ _⟩
theorem extr (s : ByteArray) (i n : Nat) (h : i + n ≤ s.size) : s.extract i (i + n) = ⟨((s.data.toList.drop i).take n).toArray⟩ := by
  refine bs_list _ _ ?_
  simp [List.extract_eq_take_drop]
/-- has at a row that the call lays last. -/
theorem has_new (w : World) (S : List Tok) (hl : S.length ≤ 100) (x : ByteArray) (t : Tok) (hx : x = ⟨t.toArray⟩) (B : Bool) (hB : decide (t ∈ S) = B) :
    Calls Tryz.prog 106 #[.slice (some ⟨w.heap.size, 0, none⟩) S.length S.length, .string x] (w.alloc (row S 9)) fun e w' => e = .returned (.bool B) ∧ w' = w.alloc (row S 9) := by
  rw [hx, ← hB]
  exact has_any (w.alloc (row S 9)) w.heap.size S t (row_at w S _) hl
theorem has_at (w : World) (g : Nat) (hg : w.heap.size = g) (S : List Tok) (hl : S.length ≤ 100) (x : ByteArray) (t : Tok) (hx : x = ⟨t.toArray⟩) (B : Bool) (hB : decide (t ∈ S) = B) :
    Calls Tryz.prog 106 #[.slice (some ⟨g, 0, none⟩) S.length S.length, .string x] (w.alloc (row S 9)) fun e w' => e = .returned (.bool B) ∧ w' = w.alloc (row S 9) := hg ▸ has_new w S hl x t hx B hB
set_option maxRecDepth 100000 in
set_option maxHeartbeats 4000000 in
theorem next_word (s : ByteArray) (i : Nat) (w : World) (hs : s.size ≤ 1000) (hi : i < s.size) (c : UInt8) (hc : s.data.toList[i]? = some c) (hD : isD c = false) (hL : isL c = true) :
    Calls Tryz.prog 74 #[.string s, .int .i64 (i : Int)] w fun e w' => e = .returned (.int .i64 (nx (s.data.toList.drop i) i : Int)) ∧ Below w.heap.size w w' := by
  have hsz : s.data.toList.length = s.size := rfl
  obtain ⟨W, hW⟩ : ∃ W, ((s.data.toList.drop i).takeWhile isL).length = W := ⟨_, rfl⟩
  have hcons : s.data.toList.drop i = c :: s.data.toList.drop (i + 1) := by
    obtain ⟨h1, h2⟩ := List.getElem?_eq_some_iff.1 hc
    rw [List.drop_eq_getElem_cons h1, h2]
  have hW1 : 1 ≤ W := by rw [← hW, hcons, List.takeWhile_cons, if_pos hL]; simp
  have hWl : i + W ≤ s.size := by
    have := takeWhile_le isL (s.data.toList.drop i)
    rw [List.length_drop, hsz, hW] at this; omega
  have HR0 := Lib.hid (rrun_any s i 48 57 · hs (by omega) (by decide) (by decide))
  rw [show runP (inR 48 57) s.data.toList i = i from runP_no hc (show inR 48 57 c = false from hD)] at HR0
  have HR := Lib.hid (rrun_any s i 97 122 · hs (by omega) (by decide) (by decide))
  rw [show runP (inR 97 122) s.data.toList i = i + W by unfold runP; rw [← hW]; rfl] at HR
  have htl : tokLen (s.data.toList.drop i) = if (s.data.toList.drop i).take W ∈ wordsL then W else 0 := by
    conv => lhs; rw [hcons, tokLen_c, if_neg (by rw [hD]; decide), if_pos hL, ← hcons]
    unfold wordLen
    simp only [hW]
  obtain ⟨B, hB⟩ : ∃ B, decide ((s.data.toList.drop i).take W ∈ wordsL) = B := ⟨_, rfl⟩
  have HX := Lib.hid (has_new w wordsL (by decide) (s.extract i (i + W)) _ (extr s i W hWl) B hB)
  obtain ⟨E, hE⟩ : ∃ E, i + W = E := ⟨_, rfl⟩
  rw [hE] at HR HX hWl
  have d0 : decide ((i : Int) > (i : Int)) = false := by simp
  have d1 : decide ((E : Int) > (i : Int)) = true := by rw [decide_eq_true_iff]; omega
  have hb1 : (i : Int) ≤ (E : Int) := by omega
  have hb2 : (E : Int) ≤ (s.size : Int) := by omega
  have hb3 : i ≤ E := by omega
  rw [show (wordsL : List Tok).length = 6 from rfl] at HX
  unfold row sv at HX
  simp only [wordsL, List.map_cons, List.map_nil] at HX
  cases B with
  | true =>
    have hm := of_decide_eq_true hB
    have HN : Hid (nx (s.data.toList.drop i) i = E) := Lib.hid ((nxp (htl.trans (if_pos hm)) hW1).trans hE)
    clear htl hm hcons hW hsz hB
    go_enter Tryz.func74, Tryz.ntmps74
    go_wp2_with fail
    refine (HR0.out _).mono ?_
    rintro e w1 ⟨rfl, rfl⟩
    go_wp2_with fail
    refine (HR.out _).mono ?_
    rintro e w1 ⟨rfl, rfl⟩
    go_wp2_with fail
    (with_reducible refine HX.out.mono ?_)
    rintro e w1 ⟨rfl, rfl⟩
    go_wp2_with fail
    go_ret
    exact ⟨by rw [HN.out]; rfl, (Below.refl _ _).alloc (Nat.le_refl _) _⟩
  | false =>
    have hm := of_decide_eq_false hB
    have HN : Hid (nx (s.data.toList.drop i) i = 0) := Lib.hid (nx0 (htl.trans (if_neg hm)))
    clear htl hm hcons hW hsz hB
    go_enter Tryz.func74, Tryz.ntmps74
    go_wp2_with fail
    refine (HR0.out _).mono ?_
    rintro e w1 ⟨rfl, rfl⟩
    go_wp2_with fail
    refine (HR.out _).mono ?_
    rintro e w1 ⟨rfl, rfl⟩
    go_wp2_with fail
    (with_reducible refine HX.out.mono ?_)
    rintro e w1 ⟨rfl, rfl⟩
    go_wp2_with fail
    go_ret
    exact ⟨by rw [HN.out]; rfl, (Below.refl _ _).alloc (Nat.le_refl _) _⟩
def onesL : List Tok := [[43], [45], [42], [47], [94], [40], [41], [61], [60], [62]]
theorem onesL_mem (c : UInt8) : [c] ∈ onesL ↔ c ∈ ones := by simp [onesL, ones]
set_option maxRecDepth 100000 in
set_option maxHeartbeats 4000000 in
theorem next_sign (s : ByteArray) (i : Nat) (w : World) (hs : s.size ≤ 1000) (hi : i < s.size) (c : UInt8) (hc : s.data.toList[i]? = some c) (hD : isD c = false) (hL : isL c = false) :
    Calls Tryz.prog 74 #[.string s, .int .i64 (i : Int)] w fun e w' => e = .returned (.int .i64 (nx (s.data.toList.drop i) i : Int)) ∧ Below w.heap.size w w' := by
  have hsz : s.data.toList.length = s.size := rfl
  have hcons : s.data.toList.drop i = c :: s.data.toList.drop (i + 1) := by
    obtain ⟨h1, h2⟩ := List.getElem?_eq_some_iff.1 hc
    rw [List.drop_eq_getElem_cons h1, h2]
  have HR0 := Lib.hid (rrun_any s i 48 57 · hs (by omega) (by decide) (by decide))
  rw [show runP (inR 48 57) s.data.toList i = i from runP_no hc (show inR 48 57 c = false from hD)] at HR0
  have HR := Lib.hid (rrun_any s i 97 122 · hs (by omega) (by decide) (by decide))
  rw [show runP (inR 97 122) s.data.toList i = i from runP_no hc (show inR 97 122 c = false from hL)] at HR
  have htl : tokLen (s.data.toList.drop i) = if (s.data.toList.drop i).take 2 ∈ twos then 2 else if c ∈ ones then 1 else 0 := by
    conv => lhs; rw [hcons, tokLen_c, if_neg (by rw [hD]; decide), if_neg (by rw [hL]; decide), ← hcons]
    unfold signLen
    by_cases h : (s.data.toList.drop i).take 2 ∈ twos
    · rw [if_pos h, if_pos h]
    · rw [if_neg h, if_neg h, hcons]
  have ht1 : (s.data.toList.drop i).take 1 = [c] := by rw [hcons]; rfl
  obtain ⟨B1, hB1⟩ : ∃ B, decide ((s.data.toList.drop i).take 1 ∈ onesL) = B := ⟨_, rfl⟩
  have H1 := Lib.hid (fun w g hg => has_at w g hg onesL (by decide) (s.extract i (i + 1)) _ (extr s i 1 (by omega)) B1 hB1)
  rw [show (onesL : List Tok).length = 10 from rfl] at H1
  rw [ht1] at hB1
  have hB1' : decide (c ∈ ones) = B1 := by rw [← hB1]; exact decide_eq_decide.2 (onesL_mem c).symm
  unfold row sv at H1
  simp only [onesL, List.map_cons, List.map_nil] at H1
  have d0 : decide ((i : Int) > (i : Int)) = false := by simp
  have hb0 : (i : Int) + 1 ≤ (s.size : Int) := by omega
  by_cases h2 : i + 2 ≤ s.size
  · have d2 : decide ((i : Int) + 2 ≤ (s.size : Int)) = true := by rw [decide_eq_true_iff]; omega
    have hb2 : (i : Int) + 2 ≤ (s.size : Int) := by omega
    obtain ⟨B2, hB2⟩ : ∃ B, decide ((s.data.toList.drop i).take 2 ∈ twos) = B := ⟨_, rfl⟩
    have H2 := Lib.hid (has_new w twos (by decide) (s.extract i (i + 2)) _ (extr s i 2 h2) B2 hB2)
    rw [show (twos : List Tok).length = 3 from rfl] at H2
    unfold row sv at H2
    simp only [twos, List.map_cons, List.map_nil] at H2
    cases B2 with
    | true =>
      have HN : Hid (nx (s.data.toList.drop i) i = i + 2) := Lib.hid (nxp (htl.trans (if_pos (of_decide_eq_true hB2))) (by decide))
      clear htl hcons hsz hB2 hB1 hB1' ht1
      go_enter Tryz.func74, Tryz.ntmps74
      go_wp2_with fail
      refine (HR0.out _).mono ?_
      rintro e w1 ⟨rfl, rfl⟩
      go_wp2_with fail
      refine (HR.out _).mono ?_
      rintro e w1 ⟨rfl, rfl⟩
      go_wp2_with fail
      (with_reducible refine H2.out.mono ?_)
      rintro e w1 ⟨rfl, rfl⟩
      go_wp2_with fail
      go_ret
      exact ⟨by rw [HN.out]; rfl, (Below.refl _ _).alloc (Nat.le_refl _) _⟩
    | false =>
      have hn2 := of_decide_eq_false hB2
      cases B1 with
      | true =>
        have HN : Hid (nx (s.data.toList.drop i) i = i + 1) := Lib.hid (nxp (htl.trans (by rw [if_neg hn2, if_pos (of_decide_eq_true hB1')])) (by decide))
        clear htl hcons hsz hB2 hB1 hB1' ht1 hn2
        go_enter Tryz.func74, Tryz.ntmps74
        go_wp2_with fail
        refine (HR0.out _).mono ?_
        rintro e w1 ⟨rfl, rfl⟩
        go_wp2_with fail
        refine (HR.out _).mono ?_
        rintro e w1 ⟨rfl, rfl⟩
        go_wp2_with fail
        (with_reducible refine H2.out.mono ?_)
        rintro e w1 ⟨rfl, rfl⟩
        go_wp2_with fail
        (with_reducible refine (H1.out _ _ (World.size_alloc _ _)).mono ?_)
        rintro e w1 ⟨rfl, rfl⟩
        go_wp2_with fail
        go_ret
        exact ⟨by rw [HN.out]; rfl, ((Below.refl _ _).alloc (Nat.le_refl _) _).alloc (by simp) _⟩
      | false =>
        have HN : Hid (nx (s.data.toList.drop i) i = 0) := Lib.hid (nx0 (htl.trans (by rw [if_neg hn2, if_neg (of_decide_eq_false hB1')])))
        clear htl hcons hsz hB2 hB1 hB1' ht1 hn2
        go_enter Tryz.func74, Tryz.ntmps74
        go_wp2_with fail
        refine (HR0.out _).mono ?_
        rintro e w1 ⟨rfl, rfl⟩
        go_wp2_with fail
        refine (HR.out _).mono ?_
        rintro e w1 ⟨rfl, rfl⟩
        go_wp2_with fail
        (with_reducible refine H2.out.mono ?_)
        rintro e w1 ⟨rfl, rfl⟩
        go_wp2_with fail
        (with_reducible refine (H1.out _ _ (World.size_alloc _ _)).mono ?_)
        rintro e w1 ⟨rfl, rfl⟩
        go_wp2_with fail
        go_ret
        exact ⟨by rw [HN.out]; rfl, ((Below.refl _ _).alloc (Nat.le_refl _) _).alloc (by simp) _⟩
  · have d2 : decide ((i : Int) + 2 ≤ (s.size : Int)) = false := by rw [decide_eq_false_iff_not]; omega
    have hn2 : ¬ (s.data.toList.drop i).take 2 ∈ twos := fun h => by
      have : ∀ t ∈ twos, t.length = 2 := by decide
      have h3 := this _ h
      rw [List.length_take, List.length_drop, hsz] at h3
      omega
    cases B1 with
    | true =>
      have HN : Hid (nx (s.data.toList.drop i) i = i + 1) := Lib.hid (nxp (htl.trans (by rw [if_neg hn2, if_pos (of_decide_eq_true hB1')])) (by decide))
      clear htl hcons hsz hB1 hB1' ht1 hn2
      go_enter Tryz.func74, Tryz.ntmps74
      go_wp2_with fail
      refine (HR0.out _).mono ?_
      rintro e w1 ⟨rfl, rfl⟩
      go_wp2_with fail
      refine (HR.out _).mono ?_
      rintro e w1 ⟨rfl, rfl⟩
      go_wp2_with fail
      (with_reducible refine (H1.out _ _ rfl).mono ?_)
      rintro e w1 ⟨rfl, rfl⟩
      go_wp2_with fail
      go_ret
      exact ⟨by rw [HN.out]; rfl, (Below.refl _ _).alloc (Nat.le_refl _) _⟩
    | false =>
      have HN : Hid (nx (s.data.toList.drop i) i = 0) := Lib.hid (nx0 (htl.trans (by rw [if_neg hn2, if_neg (of_decide_eq_false hB1')])))
      clear htl hcons hsz hB1 hB1' ht1 hn2
      go_enter Tryz.func74, Tryz.ntmps74
      go_wp2_with fail
      refine (HR0.out _).mono ?_
      rintro e w1 ⟨rfl, rfl⟩
      go_wp2_with fail
      refine (HR.out _).mono ?_
      rintro e w1 ⟨rfl, rfl⟩
      go_wp2_with fail
      (with_reducible refine (H1.out _ _ rfl).mono ?_)
      rintro e w1 ⟨rfl, rfl⟩
      go_wp2_with fail
      go_ret
      exact ⟨by rw [HN.out]; rfl, (Below.refl _ _).alloc (Nat.le_refl _) _⟩
theorem next_any (s : ByteArray) (i : Nat) (w : World) (hs : s.size ≤ 1000) (hi : i < s.size) :
    Calls Tryz.prog 74 #[.string s, .int .i64 (i : Int)] w fun e w' => e = .returned (.int .i64 (nx (s.data.toList.drop i) i : Int)) ∧ Below w.heap.size w w' := by
  obtain ⟨c, hc⟩ : ∃ c, s.data.toList[i]? = some c := ⟨_, List.getElem?_eq_getElem (show i < s.data.toList.length from hi)⟩
  cases hD : isD c with
  | true => exact next_num s i w hs hi c hc hD
  | false => cases hL : isL c with
    | true => exact next_word s i w hs hi c hc hD hL
    | false => exact next_sign s i w hs hi c hc hD hL
end Go.Proofs.YtfocokjihbenmaaGreatDoor.Fo

namespace Go.Proofs.YtfocokjihbenmaaGreatDoor.Fo
open Go.RowKit Go.Shelf Go.Proofs.YtfocokjihbenmaaGreatDoor.Nu
set_option linter.unusedVariables false
set_option linter.unusedSimpArgs false

theorem trimB_yes {c : UInt8} {l : List UInt8} (h : c.toNat = 9 ∨ c.toNat = 10 ∨ c.toNat = 32) : trimB (c :: l) = trimB l := by
  have hc : c = 9 ∨ c = 10 ∨ c = 32 := by
    rcases h with h | h | h
    · exact .inl (UInt8.toNat_inj.1 h)
    · exact .inr (.inl (UInt8.toNat_inj.1 h))
    · exact .inr (.inr (UInt8.toNat_inj.1 h))
  unfold trimB Lib.trimLeftS
  rw [List.dropWhile_cons]
  rcases hc with rfl | rfl | rfl <;> rfl
theorem trimB_no {c : UInt8} {l : List UInt8} (h1 : c.toNat ≠ 9) (h2 : c.toNat ≠ 10) (h3 : c.toNat ≠ 32) : trimB (c :: l) = c :: l := by
  have hc : bls.contains c = false := by
    cases hq : bls.contains c
    · rfl
    · have : c = 9 ∨ c = 10 ∨ c = 32 := by simpa [bls] using hq
      rcases this with rfl | rfl | rfl
      · exact absurd rfl h1
      · exact absurd rfl h2
      · exact absurd rfl h3
  unfold trimB Lib.trimLeftS
  rw [List.dropWhile_cons, hc]
  rfl
set_option maxRecDepth 100000 in
set_option maxHeartbeats 4000000 in
theorem Tokens_any (s : ByteArray) (hs : s.size ≤ 400) (w : World) : Calls Tryz.prog 37 #[.string s] w (Sp w s.data.toList) := by
  obtain ⟨i0, hi, hz0, hz1, hz2⟩ := info_parts infoString
  have hbk : ∀ n : Nat, n ≤ 4294967282 → n * 16 ≤ 140737488355328 := fun n h => by omega
  have HBK := Lib.hid hbk; clear hbk
  have hsz : s.data.toList.length = s.size := rfl
  have HZ := Lib.hid hsz; clear hsz
  go_enter Tryz.func37, Tryz.ntmps37
  go_wp2_with fail
  go_loopw [4, 5, 6] (fun v iv _ wr => ∃ (k : Nat) (acc : List Tok), iv = .int .i64 k ∧ k ≤ s.size ∧ Hid (acc.length ≤ k) ∧ Hid (wr.ownsRow w.heap.size 9 1 v acc.length (strs acc)) ∧ Hid (Below w.heap.size w wr) ∧ Hid (splitL s.data.toList = (toks (trimB (s.data.toList.drop k))).map (acc ++ ·)))
    (fun _ iv _ _ => s.size - (intOf iv).toNat)
  case atStart => exact ⟨0, [], rfl, Nat.zero_le _, Lib.hid (by simp), Lib.hid (World.ownsRow_nil _ _ _ _), Lib.hid (Below.refl _ _), Lib.hid (by simp [splitL])⟩
  case round =>
    obtain ⟨k, acc, rfl, hk, hal, hown, hbel, heq⟩ := hrel
    obtain ⟨VA, VC, hv⟩ := own_form hown.out
    subst hv
    by_cases hlt : k < s.size
    · have hd : decide ((k : Int) < (s.size : Int)) = true := by rw [decide_eq_true_iff]; omega
      have hkI : (k : Int) < (s.size : Int) := by omega
      obtain ⟨c, hc⟩ : ∃ c, s[k] = c := ⟨_, rfl⟩
      have hget : ∀ h, s[k]'h = c := fun _ => hc
      have hcons : s.data.toList.drop k = c :: s.data.toList.drop (k + 1) := by
        rw [List.drop_eq_getElem_cons (by rw [HZ.out]; exact hlt)]
        exact congrArg (· :: _) hc
      clear hc
      by_cases hbl : c.toNat = 9 ∨ c.toNat = 10 ∨ c.toNat = 32
      · have HF : Hid (splitL s.data.toList = (toks (trimB (s.data.toList.drop (k + 1)))).map (acc ++ ·)) := Lib.hid (by rw [heq.out, hcons, trimB_yes hbl])
        have HAL : Hid (acc.length ≤ k + 1) := Lib.hid (by have := hal.out; omega)
        clear heq hcons
        by_cases b1 : c.toNat = 9
        · have e1 : ((c.toNat : Int) == 9) = true := by simpa using (by omega : (c.toNat : Int) = 9)
          clear hbl b1
          go_wp2_with fail
          go_roundw
          case rel => exact ⟨k + 1, acc, by simp, by omega, HAL, hown, hbel, HF⟩
          case measure => simp [intOf]; omega
        · have e1 : ((c.toNat : Int) == 9) = false := beq_eq_false_iff_ne.2 (by omega)
          by_cases b2 : c.toNat = 10
          · have e2 : ((c.toNat : Int) == 10) = true := by simpa using (by omega : (c.toNat : Int) = 10)
            clear hbl b1 b2
            go_wp2_with fail
            go_roundw
            case rel => exact ⟨k + 1, acc, by simp, by omega, HAL, hown, hbel, HF⟩
            case measure => simp [intOf]; omega
          · have e2 : ((c.toNat : Int) == 10) = false := beq_eq_false_iff_ne.2 (by omega)
            have e3 : ((c.toNat : Int) == 32) = true := by simpa using (by omega : (c.toNat : Int) = 32)
            clear hbl b1 b2
            go_wp2_with fail
            go_roundw
            case rel => exact ⟨k + 1, acc, by simp, by omega, HAL, hown, hbel, HF⟩
            case measure => simp [intOf]; omega
      · have e1 : ((c.toNat : Int) == 9) = false := beq_eq_false_iff_ne.2 (by omega)
        have e2 : ((c.toNat : Int) == 10) = false := beq_eq_false_iff_ne.2 (by omega)
        have e3 : ((c.toNat : Int) == 32) = false := beq_eq_false_iff_ne.2 (by omega)
        have htr : trimB (s.data.toList.drop k) = s.data.toList.drop k := by rw [hcons]; exact trimB_no (by omega) (by omega) (by omega)
        have hne : s.data.toList.drop k ≠ [] := by rw [hcons]; simp
        have HNx := Lib.hid (next_any s k wr (by omega) hlt)
        have hle := (tokLen_le (s.data.toList.drop k)).1
        rw [List.length_drop, HZ.out] at hle
        rw [htr] at heq
        by_cases hn0 : tokLen (s.data.toList.drop k) = 0
        · rw [nx0 hn0] at HNx
          have HF : Hid (splitL s.data.toList = none) := Lib.hid (by rw [heq.out, toks_none hne hn0]; rfl)
          clear hne hn0 heq htr hcons hbl hle
          go_wp2_with fail
          refine HNx.out.mono ?_
          rintro e w2 ⟨rfl, hb2⟩
          have HB2 := Lib.hid (hbel.out.trans (hb2.mono hbel.out.size))
          clear hb2
          go_wp2_with fail
          go_ret2
          unfold Sp
          rw [HF.out]
          exact ⟨HB2.out, rfl⟩
        · rw [nxp rfl (Nat.pos_of_ne_zero hn0)] at HNx
          have HF : Hid (splitL s.data.toList = (toks (trimB (s.data.toList.drop (k + tokLen (s.data.toList.drop k))))).map ((acc ++ [(s.data.toList.drop k).take (tokLen (s.data.toList.drop k))]) ++ ·)) := Lib.hid (by
            rw [heq.out, toks_cons hne hn0, List.drop_drop]
            simp [Option.map_map, Function.comp_def])
          have HX1 : Hid (s.extract k (k + tokLen (s.data.toList.drop k)) = bs ((s.data.toList.drop k).take (tokLen (s.data.toList.drop k)))) := Lib.hid (extr s k _ (by omega))
          generalize (s.data.toList.drop k).take (tokLen (s.data.toList.drop k)) = tk at HF HX1
          have hn1 : 1 ≤ tokLen (s.data.toList.drop k) := Nat.pos_of_ne_zero hn0
          generalize tokLen (s.data.toList.drop k) = n at HF HX1 HNx hle hn1
          obtain ⟨E, hE⟩ : ∃ E, k + n = E := ⟨_, rfl⟩
          rw [hE] at HF HX1 HNx
          have hE1 : k < E := by omega
          have hE2 : E ≤ s.size := by omega
          have hE3 : (k : Int) ≤ (E : Int) := by omega
          have hE4 : (E : Int) ≤ (s.size : Int) := by omega
          have hE5 : k ≤ E := by omega
          have hE0 : ((E : Int) == 0) = false := beq_eq_false_iff_ne.2 (by omega)
          have hacc : acc.length ≤ 400 := by have := hal.out; omega
          have HAL : Hid ((acc ++ [tk]).length ≤ E) := Lib.hid (by have := hal.out; simp; omega)
          clear hne hn0 heq htr hcons hbl hle hE
          go_wp2_with fail
          refine HNx.out.mono ?_
          rintro e w2 ⟨rfl, hb2⟩
          have hown2 := own_below hown.out hb2
          have HO2 := Lib.hid hown2
          have HB2 := Lib.hid (hbel.out.trans (hb2.mono hbel.out.size))
          have hbs := HB2.out.size
          clear hb2 hown2
          go_wp2_with (at_builtin; refine wpList_append_own _ rfl _ _ 35 rfl w.heap.size 9 i0 (.string ⟨#[]⟩) 1 16 Tryz.underlying35 hi hz0 hz1 hz2 rfl (by decide) _ _ _ rfl (HO2.out.alloc _) ⟨w2.heap.size, 0, none⟩ 1 1 [.string (s.extract k E)] rfl rfl (one_new _ _ _) (by simp [Value.oneCell']) (by unfold maxLen; omega) (HBK.out _ (by omega)) (by simp; omega) ?_)
          intro v' w3 hown' hgrow _
          have hb3 : Below w.heap.size w w3 := (HB2.out.alloc (by omega) _).grown hgrow (by simp; omega) (fun k e => (HO2.out.lt k e).1)
          have HO : Hid (w3.ownsRow w.heap.size 9 1 v' (acc ++ [tk]).length (strs (acc ++ [tk]))) := Lib.hid (by
            have h := hown'
            rw [HX1.out] at h
            simpa [strs, sv, bs] using h)
          have HB3 := Lib.hid hb3
          obtain ⟨VA2, VC2, hv2⟩ := own_form hown'
          subst hv2
          clear hown' hgrow hb3
          go_wp2_with fail
          go_roundw
          case rel => exact ⟨E, acc ++ [tk], rfl, hE2, HAL, HO, HB3, HF⟩
          case measure => simp [intOf]; omega
    · have ek : k = s.size := by omega
      subst ek
      have hd : decide ((s.size : Int) < (s.size : Int)) = false := by simp
      have HF : Hid (splitL s.data.toList = some acc) := Lib.hid (by rw [heq.out, List.drop_eq_nil_of_le (by rw [HZ.out]; exact Nat.le_refl _)]; show (toks []).map _ = _; simp [toks_nil])
      clear heq hlt
      go_wp2_with fail
      go_ret2
      unfold Sp
      rw [HF.out]
      exact ⟨hbel.out, _, rfl, hown.out⟩
end Go.Proofs.YtfocokjihbenmaaGreatDoor.Fo
