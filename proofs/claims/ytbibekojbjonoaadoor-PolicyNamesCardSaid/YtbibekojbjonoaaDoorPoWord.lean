/-
  The contracts of cutWord and words of package policy.
-/
import Derived.Test.YtbibekojbjonoaaDoorPoLeaf
import Derived.Test.YtbibekojbjonoaaDoorPoAny
import Derived.Test.YtbibekojbjonoaaDoorPoOwn
import Derived.Deep.RegionWith
namespace Go.Proofs.YtbibekojbjonoaaDoor.Po
open Go.RowKit Go.Shelf
set_option linter.unusedVariables false
set_option linter.unusedSimpArgs false

theorem any_words : ∀ t : By, (Lib.indexAny t bl = -1 ∧ t.takeWhile nsp = t ∧ t.dropWhile nsp = []) ∨ ∃ k : Nat, k < t.length ∧ Lib.indexAny t bl = (k : Int) ∧ t.takeWhile nsp = t.take k ∧ t.dropWhile nsp = t.drop k
  | [] => .inl ⟨rfl, rfl, rfl⟩
  | c :: r => by
    cases hc : spc c
    · have hn : nsp c = true := by unfold nsp; rw [hc]; rfl
      have hb : bl.contains c = false := hc
      rcases any_words r with ⟨h1, h2, h3⟩ | ⟨k, hk, h1, h2, h3⟩
      · left
        refine ⟨by rw [Lib.indexAny, hb, h1]; rfl, by rw [List.takeWhile_cons, if_pos hn, h2], by rw [List.dropWhile_cons, if_pos hn, h3]⟩
      · right
        refine ⟨k + 1, by simpa using hk, ?_, by rw [List.takeWhile_cons, if_pos hn, h2]; rfl, by rw [List.dropWhile_cons, if_pos hn, h3]; rfl⟩
        rw [Lib.indexAny, hb, h1]
        have : ((k : Int) == -1) = false := by rw [beq_eq_false_iff_ne]; omega
        rw [this]; simp
    · right
      have hn : ¬ nsp c = true := by unfold nsp; rw [hc]; exact fun h => by cases h
      have hb : bl.contains c = true := hc
      exact ⟨0, by simp, by rw [Lib.indexAny, hb]; rfl, by rw [List.takeWhile_cons, if_neg hn]; rfl, by rw [List.dropWhile_cons, if_neg hn]; rfl⟩
theorem bsl_take (l : By) (k : Nat) : (bsl l).extract 0 k = bsl (l.take k) := bs_inj (by rw [ext_list]; show (l.drop 0).take (k - 0) = l.take k; rw [List.drop_zero, Nat.sub_zero])
theorem bsl_drop (l : By) (k : Nat) : (bsl l).extract k (bsl l).size = bsl (l.drop k) := bs_inj (by rw [ext_tail]; rfl)
theorem asc_bl : Pa.Asc ⟨#[9, 32]⟩ := by
  intro j b hb
  match j, hb with
  | 0, hb => simp at hb; subst hb; decide
  | 1, hb => simp at hb; subst hb; decide
  | n + 2, hb => simp at hb
theorem IndexBl (l : By) (w : World) (hs : l.length ≤ 4294967200) : Calls Tryd.prog 34 #[.string (bsl l), .string ⟨#[9, 32]⟩] w fun e w' => e = .returned (.int .i64 (Lib.indexAny l bl)) ∧ Below w.heap.size w w' :=
  Pa.IndexAny_two (bsl l) ⟨#[9, 32]⟩ w asc_bl rfl (by rw [bsl_size]; omega)
theorem TrimL (l : By) (w : World) (hs : l.length ≤ 4294967281) : Calls Tryd.prog 33 #[.string (bsl l), .string ⟨#[9, 32]⟩] w fun e w' => e = .returned (.string (bsl (tr l))) ∧ Below w.heap.size w w' :=
  TrimB_any (bsl l) w (by rw [bsl_size]; exact hs)
theorem ret_two {a b c d : Value} (h1 : a = c) (h2 : b = d) : Ending.returned (.tuple #[a, b]) = .returned (.tuple #[c, d]) := by rw [h1, h2]
theorem str_of {a b : By} (h : a = b) : Value.string (bsl a) = .string (bsl b) := by rw [h]
set_option maxRecDepth 100000 in
set_option maxHeartbeats 2000000 in
theorem cutWord_any (l : By) (w : World) (hs : l.length ≤ 4294967200) : Calls Tryd.prog 19 #[.string (bsl l)] w fun e w' => e = .returned (.tuple #[.string (bsl (cw l).1), .string (bsl (cw l).2)]) ∧ Below w.heap.size w w' := by
  have ht := tr_len l
  have H1 : Hid ((cw l).1 = (tr l).takeWhile nsp) := Lib.hid rfl
  have H2 : Hid ((cw l).2 = tr ((tr l).dropWhile nsp)) := Lib.hid rfl
  have HT := Lib.hid (TrimL l w (by omega))
  generalize tr l = t at ht H1 H2 HT
  have htz : (bsl t).size ≤ 4294967200 := by rw [bsl_size]; omega
  have htz2 : ((bsl t).size : Int) ≤ 4294967200 := by omega
  go_enter Tryd.func19, Tryd.ntmps19
  go_wp2_with fail
  with_reducible refine (HT.out).mono ?_
  rintro e w1 ⟨rfl, hb1⟩
  have HB1 := Lib.hid hb1
  clear hb1 HT
  have HI := Lib.hid (IndexBl t w1 (by omega))
  go_wp2_with fail
  with_reducible refine (HI.out).mono ?_
  rintro e w2 ⟨rfl, hb2⟩
  have HB2 := Lib.hid (HB1.out.trans (hb2.mono HB1.out.size))
  clear hb2 HB1 HI
  rcases any_words t with ⟨h1, h2, h3⟩ | ⟨k, hk, h1, h2, h3⟩
  · have HE1 := Lib.hid (H1.out.trans h2)
    have HE2 : Hid ((cw l).2 = []) := Lib.hid (by rw [H2.out, h3]; rfl)
    rw [h1]
    clear h1 h2 h3 H1 H2
    go_wp2_with fail
    go_ret2
    exact ⟨ret_two (str_of HE1.out.symm) (str_of HE2.out.symm), HB2.out⟩
  · have HE1 := Lib.hid (H1.out.trans h2)
    have HE2 : Hid ((cw l).2 = tr (t.drop k)) := Lib.hid (by rw [H2.out, h3])
    have hk1 : (k : Int) ≤ ((bsl t).size : Int) := by rw [bsl_size]; omega
    have hk0 : decide ((k : Int) < 0) = false := decide_eq_false (by omega)
    have k1 := bsl_take t k
    have k2 := bsl_drop t k
    have hd : (t.drop k).length ≤ 4294967281 := by rw [List.length_drop]; omega
    rw [h1]
    clear h1 h2 h3 H1 H2 hk
    go_wp2_with fail
    have HC := Lib.hid (fun W => TrimL (t.drop k) W hd)
    go_region_with ((first | (rw [k2]; with_reducible refine (HC.out _).mono ?_) | (with_reducible refine (HC.out _).mono ?_)); rintro e w3 ⟨rfl, hb3⟩)
    all_goals
      go_wp2
      go_ret2
      exact ⟨ret_two (str_of HE1.out.symm) (str_of HE2.out.symm), HB2.out.drew.trans (hb3.mono HB2.out.drew.size)⟩
set_option maxRecDepth 100000 in
set_option maxHeartbeats 2000000 in
theorem words_any (l : By) (w : World) (hs : l.length ≤ 100000) : Calls Tryd.prog 36 #[.string (bsl l)] w fun e w' => ∃ v, e = .returned v ∧ OwnS w' w.heap.size v (words l) ∧ Below w.heap.size w w' := by
  obtain ⟨i0, hi0, hz0, hz1, hz2⟩ := info_parts strInfo
  have HC := Lib.hid (cutWord_any l w (by omega))
  have hl := cw_len l
  go_enter Tryd.func36, Tryd.ntmps36
  go_wp2_with fail
  with_reducible refine (HC.out).mono ?_
  rintro e w1 ⟨rfl, hb1⟩
  have HB1 := Lib.hid hb1
  have hz := hb1.size
  clear hb1 HC
  go_wp2_with fail
  go_loopw [3, 4, 5] (fun av wv rv wr => ∃ (L : List By) (q : By), wv = .string (bsl (cw q).1) ∧ rv = .string (bsl (cw q).2) ∧ q.length ≤ 100000 ∧ L.length + q.length ≤ 100000 ∧ Hid (words l = L ++ words q) ∧ Hid (OwnS wr w.heap.size av L ∧ Below w.heap.size w wr)) (fun _ wv rv _ => (match wv with | .string s => s.size | _ => 0) + (match rv with | .string s => s.size | _ => 0))
  case atStart => exact ⟨[], l, rfl, rfl, hs, by simpa using hs, Lib.hid rfl, Lib.hid ⟨OwnS.nil _ _, HB1.out⟩⟩
  case round =>
    obtain ⟨L, q, rfl, rfl, hq, hLq, HW, HO⟩ := hrel
    have hcl := cw_len q
    have hcl2 := cw_len (cw q).2
    have HCw := Lib.hid (fun W => cutWord_any (cw q).2 W (by omega))
    by_cases h0 : (cw q).1 = []
    · have HE : Hid (words l = L) := Lib.hid (by rw [HW.out, words_nil h0, List.append_nil])
      have HO2 : Hid (OwnS wr w.heap.size u3 (words l) ∧ Below w.heap.size w wr) := Lib.hid (by rw [HE.out]; exact HO.out)
      rw [h0, show bsl ([] : By) = ⟨#[]⟩ from rfl]
      clear h0 hcl hcl2 HCw
      go_wp2
      go_ret
      exact ⟨u3, rfl, HO2.out.1, HO2.out.2⟩
    · have hlt := cw_lt h0
      have hpos : 0 < (cw q).1.length := List.length_pos_iff.2 h0
      have HE : Hid (words l = (L ++ [(cw q).1]) ++ words (cw q).2) := Lib.hid (by rw [HW.out, words_cons h0]; simp)
      obtain ⟨e1, e2⟩ := empty_no (s := bsl (cw q).1) (by rw [bsl_size]; exact hpos)
      have HS1 := Lib.hid (bsl_size (cw q).1)
      have HS2 := Lib.hid (bsl_size (cw q).2)
      have HS3 := Lib.hid (bsl_size (cw (cw q).2).1)
      have HS4 := Lib.hid (bsl_size (cw (cw q).2).2)
      have hwz : w.heap.size ≤ wr.heap.size := HO.out.2.size
      have hLl : L.length ≤ 100000 := by omega
      generalize (cw q).1 = a at HE e1 e2 hpos hcl HS1
      generalize (cw q).2 = r at HE HCw hcl hcl2 hlt HS2 HS3 HS4
      clear h0
      go_wp2_with (at_builtin; refine wpList_append_own _ rfl (.tmp 13) (.tmp 15) _ rfl w.heap.size 9 i0 _ 1 16 Tryd.underlying56 hi0 hz0 hz1 hz2 rfl (by omega) u3 L.length (L.flatMap encS) rfl (World.ownsRow.alloc HO.out.1 _) ⟨wr.heap.size, 0, none⟩ 1 1 [.string (bsl a)] rfl rfl (cells_new wr [.string (bsl a)] 9) (by simp [Value.oneCell']) (by simp only [maxLen]; omega) (by omega) (by simp; omega) ?_; intro v5 w5 ho5 hg5 _)
      have hb5 : Below w.heap.size w w5 := HO.out.2.trans (((Below.refl _ _).alloc hwz _).trans (below_own (World.ownsRow.alloc HO.out.1 _) hg5 (by simp; omega)))
      have HB5 := Lib.hid hb5
      have HO5 := Lib.hid (snocS ho5)
      clear hb5 ho5 hg5
      with_reducible refine (HCw.out w5).mono ?_
      rintro e w6 ⟨rfl, hb6⟩
      have HO6 : Hid (OwnS w6 w.heap.size v5 (L ++ [a]) ∧ Below w.heap.size w w6) := Lib.hid ⟨HO5.out.below hb6 (Nat.le_refl _), HB5.out.trans (hb6.mono HB5.out.size)⟩
      clear hb6
      go_wp2_with fail
      go_roundw
      case rel => exact ⟨L ++ [a], r, rfl, rfl, by omega, by simp; omega, HE, HO6⟩
      case measure => simp only [HS1.out, HS2.out, HS3.out, HS4.out]; omega
end Go.Proofs.YtbibekojbjonoaaDoor.Po
