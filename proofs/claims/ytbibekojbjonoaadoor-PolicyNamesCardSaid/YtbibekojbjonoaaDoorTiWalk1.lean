/-
  The contracts of skipColon, joinParts, capitalize and prefixSpace of package title, for every argument in every world that holds the table of names.
-/
import Derived.Test.YtbibekojbjonoaaDoorTiLeaf
import Derived.Test.YtbibekojbjonoaaDoorTiWB
import Derived.WalkSmall
import Derived.IntWalk
namespace Go.Proofs.YtbibekojbjonoaaDoor.Ti
open Go.RowKit

theorem skipColon_any (s : ByteArray) (w : World) :
    Calls Tryd.prog 60 #[.string s] w fun e w' => e = .returned (.string ⟨(skip s.data.toList).toArray⟩) ∧ w = w' := by
  by_cases h : Lib.hasPrefix s.data.toList [58] = true
  · go_enter Tryd.func60, Tryd.ntmps60
    go_wp2_with fail
    refine (Tryd.strings_CutPrefix _ _ _).mono ?_
    rintro e w' ⟨rfl, rfl⟩
    go_wp2_with fail
    refine (Tryd.strings_TrimPrefix _ _ _).mono ?_
    rintro e w' ⟨rfl, rfl⟩
    go_wp2
    go_ret
    exact ⟨ret_str (by simp [skip, h]), rfl⟩
  · have h' : Lib.hasPrefix s.data.toList [58] = false := by simpa using h
    clear h
    go_enter Tryd.func60, Tryd.ntmps60
    go_wp2_with fail
    refine (Tryd.strings_CutPrefix _ _ _).mono ?_
    rintro e w' ⟨rfl, rfl⟩
    go_wp2
    go_ret
    exact ⟨ret_str (by simp [skip, h']), rfl⟩

theorem joinParts_any (s : ByteArray) (m : Int) (w : World) (hs : s.size < 4294967281) (hm : w.cell? ⟨5, 0, none⟩ = some (.int .i64 m)) (hg : 5 < w.heap.size) :
    Calls Tryd.prog 64 #[.string s] w fun e w' => e = .returned (.string ⟨(join s.data.toList).toArray⟩) ∧ Below w.heap.size w w' := by
  have c1 := Lib.countB_le ⟨#[32, 47]⟩ (by decide) s.size s (Nat.le_refl _)
  have l1 : (⟨#[47]⟩ : ByteArray).size = 1 := rfl
  have l2 := replaceAll_len s.data.toList [32, 47] [47] (by decide)
  go_enter Tryd.func64, Tryd.ntmps64
  go_wp2_with fail
  refine (Tryd.strings_ReplaceAll _ _ _ m _ hs hm (by decide) (by rw [l1]; omega)).mono ?_
  rintro e w1 ⟨rfl, hb⟩
  have hm1 : w1.cell? ⟨5, 0, none⟩ = some (.int .i64 m) := (hb.cell (p := ⟨5, 0, none⟩) hg).trans hm
  have c2 := Lib.countB_le ⟨#[47, 32]⟩ (by decide) (⟨(Lib.replaceAll s.data.toList [32, 47] [47]).toArray⟩ : ByteArray).size ⟨(Lib.replaceAll s.data.toList [32, 47] [47]).toArray⟩ (Nat.le_refl _)
  have l3 : (⟨(Lib.replaceAll s.data.toList [32, 47] [47]).toArray⟩ : ByteArray).size = (Lib.replaceAll s.data.toList [32, 47] [47]).length := rfl
  have l4 : s.data.toList.length = s.size := rfl
  go_wp2_with fail
  refine (Tryd.strings_ReplaceAll _ _ _ m _ (by rw [l3]; omega) hm1 (by decide) (by rw [l1]; omega)).mono ?_
  rintro e w2 ⟨rfl, hb2⟩
  go_wp2
  go_ret
  exact ⟨ret_str (by simp [join]), hb.trans (hb2.mono hb.size)⟩

theorem enc_small {c : UInt8} (h1 : 97 ≤ c.toNat) (h2 : c.toNat ≤ 122) : Utf8.encode ((c.toNat : Int) - 97 + 65) = ⟨#[c - 32]⟩ := by
  obtain ⟨k, hk⟩ : ∃ k : Nat, (c.toNat : Int) - 97 + 65 = (k : Int) ∧ k = c.toNat - 32 := ⟨c.toNat - 32, by omega, rfl⟩
  rw [hk.1]
  have hv : Utf8.valid (k : Int) = true := by simp [Utf8.valid]; omega
  have hb : UInt8.ofNat k = c - 32 := by
    apply UInt8.toNat_inj.1
    rw [UInt8.toNat_sub, hk.2]
    have : (32 : UInt8).toNat = 32 := rfl
    simp; omega
  unfold Utf8.encode
  simp only [hv, if_true, Int.toNat_natCast]
  rw [if_pos (by omega), hb]

theorem data_cons (s : ByteArray) (h : 0 < s.size) : s.data.toList = s[0] :: s.data.toList.drop 1 := by
  have h' : 0 < s.data.toList.length := h
  exact (List.getElem_cons_drop h').symm
theorem cap_yes (s : ByteArray) (h : 0 < s.size) (hc : small s[0] = true) : (⟨#[s[0] - 32]⟩ : ByteArray) ++ s.extract 1 s.size = ⟨(cap s.data.toList).toArray⟩ := by
  apply ByteArray.ext
  apply Array.ext'
  rw [ByteArray.data_append, Array.toList_append, Lib.extract_to_end]
  have e := data_cons s h
  generalize s.data.toList.drop 1 = r at e ⊢
  rw [e]
  simp [cap, hc]
theorem cap_no (s : ByteArray) (h : 0 < s.size) (hc : small s[0] = false) : s = ⟨(cap s.data.toList).toArray⟩ := by
  apply ByteArray.ext
  apply Array.ext'
  have e := data_cons s h
  generalize s.data.toList.drop 1 = r at e ⊢
  rw [e]
  simp [cap, hc]

theorem isSmall_q (c : UInt8) (w : World) (n : Nat) :
    Calls Tryd.prog 42 #[.int .u8 (c.toNat : Int)] (w.drewN n) fun e w' => e = .returned (.bool (small c)) ∧ ∃ m, w' = w.drewN m :=
  (isSmall_any c _).mono fun _ _ ⟨he, hm⟩ => ⟨he, n, hm.symm⟩

set_option maxHeartbeats 400000 in
theorem capitalize_any (s : ByteArray) (w : World) (hs : s.size ≤ maxLen) :
    Calls Tryd.prog 63 #[.string s] w fun e w' => e = .returned (.string ⟨(cap s.data.toList).toArray⟩) ∧ ∃ n, w' = w.drewN n := by
  unfold maxLen at hs
  by_cases h0 : s.size = 0
  · have h1 : s.data.toList = [] := by rw [← List.length_eq_zero_iff]; exact h0
    have h2 : s.toList.isEmpty = true := by rw [Lib.toList_data, h1]; rfl
    have h3 : s.toList = [] := by rw [Lib.toList_data, h1]
    have H := Lib.hid h1; clear h1 h0
    go_enter Tryd.func63, Tryd.ntmps63
    go_wp2
    go_ret
    exact ⟨ret_str (by rw [H.out]; apply ByteArray.ext; apply Array.ext'; exact H.out), 0, rfl⟩
  · have h1 : 0 < s.size := by omega
    have h4 : s.data.toList ≠ [] := by rw [← List.length_pos_iff]; exact h1
    have h2 : s.toList.isEmpty = false := by
      rw [Lib.toList_data, List.isEmpty_eq_false_iff]; exact h4
    have h3 : ¬ s.toList = [] := by rw [Lib.toList_data]; exact h4
    have HN := Lib.hid h4; clear h4 h0
    have h5 : (1 : Int) ≤ (s.size : Int) := by omega
    have h6 : 1 ≤ s.size := h1
    by_cases hc : small s[0] = true
    · have hd : 97 ≤ s[0].toNat ∧ s[0].toNat ≤ 122 := by simpa [small] using hc
      obtain ⟨hd1, hd2⟩ := hd
      have e4 : ¬ 9223372036854775807 < 1 + (s.size - 1) := by omega
      have e5 : 1 + (s.size - 1) ≤ 9223372036854775807 := by omega
      have he := enc_small hd1 hd2
      have e1 := IntWalk.u8_in ((s[0].toNat : Int) - 97) (by omega)
      have e2 := IntWalk.u8_in ((s[0].toNat : Int) - 97 + 65) (by omega)
      have e3 := IntWalk.i32_in ((s[0].toNat : Int) - 97 + 65) (by omega)
      go_enter Tryd.func63, Tryd.ntmps63
      go_wp2_with fail
      refine (isSmall_any _ _).mono ?_
      rintro e w' ⟨rfl, rfl⟩
      go_wp2
      go_quiet (fail)
      go_wp2
      go_ret
      exact ⟨ret_str (cap_yes s h1 hc), nq, rfl⟩
    · have hc' : small s[0] = false := by simpa using hc
      clear hc
      go_enter Tryd.func63, Tryd.ntmps63
      go_wp2_with fail
      refine (isSmall_any _ _).mono ?_
      rintro e w' ⟨rfl, rfl⟩
      go_wp2
      go_ret
      exact ⟨ret_str (cap_no s h1 hc'), 0, rfl⟩

/-- What the world holds of the package-level variables that the functions read. -/
structure Tb (w : World) : Prop where
  m : ∃ m : Int, w.cell? ⟨5, 0, none⟩ = some (.int .i64 m)
  nm : ∀ k, k ≤ 5 → w.cell? ⟨2, k, none⟩ = some (.string ⟨(name k).toArray⟩)
  lt : 5 < w.heap.size ∧ 2 < w.heap.size
theorem Tb.below {w w' : World} (h : Tb w) (hb : Below w.heap.size w w') : Tb w' := by
  have hl := h.lt
  refine ⟨?_, fun k hk => ?_, by have := hb.size; exact ⟨by omega, by omega⟩⟩
  · obtain ⟨m, hm⟩ := h.m
    exact ⟨m, (hb.cell (p := ⟨5, 0, none⟩) (by show 5 < _; omega)).trans hm⟩
  · exact (hb.cell (p := ⟨2, k, none⟩) (by show 2 < _; omega)).trans (h.nm k hk)
theorem Tb.drewN {w : World} (h : Tb w) (n : Nat) : Tb (w.drewN n) := ⟨h.m, h.nm, h.lt⟩

set_option maxHeartbeats 400000 in
theorem prefixSpace_any (s : ByteArray) (w : World) (hs : s.size < 4294967281) (ht : Tb w) :
    Calls Tryd.prog 43 #[.string s] w fun e w' => e = .returned (.int .i64 (space s.data.toList : Int)) ∧ ∃ n, w' = w.drewN n := by
  obtain ⟨m, hm⟩ := ht.m
  have hcl := cut_len s.data.toList [58]
  have hsl : s.data.toList.length = s.size := rfl
  have htl := trimSuffix_len (Lib.cut s.data.toList [58]).1 [32]
  have hcs : (⟨(Lib.cut s.data.toList [58]).1.toArray⟩ : ByteArray).size = (Lib.cut s.data.toList [58]).1.length := rfl
  by_cases hf : (Lib.cut s.data.toList [58]).2.2 = true
  · have hfin : space s.data.toList = spaceFrom (Lib.trimSuffix (Lib.cut s.data.toList [58]).1 [32]) 5 1 := by rw [space, if_pos hf]
    have HF := Lib.hid hfin; clear hfin
    go_enter Tryd.func43, Tryd.ntmps43
    go_wp2_with fail
    refine (Tryd.strings_Cut _ _ m _ hs hm).mono ?_
    rintro e w' ⟨rfl, n1, rfl⟩
    go_wp2_with fail
    refine (Tryd.strings_TrimSuffix _ _ _ (by rw [hcs]; omega)).mono ?_
    rintro e w' ⟨rfl, rfl⟩
    go_wp2
    have hpl : (Lib.trimSuffix (Lib.cut s.data.toList [58]).1 [32]).length ≤ s.size := by omega
    clear htl hcs
    generalize Lib.trimSuffix (Lib.cut s.data.toList [58]).1 [32] = p at HF hpl ⊢
    have hps : (⟨p.toArray⟩ : ByteArray).size ≤ maxLen := by unfold maxLen; show p.length ≤ _; omega
    have HPS := Lib.hid hps; clear hps
    go_loopw [7] (fun i wr => ∃ (k m0 : Nat), 1 ≤ k ∧ k ≤ 6 ∧ i = .int .i64 k ∧ Hid (wr = w.drewN m0) ∧ Hid (spaceFrom p 5 1 = spaceFrom p (6 - k) k)) (fun i _ => 6 - (intOf i).toNat)
    case atStart => exact ⟨1, n1, by omega, by omega, rfl, Lib.hid rfl, Lib.hid rfl⟩
    case round =>
      obtain ⟨k, m0, hk1, hk2, rfl, hw, hr⟩ := hrel
      by_cases hlt : k < 6
      · have hck : wr.cell? ⟨2, k, none⟩ = some (.string ⟨(name k).toArray⟩) := by rw [hw.out]; exact ht.nm k (by omega)
        have hlt' : (k : Int) < 6 := by omega
        by_cases hc : fold p (name k) = true
        · go_wp2_with fail
          refine (equalFold_any _ _ _ HPS.out).mono ?_
          rintro e w' ⟨rfl, n2, rfl⟩
          go_wp2
          go_ret
          exact ⟨ret_int (by rw [HF.out, hr.out, show 6 - k = (5 - k) + 1 from by omega, spaceFrom_yes hc]), m0 + n2, by rw [hw.out, World.drewN_drewN]⟩
        · have hc' : fold p (name k) = false := by simpa using hc
          clear hc
          go_wp2_with fail
          refine (equalFold_any _ _ _ HPS.out).mono ?_
          rintro e w' ⟨rfl, n2, rfl⟩
          go_wp2
          go_roundw
          case rel => exact ⟨k + 1, m0 + n2, by omega, by omega, by go_num, Lib.hid (by rw [hw.out, World.drewN_drewN]), Lib.hid (by rw [hr.out, show 6 - k = (6 - (k + 1)) + 1 from by omega, spaceFrom_no hc'])⟩
          case measure => simp [intOf]; omega
      · have hlt' : ¬ (k : Int) < 6 := by omega
        go_wp2
        go_ret
        exact ⟨ret_int (by rw [HF.out, hr.out, show 6 - k = 0 from by omega]; rfl), m0, hw.out⟩
  · have hf' : (Lib.cut s.data.toList [58]).2.2 = false := by simpa using hf
    clear hf
    go_enter Tryd.func43, Tryd.ntmps43
    go_wp2_with fail
    refine (Tryd.strings_Cut _ _ m _ hs hm).mono ?_
    rintro e w' ⟨rfl, n1, rfl⟩
    go_wp2
    go_ret
    exact ⟨ret_int (by simp [space, hf']), n1, rfl⟩
end Go.Proofs.YtbibekojbjonoaaDoor.Ti
