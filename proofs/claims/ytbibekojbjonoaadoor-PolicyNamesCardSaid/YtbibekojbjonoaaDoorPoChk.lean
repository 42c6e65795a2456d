/-
  The contracts of checkMember, checkGroup and firstError over members of package policy.
-/
import Derived.Test.YtbibekojbjonoaaDoorPoHas
namespace Go.Proofs.YtbibekojbjonoaaDoor.Po
open Go.RowKit Go.Shelf
set_option linter.unusedVariables false
set_option linter.unusedSimpArgs false

def Fits (l : By) : Prop := l.length ≤ maxLen
theorem IsNameL (l : By) (w : World) (h : Fits l) : Calls Tryd.prog 4 #[.string (bsl l)] w fun e w' => e = .returned (.bool (isName l)) ∧ w = w' :=
  IsName_any (bsl l) w (by rw [bsl_size]; exact h)
theorem prefix_no {m : By} (h : m.head? ≠ some 64) : Lib.hasPrefix m [64] = false ∧ Lib.trimPrefix m [64] = m := by
  have h1 : Lib.hasPrefix m [64] = false := by
    unfold Lib.hasPrefix
    cases m with
    | nil => rfl
    | cons c r =>
      have : c ≠ 64 := fun e => h (by rw [e]; rfl)
      simp [List.isPrefixOf, Ne.symm this]
  exact ⟨h1, by unfold Lib.trimPrefix; rw [h1]; rfl⟩
theorem prefix_yes {m : By} (h : m.head? = some 64) : Lib.hasPrefix m [64] = true ∧ Lib.trimPrefix m [64] = m.drop 1 := by
  cases m with
  | nil => cases h
  | cons c r =>
    have : c = 64 := by simpa using h
    subst this
    have h1 : Lib.hasPrefix (64 :: r) [64] = true := by simp [Lib.hasPrefix, List.isPrefixOf]
    exact ⟨h1, by unfold Lib.trimPrefix; rw [h1]; rfl⟩
theorem CutAt (m : By) (w : World) : Calls Tryd.prog 41 #[.string (bsl m), .string ⟨#[64]⟩] w fun e w' => e = .returned (.tuple #[.string (bsl (Lib.trimPrefix m [64])), .bool (Lib.hasPrefix m [64])]) ∧ w' = w :=
  Tryd.strings_CutPrefix (bsl m) ⟨#[64]⟩ w
theorem Fits.drop {l : By} (h : Fits l) (k : Nat) : Fits (l.drop k) := by unfold Fits at *; rw [List.length_drop]; omega
set_option maxRecDepth 100000 in
set_option maxHeartbeats 2000000 in
theorem checkMember_any (v : Value) (gs : List Grp) (m : By) (w : World) (hv : RdG w w.heap.size v gs) (hm : Fits m) : Calls Tryd.prog 26 #[v, .string (bsl m)] w fun e w' => e = .returned (.int .i64 (memErr gs m : Nat)) ∧ Below w.heap.size w w' := by
  have HC := Lib.hid (CutAt m w)
  by_cases h0 : m.head? = some 64
  · obtain ⟨h1, h2⟩ := prefix_yes h0
    rw [h1, h2] at HC
    have HF := Lib.hid (IsNameL (m.drop 1) w (hm.drop 1))
    have HE := Lib.hid (exists_any v gs (m.drop 1) w hv)
    have HR : Hid (memErr gs m = if isName (m.drop 1) then (if has gs (m.drop 1) then 0 else 4) else 1) := Lib.hid (by unfold memErr; rw [if_pos h0])
    generalize m.drop 1 = x at HC HF HE HR
    clear h0 h1 h2
    cases hn : isName x
    · rw [hn] at HF HR
      clear hn
      go_enter Tryd.func26, Tryd.ntmps26
      go_wp2_with fail
      with_reducible refine (HC.out).mono ?_
      rintro e w1 ⟨rfl, rfl⟩
      go_wp2_with fail
      with_reducible refine (HF.out).mono ?_
      rintro e w2 ⟨rfl, rfl⟩
      go_wp2
      go_ret
      exact ⟨ret_int (by rw [HR.out]; rfl), Below.refl _ _⟩
    · rw [hn] at HF HR
      clear hn
      cases hh : has gs x
      · rw [hh] at HE HR
        clear hh
        go_enter Tryd.func26, Tryd.ntmps26
        go_wp2_with fail
        with_reducible refine (HC.out).mono ?_
        rintro e w1 ⟨rfl, rfl⟩
        go_wp2_with fail
        with_reducible refine (HF.out).mono ?_
        rintro e w2 ⟨rfl, rfl⟩
        go_wp2_with fail
        with_reducible refine (HE.out).mono ?_
        rintro e w3 ⟨rfl, hb⟩
        go_wp2
        go_ret
        exact ⟨ret_int (by rw [HR.out]; rfl), hb⟩
      · rw [hh] at HE HR
        clear hh
        go_enter Tryd.func26, Tryd.ntmps26
        go_wp2_with fail
        with_reducible refine (HC.out).mono ?_
        rintro e w1 ⟨rfl, rfl⟩
        go_wp2_with fail
        with_reducible refine (HF.out).mono ?_
        rintro e w2 ⟨rfl, rfl⟩
        go_wp2_with fail
        with_reducible refine (HE.out).mono ?_
        rintro e w3 ⟨rfl, hb⟩
        go_wp2
        go_ret
        exact ⟨ret_int (by rw [HR.out]; rfl), hb⟩
  · obtain ⟨h1, h2⟩ := prefix_no h0
    rw [h1, h2] at HC
    have HF := Lib.hid (IsNameL m w hm)
    have HR : Hid (memErr gs m = if isName m then 0 else 1) := Lib.hid (by unfold memErr; rw [if_neg h0])
    clear h0 h1 h2
    cases hn : isName m
    all_goals
      rw [hn] at HF HR
      clear hn
      go_enter Tryd.func26, Tryd.ntmps26
      go_wp2_with fail
      with_reducible refine (HC.out).mono ?_
      rintro e w1 ⟨rfl, rfl⟩
      go_wp2_with fail
      with_reducible refine (HF.out).mono ?_
      rintro e w2 ⟨rfl, rfl⟩
      go_wp2
      go_ret
      exact ⟨ret_int (by rw [HR.out]; rfl), Below.refl _ _⟩
set_option maxRecDepth 100000 in
set_option maxHeartbeats 2000000 in
theorem firstMember_any (v mv : Value) (gs : List Grp) (ms : List By) (w : World) (hv : RdG w w.heap.size v gs) (hm : RdS w w.heap.size mv ms) (hf : ∀ m ∈ ms, Fits m) :
    Calls Tryd.prog 25 #[v, mv, .func (.func 26) #[] #[]] w fun e w' => e = .returned (.int .i64 (firstE (memErr gs) ms : Nat)) ∧ Below w.heap.size w w' := by
  obtain ⟨A, c, rfl, hl1, hl2, hr⟩ := hm.ex
  unfold maxLen at hl2
  have HR := Lib.hid hr
  have HF := Lib.hid hf
  have HV := Lib.hid hv
  clear hr hm hf hv
  go_enter Tryd.func25, Tryd.ntmps25
  go_wp2
  go_loopw [12] (fun i wr => ∃ k : Nat, k ≤ ms.length ∧ i = .int .i64 k ∧ Hid (firstE (memErr gs) ms = firstE (memErr gs) (ms.drop k)) ∧ Hid (Below w.heap.size w wr)) (fun i _ => ms.length - (intOf i).toNat)
  case atStart => exact ⟨0, Nat.zero_le _, rfl, Lib.hid rfl, Lib.hid (Below.refl _ _)⟩
  case round =>
    obtain ⟨k, hk, rfl, HA, HW⟩ := hrel
    by_cases hlt : k < ms.length
    · obtain ⟨g, o, rfl, hg, q⟩ := HR.out (by omega)
      have hki : (k : Int) < (ms.length : Int) := by omega
      have q1 := q k ms[k] (List.getElem?_eq_getElem hlt) 0 _ rfl
      simp only [Nat.add_zero, Nat.mul_one] at q1
      have hc : ∀ j, wr.cell? ⟨g, j, none⟩ = w.cell? ⟨g, j, none⟩ := fun j => HW.out.cell (p := ⟨g, j, none⟩) hg
      rw [← hc] at q1
      have HS := Lib.hid (firstE_drop (memErr gs) ms k hlt HA.out)
      have HH := Lib.hid (firstE_hit (memErr gs) ms k hlt HA.out)
      have hfit := HF.out ms[k] (List.getElem_mem hlt)
      have HFt := Lib.hid hfit
      generalize ms[k] = x at q1 HS HH HFt
      clear hc q hfit
      have HC := Lib.hid (checkMember_any v gs x wr ((HV.out.below HW.out (Nat.le_refl _)).more HW.out.size) HFt.out)
      obtain ⟨E, hE⟩ : ∃ E, memErr gs x = E := ⟨_, rfl⟩
      rw [hE] at HC HS HH
      clear hE HFt
      by_cases h0 : E = 0
      · have h0' : ((E : Int) != 0) = false := by rw [bne_eq_false_iff_eq]; omega
        have HS2 := Lib.hid (HS.out h0)
        clear h0 HS HH
        go_wp2_with fail
        with_reducible refine (HC.out).mono ?_
        rintro e w1 ⟨rfl, hb⟩
        have HB := Lib.hid (HW.out.trans (hb.mono HW.out.size))
        clear hb
        go_wp2
        go_roundw
        case rel => exact ⟨k + 1, by omega, by go_num, HS2, HB⟩
        case measure => simp [intOf]; omega
      · have h0' : ((E : Int) != 0) = true := by rw [bne_iff_ne]; omega
        have HH2 := Lib.hid (HH.out h0)
        clear h0 HS HH
        go_wp2_with fail
        with_reducible refine (HC.out).mono ?_
        rintro e w1 ⟨rfl, hb⟩
        go_wp2
        go_ret
        exact ⟨ret_int (by rw [HH2.out]), HW.out.trans (hb.mono HW.out.size)⟩
    · have HE := Lib.hid (firstE_end (memErr gs) ms k hlt HA.out)
      go_wp2
      go_ret
      exact ⟨ret_int (by rw [HE.out]; rfl), HW.out⟩
end Go.Proofs.YtbibekojbjonoaaDoor.Po
