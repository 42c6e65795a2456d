/-
  The contract of Valid of package title, for every namespace and every name.
-/
import Derived.Test.YtbibekojbjonoaaDoorTiWalk4
namespace Go.Proofs.YtbibekojbjonoaaDoor.Ti
open Go.RowKit

/-- Which titles are valid. -/
def valid (sp : Int) (l : List UInt8) : Bool :=
  if sp < 0 ∨ 6 ≤ sp then false
  else if l.length < 1 ∨ 100 < l.length then false
  else if l.head? = some 58 ∨ (l.head?.map small = some true) then false
  else if sp = 0 ∧ space l ≠ 0 then false
  else vbytes l && vparts l

set_option maxRecDepth 100000 in
set_option maxHeartbeats 1000000 in
theorem Valid_any (sp : Int) (s : ByteArray) (w : World) (hs : s.size ≤ maxLen) (ht : Tb w) :
    Calls Tryd.prog 28 #[.agg #[.int .i64 sp, .string s]] w fun e w' => e = .returned (.bool (valid sp s.data.toList)) ∧ Below w.heap.size w w' := by
  unfold maxLen at hs
  have hsl : s.data.toList.length = s.size := rfl
  have hbel : Below w.heap.size w (w.alloc (.cells #[.int .i64 sp, .string s] 34)) := (Below.refl _ w).alloc (Nat.le_refl _) _
  have t1 := ht.below hbel
  by_cases h1 : sp < 0
  · have hfin : valid sp s.data.toList = false := by rw [valid, if_pos (.inl h1)]
    have HF := Lib.hid hfin; clear hfin
    go_enter Tryd.func28, Tryd.ntmps28
    go_wp2
    go_ret
    exact ⟨ret_bool (by rw [HF.out]), hbel⟩
  by_cases h2 : 6 ≤ sp
  · have hfin : valid sp s.data.toList = false := by rw [valid, if_pos (.inr h2)]
    have HF := Lib.hid hfin; clear hfin
    go_enter Tryd.func28, Tryd.ntmps28
    go_wp2
    go_ret
    exact ⟨ret_bool (by rw [HF.out]), hbel⟩
  have e1 : ¬ (sp < 0 ∨ 6 ≤ sp) := by omega
  by_cases h3 : s.size < 1
  · have hfin : valid sp s.data.toList = false := by rw [valid, if_neg e1, if_pos (.inl (by omega))]
    have HF := Lib.hid hfin; clear hfin e1
    go_enter Tryd.func28, Tryd.ntmps28
    go_wp2
    go_ret
    exact ⟨ret_bool (by rw [HF.out]), hbel⟩
  by_cases h4 : 100 < s.size
  · have hfin : valid sp s.data.toList = false := by rw [valid, if_neg e1, if_pos (.inr (by omega))]
    have HF := Lib.hid hfin; clear hfin e1
    go_enter Tryd.func28, Tryd.ntmps28
    go_wp2
    go_ret
    exact ⟨ret_bool (by rw [HF.out]), hbel⟩
  have e2 : ¬ (s.data.toList.length < 1 ∨ 100 < s.data.toList.length) := by omega
  have hp : 0 < s.size := by omega
  have hhd := head_of s hp
  by_cases h5 : s[0] = 58
  · have hfin : valid sp s.data.toList = false := by rw [valid, if_neg e1, if_neg e2, if_pos (.inl (by rw [hhd, h5]))]
    have hd : ((s[0].toNat : Int) == 58) = true := by rw [h5]; rfl
    have HF := Lib.hid hfin; clear hfin e1 e2 h5 hhd
    go_enter Tryd.func28, Tryd.ntmps28
    go_wp2
    go_ret
    exact ⟨ret_bool (by rw [HF.out]), hbel⟩
  have hd5 : ((s[0].toNat : Int) == 58) = false := u8_ne h5
  by_cases h6 : small s[0] = true
  · have hfin : valid sp s.data.toList = false := by rw [valid, if_neg e1, if_neg e2, if_pos (.inr (by rw [hhd]; simp [h6]))]
    have HF := Lib.hid hfin; clear hfin e1 e2 h5 hhd
    go_enter Tryd.func28, Tryd.ntmps28
    go_wp2_with fail
    refine (isSmall_any _ _).mono ?_
    rintro e w' ⟨rfl, rfl⟩
    go_wp2
    go_ret
    exact ⟨ret_bool (by rw [HF.out]), hbel⟩
  have h6' : small s[0] = false := by simpa using h6
  have e3 : ¬ (s.data.toList.head? = some 58 ∨ s.data.toList.head?.map small = some true) := by rw [hhd]; simp [h5, h6']
  by_cases h7 : sp = 0
  · have hd7 : (sp == 0) = true := by rw [h7]; rfl
    by_cases h8 : space s.data.toList = 0
    · have hfin : valid sp s.data.toList = (vbytes s.data.toList && vparts s.data.toList) := by
        rw [valid, if_neg e1, if_neg e2, if_neg e3, if_neg (fun h => h.2 h8)]
      have HT := Lib.hid hfin
      have hd8 : (((space s.data.toList : Nat) : Int) != 0) = false := by rw [h8]; rfl
      clear hfin e1 e2 e3 h5 h6 hhd h7 h8
      go_enter Tryd.func28, Tryd.ntmps28
      go_wp2_with fail
      refine (isSmall_any _ _).mono ?_
      rintro e w' ⟨rfl, rfl⟩
      go_wp2_with fail
      refine (prefixSpace_any _ _ (by omega) t1).mono ?_
      rintro e w' ⟨rfl, n, rfl⟩
      have t2 : Tb ((w.alloc (.cells #[.int .i64 sp, .string s] 34)).drewN n) := t1.drewN n
      go_wp2_with fail
      refine (validBytes_any _ _ (by omega) t2).mono ?_
      rintro e w' ⟨rfl, rfl⟩
      cases hv : vbytes s.data.toList
      · go_wp2
        go_ret
        exact ⟨ret_bool (by rw [HT.out, hv]; rfl), below_drewN hbel n⟩
      · go_wp2_with fail
        refine (validParts_any _ _ (by omega)).mono ?_
        rintro e w2 ⟨rfl, hb2⟩
        go_wp2
        go_ret
        exact ⟨ret_bool (by rw [HT.out, hv]; simp), (below_drewN hbel n).trans (hb2.mono (by simp))⟩
    · have hfin : valid sp s.data.toList = false := by
        rw [valid, if_neg e1, if_neg e2, if_neg e3, if_pos ⟨h7, h8⟩]
      have HF := Lib.hid hfin
      have hd8 : (((space s.data.toList : Nat) : Int) != 0) = true := by rw [bne_iff_ne]; omega
      clear hfin e1 e2 e3 h5 h6 hhd h7 h8
      go_enter Tryd.func28, Tryd.ntmps28
      go_wp2_with fail
      refine (isSmall_any _ _).mono ?_
      rintro e w' ⟨rfl, rfl⟩
      go_wp2_with fail
      refine (prefixSpace_any _ _ (by omega) t1).mono ?_
      rintro e w' ⟨rfl, n, rfl⟩
      go_wp2
      go_ret
      exact ⟨ret_bool (by rw [HF.out]), below_drewN hbel n⟩
  · have hd7 : (sp == 0) = false := by rw [beq_eq_false_iff_ne]; exact h7
    have hfin : valid sp s.data.toList = (vbytes s.data.toList && vparts s.data.toList) := by
      rw [valid, if_neg e1, if_neg e2, if_neg e3, if_neg (fun h => h7 h.1)]
    have HT := Lib.hid hfin
    clear hfin e1 e2 e3 h5 h6 hhd h7
    go_enter Tryd.func28, Tryd.ntmps28
    go_wp2_with fail
    refine (isSmall_any _ _).mono ?_
    rintro e w' ⟨rfl, rfl⟩
    have t2 : Tb (w.alloc (.cells #[.int .i64 sp, .string s] 34)) := t1
    go_wp2_with fail
    refine (validBytes_any _ _ (by omega) t2).mono ?_
    rintro e w' ⟨rfl, rfl⟩
    cases hv : vbytes s.data.toList
    · go_wp2
      go_ret
      exact ⟨ret_bool (by rw [HT.out, hv]; rfl), hbel⟩
    · go_wp2_with fail
      refine (validParts_any _ _ (by omega)).mono ?_
      rintro e w2 ⟨rfl, hb2⟩
      go_wp2
      go_ret
      exact ⟨ret_bool (by rw [HT.out, hv]; simp), (hbel).trans (hb2.mono (by simp))⟩
end Go.Proofs.YtbibekojbjonoaaDoor.Ti
