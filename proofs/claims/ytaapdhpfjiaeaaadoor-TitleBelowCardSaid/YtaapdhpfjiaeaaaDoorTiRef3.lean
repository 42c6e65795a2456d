/-
  The contract of the reference's blanks: the same as squeeze of package title.
-/
import Derived.Test.YtaapdhpfjiaeaaaDoorTiRef2
import Derived.Test.YtaapdhpfjiaeaaaDoorTiBlanks
namespace Go.Proofs.YtaapdhpfjiaeaaaDoor.Ti
open Go.RowKit

/-- What blanks has written where squeeze has written o and a blank waits (b) or not. -/
def outOf (o : List UInt8) (b : Bool) : List UInt8 := if b && !o.isEmpty then o ++ [32] else o
theorem sq_last (l : List UInt8) : (sq l).1.getLast? ≠ some 32 := by
  have h : ∀ (l : List UInt8) (st : List UInt8 × Bool), st.1.getLast? ≠ some 32 → (l.foldl sqStep st).1.getLast? ≠ some 32 := by
    intro l
    induction l with
    | nil => intro st h; exact h
    | cons c r ih =>
      intro st h
      rw [List.foldl_cons]
      apply ih
      unfold sqStep
      split
      · exact h
      · rename_i hc; simp; exact fun e => hc (.inl e)
  exact h l ([], false) (by simp)
theorem sq_last' {l o : List UInt8} {b : Bool} (h : sq l = (o, b)) : o.getLast? ≠ some 32 := by
  have := sq_last l; rw [h] at this; exact this
theorem last_get (q : List UInt8) (h : q.length - 1 < (⟨q.toArray⟩ : ByteArray).size) : q.getLast? = some ((⟨q.toArray⟩ : ByteArray)[q.length - 1]) := by
  rw [List.getLast?_eq_getElem?, List.getElem?_eq_getElem h]; rfl
theorem outOf_last {o : List UInt8} {b : Bool} (ho : o.getLast? ≠ some 32) (hq : outOf o b ≠ []) : (outOf o b).getLast? = some 32 ↔ b = true := by
  unfold outOf at *
  cases b
  · simp; exact ho
  · cases o with
    | nil => simp at hq
    | cons x r => simp; rw [← List.cons_append, List.getLast?_concat]
theorem outOf_nil {o : List UInt8} {b : Bool} (h : outOf o b = []) : o = [] := by
  unfold outOf at h
  split at h
  · simp at h
  · exact h
/-- A blank comes: it is written where something stands and no blank is last. -/
theorem out_blank {o q : List UInt8} {b : Bool} (hq : q = outOf o b) (ho : o.getLast? ≠ some 32) : (q = [] → outOf o true = []) ∧ (q ≠ [] → q.getLast? = some 32 → outOf o true = q) ∧ (q ≠ [] → q.getLast? ≠ some 32 → outOf o true = q ++ [32]) := by
  refine ⟨fun h => ?_, fun h hl => ?_, fun h hl => ?_⟩
  · rw [hq] at h; rw [outOf_nil h]; rfl
  · rw [hq] at h hl; rw [(outOf_last ho h).1 hl] at hq; exact hq.symm
  · rw [hq] at h hl
    have hb : b = false := by
      cases b
      · rfl
      · exact absurd ((outOf_last ho h).2 rfl) hl
    subst hb
    have : outOf o false = o := by simp [outOf]
    rw [this] at hq h
    cases o with
    | nil => exact absurd rfl h
    | cons x r => rw [hq]; simp [outOf]
theorem out_plain {o q : List UInt8} {b : Bool} (hq : q = outOf o b) (c : UInt8) (hc : ¬ (c = 32 ∨ c = 95)) : ∃ o', sqStep (o, b) c = (o', false) ∧ outOf o' false = q ++ [c] := by
  unfold sqStep
  rw [if_neg hc]
  refine ⟨_, rfl, ?_⟩
  rw [hq]
  unfold outOf
  cases b <;> cases o <;> simp
theorem out_end {o q : List UInt8} {b : Bool} (hq : q = outOf o b) (ho : o.getLast? ≠ some 32) : (q = [] → o = []) ∧ (q ≠ [] → q.getLast? = some 32 → q.take (q.length - 1) = o) ∧ (q ≠ [] → q.getLast? ≠ some 32 → q = o) := by
  refine ⟨fun h => outOf_nil (hq ▸ h), fun h hl => ?_, fun h hl => ?_⟩
  · rw [hq] at h hl
    have hb := (outOf_last ho h).1 hl
    subst hb
    cases o with
    | nil => simp [outOf] at h
    | cons x r => rw [hq]; simp [outOf]
  · rw [hq] at h hl
    have hb : b = false := by
      cases b
      · rfl
      · exact absurd ((outOf_last ho h).2 rfl) hl
    rw [hq, hb]; simp [outOf]

set_option maxRecDepth 100000 in
set_option maxHeartbeats 1000000 in
theorem blanksRef_any (s : ByteArray) (w : World) (hs : s.size < 4294967281) :
    Calls Tryd.prog 35 #[.string s] w fun e w' => e = .returned (.string ⟨(squeeze s.data.toList).toArray⟩) ∧ w = w' := by
  go_enter Tryd.func35, Tryd.ntmps35
  go_wp2
  go_loop [3, 4] (fun ou i => ∃ (k : Nat) (q o : List UInt8) (b : Bool), k ≤ s.size ∧ i = .int .i64 k ∧ ou = .string ⟨q.toArray⟩ ∧ q.length ≤ k ∧ Hid (q = outOf o b) ∧ Hid (sq (s.data.toList.take k) = (o, b))) (fun _ i => s.size - (intOf i).toNat)
  case atStart => exact ⟨0, [], [], false, Nat.zero_le _, rfl, rfl, Nat.le_refl _, Lib.hid rfl, Lib.hid rfl⟩
  case round =>
    obtain ⟨k, q, o, b, hk, rfl, rfl, hol, hq, hsq⟩ := hrel
    by_cases hlt : k < s.size
    · have hk1 : (k : Int) + 1 ≤ (s.size : Int) := by omega
      have hk2 : k + 1 ≤ s.size := by omega
      have hE := extract_one s k hlt
      have s1 : q.length + 1 ≤ 9223372036854775807 := by omega
      by_cases hb : s[k] = 32 ∨ s[k] = 95
      · have HS := Lib.hid (sq_blank hsq.out hb)
        have HB := Lib.hid (out_blank hq.out (sq_last' hsq.out))
        by_cases hq0 : q = []
        · subst hq0
          rcases hb with h | h
          all_goals
            rw [h] at hE
            have HH := Lib.hid h; clear h
            go_wp2
            go_round
            case rel => exact ⟨k + 1, [], o, true, by omega, by go_num, rfl, by simp, Lib.hid (HB.out.1 rfl).symm, HS⟩
            case measure => simp [intOf]; omega
        · have hqp : 0 < q.length := List.length_pos_iff.2 hq0
          have hqe : q.isEmpty = false := by simpa using hq0
          have hqi : (1 : Int) ≤ (q.length : Int) := by omega
          have hql : q.length - 1 < (⟨q.toArray⟩ : ByteArray).size := by show q.length - 1 < q.length; omega
          have hlg := last_get q hql
          by_cases hc : (⟨q.toArray⟩ : ByteArray)[q.length - 1] = 32
          · have hd : (((⟨q.toArray⟩ : ByteArray)[q.length - 1].toNat : Int) == 32) = true := by rw [hc]; rfl
            have HR := Lib.hid (HB.out.2.1 hq0 (by rw [hlg, hc]))
            clear hlg hc
            rcases hb with h | h
            all_goals
              rw [h] at hE
              have HH := Lib.hid h; clear h
              go_wp2
              go_round
              case rel => exact ⟨k + 1, q, o, true, by omega, by go_num, rfl, by omega, Lib.hid HR.out.symm, HS⟩
              case measure => simp [intOf]; omega
          · have hd : (((⟨q.toArray⟩ : ByteArray)[q.length - 1].toNat : Int) == 32) = false := u8_ne hc
            have HR := Lib.hid (HB.out.2.2 hq0 (by rw [hlg]; simpa using hc))
            clear hlg hc
            rcases hb with h | h
            all_goals
              rw [h] at hE
              have HH := Lib.hid h; clear h
              go_wp2
              go_round
              case rel => exact ⟨k + 1, q ++ [32], o, true, by omega, by go_num, by rw [cat_one], by simp; omega, Lib.hid HR.out.symm, HS⟩
              case measure => simp [intOf]; omega
      · have hn95 : (s[k] == 95) = false := beq_eq_false_iff_ne.2 fun e => hb (.inr e)
        have hn32 : (s[k] == 32) = false := beq_eq_false_iff_ne.2 fun e => hb (.inl e)
        have hm95 : ¬ s[k] = 95 := fun e => hb (.inr e)
        have hm32 : ¬ s[k] = 32 := fun e => hb (.inl e)
        obtain ⟨o', h1, h2⟩ := out_plain hq.out s[k] hb
        have HS : Hid (sq (s.data.toList.take (k + 1)) = (o', false)) := Lib.hid (by rw [take_snoc s k hlt, sq_snoc, hsq.out, h1])
        have HR := Lib.hid h2; clear h1 h2 hb
        go_wp2
        go_round
        case rel => exact ⟨k + 1, q ++ [s[k]], o', false, by omega, by go_num, by rw [cat_one], by simp; omega, Lib.hid HR.out.symm, HS⟩
        case measure => simp [intOf]; omega
    · have hfin : squeeze s.data.toList = o := by
        have := hsq.out
        rw [List.take_of_length_le (by simp; omega)] at this
        unfold squeeze; rw [this]
      have HF := Lib.hid hfin; clear hfin
      have HB := Lib.hid (out_end hq.out (sq_last' hsq.out))
      by_cases hq0 : q = []
      · subst hq0
        have HO := Lib.hid (HB.out.1 rfl)
        go_wp2
        go_ret
        exact ⟨ret_str (by rw [HF.out, HO.out]), rfl⟩
      · have hqp : 0 < q.length := List.length_pos_iff.2 hq0
        have hqi : (1 : Int) ≤ (q.length : Int) := by omega
        have hql : q.length - 1 < (⟨q.toArray⟩ : ByteArray).size := by show q.length - 1 < q.length; omega
        have hlg := last_get q hql
        by_cases hc : (⟨q.toArray⟩ : ByteArray)[q.length - 1] = 32
        · have hd : (((⟨q.toArray⟩ : ByteArray)[q.length - 1].toNat : Int) == 32) = true := by rw [hc]; rfl
          have HR := Lib.hid (HB.out.2.1 hq0 (by rw [hlg, hc]))
          have HX : Hid ((⟨q.toArray⟩ : ByteArray).extract 0 (q.length - 1) = ⟨o.toArray⟩) := Lib.hid (str_of (by rw [Lib.extract_data, ← HR.out]; simp))
          clear hlg hc
          go_wp2
          go_ret
          exact ⟨ret_str (by rw [HF.out]; exact HX.out), rfl⟩
        · have hd : (((⟨q.toArray⟩ : ByteArray)[q.length - 1].toNat : Int) == 32) = false := u8_ne hc
          have HR := Lib.hid (HB.out.2.2 hq0 (by rw [hlg]; simpa using hc))
          clear hlg hc
          go_wp2
          go_ret
          exact ⟨ret_str (by rw [HF.out, HR.out]), rfl⟩
end Go.Proofs.YtaapdhpfjiaeaaaDoor.Ti
