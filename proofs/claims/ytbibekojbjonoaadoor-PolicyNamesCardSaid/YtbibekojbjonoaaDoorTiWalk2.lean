/-
  The contract of squeeze of package title, for every argument that is not too long.
-/
import Derived.Test.YtbibekojbjonoaaDoorTiWalk1
namespace Go.Proofs.YtbibekojbjonoaaDoor.Ti
open Go.RowKit

theorem sq_blank {s : ByteArray} {k : Nat} {o : List UInt8} {b : Bool} (h : sq (s.data.toList.take k) = (o, b)) {hk : k < s.size} (hc : s[k] = 32 ∨ s[k] = 95) : sq (s.data.toList.take (k + 1)) = (o, true) := by
  rw [take_snoc s k hk, sq_snoc, h, sqStep, if_pos hc]
theorem sq_wait {s : ByteArray} {k : Nat} {o : List UInt8} (h : sq (s.data.toList.take k) = (o, true)) {hk : k < s.size} (hc : ¬ (s[k] = 32 ∨ s[k] = 95)) (ho : o ≠ []) : sq (s.data.toList.take (k + 1)) = (o ++ [32] ++ [s[k]], false) := by
  rw [take_snoc s k hk, sq_snoc, h, sqStep, if_neg hc]; cases o <;> simp at ho ⊢
theorem sq_first {s : ByteArray} {k : Nat} {b : Bool} (h : sq (s.data.toList.take k) = ([], b)) {hk : k < s.size} (hc : ¬ (s[k] = 32 ∨ s[k] = 95)) : sq (s.data.toList.take (k + 1)) = ([s[k]], false) := by
  rw [take_snoc s k hk, sq_snoc, h, sqStep, if_neg hc]; simp
theorem sq_plain {s : ByteArray} {k : Nat} {o : List UInt8} (h : sq (s.data.toList.take k) = (o, false)) {hk : k < s.size} (hc : ¬ (s[k] = 32 ∨ s[k] = 95)) : sq (s.data.toList.take (k + 1)) = (o ++ [s[k]], false) := by
  rw [take_snoc s k hk, sq_snoc, h, sqStep, if_neg hc]; simp
theorem sq_room {s : ByteArray} {k : Nat} {o : List UInt8} {b : Bool} (h : sq (s.data.toList.take k) = (o, b)) : o.length ≤ k := by
  have := sq_len (s.data.toList.take k)
  rw [h] at this
  simp at this; omega
theorem byteCells_snoc' (o : List UInt8) (c : UInt8) : Lib.byteCells o ++ [Value.int .u8 (c.toNat : Int)] = Lib.byteCells (o ++ [c]) := by
  rw [Lib.byteCells_append]; rfl
theorem u8_ne {a b : UInt8} (h : a ≠ b) : ((a.toNat : Int) == (b.toNat : Int)) = false := by
  rw [beq_eq_false_iff_ne]; intro e; exact h (UInt8.toNat_inj.1 (by omega))

set_option maxHeartbeats 1000000 in
theorem squeeze_any (s : ByteArray) (w : World) (hs : s.size < 4294967281) :
    Calls Tryd.prog 61 #[.string s] w fun e w' => e = .returned (.string ⟨(squeeze s.data.toList).toArray⟩) ∧ Below w.heap.size w w' := by
  go_enter Tryd.func61, Tryd.ntmps61
  go_wp2
  go_loopw [4, 8] (fun wt i wr => ∃ (k : Nat) (o : List UInt8) (b : Bool), k ≤ s.size ∧ i = .int .i64 k ∧ wt = .bool b ∧ Hid (sq (s.data.toList.take k) = (o, b)) ∧ Hid (Lib.IsBuilder 109 5 w.heap.size w.heap.size (Lib.byteCells o) wr) ∧ Below w.heap.size w wr) (fun _ i _ => s.size - (intOf i).toNat)
  case atStart => exact ⟨0, [], false, Nat.zero_le _, rfl, rfl, Lib.hid rfl, Lib.hid (Lib.fresh_isBuilder _ _ w), (Below.refl _ w).alloc (Nat.le_refl _) _⟩
  case round =>
    obtain ⟨k, o, b, hk, rfl, rfl, hsq, hbu, hbel⟩ := hrel
    have hol := sq_room hsq.out
    have hz := hbel.size
    by_cases hlt : k < s.size
    · by_cases h32 : s[k] = 32
      · have hd : ((s[k].toNat : Int) == 32) = true := by rw [h32]; rfl
        have H := Lib.hid h32; clear h32
        go_wp2
        go_roundw
        case rel => exact ⟨k + 1, o, true, by omega, by go_num, rfl, Lib.hid (sq_blank hsq.out (.inl H.out)), hbu, hbel⟩
        case measure => simp [intOf]; omega
      · have hd : ((s[k].toNat : Int) == 32) = false := u8_ne h32
        by_cases h95 : s[k] = 95
        · have hd2 : ((s[k].toNat : Int) == 95) = true := by rw [h95]; rfl
          have H := Lib.hid h95; clear h95
          go_wp2
          go_roundw
          case rel => exact ⟨k + 1, o, true, by omega, by go_num, rfl, Lib.hid (sq_blank hsq.out (.inr H.out)), hbu, hbel⟩
          case measure => simp [intOf]; omega
        · have hd2 : ((s[k].toNat : Int) == 95) = false := u8_ne h95
          have hn : ¬ (s[k] = 32 ∨ s[k] = 95) := fun h => h.elim h32 h95
          have HN := Lib.hid hn; clear hn h32 h95
          cases b
          · go_wp2_with fail
            refine (Tryd.Builder_WriteByte _ _ _ _ _ hbu.out (by rw [Lib.byteCells_length]; omega) hz).mono ?_
            rintro e w1 ⟨rfl, hb1, hbe1⟩
            have HB := Lib.hid hb1; clear hb1
            go_wp2
            go_roundw
            case rel => exact ⟨k + 1, o ++ [s[k]], false, by omega, by go_num, rfl, Lib.hid (sq_plain hsq.out HN.out), Lib.hid (.inr (by rw [← byteCells_snoc']; exact HB.out)), hbel.trans hbe1⟩
            case measure => simp [intOf]; omega
          · by_cases ho : o = []
            · subst ho
              go_wp2_with fail
              refine (Tryd.Builder_Len _ _ _ _ hbu.out).mono ?_
              rintro e w' ⟨rfl, rfl⟩
              go_wp2_with fail
              refine (Tryd.Builder_WriteByte _ _ _ _ _ hbu.out (by rw [Lib.byteCells_length]; simp) hz).mono ?_
              rintro e w1 ⟨rfl, hb1, hbe1⟩
              have HB := Lib.hid hb1; clear hb1
              go_wp2
              go_roundw
              case rel => exact ⟨k + 1, [s[k]], false, by omega, by go_num, rfl, Lib.hid (sq_first hsq.out HN.out), Lib.hid (.inr HB.out), hbel.trans hbe1⟩
              case measure => simp [intOf]; omega
            · have hop : 0 < (Lib.byteCells o).length := by rw [Lib.byteCells_length]; exact List.length_pos_iff.2 ho
              have HO := Lib.hid ho; clear ho
              go_wp2_with fail
              refine (Tryd.Builder_Len _ _ _ _ hbu.out).mono ?_
              rintro e w' ⟨rfl, rfl⟩
              go_wp2_with fail
              refine (Tryd.Builder_WriteByte _ _ _ _ _ hbu.out (by rw [Lib.byteCells_length]; omega) hz).mono ?_
              rintro e w1 ⟨rfl, hb1, hbe1⟩
              have HB := Lib.hid hb1; clear hb1
              have hz1 := hbe1.size
              go_wp2_with fail
              refine (Tryd.Builder_WriteByte _ _ _ _ _ (.inr HB.out) (by simp [Lib.byteCells_length]; omega) (by omega)).mono ?_
              rintro e w2 ⟨rfl, hb2, hbe2⟩
              have HB2 := Lib.hid hb2; clear hb2
              go_wp2
              go_roundw
              case rel => exact ⟨k + 1, o ++ [32] ++ [s[k]], false, by omega, by go_num, rfl, Lib.hid (sq_wait hsq.out HN.out HO.out), Lib.hid (.inr (by rw [← byteCells_snoc', ← byteCells_snoc']; exact HB2.out)), (hbel.trans hbe1).trans hbe2⟩
              case measure => simp [intOf]; omega
    · have hfin : squeeze s.data.toList = o := by
        have := hsq.out
        rw [List.take_of_length_le (by simp; omega)] at this
        unfold squeeze; rw [this]
      have HF := Lib.hid hfin; clear hfin
      go_wp2_with fail
      refine (Tryd.Builder_String_any _ _ o _ hbu.out hz).mono ?_
      rintro e w1 ⟨rfl, hbe1⟩
      go_wp2
      go_ret
      exact ⟨ret_str (by rw [HF.out]), hbel.trans hbe1⟩
end Go.Proofs.YtbibekojbjonoaaDoor.Ti
