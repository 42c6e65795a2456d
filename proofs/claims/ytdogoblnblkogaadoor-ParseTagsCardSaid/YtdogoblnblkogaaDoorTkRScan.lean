/-
  The contract of the reference's Scan: the tokens of scanL too.
-/
import Derived.Test.YtdogoblnblkogaaDoorTkSpecP
import Derived.Test.YtdogoblnblkogaaDoorTkSpecO
namespace Go.Proofs.YtdogoblnblkogaaDoor.Tk
open Go.RowKit

theorem special_any (s : ByteArray) (i : Nat) (w : World) (hi : i < s.size) (hs : s.size ≤ 8192) :
    Calls Tryd.prog 37 #[.string s, .int .i64 (i : Int)] w fun e w' => e = .returned (two (ends i (specL (s.data.toList.drop i)))) ∧ Below w.heap.size w w' := by
  cases h1 : Lib.hasPrefix (s.data.toList.drop i) [60, 33, 45, 45]
  · cases h2 : Lib.hasPrefix (s.data.toList.drop i) [60, 110, 111, 119, 105, 107, 105, 62]
    · exact special_plain s i w hi hs h1 h2
    · by_cases h0 : upTo (s.data.toList.drop i) nO nE = 0
      · exact special_open s i w hi hs h1 h2 h0
      · exact special_nowiki s i w hi hs h1 h2 h0
  · exact special_comment s i w hi hs h1
theorem ends_mark (i : Nat) (l : List UInt8) : ends i (specL l) = if (mark l).2 = 0 then (0, 0) else ((mark l).1, i + (mark l).2) := by
  rw [spec_mark]
  split
  · rfl
  · rename_i h; unfold ends; rw [if_neg h]

set_option maxHeartbeats 2000000 in
theorem ScanR_any (s : ByteArray) (w : World) (hs : s.size ≤ 8192) :
    Calls Tryd.prog 15 #[.string s] w (Scanned w (scanL s.data.toList 0 0)) := by
  obtain ⟨i0, hi0, hz0, hz1, hz2⟩ := info_parts token_info
  have h1 : ¬ (8192 : Int) < (s.size : Int) := by omega
  have hsl : s.data.toList.length = s.size := rfl
  have HSL := Lib.hid hsl; clear hsl
  go_enter Tryd.func15, Tryd.ntmps15
  go_wp2
  go_loopw [4, 5, 6] (fun tk tx at_ wr => ∃ (l : List Tok) (a k : Nat), tx = .int .i64 a ∧ at_ = .int .i64 k ∧ a ≤ k ∧ k ≤ s.size ∧ l.length ≤ a ∧ Hid (Own wr w.heap.size tk l) ∧ Hid (Below w.heap.size w wr) ∧ Hid (l ++ scanL s.data.toList a k = scanL s.data.toList 0 0)) (fun _ _ at_ _ => s.size - (intOf at_).toNat)
  case atStart => exact ⟨[], 0, 0, rfl, rfl, by omega, by omega, by simp, Lib.hid (World.ownsRow_nil _ _ _ _), Lib.hid (Below.refl _ _), Lib.hid rfl⟩
  case round =>
    obtain ⟨l, a, k, rfl, rfl, hak, hk, hl, ho, hb, hr⟩ := hrel
    by_cases hlt : k < s.size
    · have hml := mark_le (s.data.toList.drop k)
      rw [List.length_drop, HSL.out] at hml
      have hmk : (mark (s.data.toList.drop k)).2 ≠ 0 → (mark (s.data.toList.drop k)).1 ≠ 0 := fun h => by have := mark_kind h; omega
      have hem := ends_mark k (s.data.toList.drop k)
      obtain ⟨kd, sz, hM⟩ : ∃ kd sz, mark (s.data.toList.drop k) = (kd, sz) := ⟨_, _, rfl⟩
      rw [hM] at hml hmk hem
      simp only at hml hmk hem
      have HM := Lib.hid hM; clear hM
      by_cases h0 : sz = 0
      · have HN : Hid (scanL s.data.toList a k = scanL s.data.toList a (k + 1)) := Lib.hid (scan_no (by rw [HSL.out]; exact hlt) (by rw [HM.out]; exact h0))
        have HE : Hid (ends k (specL (s.data.toList.drop k)) = (0, 0)) := Lib.hid (by rw [hem, if_pos h0])
        clear hem hmk h0
        go_wp2_with fail
        refine (special_any _ k _ (by omega) (by omega)).mono ?_
        rintro e w' ⟨rfl, hb1⟩
        rw [HE.out]
        unfold two
        go_wp2
        go_roundw
        case rel => exact ⟨l, a, k + 1, rfl, by go_num, by omega, by omega, hl, Lib.hid (Own.below ho.out hb1 (Nat.le_refl _)), Lib.hid (hb.out.trans (hb1.mono hb.out.size)), Lib.hid (by rw [← HN.out]; exact hr.out)⟩
        case measure => simp [intOf]; omega
      · have HN : Hid (scanL s.data.toList a k = gap a k ++ (kd, k, k + sz) :: scanL s.data.toList (k + sz) (k + sz)) := Lib.hid (by
          have := scan_yes (s := s.data.toList) (text := a) (i := k) (by rw [HSL.out]; exact hlt) (by rw [HM.out]; exact h0)
          rw [HM.out] at this; exact this)
        have HE : Hid (ends k (specL (s.data.toList.drop k)) = (kd, k + sz)) := Lib.hid (by rw [hem, if_neg h0])
        have hkd := hmk h0
        clear hem hmk
        have hz : ((kd : Int) == 0) = false := by rw [beq_eq_false_iff_ne]; omega
        by_cases hlt2 : a < k
        · have hgl : gap a k = [(1, a, k)] := by unfold gap; rw [if_neg (by omega)]
          rw [hgl] at HN
          clear hgl
          have hd1 : (a : Int) < (k : Int) := by omega
          go_wp2_with fail
          refine (special_any _ k _ (by omega) (by omega)).mono ?_
          rintro e w1 ⟨rfl, hb1⟩
          rw [HE.out]
          unfold two
          have ho1 : Hid (Own w1 w.heap.size u4 l) := Lib.hid (Own.below ho.out hb1 (Nat.le_refl _))
          have hb2 : Hid (Below w.heap.size w w1) := Lib.hid (hb.out.trans (hb1.mono hb.out.size))
          have hs1 : w.heap.size ≤ w1.heap.size := hb2.out.size
          clear hb1 ho hb
          go_wp2_with (first
            | (at_builtin; refine wpList_append_own _ rfl (.tmp 29) (.tmp 33) _ rfl w.heap.size 42 i0 _ 3 24 Tryd.underlying38 hi0 hz0 hz1 hz2 rfl (by omega) u4 l.length (cellsOf l) rfl (World.ownsRow.alloc ho1.out _) ⟨w1.heap.size, 0, none⟩ 1 1 [.int .i64 1, .int .i64 (a : Int), .int .i64 (k : Int)] rfl rfl (cells3 _ _ _ _ _) (by simp [Value.oneCell']) (by simp only [maxLen]; omega) (by omega) (by simp; omega) ?_; intro v2 w2 ho2 hg2 _
               have ho2' : Hid (Own w2 w.heap.size v2 (l ++ [(1, a, k)])) := Lib.hid (own_snoc (x := (1, a, k)) ho2)
               have hb4 : Hid (Below w.heap.size w w2) := Lib.hid (hb2.out.trans (((Below.refl _ _).alloc hs1 _).trans (below_own (World.ownsRow.alloc ho1.out _) hg2 (by simp; omega))))
               have hsz : w.heap.size ≤ w2.heap.size := hb4.out.size
               clear ho2 hg2 ho1 hb2)
            | (at_builtin; refine wpList_append_own _ rfl (.tmp 35) (.tmp 40) _ rfl w.heap.size 42 i0 _ 3 24 Tryd.underlying38 hi0 hz0 hz1 hz2 rfl (by omega) v2 (l ++ [(1, a, k)]).length (cellsOf (l ++ [(1, a, k)])) rfl (World.ownsRow.alloc ho2'.out _) ⟨w2.heap.size, 0, none⟩ 1 1 [.int .i64 (kd : Int), .int .i64 (k : Int), .int .i64 ((k : Int) + (sz : Int))] rfl rfl (cells3 _ _ _ _ _) (by simp [Value.oneCell']) (by simp only [maxLen, List.length_append, List.length_singleton]; omega) (by simp only [List.length_append, List.length_singleton]; omega) (by simp; omega) ?_; intro v3 w3 ho3 hg3 _))
          go_roundw
          case rel => exact ⟨(l ++ [(1, a, k)]) ++ [(kd, k, k + sz)], k + sz, k + sz, by go_num, by go_num, by omega, by omega, by simp only [List.length_append, List.length_singleton]; omega,
            Lib.hid (own_snoc (x := (kd, k, k + sz)) ho3), Lib.hid (hb4.out.trans (((Below.refl _ _).alloc hsz _).trans (below_own (World.ownsRow.alloc ho2'.out _) hg3 (by simp; omega)))), Lib.hid (by rw [← hr.out, HN.out]; simp)⟩
          case measure => simp [intOf]; omega
        · obtain rfl : a = k := by omega
          have hgl : gap a a = [] := by unfold gap; rw [if_pos rfl]
          rw [hgl, List.nil_append] at HN
          clear hgl
          go_wp2_with fail
          refine (special_any _ a _ (by omega) (by omega)).mono ?_
          rintro e w1 ⟨rfl, hb1⟩
          rw [HE.out]
          unfold two
          have ho1 : Hid (Own w1 w.heap.size u4 l) := Lib.hid (Own.below ho.out hb1 (Nat.le_refl _))
          have hb2 : Hid (Below w.heap.size w w1) := Lib.hid (hb.out.trans (hb1.mono hb.out.size))
          have hs1 : w.heap.size ≤ w1.heap.size := hb2.out.size
          clear hb1 ho hb
          go_wp2_with (at_builtin; refine wpList_append_own _ rfl (.tmp 35) (.tmp 40) _ rfl w.heap.size 42 i0 _ 3 24 Tryd.underlying38 hi0 hz0 hz1 hz2 rfl (by omega) u4 l.length (cellsOf l) rfl (World.ownsRow.alloc ho1.out _) ⟨w1.heap.size, 0, none⟩ 1 1 [.int .i64 (kd : Int), .int .i64 (a : Int), .int .i64 ((a : Int) + (sz : Int))] rfl rfl (cells3 _ _ _ _ _) (by simp [Value.oneCell']) (by simp only [maxLen]; omega) (by omega) (by simp; omega) ?_; intro v3 w3 ho3 hg3 _)
          go_roundw
          case rel => exact ⟨l ++ [(kd, a, a + sz)], a + sz, a + sz, by go_num, by go_num, by omega, by omega, by simp only [List.length_append, List.length_singleton]; omega,
            Lib.hid (own_snoc (x := (kd, a, a + sz)) ho3), Lib.hid (hb2.out.trans (((Below.refl _ _).alloc hs1 _).trans (below_own (World.ownsRow.alloc ho1.out _) hg3 (by simp; omega)))), Lib.hid (by rw [← hr.out, HN.out]; simp)⟩
          case measure => simp [intOf]; omega
    · have HN : Hid (scanL s.data.toList a k = gap a s.size) := Lib.hid (scan_end (by rw [HSL.out]; exact hlt))
      have hs1 : w.heap.size ≤ wr.heap.size := hb.out.size
      by_cases hlt2 : a < s.size
      · have hgl : gap a s.size = [(1, a, s.size)] := by unfold gap; rw [if_neg (by omega)]
        rw [hgl] at HN
        clear hgl
        have hd1 : (a : Int) < (s.size : Int) := by omega
        go_wp2_with (at_builtin; refine wpList_append_own _ rfl (.tmp 48) (.tmp 53) _ rfl w.heap.size 42 i0 _ 3 24 Tryd.underlying38 hi0 hz0 hz1 hz2 rfl (by omega) u4 l.length (cellsOf l) rfl (World.ownsRow.alloc ho.out _) ⟨wr.heap.size, 0, none⟩ 1 1 [.int .i64 1, .int .i64 (a : Int), .int .i64 (s.size : Int)] rfl rfl (cells3 _ _ _ _ _) (by simp [Value.oneCell']) (by simp only [maxLen]; omega) (by omega) (by simp; omega) ?_; intro v3 w3 ho3 hg3 _)
        go_ret2
        exact ⟨v3, rfl, by rw [← hr.out, HN.out]; exact own_snoc (x := (1, a, s.size)) ho3, hb.out.trans (((Below.refl _ _).alloc hs1 _).trans (below_own (World.ownsRow.alloc ho.out _) hg3 (by simp; omega)))⟩
      · have hgl : gap a s.size = [] := by unfold gap; rw [if_pos (by omega)]
        rw [hgl] at HN
        clear hgl
        have hd1 : ¬ (a : Int) < (s.size : Int) := by omega
        go_wp2
        go_ret2
        exact ⟨u4, rfl, by rw [← hr.out, HN.out]; simpa using ho.out, hb.out⟩
end Go.Proofs.YtdogoblnblkogaaDoor.Tk
