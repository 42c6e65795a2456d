/-
  The contract of Scan of package token: for a text that is not too long the tokens of scanL, in memory of their own.
-/
import Derived.Test.YtdojbnngdlmbgaaGreatDoorTkMark
namespace Go.Proofs.YtdojbnngdlmbgaaGreatDoor.Tk
open Go.RowKit

theorem Scan_long (s : ByteArray) (w : World) (h : 8192 < s.size) (hs : s.size ≤ maxLen) :
    Calls Tryz.prog 29 #[.string s] w fun e w' => e = .returned (.tuple #[.slice none 0 0, .int .i64 3]) ∧ w = w' := by
  unfold maxLen at hs
  have h1 : (8192 : Int) < (s.size : Int) := by omega
  go_enter Tryz.func29, Tryz.ntmps29
  go_wp2
  go_ret2
  exact ⟨rfl, rfl⟩

/-- What Scan leaves: a list of tokens in memory of its own, nothing older changed. -/
def Scanned (w : World) (l : List Tok) (e : Ending) (w' : World) : Prop := ∃ v, e = .returned (.tuple #[v, .int .i64 0]) ∧ Own w' w.heap.size v l ∧ Below w.heap.size w w'
theorem Own.below {w w' : World} {base B : Nat} {v : Value} {l : List Tok} (h : Own w base v l) (hb : Below B w w') (hB : w.heap.size ≤ B) : Own w' base v l := by
  refine ⟨h.1, ?_⟩
  rcases h.2 with h2 | ⟨g, cap, cur, h3, h4, h5, h6⟩
  · exact .inl h2
  · have hlt : g < w.heap.size := (Array.getElem?_eq_some_iff.1 h5).1
    exact .inr ⟨g, cap, cur, h3, h4, (hb.block g (by omega)).trans h5, h6⟩
theorem own_snoc {w : World} {base : Nat} {v : Value} {l : List Tok} {x : Tok} {y : Int} (h : w.ownsRow base 72 3 v (l.length + 1) (cellsOf l ++ [.int .i64 (x.1 : Int), .int .i64 (x.2.1 : Int), .int .i64 y])) (hy : y = (x.2.2 : Int) := by go_num) : Own w base v (l ++ [x]) := by
  subst hy
  unfold Own; rw [cellsOf_append, List.length_append]; exact h
theorem gap_len (a b : Nat) (h : a ≤ b) : (gap a b).length ≤ b - a := by unfold gap; split <;> simp; omega

set_option maxHeartbeats 1000000 in
theorem Scan_any (s : ByteArray) (w : World) (ht : Tb w) (hs : s.size ≤ 8192) :
    Calls Tryz.prog 29 #[.string s] w (Scanned w (scanL s.data.toList 0 0)) := by
  obtain ⟨i0, hi0, hz0, hz1, hz2⟩ := info_parts token_info
  have h1 : ¬ (8192 : Int) < (s.size : Int) := by omega
  have hsl : s.data.toList.length = s.size := rfl
  have HSL := Lib.hid hsl; clear hsl
  go_enter Tryz.func29, Tryz.ntmps29
  go_wp2
  go_loopw [4, 5, 6] (fun tk tx at_ wr => ∃ (l : List Tok) (a k : Nat), tx = .int .i64 a ∧ at_ = .int .i64 k ∧ a ≤ k ∧ k ≤ s.size ∧ l.length ≤ a ∧ Hid (Own wr w.heap.size tk l) ∧ Hid (Below w.heap.size w wr) ∧ Hid (l ++ scanL s.data.toList a k = scanL s.data.toList 0 0)) (fun _ _ at_ _ => s.size - (intOf at_).toNat)
  case atStart => exact ⟨[], 0, 0, rfl, rfl, by omega, by omega, by simp, Lib.hid (World.ownsRow_nil _ _ _ _), Lib.hid (Below.refl _ _), Lib.hid rfl⟩
  case round =>
    obtain ⟨l, a, k, rfl, rfl, hak, hk, hl, ho, hb, hr⟩ := hrel
    by_cases hlt : k < s.size
    · have HX : Hid ((s.extract k s.size).data.toList = s.data.toList.drop k) := Lib.hid (Lib.extract_to_end s k)
      have hxs : Hid (0 < (s.extract k s.size).size ∧ (s.extract k s.size).size < 4294967281) := Lib.hid (by simp; omega)
      have hml := mark_le (s.data.toList.drop k)
      rw [List.length_drop, HSL.out] at hml
      obtain ⟨kd, sz, hM⟩ : ∃ kd sz, mark (s.data.toList.drop k) = (kd, sz) := ⟨_, _, rfl⟩
      rw [hM] at hml
      simp only at hml
      have HM := Lib.hid hM; clear hM
      have htw : Hid (Tb wr) := Lib.hid (ht.below hb.out)
      by_cases h0 : sz = 0
      · have HN : Hid (scanL s.data.toList a k = scanL s.data.toList a (k + 1)) := Lib.hid (scan_no (by rw [HSL.out]; exact hlt) (by rw [HM.out]; exact h0))
        subst h0
        go_wp2_with fail
        refine (mark_any _ _ htw.out hxs.out.1 hxs.out.2).mono ?_
        rintro e w' ⟨rfl, hb1⟩
        rw [HX.out, HM.out]
        unfold two
        go_wp2
        go_roundw
        case rel => exact ⟨l, a, k + 1, rfl, by go_num, by omega, by omega, hl, Lib.hid (Own.below ho.out hb1 (Nat.le_refl _)), Lib.hid (hb.out.trans (hb1.mono hb.out.size)), Lib.hid (by rw [← HN.out]; exact hr.out)⟩
        case measure => simp [intOf]; omega
      · have HN : Hid (scanL s.data.toList a k = gap a k ++ (kd, k, k + sz) :: scanL s.data.toList (k + sz) (k + sz)) := Lib.hid (by
          have := scan_yes (s := s.data.toList) (text := a) (i := k) (by rw [HSL.out]; exact hlt) (by rw [HM.out]; exact h0)
          rw [HM.out] at this; exact this)
        have hz : ((sz : Int) == 0) = false := by rw [beq_eq_false_iff_ne]; omega
        have hgl := gap_len a k hak
        go_wp2_with fail
        refine (mark_any _ _ htw.out hxs.out.1 hxs.out.2).mono ?_
        rintro e w1 ⟨rfl, hb1⟩
        rw [HX.out, HM.out]
        unfold two
        have ho1 : Hid (Own w1 w.heap.size u4 l) := Lib.hid (Own.below ho.out hb1 (Nat.le_refl _))
        have hb2 : Hid (Below w.heap.size w w1) := Lib.hid (hb.out.trans (hb1.mono hb.out.size))
        clear hb1 ho hb htw hxs
        go_wp2_with fail
        refine (appendText_any _ l a k w.heap.size _ hb2.out.size ho1.out (by omega)).mono ?_
        rintro e w2 ⟨v2, rfl, ho2, hb3⟩
        have ho2' := Lib.hid ho2; clear ho2
        have hb4 : Hid (Below w.heap.size w w2) := Lib.hid (hb2.out.trans hb3)
        have hsz : w.heap.size ≤ w2.heap.size := hb4.out.size
        clear hb3 hb2 ho1
        go_wp2_with (at_builtin; refine wpList_append_own _ rfl (.tmp 31) (.tmp 38) _ rfl w.heap.size 72 i0 _ 3 24 Tryz.underlying63 hi0 hz0 hz1 hz2 rfl (by omega) v2 (l ++ gap a k).length (cellsOf (l ++ gap a k)) rfl (World.ownsRow.alloc ho2'.out _) ⟨w2.heap.size, 0, none⟩ 1 1 [.int .i64 (kd : Int), .int .i64 (k : Int), .int .i64 ((k : Int) + (sz : Int))] rfl rfl (cells3 _ _ _ _ _) (by simp [Value.oneCell']) (by simp only [maxLen, List.length_append]; omega) (by simp only [List.length_append]; omega) (by simp; omega) ?_; intro v3 w3 ho3 hg3 _)
        go_roundw
        case rel => exact ⟨(l ++ gap a k) ++ [(kd, k, k + sz)], k + sz, k + sz, by go_num, by go_num, by omega, by omega, by simp only [List.length_append, List.length_singleton]; omega,
          Lib.hid (own_snoc (x := (kd, k, k + sz)) ho3), Lib.hid (hb4.out.trans (((Below.refl _ _).alloc hsz _).trans (below_own (World.ownsRow.alloc ho2'.out _) hg3 (by simp; omega)))), Lib.hid (by rw [← hr.out, HN.out]; simp)⟩
        case measure => simp [intOf]; omega
    · have HN : Hid (scanL s.data.toList a k = gap a s.size) := Lib.hid (scan_end (by rw [HSL.out]; exact hlt))
      go_wp2_with fail
      refine (appendText_any _ l a s.size w.heap.size _ hb.out.size ho.out (by omega)).mono ?_
      rintro e w2 ⟨v2, rfl, ho2, hb3⟩
      have ho2' := Lib.hid ho2; clear ho2
      go_wp2
      go_ret2
      exact ⟨v2, rfl, by rw [← hr.out, HN.out]; exact ho2'.out, hb.out.trans hb3⟩
end Go.Proofs.YtdojbnngdlmbgaaGreatDoor.Tk
