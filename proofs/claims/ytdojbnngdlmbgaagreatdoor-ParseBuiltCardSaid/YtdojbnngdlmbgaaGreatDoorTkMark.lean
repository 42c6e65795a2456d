/-
  The contract of mark of package token, and of appendText over a list that the caller owns.
-/
import Derived.Test.YtdojbnngdlmbgaaGreatDoorTkAngle
import Derived.Maps.AppendAt
import Derived.Deep.AppendLies
import Derived.RegionTactic
import Derived.OwnWalk
import Derived.Laws.OwnMore
namespace Go.Proofs.YtdojbnngdlmbgaaGreatDoor.Tk
open Go.RowKit

theorem angle_any (s : ByteArray) (w : World) (ht : Tb w) (hs : s.size < 4294967281) :
    Calls Tryz.prog 109 #[.string s] w fun e w' => e = .returned (two (angle s.data.toList)) ∧ Below w.heap.size w w' := by
  cases h1 : Lib.hasPrefix s.data.toList [60, 33, 45, 45]
  · cases h2 : Lib.hasPrefix s.data.toList [60, 110, 111, 119, 105, 107, 105, 62]
    · exact angle_tags s w ht h1 h2
    · exact (angle_nowiki s w ht hs h1 h2).mono fun _ _ ⟨a, b⟩ => ⟨a, b ▸ Below.refl _ _⟩
  · exact (angle_comment s w ht hs h1).mono fun _ _ ⟨a, b⟩ => ⟨a, b ▸ Below.refl _ _⟩

theorem head_data (s : ByteArray) (h : 0 < s.size) : s.data.toList = s[0] :: s.data.toList.drop 1 := by
  have h' : 0 < s.data.toList.length := h
  exact (List.getElem_cons_drop h').symm
theorem byte_ne {c : UInt8} {n : Nat} (h : c.toNat ≠ n) : ((c.toNat : Int) == (n : Int)) = false := by rw [beq_eq_false_iff_ne]; omega

set_option maxHeartbeats 1000000 in
theorem mark_any (s : ByteArray) (w : World) (ht : Tb w) (h0 : 0 < s.size) (hs : s.size < 4294967281) :
    Calls Tryz.prog 58 #[.string s] w fun e w' => e = .returned (two (mark s.data.toList)) ∧ Below w.heap.size w w' := by
  have hd := head_data s h0
  have h0' : (0 : Int) < (s.size : Int) := by omega
  have hml : s.size ≤ maxLen := by unfold maxLen; omega
  have HML := Lib.hid hml; clear hml
  rcases byte_cases s[0] with h | h | h | h | h | h | h | h | ⟨h1, h2, h3, h4, h5, h6, h7, h8⟩
  · have hc : (s[0].toNat : Int) = 60 := by rw [h]; rfl
    have HM : Hid (mark s.data.toList = angle s.data.toList) := Lib.hid (by rw [hd, h]; rfl)
    clear hd h
    go_enter Tryz.func58, Tryz.ntmps58
    go_wp2_with fail
    refine (angle_any _ _ ht hs).mono ?_
    rintro e w' ⟨rfl, hb⟩
    unfold two
    go_wp2
    go_ret2
    exact ⟨by rw [HM.out]; rfl, hb⟩
  · have hc : (s[0].toNat : Int) = 123 := by rw [h]; rfl
    have HM : Hid (mark s.data.toList = braces 123 3 s.data.toList) := Lib.hid (by rw [hd, h]; rfl)
    clear hd
    have H := Lib.hid h; clear h
    go_enter Tryz.func58, Tryz.ntmps58
    go_wp2_with fail
    refine (braces_any _ 123 3 _ HML.out h0 H.out (by decide)).mono ?_
    rintro e w' ⟨rfl, rfl⟩
    unfold two
    go_wp2
    go_ret2
    exact ⟨by rw [HM.out]; rfl, Below.refl _ _⟩
  · have hc : (s[0].toNat : Int) = 125 := by rw [h]; rfl
    have HM : Hid (mark s.data.toList = braces 125 4 s.data.toList) := Lib.hid (by rw [hd, h]; rfl)
    clear hd
    have H := Lib.hid h; clear h
    go_enter Tryz.func58, Tryz.ntmps58
    go_wp2_with fail
    refine (braces_any _ 125 4 _ HML.out h0 H.out (by decide)).mono ?_
    rintro e w' ⟨rfl, rfl⟩
    unfold two
    go_wp2
    go_ret2
    exact ⟨by rw [HM.out]; rfl, Below.refl _ _⟩
  · have hc : (s[0].toNat : Int) = 91 := by rw [h]; rfl
    have HM : Hid (mark s.data.toList = pair 5 s.data.toList) := Lib.hid (by rw [hd, h]; rfl)
    clear hd h
    go_enter Tryz.func58, Tryz.ntmps58
    go_wp2_with fail
    refine (pair_any _ 5 _ h0 HML.out).mono ?_
    rintro e w' ⟨rfl, ⟨n, rfl⟩⟩
    unfold two
    go_wp2
    go_ret2
    exact ⟨by rw [HM.out]; rfl, below_drewN (Below.refl _ _) n⟩
  · have hc : (s[0].toNat : Int) = 93 := by rw [h]; rfl
    have HM : Hid (mark s.data.toList = pair 6 s.data.toList) := Lib.hid (by rw [hd, h]; rfl)
    clear hd h
    go_enter Tryz.func58, Tryz.ntmps58
    go_wp2_with fail
    refine (pair_any _ 6 _ h0 HML.out).mono ?_
    rintro e w' ⟨rfl, ⟨n, rfl⟩⟩
    unfold two
    go_wp2
    go_ret2
    exact ⟨by rw [HM.out]; rfl, below_drewN (Below.refl _ _) n⟩
  · have hc : (s[0].toNat : Int) = 124 := by rw [h]; rfl
    have HM : Hid (mark s.data.toList = (7, 1)) := Lib.hid (by rw [hd, h]; rfl)
    clear hd h
    go_enter Tryz.func58, Tryz.ntmps58
    go_wp2
    go_ret2
    exact ⟨by rw [HM.out]; rfl, Below.refl _ _⟩
  · have hc : (s[0].toNat : Int) = 61 := by rw [h]; rfl
    have HM : Hid (mark s.data.toList = (8, 1)) := Lib.hid (by rw [hd, h]; rfl)
    clear hd h
    go_enter Tryz.func58, Tryz.ntmps58
    go_wp2
    go_ret2
    exact ⟨by rw [HM.out]; rfl, Below.refl _ _⟩
  · have hc : (s[0].toNat : Int) = 10 := by rw [h]; rfl
    have HM : Hid (mark s.data.toList = (2, 1)) := Lib.hid (by rw [hd, h]; rfl)
    clear hd h
    go_enter Tryz.func58, Tryz.ntmps58
    go_wp2
    go_ret2
    exact ⟨by rw [HM.out]; rfl, Below.refl _ _⟩
  · have HM : Hid (mark s.data.toList = (0, 0)) := Lib.hid (by rw [hd]; exact mo _ h1 h2 h3 h4 h5 h6 h7 h8)
    clear hd
    have n1 : ((s[0].toNat : Int) == 60) = false := byte_ne fun e => h1 (UInt8.toNat_inj.1 e)
    have n2 : ((s[0].toNat : Int) == 123) = false := byte_ne fun e => h2 (UInt8.toNat_inj.1 e)
    have n3 : ((s[0].toNat : Int) == 125) = false := byte_ne fun e => h3 (UInt8.toNat_inj.1 e)
    have n4 : ((s[0].toNat : Int) == 91) = false := byte_ne fun e => h4 (UInt8.toNat_inj.1 e)
    have n5 : ((s[0].toNat : Int) == 93) = false := byte_ne fun e => h5 (UInt8.toNat_inj.1 e)
    have n6 : ((s[0].toNat : Int) == 124) = false := byte_ne fun e => h6 (UInt8.toNat_inj.1 e)
    have n7 : ((s[0].toNat : Int) == 61) = false := byte_ne fun e => h7 (UInt8.toNat_inj.1 e)
    have n8 : ((s[0].toNat : Int) == 10) = false := byte_ne fun e => h8 (UInt8.toNat_inj.1 e)
    clear h1 h2 h3 h4 h5 h6 h7 h8
    go_enter Tryz.func58, Tryz.ntmps58
    go_wp2
    go_ret2
    exact ⟨by rw [HM.out]; rfl, Below.refl _ _⟩

/-- The cells of tokens, three a token. -/
def cellsOf (l : List Tok) : List Value := l.flatMap fun x => [.int .i64 (x.1 : Int), .int .i64 (x.2.1 : Int), .int .i64 (x.2.2 : Int)]
theorem cellsOf_append (a b : List Tok) : cellsOf (a ++ b) = cellsOf a ++ cellsOf b := by simp [cellsOf]
theorem cellsOf_length (l : List Tok) : (cellsOf l).length = l.length * 3 := by
  induction l with
  | nil => rfl
  | cons a r ih => simp [cellsOf] at ih ⊢; omega
theorem token_info : (Tryz.prog.info? 72).map (fun i => (i.zero, i.size, i.bytes)) = some (some (.agg #[.int .i64 0, .int .i64 0, .int .i64 0]), 3, 24) := by kernel_rfl

/-- A list of tokens of the caller's own, as the functions hand it on. -/
def Own (w : World) (base : Nat) (v : Value) (l : List Tok) : Prop := w.ownsRow base 72 3 v l.length (cellsOf l)
theorem cells3 (w : World) (x y z : Value) (t : TypeId) : ∀ j u, [x, y, z][j]? = some u → (w.alloc (.cells #[x, y, z] t)).cell? ((⟨w.heap.size, 0, none⟩ : Addr).add j) = some u := by
  intro j u h
  have hadd : (⟨w.heap.size, 0, none⟩ : Addr).add j = ⟨w.heap.size, j, none⟩ := by unfold Addr.add; split <;> simp_all
  rw [hadd, cell_of_row _ _ j #[x, y, z] t (0, 0) (heap_alloc_new w _)]
  simpa using h
theorem below_own {w w' : World} {base : Nat} {v : Value} {l : List Tok} (ho : Own w base v l) (hg : w.grownBy w' v.ownBlock) (hb : base ≤ w.heap.size) : Below base w w' :=
  (Below.refl _ _).grown hg hb fun k hk => (World.ownsRow.lt ho k hk).1

theorem appendText_any (v : Value) (l : List Tok) (a b base : Nat) (w : World) (hb : base ≤ w.heap.size) (ho : Own w base v l) (hl : l.length ≤ 65536) :
    Calls Tryz.prog 59 #[v, .int .i64 (a : Int), .int .i64 (b : Int)] w fun e w' => ∃ v', e = .returned v' ∧ Own w' base v' (l ++ gap a b) ∧ Below base w w' := by
  by_cases h : a = b
  · have e1 : ((a : Int) == (b : Int)) = true := by rw [beq_iff_eq]; omega
    have HG : Hid (l ++ gap a b = l) := Lib.hid (by unfold gap; rw [if_pos h]; simp)
    clear h
    go_enter Tryz.func59, Tryz.ntmps59
    go_wp2
    go_ret
    exact ⟨v, rfl, HG.out.symm ▸ ho, Below.refl _ _⟩
  · have e1 : ((a : Int) == (b : Int)) = false := by rw [beq_eq_false_iff_ne]; omega
    have HG : Hid (gap a b = [(1, a, b)]) := Lib.hid (by unfold gap; rw [if_neg h])
    clear h
    obtain ⟨i0, hi0, hz0, hz1, hz2⟩ := info_parts token_info
    go_enter Tryz.func59, Tryz.ntmps59
    go_wp2_with (at_builtin; refine wpList_append_own _ rfl (.tmp 11) (.tmp 15) _ rfl base 72 i0 _ 3 24 Tryz.underlying63 hi0 hz0 hz1 hz2 rfl (by omega) v l.length (cellsOf l) rfl (World.ownsRow.alloc ho _) ⟨w.heap.size, 0, none⟩ 1 1 [.int .i64 1, .int .i64 (a : Int), .int .i64 (b : Int)] rfl rfl (cells3 _ _ _ _ _) (by simp [Value.oneCell']) (by simp only [maxLen]; omega) (by omega) (by simp; omega) ?_; intro v1 w1 ho1 hg1 _)
    go_ret
    refine ⟨v1, rfl, ?_, ?_⟩
    · rw [HG.out]; unfold Own; rw [cellsOf_append, List.length_append]; exact ho1
    · exact ((Below.refl _ _).alloc hb _).trans (below_own (World.ownsRow.alloc ho _) hg1 (by simp; omega))
end Go.Proofs.YtdojbnngdlmbgaaGreatDoor.Tk
