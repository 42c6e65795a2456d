/-
  The contract of Parse of package title, for every text that is not too long.
-/
import Derived.Test.YtbibekojbjonoaaDoorTiFormat
namespace Go.Proofs.YtbibekojbjonoaaDoor.Ti
open Go.RowKit

/-- The text behind the steps 1 to 3. -/
def head (l : List UInt8) : List UInt8 := skip (squeeze l)
/-- The text behind the step 4. -/
def rest (t : List UInt8) : List UInt8 := if space t = 0 then t else Lib.trimPrefix (Lib.cut t [58]).2.1 [32]
/-- The name behind all the steps. -/
def nameOf (l : List UInt8) : List UInt8 := cap (join (rest (head l)))
/-- The namespace, the name and the error that Parse gives. -/
def parse (l : List UInt8) : (Nat × List UInt8) × Nat :=
  if 100 < (nameOf l).length then ((0, []), 3)
  else if valid (space (head l) : Int) (nameOf l) then ((space (head l), nameOf l), 0)
  else ((0, []), 1)
theorem skip_len (l : List UInt8) : (skip l).length ≤ l.length := by
  unfold skip
  split
  · exact Nat.le_trans (trimPrefix_len _ _) (trimPrefix_len _ _)
  · exact Nat.le_refl _
theorem head_len (l : List UInt8) : (head l).length ≤ l.length := Nat.le_trans (skip_len _) (squeeze_len _)
theorem rest_len (t : List UInt8) : (rest t).length ≤ t.length := by
  unfold rest
  split
  · exact Nat.le_refl _
  · exact Nat.le_trans (trimPrefix_len _ _) (cut_len2 _ _)
theorem join_len (t : List UInt8) : (join t).length ≤ t.length := Nat.le_trans (replaceAll_len _ _ _ (by decide)) (replaceAll_len _ _ _ (by decide))
theorem cap_len (t : List UInt8) : (cap t).length = t.length := by
  unfold cap; split
  · rfl
  · split <;> simp

/-- A block of two cells is as it was. -/
theorem keep2 {w W : World} {a b : Value} {T : TypeId} (h : Below (w.heap.size + 1) (w.alloc (.cells #[a, b] T)) W) :
    W.cell? ⟨w.heap.size, 0, none⟩ = some a ∧ W.cell? ⟨w.heap.size, 1, none⟩ = some b ∧ W.frozen? ⟨w.heap.size, 0, none⟩ = false ∧ W.frozen? ⟨w.heap.size, 1, none⟩ = false :=
  ⟨(h.cell (p := ⟨w.heap.size, 0, none⟩) (by simp)).trans (by simp), (h.cell (p := ⟨w.heap.size, 1, none⟩) (by simp)).trans (by simp),
    (h.frozen (p := ⟨w.heap.size, 0, none⟩) (by simp)).trans (by simp), (h.frozen (p := ⟨w.heap.size, 1, none⟩) (by simp)).trans (by simp)⟩

theorem set2 {W : World} {b : Nat} {x y p q : Value} (h0 : W.cell? ⟨b, 0, none⟩ = some x) (h1 : W.cell? ⟨b, 1, none⟩ = some y) :
    ((W.setCell ⟨b, 0, none⟩ p).setCell ⟨b, 1, none⟩ q).cell? ⟨b, 0, none⟩ = some p ∧ ((W.setCell ⟨b, 0, none⟩ p).setCell ⟨b, 1, none⟩ q).cell? ⟨b, 1, none⟩ = some q := by
  have e0 := World.cell?_setCell_same W ⟨b, 0, none⟩ p h0
  have e1 : (W.setCell ⟨b, 0, none⟩ p).cell? ⟨b, 1, none⟩ = some y := (World.cell?_setCell_other W ⟨b, 0, none⟩ ⟨b, 1, none⟩ p (by simp)).trans h1
  exact ⟨(World.cell?_setCell_other (W.setCell ⟨b, 0, none⟩ p) ⟨b, 1, none⟩ ⟨b, 0, none⟩ q (by simp)).trans e0, World.cell?_setCell_same _ ⟨b, 1, none⟩ q e1⟩
theorem below_set2 {w W : World} (h : Below w.heap.size w W) (p q : Value) : Below w.heap.size w ((W.setCell ⟨w.heap.size, 0, none⟩ p).setCell ⟨w.heap.size, 1, none⟩ q) :=
  (h.setCell (p := ⟨w.heap.size, 0, none⟩) (Nat.le_refl _) _).setCell (p := ⟨w.heap.size, 1, none⟩) (Nat.le_refl _) _

set_option maxRecDepth 100000 in
set_option maxHeartbeats 2000000 in
theorem Parse_any (s : ByteArray) (w : World) (hs : s.size < 4294967281) (ht : Tb w) :
    Calls Tryd.prog 40 #[.string s] w fun e w' =>
      e = .returned (.tuple #[.agg #[.int .i64 ((parse s.data.toList).1.1 : Int), .string ⟨(parse s.data.toList).1.2.toArray⟩], .int .i64 ((parse s.data.toList).2 : Int)]) ∧ Below w.heap.size w w' := by
  have hsl : s.data.toList.length = s.size := rfl
  obtain ⟨w0, hw0⟩ : ∃ w0, w0 = w.alloc (.cells #[.int .i64 0, .string ⟨#[]⟩] 34) := ⟨_, rfl⟩
  have hbel : Below w.heap.size w w0 := by rw [hw0]; exact (Below.refl _ w).alloc (Nat.le_refl _) _
  have t1 := ht.below hbel
  have l1 := squeeze_len s.data.toList
  have l2 := head_len s.data.toList
  have HW0 := Lib.hid hw0
  clear hw0
  go_enter Tryd.func40, Tryd.ntmps40
  go_wp2_with fail
  rw [← HW0.out]
  refine (squeeze_any _ _ hs).mono ?_
  rintro e w2 ⟨rfl, hb2⟩
  have t2 := t1.below hb2
  have b2 : Below (w.heap.size + 1) w0 w2 := by have := hb2; rw [HW0.out] at this; rw [HW0.out]; simpa using this
  go_wp2_with fail
  refine (skipColon_any _ _).mono ?_
  rintro e w' ⟨rfl, rfl⟩
  have hT : head s.data.toList = skip (squeeze s.data.toList) := rfl
  have HT := Lib.hid hT; clear hT
  simp only []
  generalize skip (squeeze s.data.toList) = t at HT ⊢
  have lt : t.length < 4294967281 := by have := l2; rw [HT.out] at this; omega
  go_wp2_with fail
  refine (prefixSpace_any _ _ (by show t.length < _; omega) t2).mono ?_
  rintro e w' ⟨rfl, n1, rfl⟩
  by_cases hsp : space t = 0
  · have hU : rest (head s.data.toList) = t := by rw [HT.out, rest, if_pos hsp]
    have HU := Lib.hid hU; clear hU
    have hd1 : (((space t : Nat) : Int) != 0) = false := by rw [hsp]; rfl
    clear hsp
    have tJ : Tb (w2.drewN n1) := t2.drewN n1
    have bJ : Below (w.heap.size + 1) w0 (w2.drewN n1) := below_drewN b2 n1
    go_wp2_with fail
    obtain ⟨m, hm⟩ := tJ.m
    refine (joinParts_any _ m _ (by show t.length < _; omega) hm (by have := tJ.lt; omega)).mono ?_
    rintro e w3 ⟨rfl, hb3⟩
    have t3 := tJ.below hb3
    have b3 : Below (w.heap.size + 1) w0 w3 := bJ.trans (hb3.mono (by have := bJ.size; rw [HW0.out] at this; simpa using this))
    have l4 := join_len t
    go_wp2_with fail
    refine (capitalize_any _ _ (by show (join t).length ≤ _; unfold maxLen; omega)).mono ?_
    rintro e w4 ⟨rfl, n3, hw4⟩
    have b4 : Below (w.heap.size + 1) w0 w4 := by rw [hw4]; exact below_drewN b3 n3
    have t4 : Tb w4 := by rw [hw4]; exact t3.drewN n3
    clear hw4
    have hnl : (cap (join t)).length = (join t).length := cap_len _
    replace hnl : (cap (join t)).length < 4294967281 := by omega
    have hNU : nameOf s.data.toList = cap (join t) := by rw [nameOf, HU.out]
    have HNU := Lib.hid hNU; clear hNU
    simp only []
    generalize cap (join t) = nm at HNU hnl ⊢
    clear l4
    have z4 : w.heap.size < w4.heap.size := by have := b4.size; rw [HW0.out] at this; simp at this; omega
    have k4 := keep2 (w := w) (W := w4) (by rw [← HW0.out]; exact b4)
    obtain ⟨k0, k1, f0, f1⟩ := k4
    have bV : Below w.heap.size w (w4.alloc (.cells #[.int .i64 ((space t : Nat) : Int), .string ⟨nm.toArray⟩] 34)) :=
      (hbel.trans (b4.mono (by omega))).alloc (by omega) _
    have tV : Tb (w4.alloc (.cells #[.int .i64 ((space t : Nat) : Int), .string ⟨nm.toArray⟩] 34)) := t4.below ((Below.refl _ _).alloc (Nat.le_refl _) _)
    by_cases hlong : 100 < nm.length
    · have hd : decide (100 < (nm.length : Int)) = true := by simp; omega
      have hP : parse s.data.toList = ((0, []), 3) := by rw [parse, HNU.out, if_pos hlong]
      have HP := Lib.hid hP; clear hP
      obtain ⟨r0, r1⟩ := set2 k0 k1 (p := .int .i64 0) (q := .string ⟨#[]⟩)
      have q0 := Rf.oldCell (.cells #[.int .i64 ((space t : Nat) : Int), .string ⟨nm.toArray⟩] 34) r0
      have q1 := Rf.oldCell (.cells #[.int .i64 ((space t : Nat) : Int), .string ⟨nm.toArray⟩] 34) r1
      have hB := below_set2 (hbel.trans (b4.mono (by omega))) (.int .i64 0) (.string ⟨#[]⟩)
      have HQ0 := Lib.hid q0; have HQ1 := Lib.hid q1; have HB := Lib.hid hB; clear r0 r1 q0 q1 hB
      go_wp2
      refine bodyPost_ret (v := .tuple #[.agg #[.int .i64 0, .string ⟨#[]⟩], .int .i64 3]) ?_ rfl ⟨by rw [HP.out]; rfl, HB.out.alloc (by have := HB.out.size; omega) _⟩
      simp [results, Tryd.results40, go_sem, HQ0.out, HQ1.out]
    · have hd : decide (100 < (nm.length : Int)) = false := by simp; omega
      cases hv : valid (space t : Int) nm
      · have hP : parse s.data.toList = ((0, []), 1) := by rw [parse, HNU.out, if_neg hlong, HT.out, hv]; rfl
        have HP := Lib.hid hP; clear hP
        go_wp2_with fail
        refine (Valid_any _ _ _ (by show nm.length ≤ _; unfold maxLen; omega) tV).mono ?_
        rintro e w5 ⟨rfl, hb5⟩
        have b5 : Below (w.heap.size + 1) w0 w5 := (b4.alloc (by omega) _).trans (hb5.mono (by simp; omega))
        have k5 := keep2 (w := w) (W := w5) (by rw [← HW0.out]; exact b5)
        obtain ⟨j0, j1, g0, g1⟩ := k5
        obtain ⟨r0, r1⟩ := set2 j0 j1 (p := .int .i64 0) (q := .string ⟨#[]⟩)
        have hB := below_set2 (hbel.trans (b5.mono (by omega))) (.int .i64 0) (.string ⟨#[]⟩)
        have HQ0 := Lib.hid r0; have HQ1 := Lib.hid r1; have HB := Lib.hid hB; clear r0 r1 hB
        go_wp2
        refine bodyPost_ret (v := .tuple #[.agg #[.int .i64 0, .string ⟨#[]⟩], .int .i64 1]) ?_ rfl ⟨by rw [HP.out]; rfl, HB.out⟩
        simp [results, Tryd.results40, go_sem, HQ0.out, HQ1.out]
      · have hP : parse s.data.toList = ((space t, nm), 0) := by rw [parse, HNU.out, if_neg hlong, HT.out, hv, if_pos rfl]
        have HP := Lib.hid hP; clear hP
        go_wp2_with fail
        refine (Valid_any _ _ _ (by show nm.length ≤ _; unfold maxLen; omega) tV).mono ?_
        rintro e w5 ⟨rfl, hb5⟩
        have b5 : Below (w.heap.size + 1) w0 w5 := (b4.alloc (by omega) _).trans (hb5.mono (by simp; omega))
        have k5 := keep2 (w := w) (W := w5) (by rw [← HW0.out]; exact b5)
        obtain ⟨j0, j1, g0, g1⟩ := k5
        have i5 := keep2 (w := w4) (W := w5) (by simpa using hb5)
        obtain ⟨i0, i1, _, _⟩ := i5
        obtain ⟨r0, r1⟩ := set2 j0 j1 (p := .int .i64 ((space t : Nat) : Int)) (q := .string ⟨nm.toArray⟩)
        have hB := below_set2 (hbel.trans (b5.mono (by omega))) (.int .i64 ((space t : Nat) : Int)) (.string ⟨nm.toArray⟩)
        have HQ0 := Lib.hid r0; have HQ1 := Lib.hid r1; have HB := Lib.hid hB; clear r0 r1 hB
        go_wp2
        refine bodyPost_ret (v := .tuple #[.agg #[.int .i64 ((space t : Nat) : Int), .string ⟨nm.toArray⟩], .int .i64 0]) ?_ rfl ⟨by rw [HP.out]; rfl, HB.out⟩
        simp [results, Tryd.results40, go_sem, HQ0.out, HQ1.out]
  · have hU : rest (head s.data.toList) = Lib.trimPrefix (Lib.cut t [58]).2.1 [32] := by rw [HT.out, rest, if_neg hsp]
    have HU := Lib.hid hU; clear hU
    have hd1 : (((space t : Nat) : Int) != 0) = true := by rw [bne_iff_ne]; omega
    clear hsp
    obtain ⟨m, hm⟩ := (t2.drewN n1).m
    go_wp2_with fail
    refine (Tryd.strings_Cut _ _ m _ (by show t.length < _; omega) hm).mono ?_
    rintro e w' ⟨rfl, n2, rfl⟩
    go_wp2_with fail
    refine (Tryd.strings_TrimPrefix _ _ _).mono ?_
    rintro e w' ⟨rfl, hw6⟩
    have bJ : Below (w.heap.size + 1) w0 w' := by rw [hw6]; first | exact below_drewN (below_drewN b2 n1) n2 | exact below_drewN b2 _
    have tJ : Tb w' := by rw [hw6]; first | exact (t2.drewN n1).drewN n2 | exact t2.drewN _
    clear hw6 hm
    have lu : (Lib.trimPrefix (Lib.cut t [58]).2.1 [32]).length < 4294967281 := by
      have h1 := trimPrefix_len (Lib.cut t [58]).2.1 [32]
      have h2 := cut_len2 t [58]
      omega
    simp only []
    generalize Lib.trimPrefix (Lib.cut t [58]).2.1 [32] = u at HU lu ⊢
    go_wp2_with fail
    obtain ⟨m, hm⟩ := tJ.m
    refine (joinParts_any _ m _ (by show u.length < _; omega) hm (by have := tJ.lt; omega)).mono ?_
    rintro e w3 ⟨rfl, hb3⟩
    have t3 := tJ.below hb3
    have b3 : Below (w.heap.size + 1) w0 w3 := bJ.trans (hb3.mono (by have := bJ.size; rw [HW0.out] at this; simpa using this))
    have l4 := join_len u
    go_wp2_with fail
    refine (capitalize_any _ _ (by show (join u).length ≤ _; unfold maxLen; omega)).mono ?_
    rintro e w4 ⟨rfl, n3, hw4⟩
    have b4 : Below (w.heap.size + 1) w0 w4 := by rw [hw4]; exact below_drewN b3 n3
    have t4 : Tb w4 := by rw [hw4]; exact t3.drewN n3
    clear hw4
    have hnl : (cap (join u)).length = (join u).length := cap_len _
    replace hnl : (cap (join u)).length < 4294967281 := by omega
    have hNU : nameOf s.data.toList = cap (join u) := by rw [nameOf, HU.out]
    have HNU := Lib.hid hNU; clear hNU
    simp only []
    generalize cap (join u) = nm at HNU hnl ⊢
    clear l4
    have z4 : w.heap.size < w4.heap.size := by have := b4.size; rw [HW0.out] at this; simp at this; omega
    have k4 := keep2 (w := w) (W := w4) (by rw [← HW0.out]; exact b4)
    obtain ⟨k0, k1, f0, f1⟩ := k4
    have bV : Below w.heap.size w (w4.alloc (.cells #[.int .i64 ((space t : Nat) : Int), .string ⟨nm.toArray⟩] 34)) :=
      (hbel.trans (b4.mono (by omega))).alloc (by omega) _
    have tV : Tb (w4.alloc (.cells #[.int .i64 ((space t : Nat) : Int), .string ⟨nm.toArray⟩] 34)) := t4.below ((Below.refl _ _).alloc (Nat.le_refl _) _)
    by_cases hlong : 100 < nm.length
    · have hd : decide (100 < (nm.length : Int)) = true := by simp; omega
      have hP : parse s.data.toList = ((0, []), 3) := by rw [parse, HNU.out, if_pos hlong]
      have HP := Lib.hid hP; clear hP
      obtain ⟨r0, r1⟩ := set2 k0 k1 (p := .int .i64 0) (q := .string ⟨#[]⟩)
      have q0 := Rf.oldCell (.cells #[.int .i64 ((space t : Nat) : Int), .string ⟨nm.toArray⟩] 34) r0
      have q1 := Rf.oldCell (.cells #[.int .i64 ((space t : Nat) : Int), .string ⟨nm.toArray⟩] 34) r1
      have hB := below_set2 (hbel.trans (b4.mono (by omega))) (.int .i64 0) (.string ⟨#[]⟩)
      have HQ0 := Lib.hid q0; have HQ1 := Lib.hid q1; have HB := Lib.hid hB; clear r0 r1 q0 q1 hB
      go_wp2
      refine bodyPost_ret (v := .tuple #[.agg #[.int .i64 0, .string ⟨#[]⟩], .int .i64 3]) ?_ rfl ⟨by rw [HP.out]; rfl, HB.out.alloc (by have := HB.out.size; omega) _⟩
      simp [results, Tryd.results40, go_sem, HQ0.out, HQ1.out]
    · have hd : decide (100 < (nm.length : Int)) = false := by simp; omega
      cases hv : valid (space t : Int) nm
      · have hP : parse s.data.toList = ((0, []), 1) := by rw [parse, HNU.out, if_neg hlong, HT.out, hv]; rfl
        have HP := Lib.hid hP; clear hP
        go_wp2_with fail
        refine (Valid_any _ _ _ (by show nm.length ≤ _; unfold maxLen; omega) tV).mono ?_
        rintro e w5 ⟨rfl, hb5⟩
        have b5 : Below (w.heap.size + 1) w0 w5 := (b4.alloc (by omega) _).trans (hb5.mono (by simp; omega))
        have k5 := keep2 (w := w) (W := w5) (by rw [← HW0.out]; exact b5)
        obtain ⟨j0, j1, g0, g1⟩ := k5
        obtain ⟨r0, r1⟩ := set2 j0 j1 (p := .int .i64 0) (q := .string ⟨#[]⟩)
        have hB := below_set2 (hbel.trans (b5.mono (by omega))) (.int .i64 0) (.string ⟨#[]⟩)
        have HQ0 := Lib.hid r0; have HQ1 := Lib.hid r1; have HB := Lib.hid hB; clear r0 r1 hB
        go_wp2
        refine bodyPost_ret (v := .tuple #[.agg #[.int .i64 0, .string ⟨#[]⟩], .int .i64 1]) ?_ rfl ⟨by rw [HP.out]; rfl, HB.out⟩
        simp [results, Tryd.results40, go_sem, HQ0.out, HQ1.out]
      · have hP : parse s.data.toList = ((space t, nm), 0) := by rw [parse, HNU.out, if_neg hlong, HT.out, hv, if_pos rfl]
        have HP := Lib.hid hP; clear hP
        go_wp2_with fail
        refine (Valid_any _ _ _ (by show nm.length ≤ _; unfold maxLen; omega) tV).mono ?_
        rintro e w5 ⟨rfl, hb5⟩
        have b5 : Below (w.heap.size + 1) w0 w5 := (b4.alloc (by omega) _).trans (hb5.mono (by simp; omega))
        have k5 := keep2 (w := w) (W := w5) (by rw [← HW0.out]; exact b5)
        obtain ⟨j0, j1, g0, g1⟩ := k5
        have i5 := keep2 (w := w4) (W := w5) (by simpa using hb5)
        obtain ⟨i0, i1, _, _⟩ := i5
        obtain ⟨r0, r1⟩ := set2 j0 j1 (p := .int .i64 ((space t : Nat) : Int)) (q := .string ⟨nm.toArray⟩)
        have hB := below_set2 (hbel.trans (b5.mono (by omega))) (.int .i64 ((space t : Nat) : Int)) (.string ⟨nm.toArray⟩)
        have HQ0 := Lib.hid r0; have HQ1 := Lib.hid r1; have HB := Lib.hid hB; clear r0 r1 hB
        go_wp2
        refine bodyPost_ret (v := .tuple #[.agg #[.int .i64 ((space t : Nat) : Int), .string ⟨nm.toArray⟩], .int .i64 0]) ?_ rfl ⟨by rw [HP.out]; rfl, HB.out⟩
        simp [results, Tryd.results40, go_sem, HQ0.out, HQ1.out]
end Go.Proofs.YtbibekojbjonoaaDoor.Ti
