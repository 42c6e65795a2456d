/-
  The law TitleBelow, for every list of numbers.
-/
import Derived.Test.YtaapdhpfjiaeaaaDoorTiTape
import Derived.Test.YtaapdhpfjiaeaaaDoorTiSameT
import Derived.Test.YtaapdhpfjiaeaaaDoorTiKnown
namespace Go.Proofs.YtaapdhpfjiaeaaaDoor.Ti
open Go.RowKit

theorem target_below {sp : Int} {a b : List UInt8} : target sp a (32 :: 47 :: b) = format sp a ++ 47 :: b := by
  unfold target
  have e : Lib.trimLeftS (32 :: 47 :: b) [32, 95] = 47 :: b := by
    unfold Lib.trimLeftS
    rw [List.dropWhile_cons_of_pos (by decide), List.dropWhile_cons_of_neg (by decide)]
  rw [e, if_pos (by rfl)]
/-- Three titles in their blocks, one of a list, and the tables, over a first world. -/
structure Hb (w : World) (b4 b5 b6 g m : Nat) (sp : Int) (P Q R : ByteArray) (W : World) : Prop where
  a0 : W.cell? ⟨b4, 0, none⟩ = some (.int .i64 sp)
  a1 : W.cell? ⟨b4, 1, none⟩ = some (.string P)
  q1 : W.cell? ⟨b5, 1, none⟩ = some (.string Q)
  r0 : W.cell? ⟨b6, 0, none⟩ = some (.int .i64 sp)
  r1 : W.cell? ⟨b6, 1, none⟩ = some (.string R)
  e0 : W.cell? ⟨g, m * 2, none⟩ = some (.int .i64 sp)
  e1 : W.cell? ⟨g, m * 2 + 1, none⟩ = some (.string P)
  bl : Below w.heap.size w W
  tb : Tb W
  l4 : b4 < W.heap.size
  l5 : b5 < W.heap.size
  l6 : b6 < W.heap.size
  lg : g < W.heap.size
section
variable {w W W' : World} {b4 b5 b6 g m : Nat} {sp : Int} {P Q R : ByteArray}
theorem Hb.below (h : Hb w b4 b5 b6 g m sp P Q R W) (hb : Below W.heap.size W W') : Hb w b4 b5 b6 g m sp P Q R W' :=
  ⟨(hb.cell (p := ⟨b4, 0, none⟩) h.l4).trans h.a0, (hb.cell (p := ⟨b4, 1, none⟩) h.l4).trans h.a1, (hb.cell (p := ⟨b5, 1, none⟩) h.l5).trans h.q1,
   (hb.cell (p := ⟨b6, 0, none⟩) h.l6).trans h.r0, (hb.cell (p := ⟨b6, 1, none⟩) h.l6).trans h.r1, (hb.cell (p := ⟨g, m * 2, none⟩) h.lg).trans h.e0, (hb.cell (p := ⟨g, m * 2 + 1, none⟩) h.lg).trans h.e1,
   h.bl.trans (hb.mono h.bl.size), h.tb.below hb, Nat.lt_of_lt_of_le h.l4 hb.size, Nat.lt_of_lt_of_le h.l5 hb.size, Nat.lt_of_lt_of_le h.l6 hb.size, Nat.lt_of_lt_of_le h.lg hb.size⟩
theorem Hb.drew (h : Hb w b4 b5 b6 g m sp P Q R W) : Hb w b4 b5 b6 g m sp P Q R W.drew := h.below (Below.refl _ _).drew
theorem Anc_hb (h : Hb w b4 b5 b6 g m sp P Q R W) (hx : P.size ≤ 65536) (hm : (ancestors sp P.data.toList).length = m) : Calls Tryd.prog 21 #[.agg #[.int .i64 sp, .string P]] W fun e w' => ∃ A c, e = .returned (.slice A m c) ∧ Hb w b4 b5 b6 g m sp P Q R w' :=
  (Anc_any sp P W h.tb hx).mono fun _ _ ⟨v, a, b, d⟩ => by
    obtain ⟨A, c, hv, _⟩ := b.rd.ex
    exact ⟨A, c, by rw [a, hv, hm], h.below d⟩
theorem known_hb (h : Hb w b4 b5 b6 g m sp P Q R W) : Calls Tryd.prog 12 #[] W fun e w' => e = .returned (.bool true) ∧ Hb w b4 b5 b6 g m sp P Q R w' :=
  (known_any W h.tb).mono fun _ _ ⟨a, b⟩ => ⟨a, h.below b⟩
end

set_option maxRecDepth 100000 in
set_option maxHeartbeats 4000000 in
theorem below_any (A : Option Addr) (n c : Nat) (w : World) (hs : Sl w A n c) (ht : Tb w) :
    Calls Tryd.prog 11 #[.slice A n c] w fun e w' => e = .returned (.bool true) ∧ Below w.heap.size w w' := by
  go_enter Tryd.func11, Tryd.ntmps11
  go_wp2_with fail
  refine (New_any A n c _).mono ?_
  rintro e w1 ⟨rfl, ht1⟩
  have T1 := Lib.hid ht1; clear ht1
  go_wp2_with fail
  refine (TapeTitle_any w A n c w.heap.size _ hs T1.out).mono ?_
  rintro e w2 ⟨k1, x1, hk1, hx1, rfl, ht2⟩
  have T2 := Lib.hid ht2; clear ht2 T1
  go_wp2_with fail
  refine (TapeTitle_any w A n c w.heap.size _ hs T2.out).mono ?_
  rintro e w3 ⟨k2, x2, hk2, hx2, rfl, ht3⟩
  have HW : Hid (Below w.heap.size w w3) := Lib.hid ht3.bl
  have hw3 := ht3.bl.size
  clear ht3 T2
  have hv1 := tnames_valid k1 hk1 x1 hx1
  have hv2 := tnames_join k1 hk1 x1 hx1 x2 hx2
  have hl1 := tnames_len x1 hx1
  have hl2 := tnames_len x2 hx2
  have hpar : parse (target (k1 : Int) x1 (32 :: 47 :: x2)) = ((k1, x1 ++ 47 :: x2), 0) := by
    rw [target_below, format_join hv1 hv2, (parse_format hv2).1, Int.toNat_natCast]
  obtain ⟨han1, han2⟩ := anc_join hv1 hv2
  generalize hP : (⟨x1.toArray⟩ : ByteArray) = P
  generalize hQ : (⟨x2.toArray⟩ : ByteArray) = Q
  have hPd : P.data.toList = x1 := by rw [← hP]
  have hQd : Q.data.toList = x2 := by rw [← hQ]
  have hPs : P.size = x1.length := by rw [← hP]; rfl
  have hQs : Q.size = x2.length := by rw [← hQ]; rfl
  have hP9 : P.size ≤ 9 := by omega
  have hQ9 : Q.size ≤ 9 := by omega
  have HPar : Hid (parse (target (k1 : Int) P.data.toList ((⟨#[32, 47]⟩ : ByteArray) ++ Q).data.toList) = ((k1, x1 ++ 47 :: x2), 0)) := Lib.hid (by
    rw [ByteArray.data_append, Array.toList_append, hPd, hQd]; exact hpar)
  have HR : Hid ((⟨(x1 ++ 47 :: x2).toArray⟩ : ByteArray) = P ++ ⟨#[47]⟩ ++ Q) := Lib.hid (by
    apply ByteArray.ext; apply Array.ext'
    rw [ByteArray.data_append, ByteArray.data_append, Array.toList_append, Array.toList_append, hPd, hQd]; simp)
  have HPd := Lib.hid hPd
  have HA1 := Lib.hid han1; have HA2 := Lib.hid han2
  have s1 : 2 + Q.size ≤ 9223372036854775807 := by omega
  have s2 : P.size + 1 ≤ 9223372036854775807 := by omega
  have s3 : P.size + 1 + Q.size ≤ 9223372036854775807 := by omega
  clear hP hQ hPd hQd hPs hQs hpar hv1 hv2 han1 han2 hl1 hl2 hx1 hx2 hk2
  go_wp2_with fail
  have hV : Below w.heap.size w ((w3.alloc (.cells #[.int .i64 (k1 : Int), .string P] 24)).alloc (.cells #[.int .i64 (k2 : Int), .string Q] 24)) := (HW.out.alloc hw3 _).alloc (by simp; omega) _
  have HV := Lib.hid hV; clear hV
  refine (Resolve_any _ _ _ _ (by unfold maxLen; omega) (by rw [ByteArray.size_append]; show 2 + Q.size ≤ 300; omega) (ht.below HV.out) HPar.out).mono ?_
  rintro e w4 ⟨rfl, hb4⟩
  rw [HR.out]
  have hs4 := hb4.size
  simp at hs4
  have a0 : w4.cell? ⟨w3.heap.size, 0, none⟩ = some (.int .i64 (k1 : Int)) := by rw [hb4.cell (p := ⟨w3.heap.size, 0, none⟩) (by simp; omega)]; simp
  have a1 : w4.cell? ⟨w3.heap.size, 1, none⟩ = some (.string P) := by rw [hb4.cell (p := ⟨w3.heap.size, 1, none⟩) (by simp; omega)]; simp
  have q1 : w4.cell? ⟨w3.heap.size + 1, 1, none⟩ = some (.string Q) := by rw [hb4.cell (p := ⟨w3.heap.size + 1, 1, none⟩) (by simp)]; simp
  have HW4 : Hid (Below w.heap.size w w4) := Lib.hid (HV.out.trans (hb4.mono HV.out.size))
  have HC := Lib.hid (And.intro a0 (And.intro a1 q1))
  clear a0 a1 q1 hb4 HV HW
  have hRd : (P ++ ⟨#[47]⟩ ++ Q).data.toList = x1 ++ 47 :: x2 := by rw [← HR.out]
  have hRs : (P ++ (⟨#[47]⟩ : ByteArray) ++ Q).size ≤ 65536 := by rw [ByteArray.size_append, ByteArray.size_append]; show P.size + 1 + Q.size ≤ 65536; omega
  have HRs := Lib.hid hRs; have HRd := Lib.hid hRd
  clear hRs hRd
  generalize hR : P ++ (⟨#[47]⟩ : ByteArray) ++ Q = R at HRs HRd
  have HRR := Lib.hid hR; clear hR
  go_wp2_with fail
  have hV : Below w4.heap.size w4 (w4.alloc (.cells #[.int .i64 (k1 : Int), .string R] 24)) := (Below.refl _ _).alloc (Nat.le_refl _) _
  have HV := Lib.hid hV; clear hV
  refine (Anc_any _ _ _ ((ht.below HW4.out).below HV.out) HRs.out).mono ?_
  rintro e w5 ⟨v5, rfl, ho5, hb5⟩
  have ho := ho5.rd
  rw [HRd.out] at ho
  have hl1 := HA1.out
  have hl2 := HA2.out
  generalize ancestors (k1 : Int) (x1 ++ 47 :: x2) = La at ho hl1 hl2
  obtain ⟨A5, c5, rfl, l5, m5, q5⟩ := ho.ex
  unfold maxLen at m5
  obtain ⟨g, rfl, hg, q⟩ := q5 (by omega)
  obtain ⟨e0, e1⟩ := q _ _ hl2
  simp only at e0 e1
  have hs5 := hb5.size
  simp at hs5
  obtain ⟨m, hm⟩ : ∃ m, (ancestors (k1 : Int) P.data.toList).length = m := ⟨_, rfl⟩
  have hPx := HPd.out
  rw [hPx] at hm
  rw [hm] at hl1 e0 e1
  have HM : Hid ((ancestors (k1 : Int) P.data.toList).length = m) := Lib.hid (by rw [hPx]; exact hm)
  have e1' : w5.cell? ⟨g, m * 2 + 1, none⟩ = some (.string P) := by rw [e1, ← hPx]
  have H0 : Hb w w3.heap.size (w3.heap.size + 1) w4.heap.size g m (k1 : Int) P Q R w5 := by
    have hk : ∀ p : Addr, p.block < w4.heap.size → w5.cell? p = w4.cell? p := fun p hp => (hb5.cell (by simp; omega)).trans (World.cell?_alloc_lt w4 _ p hp)
    have hbl : Below w.heap.size w w5 := HW4.out.trans ((HV.out.mono HW4.out.size).trans (hb5.mono (by have := HW4.out.size; simp; omega)))
    exact ⟨(hk _ (by show w3.heap.size < _; omega)).trans HC.out.1, (hk _ (by show w3.heap.size < _; omega)).trans HC.out.2.1, (hk _ (by show w3.heap.size + 1 < _; omega)).trans HC.out.2.2,
      by rw [hb5.cell (p := ⟨w4.heap.size, 0, none⟩) (by simp)]; simp, by rw [hb5.cell (p := ⟨w4.heap.size, 1, none⟩) (by simp)]; simp, e0, e1', hbl, ht.below hbl, by omega, by omega, by omega, hg⟩
  have H3 := H0.drew
  have hml : (m : Int) < (La.length : Int) := by omega
  have HP9 : Hid (P.size ≤ 65536) := Lib.hid (by omega)
  clear H0 q q5 ho ho5 hb5 e0 e1 e1' hl2 hm hPx HC HW4 HV HA1 HA2 HPar HPd hs5 hs4 hw3
  generalize w3.heap.size = b4 at H3 ⊢
  generalize w4.heap.size = b6 at H3 ⊢
  have hRR := HRR.out
  subst hRR
  have rc1 : ∀ w, (Op.stringOp .add P ⟨#[47]⟩).run Tryd.prog w = .ok (.string (P ++ ⟨#[47]⟩)) w := fun w => run_string_add_sum w _ _ s2
  have rc2 : ∀ w, (Op.stringOp .add (P ++ ⟨#[47]⟩) Q).run Tryd.prog w = .ok (.string (P ++ ⟨#[47]⟩ ++ Q)) w := fun w => run_string_add_sum w _ _ (by rw [ByteArray.size_append]; exact s3)
  have n1 : ¬ 9223372036854775807 < P.size + 1 := by omega
  have n2 : ¬ 9223372036854775807 ≤ P.size := by omega
  have n3 : ¬ 9223372036854775807 < P.size + 1 + Q.size := by omega
  go_wp2
  go_region_held3 (fun W => W.cell? ⟨b4, 0, none⟩ = some (.int .i64 (k1 : Int)) ∧ W.cell? ⟨b4, 1, none⟩ = some (.string P) ∧ W.cell? ⟨b4 + 1, 1, none⟩ = some (.string Q) ∧ W.cell? ⟨b6, 0, none⟩ = some (.int .i64 (k1 : Int)) ∧ W.cell? ⟨b6, 1, none⟩ = some (.string (P ++ ⟨#[47]⟩ ++ Q)) ∧ W.cell? ⟨g, m * 2, none⟩ = some (.int .i64 (k1 : Int)) ∧ W.cell? ⟨g, m * 2 + 1, none⟩ = some (.string P) ∧ Hb w b4 (b4 + 1) b6 g m (k1 : Int) P Q (P ++ ⟨#[47]⟩ ++ Q) W)
    (first | exact ⟨H3.a0, H3.a1, H3.q1, H3.r0, H3.r1, H3.e0, H3.e1, H3⟩ | (rename_i h8; exact ⟨h8.a0, h8.a1, h8.q1, h8.r0, h8.r1, h8.e0, h8.e1, h8⟩))
    (first
      | (go_at_call 21; refine (Anc_hb (w := w) (b4 := b4) (b5 := b4 + 1) (b6 := b6) (g := g) (m := m) (Q := Q) (R := P ++ ⟨#[47]⟩ ++ Q) ?_ HP9.out HM.out).mono ?_; (assumption); rintro e w' ⟨A9, c9, rfl, _⟩)
      | (go_at_call 12; refine (known_hb (w := w) (b4 := b4) (b5 := b4 + 1) (b6 := b6) (g := g) (m := m) (sp := (k1 : Int)) (P := P) (Q := Q) (R := P ++ ⟨#[47]⟩ ++ Q) ?_).mono ?_; (assumption); rintro e w' ⟨rfl, _⟩))
  have h8 : Hb w b4 (b4 + 1) b6 g m (k1 : Int) P Q (P ++ ⟨#[47]⟩ ++ Q) w' := by assumption
  go_wp2
  go_ret
  exact ⟨rfl, h8.bl⟩
end Go.Proofs.YtaapdhpfjiaeaaaDoor.Ti
