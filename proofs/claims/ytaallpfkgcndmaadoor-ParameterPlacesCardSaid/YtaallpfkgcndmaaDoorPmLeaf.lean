/-
  The contracts of the reference's Get, Names, SameStrings and SameBindings.
-/
import Derived.Test.YtaallpfkgcndmaaDoorPmGet
import Derived.Laws.StructEq
namespace Go.Proofs.YtaallpfkgcndmaaDoor.Pm
open Go.RowKit Go.Shelf
set_option linter.unusedVariables false
set_option linter.unusedSimpArgs false

set_option maxRecDepth 100000 in
set_option maxHeartbeats 2000000 in
theorem RNames_any (v : Value) (l : List Bd) (w : World) (hr : RdB w w.heap.size v l) (hl : l.length ≤ 65536) :
    Calls Tryd.prog 18 #[v] w fun e w' => ∃ v', e = .returned v' ∧ OwnS w' w.heap.size v' (l.map Prod.fst) ∧ Below w.heap.size w w' := by
  obtain ⟨A1, c1, rfl, l1, m1, r1⟩ := hr.ex
  unfold maxLen at m1
  clear hr
  obtain ⟨i0, hi0, hz0, hz1, hz2⟩ := info_parts strInfo
  have R1 := Lib.hid r1; clear r1
  go_enter Tryd.func18, Tryd.ntmps18
  go_wp2
  go_loopw [3, 4] (fun nv i wr => ∃ k : Nat, k ≤ l.length ∧ i = .int .i64 k ∧ Hid (Below w.heap.size w wr) ∧ Hid (OwnS wr w.heap.size nv ((l.take k).map Prod.fst))) (fun _ i _ => l.length - (intOf i).toNat)
  case atStart => exact ⟨0, Nat.zero_le _, rfl, Lib.hid (Below.refl _ _), Lib.hid (OwnS.nil _ _)⟩
  case round =>
    obtain ⟨k, hk, rfl, hb, ho⟩ := hrel
    by_cases hlt : k < l.length
    · obtain ⟨g, o, rfl, hg, q⟩ := R1.out (by omega)
      have hki : (k : Int) < (l.length : Int) := by omega
      have q1 := q k l[k] (List.getElem?_eq_getElem hlt) 0 _ rfl
      have q2 := q k l[k] (List.getElem?_eq_getElem hlt) 1 _ rfl
      have HT : Hid ((l.take (k + 1)).map Prod.fst = (l.take k).map Prod.fst ++ [l[k].1]) := Lib.hid (by rw [List.take_succ_eq_append_getElem hlt, List.map_append]; rfl)
      generalize l[k] = p at q1 q2 HT
      obtain ⟨pn, pt⟩ := p
      simp only [Nat.add_zero] at q1 q2 HT
      have hc : ∀ j, wr.cell? ⟨g, j, none⟩ = w.cell? ⟨g, j, none⟩ := fun j => hb.out.cell (p := ⟨g, j, none⟩) hg
      rw [← hc] at q1 q2
      clear hc q
      have hln : ((l.take k).map Prod.fst).length ≤ 65536 := by rw [List.length_map, List.length_take]; omega
      have hs1 : w.heap.size ≤ wr.heap.size := hb.out.size
      have HO := Lib.hid ho.out
      generalize (l.take k).map Prod.fst = L at hln HO HT
      clear ho
      go_wp2_with (at_builtin; refine wpList_append_own _ rfl (.tmp 11) (.tmp 17) _ rfl w.heap.size 9 i0 _ 1 16 Tryd.underlying30 hi0 hz0 hz1 hz2 rfl (by omega) u3 L.length (L.flatMap encS) rfl (World.ownsRow.alloc HO.out _) ⟨wr.heap.size, 0, none⟩ 1 1 [.string (bsl pn)] rfl rfl (cells_new wr [.string (bsl pn)] 9) (by simp [Value.oneCell']) (by simp only [maxLen]; omega) (by omega) (by simp; omega) ?_; intro v2 w2 ho2 hg2 _)
      go_roundw
      case rel => exact ⟨k + 1, by omega, by go_num, Lib.hid (hb.out.trans (((Below.refl _ _).alloc hs1 _).trans (below_own (World.ownsRow.alloc HO.out _) hg2 (by simp; omega)))), Lib.hid (by rw [HT.out]; exact snocS ho2)⟩
      case measure => simp [intOf]; omega
    · have HE : Hid ((l.take k).map Prod.fst = l.map Prod.fst) := Lib.hid (by rw [List.take_of_length_le (by omega)])
      go_wp2
      go_ret
      exact ⟨u3, rfl, by rw [← HE.out]; exact ho.out, hb.out⟩
set_option maxRecDepth 100000 in
set_option maxHeartbeats 4000000 in
theorem RGet_any (v : Value) (l : List Bd) (a : ByteArray) (w : World) (hr : RdB w w.heap.size v l) (ha : a.size ≤ 4294967281) :
    Calls Tryd.prog 16 #[v, .string a] w fun e w' => e = .returned (outG (find (tr a.data.toList) l)) ∧ Below w.heap.size w w' := by
  obtain ⟨A1, c1, rfl, l1, m1, r1⟩ := hr.ex
  unfold maxLen at m1
  clear hr
  have HT0 := fun w => RTrim_any a w ha
  obtain ⟨n, hn⟩ : ∃ n, tr a.data.toList = n := ⟨_, rfl⟩
  rw [hn] at HT0 ⊢
  have HT := Lib.hid HT0
  clear HT0 hn
  have R1 := Lib.hid r1; clear r1
  go_enter Tryd.func16, Tryd.ntmps16
  go_wp2
  go_loopw [6] (fun i wr => ∃ (k nq : Nat), k ≤ l.length ∧ i = .int .i64 k ∧ Hid (wr = w.drewN nq) ∧ Hid (find n l = find n (l.drop k))) (fun i _ => l.length - (intOf i).toNat)
  case atStart => exact ⟨0, 0, Nat.zero_le _, rfl, Lib.hid rfl, Lib.hid rfl⟩
  case round =>
    obtain ⟨k, m0, hk, rfl, hw, hf⟩ := hrel
    by_cases hlt : k < l.length
    · obtain ⟨g, o, rfl, hg, q⟩ := R1.out (by omega)
      have hki : (k : Int) < (l.length : Int) := by omega
      have q1 := q k l[k] (List.getElem?_eq_getElem hlt) 0 _ rfl
      have q2 := q k l[k] (List.getElem?_eq_getElem hlt) 1 _ rfl
      have HF := Lib.hid (find_some_drop (n := n) hlt)
      generalize l[k] = p at q1 q2 HF
      obtain ⟨pn, pt⟩ := p
      simp only [Nat.add_zero] at q1 q2
      have hc : ∀ p, wr.cell? p = w.cell? p := fun p => by rw [hw.out]; rfl
      rw [← hc] at q1 q2
      clear hc q
      have hcmp := str_beq pn n
      by_cases he : pn = n
      · have hd : decide (pn = n) = true := decide_eq_true he
        rw [hd] at hcmp
        have HO : Hid (find n l = some pt) := Lib.hid (by rw [hf.out, HF.out, if_pos he])
        clear he hd
        go_wp2
        go_quiet ((go_at_call 14; refine (HT.out _).mono ?_; rintro e w' ⟨rfl, rfl⟩; exact ⟨rfl, _, rfl⟩))
        go_wp2
        go_ret2
        exact ⟨by rw [HO.out]; rfl, by rw [hw.out, World.drewN_drewN]; exact below_drewN (Below.refl _ _) _⟩
      · have hd : decide (pn = n) = false := decide_eq_false he
        rw [hd] at hcmp
        have HO : Hid (find n l = find n (l.drop (k + 1))) := Lib.hid (by rw [hf.out, HF.out, if_neg he])
        clear he hd
        go_wp2
        go_quiet ((go_at_call 14; refine (HT.out _).mono ?_; rintro e w' ⟨rfl, rfl⟩; exact ⟨rfl, _, rfl⟩))
        go_wp2
        go_roundw
        case rel => exact ⟨k + 1, m0 + nq, by omega, by go_num, Lib.hid (by rw [hw.out, World.drewN_drewN]), HO⟩
        case measure => simp [intOf]; omega
    · have HO : Hid (find n l = none) := Lib.hid (by rw [hf.out, List.drop_eq_nil_of_le (by omega)]; rfl)
      go_wp2
      go_ret2
      exact ⟨by rw [HO.out]; rfl, by rw [hw.out]; exact below_drewN (Below.refl _ _) _⟩
theorem neq_bnd (x y : Bd) (w : World) : (binOp .neq 33 (.agg #[.string (bsl x.1), .string (bsl x.2)]) (.agg #[.string (bsl y.1), .string (bsl y.2)])).run Tryd.prog w = .ok (.bool (decide (x ≠ y))) w := by
  have h : (Op.equalIn 10000 33 (.agg #[.string (bsl x.1), .string (bsl x.2)]) (.agg #[.string (bsl y.1), .string (bsl y.2)])).run Tryd.prog w = .ok (decide (x = y)) w := by
    rw [show (10000 : Nat) = 9998 + 1 + 1 from rfl, run_equalIn_agg _ _ _ _ _ (by kernel_rfl) (by kernel_rfl)]
    obtain ⟨x1, x2⟩ := x
    obtain ⟨y1, y2⟩ := y
    have e1 := str_beq x1 y1
    have e2 := str_beq x2 y2
    simp only [Prod.mk.injEq]
    by_cases h1 : x1 = y1
    · by_cases h2 : x2 = y2
      · rw [decide_eq_true h1] at e1
        rw [decide_eq_true h2] at e2
        go_simp
      · rw [decide_eq_true h1] at e1
        rw [decide_eq_false h2] at e2
        go_simp
    · rw [decide_eq_false h1] at e1
      go_simp
  rw [run_neq_struct, h]
  simp
set_option maxHeartbeats 2000000 in
theorem SameBindings_any (u v : Value) (a b : List Bd) (w : World) (hu : RdB w w.heap.size u a) (hv : RdB w w.heap.size v b) :
    Calls Tryd.prog 12 #[u, v] w fun e w' => e = .returned (.bool (decide (a = b))) ∧ Below w.heap.size w w' := by
  obtain ⟨A1, c1, rfl, l1, m1, r1⟩ := hu.ex
  obtain ⟨A2, c2, rfl, l2, m2, r2⟩ := hv.ex
  unfold maxLen at m1 m2
  clear hu hv
  by_cases hl : a.length = b.length
  · have h1 : ((a.length : Int) != (b.length : Int)) = false := by rw [bne_eq_false_iff_eq]; omega
    have HL := Lib.hid hl; clear hl
    have R1 := Lib.hid r1; have R2 := Lib.hid r2; clear r1 r2
    go_enter Tryd.func12, Tryd.ntmps12
    go_wp2
    go_loopw [5] (fun i wr => ∃ (k nq : Nat), k ≤ a.length ∧ i = .int .i64 k ∧ Hid (wr = w.drewN nq) ∧ Hid (a.take k = b.take k)) (fun i _ => a.length - (intOf i).toNat)
    case atStart => exact ⟨0, 0, Nat.zero_le _, rfl, Lib.hid rfl, Lib.hid rfl⟩
    case round =>
      obtain ⟨k, m0, hk, rfl, hw, hr⟩ := hrel
      by_cases hlt : k < a.length
      · have hlb : k < b.length := by have := HL.out; omega
        obtain ⟨g1, o1, rfl, _, q1⟩ := R1.out (by omega)
        obtain ⟨g2, o2, rfl, _, q2⟩ := R2.out (by omega)
        have x1 := q1 k a[k] (List.getElem?_eq_getElem hlt) 0 _ rfl
        have x2 := q1 k a[k] (List.getElem?_eq_getElem hlt) 1 _ rfl
        have y1 := q2 k b[k] (List.getElem?_eq_getElem hlb) 0 _ rfl
        have y2 := q2 k b[k] (List.getElem?_eq_getElem hlb) 1 _ rfl
        clear q1 q2
        have hcell : ∀ p, wr.cell? p = w.cell? p := fun p => by rw [hw.out]; rfl
        simp only [Nat.add_zero] at x1 x2 y1 y2
        rw [← hcell] at x1 x2 y1 y2
        clear hcell
        have hki : (k : Int) < (a.length : Int) := by omega
        have hkj : (k : Int) < (b.length : Int) := by omega
        have hne := neq_bnd a[k] b[k]
        by_cases hx : a[k] = b[k]
        · have hd : decide (a[k] ≠ b[k]) = false := by simp [hx]
          have HX : Hid (a.take (k + 1) = b.take (k + 1)) := Lib.hid (by rw [List.take_succ_eq_append_getElem hlt, List.take_succ_eq_append_getElem hlb, hr.out, hx])
          clear hx
          generalize decide (a[k] ≠ b[k]) = dd at hne hd
          subst hd
          go_wp2
          go_quiet (fail)
          go_wp2
          go_roundw
          case rel => exact ⟨k + 1, m0 + nq, by omega, by go_num, Lib.hid (by rw [hw.out, World.drewN_drewN]), HX⟩
          case measure => simp [intOf]; omega
        · have hd : decide (a[k] ≠ b[k]) = true := by simp [hx]
          have HX : Hid (a ≠ b) := Lib.hid (fun e => hx (by subst e; rfl))
          clear hx
          generalize decide (a[k] ≠ b[k]) = dd at hne hd
          subst hd
          go_wp2
          go_quiet (fail)
          go_wp2
          go_ret
          exact ⟨ret_bool (by rw [decide_eq_false HX.out]), by rw [hw.out, World.drewN_drewN]; exact below_drewN (Below.refl _ _) _⟩
      · have HX : Hid (a = b) := Lib.hid (by
          have h2 := hr.out
          have h3 := HL.out
          rw [List.take_of_length_le (by omega), List.take_of_length_le (by omega)] at h2; exact h2)
        go_wp2
        go_ret
        exact ⟨ret_bool (by rw [decide_eq_true HX.out]), by rw [hw.out]; exact below_drewN (Below.refl _ _) _⟩
  · have h1 : ((a.length : Int) != (b.length : Int)) = true := by rw [bne_iff_ne]; omega
    have HX : Hid (a ≠ b) := Lib.hid (fun e => hl (by rw [e]))
    clear hl r1 r2
    go_enter Tryd.func12, Tryd.ntmps12
    go_wp2
    go_ret
    exact ⟨ret_bool (by rw [decide_eq_false HX.out]), Below.refl _ _⟩
set_option maxHeartbeats 2000000 in
theorem SameStrings_any (u v : Value) (a b : List By) (w : World) (hu : RdS w w.heap.size u a) (hv : RdS w w.heap.size v b) :
    Calls Tryd.prog 17 #[u, v] w fun e w' => e = .returned (.bool (decide (a = b))) ∧ Below w.heap.size w w' := by
  obtain ⟨A1, c1, rfl, l1, m1, r1⟩ := hu.ex
  obtain ⟨A2, c2, rfl, l2, m2, r2⟩ := hv.ex
  unfold maxLen at m1 m2
  clear hu hv
  by_cases hl : a.length = b.length
  · have h1 : ((a.length : Int) != (b.length : Int)) = false := by rw [bne_eq_false_iff_eq]; omega
    have HL := Lib.hid hl; clear hl
    have R1 := Lib.hid r1; have R2 := Lib.hid r2; clear r1 r2
    go_enter Tryd.func17, Tryd.ntmps17
    go_wp2
    go_loopw [5] (fun i wr => ∃ (k nq : Nat), k ≤ a.length ∧ i = .int .i64 k ∧ Hid (wr = w.drewN nq) ∧ Hid (a.take k = b.take k)) (fun i _ => a.length - (intOf i).toNat)
    case atStart => exact ⟨0, 0, Nat.zero_le _, rfl, Lib.hid rfl, Lib.hid rfl⟩
    case round =>
      obtain ⟨k, m0, hk, rfl, hw, hr⟩ := hrel
      by_cases hlt : k < a.length
      · have hlb : k < b.length := by have := HL.out; omega
        obtain ⟨g1, o1, rfl, _, q1⟩ := R1.out (by omega)
        obtain ⟨g2, o2, rfl, _, q2⟩ := R2.out (by omega)
        have x1 := q1 k a[k] (List.getElem?_eq_getElem hlt) 0 _ rfl
        have y1 := q2 k b[k] (List.getElem?_eq_getElem hlb) 0 _ rfl
        clear q1 q2
        have hcell : ∀ p, wr.cell? p = w.cell? p := fun p => by rw [hw.out]; rfl
        simp only [Nat.add_zero, Nat.mul_one] at x1 y1
        rw [← hcell] at x1 y1
        clear hcell
        have hki : (k : Int) < (a.length : Int) := by omega
        have hkj : (k : Int) < (b.length : Int) := by omega
        have hne := str_beq a[k] b[k]
        by_cases hx : a[k] = b[k]
        · have hd : decide (a[k] = b[k]) = true := by simp [hx]
          have HX : Hid (a.take (k + 1) = b.take (k + 1)) := Lib.hid (by rw [List.take_succ_eq_append_getElem hlt, List.take_succ_eq_append_getElem hlb, hr.out, hx])
          clear hx
          generalize decide (a[k] = b[k]) = dd at hne hd
          subst hd
          go_wp2
          go_quiet (fail)
          go_wp2
          go_roundw
          case rel => exact ⟨k + 1, m0 + nq, by omega, by go_num, Lib.hid (by rw [hw.out, World.drewN_drewN]), HX⟩
          case measure => simp [intOf]; omega
        · have hd : decide (a[k] = b[k]) = false := by simp [hx]
          have HX : Hid (a ≠ b) := Lib.hid (fun e => hx (by subst e; rfl))
          clear hx
          generalize decide (a[k] = b[k]) = dd at hne hd
          subst hd
          go_wp2
          go_quiet (fail)
          go_wp2
          go_ret
          exact ⟨ret_bool (by rw [decide_eq_false HX.out]), by rw [hw.out, World.drewN_drewN]; exact below_drewN (Below.refl _ _) _⟩
      · have HX : Hid (a = b) := Lib.hid (by
          have h2 := hr.out
          have h3 := HL.out
          rw [List.take_of_length_le (by omega), List.take_of_length_le (by omega)] at h2; exact h2)
        go_wp2
        go_ret
        exact ⟨ret_bool (by rw [decide_eq_true HX.out]), by rw [hw.out]; exact below_drewN (Below.refl _ _) _⟩
  · have h1 : ((a.length : Int) != (b.length : Int)) = true := by rw [bne_iff_ne]; omega
    have HX : Hid (a ≠ b) := Lib.hid (fun e => hl (by rw [e]))
    clear hl r1 r2
    go_enter Tryd.func17, Tryd.ntmps17
    go_wp2
    go_ret
    exact ⟨ret_bool (by rw [decide_eq_false HX.out]), Below.refl _ _⟩
end Go.Proofs.YtaallpfkgcndmaaDoor.Pm
