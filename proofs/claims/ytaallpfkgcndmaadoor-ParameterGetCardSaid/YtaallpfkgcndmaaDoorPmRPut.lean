/-
  The contract of the reference's Put.
-/
import Derived.Test.YtaallpfkgcndmaaDoorPmPut
namespace Go.Proofs.YtaallpfkgcndmaaDoor.Pm
open Go.RowKit Go.Shelf
set_option linter.unusedVariables false
set_option linter.unusedSimpArgs false

theorem rput_at {n t : By} {d : Bool} {l : List Bd} {k : Nat} (h : k < l.length) : rput n t d (l.drop k) = (if (!d && decide (n ≤ l[k].1)) then [(n, t)] else []) ++ (if l[k].1 = n then [] else [l[k]]) ++ rput n t (d || decide (n ≤ l[k].1)) (l.drop (k + 1)) := by
  rw [List.drop_eq_getElem_cons h]; rfl
theorem rput_end {n t : By} {d : Bool} {l : List Bd} {k : Nat} (h : l.length ≤ k) : rput n t d (l.drop k) = if d then [] else [(n, t)] := by
  rw [List.drop_eq_nil_of_le h]; rfl
/-- What Put returns. -/
def PutP (w : World) (L : List Bd) : Ending → World → Prop := fun e w' => ∃ v', e = .returned v' ∧ OwnB w' w.heap.size v' L ∧ Below w.heap.size w w'
set_option maxRecDepth 100000 in
set_option maxHeartbeats 4000000 in
theorem Put_any (v : Value) (l : List Bd) (n t : By) (w : World) (hr : RdB w w.heap.size v l) (hl : l.length ≤ 65536) :
    Calls Tryd.prog 24 #[v, .string (bsl n), .string (bsl t)] w (PutP w (put n t l)) := by
  obtain ⟨A1, c1, rfl, l1, m1, r1⟩ := hr.ex
  unfold maxLen at m1
  clear hr
  obtain ⟨i0, hi0, hz0, hz1, hz2⟩ := info_parts bindInfo
  have R1 := Lib.hid r1; clear r1
  have HP := Lib.hid (len_put n t l)
  go_enter Tryd.func24, Tryd.ntmps24
  go_wp2
  go_loopw [7, 8, 9] (fun nv dv i wr => ∃ (k : Nat) (d : Bool) (X : List Bd), k ≤ l.length ∧ i = .int .i64 k ∧ dv = .bool d ∧ X.length ≤ l.length + 1 ∧ Hid (Below w.heap.size w wr) ∧ Hid (OwnB wr w.heap.size nv X) ∧ Hid (X ++ rput n t d (l.drop k) = put n t l)) (fun _ _ i _ => l.length - (intOf i).toNat)
  case atStart => exact ⟨0, false, [], Nat.zero_le _, rfl, rfl, by simp, Lib.hid (Below.refl _ _), Lib.hid (OwnB.nil _ _), Lib.hid rfl⟩
  case round =>
    obtain ⟨k, d, X, hk, rfl, rfl, hX, hb, ho, he⟩ := hrel
    have hs1 : w.heap.size ≤ wr.heap.size := hb.out.size
    by_cases hlt : k < l.length
    · obtain ⟨g, o, rfl, hg, q⟩ := R1.out (by omega)
      have hki : (k : Int) < (l.length : Int) := by omega
      have q1 := q k l[k] (List.getElem?_eq_getElem hlt) 0 _ rfl
      have q2 := q k l[k] (List.getElem?_eq_getElem hlt) 1 _ rfl
      have HF := Lib.hid (rput_at (n := n) (t := t) (d := d) hlt)
      generalize l[k] = p at q1 q2 HF
      obtain ⟨pn, pt⟩ := p
      simp only [Nat.add_zero] at q1 q2
      have hc : ∀ j, wr.cell? ⟨g, j, none⟩ = w.cell? ⟨g, j, none⟩ := fun j => hb.out.cell (p := ⟨g, j, none⟩) hg
      have Q := Lib.hid (And.intro q1 q2)
      rw [← hc] at q1 q2
      have hgr : g < wr.heap.size := by omega
      clear hc q
      have hcmp := str_beq pn n
      have hls := less_str pn n
      cases d with
      | true =>
        by_cases heq : pn = n
        · rw [decide_eq_true heq] at hcmp
          have hge : True := trivial
          have HN : Hid (rput n t true (l.drop k) = [] ++ rput n t true (l.drop (k + 1))) := Lib.hid (by rw [HF.out]; simp [hge, heq])
          have HL : Hid ((X ++ []).length ≤ l.length + 1) := Lib.hid (by have h1 := congrArg List.length he.out; rw [HN.out] at h1; have h2 := HP.out; simp only [List.length_append, List.length_cons, List.length_nil] at h1 ⊢; omega)
          clear hge heq
          clear hls
          go_wp2
          go_roundw
          case rel => exact ⟨k + 1, true, X, by omega, by go_num, rfl, hX, hb, ho, Lib.hid (by rw [← he.out, HN.out]; rfl)⟩
          case measure => simp [intOf]; omega
        · rw [decide_eq_false heq] at hcmp
          have hge : True := trivial
          have HN : Hid (rput n t true (l.drop k) = [(pn, pt)] ++ rput n t true (l.drop (k + 1))) := Lib.hid (by rw [HF.out]; simp [hge, heq])
          have HL : Hid ((X ++ [(pn, pt)]).length ≤ l.length + 1) := Lib.hid (by have h1 := congrArg List.length he.out; rw [HN.out] at h1; have h2 := HP.out; simp only [List.length_append, List.length_cons, List.length_nil] at h1 ⊢; omega)
          clear hge heq
          clear hls
          go_wp2_with (at_builtin; refine wpList_append_own _ rfl (.tmp 40) (.tmp 45) _ rfl w.heap.size 33 i0 _ 2 32 Tryd.underlying25 hi0 hz0 hz1 hz2 rfl (by omega) u7 X.length (X.flatMap encB) rfl (World.ownsRow.alloc ho.out _) ⟨wr.heap.size, 0, none⟩ 1 1 [.string (bsl pn), .string (bsl pt)] rfl rfl (cells_new wr [.string (bsl pn), .string (bsl pt)] 33) (by simp [Value.oneCell']) (by simp only [maxLen, List.length_append, List.length_cons, List.length_nil]; omega) (by first | omega | (simp only [List.length_append, List.length_cons, List.length_nil]; omega)) (by simp; omega) ?_; intro v2 w2 ho2 hg2 _)
          go_roundw
          case rel => exact ⟨k + 1, true, X ++ [(pn, pt)], by omega, by go_num, rfl, HL.out, Lib.hid (hb.out.trans (((Below.refl _ _).alloc hs1 _).trans (below_own (World.ownsRow.alloc ho.out _) hg2 (by simp; omega)))), Lib.hid (snocB ho2), Lib.hid (by rw [← he.out, HN.out]; simp)⟩
          case measure => simp [intOf]; omega
      | false =>
        by_cases hge : n ≤ pn
        · rw [decide_eq_true hge] at hls
          simp only [Bool.not_true] at hls
          by_cases heq : pn = n
          · rw [decide_eq_true heq] at hcmp
            have HN : Hid (rput n t false (l.drop k) = [(n, t)] ++ rput n t true (l.drop (k + 1))) := Lib.hid (by rw [HF.out]; simp [hge, heq])
            have HL : Hid ((X ++ [(n, t)]).length ≤ l.length + 1) := Lib.hid (by have h1 := congrArg List.length he.out; rw [HN.out] at h1; have h2 := HP.out; simp only [List.length_append, List.length_cons, List.length_nil] at h1 ⊢; omega)
            clear hge heq
            go_wp2_with (at_builtin; refine wpList_append_own _ rfl (.tmp 27) (.tmp 31) _ rfl w.heap.size 33 i0 _ 2 32 Tryd.underlying25 hi0 hz0 hz1 hz2 rfl (by omega) u7 X.length (X.flatMap encB) rfl (World.ownsRow.alloc ho.out _) ⟨wr.heap.size, 0, none⟩ 1 1 [.string (bsl n), .string (bsl t)] rfl rfl (cells_new wr [.string (bsl n), .string (bsl t)] 33) (by simp [Value.oneCell']) (by simp only [maxLen, List.length_append, List.length_cons, List.length_nil]; omega) (by first | omega | (simp only [List.length_append, List.length_cons, List.length_nil]; omega)) (by simp; omega) ?_; intro v2 w2 ho2 hg2 _; have b2 := Lib.hid (hb.out.trans (((Below.refl _ _).alloc hs1 _).trans (below_own (World.ownsRow.alloc ho.out _) hg2 (by simp; omega)))); have q3 : w2.cell? ⟨g, o + k * 2, none⟩ = some (.string (bsl pn)) := (b2.out.cell (p := ⟨g, o + k * 2, none⟩) hg).trans Q.out.1)
            go_roundw
            case rel => exact ⟨k + 1, true, X ++ [(n, t)], by omega, by go_num, rfl, HL.out, b2, Lib.hid (snocB ho2), Lib.hid (by rw [← he.out, HN.out]; simp)⟩
            case measure => simp [intOf]; omega
          · rw [decide_eq_false heq] at hcmp
            have HN : Hid (rput n t false (l.drop k) = [(n, t), (pn, pt)] ++ rput n t true (l.drop (k + 1))) := Lib.hid (by rw [HF.out]; simp [hge, heq])
            have HL : Hid ((X ++ [(n, t), (pn, pt)]).length ≤ l.length + 1) := Lib.hid (by have h1 := congrArg List.length he.out; rw [HN.out] at h1; have h2 := HP.out; simp only [List.length_append, List.length_cons, List.length_nil] at h1 ⊢; omega)
            clear hge heq
            go_wp2_with (first
             | (at_builtin; refine wpList_append_own _ rfl (.tmp 27) (.tmp 31) _ rfl w.heap.size 33 i0 _ 2 32 Tryd.underlying25 hi0 hz0 hz1 hz2 rfl (by omega) u7 X.length (X.flatMap encB) rfl (World.ownsRow.alloc ho.out _) ⟨wr.heap.size, 0, none⟩ 1 1 [.string (bsl n), .string (bsl t)] rfl rfl (cells_new wr [.string (bsl n), .string (bsl t)] 33) (by simp [Value.oneCell']) (by simp only [maxLen, List.length_append, List.length_cons, List.length_nil]; omega) (by first | omega | (simp only [List.length_append, List.length_cons, List.length_nil]; omega)) (by simp; omega) ?_; intro v2 w2 ho2 hg2 _; have b2 := Lib.hid (hb.out.trans (((Below.refl _ _).alloc hs1 _).trans (below_own (World.ownsRow.alloc ho.out _) hg2 (by simp; omega)))); have q3 : w2.cell? ⟨g, o + k * 2, none⟩ = some (.string (bsl pn)) := (b2.out.cell (p := ⟨g, o + k * 2, none⟩) hg).trans Q.out.1; have q4 : w2.cell? ⟨g, o + k * 2 + 1, none⟩ = some (.string (bsl pt)) := (b2.out.cell (p := ⟨g, o + k * 2 + 1, none⟩) hg).trans Q.out.2; have hs2 : w.heap.size ≤ w2.heap.size := b2.out.size; have ho2' : Hid (OwnB w2 w.heap.size v2 (X ++ [(n, t)])) := Lib.hid (snocB ho2); clear ho2 hg2)
             | (at_builtin; refine wpList_append_own _ rfl (.tmp 40) (.tmp 45) _ rfl w.heap.size 33 i0 _ 2 32 Tryd.underlying25 hi0 hz0 hz1 hz2 rfl (by omega) v2 (X ++ [(n, t)]).length ((X ++ [(n, t)]).flatMap encB) rfl (World.ownsRow.alloc ho2'.out _) ⟨w2.heap.size, 0, none⟩ 1 1 [.string (bsl pn), .string (bsl pt)] rfl rfl (cells_new w2 [.string (bsl pn), .string (bsl pt)] 33) (by simp [Value.oneCell']) (by simp only [maxLen, List.length_append, List.length_cons, List.length_nil]; omega) (by first | omega | (simp only [List.length_append, List.length_cons, List.length_nil]; omega)) (by simp; omega) ?_; intro v3 w3 ho3 hg3 _))
            go_roundw
            case rel => exact ⟨k + 1, true, (X ++ [(n, t)]) ++ [(pn, pt)], by omega, by go_num, rfl, by simpa using HL.out, Lib.hid (b2.out.trans (((Below.refl _ _).alloc hs2 _).trans (below_own (World.ownsRow.alloc ho2'.out _) hg3 (by simp; omega)))), Lib.hid (snocB ho3), Lib.hid (by rw [← he.out, HN.out]; simp)⟩
            case measure => simp [intOf]; omega
        · rw [decide_eq_false hge] at hls
          simp only [Bool.not_false] at hls
          have heq : pn ≠ n := fun q => hge (by rw [q]; exact List.le_refl _)
          rw [decide_eq_false heq] at hcmp
          have HN : Hid (rput n t false (l.drop k) = [(pn, pt)] ++ rput n t false (l.drop (k + 1))) := Lib.hid (by rw [HF.out]; simp [hge, heq])
          have HL : Hid ((X ++ [(pn, pt)]).length ≤ l.length + 1) := Lib.hid (by have h1 := congrArg List.length he.out; rw [HN.out] at h1; have h2 := HP.out; simp only [List.length_append, List.length_cons, List.length_nil] at h1 ⊢; omega)
          clear hge heq
          go_wp2_with (at_builtin; refine wpList_append_own _ rfl (.tmp 40) (.tmp 45) _ rfl w.heap.size 33 i0 _ 2 32 Tryd.underlying25 hi0 hz0 hz1 hz2 rfl (by omega) u7 X.length (X.flatMap encB) rfl (World.ownsRow.alloc ho.out _) ⟨wr.heap.size, 0, none⟩ 1 1 [.string (bsl pn), .string (bsl pt)] rfl rfl (cells_new wr [.string (bsl pn), .string (bsl pt)] 33) (by simp [Value.oneCell']) (by simp only [maxLen, List.length_append, List.length_cons, List.length_nil]; omega) (by first | omega | (simp only [List.length_append, List.length_cons, List.length_nil]; omega)) (by simp; omega) ?_; intro v2 w2 ho2 hg2 _)
          go_roundw
          case rel => exact ⟨k + 1, false, X ++ [(pn, pt)], by omega, by go_num, rfl, HL.out, Lib.hid (hb.out.trans (((Below.refl _ _).alloc hs1 _).trans (below_own (World.ownsRow.alloc ho.out _) hg2 (by simp; omega)))), Lib.hid (snocB ho2), Lib.hid (by rw [← he.out, HN.out]; simp)⟩
          case measure => simp [intOf]; omega
    · have HE := Lib.hid (rput_end (n := n) (t := t) (d := d) (l := l) (k := k) (by omega))
      cases d with
      | true =>
        have HO : Hid (X = put n t l) := Lib.hid (by rw [← he.out, HE.out]; simp)
        go_wp2
        go_ret
        exact ⟨u7, rfl, by rw [← HO.out]; exact ho.out, hb.out⟩
      | false =>
        have HO : Hid (X ++ [(n, t)] = put n t l) := Lib.hid (by rw [← he.out, HE.out]; simp)
        go_wp2_with (at_builtin; refine wpList_append_own _ rfl (.tmp 49) (.tmp 53) _ rfl w.heap.size 33 i0 _ 2 32 Tryd.underlying25 hi0 hz0 hz1 hz2 rfl (by omega) u7 X.length (X.flatMap encB) rfl (World.ownsRow.alloc ho.out _) ⟨wr.heap.size, 0, none⟩ 1 1 [.string (bsl n), .string (bsl t)] rfl rfl (cells_new wr [.string (bsl n), .string (bsl t)] 33) (by simp [Value.oneCell']) (by simp only [maxLen, List.length_append, List.length_cons, List.length_nil]; omega) (by first | omega | (simp only [List.length_append, List.length_cons, List.length_nil]; omega)) (by simp; omega) ?_; intro v2 w2 ho2 hg2 _)
        go_ret
        exact ⟨v2, rfl, by rw [← HO.out]; exact snocB ho2, hb.out.trans (((Below.refl _ _).alloc hs1 _).trans (below_own (World.ownsRow.alloc ho.out _) hg2 (by simp; omega)))⟩
end Go.Proofs.YtaallpfkgcndmaaDoor.Pm
