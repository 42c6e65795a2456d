/-
  The contract of the iterator that package tree's lists returns.
-/
import Derived.Test.YtlceaadaeednpaaTrIter2
namespace Go.Proofs.Ytlceaadaeednpaa.Tr
open Go.RowKit Go.Shelf Rf
attribute [local go_sem] Oper.semAt_some

set_option maxRecDepth 100000 in
set_option maxHeartbeats 8000000 in
theorem lists_seq (d : Nat) (w : World) (B : Nat) (hB : B ≤ w.heap.size) (v : Value) (ns : List Nd) (h : LRd (d + 1) w B v ns) (w1 : World) (hw1 : Below w.heap.size w w1) (hbox : w1.heap[w.heap.size + 1]? = some (.cells #[v] 22)) :
    SeqAll Try.prog 32 #[.pointer (some ⟨w.heap.size + 1, 0, none⟩)] (encL (d := d) (w := w) (B := B)) w.heap.size (fun xs => lst xs = below ns) w1 := by
  intro l J W hW1 hJ hY h0
  have hlt1 : w.heap.size + 1 < w1.heap.size := (Array.getElem?_eq_some_iff.1 hbox).1
  have hbx := (hW1.block _ hlt1).trans hbox
  have hW : Below w.heap.size w W := hw1.trans (hW1.mono hw1.size)
  have hn : w.heap.size < W.heap.size := Nat.lt_of_lt_of_le (by omega) hW1.size
  obtain ⟨A, c, rfl, hc1, hc2, hln, R⟩ := h.open
  have cbx : W.cell? ⟨w.heap.size + 1, 0, none⟩ = some (.slice A ns.length c) := cell_heap hbx rfl
  have R' := Lib.hid R; clear R h hbx hbox hlt1 hW1 hw1
  have H0 := Lib.hid h0; clear h0
  refine callsIn_of_wp Try.func32 rfl trivial ?_ rfl
  simp only [Try.ntmps32, List.size_toArray, List.length_cons, List.length_nil, Nat.reduceAdd, Nat.reduceSub, Array.replicate_succ, Array.replicate_zero, List.push_toArray, List.append_toArray, List.nil_append, List.cons_append]
  gi_wp2
  clear cbx
  gi_loopw [7] (fun i wr => ∃ (k : Nat) (xs : List (Ls d w B)), k ≤ ns.length ∧ i = .int .i64 k ∧ Hid (lst xs = (ns.take k).flatMap belowN) ∧ Hid (J xs wr) ∧ Hid (Kp w.heap.size W wr)) (fun i _ => ns.length - (intOf i).toNat)
  case atStart => exact ⟨0, [], Nat.zero_le _, rfl, Lib.hid (by simp [lst]), H0, Lib.hid (Kp.refl _ _)⟩
  case round =>
    obtain ⟨k, xs, hk, rfl, hx, hj, hkp⟩ := hrel
    by_cases hlt : k < ns.length
    · obtain ⟨g, o, rfl, hg, q⟩ := R'.out (by omega)
      obtain ⟨vk, va, x1, x2, x3, x4, x5, f1, f2, x6, x7⟩ := q k ns[k] (List.getElem?_eq_getElem hlt)
      clear q f1 f2
      obtain ⟨Ak, ck, rfl⟩ := x6.form
      obtain ⟨Aa, ca, rfl⟩ := ARd.form (d := d) x7
      have hbl := hW.trans hkp.out.bl
      have hcell : ∀ i, wr.cell? ⟨g, i, none⟩ = w.cell? ⟨g, i, none⟩ := fun i => hbl.cell (by show g < _; omega)
      rw [← hcell] at x1 x2 x3 x4 x5
      clear hcell
      have HT := Lib.hid (flat_take belowN hlt)
      have hsz : w.heap.size < wr.heap.size := Nat.lt_of_lt_of_le hn hkp.out.bl.size
      clear hbl
      generalize ns[k] = nd at *
      obtain ⟨kd, tg, tx, kids, args⟩ := nd
      simp only [Nd.kind, Nd.tag, Nd.text, Nd.kids, Nd.args] at x1 x2 x3 x4 x5 x6 x7
      have X6 := Lib.hid x6; have X7 := Lib.hid (show ARd d w B _ args from x7); clear x6 x7
      have hbN : belowN (Nd.mk kd tg tx kids args) = (if hasK kd then [kids] else []) ++ (if hasA kd then args.flatMap belowG else []) := rfl
      rw [hbN] at HT
      clear hbN
      obtain ⟨O, hO⟩ : ∃ O, (Obj.cells #[Value.int .i64 kd, Value.int .i64 tg, Value.string tx, Value.slice Ak kids.length ck, Value.slice Aa args.length ca] 31) = O := ⟨_, rfl⟩
      have J1 := Lib.hid (hJ _ _ O (Nat.le_of_lt hsz) hj.out)
      have K1 := Lib.hid (hkp.out.alloc (Nat.le_of_lt hsz) O)
      have J2 := Lib.hid (hJ _ _ O (by simp; omega) J1.out)
      have K2 := Lib.hid (K1.out.alloc (by simp; omega) O)
      have q2 : ((wr.alloc O).alloc O).heap[wr.heap.size]? = some O := heap_alloc2_old wr O O
      have HQ := Lib.hid q2; clear q2 J1 K1
      -- the node's copy in a later world
      have HZ : Hid (∀ Z : World, Z.heap[wr.heap.size]? = some O → Z.cell? ⟨wr.heap.size, 0, none⟩ = some (Value.int .i64 kd) ∧ Z.cell? ⟨wr.heap.size, 1, none⟩ = some (Value.int .i64 tg) ∧ Z.cell? ⟨wr.heap.size, 2, none⟩ = some (Value.string tx) ∧ Z.cell? ⟨wr.heap.size, 3, none⟩ = some (Value.slice Ak kids.length ck) ∧ Z.cell? ⟨wr.heap.size, 4, none⟩ = some (Value.slice Aa args.length ca)) := Lib.hid (by
        intro Z hZ; rw [← hO] at hZ
        exact ⟨cell_heap hZ rfl, cell_heap hZ rfl, cell_heap hZ rfl, cell_heap hZ rfl, cell_heap hZ rfl⟩)
      have HO := Lib.hid hO; clear hO
      gi_wp2
      refine ⟨trivial, rfl, (callsIn_wide.2 (hasKids_any kd tg tx _ _ _)).mono ?_⟩
      rintro e w' ⟨rfl, rfl⟩
      rw [HO.out]
      generalize (wr.alloc O).alloc O = W2 at J2 K2 HQ ⊢
      clear x1 x2 x3 x4 x5
      cases hK : hasK kd with
      | false =>
        have hA : hasA kd = false := by unfold hasA; rw [hK]; rfl
        rw [hK, hA] at HT
        have HA := Lib.hid hA; clear hA hK
        gi_wp2
        refine ⟨fun _ h => (by cases h), ?_⟩
        obtain ⟨z0, z1, z2, z3, z4⟩ := HZ.out W2 HQ.out
        gi_wp2
        refine ⟨trivial, rfl, (callsIn_wide.2 (hasArgs_any kd tg tx _ _ _ _ _ _ _)).mono ?_⟩
        rintro e w' ⟨rfl, rfl⟩
        rw [HO.out]
        have hs4 : w.heap.size ≤ W2.heap.size := Nat.le_trans (Nat.le_of_lt hn) K2.out.bl.size
        have J4 := Lib.hid (hJ _ _ O (by simp; omega) (hJ _ _ O hs4 J2.out))
        have K4 := Lib.hid ((K2.out.alloc hs4 O).alloc (by simp; omega) O)
        have Q4 : Hid (((W2.alloc O).alloc O).heap[wr.heap.size]? = some O) := Lib.hid (by
          have hl : wr.heap.size < W2.heap.size := (Array.getElem?_eq_some_iff.1 HQ.out).1
          rw [Below.heap_alloc _ _ _ (by simp; omega), Below.heap_alloc _ _ _ hl]; exact HQ.out)
        generalize (W2.alloc O).alloc O = U4 at J4 K4 Q4 ⊢
        clear z0 z1 z2 z3 z4 hs4
        rw [HA.out]
        gi_wp2
        refine ⟨trivial, ?_⟩
        gi_wp2
        go_roundw
        case rel => exact ⟨k + 1, xs, by omega, by go_num, Lib.hid (by rw [HT.out, hx.out]; simp), J4, K4⟩
        case measure => exact meas hlt
      | true =>
        rw [hK] at HT
        clear hK
        obtain ⟨z0, z1, z2, z3, z4⟩ := HZ.out W2 HQ.out
        obtain ⟨fn, tmps, assign, body, hy, hR⟩ := hY _ ⟨(Value.slice Ak kids.length ck, kids), X6.out⟩ _ J2.out
        dsimp only [encL] at hy
        gi_wp2
        refine ⟨rfl, hR.mono ?_⟩
        rintro e W3 ⟨rfl, hj3, hk3⟩
        have hO2 := HO.out
        have Q3 : Hid (W3.heap[wr.heap.size]? = some O) := Lib.hid (by
          have h := HQ.out
          rw [← hO2] at h ⊢
          exact hk3.cell (by omega) h)
        have J3 := Lib.hid hj3; have K3 := Lib.hid (K2.out.trans hk3); clear hj3 hk3 hR hy hO2 z0 z1 z2 z3 z4
        obtain ⟨z0, z1, z2, z3, z4⟩ := HZ.out W3 Q3.out
        gi_wp2
        refine ⟨trivial, rfl, (callsIn_wide.2 (hasArgs_any kd tg tx _ _ _ _ _ _ _)).mono ?_⟩
        rintro e w' ⟨rfl, rfl⟩
        rw [HO.out]
        have hs4 : w.heap.size ≤ W3.heap.size := Nat.le_trans (Nat.le_of_lt hn) K3.out.bl.size
        have J4 := Lib.hid (hJ _ _ O (by simp; omega) (hJ _ _ O hs4 J3.out))
        have K4 := Lib.hid ((K3.out.alloc hs4 O).alloc (by simp; omega) O)
        have Q4 : Hid (((W3.alloc O).alloc O).heap[wr.heap.size]? = some O) := Lib.hid (by
          have hl : wr.heap.size < W3.heap.size := (Array.getElem?_eq_some_iff.1 Q3.out).1
          rw [Below.heap_alloc _ _ _ (by simp; omega), Below.heap_alloc _ _ _ hl]; exact Q3.out)
        generalize (W3.alloc O).alloc O = U4 at J4 K4 Q4 ⊢
        clear z0 z1 z2 z3 z4 hs4
        cases hA : hasA kd with
        | false =>
          rw [hA] at HT
          clear hA
          gi_wp2
          refine ⟨trivial, ?_⟩
          gi_wp2
          go_roundw
          case rel => exact ⟨k + 1, xs ++ [⟨(Value.slice Ak kids.length ck, kids), X6.out⟩], by omega, by go_num, Lib.hid (by rw [lst_append, HT.out, hx.out]; simp [lst]), J4, K4⟩
          case measure => exact meas hlt
        | true =>
          rw [hA] at HT
          clear hA
          obtain ⟨z0, z1, z2, z3, z4⟩ := HZ.out U4 Q4.out
          gi_wp2
          refine ⟨trivial, rfl, (yieldArgs_in d w B l hB J hJ hY _ args X7.out _ U4 (hW.trans K4.out.bl) (Nat.lt_of_lt_of_le hn K4.out.bl.size) J4.out).mono ?_⟩
          rintro e W5 ⟨rfl, ys, hys, hj5, hk5⟩
          have J5 := Lib.hid hj5; have K5 := Lib.hid (K4.out.trans hk5); have HY := Lib.hid hys; clear hj5 hk5 hys z0 z1 z2 z3 z4
          gi_wp2
          go_roundw
          case rel => exact ⟨k + 1, xs ++ [⟨(Value.slice Ak kids.length ck, kids), X6.out⟩] ++ ys, by omega, by go_num, Lib.hid (by rw [lst_append, lst_append, HT.out, hx.out, HY.out]; simp [lst]), J5, K5⟩
          case measure => exact meas hlt
    · have e : k = ns.length := by omega
      subst e
      rw [List.take_length] at hx
      gi_wp2
      go_end0
      exact ⟨⟨_, rfl⟩, xs, hx.out, hj.out⟩
end Go.Proofs.Ytlceaadaeednpaa.Tr
