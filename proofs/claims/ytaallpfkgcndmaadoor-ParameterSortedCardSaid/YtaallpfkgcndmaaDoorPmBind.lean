/-
  The contract of parameter.Bind.
-/
import Derived.Test.YtaallpfkgcndmaaDoorPmSort
import Derived.Test.YtaallpfkgcndmaaDoorPmRBind
namespace Go.Proofs.YtaallpfkgcndmaaDoor.Pm
open Go.RowKit Go.Shelf
set_option linter.unusedVariables false
set_option linter.unusedSimpArgs false

theorem x_mapUpd {E : Operand → Value} {o : Oper} {W W' : World} {m x v : Operand} {b : Nat} {key val : Value} (ho : o.op = Op.mapUpdate 44 m x v) (hm : E m = .map (some b)) (hx : E x = key) (hv : E v = val) (hr : (Instr.mapUpdate 44 (.map (some b)) key val).run Tryd.prog W = .ok () W') : (execOp E o).run Tryd.prog W = .ok .skip W' := by
  unfold execOp
  rw [ho]
  simp [hm, hx, hv, hr, Result.andThen]
theorem cell_heap {w : World} {g : Nat} {cs : Array Value} {t : TypeId} {i : Nat} {v : Value} (h : w.heap[g]? = some (.cells cs t)) (hv : cs[i]? = some v) : w.cell? ⟨g, i, none⟩ = some v := by
  simp [World.cell?, h, hv]
def F3 (bm bt : Nat) (s1 s2 s3 s4 : By) : Nat → Value → World → Prop
  | 0, v, _ => v = .map (some bm)
  | 1, v, _ => v = .pointer (some ⟨bt, 1, none⟩)
  | 2, v, _ => v = .string (bsl s1)
  | 3, v, _ => v = .string (bsl s2)
  | 4, v, _ => v = .pointer (some ⟨bt, 2, none⟩)
  | 5, v, _ => v = .string (bsl s3)
  | _, v, _ => v = .string (bsl s4)
theorem F3.st {bm bt : Nat} {s1 s2 s3 s4 : By} : ∀ i v w w', F3 bm bt s1 s2 s3 s4 i v w → Bl w w' → F3 bm bt s1 s2 s3 s4 i v w' := by
  intro i v w w' h _
  unfold F3 at h ⊢
  split <;> simp only at h ⊢ <;> exact h
def F4 (bm bt q : Nat) (s1 s2 : By) : Nat → Value → World → Prop
  | 0, v, _ => v = .map (some bm)
  | 1, v, _ => v = .int .i64 (q : Int)
  | 2, v, _ => v = .string (bsl s1)
  | 3, v, _ => v = .pointer (some ⟨bt, 2, none⟩)
  | _, v, _ => v = .string (bsl s2)
theorem F4.st {bm bt q : Nat} {s1 s2 : By} : ∀ i v w w', F4 bm bt q s1 s2 i v w → Bl w w' → F4 bm bt q s1 s2 i v w' := by
  intro i v w w' h _
  unfold F4 at h ⊢
  split <;> simp only at h ⊢ <;> exact h
theorem take_map {l : List Bd} {k : Nat} (h : k < l.length) : (l.map Prod.fst)[k]? = some l[k].1 := by
  rw [List.getElem?_map, List.getElem?_eq_getElem h]; rfl
theorem find_at {l : List Bd} (h : Asc l) {k : Nat} (hk : k < l.length) : find l[k].1 l = some l[k].2 := find_asc h (List.getElem_mem hk)
theorem dec_len (k : Nat) (h : k < 100) : (dec k).length ≤ 100 := Nat.le_trans (dec_len2 h) (by omega)
/-- Names and texts in the list are short. -/
def Sh (T : List Bd) : Prop := ∀ p ∈ T, p.1.length ≤ 100 ∧ p.2.length ≤ 300
theorem Sh.put {T : List Bd} (h : Sh T) {n t : By} (hn : n.length ≤ 100) (ht : t.length ≤ 300) : Sh (put n t T) := fun p hp => by
  rcases (mem_put n t p T).1 hp with rfl | ⟨hp, _⟩
  · exact ⟨hn, ht⟩
  · exact h p hp
set_option maxRecDepth 100000 in
set_option maxHeartbeats 8000000 in
theorem Bind_any (v : Value) (l : List Val) (w : World) (hr : RdV w w.heap.size v l) (hsm : Sm l) :
    Calls Tryd.prog 10 #[v] w (BindP w l) := by
  obtain ⟨A1, c1, rfl, l1, m1, r1⟩ := hr.ex
  unfold maxLen at m1
  clear hr
  have R1 := Lib.hid r1; clear r1
  obtain ⟨hln, hname, htext⟩ := hsm
  have HN := Lib.hid hname; have HT := Lib.hid htext; clear hname htext
  by_cases h40 : 40 < l.length
  · have d40 : (40 : Int) < (l.length : Int) := by omega
    have HI : Hid ((if 40 < l.length then (8 : Int) else 0) = 8) := Lib.hid (if_pos h40)
    have HJ : Hid ((if 40 < l.length then ([] : List Bd) else bind (puts dec tr 0 l)) = []) := Lib.hid (if_pos h40)
    clear h40
    go_enter Tryd.func10, Tryd.ntmps10
    go_wp2
    go_ret2
    exact ⟨.slice none 0 0, by rw [HI.out]; rfl, by rw [HJ.out]; exact OwnB.nil _ _, Below.refl _ _⟩
  · have d40 : ¬ (40 : Int) < (l.length : Int) := by omega
    have HI : Hid ((if 40 < l.length then (8 : Int) else 0) = 0) := Lib.hid (if_neg h40)
    have HJ : Hid ((if 40 < l.length then ([] : List Bd) else bind (puts dec tr 0 l)) = bind (puts dec tr 0 l)) := Lib.hid (if_neg h40)
    obtain ⟨i0, hi0, hz0, hz1, hz2⟩ := info_parts bindInfo
    have hmm := @run_makeMap Tryd.prog
    go_enter Tryd.func10, Tryd.ntmps10
    go_wp2
    go_loopw [5, 17] (fun nv i wr => ∃ (k : Nat), k ≤ l.length ∧ i = .int .i64 k ∧ nv = .int .i64 (poss (l.take k) : Nat) ∧ Hid (Below w.heap.size w wr ∧ MapIs wr w.heap.size k (upto l k) ∧ Sh (upto l k))) (fun _ i _ => l.length - (intOf i).toNat)
    case atStart => exact ⟨0, Nat.zero_le _, rfl, rfl, Lib.hid ⟨(Below.refl _ _).alloc (Nat.le_refl _) _, MapIs.made w, fun p hp => by cases hp⟩⟩
    case round =>
      obtain ⟨k, hk, rfl, rfl, hS⟩ := hrel
      by_cases hlt : k < l.length
      · obtain ⟨g, o, rfl, hg, q⟩ := R1.out (by omega)
        have hki : (k : Int) < (l.length : Int) := by omega
        obtain ⟨pb, pn, pt, hp⟩ : ∃ pb pn pt, l[k] = (pb, pn, pt) := ⟨_, _, _, rfl⟩
        have q1 := q k l[k] (List.getElem?_eq_getElem hlt) 0 _ rfl
        have q2 := q k l[k] (List.getElem?_eq_getElem hlt) 1 _ rfl
        have q3 := q k l[k] (List.getElem?_eq_getElem hlt) 2 _ rfl
        have n1 := HN.out l[k] (List.getElem_mem hlt)
        have n2 := HT.out l[k] (List.getElem_mem hlt)
        rw [hp] at q1 q2 q3 n1 n2
        simp only [Nat.add_zero] at q1 q2 q3 n1 n2
        have hc : ∀ j, wr.cell? ⟨g, j, none⟩ = w.cell? ⟨g, j, none⟩ := fun j => hS.out.1.cell (p := ⟨g, j, none⟩) hg
        rw [← hc] at q1 q2 q3
        have hpl := poss_le (l.take k)
        rw [List.length_take] at hpl
        have bT : Below wr.heap.size wr (wr.alloc (Obj.cells #[Value.bool pb, .string (bsl pn), .string (bsl pt)] 40)).drew := ((Below.refl _ _).alloc (Nat.le_refl _) _).drew
        have hbt : (wr.alloc (Obj.cells #[Value.bool pb, .string (bsl pn), .string (bsl pt)] 40)).drew.heap[wr.heap.size]? = some (Obj.cells #[Value.bool pb, .string (bsl pn), .string (bsl pt)] 40) := heap_alloc_new wr _
        have BH := Lib.hid (And.intro bT hbt)
        clear hbt
        clear hc q bT
        cases pb with
        | true =>
          have HU := Lib.hid (upto_yes hlt hp)
          have HQ := Lib.hid (poss_yes hlt hp)
          clear hp
          go_wp2_with fail
          clear q1 q2 q3
          obtain ⟨bT2, hbt⟩ := BH.out
          have BT := Lib.hid bT2
          have hltb := (Array.getElem?_eq_some_iff.1 hbt).1
          clear BH bT2
          generalize hWX : (wr.alloc (Obj.cells #[Value.bool true, .string (bsl pn), .string (bsl pt)] 40)) = WX at BT hbt hltb ⊢
          clear hWX
          refine region_ki Bl (Below.refl _ _) [23, 24, 25, 26, 27, 28, 29] [23, 24, 25, 26, 27, 28, 29] [(4, .map (some w.heap.size)), (7, .pointer (some ⟨wr.heap.size, 0, none⟩))] (F3 w.heap.size wr.heap.size pn (tr pn) pt (tr pt)) (by kernel_rfl) (n := 7) (by kernel_rfl) (by kernel_rfl) (lk_ok (by intro p hp; simp only [List.mem_cons, List.not_mem_nil, or_false] at hp; rcases hp with rfl | rfl <;> rfl)) ?_
          intro l0 ds hl0 hds hTb
          have HL0 := Lib.hid hl0; have HDS := Lib.hid hds; clear hl0 hds
          refine ⟨?_, ?_⟩
          · intro i hi S a w' hI hd
            have hq := (hI.bl.block _ hltb).trans hbt
            have c2 : w'.cell? ⟨wr.heap.size, 1, none⟩ = some (.string (bsl pn)) := cell_heap hq rfl
            have c3 : w'.cell? ⟨wr.heap.size, 2, none⟩ = some (.string (bsl pt)) := cell_heap hq rfl
            match i, hi with
            | 0, _ => exact head_value hI hTb Bl.tr F3.st 0 23 rfl rfl rfl rfl (x_move rfl (hI.lt.eval 4 rfl)) (Below.refl _ _) rfl
            | 1, _ => exact head_value hI hTb Bl.tr F3.st 1 24 rfl rfl rfl rfl (x_fldV 1 (by omega) rfl (hI.lt.eval 7 rfl)) (Below.refl _ _) (by rw [Nat.zero_add]; rfl)
            | 2, _ => exact head_value hI hTb Bl.tr F3.st 2 25 rfl rfl rfl rfl (x_loadS rfl (hI.known 1 24 (hd 1 (by kernel_rfl)) rfl) c2) (Below.refl _ _) rfl
            | 3, _ => exact head_call hI hTb Bl.tr F3.st 3 26 rfl rfl rfl rfl (x_call1 20 (enters_of Tryd.func20 (by kernel_rfl) rfl) rfl rfl (show a.eval (.tmp 25) = .string (bsl pn) from hI.known 2 25 (hd 2 (by kernel_rfl)) rfl)) ((Trim_any (bsl pn) w' (by rw [bsl_size]; omega)).mono fun e w4 ⟨h1, h2⟩ => ⟨_, h1, h2, rfl⟩)
            | 4, _ => exact head_value hI hTb Bl.tr F3.st 4 27 rfl rfl rfl rfl (x_fldV 2 (by omega) rfl (hI.lt.eval 7 rfl)) (Below.refl _ _) (by rw [Nat.zero_add]; rfl)
            | 5, _ => exact head_value hI hTb Bl.tr F3.st 5 28 rfl rfl rfl rfl (x_loadS rfl (hI.known 4 27 (hd 4 (by kernel_rfl)) rfl) c3) (Below.refl _ _) rfl
            | 6, _ => exact head_call hI hTb Bl.tr F3.st 6 29 rfl rfl rfl rfl (x_call1 20 (enters_of Tryd.func20 (by kernel_rfl) rfl) rfl rfl (show a.eval (.tmp 28) = .string (bsl pt) from hI.known 5 28 (hd 5 (by kernel_rfl)) rfl)) ((Trim_any (bsl pt) w' (by rw [bsl_size]; omega)).mono fun e w4 ⟨h1, h2⟩ => ⟨_, h1, h2, rfl⟩)
            | (n + 7), h => exact absurd h (by omega)
          · intro a w' hL hb hk9
            have k0 : a.eval (.tmp 23) = .map (some w.heap.size) := hk9 0 23 (by decide) rfl
            have k3 : a.eval (.tmp 26) = .string (bsl (tr pn)) := hk9 3 26 (by decide) rfl
            have k6 : a.eval (.tmp 29) = .string (bsl (tr pt)) := hk9 6 29 (by decide) rfl
            have b9 : Below wr.heap.size wr w' := BT.out.trans (Below.mono hb BT.out.size)
            have z1 := tr_len pn
            have z2 := tr_len pt
            obtain ⟨w5, r1, r2, r3⟩ := (hS.out.2.1.below b9 hS.out.2.1.lt).update (tr pn) (tr pt) (by omega) (by omega) (by omega)
            refine any_store 7 rfl rfl rfl (by kernel_rfl) (x_mapUpd rfl k0 k3 k6 r1) ?_
            refine wpAny_done (by kernel_rfl) ?_ _
            have bw : Below w.heap.size w w' := hS.out.1.trans (b9.mono hS.out.1.size)
            have R5 : Hid (Below w.heap.size w w5 ∧ MapIs w5 w.heap.size (k + 1) (upto l (k + 1)) ∧ Sh (upto l (k + 1))) := Lib.hid ⟨bw.grown r3 bw.size (fun j hj => by cases hj; exact Nat.le_refl _), by rw [HU.out]; exact r2, by rw [HU.out]; exact hS.out.2.2.put (by omega) (by omega)⟩
            obtain ⟨u9, rfl, hu⟩ := hL.lit
            rw [HL0.out, HDS.out]
            simp only [setAll, List.set_cons_zero, List.set_cons_succ]
            clear hk9 k0 k3 k6 hL hTb HL0 HDS b9 bw r1 r2 r3 hu
            go_wp2_with fail
            go_roundw
            case rel => exact ⟨k + 1, by omega, by go_num, by rw [HQ.out], R5⟩
            case measure => simp [intOf]; omega
        | false =>
          have HU := Lib.hid (upto_no hlt hp)
          have HQ := Lib.hid (poss_no hlt hp)
          have nx : IntKind.i64.wrap ((poss (l.take k) : Nat) + 1 : Int) = ((poss (l.take k) + 1 : Nat) : Int) := by rw [IntWalk.i64_in _ (by omega)]; simp
          obtain ⟨pq, hpq⟩ : ∃ pq, poss (l.take k) + 1 = pq := ⟨_, rfl⟩
          rw [hpq] at HU HQ nx
          have hpq2 : pq < 100 := by omega
          clear hp hpq
          go_wp2_with fail
          clear q1 q2 q3
          obtain ⟨bT2, hbt⟩ := BH.out
          have BT := Lib.hid bT2
          have hltb := (Array.getElem?_eq_some_iff.1 hbt).1
          clear BH bT2
          generalize hWX : (wr.alloc (Obj.cells #[Value.bool false, .string (bsl pn), .string (bsl pt)] 40)) = WX at BT hbt hltb ⊢
          clear hWX
          refine region_ki Bl (Below.refl _ _) [32, 33, 34, 35, 36] [32, 33, 34, 35, 36] [(4, .map (some w.heap.size)), (5, .int .i64 (pq : Int)), (7, .pointer (some ⟨wr.heap.size, 0, none⟩))] (F4 w.heap.size wr.heap.size pq (dec pq) pt) (by kernel_rfl) (n := 5) (by kernel_rfl) (by kernel_rfl) (lk_ok (by intro p hp; simp only [List.mem_cons, List.not_mem_nil, or_false] at hp; rcases hp with rfl | rfl | rfl <;> rfl)) ?_
          intro l0 ds hl0 hds hTb
          have HL0 := Lib.hid hl0; have HDS := Lib.hid hds; clear hl0 hds
          refine ⟨?_, ?_⟩
          · intro i hi S a w' hI hd
            have hq := (hI.bl.block _ hltb).trans hbt
            have c3 : w'.cell? ⟨wr.heap.size, 2, none⟩ = some (.string (bsl pt)) := cell_heap hq rfl
            match i, hi with
            | 0, _ => exact head_value hI hTb Bl.tr F4.st 0 32 rfl rfl rfl rfl (x_move rfl (hI.lt.eval 4 rfl)) (Below.refl _ _) rfl
            | 1, _ => exact head_value hI hTb Bl.tr F4.st 1 33 rfl rfl rfl rfl (x_move rfl (hI.lt.eval 5 rfl)) (Below.refl _ _) rfl
            | 2, _ => exact head_call hI hTb Bl.tr F4.st 2 34 rfl rfl rfl rfl (x_call1 21 (enters_of Tryd.func21 (by kernel_rfl) rfl) rfl rfl (show a.eval (.tmp 33) = .int .i64 (pq : Int) from hI.known 1 33 (hd 1 (by kernel_rfl)) rfl)) ((Itoa_any pq w' hpq2).mono fun e w4 ⟨h1, h2⟩ => ⟨_, h1, h2, rfl⟩)
            | 3, _ => exact head_value hI hTb Bl.tr F4.st 3 35 rfl rfl rfl rfl (x_fldV 2 (by omega) rfl (hI.lt.eval 7 rfl)) (Below.refl _ _) (by rw [Nat.zero_add]; rfl)
            | 4, _ => exact head_value hI hTb Bl.tr F4.st 4 36 rfl rfl rfl rfl (x_loadS rfl (hI.known 3 35 (hd 3 (by kernel_rfl)) rfl) c3) (Below.refl _ _) rfl
            | (n + 5), h => exact absurd h (by omega)
          · intro a w' hL hb hk9
            have k0 : a.eval (.tmp 32) = .map (some w.heap.size) := hk9 0 32 (by decide) rfl
            have k2 : a.eval (.tmp 34) = .string (bsl (dec pq)) := hk9 2 34 (by decide) rfl
            have k4 : a.eval (.tmp 36) = .string (bsl pt) := hk9 4 36 (by decide) rfl
            have b9 : Below wr.heap.size wr w' := BT.out.trans (Below.mono hb BT.out.size)
            have z1 := dec_len pq hpq2
            obtain ⟨w5, r1, r2, r3⟩ := (hS.out.2.1.below b9 hS.out.2.1.lt).update (dec pq) pt (by omega) (by omega) (by omega)
            refine any_store 5 rfl rfl rfl (by kernel_rfl) (x_mapUpd rfl k0 k2 k4 r1) ?_
            refine wpAny_done (by kernel_rfl) ?_ _
            have bw : Below w.heap.size w w' := hS.out.1.trans (b9.mono hS.out.1.size)
            have R5 : Hid (Below w.heap.size w w5 ∧ MapIs w5 w.heap.size (k + 1) (upto l (k + 1)) ∧ Sh (upto l (k + 1))) := Lib.hid ⟨bw.grown r3 bw.size (fun j hj => by cases hj; exact Nat.le_refl _), by rw [HU.out]; exact r2, by rw [HU.out]; exact hS.out.2.2.put (by omega) (by omega)⟩
            obtain ⟨u9, rfl, hu⟩ := hL.lit
            rw [HL0.out, HDS.out]
            simp only [setAll, List.set_cons_zero, List.set_cons_succ]
            clear hk9 k0 k2 k4 hL hTb HL0 HDS b9 bw r1 r2 r3 hu
            go_wp2_with fail
            go_roundw
            case rel => exact ⟨k + 1, by omega, by go_num, by rw [HQ.out], R5⟩
            case measure => simp [intOf]; omega
      · -- all arguments are read
        have HE : Hid (upto l k = bind (puts dec tr 0 l)) := Lib.hid (upto_all (by omega))
        have hTl := upto_len l k
        have hAs : Asc (upto l k) := asc_bind _
        obtain ⟨T, hT⟩ : ∃ T, upto l k = T := ⟨_, rfl⟩
        rw [hT] at hS HE hTl hAs
        clear hT
        have hlw : w.heap.size < wr.heap.size := hS.out.2.1.lt
        have HK := Lib.hid (fun W => Keys_any (some w.heap.size) W)
        go_wp2_with fail
        refine (HK.out _).mono ?_
        rintro e w2 ⟨rfl, rfl⟩
        have HSo := Lib.hid (Sorted_any wr w.heap.size k T hS.out.2.1 (by omega))
        go_wp2_with fail
        refine HSo.out.mono ?_
        rintro e w3 ⟨sv, rfl, os, b3⟩
        obtain ⟨A3, c3, hsv, s1, s2, s3⟩ := os.rd.ex
        rw [List.length_map] at hsv s1 s3
        subst hsv
        unfold maxLen at s2
        have R3 := Lib.hid s3
        have B3 := Lib.hid (hS.out.1.trans (b3.mono hS.out.1.size))
        have M3 := Lib.hid (hS.out.2.1.below b3 hlw)
        have hlw3 : w.heap.size < w3.heap.size := Nat.lt_of_lt_of_le hlw b3.size
        have SH := Lib.hid hS.out.2.2
        have HAS := Lib.hid hAs
        clear s3 os b3 HSo HK hS hAs hlw
        go_wp2_with fail
        go_loopw [8, 42] (fun bv i wq => ∃ (j : Nat), j ≤ T.length ∧ i = .int .i64 j ∧ Hid (Below w3.heap.size w3 wq ∧ OwnB wq w3.heap.size bv (T.take j))) (fun _ i _ => T.length - (intOf i).toNat)
        case atStart => exact ⟨0, Nat.zero_le _, rfl, Lib.hid ⟨Below.refl _ _, OwnB.nil _ _⟩⟩
        case round =>
          obtain ⟨j, hj, rfl, hQ⟩ := hrel
          by_cases hjt : j < T.length
          · obtain ⟨g, o, rfl, hg, q⟩ := R3.out (by omega)
            have hji : (j : Int) < (T.length : Int) := by omega
            have q1 := q j _ (take_map hjt) 0 _ rfl
            have HF := Lib.hid (find_at HAS.out hjt)
            have HT2 : Hid (T.take (j + 1) = T.take j ++ [T[j]]) := Lib.hid (List.take_succ_eq_append_getElem hjt)
            have hs2 := SH.out T[j] (List.getElem_mem hjt)
            generalize T[j] = p at q1 HF HT2 hs2
            obtain ⟨pn, pt⟩ := p
            simp only [Nat.add_zero, Nat.mul_one] at q1 hs2
            have q2 : ∀ x, (T.take j).length = x → x ≤ 61 := fun x hx => by rw [← hx, List.length_take]; omega
            have hc : ∀ j, wr.cell? ⟨g, j, none⟩ = w3.cell? ⟨g, j, none⟩ := fun j => hQ.out.1.cell (p := ⟨g, j, none⟩) hg
            rw [← hc] at q1
            have hlk := (M3.out.below hQ.out.1 hlw3).look (n := pn) (t := pt) (by omega) HF.out
            have hs1 : w3.heap.size ≤ wr.heap.size := hQ.out.1.size
            have HO := Lib.hid hQ.out.2
            have hX : (T.take j).length ≤ 61 := q2 _ rfl
            generalize T.take j = X at HO HT2 hX
            clear hc q q2
            go_wp2_with (at_builtin; refine wpList_append_own _ rfl (.tmp 46) (.tmp 52) _ rfl w3.heap.size 33 i0 _ 2 32 Tryd.underlying25 hi0 hz0 hz1 hz2 rfl (by omega) u8 X.length (X.flatMap encB) rfl (World.ownsRow.alloc HO.out _) ⟨wr.heap.size, 0, none⟩ 1 1 [.string (bsl pn), .string (bsl pt)] rfl rfl (cells_new wr [.string (bsl pn), .string (bsl pt)] 33) (by simp [Value.oneCell']) (by simp only [maxLen]; omega) (by omega) (by simp; omega) ?_; intro v5 w5 ho5 hg5 _)
            go_roundw
            case rel => exact ⟨j + 1, by omega, by go_num, Lib.hid ⟨hQ.out.1.trans (((Below.refl _ _).alloc hs1 _).trans (below_own (World.ownsRow.alloc HO.out _) hg5 (by simp; omega))), by rw [HT2.out]; exact snocB ho5⟩⟩
            case measure => simp [intOf]; omega
          · have HE2 : Hid (T.take j = T) := Lib.hid (List.take_of_length_le (by omega))
            go_wp2
            go_ret2
            exact ⟨u8, by rw [HI.out]; rfl, by rw [HJ.out, ← HE.out, ← HE2.out]; exact hQ.out.2.base (Nat.le_of_lt hlw3), B3.out.trans (hQ.out.1.mono (Nat.le_of_lt hlw3))⟩
end Go.Proofs.YtaallpfkgcndmaaDoor.Pm
