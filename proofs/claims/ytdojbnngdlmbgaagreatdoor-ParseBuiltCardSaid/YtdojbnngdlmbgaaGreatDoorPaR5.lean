/-
  The contract of the reference's token: the kinds that close, and nowiki.
  The contract of the reference's token: the bar.
  The contract of the reference's token.
  How a stack grows by a token (the reference's).
  The contract of the reference's Parse.
  ParseBuilt.
-/
import Derived.Test.YtdojbnngdlmbgaaGreatDoorPaR4
import Derived.Test.YtdojbnngdlmbgaaGreatDoorPaR3
import Derived.Test.YtdojbnngdlmbgaaGreatDoorPaR2
import Derived.Test.YtdojbnngdlmbgaaGreatDoorTkText
import Derived.Test.YtdojbnngdlmbgaaGreatDoorTkR
import Derived.Test.YtdojbnngdlmbgaaGreatDoorSeF2
import Derived.Test.YtdojbnngdlmbgaaGreatDoorPaF
namespace Go.Proofs.YtdojbnngdlmbgaaGreatDoor.Pa
open Go.RowKit Go.Proofs.YtdojbnngdlmbgaaGreatDoor.Tr
set_option linter.unusedVariables false

theorem tagAtR_node (t : Int) : ∀ (st : List Rl) (n : Nd), tagAtR t (nodeR st n) = tagAtR t st
  | [], _ => rfl
  | e :: st, n => by
    show tagAtR t (nodeE e n :: st) = _
    rw [tagAtR, tagAtR, (nodeE_same e n).1, (nodeE_same e n).2.1]
theorem tagAtR_nodes (t : Int) : ∀ (l : List Nd) (st : List Rl), tagAtR t (nodesR st l) = tagAtR t st
  | [], _ => rfl
  | n :: l, st => (tagAtR_nodes t l (nodeR st n)).trans (tagAtR_node t st n)
theorem tagAtR_text (t : Int) (st : List Rl) (s : List UInt8) : tagAtR t (textR st s) = tagAtR t st := tagAtR_node t st _
theorem tagAtR_arg (t : Int) (st : List Rl) (a : Ar) : tagAtR t (argR st a) = tagAtR t st := by
  unfold argR
  split
  · rw [tagAtR_nodes, tagAtR_text, tagAtR_nodes, tagAtR_text]
  · rw [tagAtR_nodes, tagAtR_text]
theorem tagAtR_args (t : Int) : ∀ (l : List Ar) (st : List Rl), tagAtR t (l.foldl argR st) = tagAtR t st
  | [], _ => rfl
  | a :: l, st => (tagAtR_args t l (argR st a)).trans (tagAtR_arg t st a)
theorem tagAtR_flat (t : Int) (e : Rl) (st : List Rl) : tagAtR t (flatR (e :: st)) = tagAtR t st := by
  rw [flatR_cons]
  split
  · rw [tagAtR_nodes, tagAtR_text]
  · split
    · rw [tagAtR_nodes, tagAtR_text]
    · split
      · rw [tagAtR_args, tagAtR_nodes, tagAtR_text]
      · rfl
theorem tagR_top {t : Int} : ∀ (i : Nat) {st : List Rl}, tagAtR t st = some i → ∃ e r, flatsR i st = e :: r ∧ e.kind = 2 ∧ e.tag = t
  | _, [], h => by cases h
  | 0, e :: st, h => by
    rw [tagAtR] at h
    split at h
    · rename_i q; exact ⟨e, st, rfl, q.1, q.2⟩
    · cases hq : tagAtR t st with
      | none => rw [hq] at h; cases h
      | some j => rw [hq] at h; cases h
  | i + 1, e :: st, h => by
    rw [tagAtR] at h
    split at h
    · cases h
    · cases hq : tagAtR t st with
      | none => rw [hq] at h; cases h
      | some j =>
        rw [hq] at h
        have hj : j + 1 = i + 1 := Option.some.inj h
        have hj2 : j = i := by omega
        subst hj2
        exact tagR_top j ((tagAtR_flat t e st).trans hq)
section
variable {gp : Nat} {w w' : World} {st : List Rl}
set_option maxRecDepth 100000 in
set_option maxHeartbeats 4000000 in
theorem token_more (h : SP gp w st) {P L : Nat} (hG : Gst P L st) (s : ByteArray) (k : Nat) (f t : Int) (x : List UInt8) (hx : Tk.textOf s.data.toList f t = x) (hxl : x.length ≤ 8192) (hP : P ≤ 7800000) (hL : L ≤ 1900) (hk : k = 4 ∨ k = 6 ∨ k = 10 ∨ k = 12) (h10 : k = 10 → 17 ≤ x.length) : Calls Tryz.prog 37 #[.pointer (some ⟨gp, 0, none⟩), .string s, .agg #[.int .i64 (k : Int), .int .i64 f, .int .i64 t]] w fun y w' => y = .returned (.tuple #[]) ∧ SP gp w' (takeR st k x (Tk.tagOf k x 3 1 : Nat)) ∧ Fq gp w w' := by
  have hne := hG.rt.ne
  have hpz := hG.pz
  have hln := hG.ln
  have h0 : 0 < st.length := List.length_pos_iff.2 hne
  obtain ⟨O, hO⟩ : ∃ O, Obj.cells #[Value.int .i64 (k : Int), .int .i64 f, .int .i64 t] 72 = O := ⟨_, rfl⟩
  obtain ⟨w1, hw1⟩ : ∃ w1, w.alloc O = w1 := ⟨_, rfl⟩
  have b1 : Below w.heap.size w w1 := by rw [← hw1]; exact (Below.refl _ _).alloc (Nat.le_refl _) _
  have h1 : w1.heap[w.heap.size]? = some O := by rw [← hw1]; exact heap_alloc_new w O
  rw [← hO] at h1
  have lt1 := (Array.getElem?_eq_some_iff.1 h1).1
  obtain ⟨X, hX⟩ : ∃ X : ByteArray, (⟨x.toArray⟩ : ByteArray) = X := ⟨_, rfl⟩
  have hXd : X.data.toList = x := by rw [← hX]
  have hXs : X.size = x.length := by rw [← hX]; simp [ByteArray.size]
  have TX := Tk.TextR_any s k f t w1
  rw [hx, hX] at TX
  replace TX := Lib.hid TX
  have z0 : w1.cell? ⟨w.heap.size, 0, none⟩ = some (.int .i64 (k : Int)) := cell_heap h1 rfl
  have z1 : w1.cell? ⟨w.heap.size, 1, none⟩ = some (.int .i64 f) := cell_heap h1 rfl
  have z2 : w1.cell? ⟨w.heap.size, 2, none⟩ = some (.int .i64 t) := cell_heap h1 rfl
  have H := Lib.hid (And.intro h (And.intro hG (And.intro b1 (And.intro h1 (And.intro lt1 hXd)))))
  have HB := Lib.hid (And.intro hpz (And.intro hln (And.intro h0 (And.intro hXs hxl))))
  clear h hG b1 h1 lt1 hXd hpz hln h0 hX hXs hxl
  go_enter Tryz.func37, Tryz.ntmps37
  go_wp2_with fail
  refine TX.out.mono ?_
  rintro y w2 ⟨rfl, b2⟩
  obtain ⟨h, hG, b1, h1, lt1, hXd⟩ := H.out
  obtain ⟨hpz, hln, h0, hXs, hxl⟩ := HB.out
  have h2 := (b2.block _ lt1).trans h1
  have e0 : w2.cell? ⟨w.heap.size, 0, none⟩ = some (.int .i64 (k : Int)) := cell_heap h2 rfl
  have e1 : w2.cell? ⟨w.heap.size, 1, none⟩ = some (.int .i64 f) := cell_heap h2 rfl
  have e2 : w2.cell? ⟨w.heap.size, 2, none⟩ = some (.int .i64 t) := cell_heap h2 rfl
  obtain ⟨S2, F2⟩ := h.keep (b1.trans (b2.mono (Nat.le_of_lt lt1)))
  have X1 := Lib.hid hXd
  clear z0 z1 z2
  rcases hk with rfl | rfl | rfl | rfl
  · have R := closing_r S2 (P := P) (L := L) hG X.size (by omega) hP hL
    have HX := Lib.hid (show takeR st 4 x (Tk.tagOf ((4 : Nat) : Int) x 3 1 : Nat) = closeR X.size st X.size by rw [hXs]; rfl)
    replace R := Lib.hid R
    have F := Lib.hid F2
    clear S2 F2 h hG b1 h1 lt1 hXd hpz hln h0 hXs hxl h2 b2
    go_wp2_with fail
    refine R.out.mono ?_
    rintro y w3 ⟨rfl, s3, f3⟩
    have Q := Lib.hid (And.intro s3 (F.out.trans f3))
    clear s3 f3
    go_wp2_with fail
    go_end0
    exact ⟨rfl, by rw [HX.out]; exact Q.out.1, Q.out.2⟩
  · obtain ⟨e, r, rfl⟩ : ∃ e r, st = e :: r := ⟨_, _, (List.cons_head_tail hne).symm⟩
    have T := Lib.hid (top_r S2)
    have F := Lib.hid F2
    have HH := Lib.hid (And.intro hXd (And.intro hpz (And.intro hln (And.intro hXs (And.intro hxl hG)))))
    clear S2 F2 h hG b1 h1 lt1 hXd hpz hln h0 hXs hxl h2 b2 hne
    go_wp2_with fail
    refine T.out.mono ?_
    rintro y w3 ⟨v3, rfl, ⟨vl, va, rfl, hl, ha⟩, S3, F3, b3⟩
    have hfd : ∀ w : World, (Instr.field 82 (.agg #[.int .i64 e.kind, .int .i64 e.tag, .int .i64 e.count, vl, va]) 0).run Tryz.prog w = .ok (.int .i64 e.kind) w := fun _ => by kernel_rfl
    obtain ⟨hXd, hpz, hln, hXs, hxl, hG⟩ := HH.out
    have hpr : 16 + e.count + sz e.list + phA e.args + prs r ≤ P := hpz
    simp only [List.length_cons] at hln
    by_cases h1 : e.kind = 1
    · have hr : r ≠ [] := by
        rintro rfl
        have : e.kind = 0 := hG.rt
        omega
      have hrl : 0 < r.length := List.length_pos_iff.2 hr
      have t1 : ((e.kind : Int) == 1) = true := by rw [h1]; rfl
      have t1' : ((e.kind : Int) != 1) = false := by rw [h1]; rfl
      have PP := Lib.hid (pop_r S3 hrl (by omega))
      have HX := Lib.hid (show takeR (e :: r) 6 x (Tk.tagOf ((6 : Nat) : Int) x 3 1 : Nat) = textR (nodesR (textR r [91, 91]) e.list) [93, 93] from if_pos h1)
      have F3h := Lib.hid (F.out.trans F3)
      have HB2 := Lib.hid (And.intro hpr (And.intro hln (And.intro hr hrl)))
      clear h1 S3 F3 b3 hl ha hXd hpz hln hXs hxl hG hpr hrl hr
      go_wp2_with fail
      refine PP.out.mono ?_
      rintro y w4 ⟨v4, rfl, ⟨vl4, va4, rfl, hl, ha⟩, S4, F4⟩
      obtain ⟨hpr, hln, hr, hrl⟩ := HB2.out
      obtain ⟨Al, cl, rfl⟩ := hl.form
      obtain ⟨Aa, ca, rfl⟩ := ha.form
      obtain ⟨OE, hOE⟩ : ∃ O, Obj.cells #[Value.int .i64 e.kind, .int .i64 e.tag, .int .i64 e.count, .slice Al e.list.length cl, .slice Aa e.args.length ca] 82 = O := ⟨_, rfl⟩
      obtain ⟨w5, hw5⟩ : ∃ w5, w4.alloc OE = w5 := ⟨_, rfl⟩
      have b5 : Below w4.heap.size w4 w5 := by rw [← hw5]; exact (Below.refl _ _).alloc (Nat.le_refl _) _
      have h5 : w5.heap[w4.heap.size]? = some OE := by rw [← hw5]; exact heap_alloc_new w4 OE
      rw [← hOE] at h5
      have lt5 := (Array.getElem?_eq_some_iff.1 h5).1
      obtain ⟨S5, F5⟩ := S4.keep b5
      have hl5 := F5.lx hl
      have hp1 := prs_text r [91, 91]
      simp only [List.length_cons, List.length_nil] at hp1
      have gl := S4.glt
      have TT := Lib.hid (text_r S5 hr ⟨#[91, 91]⟩ (by show _ + (1 + 2) ≤ _; omega) (by omega))
      have F5h := Lib.hid ((F3h.out.trans F4).trans F5)
      have HB3 := Lib.hid (And.intro hpr (And.intro hln (And.intro hr (And.intro hrl (And.intro hl5 (And.intro h5 (And.intro lt5 (And.intro hp1 gl))))))))
      clear S4 F4 hl ha b5 h5 lt5 S5 F5 hl5 hpr hln hr hrl hp1 gl
      go_wp2_with fail
      refine TT.out.mono ?_
      rintro y w6 ⟨rfl, S6, F6⟩
      obtain ⟨hpr, hln, hr, hrl, hl5, h5, lt5, hp1, gl⟩ := HB3.out
      have h6 := (F6.kp _ lt5 (by omega)).trans h5
      have c3 : w6.cell? ⟨w4.heap.size, 3, none⟩ = some (.slice Al e.list.length cl) := cell_heap h6 rfl
      have hp2 := prs_nodes e.list (textR r [91, 91])
      have NN := Lib.hid (nodes_r S6 (by rw [← List.length_pos_iff, len_textR]; exact hrl) (F6.lx hl5) (by show prs (textR r [91, 91]) + _ ≤ _; omega) (by show (textR r [91, 91]).length ≤ _; rw [len_textR]; omega))
      have F6h := Lib.hid (F5h.out.trans F6)
      have HB4 := Lib.hid (And.intro hpr (And.intro hln (And.intro hrl (And.intro hp1 hp2))))
      clear S6 F6 hpr hln hr hrl hl5 h5 lt5 hp1 gl h6 hp2
      go_wp2_with fail
      refine NN.out.mono ?_
      rintro y w7 ⟨rfl, S7, F7⟩
      obtain ⟨hpr, hln, hrl, hp1, hp2⟩ := HB4.out
      have T2 := Lib.hid (text_r S7 (by rw [← List.length_pos_iff]; show 0 < (nodesR (textR r [91, 91]) e.list).length; rw [len_nodesR, len_textR]; exact hrl) ⟨#[93, 93]⟩ (by show prs (nodesR (textR r [91, 91]) e.list) + (1 + 2) ≤ _; omega) (by show (nodesR (textR r [91, 91]) e.list).length ≤ _; rw [len_nodesR, len_textR]; omega))
      have F7h := Lib.hid (F6h.out.trans F7)
      clear S7 F7 hpr hln hrl hp1 hp2
      go_wp2_with fail
      refine T2.out.mono ?_
      rintro y w8 ⟨rfl, S8, F8⟩
      have Q := Lib.hid (And.intro S8 (F7h.out.trans F8))
      clear S8 F8
      go_wp2_with fail
      go_end0
      exact ⟨rfl, by rw [HX.out]; exact Q.out.1, Q.out.2⟩
    · have t1 : ((e.kind : Int) == 1) = false := by rw [beq_eq_false_iff_ne]; omega
      have t1' : ((e.kind : Int) != 1) = true := by rw [bne, t1]; rfl
      have HX := Lib.hid (show takeR (e :: r) 6 x (Tk.tagOf ((6 : Nat) : Int) x 3 1 : Nat) = textR (e :: r) x from if_neg h1)
      have R := text_r S3 (by simp) X (by omega) (by simp only [List.length_cons]; omega)
      rw [hXd] at R
      replace R := Lib.hid R
      have F := Lib.hid (F.out.trans F3)
      clear h1 S3 F3 b3 hl ha hXd hpz hln hXs hxl hG hpr
      go_wp2_with fail
      refine R.out.mono ?_
      rintro y w4 ⟨rfl, s3, f3⟩
      have Q := Lib.hid (And.intro s3 (F.out.trans f3))
      clear s3 f3
      go_wp2_with fail
      try simp only [Exit.inBlock, Exit.then]
      refine bodyPost_ret (results_none rfl _ _ _) rfl ?_
      exact ⟨rfl, by rw [HX.out]; exact Q.out.1, Q.out.2⟩
  · have h17 := h10 rfl
    have hsl : X.extract 8 (X.size - 9) = ⟨(within x).toArray⟩ := by
      apply ByteArray.ext
      apply Array.ext'
      rw [ByteArray.data_extract, Array.toList_extract]
      show (X.data.toList.extract 8 (X.size - 9)) = within x
      rw [hXd, hXs]
      unfold within
      simp only [List.extract]
      congr 1
    have hwn : (within x).length ≤ x.length := by unfold within; simp only [List.length_take, List.length_drop]; omega
    obtain ⟨Y, hY⟩ : ∃ Y : ByteArray, (⟨(within x).toArray⟩ : ByteArray) = Y := ⟨_, rfl⟩
    have hYs : Y.size ≤ x.length := by rw [← hY]; simpa [ByteArray.size] using hwn
    rw [hY] at hsl
    have R := Lib.hid (node_r S2 hne (nv := .agg #[.int .i64 3, .int .i64 0, .string Y, .slice none 0 0, .slice none 0 0]) (n := .mk 3 0 Y [] []) ⟨_, _, rfl, LX.nil _ _, AX.nil _ _, by show Fit 3; unfold Fit; omega, by show Fit 0; unfold Fit; omega⟩ (by
      have : szN (.mk 3 0 Y [] []) = 1 + Y.size := by rw [szN_eq]; simp [Nd.text, Nd.kids, Nd.args, sz_nil, szA_nil]
      omega) (by omega))
    have HX := Lib.hid (show takeR st 10 x (Tk.tagOf ((10 : Nat) : Int) x 3 1 : Nat) = nodeR st (.mk 3 0 Y [] []) by rw [← hY]; rfl)
    have F := Lib.hid F2
    have hX17 : 17 ≤ X.size := by omega
    have hX8 : X.size ≤ 8192 := by omega
    have hwk : IntKind.i64.wrap ((X.size : Int) - 9) = ((X.size - 9 : Nat) : Int) := by rw [IntKind.wrap_i64]; omega
    clear S2 F2 h hG b1 h1 lt1 hXd hpz hln h0 hXs hxl h2 b2 hY hYs hwn h17 h10
    go_wp2_with fail
    refine R.out.mono ?_
    rintro y w3 ⟨rfl, s3, f3⟩
    have Q := Lib.hid (And.intro s3 (F.out.trans f3))
    clear s3 f3
    go_wp2_with fail
    go_end0
    exact ⟨rfl, by rw [HX.out]; exact Q.out.1, Q.out.2⟩
  · have TG := Tk.TagR_any s (12 : Nat) f t w2
    rw [hx] at TG
    obtain ⟨T, hT⟩ : ∃ T : Int, ((Tk.tagOf ((12 : Nat) : Int) x 3 1 : Nat) : Int) = T := ⟨_, rfl⟩
    rw [hT] at TG
    have HT := Lib.hid hT
    replace TG := Lib.hid TG
    have HH := Lib.hid (And.intro S2 (And.intro F2 (And.intro hXd (And.intro hpz (And.intro hln (And.intro h0 (And.intro hXs (And.intro hxl hG))))))))
    clear S2 F2 h hG b1 h1 lt1 hXd hpz hln h0 hXs hxl h2 b2 hT
    go_wp2_with fail
    refine TG.out.mono ?_
    rintro y w3 ⟨rfl, b3⟩
    obtain ⟨S2, F2, hXd, hpz, hln, h0, hXs, hxl, hG⟩ := HH.out
    obtain ⟨S3, F3⟩ := S2.keep b3
    have LT := Lib.hid (lastTag_r S3 h0 T (by omega))
    have HH3 := Lib.hid (And.intro S3 (And.intro (F2.trans F3) (And.intro hXd (And.intro hpz (And.intro hln (And.intro h0 (And.intro hXs (And.intro hxl hG))))))))
    clear S2 F2 S3 F3 hXd hpz hln h0 hXs hxl b3 hG
    go_wp2_with fail
    refine LT.out.mono ?_
    rintro y w4 ⟨rfl, rfl⟩
    obtain ⟨S3, F3, hXd, hpz, hln, h0, hXs, hxl, hG⟩ := HH3.out
    cases hq : tagAtR T st with
    | none =>
      have HX := Lib.hid (show takeR st 12 x (Tk.tagOf ((12 : Nat) : Int) x 3 1 : Nat) = textR st x by rw [HT.out]; show tagEndR st x T = _; unfold tagEndR; rw [hq])
      have R := text_r S3 hne X (by omega) (by omega)
      rw [hXd] at R
      replace R := Lib.hid R
      have F := Lib.hid F3
      simp only [at0]
      clear S3 F3 hXd hpz hln h0 hXs hxl hG hq
      go_wp2_with fail
      refine R.out.mono ?_
      rintro y w5 ⟨rfl, s3, f3⟩
      have Q := Lib.hid (And.intro s3 (F.out.trans f3))
      clear s3 f3
      go_wp2_with fail
      try simp only [Exit.inBlock, Exit.then]
      refine bodyPost_ret (results_none rfl _ _ _) rfl ?_
      exact ⟨rfl, by rw [HX.out]; exact Q.out.1, Q.out.2⟩
    | some i =>
      have hi := tag_lt hG.rt hq
      obtain ⟨e, r, hfl, hk2, htg⟩ := tagR_top i hq
      obtain ⟨p, hp⟩ : ∃ p, st.length - 1 - i = p := ⟨_, rfl⟩
      simp only [at0]
      rw [hp]
      have htf : Fit e.tag := by
        have k0 := hG.kr.flats i
        rw [hfl] at k0
        have := (k0 e List.mem_cons_self).2.1 hk2
        unfold Fit; omega
      have hp0 : 0 < p := by omega
      have hp0i : (0 : Int) < (p : Int) := by omega
      have t0 : ((p : Int) == 0) = false := by rw [beq_eq_false_iff_ne]; omega
      have FT := flattenTo_r S3 p (by omega) hG.kr (by omega) (by omega)
      have hip : st.length - 1 - p = i := by omega
      rw [hip, hfl] at FT
      replace FT := Lib.hid FT
      obtain ⟨pf1, pf2⟩ := prs_flats i st (by omega)
      rw [hfl] at pf1 pf2
      have hpr : 16 + e.count + sz e.list + phA e.args + prs r ≤ P := Nat.le_trans pf1 hpz
      simp only [List.length_cons] at pf2
      have hrl : 0 < r.length := by omega
      have hrl2 : r.length ≤ 1900 := by omega
      have hr : r ≠ [] := List.length_pos_iff.1 hrl
      have HX := Lib.hid (show takeR st 12 x (Tk.tagOf ((12 : Nat) : Int) x 3 1 : Nat) = nodeR r (.mk 6 e.tag ⟨#[]⟩ e.list []) by rw [HT.out]; show tagEndR st x T = _; unfold tagEndR; rw [hq]; simp only; rw [hfl])
      have HB5 := Lib.hid (And.intro hpr (And.intro hrl (And.intro hrl2 (And.intro hr htf))))
      have F := Lib.hid F3
      clear S3 F3 hXd hpz hln h0 hXs hxl hG hq hi hfl hk2 htg htf hp hip pf1 pf2 hpr hrl hrl2 hr
      go_wp2_with fail
      refine FT.out.mono ?_
      rintro y w5 ⟨rfl, S5, F5⟩
      obtain ⟨hpr, hrl, hrl2, hr, htf⟩ := HB5.out
      have PP := Lib.hid (pop_r S5 hrl (by omega))
      have F5h := Lib.hid (F.out.trans F5)
      clear S5 F5 hpr hrl hrl2 hr htf
      go_wp2_with fail
      refine PP.out.mono ?_
      rintro y w6 ⟨v4, rfl, ⟨vl4, va4, rfl, hl, ha⟩, S6, F6⟩
      obtain ⟨hpr, hrl, hrl2, hr, htf⟩ := HB5.out
      obtain ⟨Al, cl, rfl⟩ := hl.form
      obtain ⟨Aa, ca, rfl⟩ := ha.form
      obtain ⟨OE, hOE⟩ : ∃ O, Obj.cells #[Value.int .i64 e.kind, .int .i64 e.tag, .int .i64 e.count, .slice Al e.list.length cl, .slice Aa e.args.length ca] 82 = O := ⟨_, rfl⟩
      obtain ⟨w7, hw7⟩ : ∃ w7, w6.alloc OE = w7 := ⟨_, rfl⟩
      have b7 : Below w6.heap.size w6 w7 := by rw [← hw7]; exact (Below.refl _ _).alloc (Nat.le_refl _) _
      have h7 : w7.heap[w6.heap.size]? = some OE := by rw [← hw7]; exact heap_alloc_new w6 OE
      rw [← hOE] at h7
      obtain ⟨S7, F7⟩ := S6.keep b7
      have c1 : w7.cell? ⟨w6.heap.size, 1, none⟩ = some (.int .i64 e.tag) := cell_heap h7 rfl
      have c3 : w7.cell? ⟨w6.heap.size, 3, none⟩ = some (.slice Al e.list.length cl) := cell_heap h7 rfl
      have R := Lib.hid (node_r S7 hr (nv := .agg #[.int .i64 6, .int .i64 e.tag, .string ⟨#[]⟩, .slice Al e.list.length cl, .slice none 0 0]) (n := .mk 6 e.tag ⟨#[]⟩ e.list []) ⟨_, _, rfl, F7.lx hl, AX.nil _ _, by show Fit 6; unfold Fit; omega, htf⟩ (by
        have : szN (.mk 6 e.tag ⟨#[]⟩ e.list []) = 1 + sz e.list := by rw [szN_eq]; simp only [Nd.text, Nd.kids, Nd.args, szA_nil]; rfl
        omega) (by omega))
      have F7h := Lib.hid ((F5h.out.trans F6).trans F7)
      clear S6 F6 S7 F7 hl ha b7 h7 hpr hrl hrl2 hr htf
      go_wp2_with fail
      refine R.out.mono ?_
      rintro y w8 ⟨rfl, s3, f3⟩
      have Q := Lib.hid (And.intro s3 (F7h.out.trans f3))
      clear s3 f3
      go_wp2_with fail
      go_end0
      exact ⟨rfl, by rw [HX.out]; exact Q.out.1, Q.out.2⟩
end
end Go.Proofs.YtdojbnngdlmbgaaGreatDoor.Pa

namespace Go.Proofs.YtdojbnngdlmbgaaGreatDoor.Pa
open Go.RowKit Go.Proofs.YtdojbnngdlmbgaaGreatDoor.Tr
set_option linter.unusedVariables false

theorem phA_bar : ∀ l : List Ar, phA (l ++ [.mk false [] []]) ≤ phA l + 1000
  | [] => by simp [phA]; try decide
  | a :: l => by have := phA_bar l; simp only [List.cons_append, phA]; omega
/-- No argument. -/
theorem run_copyArg0 (w : World) (ty : TypeId) (ad : Option Addr) (c : Nat) : (Builtin.append_ #[60, 60] ty #[.slice none 0 0, .slice ad 0 c]).run Tryz.prog w = .ok (.slice none 0 0) w := by
  obtain ⟨i0, hi, hz0, hz1, hz2⟩ := info_parts infoA
  cases ad with
  | none => simp [Builtin.append_, run_underlying Tryz.underlying60, sizeOf, typeInfo, hi, Builtin.lenOf, Builtin.firstCells]
  | some ad => simp [Builtin.append_, run_underlying Tryz.underlying60, sizeOf, typeInfo, hi, Builtin.lenOf, Builtin.firstCells, loadCells, loadCellsFrom]
/-- One argument behind a row of the call's own. -/
theorem run_pushArg (w : World) (v : Value) (m base b : Nat) (ys : List Value) (c0 c1 c2 : Value) (hrow : w.ownsRow base 59 3 v m ys) (hb : w.heap[b]? = some (.cells #[c0, c1, c2] 59)) (h1 : ∀ u ∈ [c0, c1, c2], u.oneCell' = true) (hm2 : m ≤ 8388608) (hbase : base ≤ w.heap.size) :
    ∃ r cap' w', (Builtin.append_ #[60, 60] 60 #[v, .slice (some ⟨b, 0, none⟩) 1 1]).run Tryz.prog w = .ok (.slice (some ⟨r, 0, none⟩) (m + 1) cap') w' ∧ w'.ownsRow base 59 3 (.slice (some ⟨r, 0, none⟩) (m + 1) cap') (m + 1) (ys ++ [c0, c1, c2]) ∧ Below base w w' := by
  obtain ⟨i0, hi, hz0, hz1, hz2⟩ := info_parts infoA
  obtain ⟨g', cap', w', r0, r1, r2, r3, r4⟩ := run_append_lies (P := Tryz.prog) w 60 60 base 59 i0 _ 3 56 Tryz.underlying60 hi hz0 hz1 hz2 rfl (by omega) v m ys hrow ⟨b, 0, none⟩ 1 1 [c0, c1, c2] rfl (World.news_of_block (cs := #[c0, c1, c2]) hb) h1 (by omega) (by simp only [maxLen]; omega) (by omega) hbase w.heap.size rfl
  exact ⟨g', cap', w', r0, r1, (Below.refl _ _).grown r2 hbase (fun k q => (own_lt hrow k q).1)⟩
section
variable {gp : Nat} {w w' : World} {st : List Rl}
set_option maxRecDepth 100000 in
set_option maxHeartbeats 4000000 in
theorem token_bar (h : SP gp w st) {P L : Nat} (hG : Gst P L st) (s : ByteArray) (k : Nat) (f t : Int) (x : List UInt8) (hx : Tk.textOf s.data.toList f t = x) (hxl : x.length ≤ 8192) (hP : P ≤ 7800000) (hL : L ≤ 1900) (tg : Int) (hk : k = 7) : Calls Tryz.prog 37 #[.pointer (some ⟨gp, 0, none⟩), .string s, .agg #[.int .i64 (k : Int), .int .i64 f, .int .i64 t]] w fun y w' => y = .returned (.tuple #[]) ∧ SP gp w' (takeR st k x tg) ∧ Fq gp w w' := by
  replace hk := Lib.hid hk
  have hne := hG.rt.ne
  have hpz := hG.pz
  have hln := hG.ln
  have h0 : 0 < st.length := List.length_pos_iff.2 hne
  obtain ⟨O, hO⟩ : ∃ O, Obj.cells #[Value.int .i64 (k : Int), .int .i64 f, .int .i64 t] 72 = O := ⟨_, rfl⟩
  obtain ⟨w1, hw1⟩ : ∃ w1, w.alloc O = w1 := ⟨_, rfl⟩
  have b1 : Below w.heap.size w w1 := by rw [← hw1]; exact (Below.refl _ _).alloc (Nat.le_refl _) _
  have h1 : w1.heap[w.heap.size]? = some O := by rw [← hw1]; exact heap_alloc_new w O
  rw [← hO] at h1
  have lt1 := (Array.getElem?_eq_some_iff.1 h1).1
  obtain ⟨X, hX⟩ : ∃ X : ByteArray, (⟨x.toArray⟩ : ByteArray) = X := ⟨_, rfl⟩
  have hXd : X.data.toList = x := by rw [← hX]
  have hXs : X.size = x.length := by rw [← hX]; simp [ByteArray.size]
  have TX := Tk.TextR_any s k f t w1
  rw [hx, hX] at TX
  replace TX := Lib.hid TX
  have z0 : w1.cell? ⟨w.heap.size, 0, none⟩ = some (.int .i64 (k : Int)) := cell_heap h1 rfl
  have z1 : w1.cell? ⟨w.heap.size, 1, none⟩ = some (.int .i64 f) := cell_heap h1 rfl
  have z2 : w1.cell? ⟨w.heap.size, 2, none⟩ = some (.int .i64 t) := cell_heap h1 rfl
  have H := Lib.hid (And.intro h (And.intro hG (And.intro b1 (And.intro h1 (And.intro lt1 hXd)))))
  have HB := Lib.hid (And.intro hpz (And.intro hln (And.intro h0 (And.intro hXs hxl))))
  clear h hG b1 h1 lt1 hXd hpz hln h0 hX hXs hxl
  go_enter Tryz.func37, Tryz.ntmps37
  go_wp2_with fail
  refine TX.out.mono ?_
  rintro y w2 ⟨rfl, b2⟩
  obtain ⟨h, hG, b1, h1, lt1, hXd⟩ := H.out
  obtain ⟨hpz, hln, h0, hXs, hxl⟩ := HB.out
  have h2 := (b2.block _ lt1).trans h1
  have e0 : w2.cell? ⟨w.heap.size, 0, none⟩ = some (.int .i64 (k : Int)) := cell_heap h2 rfl
  have e1 : w2.cell? ⟨w.heap.size, 1, none⟩ = some (.int .i64 f) := cell_heap h2 rfl
  have e2 : w2.cell? ⟨w.heap.size, 2, none⟩ = some (.int .i64 t) := cell_heap h2 rfl
  obtain ⟨S2, F2⟩ := h.keep (b1.trans (b2.mono (Nat.le_of_lt lt1)))
  have X1 := Lib.hid hXd
  clear z0 z1 z2
  replace hk := hk.out
  subst hk
  obtain ⟨e, r, rfl⟩ : ∃ e r, st = e :: r := ⟨_, _, (List.cons_head_tail hne).symm⟩
  have T := Lib.hid (top_r S2)
  have F := Lib.hid F2
  have HH := Lib.hid (And.intro hXd (And.intro hpz (And.intro hln (And.intro hXs (And.intro hxl hG)))))
  clear S2 F2 h hG b1 h1 lt1 hXd hpz hln h0 hXs hxl h2 b2 hne
  go_wp2_with fail
  refine T.out.mono ?_
  rintro y w3 ⟨v3, rfl, ⟨vl, va, rfl, hl, ha⟩, S3, F3, b3⟩
  obtain ⟨hXd, hpz, hln, hXs, hxl, hG⟩ := HH.out
  obtain ⟨Al, cl, rfl⟩ := hl.form
  obtain ⟨Aa, ca, rfl⟩ := ha.form
  have hpr : 16 + e.count + sz e.list + phA e.args + prs r ≤ P := hpz
  simp only [List.length_cons] at hln
  obtain ⟨OE, hOE⟩ : ∃ O, Obj.cells #[Value.int .i64 e.kind, .int .i64 e.tag, .int .i64 e.count, .slice Al e.list.length cl, .slice Aa e.args.length ca] 82 = O := ⟨_, rfl⟩
  obtain ⟨w4, hw4⟩ : ∃ w4, w3.alloc OE = w4 := ⟨_, rfl⟩
  have b4 : Below w3.heap.size w3 w4 := by rw [← hw4]; exact (Below.refl _ _).alloc (Nat.le_refl _) _
  have h4 : w4.heap[w3.heap.size]? = some OE := by rw [← hw4]; exact heap_alloc_new w3 OE
  rw [← hOE] at h4
  have lt4 := (Array.getElem?_eq_some_iff.1 h4).1
  obtain ⟨S4, F4⟩ := S3.keep b4
  have c0 : w4.cell? ⟨w3.heap.size, 0, none⟩ = some (.int .i64 e.kind) := cell_heap h4 rfl
  have c4 : w4.cell? ⟨w3.heap.size, 4, none⟩ = some (.slice Aa e.args.length ca) := cell_heap h4 rfl
  by_cases hk3 : e.kind = 3
  · have t1 : ((e.kind : Int) == 3) = true := by rw [hk3]; rfl
    have HX := Lib.hid (show takeR (e :: r) 7 x tg = { e with args := e.args ++ [.mk false [] []] } :: r from if_pos hk3)
    have HM := Lib.hid (And.intro S3 (And.intro (F.out.trans F3) (And.intro hl (And.intro ha (And.intro h4 (And.intro lt4 (And.intro hpr (And.intro hln b4))))))))
    clear hk3 S4 F4 S3 F3 b3 b4 hl ha h4 lt4 hpr hln hXd hpz hXs hxl hG
    obtain ⟨hS3, hF3, hl3, ha3, h4, lt4, hpr, hln, b4⟩ := HM.out
    have ha4 : AX w4 (Xg gp w3) (.slice Aa e.args.length ca) e.args := ha3.imp (fun _ q => q) (fun b q => b4.block b q.1)
    obtain ⟨v5, w5, ys, r5, b5, o5, cy⟩ : ∃ v5 w5 ys, (Builtin.append_ #[60, 60] 60 #[.slice none 0 0, .slice Aa e.args.length ca]).run Tryz.prog w4 = .ok v5 w5 ∧ Below w4.heap.size w4 w5 ∧ w5.ownsRow w4.heap.size 59 3 v5 e.args.length ys ∧ CellsA (LX w4 (Xg gp w3)) ys e.args := by
      by_cases hne : e.args = []
      · rw [hne]
        exact ⟨_, w4, [], run_copyArg0 w4 _ Aa ca, Below.refl _ _, ownNil _ _ _ _, trivial⟩
      · obtain ⟨c3, w5, ys, r3, b5, l5, o5, cy⟩ := ha4.copy hne
        exact ⟨_, w5, ys, r3, b5, o5, cy⟩
    obtain ⟨OA, hOA⟩ : ∃ O, Obj.cells #[Value.bool false, .slice none 0 0, .slice none 0 0] 59 = O := ⟨_, rfl⟩
    obtain ⟨w6, hw6⟩ : ∃ w6, w5.alloc OA = w6 := ⟨_, rfl⟩
    have b6 : Below w5.heap.size w5 w6 := by rw [← hw6]; exact (Below.refl _ _).alloc (Nat.le_refl _) _
    have h6 : w6.heap[w5.heap.size]? = some OA := by rw [← hw6]; exact heap_alloc_new w5 OA
    rw [← hOA] at h6
    have lp := len_ph e.args
    have o6 : w6.ownsRow w4.heap.size 59 3 v5 e.args.length ys := by rw [← hw6]; exact o5.alloc OA
    obtain ⟨r7, c7, w7, r7r, o7, b7⟩ := run_pushArg w6 v5 e.args.length w4.heap.size w5.heap.size ys _ _ _ o6 h6 (by intro u hu; simp only [List.mem_cons, List.not_mem_nil, or_false] at hu; rcases hu with rfl | rfl | rfl <;> rfl) (by omega) (Nat.le_trans b5.size b6.size)
    have g3 := hS3.glt
    have z5 := b5.size
    have z6 := b6.size
    have h7E : w7.heap[w3.heap.size]? = _ := (b7.block _ lt4).trans ((b6.block _ (by omega)).trans ((b5.block _ lt4).trans h4))
    have f4 : w7.cell? ⟨w3.heap.size, 4, none⟩ = some (.slice Aa e.args.length ca) := cell_heap h7E rfl
    have y4 : w7.frozen? ⟨w3.heap.size, 4, none⟩ = false := by simp [World.frozen?, h7E]
    obtain ⟨w8, hw8⟩ : ∃ w8, w7.setCell ⟨w3.heap.size, 4, none⟩ (.slice (some ⟨r7, 0, none⟩) (e.args.length + 1) c7) = w8 := ⟨_, rfl⟩
    have k8 : ∀ b : Nat, b ≠ w3.heap.size → w8.heap[b]? = w7.heap[b]? := fun b q => by rw [← hw8]; exact heap_set_ne (fun z => q z.symm)
    have h8E : w8.heap[w3.heap.size]? = some (.cells #[.int .i64 e.kind, .int .i64 e.tag, .int .i64 e.count, .slice Al e.list.length cl, .slice (some ⟨r7, 0, none⟩) (e.args.length + 1) c7] 82) := by rw [← hw8, heap_set h7E]; rfl
    have j0 : w8.cell? ⟨w3.heap.size, 0, none⟩ = some (.int .i64 e.kind) := cell_heap h8E rfl
    have j1 : w8.cell? ⟨w3.heap.size, 1, none⟩ = some (.int .i64 e.tag) := cell_heap h8E rfl
    have j2 : w8.cell? ⟨w3.heap.size, 2, none⟩ = some (.int .i64 e.count) := cell_heap h8E rfl
    have j3 : w8.cell? ⟨w3.heap.size, 3, none⟩ = some (.slice Al e.list.length cl) := cell_heap h8E rfl
    have j4 : w8.cell? ⟨w3.heap.size, 4, none⟩ = some (.slice (some ⟨r7, 0, none⟩) (e.args.length + 1) c7) := cell_heap h8E rfl
    have b38 : Below w3.heap.size w3 w8 := by
      have t7 : Below w3.heap.size w3 w7 := b4.trans ((b5.mono (Nat.le_of_lt lt4)).trans ((b6.mono (by omega)).trans (b7.mono (Nat.le_of_lt lt4))))
      rw [← hw8]; exact t7.setCell (p := ⟨w3.heap.size, 4, none⟩) (Nat.le_refl _) _
    obtain ⟨S8, F38⟩ := hS3.keep b38
    have row8 : w8.ownsRow w4.heap.size 59 3 (.slice (some ⟨r7, 0, none⟩) (e.args.length + 1) c7) (e.args.length + 1) (ys ++ [.bool false, .slice none 0 0, .slice none 0 0]) := own_keep o7 (fun b hbq => k8 _ (by have := (own_lt o7 b hbq).1; omega))
    have CF : CellsA (LX w8 (Xg gp w8)) (ys ++ [.bool false, .slice none 0 0, .slice none 0 0]) (e.args ++ [.mk false [] []]) := CellsA.append (cellsAX_imp cy (fun b q => (⟨Nat.lt_of_lt_of_le q.1 b38.size, q.2⟩ : Xg gp w8 b)) (fun b q => (b38.block b q.1).trans (b4.block b q.1).symm)) ⟨rfl, LX.nil _ _, LX.nil _ _, trivial⟩
    have hszA : szA (e.args ++ [.mk false [] []]) ≤ 16777216 := by
      have h1 := szA_ph (e.args ++ [.mk false [] []])
      have h2 := phA_bar e.args
      omega
    have AA : AX w8 (Xg gp w8) (.slice (some ⟨r7, 0, none⟩) (e.args.length + 1) c7) (e.args ++ [.mk false [] []]) := own_ax (lo := w4.heap.size) (by rw [show (e.args ++ [Ar.mk false [] []]).length = e.args.length + 1 by simp]; exact row8) CF hszA (fun _ q => q) (fun b hbq => by have := own_lt row8 b hbq; exact ⟨this.2, by omega⟩)
    have LL8 : LX w8 (Xg gp w8) (.slice Al e.list.length cl) e.list := F38.lx hl3
    have RR := Lib.hid (replace_r S8 (e' := { e with args := e.args ++ [.mk false [] []] }) ⟨_, _, rfl, LL8, AA⟩ (by omega))
    have FF := Lib.hid (hF3.trans F38)
    have R5 := Lib.hid r5
    have R7 := Lib.hid r7r
    have HZ := Lib.hid (And.intro lt4 (And.intro z5 (And.intro z6 g3)))
    clear r5 r7r hS3 hF3 hl3 ha3 h4 lt4 hpr hln b4 ha4 b5 o5 cy b6 h6 lp o6 o7 b7 g3 z5 z6 h7E k8 h8E b38 S8 F38 row8 CF hszA AA LL8
    go_wp2_with (first
      | (at_builtin; refine wpList_app rfl (.const (.slice none 0 0)) (.tmp 66) _ rfl rfl rfl R5.out ?_)
      | (at_builtin; refine wpList_app rfl (.tmp 67) (.tmp 69) _ rfl rfl rfl R7.out ?_))
    refine RR.out.mono ?_
    rintro x w9 ⟨rfl, h9, f9⟩
    have R9 := Lib.hid (And.intro h9 (FF.out.trans f9))
    clear h9 f9
    go_wp2_with fail
    try simp only [Exit.inBlock, Exit.then]
    refine bodyPost_ret (results_none rfl _ _ _) rfl ?_
    exact ⟨rfl, by rw [HX.out]; exact R9.out.1, R9.out.2⟩
  · have t1 : ((e.kind : Int) == 3) = false := by rw [beq_eq_false_iff_ne]; omega
    have HX := Lib.hid (show takeR (e :: r) 7 x tg = textR (e :: r) x from if_neg hk3)
    have R := text_r S4 (by simp) X (by omega) (by simp only [List.length_cons]; omega)
    rw [hXd] at R
    replace R := Lib.hid R
    have F' := Lib.hid (F.out.trans (F3.trans F4))
    clear hk3 S4 F4 S3 F3 b3 b4 hl ha h4 lt4 hpr hln hXd hpz hXs hxl hG
    go_wp2_with fail
    refine R.out.mono ?_
    rintro y w5 ⟨rfl, s3, f3⟩
    have Q := Lib.hid (And.intro s3 (F'.out.trans f3))
    clear s3 f3
    go_wp2_with fail
    go_end0
    exact ⟨rfl, by rw [HX.out]; exact Q.out.1, Q.out.2⟩
end
end Go.Proofs.YtdojbnngdlmbgaaGreatDoor.Pa

namespace Go.Proofs.YtdojbnngdlmbgaaGreatDoor.Pa
open Go.RowKit Go.Proofs.YtdojbnngdlmbgaaGreatDoor.Tr
set_option linter.unusedVariables false

section
variable {gp : Nat} {w w' : World} {st : List Rl}
theorem token_r (h : SP gp w st) {P L : Nat} (hG : Gst P L st) (s : ByteArray) (k : Nat) (f t : Int) (x : List UInt8) (hx : Tk.textOf s.data.toList f t = x) (hxl : x.length ≤ 8192) (hP : P ≤ 7800000) (hL : L ≤ 1900) (h1 : 1 ≤ k) (h12 : k ≤ 12) (h10 : k = 10 → 17 ≤ x.length) : Calls Tryz.prog 37 #[.pointer (some ⟨gp, 0, none⟩), .string s, .agg #[.int .i64 (k : Int), .int .i64 f, .int .i64 t]] w fun y w' => y = .returned (.tuple #[]) ∧ SP gp w' (takeR st k x (Tk.tagOf k x 3 1 : Nat)) ∧ Fq gp w w' := by
  by_cases h7 : k = 7
  · exact token_bar h hG s k f t x hx hxl hP hL _ h7
  · by_cases hm : k = 4 ∨ k = 6 ∨ k = 10 ∨ k = 12
    · exact token_more h hG s k f t x hx hxl hP hL hm h10
    · exact token_easy h hG s k f t x hx hxl hP hL (by omega)
end
end Go.Proofs.YtdojbnngdlmbgaaGreatDoor.Pa

namespace Go.Proofs.YtdojbnngdlmbgaaGreatDoor.Pa
open Go.RowKit Go.Proofs.YtdojbnngdlmbgaaGreatDoor.Tr
set_option linter.unusedVariables false
set_option linter.unusedSimpArgs false

theorem Gst.mono {P L P' L' : Nat} {st : List Rl} (h : Gst P L st) (hP : P ≤ P') (hL : L ≤ L') : Gst P' L' st := ⟨h.rt, h.kr, Nat.le_trans h.pz hP, Nat.le_trans h.ln hL⟩
theorem Gst.node {P L : Nat} {st : List Rl} (h : Gst P L st) (n : Nd) : Gst (P + szN n) L (nodeR st n) := ⟨h.rt.node n, h.kr.node n, Nat.le_trans (prs_node st n) (Nat.add_le_add_right h.pz _), by rw [len_nodeR]; exact h.ln⟩
theorem Gst.push {P L : Nat} {st : List Rl} (h : Gst P L st) {e : Rl} (s : List UInt8) (he : e.kind ≤ 3 ∧ (e.kind = 2 → 1 ≤ e.tag ∧ e.tag ≤ 3) ∧ e.count ≤ 8192) (hl : e.list = []) (ha : e.args = []) : Gst (P + (17 + e.count + s.length)) (L + 1) (pushR st e s) := by
  unfold pushR
  split
  · exact (h.text s).mono (by omega) (by omega)
  · have hp := h.pz
    have hn := h.ln
    refine ⟨h.rt.cons, fun x hx => ?_, ?_, by simp only [List.length_cons]; omega⟩
    · rcases List.mem_cons.1 hx with rfl | hx
      · exact he
      · exact h.kr x hx
    · show 16 + e.count + sz e.list + phA e.args + prs st ≤ _
      rw [hl, ha, sz_nil]
      simp only [phA]
      omega
theorem Rbt.same {e e' : Rl} {st : List Rl} (h : Rbt (e :: st)) (hk : e'.kind = e.kind) : Rbt (e' :: st) := by
  cases st with
  | nil => show e'.kind = 0; rw [hk]; exact h
  | cons f st => exact h
/-- The top in another form. -/
theorem Gst.top {P L d : Nat} {e e' : Rl} {r : List Rl} (h : Gst P L (e :: r)) (hk : e'.kind = e.kind) (ht : e'.tag = e.tag) (hc : e'.count = e.count) (hl : e'.list = e.list) (ha : phA e'.args ≤ phA e.args + d) : Gst (P + d) L (e' :: r) := by
  have hp : 16 + e.count + sz e.list + phA e.args + prs r ≤ P := h.pz
  refine ⟨h.rt.same hk, fun x hx => ?_, ?_, h.ln⟩
  · rcases List.mem_cons.1 hx with rfl | hx
    · rw [hk, ht, hc]; exact h.kr e List.mem_cons_self
    · exact h.kr x (List.mem_cons_of_mem _ hx)
  · show 16 + e'.count + sz e'.list + phA e'.args + prs r ≤ P + d
    rw [hc, hl]; omega
theorem Gst.bar {P L : Nat} {st : List Rl} (h : Gst P L st) (s : List UInt8) : Gst (P + (1000 + s.length)) L (barR st s) := by
  cases st with
  | nil => exact h.rt.elim
  | cons e r =>
    unfold barR
    simp only
    split
    · exact (h.top (e' := { e with args := e.args ++ [.mk false [] []] }) rfl rfl rfl rfl (phA_bar e.args)).mono (by omega) (Nat.le_refl _)
    · exact (h.text s).mono (by omega) (Nat.le_refl _)
theorem Gst.equal {P L : Nat} {st : List Rl} (h : Gst P L st) : Gst (P + 2) L (equalR st) := by
  cases st with
  | nil => exact h.rt.elim
  | cons e r =>
    unfold equalR
    simp only
    split
    · exact (h.top (d := 0) (e' := { e with args := nameA e.args }) rfl rfl rfl rfl (phA_nameA e.args)).mono (by omega) (Nat.le_refl _)
    · exact h.text [61]
theorem Gst.tail {P L : Nat} {e : Rl} {r : List Rl} (h : Gst P L (e :: r)) (hn : r ≠ []) : Gst (P - (16 + sz e.list)) L r ∧ 16 + sz e.list ≤ P := by
  have hp : 16 + e.count + sz e.list + phA e.args + prs r ≤ P := h.pz
  have hl := h.ln
  simp only [List.length_cons] at hl
  exact ⟨⟨h.rt.tail hn, h.kr.tail, by omega, by omega⟩, by omega⟩
theorem Gst.nodes {P L : Nat} : ∀ (l : List Nd) {st : List Rl}, Gst P L st → Gst (P + sz l) L (nodesR st l) := fun l st h =>
  ⟨h.rt.nodes l, h.kr.nodes l, Nat.le_trans (prs_nodes l st) (Nat.add_le_add_right h.pz _), by rw [len_nodesR]; exact h.ln⟩
theorem Gst.linkEnd {P L : Nat} {st : List Rl} (h : Gst P L st) (s : List UInt8) : Gst (P + (1 + s.length)) L (linkEndR st s) := by
  cases st with
  | nil => exact h.rt.elim
  | cons e r =>
    unfold linkEndR
    simp only
    split
    · rename_i hk
      have hn : r ≠ [] := fun q => by subst q; have : e.kind = 0 := h.rt; omega
      obtain ⟨h1, h2⟩ := h.tail hn
      exact (((h1.text [91, 91]).nodes e.list).text [93, 93]).mono (by simp only [List.length_cons, List.length_nil]; omega) (Nat.le_refl _)
    · exact h.text s
theorem Gst.tagEnd {P L : Nat} {st : List Rl} (h : Gst P L st) (s : List UInt8) (t : Int) : Gst (P + (1 + s.length)) L (tagEndR st s t) := by
  unfold tagEndR
  split
  · exact h.text s
  · rename_i i hq
    have hl := tag_lt h.rt hq
    have hf := h.flats (n := i) (by omega)
    obtain ⟨p1, p2⟩ := prs_flats i st (by omega)
    split
    · rename_i e r he
      rw [he] at hf p2
      have hn : r ≠ [] := fun q => by subst q; simp only [List.length_cons, List.length_nil] at p2; omega
      obtain ⟨h1, h2⟩ := hf.tail hn
      have hz : szN (.mk 6 e.tag ⟨#[]⟩ e.list []) = 1 + sz e.list := by rw [szN_eq]; simp only [Nd.text, Nd.kids, Nd.args, szA_nil]; rfl
      exact (h1.node (.mk 6 e.tag ⟨#[]⟩ e.list [])).mono (by rw [hz]; omega) (Nat.le_refl _)
    · rename_i he
      rw [he] at p2; simp at p2; omega
theorem Gst.closes {P L : Nat} : ∀ (f : Nat) {st : List Rl}, Gst P L st → ∀ c, Gst (P + (1 + c)) L (closeR f st c)
  | 0, st, h, c => by
    have := h.text (List.replicate c 125)
    rw [List.length_replicate] at this; exact this
  | f + 1, st, h, c => by
    have ht := h.text (List.replicate c 125)
    rw [List.length_replicate] at ht
    unfold closeR
    split
    · exact ht
    · split
      · exact ht
      · rename_i i hq
        have hl := brace_lt h.rt hq
        have hf := h.flats (n := i) (by omega)
        obtain ⟨p1, p2⟩ := prs_flats i st (by omega)
        match he : flatsR i st, hf, p2 with
        | [], hf, _ => exact hf.rt.elim
        | e :: r, hf, p2 =>
          have hn : r ≠ [] := fun q => by subst q; simp only [List.length_cons, List.length_nil] at p2; omega
          exact (Gst.closes f (hf.close hn c) _).mono (by omega) (Nat.le_refl _)
theorem within_len (s : List UInt8) : (within s).length ≤ s.length := by unfold within; rw [List.length_take, List.length_drop]; omega
theorem Gst.take {P L : Nat} {st : List Rl} (h : Gst P L st) {k : Nat} {s : List UInt8} {t : Int} (hs : s.length ≤ 8192) (ht : k = 11 → 1 ≤ t ∧ t ≤ 3) : Gst (P + (1000 + 2 * s.length)) (L + 1) (takeR st k s t) := by
  have hw := within_len s
  have hx : ∀ (q : Int) (l : List UInt8), szN (.mk q 0 ⟨l.toArray⟩ [] []) = 1 + l.length := fun q l => by rw [szN_eq]; simp [Nd.text, Nd.kids, Nd.args, sz_nil, szA_nil, ByteArray.size]
  unfold takeR
  split
  · exact (h.node _).mono (by rw [hx]; omega) (by omega)
  split
  · exact (h.node _).mono (by rw [hx]; omega) (by omega)
  split
  · exact (h.push (e := ⟨3, 0, s.length, [], []⟩) s ⟨Nat.le_refl _, (fun q => by cases q), hs⟩ rfl rfl).mono (by show P + (17 + s.length + s.length) ≤ _; omega) (Nat.le_refl _)
  split
  · exact (h.push (e := ⟨1, 0, 0, [], []⟩) s ⟨(show (1 : Nat) ≤ 3 by decide), (fun q => by cases q), Nat.zero_le _⟩ rfl rfl).mono (by show P + (17 + 0 + s.length) ≤ _; omega) (Nat.le_refl _)
  split
  · rename_i hk
    exact (h.push (e := ⟨2, t, 0, [], []⟩) s ⟨(show (2 : Nat) ≤ 3 by decide), (fun _ => ht hk), Nat.zero_le _⟩ rfl rfl).mono (by show P + (17 + 0 + s.length) ≤ _; omega) (Nat.le_refl _)
  split
  · exact (h.bar s).mono (by omega) (by omega)
  split
  · exact h.equal.mono (by omega) (by omega)
  split
  · exact (h.linkEnd s).mono (by omega) (by omega)
  split
  · exact (h.tagEnd s t).mono (by omega) (by omega)
  split
  · exact (h.closes _ _).mono (by omega) (by omega)
  · exact (h.text s).mono (by omega) (by omega)
/-- What holds of the reference's stack behind the first tokens. -/
theorem Gst.takes : ∀ (l : List (Nat × List UInt8 × Int)) {P L : Nat} {st : List Rl}, Gst P L st → (∀ x ∈ l, x.2.1.length ≤ 1500 ∧ (x.1 = 11 → 1 ≤ x.2.2 ∧ x.2.2 ≤ 3)) → Gst (P + 4000 * l.length) (L + l.length) (takesR l st)
  | [], _, _, _, h, _ => h
  | x :: l, P, L, st, h, hx => by
    obtain ⟨h1, h2⟩ := hx x List.mem_cons_self
    have := Gst.takes l (h.take (k := x.1) (s := x.2.1) (t := x.2.2) (by omega) h2) (fun y hy => hx y (List.mem_cons_of_mem _ hy))
    exact this.mono (by simp only [List.length_cons]; omega) (by simp only [List.length_cons]; omega)
theorem rootG : Gst 16 1 [rootR] := ⟨rfl, fun x hx => by
  rw [List.mem_singleton] at hx; subst hx; exact ⟨Nat.zero_le _, (fun q => by cases q), Nat.zero_le _⟩, by
  show 16 + 0 + sz [] + phA [] + 0 ≤ 16
  rw [sz_nil]; simp only [phA]; omega, by simp⟩
end Go.Proofs.YtdojbnngdlmbgaaGreatDoor.Pa

namespace Go.Proofs.YtdojbnngdlmbgaaGreatDoor.Pa
open Go.RowKit Go.Proofs.YtdojbnngdlmbgaaGreatDoor.Tr
set_option linter.unusedVariables false
set_option linter.unusedSimpArgs false

theorem takesR_take {l : List (Nat × List UInt8 × Int)} {k : Nat} (h : k < l.length) (st : List Rl) : takesR (l.take (k + 1)) st = takeR (takesR (l.take k) st) l[k].1 l[k].2.1 l[k].2.2 := by
  rw [List.take_succ_eq_append_getElem h, takesR, List.foldl_append]
  rfl
theorem flatsR_one {st : List Rl} (h : 0 < st.length) : ∃ e, flatsR (st.length - 1 - 0) st = [e] := by
  have h1 := (prs_flats (st.length - 1) st (by omega)).2
  rw [Nat.sub_zero]
  match hq : flatsR (st.length - 1) st with
  | [] => rw [hq] at h1; simp at h1; omega
  | [e] => exact ⟨e, rfl⟩
  | _ :: _ :: _ => rw [hq] at h1; simp at h1; omega
/-- What is known of the k-th token of a short text. -/
structure Kt (S : List UInt8) (T : List Tk.Tok) (k : Nat) : Prop where
  g : Gst (16 + 4000 * k) (1 + k) (takesR ((T.map (tk S)).take k) [rootR])
theorem Kt.of {S : List UInt8} {T : List Tk.Tok} (hok : ∀ x ∈ T.map (tk S), TF x.1 x.2.1 x.2.2) (hx : ∀ x ∈ T.map (tk S), x.2.1.length ≤ 1500) (k : Nat) (hk : k ≤ T.length) : Kt S T k := by
  refine ⟨?_⟩
  have := Gst.takes ((T.map (tk S)).take k) rootG (fun x hm => ⟨hx x (List.mem_of_mem_take hm), (hok x (List.mem_of_mem_take hm)).c11 |> fun q h => (q h).2⟩)
  have hl : ((T.map (tk S)).take k).length = k := by rw [List.length_take, List.length_map]; omega
  rw [hl] at this
  exact this
theorem nowiki_long {s : List UInt8} {t : Int} (h : TF 10 s t) : 17 ≤ s.length := by
  have := congrArg List.length (h.c10 rfl)
  rw [List.length_append, List.length_append] at this
  have e1 : nowikiL.length = 8 := rfl
  have e2 : nowikiR.length = 9 := rfl
  omega
set_option maxRecDepth 100000 in
set_option maxHeartbeats 16000000 in
theorem ParseR_any (s : ByteArray) (w : World) (hs : s.size ≤ 1500) :
    Calls Tryz.prog 13 #[.string s] w fun e w' => ∃ v, e = .returned (.tuple #[v, .int .i64 0]) ∧ LX w' (fun g => g < w'.heap.size) v (tree (toks s.data.toList)) ∧ Below w.heap.size w w' := by
  have hok := scan_ok s.data.toList s.data.toList.length 0 0 (by omega) (Nat.le_refl _) (Nat.zero_le _)
  have hch := Tk.scan_chain s.data.toList _ 0 0 (Nat.le_refl _) (Nat.le_refl _) (Nat.zero_le _)
  go_enter Tryz.func13, Tryz.ntmps13
  go_wp2_with fail
  with_reducible refine (Tk.ScanR_any s w (by omega)).mono ?_
  rintro e w1 ⟨v1, rfl, ho1, hb1⟩
  obtain ⟨A1, c1, hv1, hv2, hv3⟩ := own_form ho1
  subst hv1
  have HO := Lib.hid ho1
  have HB1 := Lib.hid hb1
  have HOK := Lib.hid hok.1
  have HCH := Lib.hid hch
  clear ho1 hb1 hok hch
  obtain ⟨T, hT⟩ : ∃ T, Tk.scanL s.data.toList 0 0 = T := ⟨_, rfl⟩
  rw [hT] at HO HOK HCH hv2 ⊢
  have hTl : T.length ≤ 1500 := Nat.le_trans (chain_len HCH.out).2 (by show s.size - 0 ≤ _; omega)
  have hxl : ∀ x ∈ T.map (tk s.data.toList), x.2.1.length ≤ 1500 := fun x hx => by
    obtain ⟨y, hy, rfl⟩ := List.mem_map.1 hx
    have hc := chain_tok HCH.out y hy
    show ((s.data.toList.drop y.2.1).take (y.2.2 - y.2.1)).length ≤ 1500
    rw [List.length_take, List.length_drop]
    have : s.data.toList.length = s.size := rfl
    omega
  have KS : Hid (∀ k, k ≤ T.length → Kt s.data.toList T k) := Lib.hid (fun k hk => Kt.of HOK.out hxl k hk)
  have HTR : Hid (treeR (T.map (tk s.data.toList)) = tree (toks s.data.toList)) := Lib.hid (by
    have := treeR_eq s.data.toList
    unfold toks at this ⊢
    rw [hT] at this ⊢
    exact this)
  clear hT hxl
  -- the parser
  have q1 := heap_alloc2_old w1 (Obj.cells #[Value.int .i64 0, .int .i64 0, .int .i64 0, .slice none 0 0, .slice none 0 0] 82) (Obj.cells #[Value.slice (some ⟨w1.heap.size, 0, none⟩) 1 1] 85)
  have q2 := heap_alloc2_new w1 (Obj.cells #[Value.int .i64 0, .int .i64 0, .int .i64 0, .slice none 0 0, .slice none 0 0] 82) (Obj.cells #[Value.slice (some ⟨w1.heap.size, 0, none⟩) 1 1] 85)
  have b2 := two_below w1 (Obj.cells #[Value.int .i64 0, .int .i64 0, .int .i64 0, .slice none 0 0, .slice none 0 0] 82) (Obj.cells #[Value.slice (some ⟨w1.heap.size, 0, none⟩) 1 1] 85)
  have S0 : Hid (SP (w1.heap.size + 1) ((w1.alloc (Obj.cells #[Value.int .i64 0, .int .i64 0, .int .i64 0, .slice none 0 0, .slice none 0 0] 82)).alloc (Obj.cells #[Value.slice (some ⟨w1.heap.size, 0, none⟩) 1 1] 85)) [rootR]) := Lib.hid ⟨w1.heap.size, 1, [.int .i64 0, .int .i64 0, .int .i64 0, .slice none 0 0, .slice none 0 0], q2, Nat.le_refl _, by omega, by simp; omega, by omega, fun j u hj => cell_heap q1 (by simpa using hj), [], _, rfl, rfl, .slice none 0 0, .slice none 0 0, rfl, LX.nil _ _, AX.nil _ _⟩
  have HB2 := Lib.hid b2
  clear q1 q2 b2
  go_wp2_with fail
  generalize hw2 : (w1.alloc (Obj.cells #[Value.int .i64 0, .int .i64 0, .int .i64 0, .slice none 0 0, .slice none 0 0] 82)).alloc (Obj.cells #[Value.slice (some ⟨w1.heap.size, 0, none⟩) 1 1] 85) = w2 at *
  clear hw2
  go_loopw [7] (fun i wr => ∃ k : Nat, k ≤ T.length ∧ i = .int .i64 k ∧ Hid (SP (w1.heap.size + 1) wr (takesR ((T.map (tk s.data.toList)).take k) [rootR]) ∧ Below w1.heap.size w1 wr)) (fun i _ => T.length - (intOf i).toNat)
  case atStart => exact ⟨0, Nat.zero_le _, rfl, Lib.hid ⟨by simpa [takesR] using S0.out, HB2.out⟩⟩
  case round =>
    obtain ⟨k, hk, rfl, hS⟩ := hrel
    clear S0
    by_cases hlt : k < T.length
    · obtain ⟨g, c, hv, hg, hc1, hc2, t0, t1, t2⟩ := Own.tok HO.out hlt
      cases hv
      have hct := chain_tok HCH.out T[k] (List.getElem_mem hlt)
      have hTF := HOK.out (tk s.data.toList T[k]) (List.mem_map_of_mem (List.getElem_mem hlt))
      have HTK : Hid (takesR ((T.map (tk s.data.toList)).take (k + 1)) [rootR] = takeR (takesR ((T.map (tk s.data.toList)).take k) [rootR]) (tk s.data.toList T[k]).1 (tk s.data.toList T[k]).2.1 (tk s.data.toList T[k]).2.2) := Lib.hid (by
        rw [takesR_take (by rw [List.length_map]; exact hlt)]
        simp only [List.getElem_map])
      have hcell : ∀ i, wr.cell? ⟨g, i, none⟩ = w1.cell? ⟨g, i, none⟩ := fun i => hS.out.2.cell (p := ⟨g, i, none⟩) hg
      rw [← hcell] at t0 t1 t2
      generalize T[k] = x at *
      obtain ⟨kd, f, t⟩ := x
      simp only at t0 t1 t2 hct
      have hxt : Tk.textOf s.data.toList (f : Int) (t : Int) = (s.data.toList.drop f).take (t - f) := by
        rw [Tk.textOf_good (by have : s.data.toList.length = s.size := rfl; omega)]; rfl
      have hlen : ((s.data.toList.drop f).take (t - f)).length ≤ 8192 := by
        rw [List.length_take, List.length_drop]
        have : s.data.toList.length = s.size := rfl
        omega
      obtain ⟨X, hX⟩ : ∃ X, (s.data.toList.drop f).take (t - f) = X := ⟨_, rfl⟩
      have htk : tk s.data.toList (kd, f, t) = (kd, X, ((tgOf kd X 3 1 : Nat) : Int)) := by rw [← hX]; rfl
      rw [htk] at hTF HTK
      simp only at hTF HTK
      have HTT := token_r hS.out.1 (KS.out k (by omega)).g s kd f t X (hxt.trans hX) (by rw [← hX]; exact hlen) (by omega) (by omega) hct.2.2.2.1 hct.2.2.2.2 (fun q => by subst q; exact nowiki_long hTF)
      rw [tgOf_eq] at HTT
      have HT1 := Lib.hid HTT
      have HBk := Lib.hid hS.out.2
      clear HTT hxt hX htk hlen hcell hTF hS hct
      go_wp2_with fail
      with_reducible refine HT1.out.mono ?_
      rintro e w5 ⟨rfl, s5, f5⟩
      have R5 : Hid (SP (w1.heap.size + 1) w5 (takesR ((T.map (tk s.data.toList)).take (k + 1)) [rootR]) ∧ Below w1.heap.size w1 w5) := Lib.hid ⟨by rw [HTK.out]; exact s5, HBk.out.trans (f5.bl.mono (by omega))⟩
      clear s5 f5 HT1 HBk t0 t1 t2
      go_wp2
      go_roundw
      case rel => exact ⟨k + 1, by omega, by go_num, R5⟩
      case measure => exact meas hlt
    · have ek : k = T.length := by omega
      subst ek
      have eL : (T.map (tk s.data.toList)).take T.length = T.map (tk s.data.toList) := List.take_of_length_le (by simp)
      have kg := (KS.out T.length (Nat.le_refl _)).g
      rw [eL] at kg hS
      obtain ⟨st, hst⟩ : ∃ st, takesR (T.map (tk s.data.toList)) [rootR] = st := ⟨_, rfl⟩
      rw [hst] at kg hS
      have hpos : 0 < st.length := List.length_pos_iff.2 kg.rt.ne
      obtain ⟨e, he⟩ := flatsR_one hpos
      have HTR2 : Hid (e.list = tree (toks s.data.toList)) := Lib.hid (by
        rw [← HTR.out]
        unfold treeR
        rw [hst, show st.length - 1 = st.length - 1 - 0 from rfl, he])
      have hpz := kg.pz
      have hln := kg.ln
      have F0 := Lib.hid (flattenTo_r hS.out.1 0 hpos kg.kr (by omega) (by omega))
      have HBk := Lib.hid hS.out.2
      have HE := Lib.hid he
      clear hS kg hst eL he HTR hpz hln
      go_wp2_with fail
      refine F0.out.mono ?_
      rintro x w4 ⟨rfl, s4, f4⟩
      rw [HE.out] at s4
      have TP := Lib.hid (top_r s4)
      have B4 := Lib.hid (HBk.out.trans (f4.bl.mono (by omega)))
      clear s4 f4 F0 HBk
      go_wp2_with fail
      with_reducible refine TP.out.mono ?_
      rintro x w5 ⟨v5, rfl, ⟨vl, va, rfl, hl5, _⟩, _, f5, b5⟩
      have L5 : Hid (LX w5 (fun g => g < w5.heap.size) vl (tree (toks s.data.toList))) := Lib.hid (by rw [← HTR2.out]; exact hl5.imp (fun b q => q.1) fun _ _ => rfl)
      have B5 := Lib.hid (B4.out.trans (b5.mono B4.out.size))
      have hfd : ∀ w : World, (Instr.field 82 (.agg #[.int .i64 e.kind, .int .i64 e.tag, .int .i64 e.count, vl, va]) 3).run Tryz.prog w = .ok vl w := fun _ => by kernel_rfl
      clear hl5 f5 b5 TP B4
      go_wp2_with fail
      go_ret2
      exact ⟨_, rfl, L5.out, HB1.out.trans (B5.out.mono HB1.out.size)⟩
end Go.Proofs.YtdojbnngdlmbgaaGreatDoor.Pa

namespace Go.Proofs.YtdojbnngdlmbgaaGreatDoor.Se
open Go.RowKit Go.Shelf Go.Proofs.YtdojbnngdlmbgaaGreatDoor.Tr
set_option linter.unusedVariables false
set_option linter.unusedSimpArgs false

theorem Text_4 (w0 : World) (A : Option Addr) (n c b : Nat) (hs : Sl w0 A n c) (W : World) (h : Tp w0 A n c b W) :
    Calls Tryz.prog 10 #[.pointer (some ⟨b, 0, none⟩), .int .i64 4] W (TxP w0 A n c b 40000) :=
  (Text_any w0 A n c b hs 4 (by omega) W h).mono fun e W' ⟨x, h1, h2, h3⟩ => ⟨x, Nat.le_trans h1 (by decide), h2, h3⟩
set_option maxRecDepth 100000 in
set_option maxHeartbeats 4000000 in
theorem ParseBuilt_any (A : Option Addr) (n c : Nat) (w : World) (hs : Sl w A n c) (hT : Tk.Tb w) :
    Calls Tryz.prog 3 #[.slice A n c] w fun e w' => e = .returned (.bool true) ∧ Below w.heap.size w w' := by
  have HK := Lib.hid (fun (W : World) (hW : Below w.heap.size w W) => Pa.known_any W (hT.below hW))
  have HTb := Lib.hid (fun (W : World) (hW : Below w.heap.size w W) => hT.below hW)
  have HS := Lib.hid hs
  have hle := hs.le
  have hmx := hs.mx
  unfold maxLen at hmx
  clear hs hT
  go_enter Tryz.func3, Tryz.ntmps3
  go_wp2_with fail
  (with_reducible refine (New_any A n c w).mono ?_)
  rintro e w1 ⟨rfl, ht1⟩
  have HT2 := Lib.hid (Text_4 w A n c w.heap.size HS.out w1 ht1)
  unfold TxP at HT2
  clear ht1
  go_wp2_with fail
  (with_reducible refine HT2.out.mono ?_)
  rintro e w2 ⟨s, hsz, rfl, ht2⟩
  have B2 := Lib.hid ht2.bl
  clear ht2 HT2
  by_cases h1 : 1500 < s.size
  · have d1 : (1500 : Int) < (s.size : Int) := by omega
    go_wp2_with fail
    (with_reducible refine (HK.out _ B2.out).mono ?_)
    rintro e w4 ⟨rfl, b4⟩
    have B4 := Lib.hid (B2.out.trans (b4.mono B2.out.size))
    clear b4
    go_wp2
    go_ret
    exact ⟨rfl, B4.out⟩
  have d1 : ¬ (1500 : Int) < (s.size : Int) := by omega
  have HP := Lib.hid (Pa.Parse_any s w2 (HTb.out _ B2.out) (by omega))
  have HQ := Lib.hid (fun w => Pa.ParseR_any s w (by omega))
  go_wp2_with fail
  (with_reducible refine HP.out.mono ?_)
  rintro e w3 ⟨v, d, rfl, l1, b3⟩
  clear HP
  obtain ⟨A1, c1, hv⟩ := l1.form
  subst hv
  generalize htr : Pa.tree (Pa.toks s.data.toList) = L at *
  have L1 := Lib.hid (Pa.LRx.lx l1)
  have B3 := Lib.hid (B2.out.trans (b3.mono B2.out.size))
  clear l1 b3
  go_wp2_with fail
  (with_reducible refine (HQ.out w3).mono ?_)
  rintro e w4 ⟨v2, rfl, l2, b4⟩
  obtain ⟨A2, c2, hv2⟩ := Pa.LX.form l2
  subst hv2
  have HE := Lib.hid (Pa.equal_same (L1.out.on b4) l2)
  have B4 := Lib.hid (B3.out.trans (b4.mono B3.out.size))
  clear b4 l2 L1 HQ htr
  go_wp2_with fail
  (with_reducible refine HE.out.mono ?_)
  rintro e w5 ⟨rfl, b5⟩
  have B5 := Lib.hid (B4.out.trans (b5.mono B4.out.size))
  clear b5 HE
  go_wp2_with fail
  (with_reducible refine (HK.out _ B5.out).mono ?_)
  rintro e w6 ⟨rfl, b6⟩
  have B6 := Lib.hid (B5.out.trans (b6.mono B5.out.size))
  clear b6
  go_wp2
  go_ret
  exact ⟨rfl, B6.out⟩
end Go.Proofs.YtdojbnngdlmbgaaGreatDoor.Se
