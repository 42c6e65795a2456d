/-
  The contract of the reference's closing.
-/
import Derived.Test.YtdojbnngdlmbgaaGreatDoorPaR2
namespace Go.Proofs.YtdojbnngdlmbgaaGreatDoor.Pa
open Go.RowKit Go.Proofs.YtdojbnngdlmbgaaGreatDoor.Tr
set_option linter.unusedVariables false

section
variable {gp : Nat} {w w' : World} {st : List Rl}
set_option maxRecDepth 100000 in
set_option maxHeartbeats 4000000 in
theorem closing_r (h : SP gp w st) {P L : Nat} (hG : Gst P L st) (c : Nat) (hc : c ≤ 8192) (hP : P ≤ 7800000) (hL : L ≤ 1900) : Calls Tryz.prog 84 #[.pointer (some ⟨gp, 0, none⟩), .int .i64 (c : Int)] w fun x w' => x = .returned (.tuple #[]) ∧ SP gp w' (closeR c st c) ∧ Fq gp w w' := by
  have HS := Lib.hid h
  have HG := Lib.hid hG
  clear h hG
  go_enter Tryz.func84, Tryz.ntmps84
  go_wp2
  go_loopw [1] (fun cv wr => ∃ (f d : Nat) (s : List Rl), cv = .int .i64 d ∧ Hid (closeR f s d = closeR c st c) ∧ d ≤ f ∧ d ≤ c ∧ Hid (SP gp wr s) ∧ Hid (Fq gp w wr) ∧ Hid (Gst P L s)) (fun cv _ => (intOf cv).toNat)
  case atStart => exact ⟨c, c, st, rfl, Lib.hid rfl, Nat.le_refl _, Nat.le_refl _, HS, Lib.hid (Fq.refl _ _), HG⟩
  case round =>
    obtain ⟨f, d, s, rfl, he, hdf, hdc, hs, hf, hg⟩ := hrel
    have hsl := hg.out.ln
    have hspos : 0 < s.length := List.length_pos_iff.2 hg.out.rt.ne
    by_cases h2 : 2 ≤ d
    · have h2i : (2 : Int) ≤ (d : Int) := by omega
      obtain ⟨f', rfl⟩ : ∃ f', f = f' + 1 := ⟨f - 1, by omega⟩
      have LB := Lib.hid (lastBrace_r hs.out hspos (by omega))
      have he2 := he.out
      rw [closeR, if_neg (by omega)] at he2
      go_wp2_with fail
      refine LB.out.mono ?_
      rintro x w1 ⟨rfl, rfl⟩
      cases hq : braceAtR s with
      | none =>
        rw [hq] at he2
        have HE2 := Lib.hid he2
        clear he2
        rw [show at0 s none = 0 from rfl]
        have BR := Lib.hid (braces_r d 125 w1 (by omega))
        go_wp2_with fail
        refine BR.out.mono ?_
        rintro x w2 ⟨S, rfl, hSl, b2⟩
        obtain ⟨s2, f2⟩ := hs.out.keep b2
        have hSz : S.size = d := by
          have q2 : S.size = S.data.toList.length := rfl
          rw [q2, hSl, List.length_replicate]
        have hpz := hg.out.pz
        have TX := Lib.hid (text_r s2 hg.out.rt.ne S (by omega) (by omega))
        have HSL := Lib.hid hSl
        have F2 := Lib.hid (hf.out.trans f2)
        clear s2 f2 b2 BR hSl hSz hpz
        go_wp2_with fail
        refine TX.out.mono ?_
        rintro x w3 ⟨rfl, s3, f3⟩
        rw [HSL.out, HE2.out] at s3
        have R := Lib.hid (And.intro s3 (F2.out.trans f3))
        clear s3 f3
        go_wp2_with fail
        go_end0
        exact ⟨rfl, R.out⟩
      | some i =>
        rw [hq] at he2
        simp only at he2
        have hil := brace_lt hg.out.rt hq
        have HE2 := Lib.hid he2
        clear he2
        obtain ⟨p, hp⟩ : ∃ p, s.length - 1 - i = p := ⟨_, rfl⟩
        rw [show at0 s (some i) = p from hp]
        have ppos : (p : Int) ≠ 0 := by omega
        have pposb : ((p : Int) == 0) = false := by rw [beq_eq_false_iff_ne]; exact ppos
        have hpz := hg.out.pz
        have FT := flattenTo_r hs.out p (by omega) hg.out.kr (by omega) (by omega)
        rw [show s.length - 1 - p = i by omega] at FT
        have FT := Lib.hid FT
        have G1 := hg.out.flats (n := i) (by omega)
        have l1 := (prs_flats i s (by omega)).2
        obtain ⟨e, r, her⟩ : ∃ e r, flatsR i s = e :: r := by
          cases hq2 : flatsR i s with
          | nil => rw [hq2] at l1; simp at l1; omega
          | cons e r => exact ⟨e, r, rfl⟩
        rw [her] at FT HE2 G1 l1
        simp only [List.length_cons] at l1
        have hr0 : 0 < r.length := by omega
        have hrn : r ≠ [] := List.length_pos_iff.1 hr0
        have HG1 := Lib.hid G1
        have HLR := Lib.hid (show r.length ≤ 1900 by omega)
        obtain ⟨-, -, hcount⟩ := G1.kr e List.mem_cons_self
        have hpe : 16 + e.count + sz e.list + phA e.args + prs r ≤ P := G1.pz
        clear G1 l1 her hp hil hq ppos
        go_wp2_with fail
        refine FT.out.mono ?_
        rintro x w2 ⟨rfl, s2, f2⟩
        have PP := Lib.hid (pop_r s2 hr0 (by have := HLR.out; omega))
        have F2 := Lib.hid (hf.out.trans f2)
        clear s2 f2 FT
        go_wp2_with fail
        refine PP.out.mono ?_
        rintro x w3 ⟨v3, rfl, ⟨vl, va, rfl, hl, ha⟩, s3, f3⟩
        obtain ⟨Al, cl, rfl⟩ := hl.form
        obtain ⟨Aa, ca, rfl⟩ := ha.form
        obtain ⟨OE, hOE⟩ : ∃ O, Obj.cells #[Value.int .i64 e.kind, .int .i64 e.tag, .int .i64 e.count, .slice Al e.list.length cl, .slice Aa e.args.length ca] 82 = O := ⟨_, rfl⟩
        obtain ⟨w4, hw4⟩ : ∃ w4, w3.alloc OE = w4 := ⟨_, rfl⟩
        have b4 : Below w3.heap.size w3 w4 := by rw [← hw4]; exact (Below.refl _ _).alloc (Nat.le_refl _) _
        have h4E : w4.heap[w3.heap.size]? = some OE := by rw [← hw4]; exact heap_alloc_new w3 OE
        rw [← hOE] at h4E
        have q0 : w4.cell? ⟨w3.heap.size, 0, none⟩ = some (.int .i64 e.kind) := cell_heap h4E rfl
        have q1 : w4.cell? ⟨w3.heap.size, 1, none⟩ = some (.int .i64 e.tag) := cell_heap h4E rfl
        have q2 : w4.cell? ⟨w3.heap.size, 2, none⟩ = some (.int .i64 e.count) := cell_heap h4E rfl
        have q3 : w4.cell? ⟨w3.heap.size, 3, none⟩ = some (.slice Al e.list.length cl) := cell_heap h4E rfl
        have q4 : w4.cell? ⟨w3.heap.size, 4, none⟩ = some (.slice Aa e.args.length ca) := cell_heap h4E rfl
        have lt34 := (Array.getElem?_eq_some_iff.1 h4E).1
        have F3 := Lib.hid (F2.out.trans f3)
        have HS3 := Lib.hid (And.intro s3 (And.intro hl (And.intro ha (And.intro b4 h4E))))
        clear s3 hl ha b4 h4E f3 PP F2
        by_cases h3d : 3 ≤ d
        · by_cases h3c : 3 ≤ e.count
          · have hu : usedR e d = 3 := if_pos ⟨h3d, h3c⟩
            have i1 : (3 : Int) ≤ (d : Int) := by omega
            have i2 : (3 : Int) ≤ (e.count : Int) := by omega
            obtain ⟨ON, hON⟩ : ∃ O, Obj.cells #[Value.int .i64 5, .int .i64 0, .string ⟨#[]⟩, .slice Al e.list.length cl, .slice Aa e.args.length ca] 62 = O := ⟨_, rfl⟩
            obtain ⟨w5, hw5⟩ : ∃ w5, w4.alloc ON = w5 := ⟨_, rfl⟩
            have b5 : Below w4.heap.size w4 w5 := by rw [← hw5]; exact (Below.refl _ _).alloc (Nat.le_refl _) _
            have h5N : w5.heap[w4.heap.size]? = some ON := by rw [← hw5]; exact heap_alloc_new w4 ON
            rw [← hON] at h5N
            have lt45 := (Array.getElem?_eq_some_iff.1 h5N).1
            obtain ⟨s3, hl, ha, b4, h4E⟩ := HS3.out
            have b35 : Below w3.heap.size w3 w5 := b4.trans (b5.mono b4.size)
            obtain ⟨s5, f5⟩ := s3.keep b35
            have h5E := (b5.block _ lt34).trans h4E
            have q2' : w5.cell? ⟨w3.heap.size, 2, none⟩ = some (.int .i64 e.count) := cell_heap h5E rfl
            have n0 : w5.cell? ⟨w4.heap.size, 0, none⟩ = some (.int .i64 5) := cell_heap h5N rfl
            have n1 : w5.cell? ⟨w4.heap.size, 1, none⟩ = some (.int .i64 0) := cell_heap h5N rfl
            have n2 : w5.cell? ⟨w4.heap.size, 2, none⟩ = some (.string ⟨#[]⟩) := cell_heap h5N rfl
            have n3 : w5.cell? ⟨w4.heap.size, 3, none⟩ = some (.slice Al e.list.length cl) := cell_heap h5N rfl
            have n4 : w5.cell? ⟨w4.heap.size, 4, none⟩ = some (.slice Aa e.args.length ca) := cell_heap h5N rfl
            have hL5 := f5.lx hl
            have hA5 := f5.ax ha
            have hgp5 := s5.glt
            have hgp3 := s3.glt
            have hcl : clN e d = .mk 5 0 ⟨#[]⟩ e.list e.args := by unfold clN; rw [hu]; rfl
            have hNV : NV w5 (Xg gp w5) (.agg #[.int .i64 5, .int .i64 0, .string ⟨#[]⟩, .slice Al e.list.length cl, .slice Aa e.args.length ca]) (clN e d) := by
              rw [hcl]; exact ⟨_, _, rfl, hL5, hA5, by show Fit 5; unfold Fit; omega, by show Fit 0; unfold Fit; omega⟩
            have hszc := szN_cl e d
            have F5 := Lib.hid (F3.out.trans f5)
            have hKc : 2 ≤ e.count - 3 ∨ e.count - 3 = 1 ∨ e.count - 3 = 0 := by omega
            rcases hKc with hm | hm | hm
            · have hm2 : (2 : Int) ≤ (e.count : Int) - 3 := by omega
              obtain ⟨m, hmN⟩ : ∃ m, e.count - 3 = m := ⟨_, rfl⟩
              have hmi : (e.count : Int) - 3 = (m : Int) := by omega
              have hC1 : close1R (e :: r) d = (⟨3, 0, m, [clN e d], []⟩ :: r, 3) := by
                rw [close1R_cons, if_pos (by rw [hu]; omega), hu, hmN]
              have G2 := HG1.out.close hrn d
              rw [hC1] at G2
              rw [hC1] at HE2
              have HG2 := Lib.hid G2
              have HE3 : Hid (closeR f' (⟨3, 0, m, [clN e d], []⟩ :: r) (d - 3) = closeR c st c) := Lib.hid HE2.out
              obtain ⟨g, cap, xs, sq⟩ := s5
              have c0 := sq.pc
              have c1 := sq.hc
              have c2 := sq.hm
              have hxl := sq.len
              have hone := Lib.hid sq.ce.one
              have hrl : r.length ≤ 1900 := HLR.out
              have HCY : Hid (∀ W, Below w5.heap.size w5 W → ∀ j u, xs[j]? = some u → W.cell? ⟨g, j, none⟩ = some u) := Lib.hid fun W hW j u hj => (World.cell?_of_block (hW.block g sq.hg)).trans (sq.cl j u hj)
              have HN : Hid (∀ W : World, (W.alloc ON).heap[W.heap.size]? = some (Obj.cells #[Value.int .i64 5, .int .i64 0, .string ⟨#[]⟩, .slice Al e.list.length cl, .slice Aa e.args.length ca] 62)) := Lib.hid fun W => by rw [hON]; exact heap_alloc_new W ON
              have H1 : Hid (∀ b : Nat, ∀ u ∈ [Value.int .i64 3, .int .i64 0, .int .i64 (m : Int), .slice (some ⟨b, 0, none⟩) 1 1, .slice none 0 0], u.oneCell' = true) := Lib.hid fun b u hu => by
                simp only [List.mem_cons, List.not_mem_nil, or_false] at hu
                rcases hu with rfl | rfl | rfl | rfl | rfl <;> rfl
              have PC : Hid (∀ W, Below w5.heap.size w5 W → W.cell? ⟨gp, 0, none⟩ = some (.slice (some ⟨g, 0, none⟩) r.length cap) ∧ W.frozen? ⟨gp, 0, none⟩ = false) := Lib.hid fun W hW => ⟨(World.cell?_of_block (hW.block gp hgp5)).trans c0, (World.frozen?_of_block (hW.block gp hgp5)).trans sq.pz⟩
              have XB : Hid (∀ W, Below w5.heap.size w5 W → W.cell? ⟨w4.heap.size, 0, none⟩ = some (.int .i64 5) ∧ W.cell? ⟨w4.heap.size, 1, none⟩ = some (.int .i64 0) ∧ W.cell? ⟨w4.heap.size, 2, none⟩ = some (.string ⟨#[]⟩) ∧ W.cell? ⟨w4.heap.size, 3, none⟩ = some (.slice Al e.list.length cl) ∧ W.cell? ⟨w4.heap.size, 4, none⟩ = some (.slice Aa e.args.length ca)) := Lib.hid fun W hW => by
                have k := (hW.block w4.heap.size lt45).trans h5N
                exact ⟨cell_heap k rfl, cell_heap k rfl, cell_heap k rfl, cell_heap k rfl, cell_heap k rfl⟩
              have FIN : Hid (∀ (W : World) (r' n' c' base bN : Nat), Below w5.heap.size w5 W → w5.heap.size ≤ base → n' = r.length + 1 → W.ownsRow base 82 5 (.slice (some ⟨r', 0, none⟩) n' c') n' (xs ++ [.int .i64 3, .int .i64 0, .int .i64 (m : Int), .slice (some ⟨bN, 0, none⟩) 1 1, .slice none 0 0]) → W.heap[bN]? = some (Obj.cells #[Value.int .i64 5, .int .i64 0, .string ⟨#[]⟩, .slice Al e.list.length cl, .slice Aa e.args.length ca] 62) → w5.heap.size ≤ bN → SP gp (W.setCell ⟨gp, 0, none⟩ (.slice (some ⟨r', 0, none⟩) n' c')) (⟨3, 0, m, [clN e d], []⟩ :: r) ∧ Fq gp w5 (W.setCell ⟨gp, 0, none⟩ (.slice (some ⟨r', 0, none⟩) n' c'))) := Lib.hid fun W r' n' c' base bN hW hbs hn' hrow hbN hlo => by
                have hpW : W.heap[gp]? = _ := (hW.block gp hgp5).trans sq.hp
                have hk : ∀ b, b ≠ gp → (W.setCell ⟨gp, 0, none⟩ (.slice (some ⟨r', 0, none⟩) n' c')).heap[b]? = W.heap[b]? := fun b hb => heap_set_ne (fun z => hb z.symm)
                have hsW : (W.setCell ⟨gp, 0, none⟩ (.slice (some ⟨r', 0, none⟩) n' c')).heap.size = W.heap.size := World.size_setCell ..
                have hr' := own_lt hrow r' rfl
                have hFq : Fq gp w5 (W.setCell ⟨gp, 0, none⟩ (.slice (some ⟨r', 0, none⟩) n' c')) := ⟨(hW.mono (Nat.le_of_lt hgp5)).setCell (p := ⟨gp, 0, none⟩) (Nat.le_refl _) _, fun b hb1 hb2 => (hk b hb2).trans (hW.block b hb1)⟩
                have hbl := (Array.getElem?_eq_some_iff.1 hbN).1
                have hLX : LX (W.setCell ⟨gp, 0, none⟩ (.slice (some ⟨r', 0, none⟩) n' c')) (Xg gp (W.setCell ⟨gp, 0, none⟩ (.slice (some ⟨r', 0, none⟩) n' c'))) (.slice (some ⟨bN, 0, none⟩) 1 1) [clN e d] := by
                  rw [hcl]
                  exact LX.lit ((hk bN (by omega)).trans hbN) ⟨by rw [hsW]; exact hbl, by omega⟩ (by unfold Fit; omega) (by unfold Fit; omega) (hFq.lx hL5) (hFq.ax hA5) (by rw [hcl] at hszc; omega)
                refine ⟨SP.of_row (Fq.refl _ _) (by rw [heap_set hpW]; rfl) (own_keep hrow (fun b hb => by have z : r' = b := Option.some.inj hb; subst z; exact hk _ (by omega))) (by omega) hn' ⟨xs, _, rfl, sq.ce.imp hFq.x hFq.k, _, _, rfl, hLX, AX.nil _ _⟩, hFq⟩
              obtain ⟨oa, ob⟩ := PC.out (w5.alloc ON) ((Below.refl _ _).alloc (Nat.le_refl _) _)
              obtain ⟨OE1, hOE1⟩ : ∃ O, Obj.cells #[Value.int .i64 3, .int .i64 0, .int .i64 (m : Int), .slice (some ⟨w5.heap.size, 0, none⟩) 1 1, .slice none 0 0] 82 = O := ⟨_, rfl⟩
              have bN1 : Below w5.heap.size w5 (w5.alloc ON) := (Below.refl _ _).alloc (Nat.le_refl _) _
              have sN1 : (w5.alloc ON).heap.size = w5.heap.size + 1 := by simp
              have bN2 : Below w5.heap.size w5 ((w5.alloc ON).alloc OE1) := bN1.alloc (by omega) _
              have sN2 : ((w5.alloc ON).alloc OE1).heap.size = w5.heap.size + 2 := by simp
              obtain ⟨oc, od⟩ := PC.out _ bN2
              have HE1 : Hid (∀ W : World, (W.alloc OE1).heap[W.heap.size]? = some (Obj.cells #[Value.int .i64 3, .int .i64 0, .int .i64 (m : Int), .slice (some ⟨w5.heap.size, 0, none⟩) 1 1, .slice none 0 0] 82)) := Lib.hid fun W => by rw [hOE1]; exact heap_alloc_new W OE1
              have B0 := Lib.hid (show Below w5.heap.size w5 w5.drew from (Below.refl _ _).drew)
              have B1 := Lib.hid (show Below w5.heap.size w5 (w5.alloc ON).drew from bN1.drew)
              have B2 := Lib.hid (show Below w5.heap.size w5 ((w5.alloc ON).alloc OE1).drew from bN2.drew)
              have S0 := Lib.hid (show w5.drew.heap.size = w5.heap.size from rfl)
              have S1 := Lib.hid (show (w5.alloc ON).drew.heap.size = w5.heap.size + 1 from sN1)
              have S2 := Lib.hid (show ((w5.alloc ON).alloc OE1).drew.heap.size = w5.heap.size + 2 from sN2)
              clear bN1 sN1 bN2 sN2 hC1 G2 HE2 s3 hl ha b4 h4E b35 f5 h5E h5N hL5 hA5 hcl hNV b5 hu sq hszc hmN
              go_wp2_with fail
              go_region_law (first
                | (refine step_copy rfl rfl (.const (.slice none 0 0)) (.tmp 47) rfl g r.length cap w5.heap.size xs rfl rfl hxl (HCY.out _ B0.out) hone.out hr0 (by omega) S0.out ?_
                   intro cap1 wa ra ba la
                   have baa : Below w5.heap.size w5 wa := B0.out.trans ba
                   obtain ⟨y0, y1, y2, y3, y4⟩ := XB.out wa baa
                   obtain ⟨OA, hOA⟩ : ∃ O, Obj.cells #[Value.int .i64 3, .int .i64 0, .int .i64 (m : Int), .slice (some ⟨wa.heap.size, 0, none⟩) 1 1, .slice none 0 0] 82 = O := ⟨_, rfl⟩
                   have bab : Below w5.heap.size w5 ((wa.alloc ON).alloc OA) := (baa.alloc baa.size ON).alloc (by have := baa.size; simp; omega) OA
                   have raa := (ra.alloc ON).alloc OA
                   have naa : ((wa.alloc ON).alloc OA).heap[wa.heap.size + 1]? = some (Obj.cells #[Value.int .i64 3, .int .i64 0, .int .i64 (m : Int), .slice (some ⟨wa.heap.size, 0, none⟩) 1 1, .slice none 0 0] 82) := by rw [hOA]; exact heap_alloc2_new wa ON OA
                   have nan : ((wa.alloc ON).alloc OA).heap[wa.heap.size]? = some (Obj.cells #[Value.int .i64 5, .int .i64 0, .string ⟨#[]⟩, .slice Al e.list.length cl, .slice Aa e.args.length ca] 62) := (((Below.refl (wa.alloc ON).heap.size _).alloc (Nat.le_refl _) OA).block _ (by simp)).trans (HN.out wa))
                | (refine step_copy rfl rfl (.const (.slice none 0 0)) (.tmp 47) rfl g r.length cap (w5.heap.size + 1) xs rfl rfl hxl (HCY.out _ B1.out) hone.out hr0 (by omega) S1.out ?_
                   intro cap1 wb rb bb lb
                   have bba : Below w5.heap.size w5 wb := B1.out.trans (bb.mono (Nat.le_succ _)))
                | (refine step_copy rfl rfl (.const (.slice none 0 0)) (.tmp 47) rfl g r.length cap (w5.heap.size + 2) xs rfl rfl hxl (HCY.out _ B2.out) hone.out hr0 (by omega) S2.out ?_
                   intro cap1 wc rc bc lc
                   have bca : Below w5.heap.size w5 wc := B2.out.trans (bc.mono (by omega)))
                | (obtain ⟨r3, cap3, w6, g1, g2, g3, g4⟩ := run_pushG ((wa.alloc ON).alloc OA) 83 _ r.length w5.heap.size (wa.heap.size + 1) xs _ _ _ _ _ raa naa (H1.out _) (by omega) bab.size
                   refine step_run g1 rfl rfl (.tmp 48) (.tmp 53) rfl rfl rfl ?_
                   have R := FIN.out w6 r3 _ cap3 _ wa.heap.size (bab.trans g3) (Nat.le_refl _) rfl g2 ((g4 _ (by simp; omega) (fun z => by have z2 : w5.heap.size = wa.heap.size := Option.some.inj z; omega)).trans nan) baa.size
                   obtain ⟨c3, z3⟩ := PC.out w6 (bab.trans g3))
                | (obtain ⟨r3, cap3, w6, g1, g2, g3, g4⟩ := run_pushG (wb.alloc OE1) 83 _ r.length (w5.heap.size + 1) wb.heap.size xs _ _ _ _ _ (rb.alloc OE1) (HE1.out wb) (H1.out _) (by omega) (by have := bb.size; have := S1.out; simp; omega)
                   refine step_run g1 rfl rfl (.tmp 48) (.tmp 53) rfl rfl rfl ?_
                   have R := FIN.out w6 r3 _ cap3 _ w5.heap.size ((bba.alloc bba.size OE1).trans (g3.mono (Nat.le_succ _))) (Nat.le_succ _) rfl g2 ((g3.block _ (Nat.lt_succ_self _)).trans ((((Below.refl wb.heap.size wb).alloc (Nat.le_refl _) OE1).block _ (by omega)).trans ((bb.block _ (Nat.lt_succ_self _)).trans (HN.out w5)))) (Nat.le_refl _)
                   obtain ⟨c3, z3⟩ := PC.out w6 ((bba.alloc bba.size OE1).trans (g3.mono (Nat.le_succ _))))
                | (obtain ⟨r3, cap3, w6, g1, g2, g3, g4⟩ := run_pushG wc 83 _ r.length (w5.heap.size + 2) (w5.heap.size + 1) xs _ _ _ _ _ rc ((bc.block _ (Nat.lt_succ_self _)).trans (by have := HE1.out (w5.alloc ON); rwa [show (w5.alloc ON).heap.size = w5.heap.size + 1 by simp] at this)) (H1.out _) (by omega) (Nat.le_of_lt lc)
                   refine step_run g1 rfl rfl (.tmp 48) (.tmp 53) rfl rfl rfl ?_
                   have R := FIN.out w6 r3 _ cap3 _ w5.heap.size (bca.trans (g3.mono (by omega))) (by omega) rfl g2 ((g3.block _ (by omega)).trans ((bc.block _ (by omega)).trans ((((Below.refl (w5.alloc ON).heap.size _).alloc (Nat.le_refl _) OE1).block _ (by simp)).trans (HN.out w5)))) (Nat.le_refl _)
                   obtain ⟨c3, z3⟩ := PC.out w6 (bca.trans (g3.mono (by omega)))))
              all_goals
                have S7 := Lib.hid R.1
                have F7 := Lib.hid (F5.out.trans R.2)
                clear R
                go_wp2
                go_roundw
                case rel => exact ⟨f', d - 3, ⟨3, 0, m, [clN e d], []⟩ :: r, by go_num, HE3, by omega, by omega, S7, F7, HG2⟩
                case measure => simp [intOf]; omega
            · have hm2 : ¬ (2 : Int) ≤ (e.count : Int) - 3 := by omega
              have hm1 : ((e.count : Int) - 3 == 1) = true := by rw [beq_iff_eq]; omega
              have hm1' : (e.count : Int) - 3 = 1 := by omega
              have TX := Lib.hid (text_r s5 hrn ⟨#[123]⟩ (by show _ + (1 + 1) ≤ _; omega) (by have := HLR.out; omega))
              have hC1 : close1R (e :: r) d = (nodeR (textR r [123]) (clN e d), 3) := by
                rw [close1R_cons, if_neg (by rw [hu]; omega), if_pos (by rw [hu]; omega), hu]
              have G2 := HG1.out.close hrn d
              rw [hC1] at G2
              rw [hC1] at HE2
              have HG2 := Lib.hid G2
              have HE3 : Hid (closeR f' (nodeR (textR r [123]) (clN e d)) (d - 3) = closeR c st c) := Lib.hid HE2.out
              have p3 := prs_text r [123]
              simp only [List.length_cons, List.length_nil] at p3
              have NVH := Lib.hid (And.intro hNV (And.intro h5N hszc))
              have HL2 : Hid ((textR r [123]).length ≤ 1900 ∧ textR r [123] ≠ []) := Lib.hid ⟨by rw [len_textR]; exact HLR.out, fun z => by have := len_textR r [123]; rw [z] at this; simp at this; omega⟩
              clear hC1 G2 HE2 s3 hl ha b4 h4E b35 s5 f5 h5E h5N hL5 hA5 hcl hNV b5 hu
              go_wp2_with fail
              refine TX.out.mono ?_
              rintro x w6 ⟨rfl, s6, f6⟩
              obtain ⟨hNV, h5N, hszc⟩ := NVH.out
              have h6N := (f6.kp w4.heap.size lt45 (by omega)).trans h5N
              have n0 : w6.cell? ⟨w4.heap.size, 0, none⟩ = some (.int .i64 5) := cell_heap h6N rfl
              have n1 : w6.cell? ⟨w4.heap.size, 1, none⟩ = some (.int .i64 0) := cell_heap h6N rfl
              have n2 : w6.cell? ⟨w4.heap.size, 2, none⟩ = some (.string ⟨#[]⟩) := cell_heap h6N rfl
              have n3 : w6.cell? ⟨w4.heap.size, 3, none⟩ = some (.slice Al e.list.length cl) := cell_heap h6N rfl
              have n4 : w6.cell? ⟨w4.heap.size, 4, none⟩ = some (.slice Aa e.args.length ca) := cell_heap h6N rfl
              have ND := Lib.hid (node_r (st := textR r [123]) s6 HL2.out.2 (hNV.imp f6.x f6.k) (by omega) (by have := HL2.out.1; omega))
              have F6 := Lib.hid (F5.out.trans f6)
              clear s6 f6 TX hNV h5N h6N
              go_wp2_with fail
              refine ND.out.mono ?_
              rintro x w7 ⟨rfl, s7, f7⟩
              have S7 := Lib.hid s7
              have F7 := Lib.hid (F6.out.trans f7)
              clear s7 f7 ND
              go_wp2
              go_roundw
              case rel => exact ⟨f', d - 3, nodeR (textR r [123]) (clN e d), by go_num, HE3, by omega, by omega, S7, F7, HG2⟩
              case measure => simp [intOf]; omega
            · have hm2 : ¬ (2 : Int) ≤ (e.count : Int) - 3 := by omega
              have hm1 : ((e.count : Int) - 3 == 1) = false := by rw [beq_eq_false_iff_ne]; omega
              have ND := Lib.hid (node_r s5 hrn hNV (by omega) (by have := HLR.out; omega))
              have hC1 : close1R (e :: r) d = (nodeR r (clN e d), 3) := by
                rw [close1R_cons, if_neg (by rw [hu]; omega), if_neg (by rw [hu]; omega), hu]
              have G2 := HG1.out.close hrn d
              rw [hC1] at G2
              rw [hC1] at HE2
              have HG2 := Lib.hid G2
              have HE3 : Hid (closeR f' (nodeR r (clN e d)) (d - 3) = closeR c st c) := Lib.hid HE2.out
              clear hC1 G2 HE2 s3 hl ha b4 h4E b35 s5 f5 h5E h5N hL5 hA5 hcl hNV hszc b5 hu
              go_wp2_with fail
              refine ND.out.mono ?_
              rintro x w6 ⟨rfl, s6, f6⟩
              have S6 := Lib.hid s6
              have F6 := Lib.hid (F5.out.trans f6)
              clear s6 f6 ND
              go_wp2
              go_roundw
              case rel => exact ⟨f', d - 3, nodeR r (clN e d), by go_num, HE3, by omega, by omega, S6, F6, HG2⟩
              case measure => simp [intOf]; omega
          · have hu : usedR e d = 2 := if_neg (fun z => h3c z.2)
            have i1 : (3 : Int) ≤ (d : Int) := by omega
            have i2 : ¬ (3 : Int) ≤ (e.count : Int) := by omega
            obtain ⟨ON, hON⟩ : ∃ O, Obj.cells #[Value.int .i64 4, .int .i64 0, .string ⟨#[]⟩, .slice Al e.list.length cl, .slice Aa e.args.length ca] 62 = O := ⟨_, rfl⟩
            obtain ⟨w5, hw5⟩ : ∃ w5, w4.alloc ON = w5 := ⟨_, rfl⟩
            have b5 : Below w4.heap.size w4 w5 := by rw [← hw5]; exact (Below.refl _ _).alloc (Nat.le_refl _) _
            have h5N : w5.heap[w4.heap.size]? = some ON := by rw [← hw5]; exact heap_alloc_new w4 ON
            rw [← hON] at h5N
            have lt45 := (Array.getElem?_eq_some_iff.1 h5N).1
            obtain ⟨s3, hl, ha, b4, h4E⟩ := HS3.out
            have b35 : Below w3.heap.size w3 w5 := b4.trans (b5.mono b4.size)
            obtain ⟨s5, f5⟩ := s3.keep b35
            have h5E := (b5.block _ lt34).trans h4E
            have q2' : w5.cell? ⟨w3.heap.size, 2, none⟩ = some (.int .i64 e.count) := cell_heap h5E rfl
            have n0 : w5.cell? ⟨w4.heap.size, 0, none⟩ = some (.int .i64 4) := cell_heap h5N rfl
            have n1 : w5.cell? ⟨w4.heap.size, 1, none⟩ = some (.int .i64 0) := cell_heap h5N rfl
            have n2 : w5.cell? ⟨w4.heap.size, 2, none⟩ = some (.string ⟨#[]⟩) := cell_heap h5N rfl
            have n3 : w5.cell? ⟨w4.heap.size, 3, none⟩ = some (.slice Al e.list.length cl) := cell_heap h5N rfl
            have n4 : w5.cell? ⟨w4.heap.size, 4, none⟩ = some (.slice Aa e.args.length ca) := cell_heap h5N rfl
            have hL5 := f5.lx hl
            have hA5 := f5.ax ha
            have hgp5 := s5.glt
            have hgp3 := s3.glt
            have hcl : clN e d = .mk 4 0 ⟨#[]⟩ e.list e.args := by unfold clN; rw [hu]; rfl
            have hNV : NV w5 (Xg gp w5) (.agg #[.int .i64 4, .int .i64 0, .string ⟨#[]⟩, .slice Al e.list.length cl, .slice Aa e.args.length ca]) (clN e d) := by
              rw [hcl]; exact ⟨_, _, rfl, hL5, hA5, by show Fit 4; unfold Fit; omega, by show Fit 0; unfold Fit; omega⟩
            have hszc := szN_cl e d
            have F5 := Lib.hid (F3.out.trans f5)
            have hm2 : ¬ (2 : Int) ≤ (e.count : Int) - 2 := by omega
            have hm1 : ((e.count : Int) - 2 == 1) = false := by rw [beq_eq_false_iff_ne]; omega
            have ND := Lib.hid (node_r s5 hrn hNV (by omega) (by have := HLR.out; omega))
            have hC1 : close1R (e :: r) d = (nodeR r (clN e d), 2) := by
              rw [close1R_cons, if_neg (by rw [hu]; omega), if_neg (by rw [hu]; omega), hu]
            have G2 := HG1.out.close hrn d
            rw [hC1] at G2
            rw [hC1] at HE2
            have HG2 := Lib.hid G2
            have HE3 : Hid (closeR f' (nodeR r (clN e d)) (d - 2) = closeR c st c) := Lib.hid HE2.out
            clear hC1 G2 HE2 s3 hl ha b4 h4E b35 s5 f5 h5E h5N hL5 hA5 hcl hNV hszc b5 hu
            go_wp2_with fail
            refine ND.out.mono ?_
            rintro x w6 ⟨rfl, s6, f6⟩
            have S6 := Lib.hid s6
            have F6 := Lib.hid (F5.out.trans f6)
            clear s6 f6 ND
            go_wp2
            go_roundw
            case rel => exact ⟨f', d - 2, nodeR r (clN e d), by go_num, HE3, by omega, by omega, S6, F6, HG2⟩
            case measure => simp [intOf]; omega
        · have hu : usedR e d = 2 := if_neg (fun z => h3d z.1)
          have i1 : ¬ (3 : Int) ≤ (d : Int) := by omega
          obtain ⟨ON, hON⟩ : ∃ O, Obj.cells #[Value.int .i64 4, .int .i64 0, .string ⟨#[]⟩, .slice Al e.list.length cl, .slice Aa e.args.length ca] 62 = O := ⟨_, rfl⟩
          obtain ⟨w5, hw5⟩ : ∃ w5, w4.alloc ON = w5 := ⟨_, rfl⟩
          have b5 : Below w4.heap.size w4 w5 := by rw [← hw5]; exact (Below.refl _ _).alloc (Nat.le_refl _) _
          have h5N : w5.heap[w4.heap.size]? = some ON := by rw [← hw5]; exact heap_alloc_new w4 ON
          rw [← hON] at h5N
          have lt45 := (Array.getElem?_eq_some_iff.1 h5N).1
          obtain ⟨s3, hl, ha, b4, h4E⟩ := HS3.out
          have b35 : Below w3.heap.size w3 w5 := b4.trans (b5.mono b4.size)
          obtain ⟨s5, f5⟩ := s3.keep b35
          have h5E := (b5.block _ lt34).trans h4E
          have q2' : w5.cell? ⟨w3.heap.size, 2, none⟩ = some (.int .i64 e.count) := cell_heap h5E rfl
          have n0 : w5.cell? ⟨w4.heap.size, 0, none⟩ = some (.int .i64 4) := cell_heap h5N rfl
          have n1 : w5.cell? ⟨w4.heap.size, 1, none⟩ = some (.int .i64 0) := cell_heap h5N rfl
          have n2 : w5.cell? ⟨w4.heap.size, 2, none⟩ = some (.string ⟨#[]⟩) := cell_heap h5N rfl
          have n3 : w5.cell? ⟨w4.heap.size, 3, none⟩ = some (.slice Al e.list.length cl) := cell_heap h5N rfl
          have n4 : w5.cell? ⟨w4.heap.size, 4, none⟩ = some (.slice Aa e.args.length ca) := cell_heap h5N rfl
          have hL5 := f5.lx hl
          have hA5 := f5.ax ha
          have hgp5 := s5.glt
          have hgp3 := s3.glt
          have hcl : clN e d = .mk 4 0 ⟨#[]⟩ e.list e.args := by unfold clN; rw [hu]; rfl
          have hNV : NV w5 (Xg gp w5) (.agg #[.int .i64 4, .int .i64 0, .string ⟨#[]⟩, .slice Al e.list.length cl, .slice Aa e.args.length ca]) (clN e d) := by
            rw [hcl]; exact ⟨_, _, rfl, hL5, hA5, by show Fit 4; unfold Fit; omega, by show Fit 0; unfold Fit; omega⟩
          have hszc := szN_cl e d
          have F5 := Lib.hid (F3.out.trans f5)
          have hKc : 2 ≤ e.count - 2 ∨ e.count - 2 = 1 ∨ e.count - 2 = 0 := by omega
          rcases hKc with hm | hm | hm
          · have hm2 : (2 : Int) ≤ (e.count : Int) - 2 := by omega
            obtain ⟨m, hmN⟩ : ∃ m, e.count - 2 = m := ⟨_, rfl⟩
            have hmi : (e.count : Int) - 2 = (m : Int) := by omega
            have hC1 : close1R (e :: r) d = (⟨3, 0, m, [clN e d], []⟩ :: r, 2) := by
              rw [close1R_cons, if_pos (by rw [hu]; omega), hu, hmN]
            have G2 := HG1.out.close hrn d
            rw [hC1] at G2
            rw [hC1] at HE2
            have HG2 := Lib.hid G2
            have HE3 : Hid (closeR f' (⟨3, 0, m, [clN e d], []⟩ :: r) (d - 2) = closeR c st c) := Lib.hid HE2.out
            obtain ⟨g, cap, xs, sq⟩ := s5
            have c0 := sq.pc
            have c1 := sq.hc
            have c2 := sq.hm
            have hxl := sq.len
            have hone := Lib.hid sq.ce.one
            have hrl : r.length ≤ 1900 := HLR.out
            have HCY : Hid (∀ W, Below w5.heap.size w5 W → ∀ j u, xs[j]? = some u → W.cell? ⟨g, j, none⟩ = some u) := Lib.hid fun W hW j u hj => (World.cell?_of_block (hW.block g sq.hg)).trans (sq.cl j u hj)
            have HN : Hid (∀ W : World, (W.alloc ON).heap[W.heap.size]? = some (Obj.cells #[Value.int .i64 4, .int .i64 0, .string ⟨#[]⟩, .slice Al e.list.length cl, .slice Aa e.args.length ca] 62)) := Lib.hid fun W => by rw [hON]; exact heap_alloc_new W ON
            have H1 : Hid (∀ b : Nat, ∀ u ∈ [Value.int .i64 3, .int .i64 0, .int .i64 (m : Int), .slice (some ⟨b, 0, none⟩) 1 1, .slice none 0 0], u.oneCell' = true) := Lib.hid fun b u hu => by
              simp only [List.mem_cons, List.not_mem_nil, or_false] at hu
              rcases hu with rfl | rfl | rfl | rfl | rfl <;> rfl
            have PC : Hid (∀ W, Below w5.heap.size w5 W → W.cell? ⟨gp, 0, none⟩ = some (.slice (some ⟨g, 0, none⟩) r.length cap) ∧ W.frozen? ⟨gp, 0, none⟩ = false) := Lib.hid fun W hW => ⟨(World.cell?_of_block (hW.block gp hgp5)).trans c0, (World.frozen?_of_block (hW.block gp hgp5)).trans sq.pz⟩
            have XB : Hid (∀ W, Below w5.heap.size w5 W → W.cell? ⟨w4.heap.size, 0, none⟩ = some (.int .i64 4) ∧ W.cell? ⟨w4.heap.size, 1, none⟩ = some (.int .i64 0) ∧ W.cell? ⟨w4.heap.size, 2, none⟩ = some (.string ⟨#[]⟩) ∧ W.cell? ⟨w4.heap.size, 3, none⟩ = some (.slice Al e.list.length cl) ∧ W.cell? ⟨w4.heap.size, 4, none⟩ = some (.slice Aa e.args.length ca)) := Lib.hid fun W hW => by
              have k := (hW.block w4.heap.size lt45).trans h5N
              exact ⟨cell_heap k rfl, cell_heap k rfl, cell_heap k rfl, cell_heap k rfl, cell_heap k rfl⟩
            have FIN : Hid (∀ (W : World) (r' n' c' base bN : Nat), Below w5.heap.size w5 W → w5.heap.size ≤ base → n' = r.length + 1 → W.ownsRow base 82 5 (.slice (some ⟨r', 0, none⟩) n' c') n' (xs ++ [.int .i64 3, .int .i64 0, .int .i64 (m : Int), .slice (some ⟨bN, 0, none⟩) 1 1, .slice none 0 0]) → W.heap[bN]? = some (Obj.cells #[Value.int .i64 4, .int .i64 0, .string ⟨#[]⟩, .slice Al e.list.length cl, .slice Aa e.args.length ca] 62) → w5.heap.size ≤ bN → SP gp (W.setCell ⟨gp, 0, none⟩ (.slice (some ⟨r', 0, none⟩) n' c')) (⟨3, 0, m, [clN e d], []⟩ :: r) ∧ Fq gp w5 (W.setCell ⟨gp, 0, none⟩ (.slice (some ⟨r', 0, none⟩) n' c'))) := Lib.hid fun W r' n' c' base bN hW hbs hn' hrow hbN hlo => by
              have hpW : W.heap[gp]? = _ := (hW.block gp hgp5).trans sq.hp
              have hk : ∀ b, b ≠ gp → (W.setCell ⟨gp, 0, none⟩ (.slice (some ⟨r', 0, none⟩) n' c')).heap[b]? = W.heap[b]? := fun b hb => heap_set_ne (fun z => hb z.symm)
              have hsW : (W.setCell ⟨gp, 0, none⟩ (.slice (some ⟨r', 0, none⟩) n' c')).heap.size = W.heap.size := World.size_setCell ..
              have hr' := own_lt hrow r' rfl
              have hFq : Fq gp w5 (W.setCell ⟨gp, 0, none⟩ (.slice (some ⟨r', 0, none⟩) n' c')) := ⟨(hW.mono (Nat.le_of_lt hgp5)).setCell (p := ⟨gp, 0, none⟩) (Nat.le_refl _) _, fun b hb1 hb2 => (hk b hb2).trans (hW.block b hb1)⟩
              have hbl := (Array.getElem?_eq_some_iff.1 hbN).1
              have hLX : LX (W.setCell ⟨gp, 0, none⟩ (.slice (some ⟨r', 0, none⟩) n' c')) (Xg gp (W.setCell ⟨gp, 0, none⟩ (.slice (some ⟨r', 0, none⟩) n' c'))) (.slice (some ⟨bN, 0, none⟩) 1 1) [clN e d] := by
                rw [hcl]
                exact LX.lit ((hk bN (by omega)).trans hbN) ⟨by rw [hsW]; exact hbl, by omega⟩ (by unfold Fit; omega) (by unfold Fit; omega) (hFq.lx hL5) (hFq.ax hA5) (by rw [hcl] at hszc; omega)
              refine ⟨SP.of_row (Fq.refl _ _) (by rw [heap_set hpW]; rfl) (own_keep hrow (fun b hb => by have z : r' = b := Option.some.inj hb; subst z; exact hk _ (by omega))) (by omega) hn' ⟨xs, _, rfl, sq.ce.imp hFq.x hFq.k, _, _, rfl, hLX, AX.nil _ _⟩, hFq⟩
            obtain ⟨oa, ob⟩ := PC.out (w5.alloc ON) ((Below.refl _ _).alloc (Nat.le_refl _) _)
            obtain ⟨OE1, hOE1⟩ : ∃ O, Obj.cells #[Value.int .i64 3, .int .i64 0, .int .i64 (m : Int), .slice (some ⟨w5.heap.size, 0, none⟩) 1 1, .slice none 0 0] 82 = O := ⟨_, rfl⟩
            have bN1 : Below w5.heap.size w5 (w5.alloc ON) := (Below.refl _ _).alloc (Nat.le_refl _) _
            have sN1 : (w5.alloc ON).heap.size = w5.heap.size + 1 := by simp
            have bN2 : Below w5.heap.size w5 ((w5.alloc ON).alloc OE1) := bN1.alloc (by omega) _
            have sN2 : ((w5.alloc ON).alloc OE1).heap.size = w5.heap.size + 2 := by simp
            obtain ⟨oc, od⟩ := PC.out _ bN2
            have HE1 : Hid (∀ W : World, (W.alloc OE1).heap[W.heap.size]? = some (Obj.cells #[Value.int .i64 3, .int .i64 0, .int .i64 (m : Int), .slice (some ⟨w5.heap.size, 0, none⟩) 1 1, .slice none 0 0] 82)) := Lib.hid fun W => by rw [hOE1]; exact heap_alloc_new W OE1
            have B0 := Lib.hid (show Below w5.heap.size w5 w5.drew from (Below.refl _ _).drew)
            have B1 := Lib.hid (show Below w5.heap.size w5 (w5.alloc ON).drew from bN1.drew)
            have B2 := Lib.hid (show Below w5.heap.size w5 ((w5.alloc ON).alloc OE1).drew from bN2.drew)
            have S0 := Lib.hid (show w5.drew.heap.size = w5.heap.size from rfl)
            have S1 := Lib.hid (show (w5.alloc ON).drew.heap.size = w5.heap.size + 1 from sN1)
            have S2 := Lib.hid (show ((w5.alloc ON).alloc OE1).drew.heap.size = w5.heap.size + 2 from sN2)
            clear bN1 sN1 bN2 sN2 hC1 G2 HE2 s3 hl ha b4 h4E b35 f5 h5E h5N hL5 hA5 hcl hNV b5 hu sq hszc hmN
            go_wp2_with fail
            go_region_law (first
              | (refine step_copy rfl rfl (.const (.slice none 0 0)) (.tmp 47) rfl g r.length cap w5.heap.size xs rfl rfl hxl (HCY.out _ B0.out) hone.out hr0 (by omega) S0.out ?_
                 intro cap1 wa ra ba la
                 have baa : Below w5.heap.size w5 wa := B0.out.trans ba
                 obtain ⟨y0, y1, y2, y3, y4⟩ := XB.out wa baa
                 obtain ⟨OA, hOA⟩ : ∃ O, Obj.cells #[Value.int .i64 3, .int .i64 0, .int .i64 (m : Int), .slice (some ⟨wa.heap.size, 0, none⟩) 1 1, .slice none 0 0] 82 = O := ⟨_, rfl⟩
                 have bab : Below w5.heap.size w5 ((wa.alloc ON).alloc OA) := (baa.alloc baa.size ON).alloc (by have := baa.size; simp; omega) OA
                 have raa := (ra.alloc ON).alloc OA
                 have naa : ((wa.alloc ON).alloc OA).heap[wa.heap.size + 1]? = some (Obj.cells #[Value.int .i64 3, .int .i64 0, .int .i64 (m : Int), .slice (some ⟨wa.heap.size, 0, none⟩) 1 1, .slice none 0 0] 82) := by rw [hOA]; exact heap_alloc2_new wa ON OA
                 have nan : ((wa.alloc ON).alloc OA).heap[wa.heap.size]? = some (Obj.cells #[Value.int .i64 4, .int .i64 0, .string ⟨#[]⟩, .slice Al e.list.length cl, .slice Aa e.args.length ca] 62) := (((Below.refl (wa.alloc ON).heap.size _).alloc (Nat.le_refl _) OA).block _ (by simp)).trans (HN.out wa))
              | (refine step_copy rfl rfl (.const (.slice none 0 0)) (.tmp 47) rfl g r.length cap (w5.heap.size + 1) xs rfl rfl hxl (HCY.out _ B1.out) hone.out hr0 (by omega) S1.out ?_
                 intro cap1 wb rb bb lb
                 have bba : Below w5.heap.size w5 wb := B1.out.trans (bb.mono (Nat.le_succ _)))
              | (refine step_copy rfl rfl (.const (.slice none 0 0)) (.tmp 47) rfl g r.length cap (w5.heap.size + 2) xs rfl rfl hxl (HCY.out _ B2.out) hone.out hr0 (by omega) S2.out ?_
                 intro cap1 wc rc bc lc
                 have bca : Below w5.heap.size w5 wc := B2.out.trans (bc.mono (by omega)))
              | (obtain ⟨r3, cap3, w6, g1, g2, g3, g4⟩ := run_pushG ((wa.alloc ON).alloc OA) 83 _ r.length w5.heap.size (wa.heap.size + 1) xs _ _ _ _ _ raa naa (H1.out _) (by omega) bab.size
                 refine step_run g1 rfl rfl (.tmp 48) (.tmp 53) rfl rfl rfl ?_
                 have R := FIN.out w6 r3 _ cap3 _ wa.heap.size (bab.trans g3) (Nat.le_refl _) rfl g2 ((g4 _ (by simp; omega) (fun z => by have z2 : w5.heap.size = wa.heap.size := Option.some.inj z; omega)).trans nan) baa.size
                 obtain ⟨c3, z3⟩ := PC.out w6 (bab.trans g3))
              | (obtain ⟨r3, cap3, w6, g1, g2, g3, g4⟩ := run_pushG (wb.alloc OE1) 83 _ r.length (w5.heap.size + 1) wb.heap.size xs _ _ _ _ _ (rb.alloc OE1) (HE1.out wb) (H1.out _) (by omega) (by have := bb.size; have := S1.out; simp; omega)
                 refine step_run g1 rfl rfl (.tmp 48) (.tmp 53) rfl rfl rfl ?_
                 have R := FIN.out w6 r3 _ cap3 _ w5.heap.size ((bba.alloc bba.size OE1).trans (g3.mono (Nat.le_succ _))) (Nat.le_succ _) rfl g2 ((g3.block _ (Nat.lt_succ_self _)).trans ((((Below.refl wb.heap.size wb).alloc (Nat.le_refl _) OE1).block _ (by omega)).trans ((bb.block _ (Nat.lt_succ_self _)).trans (HN.out w5)))) (Nat.le_refl _)
                 obtain ⟨c3, z3⟩ := PC.out w6 ((bba.alloc bba.size OE1).trans (g3.mono (Nat.le_succ _))))
              | (obtain ⟨r3, cap3, w6, g1, g2, g3, g4⟩ := run_pushG wc 83 _ r.length (w5.heap.size + 2) (w5.heap.size + 1) xs _ _ _ _ _ rc ((bc.block _ (Nat.lt_succ_self _)).trans (by have := HE1.out (w5.alloc ON); rwa [show (w5.alloc ON).heap.size = w5.heap.size + 1 by simp] at this)) (H1.out _) (by omega) (Nat.le_of_lt lc)
                 refine step_run g1 rfl rfl (.tmp 48) (.tmp 53) rfl rfl rfl ?_
                 have R := FIN.out w6 r3 _ cap3 _ w5.heap.size (bca.trans (g3.mono (by omega))) (by omega) rfl g2 ((g3.block _ (by omega)).trans ((bc.block _ (by omega)).trans ((((Below.refl (w5.alloc ON).heap.size _).alloc (Nat.le_refl _) OE1).block _ (by simp)).trans (HN.out w5)))) (Nat.le_refl _)
                 obtain ⟨c3, z3⟩ := PC.out w6 (bca.trans (g3.mono (by omega)))))
            all_goals
              have S7 := Lib.hid R.1
              have F7 := Lib.hid (F5.out.trans R.2)
              clear R
              go_wp2
              go_roundw
              case rel => exact ⟨f', d - 2, ⟨3, 0, m, [clN e d], []⟩ :: r, by go_num, HE3, by omega, by omega, S7, F7, HG2⟩
              case measure => simp [intOf]; omega
          · have hm2 : ¬ (2 : Int) ≤ (e.count : Int) - 2 := by omega
            have hm1 : ((e.count : Int) - 2 == 1) = true := by rw [beq_iff_eq]; omega
            have hm1' : (e.count : Int) - 2 = 1 := by omega
            have TX := Lib.hid (text_r s5 hrn ⟨#[123]⟩ (by show _ + (1 + 1) ≤ _; omega) (by have := HLR.out; omega))
            have hC1 : close1R (e :: r) d = (nodeR (textR r [123]) (clN e d), 2) := by
              rw [close1R_cons, if_neg (by rw [hu]; omega), if_pos (by rw [hu]; omega), hu]
            have G2 := HG1.out.close hrn d
            rw [hC1] at G2
            rw [hC1] at HE2
            have HG2 := Lib.hid G2
            have HE3 : Hid (closeR f' (nodeR (textR r [123]) (clN e d)) (d - 2) = closeR c st c) := Lib.hid HE2.out
            have p3 := prs_text r [123]
            simp only [List.length_cons, List.length_nil] at p3
            have NVH := Lib.hid (And.intro hNV (And.intro h5N hszc))
            have HL2 : Hid ((textR r [123]).length ≤ 1900 ∧ textR r [123] ≠ []) := Lib.hid ⟨by rw [len_textR]; exact HLR.out, fun z => by have := len_textR r [123]; rw [z] at this; simp at this; omega⟩
            clear hC1 G2 HE2 s3 hl ha b4 h4E b35 s5 f5 h5E h5N hL5 hA5 hcl hNV b5 hu
            go_wp2_with fail
            refine TX.out.mono ?_
            rintro x w6 ⟨rfl, s6, f6⟩
            obtain ⟨hNV, h5N, hszc⟩ := NVH.out
            have h6N := (f6.kp w4.heap.size lt45 (by omega)).trans h5N
            have n0 : w6.cell? ⟨w4.heap.size, 0, none⟩ = some (.int .i64 4) := cell_heap h6N rfl
            have n1 : w6.cell? ⟨w4.heap.size, 1, none⟩ = some (.int .i64 0) := cell_heap h6N rfl
            have n2 : w6.cell? ⟨w4.heap.size, 2, none⟩ = some (.string ⟨#[]⟩) := cell_heap h6N rfl
            have n3 : w6.cell? ⟨w4.heap.size, 3, none⟩ = some (.slice Al e.list.length cl) := cell_heap h6N rfl
            have n4 : w6.cell? ⟨w4.heap.size, 4, none⟩ = some (.slice Aa e.args.length ca) := cell_heap h6N rfl
            have ND := Lib.hid (node_r (st := textR r [123]) s6 HL2.out.2 (hNV.imp f6.x f6.k) (by omega) (by have := HL2.out.1; omega))
            have F6 := Lib.hid (F5.out.trans f6)
            clear s6 f6 TX hNV h5N h6N
            go_wp2_with fail
            refine ND.out.mono ?_
            rintro x w7 ⟨rfl, s7, f7⟩
            have S7 := Lib.hid s7
            have F7 := Lib.hid (F6.out.trans f7)
            clear s7 f7 ND
            go_wp2
            go_roundw
            case rel => exact ⟨f', d - 2, nodeR (textR r [123]) (clN e d), by go_num, HE3, by omega, by omega, S7, F7, HG2⟩
            case measure => simp [intOf]; omega
          · have hm2 : ¬ (2 : Int) ≤ (e.count : Int) - 2 := by omega
            have hm1 : ((e.count : Int) - 2 == 1) = false := by rw [beq_eq_false_iff_ne]; omega
            have ND := Lib.hid (node_r s5 hrn hNV (by omega) (by have := HLR.out; omega))
            have hC1 : close1R (e :: r) d = (nodeR r (clN e d), 2) := by
              rw [close1R_cons, if_neg (by rw [hu]; omega), if_neg (by rw [hu]; omega), hu]
            have G2 := HG1.out.close hrn d
            rw [hC1] at G2
            rw [hC1] at HE2
            have HG2 := Lib.hid G2
            have HE3 : Hid (closeR f' (nodeR r (clN e d)) (d - 2) = closeR c st c) := Lib.hid HE2.out
            clear hC1 G2 HE2 s3 hl ha b4 h4E b35 s5 f5 h5E h5N hL5 hA5 hcl hNV hszc b5 hu
            go_wp2_with fail
            refine ND.out.mono ?_
            rintro x w6 ⟨rfl, s6, f6⟩
            have S6 := Lib.hid s6
            have F6 := Lib.hid (F5.out.trans f6)
            clear s6 f6 ND
            go_wp2
            go_roundw
            case rel => exact ⟨f', d - 2, nodeR r (clN e d), by go_num, HE3, by omega, by omega, S6, F6, HG2⟩
            case measure => simp [intOf]; omega
    · have h2i : ¬ (2 : Int) ≤ (d : Int) := by omega
      have HE2 : Hid (textR s (List.replicate d 125) = closeR c st c) := Lib.hid (by
        rw [← he.out]
        cases f with
        | zero => rfl
        | succ f => rw [closeR, if_pos (by omega)])
      have BR := Lib.hid (braces_r d 125 wr (by omega))
      go_wp2_with fail
      refine BR.out.mono ?_
      rintro x w2 ⟨S, rfl, hSl, b2⟩
      obtain ⟨s2, f2⟩ := hs.out.keep b2
      have hSz : S.size = d := by
        have q2 : S.size = S.data.toList.length := rfl
        rw [q2, hSl, List.length_replicate]
      have hpz := hg.out.pz
      have TX := Lib.hid (text_r s2 hg.out.rt.ne S (by omega) (by omega))
      have HSL := Lib.hid hSl
      have F2 := Lib.hid (hf.out.trans f2)
      clear s2 f2 b2 BR hSl hSz hpz
      go_wp2_with fail
      refine TX.out.mono ?_
      rintro x w3 ⟨rfl, s3, f3⟩
      rw [HSL.out, HE2.out] at s3
      have R := Lib.hid (And.intro s3 (F2.out.trans f3))
      clear s3 f3
      go_wp2_with fail
      go_end0
      exact ⟨rfl, R.out⟩
end
end Go.Proofs.YtdojbnngdlmbgaaGreatDoor.Pa
