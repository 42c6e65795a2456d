/-
  The contract of closeTag.
  The contract of closeBrace.
  The contract of closeBraces.
  The contract of withinNowiki.
  The contract of take.
-/
import Derived.Test.YtdojbnngdlmbgaaGreatDoorPaD
import Derived.Test.YtdojbnngdlmbgaaGreatDoorTrJl
namespace Go.Proofs.YtdojbnngdlmbgaaGreatDoor.Pa
open Go.RowKit Go.Proofs.YtdojbnngdlmbgaaGreatDoor.Tr
set_option linter.unusedVariables false

section
variable {lo gp : Nat} {w : World} {M : List Nat} {st : List El}
set_option maxRecDepth 100000 in
set_option maxHeartbeats 8000000 in
theorem closeTag_any (h : St lo gp w M st) (hi : Inv st) (s : List UInt8) (t : Int) (hl : ph st ≤ 4194304) (hs : s.length ≤ 1048576) (hst : st.length ≤ 1000) : Calls Tryz.prog 66 #[.pointer (some ⟨gp, 0, none⟩), .string ⟨s.toArray⟩, .int .i64 t] w fun x w' => x = .returned (.tuple #[]) ∧ ∃ M', St lo gp w' M' (tagEnd st s t) ∧ Fr lo w M w' M' := by
  have H := Lib.hid h; clear h
  have HAT := Lib.hid (ltag_at t st)
  have HI := Lib.hid hi
  clear hi
  go_enter Tryz.func66, Tryz.ntmps66
  go_wp2_with fail
  refine (lastTag_any H.out hst t).mono ?_
  rintro x w1 ⟨rfl, hb⟩
  have S1 := Lib.hid (H.out.keep hb)
  clear hb
  obtain ⟨q, hq⟩ : ∃ q, tagAt t st = q := ⟨_, rfl⟩
  have HQ := Lib.hid hq
  clear hq
  cases q with
  | none =>
    have h0 : ltag t (tops st) = 0 := by rw [HAT.out, HQ.out]
    rw [h0]
    clear h0 HAT
    go_wp2_with fail
    refine (appendText_any S1.out.1 HI.out.ne s hl (by omega)).mono ?_
    rintro x w2 ⟨rfl, M', h1, h2⟩
    have R := Lib.hid (And.intro h1 (S1.out.2.trans h2))
    clear h1 h2 S1 H
    go_wp2_with fail
    refine bodyPost_ret (results_none rfl _ _ _) rfl ?_
    exact ⟨rfl, M', by unfold tagEnd; rw [HQ.out]; exact R.out.1, R.out.2⟩
  | some i =>
    obtain ⟨a, e, r, h0, hai, he, hir, hpf, htf, halt⟩ : ∃ a e r, ltag t (tops st) = a + 1 ∧ st.length - 1 - (a + 1) = i ∧ flats i st = e :: r ∧ Inv r ∧ ph (e :: r) ≤ 4194304 ∧ Fit e.tag ∧ a + 1 < st.length := by
      have hi := HI.out
      have hq := HQ.out
      have hlt := tagAt_lt t hi hq
      have hi2 := hi.flats i (by omega)
      have hfl := flats_len i st
      obtain ⟨e, r, he, hok, hk0, hir⟩ := top2 hi2 (by omega)
      have hta := tagAt_flats hi hq
      rw [he] at hta
      obtain ⟨hk2, htt⟩ := tag_top hta
      have htf := (hok.k2 hk2).2
      have hpf := Nat.le_trans (ph_flats i st) hl
      rw [he] at hpf
      have hat := HAT.out
      rw [hq] at hat
      simp only at hat
      exact ⟨st.length - 2 - i, e, r, by rw [hat]; omega, by omega, he, hir, hpf, by unfold Fit; omega, by omega⟩
    rw [h0]
    have HE := Lib.hid (And.intro hai he)
    have HIR := Lib.hid hir
    clear h0 hai he hir HAT HI
    go_wp2_with fail
    refine (flattenAbove_any S1.out.1 (a + 1) halt hst hl).mono ?_
    rintro x w2 ⟨rfl, M2, s2, f2⟩
    rw [HE.out.1, HE.out.2] at s2
    have S2 := Lib.hid (And.intro s2 (S1.out.2.trans f2))
    clear s2 f2 S1 H
    go_wp2_with fail
    refine (pop_st S2.out.1 hpf).mono ?_
    rintro x w3 ⟨vn, va, M3, rfl, s3, f3, n3, a3⟩
    obtain ⟨An, cn, rfl⟩ := n3.form
    obtain ⟨Aa, ca, rfl⟩ := a3.form
    obtain ⟨OE, hOE⟩ : ∃ O, Obj.cells #[Value.int .i64 e.kind, .string ⟨e.op.toArray⟩, .int .i64 e.tag, Value.slice An e.nodes.length cn, Value.slice Aa e.args.length ca] 67 = O := ⟨_, rfl⟩
    obtain ⟨ON, hON⟩ : ∃ O, Obj.cells #[Value.int .i64 6, .int .i64 e.tag, .string ⟨#[]⟩, Value.slice An e.nodes.length cn, .slice none 0 0] 62 = O := ⟨_, rfl⟩
    have F3 := Lib.hid (s3.fresh OE)
    have F4 := Lib.hid (F3.out.1.fresh ON)
    have hbE : (w3.alloc OE).heap[w3.heap.size]? = some OE := heap_alloc_new w3 OE
    have e2 : (w3.alloc OE).cell? ⟨w3.heap.size, 2, none⟩ = some (Value.int .i64 e.tag) := cell_heap (by rw [hbE, ← hOE]) rfl
    have e3 : (w3.alloc OE).cell? ⟨w3.heap.size, 3, none⟩ = some (Value.slice An e.nodes.length cn) := cell_heap (by rw [hbE, ← hOE]) rfl
    have N4 := Lib.hid (F4.out.2.1.lx (F3.out.2.1.lx n3))
    have hz : szN (.mk 6 e.tag ⟨#[]⟩ e.nodes []) ≤ 16777216 := by
      rw [ph, phE] at hpf
      rw [szN_eq]
      show 1 + 0 + sz e.nodes + szA [] ≤ _
      rw [szA_nil]; omega
    have hbN : ((w3.alloc OE).alloc ON).heap[w3.heap.size + 1]? = some (Obj.cells #[Value.int .i64 6, .int .i64 e.tag, .string ⟨#[]⟩, Value.slice An e.nodes.length cn, .slice none 0 0] 62) := by rw [hON]; exact heap_alloc2_new w3 OE ON
    have hX4 : Xm lo ((w3.alloc OE).alloc ON) M3 (w3.heap.size + 1) := by have := F4.out.2.2; rwa [World.size_alloc] at this
    have LN := Lib.hid (LX.lit hbN hX4 (fit_nat (n := 6) (by omega)) htf N4.out (AX.nil _ _) hz)
    have FF := Lib.hid (S2.out.2.trans (f3.trans (F3.out.2.1.trans F4.out.2.1)))
    have hpr : ph r ≤ 4194304 := by rw [ph] at hpf; omega
    have HT : Hid (tagEnd st s t = addN r [.mk 6 e.tag ⟨#[]⟩ e.nodes []]) := Lib.hid (by unfold tagEnd; rw [HQ.out]; simp only [HE.out.2])
    clear s3 f3 n3 a3 hbE hbN N4 F3 S2
    go_wp2_with fail
    refine (appendNodes_any F4.out.1 HIR.out.ne LN.out hpr).mono ?_
    rintro x w5 ⟨rfl, M5, s5, f5⟩
    have R := Lib.hid (And.intro s5 (FF.out.trans f5))
    clear s5 f5 F4 LN FF e2 e3
    go_wp2_with fail
    go_end0
    exact ⟨rfl, M5, by rw [HT.out]; exact R.out.1, R.out.2⟩
end
end Go.Proofs.YtdojbnngdlmbgaaGreatDoor.Pa

namespace Go.Proofs.YtdojbnngdlmbgaaGreatDoor.Pa
open Go.RowKit Go.Proofs.YtdojbnngdlmbgaaGreatDoor.Tr
set_option linter.unusedVariables false

theorem drop_str (s : List UInt8) (k : Nat) (hk : k ≤ s.length) : (⟨s.toArray⟩ : ByteArray).extract k (⟨s.toArray⟩ : ByteArray).size = ⟨(s.drop k).toArray⟩ := by
  have h := Lib.extract_to_end (⟨s.toArray⟩ : ByteArray) k
  have e : ∀ b : ByteArray, b = ⟨b.data.toList.toArray⟩ := fun b => rfl
  rw [e ((⟨s.toArray⟩ : ByteArray).extract k _), h]
section
variable {E : Operand → Value} {o : Oper} {W : World}
theorem x_build034 {x y z : Operand} (ho : o.op = Op.build 62 #[(0, x), (3, y), (4, z)]) {k : Int} {A A' : Option Addr} {n c n' c' : Nat} (hx : E x = .int .i64 k) (hy : E y = .slice A n c) (hz : E z = .slice A' n' c') : (execOp E o).run Tryz.prog W = .ok (.value (.agg #[.int .i64 k, .int .i64 0, .string ⟨#[]⟩, .slice A n c, .slice A' n' c'])) W := by
  unfold execOp
  rw [ho]
  go_simp
theorem x_allocNd (ho : o.op = Op.alloc 62) : (execOp E o).run Tryz.prog W = .ok (.value (.pointer (some ⟨W.heap.size, 0, none⟩))) (W.alloc (.cells zeroN 62)) := by
  unfold execOp zeroN
  rw [ho]
  go_simp
end
def FC (kd : Int) (pe pn vn pa va nd pb : Value) : Nat → Value → World → Prop
  | 0, v, _ => v = .int .i64 kd
  | 1, v, _ => v = pe
  | 2, v, _ => v = pe
  | 3, v, _ => v = pn
  | 4, v, _ => v = vn
  | 5, v, _ => v = pe
  | 6, v, _ => v = pe
  | 7, v, _ => v = pa
  | 8, v, _ => v = va
  | 9, v, _ => v = nd
  | _, v, _ => v = pb
theorem FC.st {kd : Int} {pe pn vn pa va nd pb : Value} : ∀ i v w w', FC kd pe pn vn pa va nd pb i v w → Rt w w' → FC kd pe pn vn pa va nd pb i v w' := by
  intro i v w w' h _
  unfold FC at h ⊢
  split <;> simp only at h ⊢ <;> exact h
theorem M2.or {a b : World} {p : Nat} {S : Nat → Bool} {x : Act} {w : World} (h : M2 a b p S x w) : w = a ∨ w = b := by
  unfold M2 at h
  split at h
  · exact .inr h
  · exact .inl h
section
variable {lo gp : Nat} {w : World} {M : List Nat} {e : El} {r : List El} {gs cap : Nat} {ys : List Value} {vn va : Value} {m1 m2 : List Nat}
/-- A brace that goes on with what is left of it, around a node. -/
theorem Opn.close (h : Opn lo gp w M e r gs cap ys vn va m1 m2) (hl : ph (e :: r) ≤ 4194304) (kd : Int) (hf : Fit kd) (left : List UInt8) :
    ∃ M', St lo gp (stN (w.alloc (.cells #[.int .i64 kd, .int .i64 0, .string ⟨#[]⟩, vn, va] 62)) gs (r.length * 5) (.int .i64 ((3 : Nat) : Int)) (.string ⟨left.toArray⟩) (.int .i64 0) (.slice (some ⟨w.heap.size, 0, none⟩) 1 1) (.slice none 0 0)) M' (⟨3, left, 0, [.mk kd 0 ⟨#[]⟩ e.nodes e.args], []⟩ :: r) ∧
      Fr lo w M (stN (w.alloc (.cells #[.int .i64 kd, .int .i64 0, .string ⟨#[]⟩, vn, va] 62)) gs (r.length * 5) (.int .i64 ((3 : Nat) : Int)) (.string ⟨left.toArray⟩) (.int .i64 0) (.slice (some ⟨w.heap.size, 0, none⟩) 1 1) (.slice none 0 0)) M' := by
  have dj := h.dj
  have glt := h.glt
  obtain ⟨w', hw'⟩ : ∃ x, x = stN (w.alloc (.cells #[.int .i64 kd, .int .i64 0, .string ⟨#[]⟩, vn, va] 62)) gs (r.length * 5) (.int .i64 ((3 : Nat) : Int)) (.string ⟨left.toArray⟩) (.int .i64 0) (.slice (some ⟨w.heap.size, 0, none⟩) 1 1) (.slice none 0 0) := ⟨_, rfl⟩
  rw [← hw']
  have hsz : w.heap.size ≤ w'.heap.size := by rw [hw', stN_size]; simp
  have hszlt : w.heap.size < w'.heap.size := by rw [hw', stN_size]; simp
  have hk : ∀ g, g < w.heap.size → g ≠ gs → w'.heap[g]? = w.heap[g]? := fun g h1 h2 => by rw [hw', stN_ne (fun z => h2 z.symm)]; exact Below.heap_alloc _ _ _ h1
  have hnb : w'.heap[w.heap.size]? = some (.cells #[.int .i64 kd, .int .i64 0, .string ⟨#[]⟩, vn, va] 62) := by rw [hw', stN_ne (by omega)]; exact heap_alloc_new w _
  have hbl : Below lo w w' := by
    rw [hw']
    unfold stN
    exact ((((((Below.refl lo w).alloc h.lolt _).setCell glt.1 _).setCell glt.1 _).setCell glt.1 _).setCell glt.1 _).setCell glt.1 _
  have hob : ob (.slice (some ⟨w.heap.size, 0, none⟩) 1 1) ++ ([] : List Nat) = [w.heap.size] := rfl
  have hnew : ∀ g ∈ ob (.slice (some ⟨w.heap.size, 0, none⟩) 1 1) ++ ([] : List Nat), g ∈ ob vn ++ m2 ∨ w.heap.size ≤ g := fun g q => by
    rw [hob] at q
    exact .inr (by simp at q; omega)
  have hx := h.x2 hsz hnew
  have xk : ∀ g, Xm lo w M g → w'.heap[g]? = w.heap[g]? := fun g q => hk g q.2.1 (h.notM q.2.2).1
  have mx : ∀ g ∈ ob vn ++ m2, Xm lo w' (gp :: gs :: (ob (.slice (some ⟨w.heap.size, 0, none⟩) 1 1) ++ ([] : List Nat) ++ m1)) g := fun g q => by
    have hlt := h.st.lt g (by rw [h.hM]; simp only [List.mem_cons, List.mem_append]; exact .inr (.inr (.inl (List.mem_append.1 q))))
    refine ⟨hlt.1, Nat.lt_of_lt_of_le hlt.2 hsz, fun z => ?_⟩
    rw [hob] at z
    simp only [List.mem_cons, List.cons_append, List.nil_append] at z
    rcases z with z | z | z | z
    · exact (dj.s2 g q).2 z
    · exact (dj.s2 g q).1 z
    · omega
    · exact dj.d1 g q z
  rw [ph, phE] at hl
  have ln := (h.rn.keep (w' := w') hx xk (fun g q => hk g (h.rn.lt g q).2 (dj.s2 g (List.mem_append.2 (.inl q))).1)).lx (by omega) (fun _ q => q) (fun g q => mx g (List.mem_append.2 (.inl q)))
  have la := (h.ra.keep (w' := w') hx xk (fun g q => hk g (h.ra.lt g q).2 (dj.s2 g (List.mem_append.2 (.inr q))).1)).ax (by omega) (fun _ q => q) (fun g q => mx g (List.mem_append.2 (.inr q)))
  have hrow : w'.ownsRow lo 67 5 (.slice (some ⟨gs, 0, none⟩) (r.length + 1) cap) (r.length + 1) (ys ++ [.int .i64 ((3 : Nat) : Int), .string ⟨left.toArray⟩, .int .i64 0, .slice (some ⟨w.heap.size, 0, none⟩) 1 1, .slice none 0 0]) := by
    have hr := own_keep (w' := w.alloc (.cells #[.int .i64 kd, .int .i64 0, .string ⟨#[]⟩, vn, va] 62)) h.row (fun g q => by cases q; exact Below.heap_alloc _ _ _ glt.2)
    have q := own_setR (own_setR (own_setR (own_setR (own_setR hr (r.length * 5) (.int .i64 ((3 : Nat) : Int))) (r.length * 5 + 1) (.string ⟨left.toArray⟩)) (r.length * 5 + 2) (.int .i64 0)) (r.length * 5 + 3) (.slice (some ⟨w.heap.size, 0, none⟩) 1 1)) (r.length * 5 + 4) (.slice none 0 0)
    rw [hw']
    unfold stN
    rw [← h.ylen] at q ⊢
    rw [List.set_append_right _ _ (by omega), List.set_append_right _ _ (by omega), List.set_append_right _ _ (by omega), List.set_append_right _ _ (by omega), List.set_append_right _ _ (by omega)] at q
    simpa using q
  refine ⟨_, h.re (e2 := ⟨3, left, 0, [.mk kd 0 ⟨#[]⟩ e.nodes e.args], []⟩) (vn2 := .slice (some ⟨w.heap.size, 0, none⟩) 1 1) (va2 := .slice none 0 0) (m22 := []) hbl (fun g h1 h2 _ => hk g h1 h2) hrow hnew (by rw [hob]; simp) ⟨[.int .i64 kd, .int .i64 0, .string ⟨#[]⟩, vn, va], ⟨rfl, .inr ⟨w.heap.size, 1, _, rfl, h.lolt, hnb, by simp, by simp [maxLen], rfl, rfl⟩⟩, rfl, rfl, rfl, hf, fit_nat (n := 0) (by omega), ln, la, trivial⟩ (.inl ⟨rfl, rfl, rfl⟩)⟩

set_option maxRecDepth 100000 in
set_option maxHeartbeats 8000000 in
theorem closeBrace_any (h : St lo gp w M (e :: r)) (hr : r ≠ []) (ho : 2 ≤ e.op.length) (c : Nat) (hc : 2 ≤ c) (hcb : c ≤ 1048576) (hl : ph (e :: r) ≤ 4194304) : Calls Tryz.prog 117 #[.pointer (some ⟨gp, 0, none⟩), .int .i64 (c : Int)] w fun x w' => x = .returned (.int .i64 ((close1 (e :: r) c).2 : Int)) ∧ ∃ M', St lo gp w' M' (close1 (e :: r) c).1 ∧ Fr lo w M w' M' := by
  obtain ⟨gs, cap, ys, vn, va, m1, m2, o⟩ := h.op
  have H := Lib.hid o; clear o h
  have hop : e.op.length ≤ 4194304 := by rw [ph, phE] at hl; omega
  go_enter Tryz.func117, Tryz.ntmps117
  go_wp2_with fail
  refine (top_any H.out).mono ?_
  rintro x w1 ⟨rfl, hb⟩
  have H1 := Lib.hid (H.out.keep hb)
  have HF := Lib.hid (H.out.st.keep hb).2
  clear H hb
  obtain ⟨An, cn, rfl, _, _⟩ := H1.out.rn.form
  obtain ⟨Aa, ca, rfl, _, _⟩ := H1.out.ra.form
  have c1 := H1.out.cell 1 _ rfl
  have hsz0 : (⟨e.op.toArray⟩ : ByteArray).size = e.op.length := by simp [ByteArray.size]
  by_cases h1 : 3 ≤ c
  · have i1 : decide ((c : Int) ≥ 3) = true := by simp only [decide_eq_true_eq]; omega
    by_cases h2 : 3 ≤ e.op.length
    · have i2 : decide ((e.op.length : Int) ≥ 3) = true := by simp only [decide_eq_true_eq]; omega
      have hku : 3 ≤ e.op.length := by omega
      have HD := Lib.hid (drop_str e.op 3 hku)
      have bd : Below w1.heap.size w1 w1.drew := (Below.refl _ _).drew
      have H2 := Lib.hid (H1.out.keep bd)
      have HF2 := Lib.hid (HF.out.trans (H1.out.st.keep bd).2)
      clear bd HF
      go_wp2_with fail
      have bA : Below w1.drew.heap.size w1.drew (w1.drew.alloc (.cells zeroN 62)) := (Below.refl _ _).alloc (Nat.le_refl _) _
      have H3 := Lib.hid (H2.out.keep bA)
      have k3 : ∀ y, y = w1.drew ∨ y = w1.drew.alloc (.cells zeroN 62) → y.cell? ⟨gs, r.length * 5 + 3, none⟩ = some (Value.slice An e.nodes.length cn) := by
        rintro y (rfl | rfl)
        · exact H2.out.cell 3 _ rfl
        · exact H3.out.cell 3 _ rfl
      have k4 : ∀ y, y = w1.drew ∨ y = w1.drew.alloc (.cells zeroN 62) → y.cell? ⟨gs, r.length * 5 + 4, none⟩ = some (Value.slice Aa e.args.length ca) := by
        rintro y (rfl | rfl)
        · exact H2.out.cell 4 _ rfl
        · exact H3.out.cell 4 _ rfl
      clear H3 c1
      refine region_ki2 (M2 w1.drew (w1.drew.alloc (.cells zeroN 62)) 10) rfl Rt trivial [22, 23, 24, 25, 26, 27, 28, 29, 30, 31, 8] [22, 23, 24, 25, 26, 27, 28, 29, 30, 31, 8] [(5, .pointer (some ⟨gs, r.length * 5, none⟩)), (6, .int .i64 5)]
        (FC 5 (.pointer (some ⟨gs, r.length * 5, none⟩)) (.pointer (some ⟨gs, r.length * 5 + 3, none⟩)) (Value.slice An e.nodes.length cn) (.pointer (some ⟨gs, r.length * 5 + 4, none⟩)) (Value.slice Aa e.args.length ca) (.agg #[.int .i64 5, .int .i64 0, .string ⟨#[]⟩, Value.slice An e.nodes.length cn, Value.slice Aa e.args.length ca]) (.pointer (some ⟨w1.heap.size, 0, none⟩)))
        (by kernel_rfl) (n := 11) (by kernel_rfl) (by kernel_rfl) (fun j v hj => start2 hj rfl rfl) ?_
      intro l0 ds hl0 hds hT
      have HL0 := Lib.hid hl0; have HDS := Lib.hid hds; clear hl0 hds
      refine ⟨?_, ?_⟩
      · intro i hi S x w' hI hM hd hS
        match i, hi with
        | 0, _ => exact head_value2 hI hT Rt.tr FC.st 0 22 rfl rfl rfl rfl (x_move rfl (hI.lt.eval 6 rfl)) trivial rfl (hM.skip (by decide))
        | 1, _ => exact head_value2 hI hT Rt.tr FC.st 1 23 rfl rfl rfl rfl (x_move rfl (hI.lt.eval 5 rfl)) trivial rfl (hM.skip (by decide))
        | 2, _ => exact head_value2 hI hT Rt.tr FC.st 2 24 rfl rfl rfl rfl (x_nil (p := .tmp 23) (ad := ⟨gs, r.length * 5, none⟩) rfl (hI.known 1 23 (hd 1 (by kernel_rfl)) rfl)) trivial rfl (hM.skip (by decide))
        | 3, _ => exact head_value2 hI hT Rt.tr FC.st 3 25 rfl rfl rfl rfl (x_fieldE 3 (by decide) rfl (hI.known 2 24 (hd 2 (by kernel_rfl)) rfl)) trivial rfl (hM.skip (by decide))
        | 4, _ => exact head_value2 hI hT Rt.tr FC.st 4 26 rfl rfl rfl rfl (x_loadN rfl (hI.known 3 25 (hd 3 (by kernel_rfl)) rfl) (k3 _ hM.or)) trivial rfl (hM.skip (by decide))
        | 5, _ => exact head_value2 hI hT Rt.tr FC.st 5 27 rfl rfl rfl rfl (x_move rfl (hI.lt.eval 5 rfl)) trivial rfl (hM.skip (by decide))
        | 6, _ => exact head_value2 hI hT Rt.tr FC.st 6 28 rfl rfl rfl rfl (x_nil (p := .tmp 27) (ad := ⟨gs, r.length * 5, none⟩) rfl (hI.known 5 27 (hd 5 (by kernel_rfl)) rfl)) trivial rfl (hM.skip (by decide))
        | 7, _ => exact head_value2 hI hT Rt.tr FC.st 7 29 rfl rfl rfl rfl (x_fieldE 4 (by decide) rfl (hI.known 6 28 (hd 6 (by kernel_rfl)) rfl)) trivial rfl (hM.skip (by decide))
        | 8, _ => exact head_value2 hI hT Rt.tr FC.st 8 30 rfl rfl rfl rfl (x_loadA rfl (hI.known 7 29 (hd 7 (by kernel_rfl)) rfl) (k4 _ hM.or)) trivial rfl (hM.skip (by decide))
        | 9, _ =>
          have q0 : x.eval (.tmp 22) = .int .i64 5 := hI.known 0 22 (hd 0 (by kernel_rfl)) rfl
          have q4 : x.eval (.tmp 26) = Value.slice An e.nodes.length cn := hI.known 4 26 (hd 4 (by kernel_rfl)) rfl
          have q8 : x.eval (.tmp 30) = Value.slice Aa e.args.length ca := hI.known 8 30 (hd 8 (by kernel_rfl)) rfl
          exact head_value2 hI hT Rt.tr FC.st 9 31 rfl rfl rfl rfl (x_build034 rfl q0 q4 q8) trivial rfl (hM.skip (by decide))
        | 10, _ =>
          have e0 := hM.not hS
          subst e0
          exact head_value2 hI hT Rt.tr FC.st 10 8 rfl rfl rfl rfl (x_allocNd rfl) trivial rfl M2.did
        | (n + 11), h => exact absurd h (by omega)
      · intro S x w' hL _ hk hM hS
        have q9 : x.eval (.tmp 31) = .agg #[.int .i64 5, .int .i64 0, .string ⟨#[]⟩, Value.slice An e.nodes.length cn, Value.slice Aa e.args.length ca] := hk 9 31 (by decide) rfl
        have q10 : x.eval (.tmp 8) = .pointer (some ⟨w1.heap.size, 0, none⟩) := hk 10 8 (by decide) rfl
        have ew : w' = w1.drew.alloc (.cells zeroN 62) := by
          have q := hM
          unfold M2 at q
          rw [hS 10 (by decide)] at q
          exact q
        subst ew
        refine any_store 11 rfl rfl rfl (by kernel_rfl) (x_storeN rfl q10 q9 (heap_alloc_new w1.drew _) (by decide)) ?_
        refine wpAny_done (by kernel_rfl) ?_ _
        have hL8 := hL.add (d := 8) q10
        obtain ⟨u9, rfl, hu9⟩ := hL8.lit
        have hu8 := hu9 8 _ rfl
        rw [HL0.out, HDS.out]
        simp only [setAll, List.set_cons_zero, List.set_cons_succ]
        rw [hu8]
        clear hk q9 q10 hL hL8 hT HL0 HDS hu8 hu9 k3 k4 hM hS bA
        have hbN : (stN (w1.drew.alloc (.cells zeroN 62)) w1.heap.size 0 (.int .i64 5) (.int .i64 0) (.string ⟨#[]⟩) (Value.slice An e.nodes.length cn) (Value.slice Aa e.args.length ca)).heap[w1.heap.size]? = some (.cells #[.int .i64 5, .int .i64 0, .string ⟨#[]⟩, Value.slice An e.nodes.length cn, Value.slice Aa e.args.length ca] 62) := by
          unfold stN
          exact heap_set (heap_set (heap_set (heap_set (heap_set (heap_alloc_new w1.drew _)))))
        have b5 : Below w1.drew.heap.size w1.drew (stN (w1.drew.alloc (.cells zeroN 62)) w1.heap.size 0 (.int .i64 5) (.int .i64 0) (.string ⟨#[]⟩) (Value.slice An e.nodes.length cn) (Value.slice Aa e.args.length ca)) := by
          unfold stN
          exact ((((((Below.refl _ _).alloc (Nat.le_refl _) _).setCell (Nat.le_refl _) _).setCell (Nat.le_refl _) _).setCell (Nat.le_refl _) _).setCell (Nat.le_refl _) _).setCell (Nat.le_refl _) _
        generalize stN (w1.drew.alloc (.cells zeroN 62)) w1.heap.size 0 (.int .i64 5) (.int .i64 0) (.string ⟨#[]⟩) (Value.slice An e.nodes.length cn) (Value.slice Aa e.args.length ca) = w5 at hbN b5 ⊢
        have H5 := Lib.hid (H2.out.keep b5)
        have F5 := Lib.hid (HF2.out.trans (H2.out.st.keep b5).2)
        have hX5 : Hid (Xm lo w5 M w1.heap.size) := Lib.hid ⟨H1.out.lolt, (Array.getElem?_eq_some_iff.1 hbN).1, fun z => by have := (H1.out.st.lt _ z).2; omega⟩
        have d1 := H5.out.cell 1 _ rfl
        have n0 : w5.cell? ⟨w1.heap.size, 0, none⟩ = some (.int .i64 5) := cell_heap hbN rfl
        have n1 : w5.cell? ⟨w1.heap.size, 1, none⟩ = some (.int .i64 0) := cell_heap hbN rfl
        have n2 : w5.cell? ⟨w1.heap.size, 2, none⟩ = some (.string ⟨#[]⟩) := cell_heap hbN rfl
        have n3 : w5.cell? ⟨w1.heap.size, 3, none⟩ = some (Value.slice An e.nodes.length cn) := cell_heap hbN rfl
        have n4 : w5.cell? ⟨w1.heap.size, 4, none⟩ = some (Value.slice Aa e.args.length ca) := cell_heap hbN rfl
        clear H1 H2 HF2 b5
        have hzz : (⟨e.op.toArray⟩ : ByteArray).size = e.op.length := by simp [ByteArray.size]
        have hxx : (⟨e.op.toArray⟩ : ByteArray).extract 3 e.op.length = ⟨(e.op.drop 3).toArray⟩ := by rw [← hzz]; exact HD.out
        have hll : (e.op.drop 3).length = e.op.length - 3 := List.length_drop
        by_cases hleft : 2 ≤ (e.op.drop 3).length
        · have i5 : decide ((((e.op.length - 3 : Nat)) : Int) ≥ 2) = true := by simp only [decide_eq_true_eq]; omega
          obtain ⟨ON, hON⟩ : ∃ O, Obj.cells #[Value.int .i64 5, .int .i64 0, .string ⟨#[]⟩, Value.slice An e.nodes.length cn, Value.slice Aa e.args.length ca] 62 = O := ⟨_, rfl⟩
          have R := H5.out.close hl 5 (fit_nat (n := 5) (by omega)) (e.op.drop 3)
          have H6 := Lib.hid (H5.out.keep ((Below.refl _ _).alloc (Nat.le_refl _) ON))
          rw [hON] at R
          have R := Lib.hid R
          have HC : Hid (close1 (e :: r) c = (⟨3, e.op.drop 3, 0, [.mk 5 0 ⟨#[]⟩ e.nodes e.args], []⟩ :: r, 3)) := Lib.hid (by have hkk : (if 3 ≤ c ∧ 3 ≤ e.op.length then 3 else 2) = 3 := if_pos ⟨h1, h2⟩; simp only [close1, hkk]; rw [if_pos hleft]; rfl)
          generalize hw6 : w5.alloc ON = w6 at *
          have z0 : w6.frozen? ⟨gs, r.length * 5, none⟩ = false := H6.out.fz _
          have z1 := H6.out.fz (r.length * 5 + 1)
          have z2 := H6.out.fz (r.length * 5 + 2)
          have z3 := H6.out.fz (r.length * 5 + 3)
          have z4 := H6.out.fz (r.length * 5 + 4)
          have d0 : w6.cell? ⟨gs, r.length * 5, none⟩ = some (Value.int .i64 e.kind) := H6.out.cell 0 _ rfl
          have d6 := H6.out.cell 1 _ rfl
          have d2 := H6.out.cell 2 _ rfl
          have d3 := H6.out.cell 3 _ rfl
          have d4 := H6.out.cell 4 _ rfl
          go_wp2_with fail
          go_ret
          obtain ⟨M', s7, f7⟩ := R.out
          unfold stN at s7 f7
          rw [HC.out]
          exact ⟨rfl, M', s7, F5.out.trans f7⟩
        · have i5 : decide ((((e.op.length - 3 : Nat)) : Int) ≥ 2) = false := by simp only [decide_eq_false_iff_not]; omega
          have HC : Hid (close1 (e :: r) c = (addN (addT r (e.op.drop 3)) [.mk 5 0 ⟨#[]⟩ e.nodes e.args], 3)) := Lib.hid (by have hkk : (if 3 ≤ c ∧ 3 ≤ e.op.length then 3 else 2) = 3 := if_pos ⟨h1, h2⟩; simp only [close1, hkk]; rw [if_neg hleft]; rfl)
          have HB := Lib.hid hbN
          go_wp2_with fail
          refine (pop_any H5.out hl).mono ?_
          rintro x w6 ⟨rfl, M6, s6, f6, n6, a6⟩
          have S6 := Lib.hid (And.intro s6 (And.intro f6 (And.intro n6 a6)))
          have hpr : ph r ≤ 4194304 := by rw [ph] at hl; omega
          clear s6 f6 n6 a6 n0 n1 n2 n3 n4 d1 H5
          go_wp2_with fail
          refine (appendText_any S6.out.1 hr (e.op.drop 3) hpr (by rw [hll]; omega)).mono ?_
          rintro x w7 ⟨rfl, M7, s7, f7⟩
          have F7 := Lib.hid (S6.out.2.1.trans f7)
          have k7 : w7.heap[w1.heap.size]? = some (.cells #[.int .i64 5, .int .i64 0, .string ⟨#[]⟩, Value.slice An e.nodes.length cn, Value.slice Aa e.args.length ca] 62) := (F7.out.kp _ hX5.out.2.1 hX5.out.2.2).trans HB.out
          have n0 : w7.cell? ⟨w1.heap.size, 0, none⟩ = some (.int .i64 5) := cell_heap k7 rfl
          have n1 : w7.cell? ⟨w1.heap.size, 1, none⟩ = some (.int .i64 0) := cell_heap k7 rfl
          have n2 : w7.cell? ⟨w1.heap.size, 2, none⟩ = some (.string ⟨#[]⟩) := cell_heap k7 rfl
          have n3 : w7.cell? ⟨w1.heap.size, 3, none⟩ = some (Value.slice An e.nodes.length cn) := cell_heap k7 rfl
          have n4 : w7.cell? ⟨w1.heap.size, 4, none⟩ = some (Value.slice Aa e.args.length ca) := cell_heap k7 rfl
          have G7 := Lib.hid (s7.fresh (.cells #[.int .i64 5, .int .i64 0, .string ⟨#[]⟩, Value.slice An e.nodes.length cn, Value.slice Aa e.args.length ca] 62))
          have hz : szN (.mk 5 0 ⟨#[]⟩ e.nodes e.args) ≤ 16777216 := by
            have := szA_ph e.args
            rw [ph, phE] at hl
            rw [szN_eq]
            show 1 + 0 + sz e.nodes + szA e.args ≤ _
            omega
          have LN := Lib.hid (LX.lit (heap_alloc_new w7 _) G7.out.2.2 (fit_nat (n := 5) (by omega)) (fit_nat (n := 0) (by omega)) (G7.out.2.1.lx (f7.lx S6.out.2.2.1)) (G7.out.2.1.ax (f7.ax S6.out.2.2.2)) hz)
          have hp7 : ph (addT r (e.op.drop 3)) ≤ 4194304 := by
            have := ph_addT_le r (e.op.drop 3)
            rw [ph, phE] at hl
            rw [hll] at this
            omega
          have FT := Lib.hid (F5.out.trans (F7.out.trans G7.out.2.1))
          clear s7 f7 k7 S6 F7 HB hX5 F5 hbN
          go_wp2_with fail
          refine (appendNodes_any G7.out.1 (addN_ne hr _) LN.out hp7).mono ?_
          rintro x w8 ⟨rfl, M8, s8, f8⟩
          have R := Lib.hid (And.intro s8 (FT.out.trans f8))
          clear s8 f8 G7 LN FT n0 n1 n2 n3 n4
          go_wp2_with fail
          go_ret
          rw [HC.out]
          exact ⟨rfl, M8, R.out⟩
    · have i2 : decide ((e.op.length : Int) ≥ 3) = false := by simp only [decide_eq_false_iff_not]; omega
      have hku : 2 ≤ e.op.length := by omega
      have HD := Lib.hid (drop_str e.op 2 hku)
      have bd : Below w1.heap.size w1 w1.drew := (Below.refl _ _).drew
      have H2 := Lib.hid (H1.out.keep bd)
      have HF2 := Lib.hid (HF.out.trans (H1.out.st.keep bd).2)
      clear bd HF
      go_wp2_with fail
      have bA : Below w1.drew.heap.size w1.drew (w1.drew.alloc (.cells zeroN 62)) := (Below.refl _ _).alloc (Nat.le_refl _) _
      have H3 := Lib.hid (H2.out.keep bA)
      have k3 : ∀ y, y = w1.drew ∨ y = w1.drew.alloc (.cells zeroN 62) → y.cell? ⟨gs, r.length * 5 + 3, none⟩ = some (Value.slice An e.nodes.length cn) := by
        rintro y (rfl | rfl)
        · exact H2.out.cell 3 _ rfl
        · exact H3.out.cell 3 _ rfl
      have k4 : ∀ y, y = w1.drew ∨ y = w1.drew.alloc (.cells zeroN 62) → y.cell? ⟨gs, r.length * 5 + 4, none⟩ = some (Value.slice Aa e.args.length ca) := by
        rintro y (rfl | rfl)
        · exact H2.out.cell 4 _ rfl
        · exact H3.out.cell 4 _ rfl
      clear H3 c1
      refine region_ki2 (M2 w1.drew (w1.drew.alloc (.cells zeroN 62)) 10) rfl Rt trivial [22, 23, 24, 25, 26, 27, 28, 29, 30, 31, 8] [22, 23, 24, 25, 26, 27, 28, 29, 30, 31, 8] [(5, .pointer (some ⟨gs, r.length * 5, none⟩)), (6, .int .i64 4)]
        (FC 4 (.pointer (some ⟨gs, r.length * 5, none⟩)) (.pointer (some ⟨gs, r.length * 5 + 3, none⟩)) (Value.slice An e.nodes.length cn) (.pointer (some ⟨gs, r.length * 5 + 4, none⟩)) (Value.slice Aa e.args.length ca) (.agg #[.int .i64 4, .int .i64 0, .string ⟨#[]⟩, Value.slice An e.nodes.length cn, Value.slice Aa e.args.length ca]) (.pointer (some ⟨w1.heap.size, 0, none⟩)))
        (by kernel_rfl) (n := 11) (by kernel_rfl) (by kernel_rfl) (fun j v hj => start2 hj rfl rfl) ?_
      intro l0 ds hl0 hds hT
      have HL0 := Lib.hid hl0; have HDS := Lib.hid hds; clear hl0 hds
      refine ⟨?_, ?_⟩
      · intro i hi S x w' hI hM hd hS
        match i, hi with
        | 0, _ => exact head_value2 hI hT Rt.tr FC.st 0 22 rfl rfl rfl rfl (x_move rfl (hI.lt.eval 6 rfl)) trivial rfl (hM.skip (by decide))
        | 1, _ => exact head_value2 hI hT Rt.tr FC.st 1 23 rfl rfl rfl rfl (x_move rfl (hI.lt.eval 5 rfl)) trivial rfl (hM.skip (by decide))
        | 2, _ => exact head_value2 hI hT Rt.tr FC.st 2 24 rfl rfl rfl rfl (x_nil (p := .tmp 23) (ad := ⟨gs, r.length * 5, none⟩) rfl (hI.known 1 23 (hd 1 (by kernel_rfl)) rfl)) trivial rfl (hM.skip (by decide))
        | 3, _ => exact head_value2 hI hT Rt.tr FC.st 3 25 rfl rfl rfl rfl (x_fieldE 3 (by decide) rfl (hI.known 2 24 (hd 2 (by kernel_rfl)) rfl)) trivial rfl (hM.skip (by decide))
        | 4, _ => exact head_value2 hI hT Rt.tr FC.st 4 26 rfl rfl rfl rfl (x_loadN rfl (hI.known 3 25 (hd 3 (by kernel_rfl)) rfl) (k3 _ hM.or)) trivial rfl (hM.skip (by decide))
        | 5, _ => exact head_value2 hI hT Rt.tr FC.st 5 27 rfl rfl rfl rfl (x_move rfl (hI.lt.eval 5 rfl)) trivial rfl (hM.skip (by decide))
        | 6, _ => exact head_value2 hI hT Rt.tr FC.st 6 28 rfl rfl rfl rfl (x_nil (p := .tmp 27) (ad := ⟨gs, r.length * 5, none⟩) rfl (hI.known 5 27 (hd 5 (by kernel_rfl)) rfl)) trivial rfl (hM.skip (by decide))
        | 7, _ => exact head_value2 hI hT Rt.tr FC.st 7 29 rfl rfl rfl rfl (x_fieldE 4 (by decide) rfl (hI.known 6 28 (hd 6 (by kernel_rfl)) rfl)) trivial rfl (hM.skip (by decide))
        | 8, _ => exact head_value2 hI hT Rt.tr FC.st 8 30 rfl rfl rfl rfl (x_loadA rfl (hI.known 7 29 (hd 7 (by kernel_rfl)) rfl) (k4 _ hM.or)) trivial rfl (hM.skip (by decide))
        | 9, _ =>
          have q0 : x.eval (.tmp 22) = .int .i64 4 := hI.known 0 22 (hd 0 (by kernel_rfl)) rfl
          have q4 : x.eval (.tmp 26) = Value.slice An e.nodes.length cn := hI.known 4 26 (hd 4 (by kernel_rfl)) rfl
          have q8 : x.eval (.tmp 30) = Value.slice Aa e.args.length ca := hI.known 8 30 (hd 8 (by kernel_rfl)) rfl
          exact head_value2 hI hT Rt.tr FC.st 9 31 rfl rfl rfl rfl (x_build034 rfl q0 q4 q8) trivial rfl (hM.skip (by decide))
        | 10, _ =>
          have e0 := hM.not hS
          subst e0
          exact head_value2 hI hT Rt.tr FC.st 10 8 rfl rfl rfl rfl (x_allocNd rfl) trivial rfl M2.did
        | (n + 11), h => exact absurd h (by omega)
      · intro S x w' hL _ hk hM hS
        have q9 : x.eval (.tmp 31) = .agg #[.int .i64 4, .int .i64 0, .string ⟨#[]⟩, Value.slice An e.nodes.length cn, Value.slice Aa e.args.length ca] := hk 9 31 (by decide) rfl
        have q10 : x.eval (.tmp 8) = .pointer (some ⟨w1.heap.size, 0, none⟩) := hk 10 8 (by decide) rfl
        have ew : w' = w1.drew.alloc (.cells zeroN 62) := by
          have q := hM
          unfold M2 at q
          rw [hS 10 (by decide)] at q
          exact q
        subst ew
        refine any_store 11 rfl rfl rfl (by kernel_rfl) (x_storeN rfl q10 q9 (heap_alloc_new w1.drew _) (by decide)) ?_
        refine wpAny_done (by kernel_rfl) ?_ _
        have hL8 := hL.add (d := 8) q10
        obtain ⟨u9, rfl, hu9⟩ := hL8.lit
        have hu8 := hu9 8 _ rfl
        rw [HL0.out, HDS.out]
        simp only [setAll, List.set_cons_zero, List.set_cons_succ]
        rw [hu8]
        clear hk q9 q10 hL hL8 hT HL0 HDS hu8 hu9 k3 k4 hM hS bA
        have hbN : (stN (w1.drew.alloc (.cells zeroN 62)) w1.heap.size 0 (.int .i64 4) (.int .i64 0) (.string ⟨#[]⟩) (Value.slice An e.nodes.length cn) (Value.slice Aa e.args.length ca)).heap[w1.heap.size]? = some (.cells #[.int .i64 4, .int .i64 0, .string ⟨#[]⟩, Value.slice An e.nodes.length cn, Value.slice Aa e.args.length ca] 62) := by
          unfold stN
          exact heap_set (heap_set (heap_set (heap_set (heap_set (heap_alloc_new w1.drew _)))))
        have b5 : Below w1.drew.heap.size w1.drew (stN (w1.drew.alloc (.cells zeroN 62)) w1.heap.size 0 (.int .i64 4) (.int .i64 0) (.string ⟨#[]⟩) (Value.slice An e.nodes.length cn) (Value.slice Aa e.args.length ca)) := by
          unfold stN
          exact ((((((Below.refl _ _).alloc (Nat.le_refl _) _).setCell (Nat.le_refl _) _).setCell (Nat.le_refl _) _).setCell (Nat.le_refl _) _).setCell (Nat.le_refl _) _).setCell (Nat.le_refl _) _
        generalize stN (w1.drew.alloc (.cells zeroN 62)) w1.heap.size 0 (.int .i64 4) (.int .i64 0) (.string ⟨#[]⟩) (Value.slice An e.nodes.length cn) (Value.slice Aa e.args.length ca) = w5 at hbN b5 ⊢
        have H5 := Lib.hid (H2.out.keep b5)
        have F5 := Lib.hid (HF2.out.trans (H2.out.st.keep b5).2)
        have hX5 : Hid (Xm lo w5 M w1.heap.size) := Lib.hid ⟨H1.out.lolt, (Array.getElem?_eq_some_iff.1 hbN).1, fun z => by have := (H1.out.st.lt _ z).2; omega⟩
        have d1 := H5.out.cell 1 _ rfl
        have n0 : w5.cell? ⟨w1.heap.size, 0, none⟩ = some (.int .i64 4) := cell_heap hbN rfl
        have n1 : w5.cell? ⟨w1.heap.size, 1, none⟩ = some (.int .i64 0) := cell_heap hbN rfl
        have n2 : w5.cell? ⟨w1.heap.size, 2, none⟩ = some (.string ⟨#[]⟩) := cell_heap hbN rfl
        have n3 : w5.cell? ⟨w1.heap.size, 3, none⟩ = some (Value.slice An e.nodes.length cn) := cell_heap hbN rfl
        have n4 : w5.cell? ⟨w1.heap.size, 4, none⟩ = some (Value.slice Aa e.args.length ca) := cell_heap hbN rfl
        clear H1 H2 HF2 b5
        have hzz : (⟨e.op.toArray⟩ : ByteArray).size = e.op.length := by simp [ByteArray.size]
        have hxx : (⟨e.op.toArray⟩ : ByteArray).extract 2 e.op.length = ⟨(e.op.drop 2).toArray⟩ := by rw [← hzz]; exact HD.out
        have hll : (e.op.drop 2).length = e.op.length - 2 := List.length_drop
        by_cases hleft : 2 ≤ (e.op.drop 2).length
        · exact absurd hleft (by rw [hll]; omega)
        · have i5 : decide ((((e.op.length - 2 : Nat)) : Int) ≥ 2) = false := by simp only [decide_eq_false_iff_not]; omega
          have HC : Hid (close1 (e :: r) c = (addN (addT r (e.op.drop 2)) [.mk 4 0 ⟨#[]⟩ e.nodes e.args], 2)) := Lib.hid (by have hkk : (if 3 ≤ c ∧ 3 ≤ e.op.length then 3 else 2) = 2 := if_neg (fun q => h2 q.2); simp only [close1, hkk]; rw [if_neg hleft]; rfl)
          have HB := Lib.hid hbN
          go_wp2_with fail
          refine (pop_any H5.out hl).mono ?_
          rintro x w6 ⟨rfl, M6, s6, f6, n6, a6⟩
          have S6 := Lib.hid (And.intro s6 (And.intro f6 (And.intro n6 a6)))
          have hpr : ph r ≤ 4194304 := by rw [ph] at hl; omega
          clear s6 f6 n6 a6 n0 n1 n2 n3 n4 d1 H5
          go_wp2_with fail
          refine (appendText_any S6.out.1 hr (e.op.drop 2) hpr (by rw [hll]; omega)).mono ?_
          rintro x w7 ⟨rfl, M7, s7, f7⟩
          have F7 := Lib.hid (S6.out.2.1.trans f7)
          have k7 : w7.heap[w1.heap.size]? = some (.cells #[.int .i64 4, .int .i64 0, .string ⟨#[]⟩, Value.slice An e.nodes.length cn, Value.slice Aa e.args.length ca] 62) := (F7.out.kp _ hX5.out.2.1 hX5.out.2.2).trans HB.out
          have n0 : w7.cell? ⟨w1.heap.size, 0, none⟩ = some (.int .i64 4) := cell_heap k7 rfl
          have n1 : w7.cell? ⟨w1.heap.size, 1, none⟩ = some (.int .i64 0) := cell_heap k7 rfl
          have n2 : w7.cell? ⟨w1.heap.size, 2, none⟩ = some (.string ⟨#[]⟩) := cell_heap k7 rfl
          have n3 : w7.cell? ⟨w1.heap.size, 3, none⟩ = some (Value.slice An e.nodes.length cn) := cell_heap k7 rfl
          have n4 : w7.cell? ⟨w1.heap.size, 4, none⟩ = some (Value.slice Aa e.args.length ca) := cell_heap k7 rfl
          have G7 := Lib.hid (s7.fresh (.cells #[.int .i64 4, .int .i64 0, .string ⟨#[]⟩, Value.slice An e.nodes.length cn, Value.slice Aa e.args.length ca] 62))
          have hz : szN (.mk 4 0 ⟨#[]⟩ e.nodes e.args) ≤ 16777216 := by
            have := szA_ph e.args
            rw [ph, phE] at hl
            rw [szN_eq]
            show 1 + 0 + sz e.nodes + szA e.args ≤ _
            omega
          have LN := Lib.hid (LX.lit (heap_alloc_new w7 _) G7.out.2.2 (fit_nat (n := 4) (by omega)) (fit_nat (n := 0) (by omega)) (G7.out.2.1.lx (f7.lx S6.out.2.2.1)) (G7.out.2.1.ax (f7.ax S6.out.2.2.2)) hz)
          have hp7 : ph (addT r (e.op.drop 2)) ≤ 4194304 := by
            have := ph_addT_le r (e.op.drop 2)
            rw [ph, phE] at hl
            rw [hll] at this
            omega
          have FT := Lib.hid (F5.out.trans (F7.out.trans G7.out.2.1))
          clear s7 f7 k7 S6 F7 HB hX5 F5 hbN
          go_wp2_with fail
          refine (appendNodes_any G7.out.1 (addN_ne hr _) LN.out hp7).mono ?_
          rintro x w8 ⟨rfl, M8, s8, f8⟩
          have R := Lib.hid (And.intro s8 (FT.out.trans f8))
          clear s8 f8 G7 LN FT n0 n1 n2 n3 n4
          go_wp2_with fail
          go_ret
          rw [HC.out]
          exact ⟨rfl, M8, R.out⟩
  · have i1 : decide ((c : Int) ≥ 3) = false := by simp only [decide_eq_false_iff_not]; omega
    have hku : 2 ≤ e.op.length := by omega
    have HD := Lib.hid (drop_str e.op 2 hku)
    have bd : Below w1.heap.size w1 w1.drew := (Below.refl _ _).drew
    have H2 := Lib.hid (H1.out.keep bd)
    have HF2 := Lib.hid (HF.out.trans (H1.out.st.keep bd).2)
    clear bd HF
    go_wp2_with fail
    have bA : Below w1.drew.heap.size w1.drew (w1.drew.alloc (.cells zeroN 62)) := (Below.refl _ _).alloc (Nat.le_refl _) _
    have H3 := Lib.hid (H2.out.keep bA)
    have k3 : ∀ y, y = w1.drew ∨ y = w1.drew.alloc (.cells zeroN 62) → y.cell? ⟨gs, r.length * 5 + 3, none⟩ = some (Value.slice An e.nodes.length cn) := by
      rintro y (rfl | rfl)
      · exact H2.out.cell 3 _ rfl
      · exact H3.out.cell 3 _ rfl
    have k4 : ∀ y, y = w1.drew ∨ y = w1.drew.alloc (.cells zeroN 62) → y.cell? ⟨gs, r.length * 5 + 4, none⟩ = some (Value.slice Aa e.args.length ca) := by
      rintro y (rfl | rfl)
      · exact H2.out.cell 4 _ rfl
      · exact H3.out.cell 4 _ rfl
    clear H3 c1
    refine region_ki2 (M2 w1.drew (w1.drew.alloc (.cells zeroN 62)) 10) rfl Rt trivial [22, 23, 24, 25, 26, 27, 28, 29, 30, 31, 8] [22, 23, 24, 25, 26, 27, 28, 29, 30, 31, 8] [(5, .pointer (some ⟨gs, r.length * 5, none⟩)), (6, .int .i64 4)]
      (FC 4 (.pointer (some ⟨gs, r.length * 5, none⟩)) (.pointer (some ⟨gs, r.length * 5 + 3, none⟩)) (Value.slice An e.nodes.length cn) (.pointer (some ⟨gs, r.length * 5 + 4, none⟩)) (Value.slice Aa e.args.length ca) (.agg #[.int .i64 4, .int .i64 0, .string ⟨#[]⟩, Value.slice An e.nodes.length cn, Value.slice Aa e.args.length ca]) (.pointer (some ⟨w1.heap.size, 0, none⟩)))
      (by kernel_rfl) (n := 11) (by kernel_rfl) (by kernel_rfl) (fun j v hj => start2 hj rfl rfl) ?_
    intro l0 ds hl0 hds hT
    have HL0 := Lib.hid hl0; have HDS := Lib.hid hds; clear hl0 hds
    refine ⟨?_, ?_⟩
    · intro i hi S x w' hI hM hd hS
      match i, hi with
      | 0, _ => exact head_value2 hI hT Rt.tr FC.st 0 22 rfl rfl rfl rfl (x_move rfl (hI.lt.eval 6 rfl)) trivial rfl (hM.skip (by decide))
      | 1, _ => exact head_value2 hI hT Rt.tr FC.st 1 23 rfl rfl rfl rfl (x_move rfl (hI.lt.eval 5 rfl)) trivial rfl (hM.skip (by decide))
      | 2, _ => exact head_value2 hI hT Rt.tr FC.st 2 24 rfl rfl rfl rfl (x_nil (p := .tmp 23) (ad := ⟨gs, r.length * 5, none⟩) rfl (hI.known 1 23 (hd 1 (by kernel_rfl)) rfl)) trivial rfl (hM.skip (by decide))
      | 3, _ => exact head_value2 hI hT Rt.tr FC.st 3 25 rfl rfl rfl rfl (x_fieldE 3 (by decide) rfl (hI.known 2 24 (hd 2 (by kernel_rfl)) rfl)) trivial rfl (hM.skip (by decide))
      | 4, _ => exact head_value2 hI hT Rt.tr FC.st 4 26 rfl rfl rfl rfl (x_loadN rfl (hI.known 3 25 (hd 3 (by kernel_rfl)) rfl) (k3 _ hM.or)) trivial rfl (hM.skip (by decide))
      | 5, _ => exact head_value2 hI hT Rt.tr FC.st 5 27 rfl rfl rfl rfl (x_move rfl (hI.lt.eval 5 rfl)) trivial rfl (hM.skip (by decide))
      | 6, _ => exact head_value2 hI hT Rt.tr FC.st 6 28 rfl rfl rfl rfl (x_nil (p := .tmp 27) (ad := ⟨gs, r.length * 5, none⟩) rfl (hI.known 5 27 (hd 5 (by kernel_rfl)) rfl)) trivial rfl (hM.skip (by decide))
      | 7, _ => exact head_value2 hI hT Rt.tr FC.st 7 29 rfl rfl rfl rfl (x_fieldE 4 (by decide) rfl (hI.known 6 28 (hd 6 (by kernel_rfl)) rfl)) trivial rfl (hM.skip (by decide))
      | 8, _ => exact head_value2 hI hT Rt.tr FC.st 8 30 rfl rfl rfl rfl (x_loadA rfl (hI.known 7 29 (hd 7 (by kernel_rfl)) rfl) (k4 _ hM.or)) trivial rfl (hM.skip (by decide))
      | 9, _ =>
        have q0 : x.eval (.tmp 22) = .int .i64 4 := hI.known 0 22 (hd 0 (by kernel_rfl)) rfl
        have q4 : x.eval (.tmp 26) = Value.slice An e.nodes.length cn := hI.known 4 26 (hd 4 (by kernel_rfl)) rfl
        have q8 : x.eval (.tmp 30) = Value.slice Aa e.args.length ca := hI.known 8 30 (hd 8 (by kernel_rfl)) rfl
        exact head_value2 hI hT Rt.tr FC.st 9 31 rfl rfl rfl rfl (x_build034 rfl q0 q4 q8) trivial rfl (hM.skip (by decide))
      | 10, _ =>
        have e0 := hM.not hS
        subst e0
        exact head_value2 hI hT Rt.tr FC.st 10 8 rfl rfl rfl rfl (x_allocNd rfl) trivial rfl M2.did
      | (n + 11), h => exact absurd h (by omega)
    · intro S x w' hL _ hk hM hS
      have q9 : x.eval (.tmp 31) = .agg #[.int .i64 4, .int .i64 0, .string ⟨#[]⟩, Value.slice An e.nodes.length cn, Value.slice Aa e.args.length ca] := hk 9 31 (by decide) rfl
      have q10 : x.eval (.tmp 8) = .pointer (some ⟨w1.heap.size, 0, none⟩) := hk 10 8 (by decide) rfl
      have ew : w' = w1.drew.alloc (.cells zeroN 62) := by
        have q := hM
        unfold M2 at q
        rw [hS 10 (by decide)] at q
        exact q
      subst ew
      refine any_store 11 rfl rfl rfl (by kernel_rfl) (x_storeN rfl q10 q9 (heap_alloc_new w1.drew _) (by decide)) ?_
      refine wpAny_done (by kernel_rfl) ?_ _
      have hL8 := hL.add (d := 8) q10
      obtain ⟨u9, rfl, hu9⟩ := hL8.lit
      have hu8 := hu9 8 _ rfl
      rw [HL0.out, HDS.out]
      simp only [setAll, List.set_cons_zero, List.set_cons_succ]
      rw [hu8]
      clear hk q9 q10 hL hL8 hT HL0 HDS hu8 hu9 k3 k4 hM hS bA
      have hbN : (stN (w1.drew.alloc (.cells zeroN 62)) w1.heap.size 0 (.int .i64 4) (.int .i64 0) (.string ⟨#[]⟩) (Value.slice An e.nodes.length cn) (Value.slice Aa e.args.length ca)).heap[w1.heap.size]? = some (.cells #[.int .i64 4, .int .i64 0, .string ⟨#[]⟩, Value.slice An e.nodes.length cn, Value.slice Aa e.args.length ca] 62) := by
        unfold stN
        exact heap_set (heap_set (heap_set (heap_set (heap_set (heap_alloc_new w1.drew _)))))
      have b5 : Below w1.drew.heap.size w1.drew (stN (w1.drew.alloc (.cells zeroN 62)) w1.heap.size 0 (.int .i64 4) (.int .i64 0) (.string ⟨#[]⟩) (Value.slice An e.nodes.length cn) (Value.slice Aa e.args.length ca)) := by
        unfold stN
        exact ((((((Below.refl _ _).alloc (Nat.le_refl _) _).setCell (Nat.le_refl _) _).setCell (Nat.le_refl _) _).setCell (Nat.le_refl _) _).setCell (Nat.le_refl _) _).setCell (Nat.le_refl _) _
      generalize stN (w1.drew.alloc (.cells zeroN 62)) w1.heap.size 0 (.int .i64 4) (.int .i64 0) (.string ⟨#[]⟩) (Value.slice An e.nodes.length cn) (Value.slice Aa e.args.length ca) = w5 at hbN b5 ⊢
      have H5 := Lib.hid (H2.out.keep b5)
      have F5 := Lib.hid (HF2.out.trans (H2.out.st.keep b5).2)
      have hX5 : Hid (Xm lo w5 M w1.heap.size) := Lib.hid ⟨H1.out.lolt, (Array.getElem?_eq_some_iff.1 hbN).1, fun z => by have := (H1.out.st.lt _ z).2; omega⟩
      have d1 := H5.out.cell 1 _ rfl
      have n0 : w5.cell? ⟨w1.heap.size, 0, none⟩ = some (.int .i64 4) := cell_heap hbN rfl
      have n1 : w5.cell? ⟨w1.heap.size, 1, none⟩ = some (.int .i64 0) := cell_heap hbN rfl
      have n2 : w5.cell? ⟨w1.heap.size, 2, none⟩ = some (.string ⟨#[]⟩) := cell_heap hbN rfl
      have n3 : w5.cell? ⟨w1.heap.size, 3, none⟩ = some (Value.slice An e.nodes.length cn) := cell_heap hbN rfl
      have n4 : w5.cell? ⟨w1.heap.size, 4, none⟩ = some (Value.slice Aa e.args.length ca) := cell_heap hbN rfl
      clear H1 H2 HF2 b5
      have hzz : (⟨e.op.toArray⟩ : ByteArray).size = e.op.length := by simp [ByteArray.size]
      have hxx : (⟨e.op.toArray⟩ : ByteArray).extract 2 e.op.length = ⟨(e.op.drop 2).toArray⟩ := by rw [← hzz]; exact HD.out
      have hll : (e.op.drop 2).length = e.op.length - 2 := List.length_drop
      by_cases hleft : 2 ≤ (e.op.drop 2).length
      · have i5 : decide ((((e.op.length - 2 : Nat)) : Int) ≥ 2) = true := by simp only [decide_eq_true_eq]; omega
        obtain ⟨ON, hON⟩ : ∃ O, Obj.cells #[Value.int .i64 4, .int .i64 0, .string ⟨#[]⟩, Value.slice An e.nodes.length cn, Value.slice Aa e.args.length ca] 62 = O := ⟨_, rfl⟩
        have R := H5.out.close hl 4 (fit_nat (n := 4) (by omega)) (e.op.drop 2)
        have H6 := Lib.hid (H5.out.keep ((Below.refl _ _).alloc (Nat.le_refl _) ON))
        rw [hON] at R
        have R := Lib.hid R
        have HC : Hid (close1 (e :: r) c = (⟨3, e.op.drop 2, 0, [.mk 4 0 ⟨#[]⟩ e.nodes e.args], []⟩ :: r, 2)) := Lib.hid (by have hkk : (if 3 ≤ c ∧ 3 ≤ e.op.length then 3 else 2) = 2 := if_neg (fun q => h1 q.1); simp only [close1, hkk]; rw [if_pos hleft]; rfl)
        generalize hw6 : w5.alloc ON = w6 at *
        have z0 : w6.frozen? ⟨gs, r.length * 5, none⟩ = false := H6.out.fz _
        have z1 := H6.out.fz (r.length * 5 + 1)
        have z2 := H6.out.fz (r.length * 5 + 2)
        have z3 := H6.out.fz (r.length * 5 + 3)
        have z4 := H6.out.fz (r.length * 5 + 4)
        have d0 : w6.cell? ⟨gs, r.length * 5, none⟩ = some (Value.int .i64 e.kind) := H6.out.cell 0 _ rfl
        have d6 := H6.out.cell 1 _ rfl
        have d2 := H6.out.cell 2 _ rfl
        have d3 := H6.out.cell 3 _ rfl
        have d4 := H6.out.cell 4 _ rfl
        go_wp2_with fail
        go_ret
        obtain ⟨M', s7, f7⟩ := R.out
        unfold stN at s7 f7
        rw [HC.out]
        exact ⟨rfl, M', s7, F5.out.trans f7⟩
      · have i5 : decide ((((e.op.length - 2 : Nat)) : Int) ≥ 2) = false := by simp only [decide_eq_false_iff_not]; omega
        have HC : Hid (close1 (e :: r) c = (addN (addT r (e.op.drop 2)) [.mk 4 0 ⟨#[]⟩ e.nodes e.args], 2)) := Lib.hid (by have hkk : (if 3 ≤ c ∧ 3 ≤ e.op.length then 3 else 2) = 2 := if_neg (fun q => h1 q.1); simp only [close1, hkk]; rw [if_neg hleft]; rfl)
        have HB := Lib.hid hbN
        go_wp2_with fail
        refine (pop_any H5.out hl).mono ?_
        rintro x w6 ⟨rfl, M6, s6, f6, n6, a6⟩
        have S6 := Lib.hid (And.intro s6 (And.intro f6 (And.intro n6 a6)))
        have hpr : ph r ≤ 4194304 := by rw [ph] at hl; omega
        clear s6 f6 n6 a6 n0 n1 n2 n3 n4 d1 H5
        go_wp2_with fail
        refine (appendText_any S6.out.1 hr (e.op.drop 2) hpr (by rw [hll]; omega)).mono ?_
        rintro x w7 ⟨rfl, M7, s7, f7⟩
        have F7 := Lib.hid (S6.out.2.1.trans f7)
        have k7 : w7.heap[w1.heap.size]? = some (.cells #[.int .i64 4, .int .i64 0, .string ⟨#[]⟩, Value.slice An e.nodes.length cn, Value.slice Aa e.args.length ca] 62) := (F7.out.kp _ hX5.out.2.1 hX5.out.2.2).trans HB.out
        have n0 : w7.cell? ⟨w1.heap.size, 0, none⟩ = some (.int .i64 4) := cell_heap k7 rfl
        have n1 : w7.cell? ⟨w1.heap.size, 1, none⟩ = some (.int .i64 0) := cell_heap k7 rfl
        have n2 : w7.cell? ⟨w1.heap.size, 2, none⟩ = some (.string ⟨#[]⟩) := cell_heap k7 rfl
        have n3 : w7.cell? ⟨w1.heap.size, 3, none⟩ = some (Value.slice An e.nodes.length cn) := cell_heap k7 rfl
        have n4 : w7.cell? ⟨w1.heap.size, 4, none⟩ = some (Value.slice Aa e.args.length ca) := cell_heap k7 rfl
        have G7 := Lib.hid (s7.fresh (.cells #[.int .i64 4, .int .i64 0, .string ⟨#[]⟩, Value.slice An e.nodes.length cn, Value.slice Aa e.args.length ca] 62))
        have hz : szN (.mk 4 0 ⟨#[]⟩ e.nodes e.args) ≤ 16777216 := by
          have := szA_ph e.args
          rw [ph, phE] at hl
          rw [szN_eq]
          show 1 + 0 + sz e.nodes + szA e.args ≤ _
          omega
        have LN := Lib.hid (LX.lit (heap_alloc_new w7 _) G7.out.2.2 (fit_nat (n := 4) (by omega)) (fit_nat (n := 0) (by omega)) (G7.out.2.1.lx (f7.lx S6.out.2.2.1)) (G7.out.2.1.ax (f7.ax S6.out.2.2.2)) hz)
        have hp7 : ph (addT r (e.op.drop 2)) ≤ 4194304 := by
          have := ph_addT_le r (e.op.drop 2)
          rw [ph, phE] at hl
          rw [hll] at this
          omega
        have FT := Lib.hid (F5.out.trans (F7.out.trans G7.out.2.1))
        clear s7 f7 k7 S6 F7 HB hX5 F5 hbN
        go_wp2_with fail
        refine (appendNodes_any G7.out.1 (addN_ne hr _) LN.out hp7).mono ?_
        rintro x w8 ⟨rfl, M8, s8, f8⟩
        have R := Lib.hid (And.intro s8 (FT.out.trans f8))
        clear s8 f8 G7 LN FT n0 n1 n2 n3 n4
        go_wp2_with fail
        go_ret
        rw [HC.out]
        exact ⟨rfl, M8, R.out⟩
end
end Go.Proofs.YtdojbnngdlmbgaaGreatDoor.Pa

namespace Go.Proofs.YtdojbnngdlmbgaaGreatDoor.Pa
open Go.RowKit Go.Proofs.YtdojbnngdlmbgaaGreatDoor.Tr
set_option linter.unusedVariables false

theorem close1_ge (st : List El) (c : Nat) : 2 ≤ (close1 st c).2 ∧ (close1 st c).2 ≤ 3 := by
  cases st with
  | nil => simp [close1]
  | cons e r =>
    have hk : 2 ≤ (if 3 ≤ c ∧ 3 ≤ e.op.length then 3 else 2) ∧ (if 3 ≤ c ∧ 3 ≤ e.op.length then 3 else 2) ≤ 3 := by split <;> omega
    simp only [close1]
    generalize (if 3 ≤ c ∧ 3 ≤ e.op.length then 3 else 2) = k at hk
    split <;> exact hk
theorem close1_le (st : List El) (c : Nat) (hc : 2 ≤ c) : (close1 st c).2 ≤ c := by
  cases st with
  | nil => simpa [close1] using hc
  | cons e r =>
    have hk : (if 3 ≤ c ∧ 3 ≤ e.op.length then 3 else 2) ≤ c := by split <;> omega
    simp only [close1]
    generalize (if 3 ≤ c ∧ 3 ≤ e.op.length then 3 else 2) = k at hk
    split <;> exact hk
theorem close1_len (st : List El) (c : Nat) : (close1 st c).1.length ≤ st.length := by
  cases st with
  | nil => simp [close1]
  | cons e r =>
    simp only [close1]
    generalize (if 3 ≤ c ∧ 3 ≤ e.op.length then 3 else 2) = k
    split
    · simp
    · show (addN (addT r (e.op.drop k)) _).length ≤ _
      rw [len_addN, addT, len_addN, List.length_cons]; omega
theorem closeB_fuel : ∀ (f f' : Nat) (st : List El) (s : List UInt8), s.length ≤ f → s.length ≤ f' → closeB f st s = closeB f' st s
  | 0, 0, _, _, _, _ => rfl
  | 0, f' + 1, st, s, h, _ => by
    have : s.length = 0 := by omega
    rw [closeB, closeB, if_pos (by omega)]
  | f + 1, 0, st, s, _, h => by
    have : s.length = 0 := by omega
    rw [closeB, closeB, if_pos (by omega)]
  | f + 1, f' + 1, st, s, h, h' => by
    rw [closeB, closeB]
    split
    · rfl
    · cases braceAt st with
      | none => rfl
      | some i =>
        have := (close1_ge (flats i st) s.length).1
        exact closeB_fuel f f' _ _ (by rw [List.length_drop]; omega) (by rw [List.length_drop]; omega)
theorem closeB_step {st : List El} {s : List UInt8} {i : Nat} (hs : 2 ≤ s.length) (hq : braceAt st = some i) : closeB s.length st s = closeB (s.drop (close1 (flats i st) s.length).2).length (close1 (flats i st) s.length).1 (s.drop (close1 (flats i st) s.length).2) := by
  obtain ⟨f, hf⟩ : ∃ f, s.length = f + 1 := ⟨s.length - 1, by omega⟩
  rw [hf, closeB, if_neg (by omega), hq, ← hf]
  have := (close1_ge (flats i st) s.length).1
  exact closeB_fuel _ _ _ _ (by rw [List.length_drop]; omega) (Nat.le_refl _)
theorem closeB_stop {st : List El} {s : List UInt8} (h : s.length < 2 ∨ braceAt st = none) : closeB s.length st s = addT st s := by
  cases hs : s.length with
  | zero => rfl
  | succ f =>
    rw [closeB]
    rcases h with h | h
    · rw [if_pos h]
    · rw [h]; split <;> rfl
section
variable {lo gp : Nat} {w : World} {M : List Nat} {st : List El}
set_option maxRecDepth 100000 in
set_option maxHeartbeats 8000000 in
theorem closeBraces_any (h : St lo gp w M st) (hi : Inv st) (s : List UInt8) (hl : ph st ≤ 4194304) (hs : s.length ≤ 1048576) (hst : st.length ≤ 1000) : Calls Tryz.prog 67 #[.pointer (some ⟨gp, 0, none⟩), .string ⟨s.toArray⟩] w fun x w' => x = .returned (.tuple #[]) ∧ ∃ M', St lo gp w' M' (closeB s.length st s) ∧ Fr lo w M w' M' := by
  have J0 : Hid (∃ st' Mr, St lo gp w Mr st' ∧ Fr lo w M w Mr ∧ Inv st' ∧ ph st' ≤ 4194304 ∧ st'.length ≤ 1000 ∧ closeB s.length st' s = closeB s.length st s) := Lib.hid ⟨st, M, h, Fr.refl _ _ _, hi, hl, hst, rfl⟩
  clear h hi
  go_enter Tryz.func67, Tryz.ntmps67
  go_wp2_with fail
  go_loopw [1] (fun i wr => ∃ s' : List UInt8, i = .string ⟨s'.toArray⟩ ∧ s'.length ≤ 1048576 ∧ Hid (∃ st' Mr, St lo gp wr Mr st' ∧ Fr lo w M wr Mr ∧ Inv st' ∧ ph st' ≤ 4194304 ∧ st'.length ≤ 1000 ∧ closeB s'.length st' s' = closeB s.length st s)) (fun i _ => match i with | .string b => b.size | _ => 0)
  case atStart => exact ⟨s, rfl, hs, J0⟩
  case round =>
    obtain ⟨s', rfl, hs', hS⟩ := hrel
    obtain ⟨st', Mr, s1, f1, i1, p1, l1, q1⟩ := hS.out
    have S1 := Lib.hid (And.intro s1 (And.intro f1 (And.intro i1 q1)))
    clear s1 f1 i1 q1 hS J0
    have hz : (⟨s'.toArray⟩ : ByteArray).size = s'.length := by simp [ByteArray.size]
    by_cases h2 : 2 ≤ s'.length
    · have j2 : decide ((s'.length : Int) ≥ 2) = true := by simp only [decide_eq_true_eq]; omega
      go_wp2_with fail
      refine (lastBrace_any S1.out.1 l1).mono ?_
      rintro x w2 ⟨rfl, hb⟩
      have HAT := Lib.hid (lbr_at st')
      have K2 := Lib.hid (S1.out.1.keep hb)
      clear hb
      obtain ⟨q, hq⟩ : ∃ q, braceAt st' = q := ⟨_, rfl⟩
      have HQ := Lib.hid hq
      clear hq
      cases q with
      | none =>
        have h0 : lbr (tops st') = 0 := by rw [HAT.out, HQ.out]
        rw [h0]
        clear h0 HAT
        go_wp2_with fail
        refine (appendText_any K2.out.1 S1.out.2.2.1.ne s' p1 (by omega)).mono ?_
        rintro x w3 ⟨rfl, M3, s3, f3⟩
        have R := Lib.hid (And.intro s3 (S1.out.2.1.trans (K2.out.2.trans f3)))
        clear s3 f3 K2
        go_wp2_with fail
        go_end0
        exact ⟨rfl, M3, by rw [← S1.out.2.2.2, closeB_stop (.inr HQ.out)]; exact R.out.1, R.out.2⟩
      | some i =>
        obtain ⟨a, e, r, h0, hai, he, hir, hpf, hop, halt, hok, hk3⟩ : ∃ a e r, lbr (tops st') = a + 1 ∧ st'.length - 1 - (a + 1) = i ∧ flats i st' = e :: r ∧ Inv r ∧ ph (e :: r) ≤ 4194304 ∧ 2 ≤ e.op.length ∧ a + 1 < st'.length ∧ Ok e ∧ e.kind = 3 := by
          have hi := S1.out.2.2.1
          have hq := HQ.out
          have hlt := braceAt_lt hi hq
          have hi2 := hi.flats i (by omega)
          have hfl := flats_len i st'
          obtain ⟨e, r, he, hok, hk0, hir⟩ := top2 hi2 (by omega)
          have hta := braceAt_flats hi hq
          rw [he] at hta
          have hk3 := brace_top hta
          have hpf := Nat.le_trans (ph_flats i st') p1
          rw [he] at hpf
          have hat := HAT.out
          rw [hq] at hat
          simp only at hat
          exact ⟨st'.length - 2 - i, e, r, by rw [hat]; omega, by omega, he, hir, hpf, (hok.k3 hk3).2, by omega, hok, hk3⟩
        rw [h0]
        have HE := Lib.hid (And.intro hai he)
        have HIR := Lib.hid hir
        have HOK := Lib.hid (And.intro hok hk3)
        clear h0 hai he hir HAT hok hk3
        go_wp2_with fail
        refine (flattenAbove_any K2.out.1 (a + 1) halt l1 p1).mono ?_
        rintro x w3 ⟨rfl, M3, s3, f3⟩
        rw [HE.out.1, HE.out.2] at s3
        have S3 := Lib.hid (And.intro s3 (S1.out.2.1.trans (K2.out.2.trans f3)))
        clear s3 f3 K2
        go_wp2_with fail
        refine (closeBrace_any S3.out.1 HIR.out.ne hop s'.length h2 (by omega) hpf).mono ?_
        rintro x w4 ⟨rfl, M4, s4, f4⟩
        have HST := Lib.hid (closeB_step h2 HQ.out)
        rw [HE.out.2] at HST
        have hk1 := (close1_ge (e :: r) s'.length).1
        have hk2 := close1_le (e :: r) s'.length h2
        have hlen4 := close1_len (e :: r) s'.length
        have hph4 := ph_close1 (e :: r) s'.length
        have hinv4 : Hid (Inv (close1 (e :: r) s'.length).1) := Lib.hid (close1_src HIR.out HOK.out.1 HOK.out.2 s'.length h2).2.1
        have hlr : (e :: r).length ≤ 1000 := by
          have := flats_len i st'
          rw [HE.out.2] at this
          omega
        have T4 := Lib.hid (And.intro s4 (S3.out.2.trans f4))
        clear s4 f4 S3
        generalize hC : close1 (e :: r) s'.length = C at *
        obtain ⟨st4, k⟩ := C
        simp only at *
        have hdr := drop_str s' k hk2
        rw [hz] at hdr
        go_wp2_with fail
        refine ⟨⟨s'.drop k, rfl, by rw [List.length_drop]; omega, Lib.hid ⟨st4, M4, T4.out.1, T4.out.2, hinv4.out, by omega, by omega, by rw [← HST.out]; exact S1.out.2.2.2⟩⟩, ?_⟩
        show (⟨(s'.drop k).toArray⟩ : ByteArray).size < (⟨s'.toArray⟩ : ByteArray).size
        simp only [ByteArray.size, List.size_toArray, List.length_drop]
        omega
    · have j2 : decide ((s'.length : Int) ≥ 2) = false := by simp only [decide_eq_false_iff_not]; omega
      go_wp2_with fail
      refine (appendText_any S1.out.1 S1.out.2.2.1.ne s' p1 (by omega)).mono ?_
      rintro x w3 ⟨rfl, M3, s3, f3⟩
      have R := Lib.hid (And.intro s3 (S1.out.2.1.trans f3))
      clear s3 f3
      go_wp2_with fail
      go_end0
      exact ⟨rfl, M3, by rw [← S1.out.2.2.2, closeB_stop (.inl (by omega))]; exact R.out.1, R.out.2⟩
end
end Go.Proofs.YtdojbnngdlmbgaaGreatDoor.Pa

namespace Go.Proofs.YtdojbnngdlmbgaaGreatDoor.Pa
open Go.RowKit Go.Proofs.YtdojbnngdlmbgaaGreatDoor.Tr
set_option linter.unusedVariables false

section
variable (S P T : ByteArray) (w : World)
theorem hasPre_any (hs : S.size ≤ 4294967296) (hp : P.size ≤ S.size) (hx : S.extract 0 P.size = P) : Calls Tryz.prog 105 #[.string S, .string P] w fun e w' => e = .returned (.bool true) ∧ w' = w := by
  have i1 : decide ((S.size : Int) ≥ (P.size : Int)) = true := by simp only [decide_eq_true_eq]; omega
  have i2 : (P.size : Int) ≤ (S.size : Int) := by omega
  go_enter Tryz.func105, Tryz.ntmps105
  go_wp2_with fail
  go_ret
  exact ⟨rfl, rfl⟩
theorem trimPre_any (hs : S.size ≤ 4294967296) (hp : P.size ≤ S.size) (hx : S.extract 0 P.size = P) (ht : S.extract P.size S.size = T) : Calls Tryz.prog 113 #[.string S, .string P] w fun e w' => e = .returned (.string T) ∧ w' = w := by
  have q : Calls Tryz.prog 140 #[.string S, .string P] w fun e w' => e = .returned (.string T) ∧ w' = w := by
    have i2 : (P.size : Int) ≤ (S.size : Int) := by omega
    have HX := Lib.hid hx
    clear hx
    go_enter Tryz.func140, Tryz.ntmps140
    go_wp2_with fail
    refine (hasPre_any S P w hs hp HX.out).mono ?_
    rintro e w' ⟨rfl, rfl⟩
    go_wp2_with fail
    go_ret
    exact ⟨rfl, rfl⟩
  go_enter Tryz.func113, Tryz.ntmps113
  go_wp2_with fail
  refine q.mono ?_
  rintro e w' ⟨rfl, rfl⟩
  go_wp2_with fail
  go_ret
  exact ⟨rfl, rfl⟩
theorem hasSuf_any (hs : S.size ≤ 4294967296) (n : Nat) (hp : S.size = n + P.size) (hx : S.extract n S.size = P) : Calls Tryz.prog 99 #[.string S, .string P] w fun e w' => e = .returned (.bool true) ∧ w' = w := by
  have i1 : decide ((S.size : Int) ≥ (P.size : Int)) = true := by simp only [decide_eq_true_eq]; omega
  have i3 : (S.size : Int) - (P.size : Int) = (n : Int) := by omega
  have i2 : (n : Int) ≤ (S.size : Int) := by omega
  clear hp
  go_enter Tryz.func99, Tryz.ntmps99
  go_wp2_with fail
  go_ret
  exact ⟨rfl, rfl⟩
theorem trimSuf_any (hs : S.size ≤ 4294967296) (n : Nat) (hp : S.size = n + P.size) (hx : S.extract n S.size = P) (ht : S.extract 0 n = T) : Calls Tryz.prog 112 #[.string S, .string P] w fun e w' => e = .returned (.string T) ∧ w' = w := by
  have q : Calls Tryz.prog 139 #[.string S, .string P] w fun e w' => e = .returned (.string T) ∧ w' = w := by
    have HX := Lib.hid (And.intro hx hp)
    have i3 : (S.size : Int) - (P.size : Int) = (n : Int) := by omega
    have i2 : (n : Int) ≤ (S.size : Int) := by omega
    clear hx hp
    go_enter Tryz.func139, Tryz.ntmps139
    go_wp2_with fail
    refine (hasSuf_any S P w hs n HX.out.2 HX.out.1).mono ?_
    rintro e w' ⟨rfl, rfl⟩
    go_wp2_with fail
    go_ret
    exact ⟨rfl, rfl⟩
  go_enter Tryz.func112, Tryz.ntmps112
  go_wp2_with fail
  refine q.mono ?_
  rintro e w' ⟨rfl, rfl⟩
  go_wp2_with fail
  go_ret
  exact ⟨rfl, rfl⟩
end
theorem ext_app1 (a b : List UInt8) : (⟨(a ++ b).toArray⟩ : ByteArray).extract 0 a.length = ⟨a.toArray⟩ := by
  have e : ∀ x : ByteArray, x = ⟨x.data.toList.toArray⟩ := fun x => rfl
  rw [e ((⟨(a ++ b).toArray⟩ : ByteArray).extract 0 a.length), Lib.extract_data]
  simp
theorem ext_app2 (a b : List UInt8) : (⟨(a ++ b).toArray⟩ : ByteArray).extract a.length (a ++ b).length = ⟨b.toArray⟩ := by
  have e : ∀ x : ByteArray, x = ⟨x.data.toList.toArray⟩ := fun x => rfl
  rw [e ((⟨(a ++ b).toArray⟩ : ByteArray).extract a.length (a ++ b).length), Lib.extract_data]
  simp
theorem bsize (a : List UInt8) : (⟨a.toArray⟩ : ByteArray).size = a.length := by simp [ByteArray.size]
theorem withinNowiki_any (m : List UInt8) (hm : m.length ≤ 1048576) (w : World) : Calls Tryz.prog 61 #[.string ⟨(nowikiL ++ m ++ nowikiR).toArray⟩] w fun e w' => e = .returned (.string ⟨m.toArray⟩) ∧ w' = w := by
  have hL : nowikiL.length = 8 := rfl
  have hR : nowikiR.length = 9 := rfl
  have q1 := trimPre_any ⟨(nowikiL ++ m ++ nowikiR).toArray⟩ ⟨nowikiL.toArray⟩ ⟨(m ++ nowikiR).toArray⟩ w (by rw [bsize]; simp only [List.length_append, hL, hR]; omega) (by rw [bsize, bsize]; simp only [List.length_append]; omega)
    (by rw [bsize, List.append_assoc]; exact ext_app1 _ _) (by rw [bsize, bsize, List.append_assoc]; exact ext_app2 _ _)
  have q2 := trimSuf_any ⟨(m ++ nowikiR).toArray⟩ ⟨nowikiR.toArray⟩ ⟨m.toArray⟩ w (by rw [bsize]; simp only [List.length_append, hR]; omega) m.length (by rw [bsize, bsize, List.length_append])
    (by rw [bsize]; exact ext_app2 _ _) (ext_app1 _ _)
  generalize (⟨(nowikiL ++ m ++ nowikiR).toArray⟩ : ByteArray) = A at q1 ⊢
  generalize (⟨(m ++ nowikiR).toArray⟩ : ByteArray) = B at q1 q2
  generalize (⟨m.toArray⟩ : ByteArray) = C at q2 ⊢
  go_enter Tryz.func61, Tryz.ntmps61
  go_wp2_with fail
  refine Calls.mono q1 ?_
  rintro e w' ⟨rfl, rfl⟩
  go_wp2_with fail
  refine Calls.mono q2 ?_
  rintro e w' ⟨rfl, rfl⟩
  go_wp2_with fail
  go_ret
  exact ⟨rfl, rfl⟩
end Go.Proofs.YtdojbnngdlmbgaaGreatDoor.Pa

namespace Go.Proofs.YtdojbnngdlmbgaaGreatDoor.Pa
open Go.RowKit Go.Proofs.YtdojbnngdlmbgaaGreatDoor.Tr
set_option linter.unusedVariables false

theorem len_closeB : ∀ (f : Nat) (st : List El) (s : List UInt8), (closeB f st s).length ≤ st.length
  | 0, st, s => by rw [closeB, addT, len_addN]; exact Nat.le_refl _
  | f + 1, st, s => by
    rw [closeB]
    split
    · rw [addT, len_addN]; exact Nat.le_refl _
    · cases braceAt st with
      | none => simp only [addT, len_addN]; exact Nat.le_refl _
      | some i =>
        have h1 := len_closeB f (close1 (flats i st) s.length).1 (s.drop (close1 (flats i st) s.length).2)
        have h2 := close1_len (flats i st) s.length
        have h3 := flats_len i st
        simp only
        omega
theorem len_take (st : List El) (k : Nat) (s : List UInt8) (t : Int) (h : st.length ≤ 21) : (take st k s t).length ≤ 21 := by
  have hT : (addT st s).length = st.length := by rw [addT, len_addN]
  have hP : ∀ e : El, (push st e).length ≤ 21 := fun e => by
    unfold push
    split
    · rw [addT, len_addN]; exact h
    · rw [List.length_cons]; omega
  unfold take
  split
  · rw [len_addN]; exact h
  split
  · rw [len_addN]; exact h
  split
  · exact hP _
  split
  · exact hP _
  split
  · exact hP _
  split
  · cases st with
    | nil => simp [bar]
    | cons e r =>
      simp only [bar]
      split
      · simpa using h
      · omega
  split
  · cases st with
    | nil => simp [equal]
    | cons e r =>
      simp only [equal]
      split
      · omega
      · simpa using h
  split
  · cases st with
    | nil => simp [linkEnd]
    | cons e r =>
      simp only [linkEnd]
      split
      · rw [addT, len_addN, len_flatten]; omega
      · omega
  split
  · unfold tagEnd
    cases tagAt t st with
    | none => simp only; omega
    | some i =>
      simp only
      have h3 := flats_len i st
      cases hq : flats i st with
      | nil => simp
      | cons e r =>
        rw [hq, List.length_cons] at h3
        simp only [len_addN]; omega
  split
  · exact Nat.le_trans (len_closeB _ _ _) h
  · omega
theorem Inv.link {e : El} {r : List El} (h : Inv (e :: r)) : e.kind = 1 → r ≠ [] := by
  intro hk z
  subst z
  have := h.1
  omega
/-- A node with a text alone. -/
theorem St.node {lo gp : Nat} {w : World} {M : List Nat} {st : List El} (h : St lo gp w M st) (k : Nat) (hk : k ≤ 1000) (s : List UInt8) (hs : s.length ≤ 1048576) : St lo gp (w.alloc (.cells #[.int .i64 (k : Int), .int .i64 0, .string ⟨s.toArray⟩, .slice none 0 0, .slice none 0 0] 62)) M st ∧ Fr lo w M (w.alloc (.cells #[.int .i64 (k : Int), .int .i64 0, .string ⟨s.toArray⟩, .slice none 0 0, .slice none 0 0] 62)) M ∧
    LX (w.alloc (.cells #[.int .i64 (k : Int), .int .i64 0, .string ⟨s.toArray⟩, .slice none 0 0, .slice none 0 0] 62)) (Xm lo (w.alloc (.cells #[.int .i64 (k : Int), .int .i64 0, .string ⟨s.toArray⟩, .slice none 0 0, .slice none 0 0] 62)) M) (.slice (some ⟨w.heap.size, 0, none⟩) 1 1) [.mk k 0 ⟨s.toArray⟩ [] []] := by
  have F := h.fresh (.cells #[.int .i64 (k : Int), .int .i64 0, .string ⟨s.toArray⟩, .slice none 0 0, .slice none 0 0] 62)
  refine ⟨F.1, F.2.1, LX.lit (heap_alloc_new w _) F.2.2 (fit_nat hk) (fit_nat (n := 0) (by omega)) (LX.nil _ _) (AX.nil _ _) ?_⟩
  rw [szN_eq]
  simp only [Nd.text, Nd.kids, Nd.args, sz_nil, szA_nil, ByteArray.size, List.size_toArray]
  omega
section
variable {lo gp : Nat} {w : World} {M : List Nat} {st : List El}
set_option maxRecDepth 100000 in
set_option maxHeartbeats 16000000 in
theorem take_any (h : St lo gp w M st) (hi : Inv st) (k : Nat) (s : List UInt8) (t : Int) (hf : TF k s t) (hk1 : 1 ≤ k) (hk : k ≤ 12) (hl : ph st ≤ 4194304) (hs : s.length ≤ 1048576) (hst : st.length ≤ 21) :
    Calls Tryz.prog 30 #[.pointer (some ⟨gp, 0, none⟩), .int .i64 (k : Int), .string ⟨s.toArray⟩, .int .i64 t] w fun x w' => x = .returned (.tuple #[]) ∧ ∃ M', St lo gp w' M' (take st k s t) ∧ Fr lo w M w' M' := by
  obtain ⟨e, r, rfl⟩ : ∃ e r, st = e :: r := by
    cases st with
    | nil => exact absurd rfl hi.ne
    | cons e r => exact ⟨e, r, rfl⟩
  have H := Lib.hid h; have HI := Lib.hid hi; have HT := Lib.hid hf
  clear h hi hf
  go_enter Tryz.func30, Tryz.ntmps30
  have hcase : k = 1 ∨ k = 2 ∨ k = 3 ∨ k = 4 ∨ k = 5 ∨ k = 6 ∨ k = 7 ∨ k = 8 ∨ k = 9 ∨ k = 10 ∨ k = 11 ∨ k = 12 := by omega
  rcases hcase with rfl | rfl | rfl | rfl | rfl | rfl | rfl | rfl | rfl | rfl | rfl | rfl
  · go_wp2_with fail
    refine (appendText_any H.out (by simp) s hl (by omega)).mono ?_
    rintro x w1 ⟨rfl, R⟩
    have R := Lib.hid R
    go_wp2_with fail
    go_end0
    exact ⟨rfl, R.out⟩
  · go_wp2_with fail
    refine (appendText_any H.out (by simp) s hl (by omega)).mono ?_
    rintro x w1 ⟨rfl, R⟩
    have R := Lib.hid R
    go_wp2_with fail
    go_end0
    exact ⟨rfl, R.out⟩
  · go_wp2_with fail
    refine (push_any H.out (by simp) ⟨3, s, 0, [], []⟩ rfl rfl hl hs (by omega)).mono ?_
    rintro x w1 ⟨rfl, R⟩
    have R := Lib.hid R
    go_wp2_with fail
    go_end0
    exact ⟨rfl, R.out⟩
  · go_wp2_with fail
    refine (closeBraces_any H.out HI.out s hl hs (by omega)).mono ?_
    rintro x w1 ⟨rfl, R⟩
    have R := Lib.hid R
    go_wp2_with fail
    go_end0
    exact ⟨rfl, R.out⟩
  · go_wp2_with fail
    refine (push_any H.out (by simp) ⟨1, s, 0, [], []⟩ rfl rfl hl hs (by omega)).mono ?_
    rintro x w1 ⟨rfl, R⟩
    have R := Lib.hid R
    go_wp2_with fail
    go_end0
    exact ⟨rfl, R.out⟩
  · go_wp2_with fail
    refine (closeLink_any H.out s hl hs HI.out.link).mono ?_
    rintro x w1 ⟨rfl, R⟩
    have R := Lib.hid R
    go_wp2_with fail
    go_end0
    exact ⟨rfl, R.out⟩
  · go_wp2_with fail
    refine (addArgument_any H.out s hl hs).mono ?_
    rintro x w1 ⟨rfl, R⟩
    have R := Lib.hid R
    go_wp2_with fail
    go_end0
    exact ⟨rfl, R.out⟩
  · go_wp2_with fail
    refine (nameArgument_any H.out s hl hs).mono ?_
    rintro x w1 ⟨rfl, R⟩
    have R := Lib.hid R
    go_wp2_with fail
    go_end0
    exact ⟨rfl, R.out⟩
  · have N := Lib.hid (H.out.node 2 (by omega) s hs)
    go_wp2_with fail
    refine (appendNodes_any N.out.1 (by simp) N.out.2.2 hl).mono ?_
    rintro x w1 ⟨rfl, M1, s1, f1⟩
    have R := Lib.hid (And.intro s1 (N.out.2.1.trans f1))
    clear s1 f1 N
    go_wp2_with fail
    go_end0
    exact ⟨rfl, M1, R.out⟩
  · have hw : s = nowikiL ++ within s ++ nowikiR := HT.out.c10 rfl
    have hwl : (within s).length ≤ 1048576 := by unfold within; rw [List.length_take, List.length_drop]; omega
    have N := Lib.hid (H.out.node 3 (by omega) (within s) hwl)
    have W := withinNowiki_any (within s) hwl w
    rw [← hw] at W
    have HW := Lib.hid W
    clear hw W
    go_wp2_with fail
    refine (HW.out).mono ?_
    rintro x w1 ⟨rfl, rfl⟩
    clear HW
    go_wp2_with fail
    refine (appendNodes_any N.out.1 (by simp) N.out.2.2 hl).mono ?_
    rintro x w1 ⟨rfl, M1, s1, f1⟩
    have R := Lib.hid (And.intro s1 (N.out.2.1.trans f1))
    clear s1 f1 N
    go_wp2_with fail
    go_end0
    exact ⟨rfl, M1, R.out⟩
  · go_wp2_with fail
    refine (push_any H.out (by simp) ⟨2, s, t, [], []⟩ rfl rfl hl hs (by omega)).mono ?_
    rintro x w1 ⟨rfl, R⟩
    have R := Lib.hid R
    go_wp2_with fail
    go_end0
    exact ⟨rfl, R.out⟩
  · go_wp2_with fail
    refine (closeTag_any H.out HI.out s t hl hs (by omega)).mono ?_
    rintro x w1 ⟨rfl, R⟩
    have R := Lib.hid R
    go_wp2_with fail
    go_end0
    exact ⟨rfl, R.out⟩
end
end Go.Proofs.YtdojbnngdlmbgaaGreatDoor.Pa
