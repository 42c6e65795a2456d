/-
  The contract of package tree's Join.
-/
import Derived.Test.YtdojbnngdlmbgaaGreatDoorTrJt
namespace Go.Proofs.YtdojbnngdlmbgaaGreatDoor.Tr
open Go.RowKit
set_option linter.unusedVariables false

def zeroN : Array Value := #[.int .i64 0, .int .i64 0, .string ⟨#[]⟩, .slice none 0 0, .slice none 0 0]
def FF (b : Nat) (vr : Value) (S : ByteArray) (n : Nat) : Nat → Value → World → Prop
  | 0, v, _ => v = vr
  | 1, v, _ => v = .string S
  | 2, v, _ => v = .agg #[.int .i64 1, .int .i64 0, .string S, .slice none 0 0, .slice none 0 0]
  | 3, v, _ => v = .int .i64 (n : Int)
  | _, v, w => ∃ g, v = .slice (some ⟨g, 0, none⟩) 1 1 ∧ g ≠ b ∧ w.heap[g]? = some (.cells zeroN 62)
theorem FF.st {w0 : World} {u : List UInt8} {vr : Value} {S : ByteArray} {n : Nat} : ∀ i v w w', FF (w0.heap.size + 1) vr S n i v w → Rk w0 u w w' → FF (w0.heap.size + 1) vr S n i v w' := by
  intro i v w w' h hb
  unfold FF at h ⊢
  split <;> simp only at h ⊢
  all_goals first
    | exact h
    | exact (let ⟨g, h1, h2, h3⟩ := h; ⟨g, h1, h2, (hb.block (Array.getElem?_eq_some_iff.1 h3).1 h2 (NB.cells h3 (by decide))).trans h3⟩)
section
variable {E : Operand → Value} {o : Oper} {W : World}
theorem x_callS {x : Operand} {t : Array TypeId} (ho : o.op = .call { callee := .value (.func 55), args := #[x], argTypes := t }) {u : Value} (hE : E (.func 55) = .func (.func 55) #[] #[]) (hx : E x = u) : (execOp E o).run Tryz.prog W = .ok (.enter 55 #[u]) W := by
  unfold execOp
  rw [ho]
  go_simp
theorem x_callB {x : Operand} {t : Array TypeId} (ho : o.op = .call { callee := .value (.func 72), args := #[x], argTypes := t }) {u : Value} (hE : E (.func 72) = .func (.func 72) #[] #[]) (hx : E x = u) : (execOp E o).run Tryz.prog W = .ok (.enter 72 #[u]) W := by
  unfold execOp
  rw [ho]
  go_simp
end
/-- Blocks that have nothing to do with the joining stay. -/
def Kf (w : World) (v : Value) (wr w' : World) : Prop := ∀ g, g < wr.heap.size → g ≠ w.heap.size → g ≠ w.heap.size + 1 → NB wr g → some g ≠ v.ownBlock → w'.heap[g]? = wr.heap[g]?
theorem Jw.jcell {d : Nat} {w : World} {v : Value} {out : List Nd} {x : List UInt8} {wr : World} (h : Jw d w v out x wr) : wr.cell? ⟨w.heap.size, 0, none⟩ = some v := cell_heap h.hj rfl
set_option maxRecDepth 100000 in
set_option maxHeartbeats 4000000 in
theorem flush_any (d : Nat) (w : World) (v : Value) (out : List Nd) (x : List UInt8) (wr : World) (h : Jw (d + 1) w v out x wr) (hl : out.length ≤ 33554432) (hxl : x.length ≤ 4611686018427387904) :
    Calls Tryz.prog 70 #[.pointer (some ⟨w.heap.size + 1, 0, none⟩), .pointer (some ⟨w.heap.size, 0, none⟩)] wr fun e w' => e = .returned (.tuple #[]) ∧ (∃ v', Jw (d + 1) w v' (flP out x) [] w') ∧ Kf w v wr w' := by
  obtain ⟨A, c, rfl, hc1, hc2⟩ := h.row.form
  have hbl : (Lib.byteCells x).length = x.length := Lib.byteCells_length _
  have H := Lib.hid h; clear h
  go_enter Tryz.func70, Tryz.ntmps70
  go_wp2_with fail
  refine (Tryz.Builder_Lenf (w.heap.size + 1) (w.heap.size + 1) (Lib.byteCells x) wr H.out.bd).mono ?_
  rintro e w1 ⟨rfl, rfl⟩
  rw [hbl]
  clear hbl
  cases x with
  | nil =>
    go_wp2_with fail
    go_end0
    exact ⟨rfl, ⟨_, H.out⟩, fun _ _ _ _ _ _ => rfl⟩
  | cons c0 xs =>
    have hpos : decide ((((c0 :: xs).length : Nat) : Int) > 0) = true := by simp
    generalize hX : c0 :: xs = X at *
    have hlen : (0 : Int) < (X.length : Int) := by rw [← hX]; simp
    go_wp2_with fail
    refine region_ki (Rk w X) (Rk.refl _ _ _) [4, 5, 6, 7, 8] [4, 5, 6, 7, 8, 9, 10] [(0, .pointer (some ⟨w.heap.size + 1, 0, none⟩)), (1, .pointer (some ⟨w.heap.size, 0, none⟩))] (FF (w.heap.size + 1) (.slice A out.length c) ⟨X.toArray⟩ out.length) (by kernel_rfl) (n := 5) (by kernel_rfl) (by kernel_rfl) (fun j v hj => start2 hj rfl rfl) ?_
    intro l0 ds hl0 hds hT
    have HL0 := Lib.hid hl0; have HDS := Lib.hid hds; clear hl0 hds
    have hD := Lib.hid (H.out.rk (Rk.of ((Below.refl w1.heap.size w1).drew) (by have := H.out.lo; omega)))
    refine ⟨?_, ?_⟩
    · intro i hi S a w' hI hd
      have hJ := hD.out.rk hI.bl
      have hlo := hJ.lo
      match i, hi with
      | 0, _ => exact head_value hI hT (Rk.tr w X) FF.st 0 4 rfl rfl rfl rfl (x_loadN rfl (hI.lt.eval 1 rfl) hJ.jcell) (Rk.refl _ _ _) rfl
      | 1, _ => exact head_call hI hT (Rk.tr w X) FF.st 1 5 rfl rfl rfl rfl (x_callS rfl rfl (hI.lt.eval 0 rfl)) ((Tryz.Builder_String_anyk (w.heap.size + 1) (w.heap.size + 1) X w' hJ.bd (by omega)).mono fun e w3 ⟨h1, h2, h3, h4⟩ => ⟨_, h1, ⟨⟨h3, h4⟩, h3.size, fun _ => h2⟩, rfl⟩)
      | 2, _ =>
        have k1 : a.eval (.tmp 5) = .string ⟨X.toArray⟩ := hI.known 1 5 (hd 1 (by kernel_rfl)) rfl
        exact head_value hI hT (Rk.tr w X) FF.st 2 6 rfl rfl rfl rfl (x_buildT rfl rfl k1) (Rk.refl _ _ _) rfl
      | 3, _ =>
        have k0 : a.eval (.tmp 4) = .slice A out.length c := hI.known 0 4 (hd 0 (by kernel_rfl)) rfl
        exact head_value hI hT (Rk.tr w X) FF.st 3 7 rfl rfl rfl rfl (x_lenN (t := #[]) rfl k0) (Rk.refl _ _ _) rfl
      | 4, _ =>
        have hbb : Below w'.heap.size w' (w'.alloc (.cells zeroN 62)) := (Below.refl _ _).alloc (Nat.le_refl _) _
        exact head_value hI hT (Rk.tr w X) FF.st 4 8 rfl rfl rfl rfl (x_bsN rfl rfl) (Rk.of hbb (by omega)) ⟨_, rfl, by omega, heap_alloc_new w' _⟩
    · intro a w' hL hb hk
      have hJ := hD.out.rk hb
      have k0 : a.eval (.tmp 4) = .slice A out.length c := hk 0 4 (by decide) rfl
      have k2 : a.eval (.tmp 6) = .agg #[.int .i64 1, .int .i64 0, .string ⟨X.toArray⟩, .slice none 0 0, .slice none 0 0] := hk 2 6 (by decide) rfl
      have k3 : a.eval (.tmp 7) = .int .i64 (out.length : Int) := hk 3 7 (by decide) rfl
      obtain ⟨g, e1, _, h0⟩ := hk 4 8 (by decide) rfl
      have k4 : a.eval (.tmp 8) = .slice (some ⟨g, 0, none⟩) 1 1 := e1
      have hn12 : l0.length = 12 := by rw [HL0.out]; rfl
      refine tail_app _ 4 6 7 8 9 10 1 hL hJ hl (by omega) h0 (by unfold Fit; omega) (by unfold Fit; omega) (LRx_nil d _ _ 0 none (Nat.zero_le _)) (ARx_nil (d + 1) _ _ 0 none (Nat.zero_le _)) k0 k2 k3 k4 (hL.eval 1 rfl) (by decide) ⟨by decide, by omega⟩ ⟨by decide, by omega⟩ rfl rfl rfl rfl rfl rfl rfl rfl rfl rfl rfl rfl rfl rfl rfl rfl rfl
        (by kernel_rfl) (by kernel_rfl) (by kernel_rfl) (by kernel_rfl) (by kernel_rfl) (by kernel_rfl) (by kernel_rfl) (by kernel_rfl) (by kernel_rfl) (by kernel_rfl) ?_
      intro a9 v9 w9 hL9 hJ9 hfr hs9
      have HK : Hid (Kf w (.slice A out.length c) w1 w9) := Lib.hid (fun g h1 h2 h3 h4 h5 => (hfr g (Nat.lt_of_lt_of_le h1 hb.sz) h2 h5).trans (hb.block (by exact h1) h3 h4))
      obtain ⟨u, rfl, _⟩ := hL9.lit
      rw [HL0.out, HDS.out]
      have H9 := Lib.hid hJ9
      have hfl : flP out X = out ++ [Nd.mk 1 0 ⟨X.toArray⟩ [] []] := by rw [← hX]; rfl
      have HF := Lib.hid hfl
      have HX := Lib.hid hX
      have SZ : Hid (w1.heap.size ≤ w9.heap.size) := Lib.hid (Nat.le_trans hb.sz hs9)
      clear hfr hs9 hJ9 hL9 hL hk k0 k2 k3 k4 e1 h0 hJ HL0 HDS hT hn12 hfl hX hpos hlen
      simp only [setAll, List.set_cons_zero, List.set_cons_succ]
      go_wp2_with fail
      refine (Reset (w.heap.size + 1) (w.heap.size + 1) X w9 H9.out.bd).mono ?_
      rintro e w10 ⟨rfl, b1, b2, b3⟩
      have H10 := Lib.hid (H9.out.step b2 b3 b1)
      have HK2 : Hid (Kf w (.slice A out.length c) w1 w10) := Lib.hid (fun g h1 h2 h3 h4 h5 => by
        have e := HK.out g h1 h2 h3 h4 h5
        have hg : g < w9.heap.size := Nat.lt_of_lt_of_le h1 (SZ.out)
        have e2 := Array.getElem?_eq_getElem hg
        have q := b2.kept g _ e2 (fun q => h3 (Option.some.inj q)) (fun c fz q => (h4.same e) c fz (by rw [e2, q]))
        rw [q, ← e2, e])
      clear b1 b2 b3
      go_wp2_with fail
      go_end0
      exact ⟨rfl, ⟨v9, by rw [HX.out, HF.out]; exact H10.out⟩, HK2.out⟩
/-- What the operations of the region yield that appends a node joined below. -/
def FG (d a b : Nat) (vr nv : Value) (k t : Int) (s : ByteArray) (ks : List Nd) (rs : List Ar) (n : Nat) : Nat → Value → World → Prop
  | 0, v, _ => v = vr
  | 1, v, _ => v = nv
  | 2, v, w => ∃ A c A' c', v = .agg #[.int .i64 k, .int .i64 t, .string s, .slice A (join ks).length c, .slice A' (joinA rs).length c'] ∧ LRx d w (In a w) (.slice A (join ks).length c) (join ks) ∧ ARx d w (In a w) (.slice A' (joinA rs).length c') (joinA rs)
  | 3, v, _ => v = .int .i64 (n : Int)
  | _, v, w => ∃ g, v = .slice (some ⟨g, 0, none⟩) 1 1 ∧ g ≠ b ∧ w.heap[g]? = some (.cells zeroN 62)
theorem FG.st {w0 : World} {u : List UInt8} {d a : Nat} {vr nv : Value} {k t : Int} {s : ByteArray} {ks : List Nd} {rs : List Ar} {n : Nat} (ha : w0.heap.size + 2 ≤ a) : ∀ i v w w', FG d a (w0.heap.size + 1) vr nv k t s ks rs n i v w → Rk w0 u w w' → FG d a (w0.heap.size + 1) vr nv k t s ks rs n i v w' := by
  intro i v w w' h hb
  have same : ∀ g, In a w g → w'.heap[g]? = w.heap[g]? := fun g hg => hb.block hg.2.1 (by have := hg.1; omega) hg.2.2
  have more : ∀ g, In a w g → In a w' g := fun g hg => ⟨hg.1, Nat.lt_of_lt_of_le hg.2.1 hb.sz, hg.2.2.same (same g hg)⟩
  unfold FG at h ⊢
  split <;> simp only at h ⊢
  all_goals first
    | exact h
    | exact (let ⟨g, h1, h2, h3⟩ := h; ⟨g, h1, h2, (hb.block (Array.getElem?_eq_some_iff.1 h3).1 h2 (NB.cells h3 (by decide))).trans h3⟩)
    | exact (let ⟨A, c, A', c', h1, h2, h3⟩ := h; ⟨A, c, A', c', h1, h2.imp more (fun p hp => World.cell?_of_block (same _ hp)), ARx.imp h3 more (fun p hp => World.cell?_of_block (same _ hp))⟩)
theorem Jw.nd {d : Nat} {w : World} {v : Value} {out : List Nd} {x : List UInt8} {wr : World} (h : Jw d w v out x wr) (o : Obj) : Jw d w v out x (wr.alloc o) := h.rk (Rk.of ((Below.refl _ _).alloc (Nat.le_refl _) _) (by have := h.lo; omega))
set_option maxRecDepth 100000 in
set_option maxHeartbeats 8000000 in
theorem Join_step (d : Nat) (hB0 : JnB d) : JnL 34 (d + 1) := by
  intro B v l w h hB
  have hz := h.1
  obtain ⟨A, c, rfl, ha1, ha2, hln, R⟩ := h.open
  have R' := Lib.hid R; clear R h
  have T0 := two_below w (Obj.cells #[Value.slice none 0 0] 27) (Obj.cells #[Value.pointer none, Value.slice none 0 0] 105)
  have J0 : Hid (∃ v, Jw (d + 1) w v (foJ (l.take 0)).1 (foJ (l.take 0)).2 ((w.alloc (Obj.cells #[Value.slice none 0 0] 27)).alloc (Obj.cells #[Value.pointer none, Value.slice none 0 0] 105))) := Lib.hid ⟨.slice none 0 0, T0, heap_alloc2_old w _ _, .inl ⟨Nat.le_refl _, _, heap_alloc2_new w _ _, ⟨rfl, .inl ⟨rfl, rfl⟩⟩, by simp [Value.ownBlock]⟩, RowN.nil _ _ _, by simp⟩
  clear T0
  go_enter Tryz.func34, Tryz.ntmps34
  go_wp2_with fail
  go_loopw [11] (fun i wr => ∃ k : Nat, k ≤ l.length ∧ i = .int .i64 k ∧ Hid (∃ v, Jw (d + 1) w v (foJ (l.take k)).1 (foJ (l.take k)).2 wr)) (fun i _ => l.length - (intOf i).toNat)
  case atStart => exact ⟨0, Nat.zero_le _, rfl, J0⟩
  case round =>
    obtain ⟨k, hk, rfl, hS⟩ := hrel
    have hlen := foJ_len l k
    by_cases hlt : k < l.length
    · obtain ⟨vr, hS⟩ := hS.out
      have HS := Lib.hid hS; clear hS
      obtain ⟨g, o, rfl, hg, q⟩ := R'.out (by omega)
      obtain ⟨vk, va, x1, x2, x3, x4, x5, f1, f2, x6, x7⟩ := q k l[k] (List.getElem?_eq_getElem hlt)
      obtain ⟨Ak, ck, rfl⟩ := x6.form
      obtain ⟨Aa, ca, rfl⟩ := ARd.form (d := d) x7
      have hcell : ∀ i, wr.cell? ⟨g, i, none⟩ = w.cell? ⟨g, i, none⟩ := fun i => HS.out.bl.cell (by show g < _; omega)
      rw [← hcell] at x1 x2 x3 x4 x5
      clear q hcell
      have hts : l[k].text.size ≤ 16777216 := by
        have h1 := sz_mem (List.getElem_mem hlt)
        rw [szN_eq] at h1; omega
      have hzn : szN l[k] ≤ 16777216 := Nat.le_trans (sz_mem (List.getElem_mem hlt)) hz
      have HT := Lib.hid (foJ_take hlt)
      have HV : Hid (NV d w B (.agg #[.int .i64 l[k].kind, .int .i64 l[k].tag, .string l[k].text, .slice Ak l[k].kids.length ck, .slice Aa l[k].args.length ca]) l[k]) := Lib.hid ⟨_, _, rfl, hzn, f1, f2, x6, x7⟩
      clear x6 x7 hzn
      generalize l[k] = nd at *
      obtain ⟨kd, tg, tx, ks, rs⟩ := nd
      simp only [Nd.kind, Nd.tag, Nd.text, Nd.kids, Nd.args] at x1 x2 x3 x4 x5 hts f1 f2 HV
      generalize hfo : foJ (l.take k) = P at *
      obtain ⟨out, x⟩ := P
      simp only at hlen HS
      have HJ := Lib.hid (HS.out.nd (Obj.cells #[Value.int .i64 kd, Value.int .i64 tg, Value.string tx, Value.slice Ak ks.length ck, Value.slice Aa rs.length ca] 62))
      by_cases h1 : kd = 1
      · subst h1
        go_wp2_with fail
        refine (WS (w.heap.size + 1) (w.heap.size + 1) x tx _ HJ.out.bd (by omega) (by have := HJ.out.lo; omega)).mono ?_
        rintro e w2 ⟨rfl, hb2, hf2⟩
        have J2 := Lib.hid (HJ.out.step hf2 (hf2.below.size) hb2)
        clear hb2 hf2
        go_wp2_with fail
        go_roundw
        case rel => exact ⟨k + 1, by omega, by go_num, Lib.hid ⟨vr, by rw [HT.out]; simpa [stJ, Nd.kind, Nd.text] using J2.out⟩⟩
        case measure => exact meas hlt
      have e1 : (kd == 1) = false := by simpa using h1
      go_wp2_with fail
      refine (flush_any d w vr out x _ HJ.out (by omega) (by omega)).mono ?_
      rintro e w2 ⟨rfl, ⟨v2, j2⟩, kf⟩
      have hlo := HS.out.lo
      have q7 : w2.heap[wr.heap.size]? = some (Obj.cells #[Value.int .i64 kd, Value.int .i64 tg, Value.string tx, Value.slice Ak ks.length ck, Value.slice Aa rs.length ca] 62) := by
        refine (kf wr.heap.size (by simp) (by omega) (by omega) (NB.cells (heap_alloc_new wr _) (by decide)) ?_).trans (heap_alloc_new wr _)
        obtain ⟨ys, o, _⟩ := HS.out.row
        intro e
        have := (own_lt o _ e.symm).2
        omega
      have hbw : Below w.heap.size w w2 := j2.bl
      obtain ⟨A2, c2, rfl, hc1, hc2⟩ := j2.row.form
      have hl2 := flP_len out x
      have hD := Lib.hid (j2.rk (Rk.of ((Below.refl w2.heap.size w2).drew) (by have := j2.lo; omega)))
      have hlo2 := j2.lo
      have H7 := Lib.hid q7
      have HBW := Lib.hid hbw
      clear j2 kf q7 HJ x1 x2 x3 x4 x5 hbw hc1 hc2
      generalize hfl : flP out x = out2 at *
      have HFL := Lib.hid hfl; clear hfl
      go_wp2_with fail
      refine region_ki (Rk w []) (Rk.refl _ _ _) [23, 24, 25, 26, 27] [23, 24, 25, 26, 27, 28, 29] [(3, .pointer (some ⟨w.heap.size, 0, none⟩)), (7, .pointer (some ⟨wr.heap.size, 0, none⟩))] (FG (d + 1) w2.drew.heap.size (w.heap.size + 1) (.slice A2 out2.length c2) (.agg #[Value.int .i64 kd, Value.int .i64 tg, Value.string tx, Value.slice Ak ks.length ck, Value.slice Aa rs.length ca]) kd tg tx ks rs out2.length) (by kernel_rfl) (n := 5) (by kernel_rfl) (by kernel_rfl) (fun j v hj => start2 hj rfl rfl) ?_
      intro l0 ds hl0 hds hT
      have HL0 := Lib.hid hl0; have HDS := Lib.hid hds; clear hl0 hds
      have hst := FG.st (w0 := w) (u := []) (d := d + 1) (a := w2.drew.heap.size) (vr := .slice A2 out2.length c2) (nv := .agg #[Value.int .i64 kd, Value.int .i64 tg, Value.string tx, Value.slice Ak ks.length ck, Value.slice Aa rs.length ca]) (k := kd) (t := tg) (s := tx) (ks := ks) (rs := rs) (n := out2.length) hlo2
      have h7lt : wr.heap.size < w2.heap.size := (Array.getElem?_eq_some_iff.1 H7.out).1
      refine ⟨?_, ?_⟩
      · intro i hi S a w' hI hd
        have hJ := hD.out.rk hI.bl
        have hlo3 := hJ.lo
        have h7 : w'.heap[wr.heap.size]? = some (Obj.cells #[Value.int .i64 kd, Value.int .i64 tg, Value.string tx, Value.slice Ak ks.length ck, Value.slice Aa rs.length ca] 62) := (hI.bl.block h7lt (by omega) (NB.cells H7.out (by decide))).trans H7.out
        match i, hi with
        | 0, _ => exact head_value hI hT (Rk.tr w []) hst 0 23 rfl rfl rfl rfl (x_loadN rfl (hI.lt.eval 3 rfl) hJ.jcell) (Rk.refl _ _ _) rfl
        | 1, _ => exact head_value hI hT (Rk.tr w []) hst 1 24 rfl rfl rfl rfl (x_loadW rfl (hI.lt.eval 7 rfl) h7) (Rk.refl _ _ _) rfl
        | 2, _ =>
          have k1 : a.eval (.tmp 24) = .agg #[Value.int .i64 kd, Value.int .i64 tg, Value.string tx, Value.slice Ak ks.length ck, Value.slice Aa rs.length ca] := hI.known 1 24 (hd 1 (by kernel_rfl)) rfl
          refine head_call hI hT (Rk.tr w []) hst 2 25 rfl rfl rfl rfl (x_callB rfl rfl k1) ((hB0 B _ _ w' (HV.out.below hJ.bl hB (Nat.le_refl _)) (Nat.le_trans hB hJ.bl.size)).mono fun e w3 ⟨vk, va, h1, h2, h3, h4⟩ => ⟨_, h1, Rk.of h4 (by omega), ?_⟩)
          obtain ⟨Bk, bk, rfl⟩ := h2.form
          obtain ⟨Ba, ba, rfl⟩ := ARx.form h3
          exact ⟨Bk, bk, Ba, ba, rfl, In.lower h2 hI.bl.sz, ARx.imp h3 (fun g hg => ⟨Nat.le_trans hI.bl.sz hg.1, hg.2⟩) fun _ _ => rfl⟩
        | 3, _ =>
          have k0 : a.eval (.tmp 23) = .slice A2 out2.length c2 := hI.known 0 23 (hd 0 (by kernel_rfl)) rfl
          exact head_value hI hT (Rk.tr w []) hst 3 26 rfl rfl rfl rfl (x_lenN (t := #[]) rfl k0) (Rk.refl _ _ _) rfl
        | 4, _ =>
          have hbb : Below w'.heap.size w' (w'.alloc (.cells zeroN 62)) := (Below.refl _ _).alloc (Nat.le_refl _) _
          exact head_value hI hT (Rk.tr w []) hst 4 27 rfl rfl rfl rfl (x_bsN rfl rfl) (Rk.of hbb (by omega)) ⟨_, rfl, by omega, heap_alloc_new w' _⟩
      · intro a w' hL hb hk
        have hJ := hD.out.rk hb
        have k0 : a.eval (.tmp 23) = .slice A2 out2.length c2 := hk 0 23 (by decide) rfl
        obtain ⟨Bk, bk, Ba, ba, e2, g2, g3⟩ := hk 2 25 (by decide) rfl
        have k2 : a.eval (.tmp 25) = .agg #[.int .i64 kd, .int .i64 tg, .string tx, .slice Bk (join ks).length bk, .slice Ba (joinA rs).length ba] := e2
        have k3 : a.eval (.tmp 26) = .int .i64 (out2.length : Int) := hk 3 26 (by decide) rfl
        obtain ⟨g, e1, _, h0⟩ := hk 4 27 (by decide) rfl
        have k4 : a.eval (.tmp 27) = .slice (some ⟨g, 0, none⟩) 1 1 := e1
        have hn34 : l0.length = 34 := by rw [HL0.out]; rfl
        have up : ∀ q, In w2.drew.heap.size w' q → Out (w.heap.size + 2) w' (Value.slice A2 out2.length c2).ownBlock q := fun q hq => ⟨Nat.le_trans hlo2 hq.1, hq.2.1, (fun e => by
          obtain ⟨ys, o, _⟩ := hD.out.row
          have := (own_lt o _ e.symm).2
          have h9 := hq.1
          omega), hq.2.2⟩
        refine tail_app _ 23 25 26 27 28 29 3 hL hJ (by omega) (by omega) h0 f1 f2 (g2.imp up fun _ _ => rfl) (ARx.imp g3 up fun _ _ => rfl) k0 k2 k3 k4 (hL.eval 3 rfl) (by decide) ⟨by decide, by omega⟩ ⟨by decide, by omega⟩ rfl rfl rfl rfl rfl rfl rfl rfl rfl rfl rfl rfl rfl rfl rfl rfl rfl
          (by kernel_rfl) (by kernel_rfl) (by kernel_rfl) (by kernel_rfl) (by kernel_rfl) (by kernel_rfl) (by kernel_rfl) (by kernel_rfl) (by kernel_rfl) (by kernel_rfl) ?_
        intro a9 v9 w9 hL9 hJ9 _ _
        obtain ⟨u, rfl, _⟩ := hL9.lit
        rw [HL0.out, HDS.out]
        have H9 := Lib.hid hJ9
        clear hJ9 hL9 hL hk k0 k2 k3 k4 e1 e2 g2 g3 h0 hJ HL0 HDS hT hn34 up hst
        simp only [setAll, List.set_cons_zero, List.set_cons_succ]
        go_wp2_with fail
        go_roundw
        case rel => exact ⟨k + 1, by omega, by go_num, Lib.hid ⟨v9, by rw [HT.out]; simpa [stJ, Nd.kind, h1, HFL.out, jb, Nd.tag, Nd.text, Nd.kids, Nd.args] using H9.out⟩⟩
        case measure => exact meas hlt
    · have e : k = l.length := by omega
      subst e
      obtain ⟨vr, hS⟩ := hS.out
      rw [List.take_length] at hS hlen
      have HS := Lib.hid hS; clear hS
      go_wp2_with fail
      refine (flush_any d w vr _ _ wr HS.out (by omega) (by omega)).mono ?_
      rintro e w2 ⟨rfl, ⟨v2, j2⟩, kf⟩
      obtain ⟨A2, c2, rfl, _, _⟩ := j2.row.form
      have c0 := j2.jcell
      have HJ2 := Lib.hid j2; clear j2 kf
      go_wp2_with fail
      go_ret
      have hr := HJ2.out.row.rx (by rw [foJ_join]; exact Nat.le_trans (sz_join l) hz)
      rw [foJ_join] at hr
      refine ⟨_, rfl, ?_, HJ2.out.bl⟩
      rw [foJ_join]
      exact hr.imp (fun g hg => ⟨by have := hg.1; omega, hg.2⟩) fun _ _ => rfl
end Go.Proofs.YtdojbnngdlmbgaaGreatDoor.Tr
