/-
  The contract of the reference's node.
  The contracts of the reference's node, text and nodes, and how large its stack can grow.
  The contracts of the reference's braces, flatten and flattenTo.
  The contracts of the reference's flattenTo, lastTag and lastBrace.
  The contract of the reference's opening.
  The contracts of the reference's equal and opening.
  The root at the bottom, bounds of a stack, a push (the reference's closing).
-/
import Derived.Test.YtdojbnngdlmbgaaGreatDoorPaR1
import Derived.Test.YtdojbnngdlmbgaaGreatDoorTkR
namespace Go.Proofs.YtdojbnngdlmbgaaGreatDoor.Pa
open Go.RowKit Go.Proofs.YtdojbnngdlmbgaaGreatDoor.Tr
set_option linter.unusedVariables false

/-- How large an element and a stack are. -/
def pr (e : Rl) : Nat := 16 + e.count + sz e.list + phA e.args
def prs : List Rl → Nat
  | [] => 0
  | e :: r => pr e + prs r
theorem sz_jn (l : List Nd) (n : Nd) : sz (jn l n) ≤ sz l + szN n := by
  have h1 : sz (l ++ [n]) = sz l + szN n := by rw [sz_append, sz_cons, sz_nil]; rfl
  unfold jn
  split
  · split
    · omega
    · cases hq : l.getLast? with
      | none => simp only; omega
      | some m =>
        simp only
        split
        · rcases snoc_cases l with rfl | ⟨Y, m', rfl⟩
          · simp at hq
          · rw [List.getLast?_concat] at hq
            cases hq
            rw [List.dropLast_concat, sz_append, sz_append, sz_cons, sz_nil, sz_cons, sz_nil]
            have e1 := szN_eq m
            have e2 : szN (txN (m.text ++ n.text)) = 1 + (m.text ++ n.text).size := by rw [szN_eq]; simp [txN, Nd.text, Nd.kids, Nd.args, sz_nil, szA_nil]
            rw [ByteArray.size_append] at e2
            have e3 := szN_eq n
            omega
        · omega
  · omega
theorem cellsA_split {R : Value → List Nd → Prop} : ∀ (l m : List Ar) (ys : List Value), CellsA R ys (l ++ m) → ∃ xs zs, ys = xs ++ zs ∧ CellsA R xs l ∧ CellsA R zs m
  | [], m, ys, h => ⟨[], ys, rfl, trivial, h⟩
  | n :: l, m, c0 :: c1 :: c2 :: ys, ⟨a0, a1, a2, r⟩ => by
    obtain ⟨xs, zs, rfl, h1, h2⟩ := cellsA_split l m ys r
    exact ⟨c0 :: c1 :: c2 :: xs, zs, rfl, ⟨a0, a1, a2, h1⟩, h2⟩
section
variable {w w' : World} {X X' : Nat → Prop} {v : Value} {la : List Ar}
theorem AX.sz (h : AX w X v la) : szA la ≤ 16777216 := h.elim fun _ q => q.1
theorem cells_readA' {R : Value → List Nd → Prop} {g : Nat} : ∀ (l : List Ar) (o : Nat), (∀ i n, l[i]? = some n → ArAt R w g (o + i * 3) n) → ∃ xs, CellsA R xs l ∧ ∀ j u, xs[j]? = some u → w.cell? ⟨g, o + j, none⟩ = some u
  | [], o, _ => ⟨[], trivial, fun j u h => by simp at h⟩
  | n :: l, o, h => by
    obtain ⟨vn, vv, a1, a2, a3, a4, a5⟩ := h 0 n rfl
    obtain ⟨xs, h1, h2⟩ := cells_readA' l (o + 3) (fun i m hm => by have := h (i + 1) m (by simpa using hm); rwa [show o + (i + 1) * 3 = o + 3 + i * 3 by omega] at this)
    simp only [Nat.zero_mul, Nat.add_zero] at a1 a2 a3
    refine ⟨_ :: _ :: _ :: xs, ⟨rfl, a4, a5, h1⟩, fun j u hj => ?_⟩
    match j, hj with
    | 0, hj => simp at hj; subst hj; exact a1
    | 1, hj => simp at hj; subst hj; exact a2
    | 2, hj => simp at hj; subst hj; exact a3
    | j + 3, hj =>
      rw [show o + (j + 3) = o + 3 + j by omega]
      exact h2 j u (by simpa using hj)
theorem cellsA_one {xs : List Value} : ∀ {xs : List Value} {l : List Ar}, CellsA (LX w X) xs l → ∀ u ∈ xs, u.oneCell' = true
  | [], [], _, u, hu => by cases hu
  | c0 :: c1 :: c2 :: xs, n :: l, ⟨a0, a1, a2, r⟩, u, hu => by
    simp only [List.mem_cons] at hu
    rcases hu with rfl | rfl | rfl | hu
    · subst a0; rfl
    · exact a1.one
    · exact a2.one
    · exact cellsA_one (xs := xs) r u hu
/-- The list of arguments copied onto nil. -/
theorem AX.copy (h : AX w X v la) (hn : la ≠ []) : ∃ cap w' ys, (Builtin.append_ #[60, 60] 60 #[.slice none 0 0, v]).run Tryz.prog w = .ok (.slice (some ⟨w.heap.size, 0, none⟩) la.length cap) w' ∧ Below w.heap.size w w' ∧ w.heap.size < w'.heap.size ∧ w'.ownsRow w.heap.size 59 3 (.slice (some ⟨w.heap.size, 0, none⟩) la.length cap) la.length ys ∧ CellsA (LX w X) ys la := by
  obtain ⟨d, hs, A, c, rfl, h2, h3, R⟩ := h
  have hpos : 0 < la.length := List.length_pos_iff.2 hn
  obtain ⟨g, o, rfl, hg, q⟩ := R hpos
  obtain ⟨ys, hc, hr⟩ := cells_readA' la o (fun i n hi => q i (List.getElem?_eq_some_iff.1 hi).1 n hi)
  have hc' : CellsA (LX w X) ys la := hc.imp (fun _ _ q => ⟨d, q⟩)
  obtain ⟨i0, hi, hz0, hz1, hz2⟩ := info_parts infoA
  have hlen := Nat.le_trans (szA_len la) hs
  have hne : ∀ j u, ys[j]? = some u → w.cell? ((⟨g, o, none⟩ : Addr).add j) = some u := fun j u hj => by
    have := hr j u hj
    unfold Addr.add
    split
    · rename_i e; subst e; exact this
    · exact this
  obtain ⟨g', cap', w', r0, r1, r2, r3, r4⟩ := run_append_lies (P := Tryz.prog) w 60 60 w.heap.size 59 i0 _ 3 56 Tryz.underlying60 hi hz0 hz1 hz2 rfl (by omega) (.slice none 0 0) 0 [] (ownNil _ _ _ _) ⟨g, o, none⟩ la.length c ys hc'.length hne (cellsA_one (xs := ys) hc') hpos (by simp only [maxLen]; omega) (by omega) (Nat.le_refl _) w.heap.size rfl
  rw [Nat.zero_add] at r0
  rw [Nat.zero_add, List.nil_append] at r1
  have hg' : g' = w.heap.size := by
    rcases r3 with q | q
    · cases q
    · exact q
  subst hg'
  exact ⟨cap', w', ys, r0, (Below.refl _ _).grown r2 (Nat.le_refl _) (fun k q => by cases q), r4, r1, hc'⟩
/-- A row of arguments that will no longer grow. -/
theorem own_ax {lo : Nat} {ys : List Value} (h : w.ownsRow lo 59 3 v la.length ys) (hc : CellsA (LX w X) ys la) (hz : szA la ≤ 16777216) (hX : ∀ g, X g → X' g) (hm : ∀ g, v.ownBlock = some g → X' g) : AX w X' v la := by
  obtain ⟨d, q⟩ := cellsA_max (cellsAX_imp hc hX (fun _ _ => rfl))
  exact ⟨d, own_rxA h q hz hm⟩
end
/-- Three cells at the end of a row are written whole. -/
theorem row3 {w : World} {base g k cap n : Nat} {e : TypeId} {xs : List Value} {c0 c1 c2 : Value} (h : w.ownsRow base e 3 (.slice (some ⟨g, 0, none⟩) n cap) n (xs ++ [c0, c1, c2])) (hk : xs.length = k) (d0 d1 d2 : Value) : ∃ W, (((w.setCell ⟨g, k, none⟩ d0).setCell ⟨g, k + 1, none⟩ d1).setCell ⟨g, k + 2, none⟩ d2) = W ∧ W.ownsRow base e 3 (.slice (some ⟨g, 0, none⟩) n cap) n (xs ++ [d0, d1, d2]) ∧ (∀ b, b ≠ g → W.heap[b]? = w.heap[b]?) ∧ Below g w W := by
  have k1 : Below g w (w.setCell ⟨g, k, none⟩ d0) := (Below.refl g w).setCell (p := ⟨g, k, none⟩) (Nat.le_refl g) d0
  have k2 := k1.setCell (p := ⟨g, k + 1, none⟩) (Nat.le_refl g) d1
  have k3 := k2.setCell (p := ⟨g, k + 2, none⟩) (Nat.le_refl g) d2
  refine ⟨_, rfl, ?_, fun b hb => ?_, k3⟩
  · have r1 := own_setR h k d0
    have r2 := own_setR r1 (k + 1) d1
    have r3 := own_setR r2 (k + 2) d2
    subst hk
    have e0 : ((((xs ++ [c0, c1, c2]).set xs.length d0).set (xs.length + 1) d1).set (xs.length + 2) d2) = xs ++ [d0, d1, d2] := by
      rw [List.set_append_right _ _ (by omega), List.set_append_right _ _ (by omega), List.set_append_right _ _ (by omega)]
      simp [Nat.add_sub_cancel_left]
    rw [e0] at r3
    exact r3
  · rw [heap_set_ne (fun z => hb z.symm), heap_set_ne (fun z => hb z.symm), heap_set_ne (fun z => hb z.symm)]
theorem lastA_snoc (n : Nd) : ∀ (f : List Ar) (a : Ar), lastA n (f ++ [a]) = f ++ [.mk a.named a.name (jn a.value n)]
  | [], a => rfl
  | [b], a => rfl
  | b :: c :: f, a => by
    have := lastA_snoc n (c :: f) a
    rw [List.cons_append] at this ⊢
    rw [List.cons_append, lastA, this]; rfl
section
variable {gp : Nat} {w w' : World} {e : Rl} {st : List Rl} {v nv : Value} {n : Nd}
set_option maxRecDepth 100000 in
set_option maxHeartbeats 4000000 in
theorem node0_r (h : SP gp w (e :: st)) (hn : NV w (Xg gp w) nv n) (hc : ¬ (e.kind = 3 ∧ e.args.isEmpty = false)) (hz : pr e + szN n ≤ 8388608) (hst : st.length ≤ 2000) : Calls Tryz.prog 75 #[.pointer (some ⟨gp, 0, none⟩), nv] w fun x w' => x = .returned (.tuple #[]) ∧ SP gp w' (nodeE e n :: st) ∧ Fq gp w w' := by
  have HE : Hid (nodeE e n = { e with list := jn e.list n }) := Lib.hid (if_neg hc)
  have HC := Lib.hid hc
  have hgl := h.glt
  obtain ⟨vk, va, rfl, hk, ha, f1, f2⟩ := hn
  obtain ⟨Ak, ck, rfl⟩ := hk.form
  obtain ⟨Aa, ca, rfl⟩ := ha.form
  obtain ⟨O, hO⟩ : ∃ O, Obj.cells #[Value.int .i64 n.kind, .int .i64 n.tag, .string n.text, .slice Ak n.kids.length ck, .slice Aa n.args.length ca] 62 = O := ⟨_, rfl⟩
  obtain ⟨w0, hw0⟩ : ∃ w0, w.alloc O = w0 := ⟨_, rfl⟩
  have b0 : Below w.heap.size w w0 := by rw [← hw0]; exact (Below.refl _ _).alloc (Nat.le_refl _) _
  have hbox : w0.heap[w.heap.size]? = some O := by rw [← hw0]; exact heap_alloc_new w O
  have s0 : w0.heap.size = w.heap.size + 1 := by rw [← hw0]; simp
  have H0 := Lib.hid (h.keep b0)
  have HN : Hid (NV w0 (Xg gp w0) (.agg #[.int .i64 n.kind, .int .i64 n.tag, .string n.text, .slice Ak n.kids.length ck, .slice Aa n.args.length ca]) n) := Lib.hid (NV.imp ⟨_, _, rfl, hk, ha, f1, f2⟩ H0.out.2.x H0.out.2.k)
  have HB := Lib.hid (And.intro b0 (And.intro hbox hO))
  clear h hk ha b0 hbox
  go_enter Tryz.func75, Tryz.ntmps75
  go_wp2_with fail
  refine (top_r H0.out.1).mono ?_
  rintro x w1 ⟨v1, rfl, ⟨vl, vg, rfl, hl, hg⟩, hS, hF, hb⟩
  obtain ⟨Al, cl, rfl⟩ := hl.form
  obtain ⟨Ag, cg, rfl⟩ := hg.form
  have hbx : w1.heap[w.heap.size]? = some O := (hb.block _ (by omega)).trans HB.out.2.1
  obtain ⟨OE, hOE⟩ : ∃ O, Obj.cells #[Value.int .i64 e.kind, .int .i64 e.tag, .int .i64 e.count, .slice Al e.list.length cl, .slice Ag e.args.length cg] 82 = O := ⟨_, rfl⟩
  obtain ⟨w2, hw2⟩ : ∃ w2, w1.alloc OE = w2 := ⟨_, rfl⟩
  have b2 : Below w1.heap.size w1 w2 := by rw [← hw2]; exact (Below.refl _ _).alloc (Nat.le_refl _) _
  have h2E : w2.heap[w1.heap.size]? = some OE := by rw [← hw2]; exact heap_alloc_new w1 OE
  have s2 : w2.heap.size = w1.heap.size + 1 := by rw [← hw2]; simp
  have hbx2 : w2.heap[w.heap.size]? = some O := (b2.block _ (Array.getElem?_eq_some_iff.1 hbx).1).trans hbx
  have lw1 := (Array.getElem?_eq_some_iff.1 hbx).1
  rw [← hO] at hbx2
  rw [← hOE] at h2E
  have x0 : w2.cell? ⟨w.heap.size, 0, none⟩ = some (.int .i64 n.kind) := cell_heap hbx2 rfl
  have x1 : w2.cell? ⟨w.heap.size, 1, none⟩ = some (.int .i64 n.tag) := cell_heap hbx2 rfl
  have x2 : w2.cell? ⟨w.heap.size, 2, none⟩ = some (.string n.text) := cell_heap hbx2 rfl
  have x3 : w2.cell? ⟨w.heap.size, 3, none⟩ = some (.slice Ak n.kids.length ck) := cell_heap hbx2 rfl
  have x4 : w2.cell? ⟨w.heap.size, 4, none⟩ = some (.slice Aa n.args.length ca) := cell_heap hbx2 rfl
  have e0 : w2.cell? ⟨w1.heap.size, 0, none⟩ = some (.int .i64 e.kind) := cell_heap h2E rfl
  have e3 : w2.cell? ⟨w1.heap.size, 3, none⟩ = some (.slice Al e.list.length cl) := cell_heap h2E rfl
  have e4 : w2.cell? ⟨w1.heap.size, 4, none⟩ = some (.slice Ag e.args.length cg) := cell_heap h2E rfl
  have up : ∀ b, Xg gp w1 b → w2.heap[b]? = w1.heap[b]? := fun b q => b2.block b q.1
  have JN := Lib.hid (joined_r (w := w2) (X := Xg gp w1) (hl.imp (fun _ q => q) up) ((NV.imp (HN.out) hF.x hF.k).imp (fun _ q => q) up) (fun b q => Nat.lt_of_lt_of_le q.1 b2.size) (by unfold pr at hz; omega))
  have HS := Lib.hid (And.intro hS (And.intro hF (And.intro hg (And.intro b2 (And.intro h2E hb)))))
  clear hbx hbx2 h2E b2 hl hg hS hF up hb
  have hcc : ¬ ((e.kind : Int) = 3 ∧ (0 : Int) < (e.args.length : Int)) := fun q => hc ⟨by omega, by
    cases ha : e.args with
    | nil => rw [ha] at q; simp at q
    | cons _ _ => rfl⟩
  by_cases hk3 : e.kind = 3
  · have hk3b : ((e.kind : Int) == 3) = true := by rw [hk3]; rfl
    have hal : e.args.length = 0 := by
      have : ¬ (0 : Int) < (e.args.length : Int) := fun q => hcc ⟨by omega, q⟩
      omega
    replace e4 : w2.cell? ⟨w1.heap.size, 4, none⟩ = some (.slice Ag 0 cg) := by rw [e4, hal]
    clear hcc hk3 hal
    go_wp2_with fail
    refine JN.out.mono ?_
    rintro x w3 ⟨v3, rfl, l3, b3⟩
    obtain ⟨A3, c3, rfl⟩ := l3.form
    obtain ⟨hS, hF, hg, b2, h2E, hb⟩ := HS.out
    have h3E := (b3.block w1.heap.size (by omega)).trans h2E
    have i0 : w3.cell? ⟨w1.heap.size, 0, none⟩ = some (.int .i64 e.kind) := cell_heap h3E rfl
    have i1 : w3.cell? ⟨w1.heap.size, 1, none⟩ = some (.int .i64 e.tag) := cell_heap h3E rfl
    have i2 : w3.cell? ⟨w1.heap.size, 2, none⟩ = some (.int .i64 e.count) := cell_heap h3E rfl
    have i3 : w3.cell? ⟨w1.heap.size, 3, none⟩ = some (.slice Al e.list.length cl) := cell_heap h3E rfl
    have i4 : w3.cell? ⟨w1.heap.size, 4, none⟩ = some (.slice Ag e.args.length cg) := cell_heap h3E rfl
    have z3 : w3.frozen? ⟨w1.heap.size, 3, none⟩ = false := by simp [World.frozen?, h3E]
    obtain ⟨w4, hw4⟩ : ∃ w4, w3.setCell ⟨w1.heap.size, 3, none⟩ (.slice A3 (jn e.list n).length c3) = w4 := ⟨_, rfl⟩
    have k4 : ∀ b : Nat, b ≠ w1.heap.size → w4.heap[b]? = w3.heap[b]? := fun b q => by rw [← hw4]; exact heap_set_ne (fun z => q z.symm)
    have s4 : w4.heap.size = w3.heap.size := by rw [← hw4]; exact World.size_setCell ..
    have b4 : Below w1.heap.size w1 w4 := by rw [← hw4]; exact (b2.trans (b3.mono b2.size)).setCell (p := ⟨w1.heap.size, 3, none⟩) (Nat.le_refl _) _
    have F4 := (H0.out.2.trans hF).trans (hS.keep b4).2
    have S4 := (hS.keep b4).1
    have L4 : LX w4 (Xg gp w4) (.slice A3 (jn e.list n).length c3) (jn e.list n) := l3.imp (fun b q => by
      have hgw := hS.glt
      rcases q with q | q
      · exact ⟨Nat.lt_of_lt_of_le q.1 b4.size, q.2⟩
      · exact ⟨by omega, by omega⟩) (fun b q => k4 b (by
      rcases q with q | q
      · have := q.1; omega
      · omega))
    have A4 : AX w4 (Xg gp w4) (.slice Ag e.args.length cg) e.args := (hS.keep b4).2.ax hg
    have RR := Lib.hid (replace_r S4 (e' := { e with list := jn e.list n }) ⟨_, _, rfl, L4, A4⟩ hst)
    have FF := Lib.hid F4
    have HW4 := Lib.hid hw4
    clear hS hF hg b2 h2E hb h3E k4 s4 b4 F4 S4 L4 A4 l3 b3 hw4
    go_wp2_with fail
    rw [HW4.out]
    refine RR.out.mono ?_
    rintro x w5 ⟨rfl, h5, f5⟩
    have R5 := Lib.hid (And.intro h5 (FF.out.trans f5))
    clear h5 f5
    go_wp2_with fail
    go_end0
    exact ⟨rfl, by rw [HE.out]; exact R5.out.1, R5.out.2⟩
  · have hk3b : ((e.kind : Int) == 3) = false := by rw [beq_eq_false_iff_ne]; omega
    clear hcc hk3
    go_wp2_with fail
    refine JN.out.mono ?_
    rintro x w3 ⟨v3, rfl, l3, b3⟩
    obtain ⟨A3, c3, rfl⟩ := l3.form
    obtain ⟨hS, hF, hg, b2, h2E, hb⟩ := HS.out
    have h3E := (b3.block w1.heap.size (by omega)).trans h2E
    have i0 : w3.cell? ⟨w1.heap.size, 0, none⟩ = some (.int .i64 e.kind) := cell_heap h3E rfl
    have i1 : w3.cell? ⟨w1.heap.size, 1, none⟩ = some (.int .i64 e.tag) := cell_heap h3E rfl
    have i2 : w3.cell? ⟨w1.heap.size, 2, none⟩ = some (.int .i64 e.count) := cell_heap h3E rfl
    have i3 : w3.cell? ⟨w1.heap.size, 3, none⟩ = some (.slice Al e.list.length cl) := cell_heap h3E rfl
    have i4 : w3.cell? ⟨w1.heap.size, 4, none⟩ = some (.slice Ag e.args.length cg) := cell_heap h3E rfl
    have z3 : w3.frozen? ⟨w1.heap.size, 3, none⟩ = false := by simp [World.frozen?, h3E]
    obtain ⟨w4, hw4⟩ : ∃ w4, w3.setCell ⟨w1.heap.size, 3, none⟩ (.slice A3 (jn e.list n).length c3) = w4 := ⟨_, rfl⟩
    have k4 : ∀ b : Nat, b ≠ w1.heap.size → w4.heap[b]? = w3.heap[b]? := fun b q => by rw [← hw4]; exact heap_set_ne (fun z => q z.symm)
    have s4 : w4.heap.size = w3.heap.size := by rw [← hw4]; exact World.size_setCell ..
    have b4 : Below w1.heap.size w1 w4 := by rw [← hw4]; exact (b2.trans (b3.mono b2.size)).setCell (p := ⟨w1.heap.size, 3, none⟩) (Nat.le_refl _) _
    have F4 := (H0.out.2.trans hF).trans (hS.keep b4).2
    have S4 := (hS.keep b4).1
    have L4 : LX w4 (Xg gp w4) (.slice A3 (jn e.list n).length c3) (jn e.list n) := l3.imp (fun b q => by
      have hgw := hS.glt
      rcases q with q | q
      · exact ⟨Nat.lt_of_lt_of_le q.1 b4.size, q.2⟩
      · exact ⟨by omega, by omega⟩) (fun b q => k4 b (by
      rcases q with q | q
      · have := q.1; omega
      · omega))
    have A4 : AX w4 (Xg gp w4) (.slice Ag e.args.length cg) e.args := (hS.keep b4).2.ax hg
    have RR := Lib.hid (replace_r S4 (e' := { e with list := jn e.list n }) ⟨_, _, rfl, L4, A4⟩ hst)
    have FF := Lib.hid F4
    have HW4 := Lib.hid hw4
    clear hS hF hg b2 h2E hb h3E k4 s4 b4 F4 S4 L4 A4 l3 b3 hw4
    go_wp2_with fail
    rw [HW4.out]
    refine RR.out.mono ?_
    rintro x w5 ⟨rfl, h5, f5⟩
    have R5 := Lib.hid (And.intro h5 (FF.out.trans f5))
    clear h5 f5
    go_wp2_with fail
    go_end0
    exact ⟨rfl, by rw [HE.out]; exact R5.out.1, R5.out.2⟩
set_option maxRecDepth 100000 in
set_option maxHeartbeats 4000000 in
theorem node1_r (h : SP gp w (e :: st)) (hn : NV w (Xg gp w) nv n) (hc : e.kind = 3 ∧ e.args.isEmpty = false) (hz : pr e + szN n ≤ 8388608) (hst : st.length ≤ 2000) : Calls Tryz.prog 75 #[.pointer (some ⟨gp, 0, none⟩), nv] w fun x w' => x = .returned (.tuple #[]) ∧ SP gp w' (nodeE e n :: st) ∧ Fq gp w w' := by
  have HE : Hid (nodeE e n = { e with args := lastA n e.args }) := Lib.hid (if_pos hc)
  have HC := Lib.hid hc
  have hgl := h.glt
  obtain ⟨vk, va, rfl, hk, ha, f1, f2⟩ := hn
  obtain ⟨Ak, ck, rfl⟩ := hk.form
  obtain ⟨Aa, ca, rfl⟩ := ha.form
  obtain ⟨O, hO⟩ : ∃ O, Obj.cells #[Value.int .i64 n.kind, .int .i64 n.tag, .string n.text, .slice Ak n.kids.length ck, .slice Aa n.args.length ca] 62 = O := ⟨_, rfl⟩
  obtain ⟨w0, hw0⟩ : ∃ w0, w.alloc O = w0 := ⟨_, rfl⟩
  have b0 : Below w.heap.size w w0 := by rw [← hw0]; exact (Below.refl _ _).alloc (Nat.le_refl _) _
  have hbox : w0.heap[w.heap.size]? = some O := by rw [← hw0]; exact heap_alloc_new w O
  have s0 : w0.heap.size = w.heap.size + 1 := by rw [← hw0]; simp
  have H0 := Lib.hid (h.keep b0)
  have HN : Hid (NV w0 (Xg gp w0) (.agg #[.int .i64 n.kind, .int .i64 n.tag, .string n.text, .slice Ak n.kids.length ck, .slice Aa n.args.length ca]) n) := Lib.hid (NV.imp ⟨_, _, rfl, hk, ha, f1, f2⟩ H0.out.2.x H0.out.2.k)
  have HB := Lib.hid (And.intro b0 (And.intro hbox hO))
  clear h hk ha b0 hbox
  go_enter Tryz.func75, Tryz.ntmps75
  go_wp2_with fail
  refine (top_r H0.out.1).mono ?_
  rintro x w1 ⟨v1, rfl, ⟨vl, vg, rfl, hl, hg⟩, hS, hF, hb⟩
  obtain ⟨Al, cl, rfl⟩ := hl.form
  obtain ⟨Ag, cg, rfl⟩ := hg.form
  have hbx : w1.heap[w.heap.size]? = some O := (hb.block _ (by omega)).trans HB.out.2.1
  obtain ⟨OE, hOE⟩ : ∃ O, Obj.cells #[Value.int .i64 e.kind, .int .i64 e.tag, .int .i64 e.count, .slice Al e.list.length cl, .slice Ag e.args.length cg] 82 = O := ⟨_, rfl⟩
  obtain ⟨w2, hw2⟩ : ∃ w2, w1.alloc OE = w2 := ⟨_, rfl⟩
  have b2 : Below w1.heap.size w1 w2 := by rw [← hw2]; exact (Below.refl _ _).alloc (Nat.le_refl _) _
  have h2E : w2.heap[w1.heap.size]? = some OE := by rw [← hw2]; exact heap_alloc_new w1 OE
  have s2 : w2.heap.size = w1.heap.size + 1 := by rw [← hw2]; simp
  have hbx2 : w2.heap[w.heap.size]? = some O := (b2.block _ (Array.getElem?_eq_some_iff.1 hbx).1).trans hbx
  have lw1 := (Array.getElem?_eq_some_iff.1 hbx).1
  rw [← hO] at hbx2
  rw [← hOE] at h2E
  have x0 : w2.cell? ⟨w.heap.size, 0, none⟩ = some (.int .i64 n.kind) := cell_heap hbx2 rfl
  have x1 : w2.cell? ⟨w.heap.size, 1, none⟩ = some (.int .i64 n.tag) := cell_heap hbx2 rfl
  have x2 : w2.cell? ⟨w.heap.size, 2, none⟩ = some (.string n.text) := cell_heap hbx2 rfl
  have x3 : w2.cell? ⟨w.heap.size, 3, none⟩ = some (.slice Ak n.kids.length ck) := cell_heap hbx2 rfl
  have x4 : w2.cell? ⟨w.heap.size, 4, none⟩ = some (.slice Aa n.args.length ca) := cell_heap hbx2 rfl
  have e0 : w2.cell? ⟨w1.heap.size, 0, none⟩ = some (.int .i64 e.kind) := cell_heap h2E rfl
  have e3 : w2.cell? ⟨w1.heap.size, 3, none⟩ = some (.slice Al e.list.length cl) := cell_heap h2E rfl
  have e4 : w2.cell? ⟨w1.heap.size, 4, none⟩ = some (.slice Ag e.args.length cg) := cell_heap h2E rfl
  have up : ∀ b, Xg gp w1 b → w2.heap[b]? = w1.heap[b]? := fun b q => b2.block b q.1
  have hne : e.args ≠ [] := fun q => by rw [q] at hc; exact Bool.noConfusion hc.2
  have hg2 : AX w2 (Xg gp w1) (.slice Ag e.args.length cg) e.args := hg.imp (fun _ q => q) up
  obtain ⟨c3, w3, ys, r3, b3, l3, o3, cy⟩ := hg2.copy hne
  obtain ⟨f, a, hfa⟩ : ∃ f a, e.args = f ++ [a] := by
    rcases List.eq_nil_or_concat e.args with q | ⟨f, a, q⟩
    · exact absurd q hne
    · exact ⟨f, a, by simpa using q⟩
  have hlen : e.args.length = f.length + 1 := by rw [hfa]; simp
  rw [hfa] at cy
  obtain ⟨xs, zs, rfl, hxs, hzs⟩ := cellsA_split f [a] ys cy
  have hzl : zs.length = 3 := by have := hzs.length; simpa using this
  obtain ⟨c0, vn, vv, rfl⟩ : ∃ c0 c1 c2, zs = [c0, c1, c2] := by
    match zs, hzl with
    | [c0, c1, c2], _ => exact ⟨_, _, _, rfl⟩
  obtain ⟨rfl, hvn, hvv, _⟩ := hzs
  obtain ⟨An, cn, rfl⟩ := hvn.form
  obtain ⟨Av, cv, rfl⟩ := hvv.form
  have hxl : xs.length = f.length * 3 := hxs.length
  rw [hlen] at o3 r3
  obtain ⟨cur, kcur, kfr, hcap, hcm⟩ : ∃ cur, w3.heap[w2.heap.size]? = some (.cells cur 59) ∧ cur.toList.take ((f.length + 1) * 3) = xs ++ [.bool a.named, .slice An a.name.length cn, .slice Av a.value.length cv] ∧ f.length + 1 ≤ c3 ∧ c3 ≤ 9223372036854775807 := by
    rcases o3.2 with ⟨q, _⟩ | ⟨g', cap, cur, q, k1, k2, k3, k4, _, k6⟩
    · cases q
    · cases q
      exact ⟨cur, k2, k6, k3, by simpa [maxLen] using k4⟩
  have cel : ∀ j u, [Value.bool a.named, .slice An a.name.length cn, .slice Av a.value.length cv][j]? = some u → w3.cell? ⟨w2.heap.size, f.length * 3 + j, none⟩ = some u := fun j u hj => by
    have := cell_row kcur kfr (j := f.length * 3 + j) (u := u) (by rw [← hxl, List.getElem?_append_right (by omega)]; simpa using hj)
    rwa [Nat.zero_add] at this
  have m0 : w3.cell? ⟨w2.heap.size, f.length * 3, none⟩ = some (.bool a.named) := cel 0 _ rfl
  have m1 : w3.cell? ⟨w2.heap.size, f.length * 3 + 1, none⟩ = some (.slice An a.name.length cn) := cel 1 _ rfl
  have m2 : w3.cell? ⟨w2.heap.size, f.length * 3 + 2, none⟩ = some (.slice Av a.value.length cv) := cel 2 _ rfl
  obtain ⟨O6, hO6⟩ : ∃ O, Obj.cells #[Value.bool a.named, .slice An a.name.length cn, .slice Av a.value.length cv] 59 = O := ⟨_, rfl⟩
  obtain ⟨w4, hw4⟩ : ∃ w4, w3.alloc O6 = w4 := ⟨_, rfl⟩
  have b4 : Below w3.heap.size w3 w4 := by rw [← hw4]; exact (Below.refl _ _).alloc (Nat.le_refl _) _
  have s4 : w4.heap.size = w3.heap.size + 1 := by rw [← hw4]; simp
  have h4 : w4.heap[w3.heap.size]? = some O6 := by rw [← hw4]; exact heap_alloc_new w3 O6
  rw [← hO6] at h4
  have b24 : Below w2.heap.size w2 w4 := b3.trans (b4.mono b3.size)
  have n2 : w4.cell? ⟨w3.heap.size, 2, none⟩ = some (.slice Av a.value.length cv) := cell_heap h4 rfl
  have hbx4 := (b24.block w.heap.size (by omega)).trans hbx2
  have x0 : w4.cell? ⟨w.heap.size, 0, none⟩ = some (.int .i64 n.kind) := cell_heap hbx4 rfl
  have x1 : w4.cell? ⟨w.heap.size, 1, none⟩ = some (.int .i64 n.tag) := cell_heap hbx4 rfl
  have x2 : w4.cell? ⟨w.heap.size, 2, none⟩ = some (.string n.text) := cell_heap hbx4 rfl
  have x3 : w4.cell? ⟨w.heap.size, 3, none⟩ = some (.slice Ak n.kids.length ck) := cell_heap hbx4 rfl
  have x4 : w4.cell? ⟨w.heap.size, 4, none⟩ = some (.slice Aa n.args.length ca) := cell_heap hbx4 rfl
  have up4 : ∀ b, Xg gp w1 b → w4.heap[b]? = w2.heap[b]? := fun b q => b24.block b (Nat.lt_of_lt_of_le q.1 b2.size)
  have hph : phA e.args = phA f + (8 + sz a.name + sz a.value) := by rw [hfa, phA_append]; simp [phA]
  have JN := Lib.hid (joined_r (w := w4) (X := Xg gp w1) (hvv.imp (fun _ q => q) up4) ((NV.imp (HN.out) hF.x hF.k).imp (fun _ q => q) (fun b q => (up4 b q).trans (up b q))) (fun b q => Nat.lt_of_lt_of_le q.1 (Nat.le_trans b2.size b24.size)) (by unfold pr at hz; omega))
  have HS := Lib.hid (And.intro hS (And.intro hF (And.intro hl (And.intro b2 (And.intro h2E hb)))))
  have HX := Lib.hid (And.intro hxs (And.intro (hvn.imp (w' := w2) (fun _ q => q) (fun _ _ => rfl)) (And.intro hxl (And.intro o3 (And.intro b3 (And.intro b4 (And.intro b24 (And.intro h4 (And.intro hph hfa)))))))))
  have R3 := Lib.hid r3
  have hk3b : ((e.kind : Int) == 3) = true := by rw [hc.1]; rfl
  rw [hlen] at e4
  have hap : (0 : Int) < (f.length : Int) + 1 := by omega
  have hwk : IntKind.i64.wrap (f.length : Int) = (f.length : Int) := by rw [IntKind.wrap_i64]; have := len_ph e.args; unfold pr at hz; omega
  have HLE := Lib.hid hlen
  have HK3 := Lib.hid hc
  clear hbx hbx2 h2E b2 hl hg hS hF up hb hg2 r3 b3 o3 cy hxs hvn hvv hxl kcur kfr cel b4 h4 b24 hbx4 up4 hph hfa hlen hne hc hO
  have SZ := Lib.hid (And.intro s0 (And.intro s2 s4))
  clear s0 s2 s4
  go_wp2_with (at_builtin; refine wpList_app rfl (.const (.slice none 0 0)) (.tmp 19) _ rfl rfl rfl R3.out ?_)
  refine JN.out.mono ?_
  rintro x w5 ⟨v5, rfl, l5, b5⟩
  obtain ⟨A5, c5, rfl⟩ := l5.form
  obtain ⟨s0, s2, s4⟩ := SZ.out
  obtain ⟨hS, hF, hl, b2, h2E, hb⟩ := HS.out
  obtain ⟨hxs, hvn, hxl, o3, b3, b4, b24, h4, hph, hfa⟩ := HX.out
  have hlt3 : w2.heap.size < w3.heap.size := l3
  have h5 := (b5.block w3.heap.size (by omega)).trans h4
  have p0 : w5.cell? ⟨w3.heap.size, 0, none⟩ = some (.bool a.named) := cell_heap h5 rfl
  have p1 : w5.cell? ⟨w3.heap.size, 1, none⟩ = some (.slice An a.name.length cn) := cell_heap h5 rfl
  have p2 : w5.cell? ⟨w3.heap.size, 2, none⟩ = some (.slice Av a.value.length cv) := cell_heap h5 rfl
  have pz : w5.frozen? ⟨w3.heap.size, 2, none⟩ = false := by simp [World.frozen?, h5]
  have row5' : w5.ownsRow _ _ _ _ _ _ := own_keep o3 (fun b hbq => by have q : w2.heap.size = b := Option.some.inj hbq; subst q; exact (b5.block _ (by omega)).trans (b4.block _ hlt3))
  have lw1 : w1.heap.size < w2.heap.size := by omega
  have l5 := l5
  have row5c : ∀ b, b < w4.heap.size → w5.heap[b]? = w4.heap[b]? := fun b hb => b5.block b hb
  have h5E := (b5.block w1.heap.size (by omega)).trans ((b24.block w1.heap.size lw1).trans h2E)
  obtain ⟨w6, hw6⟩ : ∃ w6, w5.setCell ⟨w3.heap.size, 2, none⟩ (.slice A5 (jn a.value n).length c5) = w6 := ⟨_, rfl⟩
  have k6 : ∀ b : Nat, b ≠ w3.heap.size → w6.heap[b]? = w5.heap[b]? := fun b q => by rw [← hw6]; exact heap_set_ne (fun z => q z.symm)
  have s6 : w6.heap.size = w5.heap.size := by rw [← hw6]; exact World.size_setCell ..
  have h6 : w6.heap[w3.heap.size]? = some (.cells #[.bool a.named, .slice An a.name.length cn, .slice A5 (jn a.value n).length c5] 59) := by rw [← hw6, heap_set h5]; rfl
  have q0 : w6.cell? ⟨w3.heap.size, 0, none⟩ = some (.bool a.named) := cell_heap h6 rfl
  have q1 : w6.cell? ⟨w3.heap.size, 1, none⟩ = some (.slice An a.name.length cn) := cell_heap h6 rfl
  have q2 : w6.cell? ⟨w3.heap.size, 2, none⟩ = some (.slice A5 (jn a.value n).length c5) := cell_heap h6 rfl
  have row6 : w6.ownsRow _ _ _ _ _ _ := own_keep row5' (fun b hbq => by have q : w2.heap.size = b := Option.some.inj hbq; subst q; exact k6 _ (by omega))
  have k36 : w6.heap[w2.heap.size]? = w3.heap[w2.heap.size]? := (k6 _ (by omega)).trans ((b5.block _ (by omega)).trans (b4.block _ hlt3))
  have m0' : w6.cell? ⟨w2.heap.size, f.length * 3, none⟩ = some (.bool a.named) := (World.cell?_of_block k36).trans m0
  have m1' : w6.cell? ⟨w2.heap.size, f.length * 3 + 1, none⟩ = some (.slice An a.name.length cn) := (World.cell?_of_block k36).trans m1
  have m2' : w6.cell? ⟨w2.heap.size, f.length * 3 + 2, none⟩ = some (.slice Av a.value.length cv) := (World.cell?_of_block k36).trans m2
  obtain ⟨cur6, hcur6⟩ : ∃ cur, w6.heap[w2.heap.size]? = some (.cells cur 59) := by
    rcases row6.2 with ⟨q, _⟩ | ⟨g', cap, cur, q, k1, k2, _⟩
    · cases q
    · cases q; exact ⟨cur, k2⟩
  have y0 : w6.frozen? ⟨w2.heap.size, f.length * 3, none⟩ = false := by simp [World.frozen?, hcur6]
  have y1 : w6.frozen? ⟨w2.heap.size, f.length * 3 + 1, none⟩ = false := by simp [World.frozen?, hcur6]
  have y2 : w6.frozen? ⟨w2.heap.size, f.length * 3 + 2, none⟩ = false := by simp [World.frozen?, hcur6]
  obtain ⟨w7, hw7, row7, k7, b7⟩ := row3 row6 hxl (.bool a.named) (.slice An a.name.length cn) (.slice A5 (jn a.value n).length c5)
  have s7 : w7.heap.size = w6.heap.size := by rw [← hw7]; simp
  have h7E : w7.heap[w1.heap.size]? = _ := (k7 _ (by omega)).trans ((k6 _ (by omega)).trans h5E)
  have e4' : w7.cell? ⟨w1.heap.size, 4, none⟩ = some (.slice Ag e.args.length cg) := cell_heap h7E rfl
  have z4' : w7.frozen? ⟨w1.heap.size, 4, none⟩ = false := by simp [World.frozen?, h7E]
  obtain ⟨w8, hw8⟩ : ∃ w8, w7.setCell ⟨w1.heap.size, 4, none⟩ (.slice (some ⟨w2.heap.size, 0, none⟩) (f.length + 1) c3) = w8 := ⟨_, rfl⟩
  have k8 : ∀ b : Nat, b ≠ w1.heap.size → w8.heap[b]? = w7.heap[b]? := fun b q => by rw [← hw8]; exact heap_set_ne (fun z => q z.symm)
  have s8 : w8.heap.size = w7.heap.size := by rw [← hw8]; exact World.size_setCell ..
  have h8E : w8.heap[w1.heap.size]? = some (.cells #[.int .i64 e.kind, .int .i64 e.tag, .int .i64 e.count, .slice Al e.list.length cl, .slice (some ⟨w2.heap.size, 0, none⟩) (f.length + 1) c3] 82) := by rw [← hw8, heap_set h7E]; rfl
  have j0 : w8.cell? ⟨w1.heap.size, 0, none⟩ = some (.int .i64 e.kind) := cell_heap h8E rfl
  have j1 : w8.cell? ⟨w1.heap.size, 1, none⟩ = some (.int .i64 e.tag) := cell_heap h8E rfl
  have j2 : w8.cell? ⟨w1.heap.size, 2, none⟩ = some (.int .i64 e.count) := cell_heap h8E rfl
  have j3 : w8.cell? ⟨w1.heap.size, 3, none⟩ = some (.slice Al e.list.length cl) := cell_heap h8E rfl
  have j4 : w8.cell? ⟨w1.heap.size, 4, none⟩ = some (.slice (some ⟨w2.heap.size, 0, none⟩) (f.length + 1) c3) := cell_heap h8E rfl
  have b15 : Below w1.heap.size w1 w5 := b2.trans ((b24.trans (b5.mono b24.size)).mono b2.size)
  have b18 : Below w1.heap.size w1 w8 := by
    have t6 : Below w1.heap.size w1 w6 := by rw [← hw6]; exact b15.setCell (p := ⟨w3.heap.size, 2, none⟩) (by show w1.heap.size ≤ w3.heap.size; omega) _
    have t7 : Below w1.heap.size w1 w7 := t6.trans (b7.mono (Nat.le_of_lt lw1))
    rw [← hw8]; exact t7.setCell (p := ⟨w1.heap.size, 4, none⟩) (Nat.le_refl _) _
  have F8 := (H0.out.2.trans hF).trans (hS.keep b18).2
  have S8 := (hS.keep b18).1
  have hgw := hS.glt
  have xk : ∀ b, Xg gp w1 b → w8.heap[b]? = w2.heap[b]? := fun b q => (b18.block b q.1).trans (b2.block b q.1).symm
  have xx : ∀ b, Xg gp w1 b → Xg gp w8 b := fun b q => ⟨Nat.lt_of_lt_of_le q.1 b18.size, q.2⟩
  have k58 : ∀ b, b ≠ w1.heap.size → b ≠ w2.heap.size → b ≠ w3.heap.size → w8.heap[b]? = w5.heap[b]? := fun b h1 h2 h3 => (k8 b h1).trans ((k7 b h2).trans (k6 b h3))
  have LV : LX w8 (Xg gp w8) (.slice A5 (jn a.value n).length c5) (jn a.value n) := l5.imp (fun b q => by
    rcases q with q | q
    · exact xx b q
    · exact ⟨by omega, by omega⟩) (fun b q => by
    rcases q with q | q
    · have := q.1
      exact k58 b (by omega) (by omega) (by omega)
    · exact k58 b (by omega) (by omega) (by omega))
  have LN : LX w8 (Xg gp w8) (.slice An a.name.length cn) a.name := hvn.imp xx xk
  have CF : CellsA (LX w8 (Xg gp w8)) (xs ++ [.bool a.named, .slice An a.name.length cn, .slice A5 (jn a.value n).length c5]) (f ++ [.mk a.named a.name (jn a.value n)]) := CellsA.append (cellsAX_imp hxs xx xk) ⟨rfl, LN, LV, trivial⟩
  have row8 : w8.ownsRow _ _ _ _ _ _ := own_keep row7 (fun b hbq => by have q : w2.heap.size = b := Option.some.inj hbq; subst q; exact k8 _ (by omega))
  have hlA : lastA n e.args = f ++ [.mk a.named a.name (jn a.value n)] := by rw [hfa, lastA_snoc]
  have hszA : szA (lastA n e.args) ≤ 16777216 := by
    have h1 := szA_ph (f ++ [Ar.mk a.named a.name (jn a.value n)])
    have h2 : sz (jn a.value n) ≤ sz a.value + szN n := sz_jn _ _
    have h3 : phA (f ++ [Ar.mk a.named a.name (jn a.value n)]) = phA f + (8 + sz a.name + sz (jn a.value n)) := by rw [phA_append]; simp [phA, Ar.name, Ar.value]
    have h4 : 16 + e.count + sz e.list + phA e.args + szN n ≤ 8388608 := hz
    rw [hlA]
    omega
  have z5 := b5.size
  have AA : AX w8 (Xg gp w8) (.slice (some ⟨w2.heap.size, 0, none⟩) (f.length + 1) c3) (lastA n e.args) := own_ax (lo := w2.heap.size) (by rw [hlA, show (f ++ [Ar.mk a.named a.name (jn a.value n)]).length = f.length + 1 by simp]; exact row8) (by rw [hlA]; exact CF) hszA (fun _ q => q) (fun b hbq => by have q : w2.heap.size = b := Option.some.inj hbq; subst q; exact ⟨by omega, by omega⟩)
  have LL8 : LX w8 (Xg gp w8) (.slice Al e.list.length cl) e.list := (hS.keep b18).2.lx hl
  have RR := Lib.hid (replace_r S8 (e' := { e with args := lastA n e.args }) ⟨_, _, rfl, LL8, AA⟩ hst)
  have FF := Lib.hid F8
  clear hS hF hl b2 h2E hb hxs hvn hxl o3 b3 b4 b24 h4 hph hfa l5 b5 h5 row5' row5c h5E k6 s6 h6 row6 k36 hcur6 row7 k7 b7 s7 h7E k8 s8 h8E b15 b18 F8 S8 xk xx k58 LV LN CF row8 hlA hszA AA LL8 s0 s2 s4 m0 m1 m2
  go_wp2_with fail
  refine RR.out.mono ?_
  rintro x w9 ⟨rfl, h9, f9⟩
  have R9 := Lib.hid (And.intro h9 (FF.out.trans f9))
  clear h9 f9
  go_wp2_with fail
  go_end0
  exact ⟨rfl, by rw [HE.out]; exact R9.out.1, R9.out.2⟩
end
end Go.Proofs.YtdojbnngdlmbgaaGreatDoor.Pa

namespace Go.Proofs.YtdojbnngdlmbgaaGreatDoor.Pa
open Go.RowKit Go.Proofs.YtdojbnngdlmbgaaGreatDoor.Tr
set_option linter.unusedVariables false

theorem phA_lastA (n : Nd) : ∀ l : List Ar, phA (lastA n l) ≤ phA l + szN n
  | [] => by simp [lastA, phA]
  | [.mk b nm v] => by
    have := sz_jn v n
    simp only [lastA, phA, Ar.named, Ar.name, Ar.value]; omega
  | a :: b :: r => by
    have := phA_lastA n (b :: r)
    rw [lastA, phA, phA]; omega
theorem pr_nodeE (e : Rl) (n : Nd) : pr (nodeE e n) ≤ pr e + szN n := by
  unfold nodeE pr
  split
  · have := phA_lastA n e.args
    simp only; omega
  · have := sz_jn e.list n
    simp only; omega
theorem prs_node : ∀ (st : List Rl) (n : Nd), prs (nodeR st n) ≤ prs st + szN n
  | [], n => by simp [nodeR, prs]
  | e :: st, n => by
    have := pr_nodeE e n
    rw [nodeR, prs, prs]; omega
theorem szN_tx (s : List UInt8) : szN (tx s) = 1 + s.length := by
  have := sz_tx s
  rw [sz_cons, sz_nil] at this; exact this
theorem prs_text (st : List Rl) (s : List UInt8) : prs (textR st s) ≤ prs st + (1 + s.length) := by
  have := prs_node st (tx s)
  rw [szN_tx] at this
  exact this
theorem prs_nodes : ∀ (l : List Nd) (st : List Rl), prs (nodesR st l) ≤ prs st + sz l
  | [], st => by simp [nodesR, sz_nil]
  | n :: l, st => by
    have h1 := prs_nodes l (nodeR st n)
    have h2 := prs_node st n
    have e : nodesR st (n :: l) = nodesR (nodeR st n) l := rfl
    rw [e, sz_cons]; omega
theorem prs_arg (st : List Rl) (a : Ar) : prs (argR st a) ≤ prs st + (8 + sz a.name + sz a.value) := by
  unfold argR
  have t1 := prs_text st [124]
  simp only [List.length_cons, List.length_nil] at t1
  split
  · have n1 := prs_nodes a.name (textR st [124])
    have t2 := prs_text (nodesR (textR st [124]) a.name) [61]
    simp only [List.length_cons, List.length_nil] at t2
    have n2 := prs_nodes a.value (textR (nodesR (textR st [124]) a.name) [61])
    omega
  · have n2 := prs_nodes a.value (textR st [124])
    omega
theorem prs_args : ∀ (l : List Ar) (st : List Rl), prs (l.foldl argR st) ≤ prs st + phA l
  | [], st => by simp [phA]
  | a :: l, st => by
    have h1 := prs_args l (argR st a)
    have h2 := prs_arg st a
    rw [List.foldl_cons, phA]; omega
theorem len_nodeR (st : List Rl) (n : Nd) : (nodeR st n).length = st.length := by cases st <;> rfl
theorem len_textR (st : List Rl) (s : List UInt8) : (textR st s).length = st.length := len_nodeR _ _
theorem len_nodesR : ∀ (l : List Nd) (st : List Rl), (nodesR st l).length = st.length
  | [], st => rfl
  | n :: l, st => (len_nodesR l (nodeR st n)).trans (len_nodeR st n)
theorem len_argR (st : List Rl) (a : Ar) : (argR st a).length = st.length := by
  unfold argR
  rw [len_nodesR]
  split
  · rw [len_textR, len_nodesR, len_textR]
  · rw [len_textR]
theorem len_argsR : ∀ (l : List Ar) (st : List Rl), (l.foldl argR st).length = st.length
  | [], st => rfl
  | a :: l, st => by rw [List.foldl_cons, len_argsR l, len_argR]
theorem nodesR_take {l : List Nd} {k : Nat} (h : k < l.length) (st : List Rl) : nodesR st (l.take (k + 1)) = nodeR (nodesR st (l.take k)) l[k] := by
  unfold nodesR
  rw [List.take_succ_eq_append_getElem h, List.foldl_append]; rfl
/-- A node of a list that is read. -/
theorem LX.at {w : World} {X : Nat → Prop} {v : Value} {l : List Nd} (h : LX w X v l) {k : Nat} (hk : k < l.length) : ∃ g o c vk va, v = .slice (some ⟨g, o, none⟩) l.length c ∧ l.length ≤ c ∧ c ≤ 9223372036854775807 ∧ X g ∧ w.cell? ⟨g, o + k * 5, none⟩ = some (.int .i64 l[k].kind) ∧ w.cell? ⟨g, o + k * 5 + 1, none⟩ = some (.int .i64 l[k].tag) ∧ w.cell? ⟨g, o + k * 5 + 2, none⟩ = some (.string l[k].text) ∧ w.cell? ⟨g, o + k * 5 + 3, none⟩ = some vk ∧ w.cell? ⟨g, o + k * 5 + 4, none⟩ = some va ∧ Fit l[k].kind ∧ Fit l[k].tag ∧ LX w X vk l[k].kids ∧ AX w X va l[k].args := by
  obtain ⟨d, h⟩ := h
  cases d with
  | zero => exact h.elim
  | succ d =>
    obtain ⟨_, A, c, rfl, h2, h3, R⟩ := h
    obtain ⟨g, o, rfl, hg, q⟩ := R (by omega)
    obtain ⟨vk, va, a1, a2, a3, a4, a5, f1, f2, a6, a7⟩ := q k hk l[k] (List.getElem?_eq_getElem hk)
    exact ⟨g, o, c, vk, va, rfl, h2, by simpa [maxLen] using h3, hg, a1, a2, a3, a4, a5, f1, f2, ⟨d, a6⟩, ⟨d, a7⟩⟩
section
variable {gp : Nat} {w w' : World} {st : List Rl} {v nv : Value} {n : Nd} {l : List Nd}
theorem node_r (h : SP gp w st) (hne : st ≠ []) (hn : NV w (Xg gp w) nv n) (hz : prs st + szN n ≤ 8388608) (hst : st.length ≤ 2000) : Calls Tryz.prog 75 #[.pointer (some ⟨gp, 0, none⟩), nv] w fun x w' => x = .returned (.tuple #[]) ∧ SP gp w' (nodeR st n) ∧ Fq gp w w' := by
  cases st with
  | nil => exact absurd rfl hne
  | cons e st =>
    rw [prs] at hz
    simp only [List.length_cons] at hst
    by_cases hc : e.kind = 3 ∧ e.args.isEmpty = false
    · exact node1_r h hn hc (by omega) (by omega)
    · exact node0_r h hn hc (by omega) (by omega)
set_option maxRecDepth 100000 in
set_option maxHeartbeats 4000000 in
theorem text_r (h : SP gp w st) (hne : st ≠ []) (s : ByteArray) (hz : prs st + (1 + s.size) ≤ 8388608) (hst : st.length ≤ 2000) : Calls Tryz.prog 79 #[.pointer (some ⟨gp, 0, none⟩), .string s] w fun x w' => x = .returned (.tuple #[]) ∧ SP gp w' (textR st s.data.toList) ∧ Fq gp w w' := by
  have HN := Lib.hid (node_r h hne (nv := .agg #[.int .i64 1, .int .i64 0, .string s, .slice none 0 0, .slice none 0 0]) (n := txN s) ⟨_, _, rfl, LX.nil _ _, AX.nil _ _, by show Fit 1; unfold Fit; omega, by show Fit 0; unfold Fit; omega⟩ (by
    have : szN (txN s) = 1 + s.size := by rw [szN_eq]; simp [txN, Nd.text, Nd.kids, Nd.args, sz_nil, szA_nil]
    omega) hst)
  clear h
  go_enter Tryz.func79, Tryz.ntmps79
  go_wp2_with fail
  refine HN.out.mono ?_
  rintro x w1 ⟨rfl, h1, f1⟩
  have R := Lib.hid (And.intro h1 f1)
  clear h1 f1
  go_wp2_with fail
  go_end0
  exact ⟨rfl, R.out⟩
set_option maxRecDepth 100000 in
set_option maxHeartbeats 4000000 in
theorem nodes_r (h : SP gp w st) (hne : st ≠ []) (hl : LX w (Xg gp w) v l) (hz : prs st + sz l ≤ 8388608) (hst : st.length ≤ 2000) : Calls Tryz.prog 82 #[.pointer (some ⟨gp, 0, none⟩), v] w fun x w' => x = .returned (.tuple #[]) ∧ SP gp w' (nodesR st l) ∧ Fq gp w w' := by
  obtain ⟨A, c, rfl⟩ := hl.form
  have HL := Lib.hid hl
  have HS := Lib.hid h
  clear hl h
  go_enter Tryz.func82, Tryz.ntmps82
  go_wp2
  go_loopw [4] (fun i wr => ∃ k : Nat, i = .int .i64 k ∧ k ≤ l.length ∧ Hid (SP gp wr (nodesR st (l.take k))) ∧ Hid (Fq gp w wr)) (fun i _ => l.length - (intOf i).toNat)
  case atStart => exact ⟨0, rfl, Nat.zero_le _, by simpa [nodesR] using HS, Lib.hid (Fq.refl _ _)⟩
  case round =>
    obtain ⟨k, rfl, hk, hs, hf⟩ := hrel
    by_cases hlt : k < l.length
    · have hki : (k : Int) < (l.length : Int) := by omega
      obtain ⟨g, o, c', vk, va, e1, c1, c2, hg, a1, a2, a3, a4, a5, f1, f2, lk, la⟩ := (hf.out.lx HL.out).at hlt
      cases e1
      obtain ⟨Ak, ck, rfl⟩ := lk.form
      obtain ⟨Aa, ca, rfl⟩ := la.form
      have hsz : sz (l.take k) + szN l[k] ≤ sz l := by
        have h1 : sz (l.take (k + 1)) = sz (l.take k) + szN l[k] := by rw [List.take_succ_eq_append_getElem hlt, sz_append, sz_cons, sz_nil]; rfl
        have h2 := sz_takeJ l (k + 1)
        omega
      have hp := prs_nodes (l.take k) st
      have HN := Lib.hid (node_r hs.out (fun q => hne (List.length_eq_zero_iff.1 (by rw [← len_nodesR (l.take k) st, q]; rfl))) (nv := .agg #[.int .i64 l[k].kind, .int .i64 l[k].tag, .string l[k].text, .slice Ak l[k].kids.length ck, .slice Aa l[k].args.length ca]) (n := l[k]) ⟨_, _, rfl, lk, la, f1, f2⟩ (by omega) (by rw [len_nodesR]; exact hst))
      have HT := Lib.hid (nodesR_take hlt st)
      clear lk la f1 f2 hp hsz
      go_wp2_with fail
      refine HN.out.mono ?_
      rintro x w1 ⟨rfl, h1, q1⟩
      rw [← HT.out] at h1
      have R1 := Lib.hid h1
      have R2 := Lib.hid (hf.out.trans q1)
      clear h1 q1
      go_wp2
      go_roundw
      case rel => exact ⟨k + 1, by go_num, by omega, R1, R2⟩
      case measure => simp [intOf]; omega
    · obtain rfl : k = l.length := by omega
      go_wp2
      go_end0
      have := hs.out
      rw [List.take_length] at this
      exact ⟨rfl, this, hf.out⟩
end
end Go.Proofs.YtdojbnngdlmbgaaGreatDoor.Pa

namespace Go.Proofs.YtdojbnngdlmbgaaGreatDoor.Pa
open Go.RowKit Go.Proofs.YtdojbnngdlmbgaaGreatDoor.Tr
set_option linter.unusedVariables false

/-- What holds of every element. -/
def Kr (st : List Rl) : Prop := ∀ e ∈ st, e.kind ≤ 3 ∧ (e.kind = 2 → 1 ≤ e.tag ∧ e.tag ≤ 3) ∧ e.count ≤ 8192
theorem nodeE_same (e : Rl) (n : Nd) : (nodeE e n).kind = e.kind ∧ (nodeE e n).tag = e.tag ∧ (nodeE e n).count = e.count := by
  unfold nodeE; split <;> exact ⟨rfl, rfl, rfl⟩
theorem Kr.node {st : List Rl} (h : Kr st) (n : Nd) : Kr (nodeR st n) := by
  cases st with
  | nil => exact h
  | cons e st =>
    intro x hx
    rcases List.mem_cons.1 hx with rfl | hx
    · obtain ⟨a, b, c⟩ := nodeE_same e n
      rw [a, b, c]; exact h e List.mem_cons_self
    · exact h x (List.mem_cons_of_mem _ hx)
theorem Kr.text {st : List Rl} (h : Kr st) (s : List UInt8) : Kr (textR st s) := h.node _
theorem Kr.nodes : ∀ (l : List Nd) {st : List Rl}, Kr st → Kr (nodesR st l)
  | [], _, h => h
  | n :: l, _, h => Kr.nodes l (h.node n)
theorem Kr.arg {st : List Rl} (h : Kr st) (a : Ar) : Kr (argR st a) := by
  unfold argR
  split
  · exact (((h.text _).nodes _).text _).nodes _
  · exact (h.text _).nodes _
theorem Kr.args : ∀ (l : List Ar) {st : List Rl}, Kr st → Kr (l.foldl argR st)
  | [], _, h => h
  | a :: l, _, h => Kr.args l (h.arg a)
theorem Kr.tail {e : Rl} {st : List Rl} (h : Kr (e :: st)) : Kr st := fun x hx => h x (List.mem_cons_of_mem _ hx)
theorem flatR_cons (e : Rl) (st : List Rl) : flatR (e :: st) = if e.kind = 1 then nodesR (textR st [91, 91]) e.list
    else if e.kind = 2 then nodesR (textR st (tO e.tag)) e.list
    else if e.kind = 3 then e.args.foldl argR (nodesR (textR st (List.replicate e.count 123)) e.list) else st := rfl
theorem Kr.flat {st : List Rl} (h : Kr st) : Kr (flatR st) := by
  cases st with
  | nil => exact h
  | cons e st =>
    rw [flatR_cons]
    split
    · exact (h.tail.text _).nodes _
    · split
      · exact (h.tail.text _).nodes _
      · split
        · exact ((h.tail.text _).nodes _).args _
        · exact h.tail
theorem len_flatR (e : Rl) (st : List Rl) : (flatR (e :: st)).length = st.length := by
  rw [flatR_cons]
  split
  · rw [len_nodesR, len_textR]
  · split
    · rw [len_nodesR, len_textR]
    · split
      · rw [len_argsR, len_nodesR, len_textR]
      · rfl
theorem tO_len (t : Int) : (tO t).length ≤ 15 := by
  unfold tO tname
  split
  · simp
  · split
    · simp
    · split <;> simp
theorem prs_flat (e : Rl) (st : List Rl) : prs (flatR (e :: st)) ≤ prs (e :: st) := by
  rw [prs, pr, flatR_cons]
  split
  · have h1 := prs_text st [91, 91]
    have h2 := prs_nodes e.list (textR st [91, 91])
    simp only [List.length_cons, List.length_nil] at h1
    omega
  · split
    · have h1 := prs_text st (tO e.tag)
      have h2 := prs_nodes e.list (textR st (tO e.tag))
      have := tO_len e.tag
      omega
    · split
      · have h1 := prs_text st (List.replicate e.count 123)
        have h2 := prs_nodes e.list (textR st (List.replicate e.count 123))
        have h3 := prs_args e.args (nodesR (textR st (List.replicate e.count 123)) e.list)
        rw [List.length_replicate] at h1
        omega
      · omega
theorem prs_flats : ∀ (n : Nat) (st : List Rl), n < st.length → prs (flatsR n st) ≤ prs st ∧ (flatsR n st).length = st.length - n
  | 0, st, _ => ⟨Nat.le_refl _, rfl⟩
  | n + 1, [], h => by simp at h
  | n + 1, e :: st, h => by
    have h1 := prs_flat e st
    have h2 := len_flatR e st
    simp only [List.length_cons] at h
    have h3 := prs_flats n (flatR (e :: st)) (by omega)
    rw [flatsR]
    refine ⟨by omega, ?_⟩
    rw [h3.2, h2, List.length_cons]; omega
theorem Kr.flats : ∀ (n : Nat) {st : List Rl}, Kr st → Kr (flatsR n st)
  | 0, _, h => h
  | n + 1, _, h => Kr.flats n h.flat
theorem rep_snoc (c : UInt8) (k : Nat) : List.replicate k c ++ [c] = List.replicate (k + 1) c := by
  rw [show [c] = List.replicate 1 c from rfl, rep_add]
set_option maxRecDepth 100000 in
set_option maxHeartbeats 4000000 in
theorem braces_r (n : Nat) (c : UInt8) (w : World) (hn : n ≤ 16384) : Calls Tryz.prog 124 #[.int .i64 (n : Int), .string ⟨#[c]⟩] w fun x w' => ∃ S : ByteArray, x = .returned (.string S) ∧ S.data.toList = List.replicate n c ∧ Below w.heap.size w w' := by
  go_enter Tryz.func124, Tryz.ntmps124
  go_wp2
  go_loopw [5, 6] (fun sv i wr => ∃ (k : Nat) (S : ByteArray), i = .int .i64 k ∧ sv = .string S ∧ k ≤ n ∧ S.size = k ∧ Hid (S.data.toList = List.replicate k c) ∧ wr = w) (fun _ i _ => n - (intOf i).toNat)
  case atStart => exact ⟨0, ⟨#[]⟩, rfl, rfl, Nat.zero_le _, rfl, Lib.hid rfl, rfl⟩
  case round =>
    obtain ⟨k, S, rfl, rfl, hk, hs, hr, rfl⟩ := hrel
    by_cases hlt : k < n
    · have hki : (k : Int) < (n : Int) := by omega
      have hsz : (S ++ ⟨#[c]⟩).size = k + 1 := by rw [ByteArray.size_append, hs]; rfl
      have hl : Hid ((S ++ ⟨#[c]⟩).data.toList = List.replicate (k + 1) c) := Lib.hid (by
        rw [show (S ++ ⟨#[c]⟩).data.toList = S.data.toList ++ [c] by simp, hr.out, rep_snoc])
      have h1 : (⟨#[c]⟩ : ByteArray).size = 1 := rfl
      have HZ := Lib.hid (And.intro hsz h1)
      have hle : S.size ≤ 16384 := by omega
      have HS := Lib.hid hs
      clear hsz hs
      go_wp2
      go_roundw
      case rel => exact ⟨k + 1, _, by go_num, rfl, by omega, HZ.out.1, hl, trivial⟩
      case measure => simp [intOf]; omega
    · obtain rfl : k = n := by omega
      go_wp2
      go_ret
      exact ⟨S, rfl, hr.out, Below.refl _ _⟩
theorem argsR_take {l : List Ar} {k : Nat} (h : k < l.length) (st : List Rl) : (l.take (k + 1)).foldl argR st = argR ((l.take k).foldl argR st) l[k] := by
  rw [List.take_succ_eq_append_getElem h, List.foldl_append]; rfl
section
variable {gp : Nat} {w w' : World} {e : Rl} {st : List Rl}
set_option maxRecDepth 100000 in
set_option maxHeartbeats 4000000 in
theorem flatten_r (h : SP gp w (e :: st)) (h0 : 0 < st.length) (hk : Kr (e :: st)) (hz : prs (e :: st) ≤ 8000000) (hst : st.length ≤ 2000) : Calls Tryz.prog 85 #[.pointer (some ⟨gp, 0, none⟩)] w fun x w' => x = .returned (.tuple #[]) ∧ SP gp w' (flatR (e :: st)) ∧ Fq gp w w' := by
  have HP := Lib.hid (pop_r h h0 hst)
  have hne : st ≠ [] := List.length_pos_iff.1 h0
  obtain ⟨hk1, hk2, hk3⟩ := hk e List.mem_cons_self
  have hz' : 16 + e.count + sz e.list + phA e.args + prs st ≤ 8000000 := hz
  have hgl := h.glt
  clear h hk hz
  go_enter Tryz.func85, Tryz.ntmps85
  go_wp2_with fail
  refine HP.out.mono ?_
  rintro x w1 ⟨v1, rfl, ⟨vl, va, rfl, hl, ha⟩, hS, hF⟩
  obtain ⟨Al, cl, rfl⟩ := hl.form
  obtain ⟨Aa, ca, rfl⟩ := ha.form
  obtain ⟨OE, hOE⟩ : ∃ O, Obj.cells #[Value.int .i64 e.kind, .int .i64 e.tag, .int .i64 e.count, .slice Al e.list.length cl, .slice Aa e.args.length ca] 82 = O := ⟨_, rfl⟩
  obtain ⟨w2, hw2⟩ : ∃ w2, w1.alloc OE = w2 := ⟨_, rfl⟩
  have b2 : Below w1.heap.size w1 w2 := by rw [← hw2]; exact (Below.refl _ _).alloc (Nat.le_refl _) _
  have h2E : w2.heap[w1.heap.size]? = some OE := by rw [← hw2]; exact heap_alloc_new w1 OE
  rw [← hOE] at h2E
  obtain ⟨S2, F2⟩ := hS.keep b2
  have hgl1 := hS.glt
  have lt2 := (Array.getElem?_eq_some_iff.1 h2E).1
  have CELL : Hid (∀ W, Fq gp w2 W → W.cell? ⟨w1.heap.size, 0, none⟩ = some (.int .i64 e.kind) ∧ W.cell? ⟨w1.heap.size, 1, none⟩ = some (.int .i64 e.tag) ∧ W.cell? ⟨w1.heap.size, 2, none⟩ = some (.int .i64 e.count) ∧ W.cell? ⟨w1.heap.size, 3, none⟩ = some (.slice Al e.list.length cl) ∧ W.cell? ⟨w1.heap.size, 4, none⟩ = some (.slice Aa e.args.length ca)) := Lib.hid fun W hW => by
    have k := (hW.kp w1.heap.size lt2 (by omega)).trans h2E
    exact ⟨cell_heap k rfl, cell_heap k rfl, cell_heap k rfl, cell_heap k rfl, cell_heap k rfl⟩
  have HS2 := Lib.hid S2
  have HF2 := Lib.hid (hF.trans F2)
  have HL := Lib.hid (F2.lx hl)
  have HA := Lib.hid (F2.ax ha)
  obtain ⟨e0, e1, e2, e3, e4⟩ := CELL.out w2 (Fq.refl _ _)
  clear HP hl ha hS hF h2E S2 F2 b2
  have hcase : e.kind = 0 ∨ e.kind = 1 ∨ e.kind = 2 ∨ e.kind = 3 := by omega
  rcases hcase with hkd | hkd | hkd | hkd
  · have HR : Hid (flatR (e :: st) = st) := Lib.hid (by rw [flatR_cons, if_neg (by omega), if_neg (by omega), if_neg (by omega)])
    have t1 : ((e.kind : Int) == 1) = false := by rw [hkd]; rfl
    have t2 : ((e.kind : Int) == 2) = false := by rw [hkd]; rfl
    have t3 : ((e.kind : Int) == 3) = false := by rw [hkd]; rfl
    clear hkd hk2
    go_wp2_with fail
    go_end0
    exact ⟨rfl, by rw [HR.out]; exact HS2.out, HF2.out⟩
  · have HR : Hid (flatR (e :: st) = nodesR (textR st [91, 91]) e.list) := Lib.hid (by rw [flatR_cons, if_pos hkd])
    have t1 : ((e.kind : Int) == 1) = true := by rw [hkd]; rfl
    have TX := Lib.hid (text_r HS2.out hne ⟨#[91, 91]⟩ (by show _ + (1 + 2) ≤ _; omega) (by omega))
    clear hkd hk2
    go_wp2_with fail
    refine TX.out.mono ?_
    rintro x w3 ⟨rfl, s3, f3⟩
    have p3 := prs_text st [91, 91]
    simp only [List.length_cons, List.length_nil] at p3
    have NX := Lib.hid (nodes_r s3 (fun q => hne (List.length_eq_zero_iff.1 (by rw [← len_textR st [91, 91]]; exact congrArg List.length q))) (f3.lx HL.out) (by show prs (textR st [91, 91]) + _ ≤ _; omega) (by show (textR st [91, 91]).length ≤ _; rw [len_textR]; omega))
    have F3 := Lib.hid (HF2.out.trans f3)
    obtain ⟨e0, e1, e2, e3, e4⟩ := CELL.out w3 f3
    clear s3 f3 p3
    go_wp2_with fail
    refine NX.out.mono ?_
    rintro x w4 ⟨rfl, s4, f4⟩
    have R4 := Lib.hid (And.intro s4 (F3.out.trans f4))
    clear s4 f4
    go_wp2_with fail
    go_end0
    exact ⟨rfl, by rw [HR.out]; exact R4.out.1, R4.out.2⟩
  · have HR : Hid (flatR (e :: st) = nodesR (textR st (tO e.tag)) e.list) := Lib.hid (by rw [flatR_cons, if_neg (by omega), if_pos hkd])
    have t1 : ((e.kind : Int) == 1) = false := by rw [hkd]; rfl
    have t2 : ((e.kind : Int) == 2) = true := by rw [hkd]; rfl
    obtain ⟨q1, q3⟩ := hk2 hkd
    obtain ⟨t, ht⟩ : ∃ t : Nat, e.tag = (t : Int) := ⟨e.tag.toNat, by omega⟩
    have TG := Lib.hid (Tk.TagText_any t false w2 (by omega) (by omega))
    have HTG : Tk.tagL t false = tO e.tag := by rw [ht, ← (tO_eq t (by omega) (by omega)).1]; rfl
    have HTG := Lib.hid HTG
    rw [ht] at e1
    clear hkd hk2 q1 q3
    have HTT := Lib.hid ht
    clear ht
    go_wp2_with fail
    refine TG.out.mono ?_
    rintro x w3 ⟨rfl, b3⟩
    obtain ⟨s3, f3⟩ := HS2.out.keep b3
    obtain ⟨S, hSt⟩ : ∃ S : ByteArray, ⟨(Tk.tagL t false).toArray⟩ = S := ⟨_, rfl⟩
    have HTO : Hid (S.data.toList = tO e.tag) := Lib.hid (by rw [← hSt]; exact HTG.out)
    rw [hSt]
    have hSl : S.size ≤ 15 := by
      have h1 := tO_len e.tag
      have h2 : S.size = S.data.toList.length := rfl
      rw [h2, HTO.out]; exact h1
    clear hSt
    have TX := Lib.hid (text_r s3 hne S (by omega) (by omega))
    have F3 := Lib.hid f3
    obtain ⟨e0, e1, e2, e3, e4⟩ := CELL.out w3 f3
    clear s3 f3 b3 TG
    go_wp2_with fail
    refine TX.out.mono ?_
    rintro x w4 ⟨rfl, s4, f4⟩
    rw [HTO.out] at s4
    have p3 := prs_text st (tO e.tag)
    have p4 := tO_len e.tag
    have NX := Lib.hid (nodes_r s4 (fun q => hne (List.length_eq_zero_iff.1 (by rw [← len_textR st (tO e.tag)]; exact congrArg List.length q))) ((F3.out.trans f4).lx HL.out) (by omega) (by rw [len_textR]; omega))
    have F4 := Lib.hid (F3.out.trans f4)
    obtain ⟨e0, e1, e2, e3, e4⟩ := CELL.out w4 F4.out
    clear s4 f4 p3 p4
    go_wp2_with fail
    refine NX.out.mono ?_
    rintro x w5 ⟨rfl, s5, f5⟩
    have R5 := Lib.hid (And.intro s5 ((HF2.out.trans F4.out).trans f5))
    clear s5 f5
    go_wp2_with fail
    go_end0
    exact ⟨rfl, by rw [HR.out]; exact R5.out.1, R5.out.2⟩
  · have HR : Hid (flatR (e :: st) = e.args.foldl argR (nodesR (textR st (List.replicate e.count 123)) e.list)) := Lib.hid (by rw [flatR_cons, if_neg (by omega), if_neg (by omega), if_pos hkd])
    have t1 : ((e.kind : Int) == 1) = false := by rw [hkd]; rfl
    have t2 : ((e.kind : Int) == 2) = false := by rw [hkd]; rfl
    have t3 : ((e.kind : Int) == 3) = true := by rw [hkd]; rfl
    have BR := Lib.hid (braces_r e.count 123 w2 (by omega))
    clear hkd hk2
    go_wp2_with fail
    refine BR.out.mono ?_
    rintro x w3 ⟨S, rfl, hSl, b3⟩
    obtain ⟨s3, f3⟩ := HS2.out.keep b3
    have hSz : S.size = e.count := by
      have h2 : S.size = S.data.toList.length := rfl
      rw [h2, hSl, List.length_replicate]
    have HSL := Lib.hid hSl
    have TX := Lib.hid (text_r s3 hne S (by omega) (by omega))
    have HSZ := Lib.hid hSz
    have F3 := Lib.hid f3
    obtain ⟨e0, e1, e2, e3, e4⟩ := CELL.out w3 f3
    clear s3 f3 b3 BR hSl hSz
    go_wp2_with fail
    refine TX.out.mono ?_
    rintro x w4 ⟨rfl, s4, f4⟩
    rw [HSL.out] at s4
    have p3 := prs_text st (List.replicate e.count 123)
    rw [List.length_replicate] at p3
    have NX := Lib.hid (nodes_r s4 (fun q => hne (List.length_eq_zero_iff.1 (by rw [← len_textR st (List.replicate e.count 123)]; exact congrArg List.length q))) ((F3.out.trans f4).lx HL.out) (by omega) (by rw [len_textR]; omega))
    have F4 := Lib.hid (F3.out.trans f4)
    obtain ⟨e0, e1, e2, e3, e4⟩ := CELL.out w4 F4.out
    clear s4 f4 TX
    go_wp2_with fail
    refine NX.out.mono ?_
    rintro x w5 ⟨rfl, s5, f5⟩
    have p5 := prs_nodes e.list (textR st (List.replicate e.count 123))
    have HB5 : Hid (prs (nodesR (textR st (List.replicate e.count 123)) e.list) + phA e.args ≤ 8200000 ∧ (nodesR (textR st (List.replicate e.count 123)) e.list).length = st.length) := Lib.hid ⟨by omega, by rw [len_nodesR, len_textR]⟩
    generalize nodesR (textR st (List.replicate e.count 123)) e.list = B at s5 HB5 HR
    have S5 := Lib.hid s5
    have F5 := Lib.hid (F4.out.trans f5)
    clear s5 f5 p3 p5 NX
    obtain ⟨e0, e1, e2, e3, e4⟩ := CELL.out w5 F5.out
    go_wp2
    go_loopw [3] (fun i wr => ∃ k : Nat, i = .int .i64 k ∧ k ≤ e.args.length ∧ Hid (SP gp wr ((e.args.take k).foldl argR B)) ∧ Hid (Fq gp w2 wr)) (fun i _ => e.args.length - (intOf i).toNat)
    case atStart => exact ⟨0, rfl, Nat.zero_le _, S5, F5⟩
    case round =>
      obtain ⟨k, rfl, hk, hs, hf⟩ := hrel
      obtain ⟨e0, e1, e2, e3, e4⟩ := CELL.out wr hf.out
      by_cases hlt : k < e.args.length
      · skip
        have hki : (k : Int) < (e.args.length : Int) := by omega
        have hpk : prs ((e.args.take k).foldl argR B) ≤ prs B + phA (e.args.take k) := prs_args _ _
        have hph : phA (e.args.take k) + (8 + sz e.args[k].name + sz e.args[k].value) ≤ phA e.args := by
          have h1 : phA (e.args.take k ++ e.args.drop k) = phA e.args := by rw [List.take_append_drop]
          rw [phA_append, List.drop_eq_getElem_cons hlt] at h1
          simp only [phA] at h1
          omega
        have hB5 := HB5.out.1
        have hbl : ((e.args.take k).foldl argR B).length = st.length := by rw [len_argsR, HB5.out.2]
        have HT := Lib.hid (argsR_take hlt B)
        generalize (e.args.take k).foldl argR B = C at hs hpk hbl HT
        have hCne : C ≠ [] := fun q => by rw [q] at hbl; simp at hbl; omega
        have TX := Lib.hid (text_r hs.out hCne ⟨#[124]⟩ (by show _ + (1 + 1) ≤ _; omega) (by omega))
        have pC := prs_text C [124]
        simp only [List.length_cons, List.length_nil] at pC
        go_wp2_with fail
        refine TX.out.mono ?_
        rintro x w6 ⟨rfl, s6, f6⟩
        have F6 := Lib.hid (hf.out.trans f6)
        have S6 : Hid (SP gp w6 (textR C [124])) := Lib.hid s6
        have lC : (textR C [124]).length = st.length := by rw [len_textR, hbl]
        clear s6 f6 TX hs
        obtain ⟨e0, e1, e2, e3, e4⟩ := CELL.out w6 F6.out
        obtain ⟨g, o, c', vn, vv, q1, c1, c2, hg, a1, a2, a3, ln, lv⟩ := (F6.out.ax HA.out).at hlt
        cases q1
        cases hnm : e.args[k].named
        · rw [hnm] at a1
          have HG : Hid (argR C e.args[k] = nodesR (textR C [124]) e.args[k].value) := Lib.hid (by unfold argR; rw [hnm]; rfl)
          have NX := Lib.hid (nodes_r S6.out (fun q => by rw [q] at lC; simp at lC; omega) lv (by omega) (by omega))
          obtain ⟨Av, cv, rfl⟩ := lv.form
          clear ln lv
          go_wp2_with fail
          refine NX.out.mono ?_
          rintro x w7 ⟨rfl, s7, f7⟩
          rw [← HG.out, ← HT.out] at s7
          have S7 := Lib.hid s7
          have F7 := Lib.hid (F6.out.trans f7)
          clear s7 f7
          go_wp2
          go_roundw
          case rel => exact ⟨k + 1, by go_num, by omega, S7, F7⟩
          case measure => simp [intOf]; omega
        · rw [hnm] at a1
          have HG : Hid (argR C e.args[k] = nodesR (textR (nodesR (textR C [124]) e.args[k].name) [61]) e.args[k].value) := Lib.hid (by unfold argR; rw [hnm]; rfl)
          have NX := Lib.hid (nodes_r S6.out (fun q => by rw [q] at lC; simp at lC; omega) ln (by omega) (by omega))
          have pN := prs_nodes e.args[k].name (textR C [124])
          have lN : (nodesR (textR C [124]) e.args[k].name).length = st.length := by rw [len_nodesR, lC]
          obtain ⟨An, cn, rfl⟩ := ln.form
          clear ln lv
          go_wp2_with fail
          refine NX.out.mono ?_
          rintro x w7 ⟨rfl, s7, f7⟩
          have F7 := Lib.hid (F6.out.trans f7)
          have TX := Lib.hid (text_r s7 (fun q => by rw [q] at lN; simp at lN; omega) ⟨#[61]⟩ (by show _ + (1 + 1) ≤ _; omega) (by omega))
          have pT := prs_text (nodesR (textR C [124]) e.args[k].name) [61]
          simp only [List.length_cons, List.length_nil] at pT
          have lT : (textR (nodesR (textR C [124]) e.args[k].name) [61]).length = st.length := by rw [len_textR, lN]
          clear s7 f7 NX a1 a2 a3
          obtain ⟨e0, e1, e2, e3, e4⟩ := CELL.out w7 F7.out
          go_wp2_with fail
          refine TX.out.mono ?_
          rintro x w8 ⟨rfl, s8, f8⟩
          have s8' : SP gp w8 (textR (nodesR (textR C [124]) e.args[k].name) [61]) := s8
          have F8 := Lib.hid (F7.out.trans f8)
          clear f8 TX s8
          obtain ⟨e0, e1, e2, e3, e4⟩ := CELL.out w8 F8.out
          obtain ⟨g', o', c'', vn', vv', q1, c1', c2', hg', b1, b2, b3, ln, lv⟩ := (F8.out.ax HA.out).at hlt
          cases q1
          have NX := Lib.hid (nodes_r s8' (fun q => by rw [q] at lT; simp at lT; omega) lv (by omega) (by omega))
          obtain ⟨Av, cv, rfl⟩ := lv.form
          clear ln lv s8'
          go_wp2_with fail
          refine NX.out.mono ?_
          rintro x w9 ⟨rfl, s9, f9⟩
          rw [← HG.out, ← HT.out] at s9
          have S9 := Lib.hid s9
          have F9 := Lib.hid (F8.out.trans f9)
          clear s9 f9
          go_wp2
          go_roundw
          case rel => exact ⟨k + 1, by go_num, by omega, S9, F9⟩
          case measure => simp [intOf]; omega
      · obtain rfl : k = e.args.length := by omega
        go_wp2
        go_end0
        have := hs.out
        rw [List.take_length] at this
        exact ⟨rfl, by rw [HR.out]; exact this, HF2.out.trans hf.out⟩
end
end Go.Proofs.YtdojbnngdlmbgaaGreatDoor.Pa

namespace Go.Proofs.YtdojbnngdlmbgaaGreatDoor.Pa
open Go.RowKit Go.Proofs.YtdojbnngdlmbgaaGreatDoor.Tr
set_option linter.unusedVariables false

def lenOf (gp : Nat) (w : World) : Nat := match w.cell? ⟨gp, 0, none⟩ with
  | some (.slice _ n _) => n
  | _ => 0
theorem flatsR_succ : ∀ (k : Nat) (st : List Rl), flatsR (k + 1) st = flatR (flatsR k st)
  | 0, _ => rfl
  | k + 1, st => flatsR_succ k (flatR st)
section
variable {gp : Nat} {w w' : World} {st : List Rl}
theorem SP.lenOf (h : SP gp w st) : lenOf gp w = st.length := by
  obtain ⟨g, cap, xs, q⟩ := h
  unfold Pa.lenOf
  rw [q.pc]
set_option maxRecDepth 100000 in
set_option maxHeartbeats 4000000 in
theorem flattenTo_r (h : SP gp w st) (at_ : Nat) (ha : at_ < st.length) (hk : Kr st) (hz : prs st ≤ 8000000) (hst : st.length ≤ 2000) : Calls Tryz.prog 38 #[.pointer (some ⟨gp, 0, none⟩), .int .i64 (at_ : Int)] w fun x w' => x = .returned (.tuple #[]) ∧ SP gp w' (flatsR (st.length - 1 - at_) st) ∧ Fq gp w w' := by
  have HS := Lib.hid h
  clear h
  go_enter Tryz.func38, Tryz.ntmps38
  go_wp2
  go_loopw [] (fun wr => ∃ k : Nat, k ≤ st.length - 1 - at_ ∧ Hid (SP gp wr (flatsR k st)) ∧ Hid (Fq gp w wr)) (fun wr => lenOf gp wr)
  case atStart => exact ⟨0, Nat.zero_le _, HS, Lib.hid (Fq.refl _ _)⟩
  case round =>
    obtain ⟨k, hkn, hs, hf⟩ := hrel
    obtain ⟨p1, p2⟩ := prs_flats k st (by omega)
    obtain ⟨m, hm⟩ : ∃ m, (flatsR k st).length = m + 1 := ⟨(flatsR k st).length - 1, by omega⟩
    obtain ⟨g, cap, xs, q⟩ := hs.out
    have c0 := q.pc
    have k1 := q.hc
    have k2 := q.hm
    rw [hm] at c0 k1
    have hmm : m + 1 = st.length - k := by rw [← hm, p2]
    clear q
    by_cases hlt : k < st.length - 1 - at_
    · have hc : (at_ : Int) < (m : Int) := by omega
      obtain ⟨e, r, her⟩ : ∃ e r, flatsR k st = e :: r := by
        cases hq : flatsR k st with
        | nil => rw [hq] at hm; simp at hm
        | cons e r => exact ⟨e, r, rfl⟩
      have hs1 := hs.out
      have hlo := SP.lenOf hs1
      rw [her] at hs1 hm p1
      simp only [List.length_cons] at hm
      have hK := hk.flats k
      rw [her] at hK
      have FL := Lib.hid (flatten_r hs1 (by omega) hK (by omega) (by omega))
      have HX : Hid (flatsR (k + 1) st = flatR (e :: r)) := Lib.hid (by rw [flatsR_succ, her])
      have hlr := len_flatR e r
      have HLO := Lib.hid (show lenOf gp wr = r.length + 1 by rw [hlo, her]; rfl)
      clear hs1 hK hlo her
      go_wp2_with fail
      refine FL.out.mono ?_
      rintro x w1 ⟨rfl, s1, f1⟩
      have hl1 := SP.lenOf s1
      rw [← HX.out] at s1
      have S1 := Lib.hid s1
      have F1 := Lib.hid (hf.out.trans f1)
      have HL1 := Lib.hid hl1
      clear s1 f1 hl1
      go_wp2
      go_roundw
      case rel => exact ⟨k + 1, by omega, S1, F1⟩
      case measure => have h1 := HL1.out; have h2 := HLO.out; omega
    · have hc : ¬ (at_ : Int) < (m : Int) := by omega
      obtain rfl : k = st.length - 1 - at_ := by omega
      go_wp2_with fail
      go_end0
      exact ⟨rfl, hs.out, hf.out⟩
end
/-- What lastTag and lastBrace return. -/
def at0 (st : List Rl) : Option Nat → Nat
  | some i => st.length - 1 - i
  | none => 0
theorem tagAtR_drop (t : Int) : ∀ (st : List Rl) (k : Nat), (∀ j (h : j < st.length), j < k → ¬ (st[j].kind = 2 ∧ st[j].tag = t)) → tagAtR t st = (tagAtR t (st.drop k)).map (· + k)
  | st, 0, _ => by simp
  | [], k + 1, _ => rfl
  | e :: st, k + 1, h => by
    have h0 : ¬ (e.kind = 2 ∧ e.tag = t) := h 0 (by simp) (by omega)
    have ih := tagAtR_drop t st k (fun j hj hk => h (j + 1) (by simpa using hj) (by omega))
    rw [tagAtR, if_neg h0, ih, List.drop_succ_cons]
    cases tagAtR t (st.drop k) with
    | none => rfl
    | some i => simp; omega
theorem braceAtR_drop : ∀ (st : List Rl) (k : Nat), (∀ j (h : j < st.length), j < k → st[j].kind ≠ 3 ∧ st[j].kind ≠ 2) → braceAtR st = (braceAtR (st.drop k)).map (· + k)
  | st, 0, _ => by simp
  | [], k + 1, _ => rfl
  | e :: st, k + 1, h => by
    obtain ⟨h3, h2⟩ : e.kind ≠ 3 ∧ e.kind ≠ 2 := h 0 (by simp) (by omega)
    have ih := braceAtR_drop st k (fun j hj hk => h (j + 1) (by simpa using hj) (by omega))
    rw [braceAtR, if_neg h3, if_neg h2, ih, List.drop_succ_cons]
    cases braceAtR (st.drop k) with
    | none => rfl
    | some i => simp; omega
section
variable {gp : Nat} {w w' : World} {st : List Rl}
set_option maxRecDepth 100000 in
set_option maxHeartbeats 4000000 in
theorem lastTag_r (h : SP gp w st) (h0 : 0 < st.length) (t : Int) (hst : st.length ≤ 2000) : Calls Tryz.prog 83 #[.pointer (some ⟨gp, 0, none⟩), .int .i64 t] w fun x w' => x = .returned (.int .i64 (at0 st (tagAtR t st) : Nat)) ∧ w' = w := by
  obtain ⟨g, cap, xs, q⟩ := h
  obtain ⟨m, hm⟩ : ∃ m, st.length = m + 1 := ⟨st.length - 1, by omega⟩
  have c0 := q.pc
  have k1 := q.hc
  have k2 := q.hm
  rw [hm] at c0 k1
  have QA := Lib.hid q
  have HM := Lib.hid hm
  clear q hm
  have hm1 : m ≤ 2000 := by have := HM.out; omega
  have hwk : IntKind.i64.wrap (m : Int) = (m : Int) := by rw [IntKind.wrap_i64]; omega
  go_enter Tryz.func83, Tryz.ntmps83
  go_wp2
  go_loopw [5] (fun i wr => ∃ k : Nat, i = .int .i64 ((m - k : Nat) : Int) ∧ k ≤ m ∧ Hid (∀ j (h : j < st.length), j < k → ¬ (st[j].kind = 2 ∧ st[j].tag = t)) ∧ wr = w) (fun i _ => (intOf i).toNat)
  case atStart => exact ⟨0, by simp, Nat.zero_le _, Lib.hid (fun j h hj => by omega), rfl⟩
  case round =>
    obtain ⟨k, rfl, hk, hno, rfl⟩ := hrel
    obtain ⟨p, hp⟩ : ∃ p, m - k = p := ⟨_, rfl⟩
    rw [hp]
    by_cases hlt : k < m
    · have hpi : (0 : Int) < (p : Int) := by omega
      have hkst : k < st.length := by have := HM.out; omega
      obtain ⟨vl, va, a0, a1, -, -, -, -, -⟩ := QA.out.at hkst
      have hpp : st.length - 1 - k = p := by have := HM.out; omega
      rw [hpp] at a0 a1
      have hpc : (p : Int) < (m : Int) + 1 := by omega
      have hpc2 : p ≤ m := by omega
      by_cases hk2 : st[k].kind = 2
      · have t1 : ((st[k].kind : Int) == 2) = true := by rw [hk2]; rfl
        by_cases ht : st[k].tag = t
        · have t2 : (st[k].tag == t) = true := by rw [ht]; exact beq_self_eq_true _
          have HR : Hid (at0 st (tagAtR t st) = p) := Lib.hid (by
            rw [tagAtR_drop t st k hno.out, List.drop_eq_getElem_cons hkst, tagAtR, if_pos ⟨hk2, ht⟩]
            simp [at0, hpp])
          clear hk2 ht
          go_wp2_with fail
          go_ret
          exact ⟨by rw [HR.out]; rfl, rfl⟩
        · have t2 : (st[k].tag == t) = false := by rw [beq_eq_false_iff_ne]; exact ht
          have hn2 : Hid (∀ j (h : j < st.length), j < k + 1 → ¬ (st[j].kind = 2 ∧ st[j].tag = t)) := Lib.hid (fun j h hj q => by
            by_cases e : j = k
            · subst e; exact ht q.2
            · exact hno.out j h (by omega) q)
          clear hk2 ht
          have hw1 : ((p : Int) - 1) = ((m - (k + 1) : Nat) : Int) := by omega
          have HW1 := Lib.hid hw1
          clear hw1
          go_wp2
          go_roundw
          case rel => exact ⟨k + 1, by rw [← HW1.out], by omega, hn2, trivial⟩
          case measure => simp [intOf]; omega
      · have t1 : ((st[k].kind : Int) == 2) = false := by rw [beq_eq_false_iff_ne]; omega
        have hn2 : Hid (∀ j (h : j < st.length), j < k + 1 → ¬ (st[j].kind = 2 ∧ st[j].tag = t)) := Lib.hid (fun j h hj q => by
          by_cases e : j = k
          · subst e; exact hk2 q.1
          · exact hno.out j h (by omega) q)
        clear hk2
        have hw1 : ((p : Int) - 1) = ((m - (k + 1) : Nat) : Int) := by omega
        have HW1 := Lib.hid hw1
        clear hw1
        go_wp2
        go_roundw
        case rel => exact ⟨k + 1, by rw [← HW1.out], by omega, hn2, trivial⟩
        case measure => simp [intOf]; omega
    · obtain rfl : p = 0 := by omega
      have HR : Hid (at0 st (tagAtR t st) = 0) := Lib.hid (by
        have hm := HM.out
        rw [tagAtR_drop t st m (fun j h hj => hno.out j h (by omega))]
        cases hq : tagAtR t (st.drop m) with
        | none => rfl
        | some i => simp [at0]; omega)
      go_wp2_with fail
      go_ret
      exact ⟨by rw [HR.out]; rfl, rfl⟩
set_option maxRecDepth 100000 in
set_option maxHeartbeats 4000000 in
theorem lastBrace_r (h : SP gp w st) (h0 : 0 < st.length) (hst : st.length ≤ 2000) : Calls Tryz.prog 123 #[.pointer (some ⟨gp, 0, none⟩)] w fun x w' => x = .returned (.int .i64 (at0 st (braceAtR st) : Nat)) ∧ w' = w := by
  obtain ⟨g, cap, xs, q⟩ := h
  obtain ⟨m, hm⟩ : ∃ m, st.length = m + 1 := ⟨st.length - 1, by omega⟩
  have c0 := q.pc
  have k1 := q.hc
  have k2 := q.hm
  rw [hm] at c0 k1
  have QA := Lib.hid q
  have HM := Lib.hid hm
  clear q hm
  have hm1 : m ≤ 2000 := by have := HM.out; omega
  have hwk : IntKind.i64.wrap (m : Int) = (m : Int) := by rw [IntKind.wrap_i64]; omega
  go_enter Tryz.func123, Tryz.ntmps123
  go_wp2
  go_loopw [3] (fun i wr => ∃ k : Nat, i = .int .i64 ((m - k : Nat) : Int) ∧ k ≤ m ∧ Hid (∀ j (h : j < st.length), j < k → st[j].kind ≠ 3 ∧ st[j].kind ≠ 2) ∧ wr = w) (fun i _ => (intOf i).toNat)
  case atStart => exact ⟨0, by simp, Nat.zero_le _, Lib.hid (fun j h hj => by omega), rfl⟩
  case round =>
    obtain ⟨k, rfl, hk, hno, rfl⟩ := hrel
    obtain ⟨p, hp⟩ : ∃ p, m - k = p := ⟨_, rfl⟩
    rw [hp]
    by_cases hlt : k < m
    · have hpi : (0 : Int) < (p : Int) := by omega
      have hkst : k < st.length := by have := HM.out; omega
      obtain ⟨vl, va, a0, a1, -, -, -, -, -⟩ := QA.out.at hkst
      have hpp : st.length - 1 - k = p := by have := HM.out; omega
      rw [hpp] at a0 a1
      have hpc : (p : Int) < (m : Int) + 1 := by omega
      have hpc2 : p ≤ m := by omega
      by_cases hk2 : st[k].kind = 2
      · have t1 : ((st[k].kind : Int) == 2) = true := by rw [hk2]; rfl
        have t1' : ((st[k].kind : Int) != 2) = false := by rw [hk2]; rfl
        have HR : Hid (at0 st (braceAtR st) = 0) := Lib.hid (by
          rw [braceAtR_drop st k hno.out, List.drop_eq_getElem_cons hkst, braceAtR, if_neg (by omega), if_pos hk2]; rfl)
        clear hk2
        go_wp2_with fail
        go_ret
        exact ⟨by rw [HR.out]; rfl, rfl⟩
      · have t1 : ((st[k].kind : Int) == 2) = false := by rw [beq_eq_false_iff_ne]; omega
        have t1' : ((st[k].kind : Int) != 2) = true := by rw [bne, t1]; rfl
        by_cases hk3 : st[k].kind = 3
        · have t2 : ((st[k].kind : Int) == 3) = true := by rw [hk3]; rfl
          have HR : Hid (at0 st (braceAtR st) = p) := Lib.hid (by
            rw [braceAtR_drop st k hno.out, List.drop_eq_getElem_cons hkst, braceAtR, if_pos hk3]
            simp [at0, hpp])
          clear hk2 hk3
          go_wp2_with fail
          go_ret
          exact ⟨by rw [HR.out]; rfl, rfl⟩
        · have t2 : ((st[k].kind : Int) == 3) = false := by rw [beq_eq_false_iff_ne]; omega
          have hn2 : Hid (∀ j (h : j < st.length), j < k + 1 → st[j].kind ≠ 3 ∧ st[j].kind ≠ 2) := Lib.hid (fun j h hj => by
            by_cases e : j = k
            · subst e; exact ⟨hk3, hk2⟩
            · exact hno.out j h (by omega))
          clear hk2 hk3
          have hw1 : ((p : Int) - 1) = ((m - (k + 1) : Nat) : Int) := by omega
          have HW1 := Lib.hid hw1
          clear hw1
          go_wp2
          go_roundw
          case rel => exact ⟨k + 1, by rw [← HW1.out], by omega, hn2, trivial⟩
          case measure => simp [intOf]; omega
    · obtain rfl : p = 0 := by omega
      have HR : Hid (at0 st (braceAtR st) = 0) := Lib.hid (by
        have hm := HM.out
        rw [braceAtR_drop st m (fun j h hj => hno.out j h (by omega))]
        cases hq : braceAtR (st.drop m) with
        | none => rfl
        | some i => simp [at0]; omega)
      go_wp2_with fail
      go_ret
      exact ⟨by rw [HR.out]; rfl, rfl⟩
end
end Go.Proofs.YtdojbnngdlmbgaaGreatDoor.Pa

namespace Go.Proofs.YtdojbnngdlmbgaaGreatDoor.Pa
open Go.RowKit Go.Proofs.YtdojbnngdlmbgaaGreatDoor.Tr
set_option linter.unusedVariables false

section
variable {gp : Nat} {w w' : World} {e e' : Rl} {st : List Rl} {v : Value}
set_option maxRecDepth 100000 in
set_option maxHeartbeats 4000000 in
theorem opening_push (h : SP gp w st) (hst : 0 < st.length) (h20 : ¬ 20 < st.length) (hv : EV gp w v e') (s : ByteArray) : Calls Tryz.prog 76 #[.pointer (some ⟨gp, 0, none⟩), v, .string s] w fun x w' => x = .returned (.tuple #[]) ∧ SP gp w' (e' :: st) ∧ Fq gp w w' := by
  obtain ⟨g, cap, xs, q⟩ := h
  obtain ⟨vl, va, rfl, hl, ha⟩ := hv
  obtain ⟨Al, cl, rfl⟩ := hl.form
  obtain ⟨Aa, ca, rfl⟩ := ha.form
  have hy := q.ce
  have hz : st.length ≤ 2000 := by omega
  have hone := Lib.hid hy.one
  have hyl := hy.len
  have HCE : Hid (CE w (Xg gp w) (e' :: st) (xs ++ [.int .i64 e'.kind, .int .i64 e'.tag, .int .i64 e'.count, .slice Al e'.list.length cl, .slice Aa e'.args.length ca])) := Lib.hid ⟨xs, _, rfl, hy, _, _, rfl, hl, ha⟩
  have hcy : ∀ j u, xs[j]? = some u → w.cell? ⟨g, j, none⟩ = some u := q.cl
  obtain ⟨O, hO⟩ : ∃ O, Obj.cells #[Value.int .i64 e'.kind, .int .i64 e'.tag, .int .i64 e'.count, .slice Al e'.list.length cl, .slice Aa e'.args.length ca] 82 = O := ⟨_, rfl⟩
  obtain ⟨w1, hw1⟩ : ∃ w1, w.alloc O = w1 := ⟨_, rfl⟩
  have b01 : Below w.heap.size w w1 := by rw [← hw1]; exact (Below.refl _ _).alloc (Nat.le_refl _) _
  have hbox : w1.heap[w.heap.size]? = some O := by rw [← hw1]; exact heap_alloc_new w O
  rw [← hO] at hbox
  have x0 : w1.cell? ⟨w.heap.size, 0, none⟩ = some (.int .i64 e'.kind) := cell_heap hbox rfl
  have x1 : w1.cell? ⟨w.heap.size, 1, none⟩ = some (.int .i64 e'.tag) := cell_heap hbox rfl
  have x2 : w1.cell? ⟨w.heap.size, 2, none⟩ = some (.int .i64 e'.count) := cell_heap hbox rfl
  have x3 : w1.cell? ⟨w.heap.size, 3, none⟩ = some (.slice Al e'.list.length cl) := cell_heap hbox rfl
  have x4 : w1.cell? ⟨w.heap.size, 4, none⟩ = some (.slice Aa e'.args.length ca) := cell_heap hbox rfl
  have q1 := q.keep b01
  have c0 := q1.pc
  have z0 := q1.pz
  have k1 := q.hc
  have k2 := q.hm
  have HC : Hid (∀ W, Below w1.heap.size w1 W → ∀ j u, xs[j]? = some u → W.cell? ⟨g, j, none⟩ = some u) := Lib.hid fun W hW j u hj => (World.cell?_of_block (hW.block g q1.hg)).trans ((World.cell?_of_block (b01.block g q.hg)).trans (hcy j u hj))
  have HN : Hid (∀ W : World, (W.alloc O).heap[W.heap.size]? = some (Obj.cells #[Value.int .i64 e'.kind, .int .i64 e'.tag, .int .i64 e'.count, .slice Al e'.list.length cl, .slice Aa e'.args.length ca] 82)) := Lib.hid fun W => by rw [hO]; exact heap_alloc_new W O
  have H1 : Hid (∀ u ∈ [Value.int .i64 e'.kind, .int .i64 e'.tag, .int .i64 e'.count, .slice Al e'.list.length cl, .slice Aa e'.args.length ca], u.oneCell' = true) := Lib.hid (EX.one ⟨_, _, rfl, hl, ha⟩)
  have Bd : Hid (Below w1.heap.size w1 w1.drew) := Lib.hid (Below.refl _ _).drew
  have Ba : Hid (Below w1.heap.size w1 (w1.alloc O).drew) := Lib.hid ((Below.refl _ _).alloc (Nat.le_refl _) _).drew
  have Sd : Hid (w1.drew.heap.size = w1.heap.size) := Lib.hid rfl
  have Sa : Hid ((w1.alloc O).drew.heap.size = w1.heap.size + 1) := Lib.hid (by show (w1.alloc O).heap.size = _; simp)
  have G1 : Hid (gp < w1.heap.size) := Lib.hid q1.glt
  have FIN : Hid (∀ (W : World) (r n c2 base : Nat), Below w1.heap.size w1 W → w1.heap.size ≤ base → n = st.length + 1 → W.ownsRow base 82 5 (.slice (some ⟨r, 0, none⟩) n c2) n (xs ++ [.int .i64 e'.kind, .int .i64 e'.tag, .int .i64 e'.count, .slice Al e'.list.length cl, .slice Aa e'.args.length ca]) → SP gp (W.setCell ⟨gp, 0, none⟩ (.slice (some ⟨r, 0, none⟩) n c2)) (e' :: st) ∧ Fq gp w (W.setCell ⟨gp, 0, none⟩ (.slice (some ⟨r, 0, none⟩) n c2))) := Lib.hid fun W r n c2 base hW hbs hn hrow => q.put (b01.trans (hW.mono b01.size)) (Nat.le_trans b01.size hbs) hrow hn HCE.out
  have PC : Hid (∀ W, Below w1.heap.size w1 W → W.cell? ⟨gp, 0, none⟩ = some (.slice (some ⟨g, 0, none⟩) st.length cap) ∧ W.frozen? ⟨gp, 0, none⟩ = false) := Lib.hid fun W hW => ⟨(World.cell?_of_block (hW.block gp q1.glt)).trans c0, (World.frozen?_of_block (hW.block gp q1.glt)).trans z0⟩
  have XB : Hid (∀ W, Below w1.heap.size w1 W → W.cell? ⟨w.heap.size, 0, none⟩ = some (.int .i64 e'.kind) ∧ W.cell? ⟨w.heap.size, 1, none⟩ = some (.int .i64 e'.tag) ∧ W.cell? ⟨w.heap.size, 2, none⟩ = some (.int .i64 e'.count) ∧ W.cell? ⟨w.heap.size, 3, none⟩ = some (.slice Al e'.list.length cl) ∧ W.cell? ⟨w.heap.size, 4, none⟩ = some (.slice Aa e'.args.length ca)) := Lib.hid fun W hW => by
    have k := (hW.block w.heap.size (Array.getElem?_eq_some_iff.1 hbox).1).trans hbox
    exact ⟨cell_heap k rfl, cell_heap k rfl, cell_heap k rfl, cell_heap k rfl, cell_heap k rfl⟩
  clear hl ha hy hcy hbox HCE q q1 z0
  obtain ⟨oa, ob⟩ := PC.out (w1.alloc O) ((Below.refl _ _).alloc (Nat.le_refl _) _)
  have hi20 : ¬ (20 : Int) ≤ (st.length : Int) - 1 := by omega
  have hwk : IntKind.i64.wrap ((st.length : Int) - 1) = (st.length : Int) - 1 := by rw [IntKind.wrap_i64]; omega
  · go_enter Tryz.func76, Tryz.ntmps76
    go_wp2_with fail
    go_region_law (first
      | (refine step_copy rfl rfl (.const (.slice none 0 0)) (.tmp 20) rfl g st.length cap w1.heap.size xs rfl rfl hyl (HC.out w1.drew Bd.out) hone.out hst (by omega) Sd.out ?_
         intro cap1 w2 r1 b1 l1
         have rA := r1.alloc O
         have bA : Below w1.heap.size w1 (w2.alloc O) := (Bd.out.trans b1).alloc (Nat.le_of_lt l1) O
         have sA : w1.heap.size ≤ (w2.alloc O).heap.size := bA.size
         have nA := HN.out w2
         obtain ⟨y0, y1, y2, y3, y4⟩ := XB.out w2 (Bd.out.trans b1))
      | (refine step_copy rfl rfl (.const (.slice none 0 0)) (.tmp 20) rfl g st.length cap (w1.heap.size + 1) xs rfl rfl hyl (HC.out _ Ba.out) hone.out hst (by omega) Sa.out ?_
         intro cap1 w2 r1 b1 l1
         have bB : Below w1.heap.size w1 w2 := Ba.out.trans (b1.mono (Nat.le_succ _))
         have sB : w1.heap.size + 1 ≤ w2.heap.size := Nat.le_of_lt l1
         have nB := (b1.block w1.heap.size (Nat.lt_succ_self _)).trans (HN.out w1))
      | (refine step_push rfl rfl (.tmp 21) (.tmp 23) rfl _ st.length w1.heap.size w2.heap.size w1.heap.size xs _ _ _ _ _ rfl rA rfl nA H1.out (by omega) sA (Nat.le_refl _) ?_
         intro r3 cap3 w3 r4 b3
         have R := FIN.out w3 r3 _ cap3 _ (bA.trans b3) (Nat.le_refl _) rfl r4
         obtain ⟨c3, z3⟩ := PC.out w3 (bA.trans b3))
      | (refine step_push rfl rfl (.tmp 21) (.tmp 23) rfl _ st.length (w1.heap.size + 1) w1.heap.size (w1.heap.size + 1) xs _ _ _ _ _ rfl r1 rfl nB H1.out (by omega) sB (Nat.le_refl _) ?_
         intro r3 cap3 w3 r4 b3
         have R := FIN.out w3 r3 _ cap3 _ (bB.trans (b3.mono (Nat.le_succ _))) (Nat.le_succ _) rfl r4
         obtain ⟨c3, z3⟩ := PC.out w3 (bB.trans (b3.mono (Nat.le_succ _)))))
    all_goals
      go_wp2_with fail
      go_end0
      exact ⟨rfl, R⟩
end
end Go.Proofs.YtdojbnngdlmbgaaGreatDoor.Pa

namespace Go.Proofs.YtdojbnngdlmbgaaGreatDoor.Pa
open Go.RowKit Go.Proofs.YtdojbnngdlmbgaaGreatDoor.Tr
set_option linter.unusedVariables false

theorem nameA_snoc : ∀ (f : List Ar) (a : Ar), nameA (f ++ [a]) = f ++ [.mk true a.value []]
  | [], a => rfl
  | [b], a => rfl
  | b :: c :: f, a => by
    have := nameA_snoc (c :: f) a
    rw [List.cons_append] at this ⊢
    rw [List.cons_append, nameA, this]; rfl
theorem lastNamed_snoc (f : List Ar) (a : Ar) : lastNamed (f ++ [a]) = a.named := by
  unfold lastNamed
  rw [List.getLast?_concat]
section
variable {gp : Nat} {w w' : World} {e : Rl} {st : List Rl} {v : Value}
set_option maxRecDepth 100000 in
set_option maxHeartbeats 4000000 in
theorem opening_r (h : SP gp w st) (h0 : 0 < st.length) (hv : EV gp w v e) (s : ByteArray) (hz : prs st + (1 + s.size) ≤ 8388608) (hst : st.length ≤ 2000) : Calls Tryz.prog 76 #[.pointer (some ⟨gp, 0, none⟩), v, .string s] w fun x w' => x = .returned (.tuple #[]) ∧ SP gp w' (pushR st e s.data.toList) ∧ Fq gp w w' := by
  by_cases h20 : 20 < st.length
  · have HP : Hid (pushR st e s.data.toList = textR st s.data.toList) := Lib.hid (if_pos h20)
    obtain ⟨vl, va, rfl, hl, ha⟩ := hv
    obtain ⟨Al, cl, rfl⟩ := hl.form
    obtain ⟨Aa, ca, rfl⟩ := ha.form
    obtain ⟨O, hO⟩ : ∃ O, Obj.cells #[Value.int .i64 e.kind, .int .i64 e.tag, .int .i64 e.count, .slice Al e.list.length cl, .slice Aa e.args.length ca] 82 = O := ⟨_, rfl⟩
    obtain ⟨w1, hw1⟩ : ∃ w1, w.alloc O = w1 := ⟨_, rfl⟩
    have b1 : Below w.heap.size w w1 := by rw [← hw1]; exact (Below.refl _ _).alloc (Nat.le_refl _) _
    obtain ⟨s1, f1⟩ := h.keep b1
    have TX := Lib.hid (text_r s1 (List.length_pos_iff.1 h0) s hz hst)
    have F1 := Lib.hid f1
    obtain ⟨g, cap, xs, q⟩ := s1
    have c0 := q.pc
    have k1 := q.hc
    have k2 := q.hm
    obtain ⟨m, hm⟩ : ∃ m, st.length = m + 1 := ⟨st.length - 1, by omega⟩
    rw [hm] at c0 k1
    have hm20 : (20 : Int) ≤ (m : Int) := by omega
    have HM := Lib.hid hm
    clear q f1 hl ha b1 hm
    go_enter Tryz.func76, Tryz.ntmps76
    go_wp2_with fail
    refine TX.out.mono ?_
    rintro x w2 ⟨rfl, s2, f2⟩
    have R := Lib.hid (And.intro s2 (F1.out.trans f2))
    clear s2 f2
    go_wp2_with fail
    try simp only [Exit.inBlock, Exit.then]
    refine bodyPost_ret (results_none rfl _ _ _) rfl ?_
    exact ⟨rfl, by rw [HP.out]; exact R.out.1, R.out.2⟩
  · have HP : Hid (pushR st e s.data.toList = e :: st) := Lib.hid (if_neg h20)
    refine (opening_push h h0 h20 hv s).mono ?_
    rintro x w1 ⟨h1, h2, h3⟩
    exact ⟨h1, by rw [HP.out]; exact h2, h3⟩
set_option maxRecDepth 100000 in
set_option maxHeartbeats 4000000 in
theorem equal_r (h : SP gp w (e :: st)) (hz : prs (e :: st) ≤ 8000000) (hst : st.length ≤ 1999) : Calls Tryz.prog 80 #[.pointer (some ⟨gp, 0, none⟩)] w fun x w' => x = .returned (.tuple #[]) ∧ SP gp w' (equalR (e :: st)) ∧ Fq gp w w' := by
  have hgl := h.glt
  have hpr : 16 + e.count + sz e.list + phA e.args + prs st ≤ 8000000 := hz
  have TOP := Lib.hid (top_r h)
  clear h
  go_enter Tryz.func80, Tryz.ntmps80
  go_wp2_with fail
  refine TOP.out.mono ?_
  rintro x w1 ⟨v1, rfl, ⟨vl, vg, rfl, hl, hg⟩, hS, hF, hb⟩
  obtain ⟨Al, cl, rfl⟩ := hl.form
  obtain ⟨Ag, cg, rfl⟩ := hg.form
  obtain ⟨OE, hOE⟩ : ∃ O, Obj.cells #[Value.int .i64 e.kind, .int .i64 e.tag, .int .i64 e.count, .slice Al e.list.length cl, .slice Ag e.args.length cg] 82 = O := ⟨_, rfl⟩
  obtain ⟨w2, hw2⟩ : ∃ w2, w1.alloc OE = w2 := ⟨_, rfl⟩
  have b2 : Below w1.heap.size w1 w2 := by rw [← hw2]; exact (Below.refl _ _).alloc (Nat.le_refl _) _
  have h2E : w2.heap[w1.heap.size]? = some OE := by rw [← hw2]; exact heap_alloc_new w1 OE
  rw [← hOE] at h2E
  have lt12 := (Array.getElem?_eq_some_iff.1 h2E).1
  have e0 : w2.cell? ⟨w1.heap.size, 0, none⟩ = some (.int .i64 e.kind) := cell_heap h2E rfl
  have e3 : w2.cell? ⟨w1.heap.size, 3, none⟩ = some (.slice Al e.list.length cl) := cell_heap h2E rfl
  have e4 : w2.cell? ⟨w1.heap.size, 4, none⟩ = some (.slice Ag e.args.length cg) := cell_heap h2E rfl
  have hgw := hS.glt
  obtain ⟨S2, F2⟩ := hS.keep b2
  have TX := Lib.hid (text_r S2 (by simp) ⟨#[61]⟩ (by show prs (e :: st) + (1 + 1) ≤ _; omega) (by simp only [List.length_cons]; omega))
  have F2w := Lib.hid (hF.trans F2)
  have HS2 := Lib.hid (And.intro S2 (And.intro h2E (And.intro b2 hl)))
  have up : ∀ b, Xg gp w1 b → w2.heap[b]? = w1.heap[b]? := fun b q => b2.block b q.1
  have hg2 : AX w2 (Xg gp w1) (.slice Ag e.args.length cg) e.args := hg.imp (fun _ q => q) up
  have HFU := Lib.hid (And.intro hF hS)
  clear S2 F2 hl hg hF hS hb h2E b2 up
  by_cases hk3 : e.kind = 3
  · by_cases hne : e.args = []
    · have HR : Hid (equalR (e :: st) = textR (e :: st) [61]) := Lib.hid (by
        unfold equalR; simp only; rw [if_neg (fun q => by rw [hne] at q; exact absurd q.2 (by decide))])
      have t3 : ((e.kind : Int) == 3) = true := by rw [hk3]; rfl
      have t3' : ((e.kind : Int) != 3) = false := by rw [hk3]; rfl
      have hl0 : e.args.length = 0 := by rw [hne]; rfl
      replace e4 : w2.cell? ⟨w1.heap.size, 4, none⟩ = some (.slice Ag 0 cg) := by rw [e4, hl0]
      clear hk3 hne hl0 hg2
      go_wp2_with fail
      refine TX.out.mono ?_
      rintro x w3 ⟨rfl, s3, f3⟩
      have R := Lib.hid (And.intro s3 (F2w.out.trans f3))
      clear s3 f3
      go_wp2_with fail
      try simp only [Exit.inBlock, Exit.then]
      refine bodyPost_ret (results_none rfl _ _ _) rfl ?_
      exact ⟨rfl, by rw [HR.out]; exact R.out.1, R.out.2⟩
    · obtain ⟨f, a, hfa⟩ : ∃ f a, e.args = f ++ [a] := by
        rcases List.eq_nil_or_concat e.args with q | ⟨f, a, q⟩
        · exact absurd q hne
        · exact ⟨f, a, by simpa using q⟩
      have hlen : e.args.length = f.length + 1 := by rw [hfa]; simp
      obtain ⟨g, o, c', vn, vv, q1, c1, c2, hgx, a1, a2, a3, ln, lv⟩ := AX.at hg2 (i := f.length) (by omega)
      have hat : e.args[f.length]'(by omega) = a := by simp [hfa]
      rw [hat] at a1 ln lv
      have hwk : IntKind.i64.wrap (f.length : Int) = (f.length : Int) := by rw [IntKind.wrap_i64]; have := len_ph e.args; omega
      have t3 : ((e.kind : Int) == 3) = true := by rw [hk3]; rfl
      have t3' : ((e.kind : Int) != 3) = false := by rw [hk3]; rfl
      cases hnm : a.named
      · have HR : Hid (equalR (e :: st) = { e with args := nameA e.args } :: st) := Lib.hid (by
          unfold equalR; simp only; rw [if_pos ⟨hk3, by rw [hfa, lastNamed_snoc, hnm]⟩])
        rw [hnm] at a1
        obtain ⟨c3, w3, ys, r3, b3, l3, o3, cy⟩ := hg2.copy hne
        cases q1
        rw [hfa] at cy
        obtain ⟨xs, zs, rfl, hxs, hzs⟩ := cellsA_split f [a] ys cy
        have hzl : zs.length = 3 := by have := hzs.length; simpa using this
        obtain ⟨d0, vn', vv', rfl⟩ : ∃ c0 c1 c2, zs = [c0, c1, c2] := by
          match zs, hzl with
          | [c0, c1, c2], _ => exact ⟨_, _, _, rfl⟩
        obtain ⟨rfl, hvn, hvv, _⟩ := hzs
        obtain ⟨An, cn, rfl⟩ := hvn.form
        obtain ⟨Av, cv, rfl⟩ := hvv.form
        have hxl : xs.length = f.length * 3 := hxs.length
        rw [hlen] at o3 r3
        obtain ⟨cur, kcur, kfr, hcap, hcm⟩ : ∃ cur, w3.heap[w2.heap.size]? = some (.cells cur 59) ∧ cur.toList.take ((f.length + 1) * 3) = xs ++ [.bool a.named, .slice An a.name.length cn, .slice Av a.value.length cv] ∧ f.length + 1 ≤ c3 ∧ c3 ≤ 9223372036854775807 := by
          rcases o3.2 with ⟨q, _⟩ | ⟨g', cap, cur, q, k1, k2, k3, k4, _, k6⟩
          · cases q
          · cases q
            exact ⟨cur, k2, k6, k3, by simpa [maxLen] using k4⟩
        have cel : ∀ j u, [Value.bool a.named, .slice An a.name.length cn, .slice Av a.value.length cv][j]? = some u → w3.cell? ⟨w2.heap.size, f.length * 3 + j, none⟩ = some u := fun j u hj => by
          have := cell_row kcur kfr (j := f.length * 3 + j) (u := u) (by rw [← hxl, List.getElem?_append_right (by omega)]; simpa using hj)
          rwa [Nat.zero_add] at this
        have m0 : w3.cell? ⟨w2.heap.size, f.length * 3, none⟩ = some (.bool a.named) := cel 0 _ rfl
        have m1 : w3.cell? ⟨w2.heap.size, f.length * 3 + 1, none⟩ = some (.slice An a.name.length cn) := cel 1 _ rfl
        have m2 : w3.cell? ⟨w2.heap.size, f.length * 3 + 2, none⟩ = some (.slice Av a.value.length cv) := cel 2 _ rfl
        have y0 : w3.frozen? ⟨w2.heap.size, f.length * 3, none⟩ = false := by simp [World.frozen?, kcur]
        have y1 : w3.frozen? ⟨w2.heap.size, f.length * 3 + 1, none⟩ = false := by simp [World.frozen?, kcur]
        have y2 : w3.frozen? ⟨w2.heap.size, f.length * 3 + 2, none⟩ = false := by simp [World.frozen?, kcur]
        obtain ⟨hS2, h2E, b2, hl⟩ := HS2.out
        obtain ⟨hF, hS⟩ := HFU.out
        obtain ⟨w7, hw7, row7, k7, b7⟩ := row3 o3 hxl (.bool true) (.slice Av a.value.length cv) (.slice none 0 0)
        have s7 : w7.heap.size = w3.heap.size := by rw [← hw7]; simp
        have h7E : w7.heap[w1.heap.size]? = _ := (k7 _ (by omega)).trans ((b3.block _ lt12).trans h2E)
        have e4' : w7.cell? ⟨w1.heap.size, 4, none⟩ = some (.slice (some ⟨g, o, none⟩) e.args.length cg) := cell_heap h7E rfl
        have z4' : w7.frozen? ⟨w1.heap.size, 4, none⟩ = false := by simp [World.frozen?, h7E]
        obtain ⟨w8, hw8⟩ : ∃ w8, w7.setCell ⟨w1.heap.size, 4, none⟩ (.slice (some ⟨w2.heap.size, 0, none⟩) (f.length + 1) c3) = w8 := ⟨_, rfl⟩
        have k8 : ∀ b : Nat, b ≠ w1.heap.size → w8.heap[b]? = w7.heap[b]? := fun b q => by rw [← hw8]; exact heap_set_ne (fun z => q z.symm)
        have s8 : w8.heap.size = w7.heap.size := by rw [← hw8]; exact World.size_setCell ..
        have h8E : w8.heap[w1.heap.size]? = some (.cells #[.int .i64 e.kind, .int .i64 e.tag, .int .i64 e.count, .slice Al e.list.length cl, .slice (some ⟨w2.heap.size, 0, none⟩) (f.length + 1) c3] 82) := by rw [← hw8, heap_set h7E]; rfl
        have j0 : w8.cell? ⟨w1.heap.size, 0, none⟩ = some (.int .i64 e.kind) := cell_heap h8E rfl
        have j1 : w8.cell? ⟨w1.heap.size, 1, none⟩ = some (.int .i64 e.tag) := cell_heap h8E rfl
        have j2 : w8.cell? ⟨w1.heap.size, 2, none⟩ = some (.int .i64 e.count) := cell_heap h8E rfl
        have j3 : w8.cell? ⟨w1.heap.size, 3, none⟩ = some (.slice Al e.list.length cl) := cell_heap h8E rfl
        have j4 : w8.cell? ⟨w1.heap.size, 4, none⟩ = some (.slice (some ⟨w2.heap.size, 0, none⟩) (f.length + 1) c3) := cell_heap h8E rfl
        have b18 : Below w1.heap.size w1 w8 := by
          have t7 : Below w1.heap.size w1 w7 := b2.trans ((b3.mono (Nat.le_of_lt lt12)).trans (b7.mono (Nat.le_of_lt lt12)))
          rw [← hw8]; exact t7.setCell (p := ⟨w1.heap.size, 4, none⟩) (Nat.le_refl _) _
        have F8 := hF.trans (hS.keep b18).2
        have S8 := (hS.keep b18).1
        have hgw1 := hS.glt
        have xk : ∀ b, Xg gp w1 b → w8.heap[b]? = w2.heap[b]? := fun b q => (b18.block b q.1).trans (b2.block b q.1).symm
        have xx : ∀ b, Xg gp w1 b → Xg gp w8 b := fun b q => ⟨Nat.lt_of_lt_of_le q.1 b18.size, q.2⟩
        have CF : CellsA (LX w8 (Xg gp w8)) (xs ++ [.bool true, .slice Av a.value.length cv, .slice none 0 0]) (f ++ [.mk true a.value []]) := CellsA.append (cellsAX_imp hxs xx xk) ⟨rfl, hvv.imp xx xk, LX.nil _ _, trivial⟩
        have row8 : w8.ownsRow _ _ _ _ _ _ := own_keep row7 (fun b hbq => by have q : w2.heap.size = b := Option.some.inj hbq; subst q; exact k8 _ (by omega))
        have hlA : nameA e.args = f ++ [.mk true a.value []] := by rw [hfa, nameA_snoc]
        have hszA : szA (nameA e.args) ≤ 16777216 := by
          have h1 := szA_ph (nameA e.args)
          have h2 := phA_nameA e.args
          omega
        have AA : AX w8 (Xg gp w8) (.slice (some ⟨w2.heap.size, 0, none⟩) (f.length + 1) c3) (nameA e.args) := own_ax (lo := w2.heap.size) (by rw [hlA, show (f ++ [Ar.mk true a.value []]).length = f.length + 1 by simp]; exact row8) (by rw [hlA]; exact CF) hszA (fun _ q => q) (fun b hbq => by have q : w2.heap.size = b := Option.some.inj hbq; subst q; exact ⟨by omega, by omega⟩)
        have LL8 : LX w8 (Xg gp w8) (.slice Al e.list.length cl) e.list := (hS.keep b18).2.lx hl
        have RR := Lib.hid (replace_r S8 (e' := { e with args := nameA e.args }) ⟨_, _, rfl, LL8, AA⟩ (by omega))
        have FF := Lib.hid F8
        have R3 := Lib.hid r3
        rw [hlen] at e4 c1
        have hap : (0 : Int) < (f.length : Int) + 1 := by omega
        have L12 := Lib.hid (And.intro lt12 l3)
        clear hS2 h2E b2 hl hF hS r3 b3 o3 cy hxs hvn hvv hxl kcur kfr cel row7 k7 b7 s7 h7E k8 s8 h8E b18 F8 S8 xk xx CF row8 hlA hszA AA LL8 hfa hne hlen hat ln lv hg2 hgx hk3 HS2 HFU
        go_wp2_with (at_builtin; refine wpList_app rfl (.const (.slice none 0 0)) (.tmp 29) _ rfl rfl rfl R3.out ?_)
        refine RR.out.mono ?_
        rintro x w9 ⟨rfl, h9, f9⟩
        have R9 := Lib.hid (And.intro h9 (FF.out.trans f9))
        clear h9 f9
        go_wp2_with fail
        go_end0
        exact ⟨rfl, by rw [HR.out]; exact R9.out.1, R9.out.2⟩
      · have HR : Hid (equalR (e :: st) = textR (e :: st) [61]) := Lib.hid (by
          unfold equalR; simp only; rw [if_neg (fun q => by rw [hfa, lastNamed_snoc, hnm] at q; exact absurd q.2 (by decide))])
        rw [hnm] at a1
        cases q1
        rw [hlen] at e4 c1
        have hap : (0 : Int) < (f.length : Int) + 1 := by omega
        clear hk3 hne hlen hfa hat ln lv hg2 hgx
        go_wp2_with fail
        refine TX.out.mono ?_
        rintro x w3 ⟨rfl, s3, f3⟩
        have R := Lib.hid (And.intro s3 (F2w.out.trans f3))
        clear s3 f3
        go_wp2_with fail
        try simp only [Exit.inBlock, Exit.then]
        refine bodyPost_ret (results_none rfl _ _ _) rfl ?_
        exact ⟨rfl, by rw [HR.out]; exact R.out.1, R.out.2⟩
  · have HR : Hid (equalR (e :: st) = textR (e :: st) [61]) := Lib.hid (by
      unfold equalR; simp only; rw [if_neg (fun q => hk3 q.1)])
    have t3 : ((e.kind : Int) == 3) = false := by rw [beq_eq_false_iff_ne]; omega
    have t3' : ((e.kind : Int) != 3) = true := by rw [bne, t3]; rfl
    clear hk3 hg2
    go_wp2_with fail
    refine TX.out.mono ?_
    rintro x w3 ⟨rfl, s3, f3⟩
    have R := Lib.hid (And.intro s3 (F2w.out.trans f3))
    clear s3 f3
    go_wp2_with fail
    try simp only [Exit.inBlock, Exit.then]
    refine bodyPost_ret (results_none rfl _ _ _) rfl ?_
    exact ⟨rfl, by rw [HR.out]; exact R.out.1, R.out.2⟩
end
end Go.Proofs.YtdojbnngdlmbgaaGreatDoor.Pa

namespace Go.Proofs.YtdojbnngdlmbgaaGreatDoor.Pa
open Go.RowKit Go.Proofs.YtdojbnngdlmbgaaGreatDoor.Tr
set_option linter.unusedVariables false

/-- The root lies at the bottom. -/
def Rbt : List Rl → Prop
  | [] => False
  | [e] => e.kind = 0
  | _ :: f :: st => Rbt (f :: st)
theorem Rbt.ne {st : List Rl} (h : Rbt st) : st ≠ [] := by rintro rfl; exact h
theorem Rbt.node : ∀ {st : List Rl}, Rbt st → ∀ n, Rbt (nodeR st n)
  | [], h, _ => h.elim
  | [e], h, n => by show (nodeE e n).kind = 0; rw [(nodeE_same e n).1]; exact h
  | e :: f :: st, h, n => h
theorem Rbt.nodes : ∀ (l : List Nd) {st : List Rl}, Rbt st → Rbt (nodesR st l)
  | [], _, h => h
  | n :: l, _, h => Rbt.nodes l (h.node n)
theorem Rbt.text {st : List Rl} (h : Rbt st) (s : List UInt8) : Rbt (textR st s) := h.node _
theorem Rbt.arg {st : List Rl} (h : Rbt st) (a : Ar) : Rbt (argR st a) := by
  unfold argR
  split
  · exact (((h.text _).nodes _).text _).nodes _
  · exact (h.text _).nodes _
theorem Rbt.args : ∀ (l : List Ar) {st : List Rl}, Rbt st → Rbt (l.foldl argR st)
  | [], _, h => h
  | a :: l, _, h => Rbt.args l (h.arg a)
theorem Rbt.tail {e : Rl} {st : List Rl} (h : Rbt (e :: st)) (hn : st ≠ []) : Rbt st := by
  cases st with
  | nil => exact absurd rfl hn
  | cons f st => exact h
theorem Rbt.flat {e : Rl} {st : List Rl} (h : Rbt (e :: st)) (hn : st ≠ []) : Rbt (flatR (e :: st)) := by
  have ht := h.tail hn
  rw [flatR_cons]
  split
  · exact (ht.text _).nodes _
  · split
    · exact (ht.text _).nodes _
    · split
      · exact ((ht.text _).nodes _).args _
      · exact ht
theorem Rbt.flats : ∀ (n : Nat) {st : List Rl}, Rbt st → n < st.length → Rbt (flatsR n st)
  | 0, _, h, _ => h
  | n + 1, [], h, _ => h.elim
  | n + 1, e :: st, h, hn => by
    simp only [List.length_cons] at hn
    have hne : st ≠ [] := fun q => by subst q; simp at hn
    exact Rbt.flats n (h.flat hne) (by rw [len_flatR]; omega)
theorem Rbt.cons {e : Rl} {st : List Rl} (h : Rbt st) : Rbt (e :: st) := by
  cases st with
  | nil => exact h.elim
  | cons f st => exact h
theorem brace_lt : ∀ {st : List Rl} {i : Nat}, Rbt st → braceAtR st = some i → i + 1 < st.length
  | [], _, h, _ => h.elim
  | [e], i, h, q => by
    rw [braceAtR, if_neg (by rw [show e.kind = 0 from h]; decide), if_neg (by rw [show e.kind = 0 from h]; decide)] at q
    cases q
  | e :: f :: st, i, h, q => by
    rw [braceAtR] at q
    split at q
    · cases q; simp
    · split at q
      · cases q
      · cases hq : braceAtR (f :: st) with
        | none => rw [hq] at q; cases q
        | some j =>
          rw [hq] at q
          have e1 : j + 1 = i := Option.some.inj q
          have := brace_lt (st := f :: st) h hq
          simp only [List.length_cons] at *; omega
theorem tag_lt {t : Int} : ∀ {st : List Rl} {i : Nat}, Rbt st → tagAtR t st = some i → i + 1 < st.length
  | [], _, h, _ => h.elim
  | [e], i, h, q => by
    rw [tagAtR, if_neg (fun z => by rw [show e.kind = 0 from h] at z; exact absurd z.1 (by decide))] at q
    cases q
  | e :: f :: st, i, h, q => by
    rw [tagAtR] at q
    split at q
    · cases q; simp
    · cases hq : tagAtR t (f :: st) with
      | none => rw [hq] at q; cases q
      | some j =>
        rw [hq] at q
        have e1 : j + 1 = i := Option.some.inj q
        have := tag_lt (st := f :: st) h hq
        simp only [List.length_cons] at *; omega
/-- The node that a closed brace makes. -/
def clN (e : Rl) (c : Nat) : Nd := .mk (if usedR e c = 3 then 5 else 4) 0 ⟨#[]⟩ e.list e.args
theorem close1R_cons (e : Rl) (r : List Rl) (c : Nat) : close1R (e :: r) c = if 2 ≤ e.count - usedR e c then (⟨3, 0, e.count - usedR e c, [clN e c], []⟩ :: r, usedR e c) else (nodeR (if e.count - usedR e c = 1 then textR r [123] else r) (clN e c), usedR e c) := rfl
theorem szN_cl (e : Rl) (c : Nat) : szN (clN e c) ≤ 1 + sz e.list + phA e.args := by
  have := szA_ph e.args
  rw [szN_eq]
  show 1 + 0 + sz e.list + szA e.args ≤ _
  omega
theorem used2 (e : Rl) (c : Nat) : 2 ≤ usedR e c ∧ usedR e c ≤ 3 := by unfold usedR; split <;> omega
structure Gst (P L : Nat) (st : List Rl) : Prop where
  rt : Rbt st
  kr : Kr st
  pz : prs st ≤ P
  ln : st.length ≤ L
theorem Gst.text {P L : Nat} {st : List Rl} (h : Gst P L st) (s : List UInt8) : Gst (P + (1 + s.length)) L (textR st s) := ⟨h.rt.text s, h.kr.text s, Nat.le_trans (prs_text st s) (Nat.add_le_add_right h.pz _), by rw [len_textR]; exact h.ln⟩
theorem Gst.close {P L : Nat} {e : Rl} {r : List Rl} (h : Gst P L (e :: r)) (hn : r ≠ []) (c : Nat) : Gst P L (close1R (e :: r) c).1 := by
  obtain ⟨u2, u3⟩ := used2 e c
  have hs := szN_cl e c
  have hp : 16 + e.count + sz e.list + phA e.args + prs r ≤ P := h.pz
  have hl := h.ln
  simp only [List.length_cons] at hl
  obtain ⟨k1, k2, k3⟩ := h.kr e List.mem_cons_self
  rw [close1R_cons]
  split
  · refine ⟨(h.rt.tail hn).cons, fun x hx => ?_, ?_, by simp only [List.length_cons]; omega⟩
    · rcases List.mem_cons.1 hx with rfl | hx
      · exact ⟨Nat.le_refl _, (fun q => by cases q), by show e.count - usedR e c ≤ 8192; omega⟩
      · exact h.kr x (List.mem_cons_of_mem _ hx)
    · show 16 + (e.count - usedR e c) + sz [clN e c] + phA [] + prs r ≤ P
      rw [sz_cons, sz_nil]
      simp only [phA]
      omega
  · have hp1 := prs_text r [123]
    simp only [List.length_cons, List.length_nil] at hp1
    simp only
    split
    · have hp2 := prs_node (textR r [123]) (clN e c)
      exact ⟨((h.rt.tail hn).text _).node _, (h.kr.tail.text _).node _, by omega, by rw [len_nodeR, len_textR]; omega⟩
    · have hp2 := prs_node r (clN e c)
      exact ⟨(h.rt.tail hn).node _, h.kr.tail.node _, by omega, by rw [len_nodeR]; omega⟩
theorem Gst.flats {P L : Nat} {st : List Rl} (h : Gst P L st) {n : Nat} (hn : n < st.length) : Gst P L (flatsR n st) := by
  obtain ⟨p1, p2⟩ := prs_flats n st hn
  have := h.ln
  exact ⟨h.rt.flats n hn, h.kr.flats n, Nat.le_trans p1 h.pz, by rw [p2]; omega⟩
/-- One element behind a row of the call's own; all blocks but the row's stay. -/
theorem run_pushG (w : World) (ty : TypeId) (v : Value) (m base b : Nat) (ys : List Value) (c0 c1 c2 c3 c4 : Value) (hrow : w.ownsRow base 82 5 v m ys) (hb : w.heap[b]? = some (.cells #[c0, c1, c2, c3, c4] 82)) (h1 : ∀ u ∈ [c0, c1, c2, c3, c4], u.oneCell' = true) (hm2 : m ≤ 8388608) (hbase : base ≤ w.heap.size) :
    ∃ r cap' w', (Builtin.append_ #[83, 83] ty #[v, .slice (some ⟨b, 0, none⟩) 1 1]).run Tryz.prog w = .ok (.slice (some ⟨r, 0, none⟩) (m + 1) cap') w' ∧ w'.ownsRow base 82 5 (.slice (some ⟨r, 0, none⟩) (m + 1) cap') (m + 1) (ys ++ [c0, c1, c2, c3, c4]) ∧ Below base w w' ∧ ∀ k, k < w.heap.size → v.ownBlock ≠ some k → w'.heap[k]? = w.heap[k]? := by
  obtain ⟨i0, hi, hz0, hz1, hz2⟩ := info_parts infoR
  obtain ⟨g', cap', w', r0, r1, r2, r3, r4⟩ := run_append_lies (P := Tryz.prog) w 83 ty base 82 i0 _ 5 72 Tryz.underlying83 hi hz0 hz1 hz2 rfl (by omega) v m ys hrow ⟨b, 0, none⟩ 1 1 [c0, c1, c2, c3, c4] rfl (World.news_of_block (cs := #[c0, c1, c2, c3, c4]) hb) h1 (by omega) (by simp only [maxLen]; omega) (by omega) hbase w.heap.size rfl
  exact ⟨g', cap', w', r0, r1, (Below.refl _ _).grown r2 hbase (fun k q => (own_lt hrow k q).1), fun k hk hne => r2.block k hk (fun q => hne q.symm)⟩
end Go.Proofs.YtdojbnngdlmbgaaGreatDoor.Pa
