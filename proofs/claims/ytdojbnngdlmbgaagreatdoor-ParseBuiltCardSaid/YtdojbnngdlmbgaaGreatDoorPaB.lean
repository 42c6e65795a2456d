/-
  The contracts of the parser's small methods: top, appendNodes, appendText.
  The contracts of pop and push.
  The contract of push.
  The contracts of flatten and flattenAbove.
-/
import Derived.Test.YtdojbnngdlmbgaaGreatDoorPaA
import Derived.Test.YtdojbnngdlmbgaaGreatDoorTrJt
import Derived.BigQuiet
namespace Go.Proofs.YtdojbnngdlmbgaaGreatDoor.Pa
open Go.RowKit Go.Proofs.YtdojbnngdlmbgaaGreatDoor.Tr
set_option linter.unusedVariables false

section
variable {E : Operand → Value} {o : Oper} {W : World}
theorem x_nil {p : Operand} (ho : o.op = Op.nilCheck p) {ad : Addr} (h : E p = .pointer (some ad)) : (execOp E o).run Tryz.prog W = .ok (.value (.pointer (some ad))) W := by
  unfold execOp
  rw [ho]
  simp only [h]
  go_simp
theorem x_fieldE {p : Operand} {b f : Nat} (i : Nat) (hi : i < 5) (ho : o.op = Op.fieldAddr 67 p i) (h : E p = .pointer (some ⟨b, f, none⟩)) : (execOp E o).run Tryz.prog W = .ok (.value (.pointer (some ⟨b, f + i, none⟩))) W := by
  unfold execOp
  rw [ho]
  simp only [h]
  match i, hi with
  | 0, _ => go_simp
  | 1, _ => go_simp
  | 2, _ => go_simp
  | 3, _ => go_simp
  | 4, _ => go_simp
theorem x_sub1 {p : Operand} (ho : o.op = Op.binOp BinOp.sub 3 p (.const (.int .i64 1)) 3) {m : Nat} (hm : m ≤ 4294967296) (hE : E (.const (.int .i64 1)) = .int .i64 1) (hp : E p = .int .i64 ((m + 1 : Nat) : Int)) : (execOp E o).run Tryz.prog W = .ok (.value (.int .i64 (m : Int))) W := by
  unfold execOp
  rw [ho]
  simp only [hE, hp]
  go_simp
  exact IntWalk.i64_in _ (by omega)
theorem x_storeNs {p q : Operand} (ho : o.op = Op.store 27 p q) {g f : Nat} {A : Option Addr} {n c : Nat} {u : Value} (hp : E p = .pointer (some ⟨g, f, none⟩)) (hq : E q = .slice A n c) (c0 : W.cell? ⟨g, f, none⟩ = some u) (z0 : W.frozen? ⟨g, f, none⟩ = false) : (execOp E o).run Tryz.prog W = .ok .skip (W.setCell ⟨g, f, none⟩ (.slice A n c)) := by
  unfold execOp
  rw [ho]
  go_simp
end
theorem start3p {a : Act} {i1 i2 i3 : Nat} {v1 v2 v3 : Value} {j : Nat} {v : Value} (h : lk [(i1, v1), (i2, v2), (i3, v3)] j = some v) (h1 : a.tmps.getD i1 undef = v1) (h2 : a.tmps.getD i2 undef = v2) (h3 : a.tmps.getD i3 undef = v3) : a.tmps.getD j undef = v := by
  simp only [lk] at h
  split at h
  · rename_i e; rw [← Nat.eq_of_beq_eq_true e, h1]; exact Option.some.inj h
  · split at h
    · rename_i e; rw [← Nat.eq_of_beq_eq_true e, h2]; exact Option.some.inj h
    · split at h
      · rename_i e; rw [← Nat.eq_of_beq_eq_true e, h3]; exact Option.some.inj h
      · cases h
section
variable {P : Program} {ops : Array Oper} {Q : Exit → Act → World → Prop} {R : World → World → Prop} {l0 : List Value} {ds : List Deferred} {D : List Nat} {L : List (Nat × Value)} {dl : List Nat} {F : Nat → Value → World → Prop} {w1 : World} {S : Nat → Bool} {a : Act} {w : World} {M : (Nat → Bool) → Act → World → Prop}
theorem head_value2 (hI : Ki R l0 ds D L dl F w1 S a w) (hT : tabB dl D L l0.length = true) (htr : ∀ x y z, R x y → R y z → R x z) (hst : ∀ i v w w', F i v w → R w w' → F i v w') (i d : Nat) {o : Oper} {v : Value} {w' : World} (ho : ops[i]? = some o) (hg : o.guard = none) (hdo : o.dst = some d) (hd : dl[i]? = some d)
    (hr : (execOp a.eval o).run P w = .ok (.value v) w') (hb : R w w') (hF : F i v w') (hM : M (upd S i) (a.put (some d) v) w') : wpOp P ops Q i (fun a' w' => Ki R l0 ds D L dl F w1 (upd S i) a' w' ∧ M (upd S i) a' w') a w := by
  unfold wpOp
  rw [ho]
  simp only [f_free hg, if_true]
  exact .inl (op_value hr (by rw [hdo]; exact ⟨hI.step hT htr hst hd hb hF, hM⟩))
theorem head_call2 (hI : Ki R l0 ds D L dl F w1 S a w) (hT : tabB dl D L l0.length = true) (htr : ∀ x y z, R x y → R y z → R x z) (hst : ∀ i v w w', F i v w → R w w' → F i v w') (i d : Nat) {o : Oper} {f : FuncId} {args : Array Value} (ho : ops[i]? = some o) (hg : o.guard = none) (hdo : o.dst = some d) (hd : dl[i]? = some d)
    (hr : (execOp a.eval o).run P w = .ok (.enter f args) w) (hc : Calls P f args w fun e w' => ∃ v, e = .returned v ∧ R w w' ∧ F i v w' ∧ M (upd S i) (a.put (some d) v) w') : wpOp P ops Q i (fun a' w' => Ki R l0 ds D L dl F w1 (upd S i) a' w' ∧ M (upd S i) a' w') a w := by
  unfold wpOp
  rw [ho]
  simp only [f_free hg, if_true]
  refine .inl ?_
  unfold Oper.wp
  rw [hr, Oper.upon_enter]
  refine hc.mono ?_
  rintro e w' ⟨v, rfl, hb, hF, hM⟩
  show Ki _ _ _ _ _ _ _ _ _ _ _ ∧ _
  rw [hdo]; exact ⟨hI.step hT htr hst hd hb hF, hM⟩
theorem region_ki2 {id n : Nat} {a0 : Act} {w : World} (M : (Nat → Bool) → Act → World → Prop) (hM0 : M (fun _ => false) a0 w.drew) (R : World → World → Prop) (hrf : R w.drew w.drew) (dl D : List Nat) (L : List (Nat × Value)) (F : Nat → Value → World → Prop) (hm : P.follows .mixedOrders = true) (hB : headB ops n = true) (hT : tabB dl D L a0.tmps.size = true) (hL : ∀ j v, lk L j = some v → a0.tmps.getD j undef = v)
    (h : ∀ l0 ds, l0 = a0.tmps.toList → ds = a0.defers → tabB dl D L l0.length = true →
      (∀ i, i < n → ∀ S a w', Ki R l0 ds D L dl F w.drew S a w' → M S a w' → (∀ j, Region.waitsFor .any ops i j = true → S j = true) → S i = false → wpOp P ops Q i (fun a' w' => Ki R l0 ds D L dl F w.drew (upd S i) a' w' ∧ M (upd S i) a' w') a w') ∧
      (∀ S a w', Lt l0 ds D L a → R w.drew w' → (∀ i d, i < n → dl[i]? = some d → F i (a.tmps.getD d undef) w') → M S a w' → (∀ i, i < n → S i = true) → wpAny P .any ops Q (ops.size - n) (List.replicate n true ++ List.replicate (ops.size - n) false).toArray a w')) : (Code.region id ops true).wp P Q a0 w := by
  obtain ⟨h1, h2⟩ := h _ _ rfl rfl (by simpa using hT)
  refine region_head hm hB (fun S a w' => Ki R a0.tmps.toList a0.defers D L dl F w.drew S a w' ∧ M S a w') ⟨⟨⟨by simp, fun j _ => getD_toList _ _, rfl, hL⟩, hrf, (fun j hj => by cases hj), (fun j d hj => by cases hj)⟩, hM0⟩ (fun i hi S a w' hI hd hf => h1 i hi S a w' hI.1 hI.2 hd hf) (fun S a w' hI hS => h2 S a w' hI.1.lt hI.1.bl (fun i d hi hd => hI.1.known i d (hS i hi) hd) hI.2 hS)
end
/-- One step of the world, once. -/
def R2 (a b : World) (x y : World) : Prop := y = x ∨ (x = a ∧ y = b)
theorem R2.tr (a b : World) : ∀ x y z, R2 a b x y → R2 a b y z → R2 a b x z := by
  rintro x y z (rfl | ⟨rfl, rfl⟩) (rfl | ⟨h, rfl⟩)
  · exact .inl rfl
  · exact .inr ⟨h, rfl⟩
  · exact .inr ⟨rfl, rfl⟩
  · exact .inr ⟨rfl, rfl⟩
theorem R2.or {a b y : World} (h : R2 a b a y) : y = a ∨ y = b := by
  rcases h with h | ⟨_, h⟩
  · exact .inl h
  · exact .inr h
/-- The world is b once operation p is done, and a before. -/
def M2 (a b : World) (p : Nat) (S : Nat → Bool) (_ : Act) (w : World) : Prop := w = if S p then b else a
theorem M2.skip {a b : World} {p i : Nat} {S : Nat → Bool} {x y : Act} {w : World} (h : M2 a b p S x w) (hi : p ≠ i) : M2 a b p (upd S i) y w := by
  unfold M2 upd at *
  rw [if_neg hi]; exact h
theorem M2.did {a b : World} {p : Nat} {S : Nat → Bool} {y : Act} : M2 a b p (upd S p) y b := by simp [M2, upd]
theorem M2.not {a b : World} {p : Nat} {S : Nat → Bool} {x : Act} {w : World} (h : M2 a b p S x w) (hS : S p = false) : w = a := by
  unfold M2 at h
  rw [hS] at h; exact h
section
variable {lo gp : Nat} {w w' : World} {M : List Nat} {e : El} {r : List El} {gs cap : Nat} {ys : List Value} {vn va : Value} {m1 m2 : List Nat}
set_option maxRecDepth 100000 in
set_option maxHeartbeats 4000000 in
theorem top_any (h : Opn lo gp w M e r gs cap ys vn va m1 m2) : Calls Tryz.prog 35 #[.pointer (some ⟨gp, 0, none⟩)] w fun x w' => x = .returned (.pointer (some ⟨gs, r.length * 5, none⟩)) ∧ Below w.heap.size w w' := by
  have c0 := h.pcell
  obtain ⟨cs, _, _, k1, k2, _⟩ := h.cs
  clear h
  go_enter Tryz.func35, Tryz.ntmps35
  go_wp2_with fail
  go_quiet (fail)
  go_wp2
  go_ret
  exact ⟨rfl, below_drewN (Below.refl _ _) nq⟩
set_option maxRecDepth 100000 in
set_option maxHeartbeats 4000000 in
/-- What is appended to a list without arguments. -/
theorem app0_any (h : Opn lo gp w M e r gs cap ys vn va m1 m2) (ha : e.args = []) {u : Value} {l : List Nd} (hu : LX w (Xm lo w M) u l) (hl : e.nodes.length ≤ 33554432) : Calls Tryz.prog 60 #[.pointer (some ⟨gp, 0, none⟩), u] w fun x w' => x = .returned (.tuple #[]) ∧ ∃ M', St lo gp w' M' (addN (e :: r) l) ∧ Fr lo w M w' M' := by
  obtain ⟨Au, cu, rfl⟩ := hu.form
  have H := Lib.hid h; have HU := Lib.hid hu; clear h hu
  go_enter Tryz.func60, Tryz.ntmps60
  go_wp2_with fail
  refine (top_any H.out).mono ?_
  rintro x w1 ⟨rfl, hb⟩
  have H1 := Lib.hid (H.out.keep hb)
  have HF := Lib.hid (H.out.st.keep hb).2
  have HU1 := Lib.hid (HF.out.lx HU.out)
  have c3 := H1.out.cell 3 _ rfl
  have c4 := H1.out.cell 4 _ rfl
  obtain ⟨Av, cv, rfl, _, _⟩ := H1.out.ra.form
  obtain ⟨An, cn, rfl, _, _⟩ := H1.out.rn.form
  obtain ⟨v', w2, hr, hg, ho, ys', hy, hc⟩ := H1.out.rn.app 27 HU1.out hl H1.out.lolt
  obtain ⟨A2, c2, rfl, _, _⟩ := own_form hy
  have hgs : w2.heap[gs]? = w1.heap[gs]? := hg.block gs H1.out.glt.2 (fun q => (H1.out.dj.s2 gs (List.mem_append.2 (.inl (ob_mem.2 q.symm)))).1 rfl)
  have c32 : w2.cell? ⟨gs, r.length * 5 + 3, none⟩ = some (Value.slice An e.nodes.length cn) := (World.cell?_of_block hgs).trans c3
  have z32 : w2.frozen? ⟨gs, r.length * 5 + 3, none⟩ = false := (World.frozen?_of_block hgs).trans (H1.out.fz _)
  have R := Lib.hid (H1.out.addNodes hg ho hy hc)
  have HA := Lib.hid ha
  have e0 : e.args.length = 0 := by rw [ha]; rfl
  rw [e0] at c4
  clear hg ho hy hc hgs hb H HU HU1 H1 ha e0
  generalize (e.nodes ++ l).length = N at *
  go_wp2_with (at_builtin; refine wpList_app rfl (.tmp 38) (.tmp 39) _ rfl rfl rfl hr ?_)
  go_end0
  obtain ⟨M', h1, h2⟩ := R.out
  refine ⟨rfl, M', ?_, ?_⟩
  · have q : addN (e :: r) l = { e with nodes := e.nodes ++ l } :: r := by simp [addN, addE, HA.out]
    rw [q]; exact h1
  · exact HF.out.trans h2
def FA (pe pf va : Value) (n k : Nat) (px py uv u v' : Value) (w2 : World) : Nat → Value → World → Prop
  | 0, v, _ => v = pe
  | 1, v, _ => v = pe
  | 2, v, _ => v = pf
  | 3, v, _ => v = va
  | 4, v, _ => v = .int .i64 (n : Int)
  | 5, v, _ => v = .int .i64 (k : Int)
  | 6, v, _ => v = pe
  | 7, v, _ => v = pe
  | 8, v, _ => v = pf
  | 9, v, _ => v = va
  | 10, v, _ => v = .int .i64 (n : Int)
  | 11, v, _ => v = .int .i64 (k : Int)
  | 12, v, _ => v = px
  | 13, v, _ => v = py
  | 14, v, _ => v = uv
  | 15, v, _ => v = u
  | 16, v, w => v = v' ∧ w = w2
  | 17, v, _ => v = px
  | _, v, _ => v = py
theorem FA.st {pe pf va : Value} {n k : Nat} {px py uv u v' : Value} {w1 w2 : World} : ∀ i v w w', FA pe pf va n k px py uv u v' w2 i v w → R2 w1 w2 w w' → FA pe pf va n k px py uv u v' w2 i v w' := by
  intro i v w w' h hb
  unfold FA at h ⊢
  split <;> simp only at h ⊢
  all_goals first
    | exact h
    | exact ⟨h.1, by rcases hb with hb | hb; exact hb.trans h.2; exact hb.2⟩
set_option maxRecDepth 100000 in
set_option maxHeartbeats 4000000 in
/-- What is appended to the last argument's value. -/
theorem app1_any (h : Opn lo gp w M e r gs cap ys vn va m1 m2) (ha : e.args ≠ []) {u : Value} {l : List Nd} (hu : LX w (Xm lo w M) u l) (hl : ph (e :: r) ≤ 4194304) : Calls Tryz.prog 60 #[.pointer (some ⟨gp, 0, none⟩), u] w fun x w' => x = .returned (.tuple #[]) ∧ ∃ M', St lo gp w' M' (addN (e :: r) l) ∧ Fr lo w M w' M' := by
  obtain ⟨Au, cu, rfl⟩ := hu.form
  have hlen : e.args.length ≤ 4194304 := by have := len_ph e.args; rw [ph, phE] at hl; omega
  have H := Lib.hid h; have HU := Lib.hid hu; clear h hu
  go_enter Tryz.func60, Tryz.ntmps60
  go_wp2_with fail
  refine (top_any H.out).mono ?_
  rintro x w1 ⟨rfl, hb⟩
  have H1 := Lib.hid (H.out.keep hb)
  have HF := Lib.hid (H.out.st.keep hb).2
  have c4 := H1.out.cell 4 _ rfl
  obtain ⟨k0, hk0⟩ : ∃ k, e.args.length = k + 1 := ⟨e.args.length - 1, by have : 0 < e.args.length := List.length_pos_iff.2 ha; omega⟩
  obtain ⟨Av, cv, rfl, _, _⟩ := H1.out.ra.form
  rw [hk0] at c4
  go_wp2_with fail
  have bd : Below w1.heap.size w1 w1.drew := (Below.refl _ _).drew
  have H2 := Lib.hid (H1.out.keep bd)
  have HF2 := Lib.hid (HF.out.trans (H1.out.st.keep bd).2)
  have HU2 := Lib.hid (HF2.out.lx HU.out)
  obtain ⟨f, a, zs, un, uv, ga, ca, L⟩ := H2.out.ra.last ha
  have hfl : k0 = f.length := by rw [L.hl, List.length_append] at hk0; simpa using hk0.symm
  subst hfl
  have hva := L.hv
  obtain ⟨Ax, cx, rfl, _, _⟩ := L.rv.form
  have hval : a.value.length ≤ 33554432 := by
    have h1 := sz_len a.value
    rw [ph, phE, L.hl, phA_append] at hl
    simp only [phA] at hl
    omega
  obtain ⟨v', w2, hr, hg, ho, ys', hy, hc⟩ := L.rv.app 27 HU2.out hval H2.out.lolt
  obtain ⟨A2, c2, rfl, _, _⟩ := own_form hy
  have R := Lib.hid (H2.out.addValue L hg ho hy hc)
  have n2 := H2.out.dj.n2
  rw [L.hm] at n2
  have gav : ga ∈ ob (Value.slice Av e.args.length cv) := by rw [hva]; simp [ob, Value.ownBlock]
  have hga2 : w2.heap[ga]? = w1.drew.heap[ga]? := hg.block ga (H2.out.ra.lt ga L.gin).2 (fun q => (List.nodup_append.1 n2).2.2 ga gav ga (ob_mem.2 q.symm) rfl)
  have hgs2 : w2.heap[gs]? = w1.drew.heap[gs]? := hg.block gs H2.out.glt.2 (fun q => (H2.out.dj.s2 gs (List.mem_append.2 (.inr (by rw [L.hm]; exact List.mem_append.2 (.inr (ob_mem.2 q.symm)))))).1 rfl)
  have cE : ∀ y, R2 w1.drew w2 w1.drew y → y.cell? ⟨gs, r.length * 5 + 4, none⟩ = some (Value.slice Av e.args.length cv) := fun y hy => by
    rcases hy.or with rfl | rfl
    · exact H2.out.cell 4 _ rfl
    · exact (World.cell?_of_block hgs2).trans (H2.out.cell 4 _ rfl)
  have cV : ∀ y, R2 w1.drew w2 w1.drew y → y.cell? ⟨ga, f.length * 3 + 2, none⟩ = some (Value.slice Ax a.value.length cx) := fun y hy => by
    rcases hy.or with rfl | rfl
    · exact L.cell 2 _ rfl
    · exact (World.cell?_of_block hga2).trans (L.cell 2 _ rfl)
  have z2 : w2.frozen? ⟨ga, f.length * 3 + 2, none⟩ = false := (World.frozen?_of_block hga2).trans (L.fz _)
  have hva' : Value.slice Av e.args.length cv = .slice (some ⟨ga, 0, none⟩) (f.length + 1) ca := hva
  have HA : Hid (addN (e :: r) l = { e with args := addA e.args l } :: r) := Lib.hid (by
    have : e.args.isEmpty = false := by simpa using ha
    simp [addN, addE, this])
  clear L hg ho hy hc n2 gav hga2 hgs2 HF HU HU2 bd hb H hval hva
  rw [hva'] at cE
  generalize (a.value ++ l).length = N at *
  refine region_ki2 (M2 w1.drew w2 16) rfl (R2 w1.drew w2) (.inl rfl) [15, 16, 17, 18, 19, 20, 21, 22, 23, 24, 25, 26, 27, 28, 29, 30, 31, 32, 33] [15, 16, 17, 18, 19, 20, 21, 22, 23, 24, 25, 26, 27, 28, 29, 30, 31, 32, 33] [(1, .slice Au l.length cu), (4, .pointer (some ⟨gs, r.length * 5, none⟩)), (5, .int .i64 ((f.length + 1 : Nat) : Int))]
    (FA (.pointer (some ⟨gs, r.length * 5, none⟩)) (.pointer (some ⟨gs, r.length * 5 + 4, none⟩)) (.slice (some ⟨ga, 0, none⟩) (f.length + 1) ca) (f.length + 1) f.length (.pointer (some ⟨ga, 0 + f.length * 3, none⟩)) (.pointer (some ⟨ga, 0 + f.length * 3 + 2, none⟩)) (Value.slice Ax a.value.length cx) (.slice Au l.length cu) (.slice A2 N c2) w2)
    (by kernel_rfl) (n := 19) (by kernel_rfl) (by kernel_rfl) (fun j v hj => start3p hj rfl rfl rfl) ?_
  intro l0 ds hl0 hds hT
  have HL0 := Lib.hid hl0; have HDS := Lib.hid hds; clear hl0 hds
  refine ⟨?_, ?_⟩
  · intro i hi S x w' hI hM hd hS
    have Z : R2 w1.drew w2 w' w' := .inl rfl
    match i, hi with
    | 0, _ => exact head_value2 hI hT (R2.tr _ _) FA.st 0 15 rfl rfl rfl rfl (x_move rfl (hI.lt.eval 4 rfl)) Z rfl (hM.skip (by decide))
    | 1, _ => exact head_value2 hI hT (R2.tr _ _) FA.st 1 16 rfl rfl rfl rfl (x_nil (p := .tmp 15) (ad := ⟨gs, r.length * 5, none⟩) rfl (hI.known 0 15 (hd 0 (by kernel_rfl)) rfl)) Z rfl (hM.skip (by decide))
    | 2, _ => exact head_value2 hI hT (R2.tr _ _) FA.st 2 17 rfl rfl rfl rfl (x_fieldE 4 (by decide) rfl (hI.known 1 16 (hd 1 (by kernel_rfl)) rfl)) Z rfl (hM.skip (by decide))
    | 3, _ => exact head_value2 hI hT (R2.tr _ _) FA.st 3 18 rfl rfl rfl rfl (x_loadA rfl (hI.known 2 17 (hd 2 (by kernel_rfl)) rfl) (cE _ hI.bl)) Z rfl (hM.skip (by decide))
    | 4, _ => exact head_value2 hI hT (R2.tr _ _) FA.st 4 19 rfl rfl rfl rfl (x_move rfl (hI.lt.eval 5 rfl)) Z rfl (hM.skip (by decide))
    | 5, _ => exact head_value2 hI hT (R2.tr _ _) FA.st 5 20 rfl rfl rfl rfl (x_sub1 (p := .tmp 19) (m := f.length) rfl (by omega) rfl (hI.known 4 19 (hd 4 (by kernel_rfl)) rfl)) Z rfl (hM.skip (by decide))
    | 6, _ => exact head_value2 hI hT (R2.tr _ _) FA.st 6 21 rfl rfl rfl rfl (x_move rfl (hI.lt.eval 4 rfl)) Z rfl (hM.skip (by decide))
    | 7, _ => exact head_value2 hI hT (R2.tr _ _) FA.st 7 22 rfl rfl rfl rfl (x_nil (p := .tmp 21) (ad := ⟨gs, r.length * 5, none⟩) rfl (hI.known 6 21 (hd 6 (by kernel_rfl)) rfl)) Z rfl (hM.skip (by decide))
    | 8, _ => exact head_value2 hI hT (R2.tr _ _) FA.st 8 23 rfl rfl rfl rfl (x_fieldE 4 (by decide) rfl (hI.known 7 22 (hd 7 (by kernel_rfl)) rfl)) Z rfl (hM.skip (by decide))
    | 9, _ => exact head_value2 hI hT (R2.tr _ _) FA.st 9 24 rfl rfl rfl rfl (x_loadA rfl (hI.known 8 23 (hd 8 (by kernel_rfl)) rfl) (cE _ hI.bl)) Z rfl (hM.skip (by decide))
    | 10, _ => exact head_value2 hI hT (R2.tr _ _) FA.st 10 25 rfl rfl rfl rfl (x_move rfl (hI.lt.eval 5 rfl)) Z rfl (hM.skip (by decide))
    | 11, _ => exact head_value2 hI hT (R2.tr _ _) FA.st 11 26 rfl rfl rfl rfl (x_sub1 (p := .tmp 25) (m := f.length) rfl (by omega) rfl (hI.known 10 25 (hd 10 (by kernel_rfl)) rfl)) Z rfl (hM.skip (by decide))
    | 12, _ => exact head_value2 hI hT (R2.tr _ _) FA.st 12 27 rfl rfl rfl rfl (x_indexA rfl (hI.known 9 24 (hd 9 (by kernel_rfl)) rfl) (hI.known 11 26 (hd 11 (by kernel_rfl)) rfl) (by omega)) Z rfl (hM.skip (by decide))
    | 13, _ => exact head_value2 hI hT (R2.tr _ _) FA.st 13 28 rfl rfl rfl rfl (x_fieldA 2 (by decide) rfl (hI.known 12 27 (hd 12 (by kernel_rfl)) rfl)) Z rfl (hM.skip (by decide))
    | 14, _ => exact head_value2 hI hT (R2.tr _ _) FA.st 14 29 rfl rfl rfl rfl (x_loadN rfl (hI.known 13 28 (hd 13 (by kernel_rfl)) rfl) (by rw [Nat.zero_add]; exact cV _ hI.bl)) Z rfl (hM.skip (by decide))
    | 15, _ => exact head_value2 hI hT (R2.tr _ _) FA.st 15 30 rfl rfl rfl rfl (x_move rfl (hI.lt.eval 1 rfl)) Z rfl (hM.skip (by decide))
    | 16, _ =>
      have e0 := hM.not hS
      subst e0
      have k14 : x.eval (.tmp 29) = Value.slice Ax a.value.length cx := hI.known 14 29 (hd 14 (by kernel_rfl)) rfl
      have k15 : x.eval (.tmp 30) = Value.slice Au l.length cu := hI.known 15 30 (hd 15 (by kernel_rfl)) rfl
      exact head_value2 hI hT (R2.tr _ _) FA.st 16 31 rfl rfl rfl rfl (x_append rfl rfl k14 k15 hr) (.inr ⟨rfl, rfl⟩) ⟨rfl, rfl⟩ M2.did
    | 17, _ => exact head_value2 hI hT (R2.tr _ _) FA.st 17 32 rfl rfl rfl rfl (x_indexA rfl (hI.known 3 18 (hd 3 (by kernel_rfl)) rfl) (hI.known 5 20 (hd 5 (by kernel_rfl)) rfl) (by omega)) Z rfl (hM.skip (by decide))
    | 18, _ => exact head_value2 hI hT (R2.tr _ _) FA.st 18 33 rfl rfl rfl rfl (x_fieldA 2 (by decide) rfl (hI.known 17 32 (hd 17 (by kernel_rfl)) rfl)) Z rfl (hM.skip (by decide))
    | (n + 19), h => exact absurd h (by omega)
  · intro S x w' hL hb hk _ _
    have k18 : x.eval (.tmp 33) = .pointer (some ⟨ga, 0 + f.length * 3 + 2, none⟩) := hk 18 33 (by decide) rfl
    obtain ⟨k16, e2⟩ := hk 16 31 (by decide) rfl
    have k16' : x.eval (.tmp 31) = .slice A2 N c2 := k16
    rw [Nat.zero_add] at k18
    refine any_store 19 rfl rfl rfl (by kernel_rfl) (x_storeNs rfl k18 k16' (cV _ hb) (by rw [e2]; exact z2)) ?_
    refine wpAny_done (by kernel_rfl) ?_ _
    obtain ⟨u9, rfl, _⟩ := hL.lit
    rw [HL0.out, HDS.out]
    simp only [setAll, List.set_cons_zero, List.set_cons_succ]
    clear hk k18 k16 k16' hL hT HL0 HDS
    subst e2
    go_wp2_with fail
    refine bodyPost_ret (results_none rfl _ _ _) rfl ?_
    obtain ⟨M', h1, h2⟩ := R.out
    exact ⟨rfl, M', by rw [HA.out]; exact h1, HF2.out.trans h2⟩
/-- The contract of appendNodes. -/
theorem appendNodes_any {st : List El} (h : St lo gp w M st) (hn : st ≠ []) {u : Value} {l : List Nd} (hu : LX w (Xm lo w M) u l) (hl : ph st ≤ 4194304) : Calls Tryz.prog 60 #[.pointer (some ⟨gp, 0, none⟩), u] w fun x w' => x = .returned (.tuple #[]) ∧ ∃ M', St lo gp w' M' (addN st l) ∧ Fr lo w M w' M' := by
  cases st with
  | nil => exact absurd rfl hn
  | cons e r =>
    obtain ⟨gs, cap, ys, vn, va, m1, m2, o⟩ := h.op
    by_cases ha : e.args = []
    · exact app0_any o ha hu (by have := sz_len e.nodes; rw [ph, phE] at hl; omega)
    · exact app1_any o ha hu hl
end
/-- A list of one node that was just laid. -/
theorem LX.lit {w : World} {X : Nat → Prop} {b : Nat} {k t : Int} {s : ByteArray} {vk va : Value} {n : List Nd} {x : List Ar} (hb : w.heap[b]? = some (.cells #[.int .i64 k, .int .i64 t, .string s, vk, va] 62)) (hX : X b) (f1 : Fit k) (f2 : Fit t) (hn : LX w X vk n) (hx : AX w X va x) (hz : szN (.mk k t s n x) ≤ 16777216) : LX w X (.slice (some ⟨b, 0, none⟩) 1 1) [.mk k t s n x] := by
  obtain ⟨d1, hn⟩ := hn
  obtain ⟨d2, hx⟩ := hx
  refine ⟨d1 + d2 + 1, by rw [sz_cons, sz_nil]; exact hz, some ⟨b, 0, none⟩, 1, rfl, by simp, by simp [maxLen], fun _ => ⟨b, 0, rfl, hX, fun i hi m hm => ?_⟩⟩
  have e : i = 0 := by simpa using hi
  subst e
  simp only [List.getElem?_cons_zero, Option.some.injEq] at hm
  subst hm
  exact ⟨vk, va, cell_heap hb rfl, cell_heap hb rfl, cell_heap hb rfl, cell_heap hb rfl, cell_heap hb rfl, f1, f2, hn.deep (by omega), ARx.deep hx (by omega)⟩
theorem fit_nat {n : Nat} (h : n ≤ 1000) : Fit (n : Int) := by unfold Fit; omega
section
variable {lo gp : Nat} {w w' : World} {M : List Nat} {st : List El}
theorem St.lolt (h : St lo gp w M st) : lo ≤ w.heap.size := by
  obtain ⟨gs, cap, xs, m, hM, _, h1, h2, _⟩ := h
  exact Nat.le_trans h1 (Nat.le_of_lt (Array.getElem?_eq_some_iff.1 h2).1)
/-- A block that was just laid is none of the rows. -/
theorem St.fresh (h : St lo gp w M st) (o : Obj) : St lo gp (w.alloc o) M st ∧ Fr lo w M (w.alloc o) M ∧ Xm lo (w.alloc o) M w.heap.size := by
  have hlt := h.lt
  have hb : Below w.heap.size w (w.alloc o) := (Below.refl _ _).alloc (Nat.le_refl _) _
  refine ⟨(h.keep hb).1, (h.keep hb).2, h.lolt, by simp, fun q => ?_⟩
  have := (hlt _ q).2
  omega
set_option maxRecDepth 100000 in
set_option maxHeartbeats 4000000 in
theorem appendText_any (h : St lo gp w M st) (hn : st ≠ []) (s : List UInt8) (hl : ph st ≤ 4194304) (hs : s.length ≤ 8388608) : Calls Tryz.prog 68 #[.pointer (some ⟨gp, 0, none⟩), .string ⟨s.toArray⟩] w fun x w' => x = .returned (.tuple #[]) ∧ ∃ M', St lo gp w' M' (addT st s) ∧ Fr lo w M w' M' := by
  have F := Lib.hid (h.fresh (.cells #[.int .i64 1, .int .i64 0, .string ⟨s.toArray⟩, .slice none 0 0, .slice none 0 0] 62))
  clear h
  have hz : szN (.mk 1 0 ⟨s.toArray⟩ [] []) ≤ 16777216 := by
    rw [szN_eq]
    simp only [Nd.text, Nd.kids, Nd.args, sz_nil, szA_nil, ByteArray.size, List.size_toArray]
    omega
  go_enter Tryz.func68, Tryz.ntmps68
  go_wp2_with fail
  refine (appendNodes_any F.out.1 hn (LX.lit (heap_alloc_new w _) F.out.2.2 (fit_nat (n := 1) (by omega)) (fit_nat (n := 0) (by omega)) (LX.nil _ _) (AX.nil _ _) hz) hl).mono ?_
  rintro x w1 ⟨rfl, M', h1, h2⟩
  have R := Lib.hid (And.intro h1 (F.out.2.1.trans h2))
  clear F h1 h2
  go_wp2_with fail
  go_end0
  exact ⟨rfl, M', R.out⟩
end
end Go.Proofs.YtdojbnngdlmbgaaGreatDoor.Pa

namespace Go.Proofs.YtdojbnngdlmbgaaGreatDoor.Pa
open Go.RowKit Go.Proofs.YtdojbnngdlmbgaaGreatDoor.Tr
set_option linter.unusedVariables false

section
variable {E : Operand → Value} {o : Oper} {W : World}
theorem x_fieldP {p : Operand} {b : Nat} (ho : o.op = Op.fieldAddr 70 p 0) (h : E p = .pointer (some ⟨b, 0, none⟩)) : (execOp E o).run Tryz.prog W = .ok (.value (.pointer (some ⟨b, 0, none⟩))) W := by
  unfold execOp
  rw [ho]
  simp only [h]
  go_simp
theorem x_loadE {p : Operand} {b f : Nat} {v : Value} (ho : o.op = Op.load 68 p) (h : E p = .pointer (some ⟨b, f, none⟩)) (hc : W.cell? ⟨b, f, none⟩ = some v) : (execOp E o).run Tryz.prog W = .ok (.value v) W := by
  unfold execOp
  rw [ho]
  simp only [h]
  go_simp
theorem x_lenE {p : Operand} (ho : o.op = .call { callee := .builtin .len, args := #[p], argTypes := #[68] }) {A : Option Addr} {n c : Nat} (h : E p = .slice A n c) : (execOp E o).run Tryz.prog W = .ok (.value (.int .i64 (n : Int))) W := by
  unfold execOp
  rw [ho]
  go_simp
theorem x_sliceE {p q : Operand} (ho : o.op = Op.slice 68 p none (some q) none) {g n m c : Nat} (h : E p = .slice (some ⟨g, 0, none⟩) n c) (hq : E q = .int .i64 (m : Int)) (hm : m ≤ c) (hc : c ≤ 9223372036854775807) : (execOp E o).run Tryz.prog W = .ok (.value (.slice (some ⟨g, 0, none⟩) m c)) W := by
  unfold execOp
  rw [ho]
  simp only [h]
  go_simp
theorem x_storeE {p q : Operand} (ho : o.op = Op.store 68 p q) {g f : Nat} {A : Option Addr} {n c : Nat} {u : Value} (hp : E p = .pointer (some ⟨g, f, none⟩)) (hq : E q = .slice A n c) (c0 : W.cell? ⟨g, f, none⟩ = some u) (z0 : W.frozen? ⟨g, f, none⟩ = false) : (execOp E o).run Tryz.prog W = .ok .skip (W.setCell ⟨g, f, none⟩ (.slice A n c)) := by
  unfold execOp
  rw [ho]
  go_simp
end
def Eq2 (x y : World) : Prop := y = x
theorem Eq2.tr : ∀ x y z, Eq2 x y → Eq2 y z → Eq2 x z := fun _ _ _ h k => Eq.trans k h
def FP (pp vs : Value) (n : Nat) (vs2 : Value) : Nat → Value → World → Prop
  | 0, v, _ => v = pp
  | 1, v, _ => v = pp
  | 2, v, _ => v = pp
  | 3, v, _ => v = pp
  | 4, v, _ => v = vs
  | 5, v, _ => v = pp
  | 6, v, _ => v = pp
  | 7, v, _ => v = pp
  | 8, v, _ => v = vs
  | 9, v, _ => v = .int .i64 ((n + 1 : Nat) : Int)
  | 10, v, _ => v = .int .i64 (n : Int)
  | _, v, _ => v = vs2
theorem FP.st {pp vs : Value} {n : Nat} {vs2 : Value} : ∀ i v w w', FP pp vs n vs2 i v w → Eq2 w w' → FP pp vs n vs2 i v w' := by
  intro i v w w' h _
  unfold FP at h ⊢
  split <;> simp only at h ⊢ <;> exact h
section
variable {lo gp : Nat} {w w' : World} {M : List Nat} {e : El} {r : List El} {gs cap : Nat} {ys : List Value} {vn va : Value} {m1 m2 : List Nat}
/-- The stack without its top, whose rows will no longer grow. -/
theorem Opn.pop (h : Opn lo gp w M e r gs cap ys vn va m1 m2) (hl : ph (e :: r) ≤ 4194304) (hb : Below lo w w') (hk : ∀ g, g < w.heap.size → g ≠ gp → w'.heap[g]? = w.heap[g]?) (hp : w'.heap[gp]? = some (.cells #[.slice (some ⟨gs, 0, none⟩) r.length cap] 70)) :
    St lo gp w' (gp :: gs :: m1) r ∧ Fr lo w M w' (gp :: gs :: m1) ∧ LX w' (Xm lo w' (gp :: gs :: m1)) vn e.nodes ∧ AX w' (Xm lo w' (gp :: gs :: m1)) va e.args := by
  have dj := h.dj
  have glt := h.glt
  have hM := h.hM
  have nd2 := h.nd2 (n2 := []) List.nodup_nil (fun _ q => by cases q)
  have hx : ∀ g, Xm lo w M g → Xm lo w' (gp :: gs :: m1) g := h.x2 hb.size (n2 := []) (fun _ q => by cases q)
  have xk : ∀ g, Xm lo w M g → w'.heap[g]? = w.heap[g]? := fun g q => hk g q.2.1 (h.notM q.2.2).2.1
  have hm : ∀ g ∈ ob vn ++ m2, Xm lo w' (gp :: gs :: m1) g := fun g q => by
    have hlt := h.st.lt g (by rw [hM]; simp only [List.mem_cons, List.mem_append]; exact .inr (.inr (.inl (List.mem_append.1 q))))
    refine ⟨hlt.1, Nat.lt_of_lt_of_le hlt.2 hb.size, fun z => ?_⟩
    simp only [List.mem_cons] at z
    rcases z with z | z | z
    · exact (dj.s2 g q).2 z
    · exact (dj.s2 g q).1 z
    · exact dj.d1 g q z
  rw [ph, phE] at hl
  have rn2 := h.rn.keep (w' := w') hx xk (fun g q => hk g (h.rn.lt g q).2 (dj.s2 g (List.mem_append.2 (.inl q))).2)
  have ra2 := h.ra.keep (w' := w') hx xk (fun g q => hk g (h.ra.lt g q).2 (dj.s2 g (List.mem_append.2 (.inr q))).2)
  obtain ⟨cs, c1, c2, c3, c4, c5⟩ := h.cs
  refine ⟨⟨gs, cap, ys, m1, rfl, nd2, h.lg, hp, ⟨h.ylen, .inr ⟨gs, cap, cs, rfl, glt.1, (hk gs glt.2 (fun z => dj.gps z.symm)).trans c1, by omega, by simpa [maxLen] using c4, c2, ?_⟩⟩, h.es.keep hx xk (fun g q => hk g (h.es.lt g q).2 (dj.s1 g q).2)⟩, ⟨hb, fun g h1 h2 => hk g h1 (h.notM h2).2.1, fun g h1 h2 => ?_⟩, rn2.lx (by omega) (fun _ q => q) (fun g q => hm g (List.mem_append.2 (.inl q))), ra2.ax (by omega) (fun _ q => q) (fun g q => hm g (List.mem_append.2 (.inr q)))⟩
  · have q := congrArg (List.take (r.length * 5)) c5
    rw [List.take_take, show min (r.length * 5) ((r.length + 1) * 5) = r.length * 5 by omega] at q
    rw [q, ← h.ylen, List.take_left']
    rfl
  · rw [hM] at h2
    simp only [List.mem_cons, List.mem_append, not_or] at h2 ⊢
    exact ⟨h2.1, h2.2.1, h2.2.2.2⟩
set_option maxRecDepth 100000 in
set_option maxHeartbeats 4000000 in
theorem pop_any (h : Opn lo gp w M e r gs cap ys vn va m1 m2) (hl : ph (e :: r) ≤ 4194304) : Calls Tryz.prog 115 #[.pointer (some ⟨gp, 0, none⟩)] w fun x w' => x = .returned (.agg #[.int .i64 e.kind, .string ⟨e.op.toArray⟩, .int .i64 e.tag, vn, va]) ∧ ∃ M', St lo gp w' M' r ∧ Fr lo w M w' M' ∧ LX w' (Xm lo w' M') vn e.nodes ∧ AX w' (Xm lo w' M') va e.args := by
  have b0 : Below w.heap.size w (w.alloc (Obj.cells #[Value.int .i64 0, .string ⟨#[]⟩, .int .i64 0, .slice none 0 0, .slice none 0 0] 67)) := (Below.refl _ _).alloc (Nat.le_refl _) _
  have H := Lib.hid (h.keep b0)
  obtain ⟨An, cn, rfl, _, _⟩ := h.rn.form
  obtain ⟨Aa, ca, rfl, _, _⟩ := h.ra.form
  have H0 := Lib.hid h
  clear h
  go_enter Tryz.func115, Tryz.ntmps115
  go_wp2_with fail
  refine (top_any H.out).mono ?_
  rintro x w1 ⟨rfl, hb⟩
  have H1 := Lib.hid (H.out.keep hb)
  have c0 := H1.out.cell 0 _ rfl
  have c1 := H1.out.cell 1 _ rfl
  have c2 := H1.out.cell 2 _ rfl
  have c3 := H1.out.cell 3 _ rfl
  have c4 := H1.out.cell 4 _ rfl
  have hr0 : w1.heap[w.heap.size]? = some (Obj.cells #[Value.int .i64 0, .string ⟨#[]⟩, .int .i64 0, .slice none 0 0, .slice none 0 0] 67) := (hb.block _ (by simp)).trans (heap_alloc_new w _)
  have p0 := H1.out.pcell
  obtain ⟨cs, _, _, k1, k2, _⟩ := H1.out.cs
  have c0' : w1.cell? ⟨gs, r.length * 5, none⟩ = some (Value.int .i64 e.kind) := c0
  clear c0
  have hlr : r.length ≤ 4294967296 := by
    have : ∀ st : List El, st.length ≤ ph st := fun st => by
      induction st with
      | nil => simp [ph]
      | cons x st ih => rw [ph, phE, List.length_cons]; omega
    have := this (e :: r)
    rw [List.length_cons] at this; omega
  obtain ⟨OE, hOE⟩ : ∃ O, Obj.cells #[Value.int .i64 e.kind, .string ⟨e.op.toArray⟩, .int .i64 e.tag, Value.slice An e.nodes.length cn, Value.slice Aa e.args.length ca] 67 = O := ⟨_, rfl⟩
  go_wp2_with fail
  have bE : Below w1.heap.size w1 (w1.alloc OE).drew := ((Below.refl _ _).alloc (Nat.le_refl _) _).drew
  have H2 := Lib.hid (H1.out.keep bE)
  have q3 : (w1.alloc OE).drew.heap[w1.heap.size]? = some OE := heap_alloc_new w1 OE
  have q2 : (w1.alloc OE).drew.heap[w.heap.size]? = some (Obj.cells #[Value.int .i64 0, .string ⟨#[]⟩, .int .i64 0, .slice none 0 0, .slice none 0 0] 67) := (bE.block _ (Array.getElem?_eq_some_iff.1 hr0).1).trans hr0
  have qk : ∀ g, g < w.heap.size → (w1.alloc OE).drew.heap[g]? = w.heap[g]? := fun g hg => (bE.block g (Nat.lt_of_lt_of_le hg (Nat.le_trans b0.size hb.size))).trans ((hb.block g (Nat.lt_of_lt_of_le hg b0.size)).trans (b0.block g hg))
  have qb : Below w.heap.size w (w1.alloc OE).drew := b0.trans ((hb.mono b0.size).trans (bE.mono (Nat.le_trans b0.size hb.size)))
  have hlt1 : w.heap.size < w1.heap.size := (Array.getElem?_eq_some_iff.1 hr0).1
  have pp := H2.out.pcell
  have pz : (w1.alloc OE).drew.frozen? ⟨gp, 0, none⟩ = false := by simp [World.frozen?, H2.out.hp]
  have hgp : gp < w.heap.size := (H0.out.st.lt gp (by rw [H0.out.hM]; simp)).2
  have hpp := H2.out.hp
  clear c0' c1 c2 c3 c4 hr0 p0 bE
  refine region_ki Eq2 rfl [8, 9, 10, 11, 12, 13, 14, 15, 16, 17, 18, 19] [8, 9, 10, 11, 12, 13, 14, 15, 16, 17, 18, 19, 20, 21] [(0, .pointer (some ⟨gp, 0, none⟩)), (2, .pointer (some ⟨w.heap.size, 0, none⟩)), (3, .pointer (some ⟨w1.heap.size, 0, none⟩))] (FP (.pointer (some ⟨gp, 0, none⟩)) (.slice (some ⟨gs, 0, none⟩) (r.length + 1) cap) r.length (.slice (some ⟨gs, 0, none⟩) r.length cap)) (by kernel_rfl) (n := 12) (by kernel_rfl) (by kernel_rfl) (fun j v hj => start3p hj rfl rfl rfl) ?_
  generalize hWX : (w1.alloc OE) = WX at q3 q2 qk qb pp pz hpp H2 ⊢
  clear hWX
  intro l0 ds hl0 hds hT
  have HL0 := Lib.hid hl0; have HDS := Lib.hid hds; clear hl0 hds
  refine ⟨?_, ?_⟩
  · intro i hi S x w' hI hd
    have ew : w' = WX.drew := hI.bl
    have Z : Eq2 w' w' := rfl
    have pp' := pp
    rw [← ew] at pp'
    match i, hi with
    | 0, _ => exact head_value hI hT Eq2.tr FP.st 0 8 rfl rfl rfl rfl (x_move rfl (hI.lt.eval 0 rfl)) Z rfl
    | 1, _ => exact head_value hI hT Eq2.tr FP.st 1 9 rfl rfl rfl rfl (x_move rfl (hI.lt.eval 0 rfl)) Z rfl
    | 2, _ => exact head_value hI hT Eq2.tr FP.st 2 10 rfl rfl rfl rfl (x_nil (p := .tmp 9) (ad := ⟨gp, 0, none⟩) rfl (hI.known 1 9 (hd 1 (by kernel_rfl)) rfl)) Z rfl
    | 3, _ => exact head_value hI hT Eq2.tr FP.st 3 11 rfl rfl rfl rfl (x_fieldP (p := .tmp 10) (b := gp) rfl (hI.known 2 10 (hd 2 (by kernel_rfl)) rfl)) Z rfl
    | 4, _ => exact head_value hI hT Eq2.tr FP.st 4 12 rfl rfl rfl rfl (x_loadE (p := .tmp 11) (b := gp) (f := 0) rfl (hI.known 3 11 (hd 3 (by kernel_rfl)) rfl) pp') Z rfl
    | 5, _ => exact head_value hI hT Eq2.tr FP.st 5 13 rfl rfl rfl rfl (x_move rfl (hI.lt.eval 0 rfl)) Z rfl
    | 6, _ => exact head_value hI hT Eq2.tr FP.st 6 14 rfl rfl rfl rfl (x_nil (p := .tmp 13) (ad := ⟨gp, 0, none⟩) rfl (hI.known 5 13 (hd 5 (by kernel_rfl)) rfl)) Z rfl
    | 7, _ => exact head_value hI hT Eq2.tr FP.st 7 15 rfl rfl rfl rfl (x_fieldP (p := .tmp 14) (b := gp) rfl (hI.known 6 14 (hd 6 (by kernel_rfl)) rfl)) Z rfl
    | 8, _ => exact head_value hI hT Eq2.tr FP.st 8 16 rfl rfl rfl rfl (x_loadE (p := .tmp 15) (b := gp) (f := 0) rfl (hI.known 7 15 (hd 7 (by kernel_rfl)) rfl) pp') Z rfl
    | 9, _ => exact head_value hI hT Eq2.tr FP.st 9 17 rfl rfl rfl rfl (x_lenE (p := .tmp 16) (A := some ⟨gs, 0, none⟩) (n := r.length + 1) (c := cap) rfl (hI.known 8 16 (hd 8 (by kernel_rfl)) rfl)) Z rfl
    | 10, _ => exact head_value hI hT Eq2.tr FP.st 10 18 rfl rfl rfl rfl (x_sub1 (p := .tmp 17) (m := r.length) rfl hlr rfl (hI.known 9 17 (hd 9 (by kernel_rfl)) rfl)) Z rfl
    | 11, _ => exact head_value hI hT Eq2.tr FP.st 11 19 rfl rfl rfl rfl (x_sliceE (p := .tmp 12) (q := .tmp 18) (g := gs) (n := r.length + 1) (m := r.length) (c := cap) rfl (hI.known 4 12 (hd 4 (by kernel_rfl)) rfl) (hI.known 10 18 (hd 10 (by kernel_rfl)) rfl) (by omega) k2) Z rfl
    | (n + 12), h => exact absurd h (by omega)
  · intro x w' hL hb9 hk
    have ew : w' = WX.drew := hb9
    subst ew
    have k0 : x.eval (.tmp 8) = .pointer (some ⟨gp, 0, none⟩) := hk 0 8 (by decide) rfl
    have k11 : x.eval (.tmp 19) = .slice (some ⟨gs, 0, none⟩) r.length cap := hk 11 19 (by decide) rfl
    have hn : l0.length = 23 := by rw [HL0.out]; rfl
    have z20 : 20 < x.tmps.size := by rw [hL.size]; omega
    refine any_val 12 20 rfl rfl rfl (by kernel_rfl) (x_nil rfl k0) ?_
    have hL1 := hL.put 20 (.pointer (some ⟨gp, 0, none⟩)) (by decide) (by omega)
    refine any_val 13 21 rfl rfl rfl (by kernel_rfl) (x_fieldP rfl (put_same z20)) ?_
    have hL2 := hL1.put 21 (.pointer (some ⟨gp, 0, none⟩)) (by decide) (by omega)
    have k11' : ((x.put (some 20) (.pointer (some ⟨gp, 0, none⟩))).put (some 21) (.pointer (some ⟨gp, 0, none⟩))).eval (.tmp 19) = .slice (some ⟨gs, 0, none⟩) r.length cap := (put_other (by decide)).trans ((put_other (by decide)).trans k11)
    refine any_store 14 rfl rfl rfl (by kernel_rfl) (x_storeE rfl (hL2.eval 21 rfl) k11' pp pz) ?_
    refine wpAny_done (by kernel_rfl) ?_ _
    generalize (x.put (some 20) (.pointer (some ⟨gp, 0, none⟩))).put (some 21) (.pointer (some ⟨gp, 0, none⟩)) = x2 at hL2 ⊢
    obtain ⟨u9, rfl, _⟩ := hL2.lit
    rw [HL0.out, HDS.out]
    simp only [setAll, List.set_cons_zero, List.set_cons_succ]
    clear hk k0 k11 k11' hL hL1 hL2 hT HL0 HDS z20 hn
    have hne1 : gp ≠ w1.heap.size := by omega
    have hne2 : gp ≠ w.heap.size := by omega
    have r3 : (WX.drew.setCell ⟨gp, 0, none⟩ (.slice (some ⟨gs, 0, none⟩) r.length cap)).heap[w1.heap.size]? = some OE := (heap_set_ne hne1).trans q3
    have r2 : (WX.drew.setCell ⟨gp, 0, none⟩ (.slice (some ⟨gs, 0, none⟩) r.length cap)).heap[w.heap.size]? = some (Obj.cells #[Value.int .i64 0, .string ⟨#[]⟩, .int .i64 0, .slice none 0 0, .slice none 0 0] 67) := (heap_set_ne hne2).trans q2
    have rp : (WX.drew.setCell ⟨gp, 0, none⟩ (.slice (some ⟨gs, 0, none⟩) r.length cap)).heap[gp]? = some (.cells #[.slice (some ⟨gs, 0, none⟩) r.length cap] 70) := heap_set hpp
    have rk : ∀ g, g < w.heap.size → g ≠ gp → (WX.drew.setCell ⟨gp, 0, none⟩ (.slice (some ⟨gs, 0, none⟩) r.length cap)).heap[g]? = w.heap[g]? := fun g h1 h2 => (heap_set_ne (fun z => h2 z.symm)).trans (qk g h1)
    have rb : Below lo w (WX.drew.setCell ⟨gp, 0, none⟩ (.slice (some ⟨gs, 0, none⟩) r.length cap)) := (qb.mono H0.out.lolt).setCell H0.out.lg _
    clear q3 q2 qk qb pp pz hpp
    generalize WX.drew.setCell ⟨gp, 0, none⟩ (.slice (some ⟨gs, 0, none⟩) r.length cap) = W3 at r3 r2 rp rk rb ⊢
    clear H2 H1 H hb
    subst hOE
    have d0 : W3.cell? ⟨w1.heap.size, 0, none⟩ = some (Value.int .i64 e.kind) := cell_heap r3 rfl
    have d1 : W3.cell? ⟨w1.heap.size, 1, none⟩ = some (Value.string ⟨e.op.toArray⟩) := cell_heap r3 rfl
    have d2 : W3.cell? ⟨w1.heap.size, 2, none⟩ = some (Value.int .i64 e.tag) := cell_heap r3 rfl
    have d3 : W3.cell? ⟨w1.heap.size, 3, none⟩ = some (Value.slice An e.nodes.length cn) := cell_heap r3 rfl
    have d4 : W3.cell? ⟨w1.heap.size, 4, none⟩ = some (Value.slice Aa e.args.length ca) := cell_heap r3 rfl
    have o0 : W3.cell? ⟨w.heap.size, 0, none⟩ = some (Value.int .i64 0) := cell_heap r2 rfl
    have o1 : W3.cell? ⟨w.heap.size, 1, none⟩ = some (Value.string ⟨#[]⟩) := cell_heap r2 rfl
    have o2 : W3.cell? ⟨w.heap.size, 2, none⟩ = some (Value.int .i64 0) := cell_heap r2 rfl
    have o3 : W3.cell? ⟨w.heap.size, 3, none⟩ = some (Value.slice none 0 0) := cell_heap r2 rfl
    have o4 : W3.cell? ⟨w.heap.size, 4, none⟩ = some (Value.slice none 0 0) := cell_heap r2 rfl
    have y0 : W3.frozen? ⟨w.heap.size, 0, none⟩ = false := by simp [World.frozen?, r2]
    have y1 : W3.frozen? ⟨w.heap.size, 1, none⟩ = false := by simp [World.frozen?, r2]
    have y2 : W3.frozen? ⟨w.heap.size, 2, none⟩ = false := by simp [World.frozen?, r2]
    have y3 : W3.frozen? ⟨w.heap.size, 3, none⟩ = false := by simp [World.frozen?, r2]
    have y4 : W3.frozen? ⟨w.heap.size, 4, none⟩ = false := by simp [World.frozen?, r2]
    go_wp2_with fail
    clear d0 d1 d2 d3 d4 o0 o1 o2 o3 o4 y0 y1 y2 y3 y4
    have g9 : (((((W3.setCell ⟨w.heap.size, 0, none⟩ (.int .i64 e.kind)).setCell ⟨w.heap.size, 1, none⟩ (.string ⟨e.op.toArray⟩)).setCell ⟨w.heap.size, 2, none⟩ (.int .i64 e.tag)).setCell ⟨w.heap.size, 3, none⟩ (Value.slice An e.nodes.length cn)).setCell ⟨w.heap.size, 4, none⟩ (Value.slice Aa e.args.length ca)).heap[w.heap.size]? = some (.cells #[.int .i64 e.kind, .string ⟨e.op.toArray⟩, .int .i64 e.tag, Value.slice An e.nodes.length cn, Value.slice Aa e.args.length ca] 67) := heap_set (heap_set (heap_set (heap_set (heap_set r2))))
    have n9 : ∀ g : Nat, g ≠ w.heap.size → (((((W3.setCell ⟨w.heap.size, 0, none⟩ (.int .i64 e.kind)).setCell ⟨w.heap.size, 1, none⟩ (.string ⟨e.op.toArray⟩)).setCell ⟨w.heap.size, 2, none⟩ (.int .i64 e.tag)).setCell ⟨w.heap.size, 3, none⟩ (Value.slice An e.nodes.length cn)).setCell ⟨w.heap.size, 4, none⟩ (Value.slice Aa e.args.length ca)).heap[g]? = W3.heap[g]? := fun g hg => by
      rw [heap_set_ne (fun z => hg z.symm), heap_set_ne (fun z => hg z.symm), heap_set_ne (fun z => hg z.symm), heap_set_ne (fun z => hg z.symm), heap_set_ne (fun z => hg z.symm)]
    have b9 : Below lo w (((((W3.setCell ⟨w.heap.size, 0, none⟩ (.int .i64 e.kind)).setCell ⟨w.heap.size, 1, none⟩ (.string ⟨e.op.toArray⟩)).setCell ⟨w.heap.size, 2, none⟩ (.int .i64 e.tag)).setCell ⟨w.heap.size, 3, none⟩ (Value.slice An e.nodes.length cn)).setCell ⟨w.heap.size, 4, none⟩ (Value.slice Aa e.args.length ca)) := ((((rb.setCell H0.out.lolt _).setCell H0.out.lolt _).setCell H0.out.lolt _).setCell H0.out.lolt _).setCell H0.out.lolt _
    generalize ((((W3.setCell ⟨w.heap.size, 0, none⟩ (.int .i64 e.kind)).setCell ⟨w.heap.size, 1, none⟩ (.string ⟨e.op.toArray⟩)).setCell ⟨w.heap.size, 2, none⟩ (.int .i64 e.tag)).setCell ⟨w.heap.size, 3, none⟩ (Value.slice An e.nodes.length cn)).setCell ⟨w.heap.size, 4, none⟩ (Value.slice Aa e.args.length ca) = W4 at g9 n9 b9 ⊢
    have P := H0.out.pop hl b9 (fun g h1 h2 => (n9 g (by omega)).trans (rk g h1 h2)) ((n9 gp (by omega)).trans rp)
    have o0 : W4.cell? ⟨w.heap.size, 0, none⟩ = some (Value.int .i64 e.kind) := cell_heap g9 rfl
    have o1 : W4.cell? ⟨w.heap.size, 1, none⟩ = some (Value.string ⟨e.op.toArray⟩) := cell_heap g9 rfl
    have o2 : W4.cell? ⟨w.heap.size, 2, none⟩ = some (Value.int .i64 e.tag) := cell_heap g9 rfl
    have o3 : W4.cell? ⟨w.heap.size, 3, none⟩ = some (Value.slice An e.nodes.length cn) := cell_heap g9 rfl
    have o4 : W4.cell? ⟨w.heap.size, 4, none⟩ = some (Value.slice Aa e.args.length ca) := cell_heap g9 rfl
    exact bodyPost_ret (v := .agg #[.int .i64 e.kind, .string ⟨e.op.toArray⟩, .int .i64 e.tag, Value.slice An e.nodes.length cn, Value.slice Aa e.args.length ca]) (by simp [results, Tryz.results115, go_sem, o0, o1, o2, o3, o4]) rfl ⟨rfl, _, P⟩
/-- The contract of pop. -/
theorem pop_st (h : St lo gp w M (e :: r)) (hl : ph (e :: r) ≤ 4194304) : Calls Tryz.prog 115 #[.pointer (some ⟨gp, 0, none⟩)] w fun x w' => ∃ vn va M', x = .returned (.agg #[.int .i64 e.kind, .string ⟨e.op.toArray⟩, .int .i64 e.tag, vn, va]) ∧ St lo gp w' M' r ∧ Fr lo w M w' M' ∧ LX w' (Xm lo w' M') vn e.nodes ∧ AX w' (Xm lo w' M') va e.args := by
  obtain ⟨gs, cap, ys, vn, va, m1, m2, o⟩ := h.op
  exact (pop_any o hl).mono fun x w' ⟨h1, M', h2⟩ => ⟨vn, va, M', h1, h2⟩
end
end Go.Proofs.YtdojbnngdlmbgaaGreatDoor.Pa

namespace Go.Proofs.YtdojbnngdlmbgaaGreatDoor.Pa
open Go.RowKit Go.Proofs.YtdojbnngdlmbgaaGreatDoor.Tr
set_option linter.unusedVariables false

theorem infoE : (Tryz.prog.info? 67).map (fun i => (i.zero, i.size, i.bytes)) = some (some (.agg #[.int .i64 0, .string ⟨#[]⟩, .int .i64 0, .slice none 0 0, .slice none 0 0]), 5, 80) := by kernel_rfl
structure Sop (lo gp : Nat) (w : World) (M : List Nat) (st : List El) (gs cap : Nat) (xs : List Value) (m : List Nat) : Prop where
  hM : M = gp :: gs :: m
  nd : M.Nodup
  lg : lo ≤ gp
  hp : w.heap[gp]? = some (.cells #[.slice (some ⟨gs, 0, none⟩) st.length cap] 70)
  row : w.ownsRow lo 67 5 (.slice (some ⟨gs, 0, none⟩) st.length cap) st.length xs
  es : ES lo w (Xm lo w M) st xs m
section
variable {lo gp : Nat} {w w' w2 : World} {M : List Nat} {st : List El} {gs cap : Nat} {xs : List Value} {m : List Nat}
theorem St.so (h : St lo gp w M st) : ∃ gs cap xs m, Sop lo gp w M st gs cap xs m := by
  obtain ⟨gs, cap, xs, m, h1, h2, h3, h4, h5, h6⟩ := h
  exact ⟨gs, cap, xs, m, h1, h2, h3, h4, h5, h6⟩
theorem Sop.toSt (h : Sop lo gp w M st gs cap xs m) : St lo gp w M st := ⟨gs, cap, xs, m, h.hM, h.nd, h.lg, h.hp, h.row, h.es⟩
theorem Sop.keep (h : Sop lo gp w M st gs cap xs m) (hb : Below w.heap.size w w') : Sop lo gp w' M st gs cap xs m := by
  have hlt := h.toSt.lt
  have k : ∀ g, g < w.heap.size → w'.heap[g]? = w.heap[g]? := fun g hg => hb.block g hg
  exact ⟨h.hM, h.nd, h.lg, (k gp (hlt gp (by rw [h.hM]; simp)).2).trans h.hp, own_keep h.row (fun g hg => k g (own_lt h.row g hg).2), h.es.keep (fun g hg => ⟨hg.1, Nat.lt_of_lt_of_le hg.2.1 hb.size, hg.2.2⟩) (fun g hg => k g hg.2.1) (fun g hg => k g (h.es.lt g hg).2)⟩
/-- The stack with one element more. -/
theorem Sop.push (h : Sop lo gp w M st gs cap xs m) {e : El} (hn : e.nodes = []) (ha : e.args = []) {g' cap' : Nat} (hg : w.grownBy w2 (some gs)) (ho : gs = g' ∨ g' = w.heap.size) (hr : w2.ownsRow lo 67 5 (.slice (some ⟨g', 0, none⟩) (st.length + 1) cap') (st.length + 1) (xs ++ [.int .i64 e.kind, .string ⟨e.op.toArray⟩, .int .i64 e.tag, .slice none 0 0, .slice none 0 0])) :
    ∃ M', St lo gp (w2.setCell ⟨gp, 0, none⟩ (.slice (some ⟨g', 0, none⟩) (st.length + 1) cap')) M' (e :: st) ∧ Fr lo w M (w2.setCell ⟨gp, 0, none⟩ (.slice (some ⟨g', 0, none⟩) (st.length + 1) cap')) M' := by
  have hlt := h.toSt.lt
  have hM := h.hM
  have nd := h.nd
  rw [hM] at nd hlt
  simp only [List.nodup_cons, List.mem_cons, not_or] at nd
  obtain ⟨⟨a1, a2⟩, a3, a4⟩ := nd
  have lgs := hlt gs (by simp)
  have lgp := hlt gp (by simp)
  have hgne : g' ≠ gp := by
    rcases ho with q | q
    · subst q; exact fun z => a1 z.symm
    · omega
  have hk : ∀ g, g < w.heap.size → g ≠ gs → g ≠ gp → (w2.setCell ⟨gp, 0, none⟩ (.slice (some ⟨g', 0, none⟩) (st.length + 1) cap')).heap[g]? = w.heap[g]? := fun g h1 h2 h3 => (heap_set_ne (fun q => h3 q.symm)).trans (hg.block g h1 (fun q => h2 (Option.some.inj q)))
  have hms : ∀ g, g < w.heap.size → g ∉ M → g ∉ gp :: g' :: ([] ++ m) := fun g h1 h2 => by
    rw [hM] at h2
    simp only [List.mem_cons, List.nil_append, not_or] at h2 ⊢
    refine ⟨h2.1, ?_, h2.2.2⟩
    rcases ho with q | q
    · subst q; exact h2.2.1
    · omega
  have hsz : w.heap.size ≤ (w2.setCell ⟨gp, 0, none⟩ (.slice (some ⟨g', 0, none⟩) (st.length + 1) cap')).heap.size := by rw [World.size_setCell]; exact hg.size
  have hx : ∀ g, Xm lo w M g → Xm lo (w2.setCell ⟨gp, 0, none⟩ (.slice (some ⟨g', 0, none⟩) (st.length + 1) cap')) (gp :: g' :: ([] ++ m)) g := fun g q => ⟨q.1, Nat.lt_of_lt_of_le q.2.1 hsz, hms g q.2.1 q.2.2⟩
  have nM : ∀ g, g ∉ M → g ≠ gs ∧ g ≠ gp := fun g q => by
    rw [hM] at q
    simp only [List.mem_cons, not_or] at q
    exact ⟨q.2.1, q.1⟩
  have xk : ∀ g, Xm lo w M g → (w2.setCell ⟨gp, 0, none⟩ (.slice (some ⟨g', 0, none⟩) (st.length + 1) cap')).heap[g]? = w.heap[g]? := fun g q => hk g q.2.1 (nM g q.2.2).1 (nM g q.2.2).2
  have hp2 : w2.heap[gp]? = some (.cells #[.slice (some ⟨gs, 0, none⟩) st.length cap] 70) := (hg.block gp lgp.2 (fun q => a1 (Option.some.inj q))).trans h.hp
  refine ⟨gp :: g' :: ([] ++ m), ⟨g', cap', _, [] ++ m, rfl, ?_, h.lg, heap_set hp2, own_keep hr (fun g q => by cases q; exact heap_set_ne (fun z => hgne z.symm)), xs, _, m, [], rfl, h.es.keep hx xk (fun g q => hk g (h.es.lt g q).2 (fun z => a3 (by rw [← z]; exact q)) (fun z => a2 (by rw [← z]; exact q))), ⟨.slice none 0 0, .slice none 0 0, [], rfl, by rw [hn]; exact RN.nil _ _ _, .inl ⟨rfl, ha, rfl⟩, rfl⟩, rfl⟩, (Below.grownX hg (fun g q => by cases q; exact lgs.1) h.toSt.lolt).setCell h.lg _, fun g h1 h2 => hk g h1 (nM g h2).1 (nM g h2).2, hms⟩
  simp only [List.nil_append, List.nodup_cons, List.mem_cons, not_or]
  refine ⟨⟨fun z => hgne z.symm, a2⟩, ?_, a4⟩
  rcases ho with q | q
  · subst q; exact a3
  · intro z
    have := (h.es.lt g' z).2
    omega
end
/-- The world: W, then Wa once operation p is done, Wb once q is. -/
def M3 (W Wa Wb : World) (p q : Nat) (S : Nat → Bool) (_ : Act) (w : World) : Prop := (S q = true → S p = true) ∧ w = if S q then Wb else if S p then Wa else W
theorem M3.skip {W Wa Wb : World} {p q i : Nat} {S : Nat → Bool} {x y : Act} {w : World} (h : M3 W Wa Wb p q S x w) (hp : p ≠ i) (hq : q ≠ i) : M3 W Wa Wb p q (upd S i) y w := by
  unfold M3 upd at *
  rw [if_neg hp, if_neg hq]; exact h
theorem M3.or {W Wa Wb : World} {p q : Nat} {S : Nat → Bool} {x : Act} {w : World} (h : M3 W Wa Wb p q S x w) : w = W ∨ w = Wa ∨ w = Wb := by
  obtain ⟨_, h⟩ := h
  split at h
  · exact .inr (.inr h)
  · split at h
    · exact .inr (.inl h)
    · exact .inl h
theorem M3.at_p {W Wa Wb : World} {p q : Nat} {S : Nat → Bool} {x : Act} {w : World} (h : M3 W Wa Wb p q S x w) (hS : S p = false) : w = W := by
  obtain ⟨h1, h⟩ := h
  have : S q = false := by
    cases hq : S q with
    | false => rfl
    | true => rw [h1 hq] at hS; cases hS
  rw [this, hS] at h; exact h
theorem M3.at_q {W Wa Wb : World} {p q : Nat} {S : Nat → Bool} {x : Act} {w : World} (h : M3 W Wa Wb p q S x w) (hp : S p = true) (hS : S q = false) : w = Wa := by
  obtain ⟨h1, h⟩ := h
  rw [hS, hp] at h; exact h
theorem M3.did_p {W Wa Wb : World} {p q : Nat} {S : Nat → Bool} {x y : Act} {w : World} (h : M3 W Wa Wb p q S x w) (hS : S p = false) (hpq : q ≠ p) : M3 W Wa Wb p q (upd S p) y Wa := by
  obtain ⟨h1, _⟩ := h
  have : S q = false := by
    cases hq : S q with
    | false => rfl
    | true => rw [h1 hq] at hS; cases hS
  unfold M3 upd
  rw [if_neg hpq, this]; simp
theorem M3.did_q {W Wa Wb : World} {p q : Nat} {S : Nat → Bool} {y : Act} (hp : S p = true) (hpq : p ≠ q) : M3 W Wa Wb p q (upd S q) y Wb := by
  unfold M3 upd
  rw [if_neg hpq, hp]; simp
def Rt (_ _ : World) : Prop := True
theorem Rt.tr : ∀ x y z, Rt x y → Rt y z → Rt x z := fun _ _ _ _ _ => trivial
section
variable {E : Operand → Value} {o : Oper} {W : World}
theorem x_loadEl {p : Operand} (ho : o.op = Op.load 67 p) {g : Nat} {k t : Int} {s : ByteArray} {A A' : Option Addr} {n c n' c' : Nat} {T : TypeId} (hp : E p = .pointer (some ⟨g, 0, none⟩)) (hc : W.heap[g]? = some (.cells #[.int .i64 k, .string s, .int .i64 t, .slice A n c, .slice A' n' c'] T)) : (execOp E o).run Tryz.prog W = .ok (.value (.agg #[.int .i64 k, .string s, .int .i64 t, .slice A n c, .slice A' n' c'])) W := by
  have c0 : W.cell? ⟨g, 0, none⟩ = some (.int .i64 k) := cell_heap hc rfl
  have c1 : W.cell? ⟨g, 1, none⟩ = some (.string s) := cell_heap hc rfl
  have c2 : W.cell? ⟨g, 2, none⟩ = some (.int .i64 t) := cell_heap hc rfl
  have c3 : W.cell? ⟨g, 3, none⟩ = some (.slice A n c) := cell_heap hc rfl
  have c4 : W.cell? ⟨g, 4, none⟩ = some (.slice A' n' c') := cell_heap hc rfl
  clear hc
  unfold execOp
  rw [ho]
  go_simp
theorem x_bsE {x : Operand} (ho : o.op = Op.buildSlice 68 1 #[(0, x)]) {k t : Int} {s : ByteArray} {A A' : Option Addr} {n n' c c' : Nat} (hx : E x = .agg #[.int .i64 k, .string s, .int .i64 t, .slice A n c, .slice A' n' c']) : (execOp E o).run Tryz.prog W = .ok (.value (.slice (some ⟨W.heap.size, 0, none⟩) 1 1)) (W.alloc (.cells #[.int .i64 k, .string s, .int .i64 t, .slice A n c, .slice A' n' c'] 67)) := by
  unfold execOp
  rw [ho]
  go_simp
end
def FU (pp vs ve vb v' : Value) : Nat → Value → World → Prop
  | 0, v, _ => v = pp
  | 1, v, _ => v = pp
  | 2, v, _ => v = pp
  | 3, v, _ => v = pp
  | 4, v, _ => v = vs
  | 5, v, _ => v = ve
  | 6, v, _ => v = vb
  | _, v, _ => v = v'
theorem FU.st {pp vs ve vb v' : Value} : ∀ i v w w', FU pp vs ve vb v' i v w → Rt w w' → FU pp vs ve vb v' i v w' := by
  intro i v w w' h _
  unfold FU at h ⊢
  split <;> simp only at h ⊢ <;> exact h
section
variable {lo gp : Nat} {w w' : World} {M : List Nat} {st : List El}
set_option maxRecDepth 100000 in
set_option maxHeartbeats 4000000 in
theorem push_any (h : St lo gp w M st) (hne : st ≠ []) (e : El) (hn : e.nodes = []) (ha : e.args = []) (hl : ph st ≤ 4194304) (hs : e.op.length ≤ 1048576) (hst : st.length ≤ 1000) :
    Calls Tryz.prog 62 #[.pointer (some ⟨gp, 0, none⟩), .agg #[.int .i64 e.kind, .string ⟨e.op.toArray⟩, .int .i64 e.tag, .slice none 0 0, .slice none 0 0]] w fun x w' => x = .returned (.tuple #[]) ∧ ∃ M', St lo gp w' M' (push st e) ∧ Fr lo w M w' M' := by
  obtain ⟨OE, hOE⟩ : ∃ O, Obj.cells #[Value.int .i64 e.kind, .string ⟨e.op.toArray⟩, .int .i64 e.tag, .slice none 0 0, .slice none 0 0] 67 = O := ⟨_, rfl⟩
  have b0 : Below w.heap.size w (w.alloc OE) := (Below.refl _ _).alloc (Nat.le_refl _) _
  have F0 := Lib.hid (h.keep b0).2
  obtain ⟨gs, cap, xs, m, hso⟩ := h.so
  have H := Lib.hid (hso.keep b0)
  have hgw : gs ≠ w.heap.size := by
    have := (hso.toSt.lt gs (by rw [hso.hM]; simp)).2
    omega
  have hE : (w.alloc OE).heap[w.heap.size]? = some OE := heap_alloc_new w OE
  have p0 : (w.alloc OE).cell? ⟨gp, 0, none⟩ = some (.slice (some ⟨gs, 0, none⟩) st.length cap) := cell_heap H.out.hp rfl
  have e1 : (w.alloc OE).cell? ⟨w.heap.size, 1, none⟩ = some (.string ⟨e.op.toArray⟩) := by rw [← hOE] at hE; exact cell_heap (by rw [← hOE]; exact hE) rfl
  clear h hso b0
  generalize hWA : w.alloc OE = WA at *
  go_enter Tryz.func62, Tryz.ntmps62
  by_cases h20 : 20 < st.length
  · have hd : decide (st.length > 20) = true := by simpa using h20
    go_wp2_with fail
    refine (appendText_any H.out.toSt hne e.op hl (by omega)).mono ?_
    rintro x w1 ⟨rfl, M', h1, h2⟩
    have R := Lib.hid (And.intro h1 (F0.out.trans h2))
    clear h1 h2 F0 H p0 e1 hE
    go_wp2_with fail
    refine bodyPost_ret (results_none rfl _ _ _) rfl ?_
    exact ⟨rfl, M', by unfold push; rw [if_pos h20]; exact R.out.1, R.out.2⟩
  · go_wp2_with fail
    have bA : Below WA.heap.size WA (WA.drew.alloc OE) := ((Below.refl _ _).drew).alloc (Nat.le_refl _) _
    have b1 : Below WA.heap.size WA WA.drew := (Below.refl _ _).drew
    have H2 := Lib.hid (H.out.keep bA)
    have F2 := Lib.hid (F0.out.trans (H.out.toSt.keep bA).2)
    have hbx : (WA.drew.alloc OE).heap[WA.heap.size]? = some OE := heap_alloc_new WA.drew OE
    have hE2 : (WA.drew.alloc OE).heap[w.heap.size]? = some OE := (bA.block _ (Array.getElem?_eq_some_iff.1 hE).1).trans hE
    obtain ⟨i0, hi, hz0, hz1, hz2⟩ := info_parts infoE
    obtain ⟨g', cap', w2, r1, r2, r3, r4, r5⟩ := run_append_lies (P := Tryz.prog) (WA.drew.alloc OE) 68 68 lo 67 i0 _ 5 80 Tryz.underlying68 hi hz0 hz1 hz2 rfl (by omega) _ st.length xs H2.out.row ⟨WA.heap.size, 0, none⟩ 1 1 [.int .i64 e.kind, .string ⟨e.op.toArray⟩, .int .i64 e.tag, .slice none 0 0, .slice none 0 0] rfl
      (World.news_of_block (cs := #[.int .i64 e.kind, .string ⟨e.op.toArray⟩, .int .i64 e.tag, .slice none 0 0, .slice none 0 0]) (by rw [hOE]; exact hbx)) (by intro u hu; simp only [List.mem_cons, List.not_mem_nil, or_false] at hu; rcases hu with rfl | rfl | rfl | rfl | rfl <;> rfl) (by omega) (by simp only [maxLen]; omega) (by omega) H2.out.toSt.lolt _ rfl
    have ho : gs = g' ∨ g' = (WA.drew.alloc OE).heap.size := by
      rcases r4 with q | q
      · exact .inl (Option.some.inj q)
      · exact .inr q
    have hgb : (WA.drew.alloc OE).grownBy w2 (some gs) := r3
    have R := Lib.hid (H2.out.push hn ha hgb ho r2)
    have nd := H2.out.nd
    rw [H2.out.hM] at nd
    simp only [List.nodup_cons, List.mem_cons, not_or] at nd
    have lgp := (H2.out.toSt.lt gp (by rw [H2.out.hM]; simp)).2
    have hp2 : w2.heap[gp]? = (WA.drew.alloc OE).heap[gp]? := hgb.block gp lgp (fun q => nd.1.1 (Option.some.inj q))
    have hE3 : w2.heap[w.heap.size]? = some OE := (hgb.block _ (Array.getElem?_eq_some_iff.1 hE2).1 (fun q => hgw (Option.some.inj q).symm)).trans hE2
    have pA : (WA.drew.alloc OE).cell? ⟨gp, 0, none⟩ = some (.slice (some ⟨gs, 0, none⟩) st.length cap) := cell_heap H2.out.hp rfl
    have pB : w2.cell? ⟨gp, 0, none⟩ = some (.slice (some ⟨gs, 0, none⟩) st.length cap) := (World.cell?_of_block hp2).trans pA
    have zB : w2.frozen? ⟨gp, 0, none⟩ = false := by simp [World.frozen?, hp2, H2.out.hp]
    have pp : ∀ y, y = WA.drew ∨ y = WA.drew.alloc OE ∨ y = w2 → y.cell? ⟨gp, 0, none⟩ = some (.slice (some ⟨gs, 0, none⟩) st.length cap) := by
      rintro y (rfl | rfl | rfl)
      · exact p0
      · exact pA
      · exact pB
    have pe : ∀ y, y = WA.drew ∨ y = WA.drew.alloc OE ∨ y = w2 → y.heap[w.heap.size]? = some (Obj.cells #[Value.int .i64 e.kind, .string ⟨e.op.toArray⟩, .int .i64 e.tag, .slice none 0 0, .slice none 0 0] 67) := by
      rw [hOE]
      rintro y (rfl | rfl | rfl)
      · exact hE
      · exact hE2
      · exact hE3
    have hpu : push st e = e :: st := by unfold push; rw [if_neg h20]
    have HP := Lib.hid hpu
    clear H2 r2 r3 r4 r5 hgb nd lgp hp2 hE2 hE3 pA bA b1 hz0 hz1 hz2 hi p0 e1 hE F0 H hbx hpu
    refine region_ki2 (M3 WA.drew (WA.drew.alloc OE) w2 6 7) ⟨(fun q => by cases q), rfl⟩ Rt trivial [14, 15, 16, 17, 18, 19, 20, 21] [14, 15, 16, 17, 18, 19, 20, 21, 22, 23] [(0, .pointer (some ⟨gp, 0, none⟩)), (3, .pointer (some ⟨w.heap.size, 0, none⟩))]
      (FU (.pointer (some ⟨gp, 0, none⟩)) (.slice (some ⟨gs, 0, none⟩) st.length cap) (.agg #[.int .i64 e.kind, .string ⟨e.op.toArray⟩, .int .i64 e.tag, .slice none 0 0, .slice none 0 0]) (.slice (some ⟨WA.heap.size, 0, none⟩) 1 1) (.slice (some ⟨g', 0, none⟩) (st.length + 1) cap'))
      (by kernel_rfl) (n := 8) (by kernel_rfl) (by kernel_rfl) (fun j v hj => start2 hj rfl rfl) ?_
    intro l0 ds hl0 hds hT
    have HL0 := Lib.hid hl0; have HDS := Lib.hid hds; clear hl0 hds
    refine ⟨?_, ?_⟩
    · intro i hi S x w' hI hM hd hS
      match i, hi with
      | 0, _ => exact head_value2 hI hT Rt.tr FU.st 0 14 rfl rfl rfl rfl (x_move rfl (hI.lt.eval 0 rfl)) trivial rfl (hM.skip (by decide) (by decide))
      | 1, _ => exact head_value2 hI hT Rt.tr FU.st 1 15 rfl rfl rfl rfl (x_move rfl (hI.lt.eval 0 rfl)) trivial rfl (hM.skip (by decide) (by decide))
      | 2, _ => exact head_value2 hI hT Rt.tr FU.st 2 16 rfl rfl rfl rfl (x_nil (p := .tmp 15) (ad := ⟨gp, 0, none⟩) rfl (hI.known 1 15 (hd 1 (by kernel_rfl)) rfl)) trivial rfl (hM.skip (by decide) (by decide))
      | 3, _ => exact head_value2 hI hT Rt.tr FU.st 3 17 rfl rfl rfl rfl (x_fieldP (p := .tmp 16) (b := gp) rfl (hI.known 2 16 (hd 2 (by kernel_rfl)) rfl)) trivial rfl (hM.skip (by decide) (by decide))
      | 4, _ => exact head_value2 hI hT Rt.tr FU.st 4 18 rfl rfl rfl rfl (x_loadE (p := .tmp 17) (b := gp) (f := 0) rfl (hI.known 3 17 (hd 3 (by kernel_rfl)) rfl) (pp _ hM.or)) trivial rfl (hM.skip (by decide) (by decide))
      | 5, _ => exact head_value2 hI hT Rt.tr FU.st 5 19 rfl rfl rfl rfl (x_loadEl (p := .tmp 3) rfl (hI.lt.eval 3 rfl) (pe _ hM.or)) trivial rfl (hM.skip (by decide) (by decide))
      | 6, _ =>
        have e0 := hM.at_p hS
        subst e0
        have k5 : x.eval (.tmp 19) = .agg #[.int .i64 e.kind, .string ⟨e.op.toArray⟩, .int .i64 e.tag, .slice none 0 0, .slice none 0 0] := hI.known 5 19 (hd 5 (by kernel_rfl)) rfl
        exact head_value2 hI hT Rt.tr FU.st 6 20 rfl rfl rfl rfl ((x_bsE rfl k5).trans (by rw [hOE]; rfl)) trivial rfl (hM.did_p hS (by decide))
      | 7, _ =>
        have h6 := hd 6 (by kernel_rfl)
        have e0 := hM.at_q h6 hS
        subst e0
        have k4 : x.eval (.tmp 18) = .slice (some ⟨gs, 0, none⟩) st.length cap := hI.known 4 18 (hd 4 (by kernel_rfl)) rfl
        have k6 : x.eval (.tmp 20) = .slice (some ⟨WA.heap.size, 0, none⟩) 1 1 := hI.known 6 20 h6 rfl
        exact head_value2 hI hT Rt.tr FU.st 7 21 rfl rfl rfl rfl (x_append rfl rfl k4 k6 r1) trivial rfl (M3.did_q h6 (by decide))
      | (n + 8), h => exact absurd h (by omega)
    · intro S x w' hL _ hk hM hS
      have k0 : x.eval (.tmp 14) = .pointer (some ⟨gp, 0, none⟩) := hk 0 14 (by decide) rfl
      have k7 : x.eval (.tmp 21) = .slice (some ⟨g', 0, none⟩) (st.length + 1) cap' := hk 7 21 (by decide) rfl
      have ew : w' = w2 := by
        have q := hM.2
        rw [hS 7 (by decide)] at q
        exact q
      subst ew
      have hn24 : l0.length = 24 := by rw [HL0.out]; rfl
      have z22 : 22 < x.tmps.size := by rw [hL.size]; omega
      refine any_val 8 22 rfl rfl rfl (by kernel_rfl) (x_nil rfl k0) ?_
      have hL1 := hL.put 22 (.pointer (some ⟨gp, 0, none⟩)) (by decide) (by omega)
      refine any_val 9 23 rfl rfl rfl (by kernel_rfl) (x_fieldP rfl (put_same z22)) ?_
      have hL2 := hL1.put 23 (.pointer (some ⟨gp, 0, none⟩)) (by decide) (by omega)
      have k7' : ((x.put (some 22) (.pointer (some ⟨gp, 0, none⟩))).put (some 23) (.pointer (some ⟨gp, 0, none⟩))).eval (.tmp 21) = .slice (some ⟨g', 0, none⟩) (st.length + 1) cap' := (put_other (by decide)).trans ((put_other (by decide)).trans k7)
      refine any_store 10 rfl rfl rfl (by kernel_rfl) (x_storeE rfl (hL2.eval 23 rfl) k7' pB zB) ?_
      refine wpAny_done (by kernel_rfl) ?_ _
      generalize (x.put (some 22) (.pointer (some ⟨gp, 0, none⟩))).put (some 23) (.pointer (some ⟨gp, 0, none⟩)) = x2 at hL2 ⊢
      obtain ⟨u9, rfl, _⟩ := hL2.lit
      rw [HL0.out, HDS.out]
      simp only [setAll, List.set_cons_zero, List.set_cons_succ]
      clear hk k0 k7 k7' hL hL1 hL2 hT HL0 HDS z22 hn24 pp pe pB zB r1
      go_wp2_with fail
      go_end0
      obtain ⟨M', h1, h2⟩ := R.out
      exact ⟨rfl, M', by rw [HP.out]; exact h1, F2.out.trans h2⟩
end
end Go.Proofs.YtdojbnngdlmbgaaGreatDoor.Pa

namespace Go.Proofs.YtdojbnngdlmbgaaGreatDoor.Pa
open Go.RowKit Go.Proofs.YtdojbnngdlmbgaaGreatDoor.Tr
set_option linter.unusedVariables false

theorem addA_addA : ∀ (l : List Ar) (a b : List Nd), addA (addA l a) b = addA l (a ++ b)
  | [], _, _ => rfl
  | [x], a, b => by cases x with | mk n m v => simp [addA, Ar.named, Ar.name, Ar.value]
  | x :: y :: r, a, b => by
    have ih := addA_addA (y :: r) a b
    rw [addA, addA, ← ih]
    cases h : addA (y :: r) a with
    | nil =>
      have : (addA (y :: r) a).length = (y :: r).length := by
        clear ih h
        generalize hq : y :: r = q
        clear hq
        induction q with
        | nil => rfl
        | cons z q ih => cases q with
          | nil => rfl
          | cons u q => rw [addA, List.length_cons, ih]; rfl
      rw [h] at this; cases this
    | cons z q => rfl
theorem addE_addE (e : El) (a b : List Nd) : addE (addE e a) b = addE e (a ++ b) := by
  unfold addE
  cases h : e.args with
  | nil => simp
  | cons x r =>
    have h1 : (addA (x :: r) a).isEmpty = false := by
      cases r with
      | nil => rfl
      | cons y r => rfl
    simp [h1, addA_addA]
theorem addN_addN : ∀ (st : List El) (a b : List Nd), addN (addN st a) b = addN st (a ++ b)
  | [], _, _ => rfl
  | e :: r, a, b => by rw [addN, addN, addN, addE_addE]
theorem addN_ne {st : List El} (h : st ≠ []) (l : List Nd) : addN st l ≠ [] := by
  cases st with
  | nil => exact absurd rfl h
  | cons e r => simp [addN]
theorem flat_take {l : List Ar} {k : Nat} (h : k < l.length) : (l.take (k + 1)).flatMap flatA = (l.take k).flatMap flatA ++ flatA l[k] := by
  rw [List.take_succ_eq_append_getElem h, List.flatMap_append]; simp
/-- Every part of what an element stands for fits below it. -/
theorem ph_pre {e : El} {r : List El} (hl : ph (e :: r) ≤ 4194304) {l q : List Nd} (h : l ++ q = flatE e) : ph (addN r l) ≤ 4194304 := by
  have h1 := ph_addN_le r l
  have h2 := sz_flatE e
  rw [← h, sz_append] at h2
  rw [ph] at hl
  omega
theorem flatE_k (e : El) (k : Nat) : (tx e.op :: (e.nodes ++ (e.args.take k).flatMap flatA)) ++ (e.args.drop k).flatMap flatA = flatE e := by
  unfold flatE
  rw [List.cons_append, List.append_assoc, ← List.flatMap_append, List.take_append_drop]
section
variable {lo gp : Nat} {w w' : World} {M : List Nat} {e : El} {r : List El}
set_option maxRecDepth 100000 in
set_option maxHeartbeats 8000000 in
theorem flatten_any (h : St lo gp w M (e :: r)) (hr : r ≠ []) (hl : ph (e :: r) ≤ 4194304) : Calls Tryz.prog 69 #[.pointer (some ⟨gp, 0, none⟩)] w fun x w' => x = .returned (.tuple #[]) ∧ ∃ M', St lo gp w' M' (flatten (e :: r)) ∧ Fr lo w M w' M' := by
  have hop : e.op.length ≤ 4194304 := by rw [ph, phE] at hl; omega
  go_enter Tryz.func69, Tryz.ntmps69
  go_wp2_with fail
  refine (pop_st h hl).mono ?_
  rintro x w1 ⟨vn, va, M1, rfl, s1, f1, n1, a1⟩
  obtain ⟨An, cn, rfl⟩ := n1.form
  obtain ⟨Aa, ca, rfl⟩ := a1.form
  obtain ⟨OE, hOE⟩ : ∃ O, Obj.cells #[Value.int .i64 e.kind, .string ⟨e.op.toArray⟩, .int .i64 e.tag, Value.slice An e.nodes.length cn, Value.slice Aa e.args.length ca] 67 = O := ⟨_, rfl⟩
  have Fz := Lib.hid (s1.fresh OE)
  have hbE : (w1.alloc OE).heap[w1.heap.size]? = some OE := heap_alloc_new w1 OE
  have e1 : (w1.alloc OE).cell? ⟨w1.heap.size, 1, none⟩ = some (.string ⟨e.op.toArray⟩) := cell_heap (by rw [hbE, ← hOE]) rfl
  have N1 := Lib.hid (Fz.out.2.1.lx n1)
  have A1 := Lib.hid (Fz.out.2.1.ax a1)
  have S1 := Lib.hid (And.intro h (And.intro f1 s1))
  clear h f1 s1 n1 a1
  generalize hwx : w1.alloc OE = wx at *
  go_wp2_with fail
  refine (appendText_any Fz.out.1 hr e.op (by rw [ph] at hl; omega) (by omega)).mono ?_
  rintro x w2 ⟨rfl, M2, s2, f2⟩
  have hbE2 : w2.heap[w1.heap.size]? = some OE := (f2.kp _ Fz.out.2.2.2.1 Fz.out.2.2.2.2).trans hbE
  have e3 : w2.cell? ⟨w1.heap.size, 3, none⟩ = some (Value.slice An e.nodes.length cn) := cell_heap (by rw [hbE2, ← hOE]) rfl
  have N2 := Lib.hid (f2.lx N1.out)
  have T2 := Lib.hid (And.intro s2 f2)
  have hp2 : ph (addT r e.op) ≤ 4194304 := ph_pre hl (l := [tx e.op]) (q := e.nodes ++ e.args.flatMap flatA) rfl
  clear s2 f2 hbE2 e1
  go_wp2_with fail
  refine (appendNodes_any T2.out.1 (addN_ne hr _) N2.out hp2).mono ?_
  rintro x w3 ⟨rfl, M3, s3, f3⟩
  have T3 := Lib.hid (And.intro s3 (T2.out.2.trans f3))
  have hbE3 : w3.heap[w1.heap.size]? = some OE := (T3.out.2.kp _ Fz.out.2.2.2.1 Fz.out.2.2.2.2).trans hbE
  have e4 : w3.cell? ⟨w1.heap.size, 4, none⟩ = some (Value.slice Aa e.args.length ca) := cell_heap (by rw [hbE3, ← hOE]) rfl
  have J0 : Hid (∃ Mr, St lo gp w3 Mr (addN r (tx e.op :: (e.nodes ++ (e.args.take 0).flatMap flatA))) ∧ Fr lo wx M1 w3 Mr) := Lib.hid ⟨M3, by
    have := T3.out.1
    rw [addT, addN_addN] at this
    simpa using this, T3.out.2⟩
  have hlen : e.args.length ≤ 4194304 := by have := len_ph e.args; rw [ph, phE] at hl; omega
  clear s3 f3 hbE3 e3 T2 N2 N1
  go_wp2_with fail
  clear e4
  go_loopw [18] (fun i wr => ∃ k : Nat, k ≤ e.args.length ∧ i = .int .i64 k ∧ Hid (∃ Mr, St lo gp wr Mr (addN r (tx e.op :: (e.nodes ++ (e.args.take k).flatMap flatA))) ∧ Fr lo wx M1 wr Mr)) (fun i _ => e.args.length - (intOf i).toNat)
  case atStart => exact ⟨0, Nat.zero_le _, rfl, J0⟩
  case round =>
    obtain ⟨k, hk, rfl, hS⟩ := hrel
    by_cases hlt : k < e.args.length
    · obtain ⟨Mr, s4, f4⟩ := hS.out
      have A4 := f4.ax A1.out
      obtain ⟨g, o, c, un, uv, hv, hc1, hc2, hX, q0, q1, q2, ln, lv⟩ := A4.at hlt
      cases hv
      obtain ⟨Au, cu, rfl⟩ := ln.form
      obtain ⟨Aw, cw, rfl⟩ := lv.form
      have hpk : ph (addN r (tx e.op :: (e.nodes ++ (e.args.take k).flatMap flatA))) ≤ 4194304 := ph_pre hl (flatE_k e k)
      have HT := Lib.hid (flat_take hlt)
      have hpk2 := Lib.hid (flatE_k e (k + 1))
      rw [HT.out] at hpk2
      have HL := Lib.hid hl
      generalize hL0 : (tx e.op :: (e.nodes ++ (e.args.take k).flatMap flatA)) = L0 at *
      have hL1 : (tx e.op :: (e.nodes ++ ((e.args.take k).flatMap flatA ++ flatA e.args[k]))) = L0 ++ flatA e.args[k] := by rw [← hL0]; simp
      rw [hL1] at hpk2
      obtain ⟨OA, hOA⟩ : ∃ O, Obj.cells #[Value.bool e.args[k].named, Value.slice Au e.args[k].name.length cu, Value.slice Aw e.args[k].value.length cw] 59 = O := ⟨_, rfl⟩
      have F5 := Lib.hid (s4.fresh OA)
      have hbA : (wr.alloc OA).heap[wr.heap.size]? = some OA := heap_alloc_new wr OA
      have LN := Lib.hid (And.intro (F5.out.2.1.lx ln) (F5.out.2.1.lx lv))
      have S4 := Lib.hid (f4.trans F5.out.2.1)
      clear s4 f4 A4 ln lv hX
      have hP : ∀ P Q : List Nd, P ++ Q = L0 ++ flatA e.args[k] → ph (addN r P) ≤ 4194304 := fun P Q q => ph_pre HL.out (l := P) (q := Q ++ (e.args.drop (k + 1)).flatMap flatA) (by rw [← List.append_assoc, q]; exact hpk2.out)
      have HP := Lib.hid hP
      clear hP hpk2 hL1
      generalize e.args[k] = ar at *
      obtain ⟨nm, na, vl⟩ := ar
      simp only [Ar.named, Ar.name, Ar.value] at *
      go_wp2_with fail
      refine (appendText_any F5.out.1 (addN_ne hr _) [124] hpk (by simp)).mono ?_
      rintro x w5 ⟨rfl, M5, s5, f5⟩
      rw [addT, addN_addN] at s5
      have k5 : w5.heap[wr.heap.size]? = some OA := (f5.kp _ F5.out.2.2.2.1 F5.out.2.2.2.2).trans hbA
      have T5 := Lib.hid (And.intro s5 f5)
      have p5 : ph (addN r (L0 ++ [tx [124]])) ≤ 4194304 := HP.out _ ((if nm then na ++ [tx [61]] else []) ++ vl) (by cases nm <;> simp [flatA, Ar.named, Ar.name, Ar.value])
      have c50 : w5.cell? ⟨wr.heap.size, 0, none⟩ = some (Value.bool nm) := cell_heap (by rw [k5, ← hOA]) rfl
      have c51 : w5.cell? ⟨wr.heap.size, 1, none⟩ = some (Value.slice Au na.length cu) := cell_heap (by rw [k5, ← hOA]) rfl
      have c52 : w5.cell? ⟨wr.heap.size, 2, none⟩ = some (Value.slice Aw vl.length cw) := cell_heap (by rw [k5, ← hOA]) rfl
      have L5 := Lib.hid (And.intro (f5.lx LN.out.1) (f5.lx LN.out.2))
      clear s5 f5 k5
      cases nm with
      | false =>
        go_wp2_with fail
        refine (appendNodes_any T5.out.1 (addN_ne hr _) L5.out.2 p5).mono ?_
        rintro x w6 ⟨rfl, M6, s6, f6⟩
        rw [addN_addN] at s6
        have T6 : Hid (∃ Mr, St lo gp w6 Mr (addN r (tx e.op :: (e.nodes ++ (e.args.take (k + 1)).flatMap flatA))) ∧ Fr lo wx M1 w6 Mr) := Lib.hid ⟨M6, by
          rw [HT.out, show (tx e.op :: (e.nodes ++ ((e.args.take k).flatMap flatA ++ flatA (.mk false na vl)))) = L0 ++ [tx [124]] ++ vl by rw [← hL0]; simp [flatA, Ar.named, Ar.value]]
          exact s6, S4.out.trans (T5.out.2.trans f6)⟩
        clear s6 f6 c50 c51 c52
        go_wp2_with fail
        go_roundw
        case rel => exact ⟨k + 1, by omega, by go_num, T6⟩
        case measure => exact meas hlt
      | true =>
        go_wp2_with fail
        refine (appendNodes_any T5.out.1 (addN_ne hr _) L5.out.1 p5).mono ?_
        rintro x w6 ⟨rfl, M6, s6, f6⟩
        rw [addN_addN] at s6
        have T6 := Lib.hid (And.intro s6 (T5.out.2.trans f6))
        have L6 := Lib.hid (f6.lx L5.out.2)
        have p6 : ph (addN r (L0 ++ [tx [124]] ++ na)) ≤ 4194304 := HP.out _ ([tx [61]] ++ vl) (by simp [flatA, Ar.named, Ar.name, Ar.value])
        clear s6 f6 c50 c51 c52
        go_wp2_with fail
        refine (appendText_any T6.out.1 (addN_ne hr _) [61] p6 (by simp)).mono ?_
        rintro x w7 ⟨rfl, M7, s7, f7⟩
        rw [addT, addN_addN] at s7
        have T7 := Lib.hid (And.intro s7 (T6.out.2.trans f7))
        have k7 : w7.heap[wr.heap.size]? = some OA := (T7.out.2.kp _ F5.out.2.2.2.1 F5.out.2.2.2.2).trans hbA
        have c72 : w7.cell? ⟨wr.heap.size, 2, none⟩ = some (Value.slice Aw vl.length cw) := cell_heap (by rw [k7, ← hOA]) rfl
        have L7 := Lib.hid (f7.lx L6.out)
        have p7 : ph (addN r (L0 ++ [tx [124]] ++ na ++ [tx [61]])) ≤ 4194304 := HP.out _ vl (by simp [flatA, Ar.named, Ar.name, Ar.value])
        clear s7 f7 k7
        go_wp2_with fail
        refine (appendNodes_any T7.out.1 (addN_ne hr _) L7.out p7).mono ?_
        rintro x w8 ⟨rfl, M8, s8, f8⟩
        rw [addN_addN] at s8
        have T8 : Hid (∃ Mr, St lo gp w8 Mr (addN r (tx e.op :: (e.nodes ++ (e.args.take (k + 1)).flatMap flatA))) ∧ Fr lo wx M1 w8 Mr) := Lib.hid ⟨M8, by
          rw [HT.out, show (tx e.op :: (e.nodes ++ ((e.args.take k).flatMap flatA ++ flatA (.mk true na vl)))) = L0 ++ [tx [124]] ++ na ++ [tx [61]] ++ vl by rw [← hL0]; simp [flatA, Ar.named, Ar.name, Ar.value]]
          exact s8, S4.out.trans (T7.out.2.trans f8)⟩
        clear s8 f8 c72
        go_wp2_with fail
        go_roundw
        case rel => exact ⟨k + 1, by omega, by go_num, T8⟩
        case measure => exact meas hlt
    · have ek : k = e.args.length := by omega
      subst ek
      go_wp2_with fail
      go_end0
      obtain ⟨Mr, s9, f9⟩ := hS.out
      rw [List.take_length] at s9
      exact ⟨rfl, Mr, s9, S1.out.2.1.trans (Fz.out.2.1.trans f9)⟩
end
theorem flats_succ : ∀ (j : Nat) (st : List El), flatten (flats j st) = flats (j + 1) st
  | 0, st => rfl
  | j + 1, st => by rw [flats, flats_succ j (flatten st)]; rfl
theorem flats_len : ∀ (j : Nat) (st : List El), (flats j st).length = st.length - j
  | 0, st => rfl
  | j + 1, st => by rw [flats, flats_len j (flatten st), len_flatten]; omega
/-- How many elements the parser at gp holds. -/
def stLen (gp : Nat) (w : World) : Nat := match w.cell? ⟨gp, 0, none⟩ with
  | some (.slice _ n _) => n
  | _ => 0
theorem St.pcell {lo gp : Nat} {w : World} {M : List Nat} {st : List El} (h : St lo gp w M st) : ∃ gs cap, w.cell? ⟨gp, 0, none⟩ = some (.slice (some ⟨gs, 0, none⟩) st.length cap) ∧ st.length ≤ cap ∧ cap ≤ 9223372036854775807 := by
  obtain ⟨gs, cap, xs, m, h1, h2, h3, h4, h5, h6⟩ := h
  obtain ⟨A, c, q, q1, q2⟩ := own_form h5
  cases q
  exact ⟨gs, cap, cell_heap h4 rfl, q1, q2⟩
theorem St.slen {lo gp : Nat} {w : World} {M : List Nat} {st : List El} (h : St lo gp w M st) : stLen gp w = st.length := by
  obtain ⟨gs, cap, q, _⟩ := h.pcell
  unfold stLen
  rw [q]
section
variable {lo gp : Nat} {w : World} {M : List Nat} {st : List El}
set_option maxRecDepth 100000 in
set_option maxHeartbeats 8000000 in
theorem flattenAbove_any (h : St lo gp w M st) (a : Nat) (ha : a < st.length) (hst : st.length ≤ 1000) (hl : ph st ≤ 4194304) : Calls Tryz.prog 33 #[.pointer (some ⟨gp, 0, none⟩), .int .i64 (a : Int)] w fun x w' => x = .returned (.tuple #[]) ∧ ∃ M', St lo gp w' M' (flats (st.length - 1 - a) st) ∧ Fr lo w M w' M' := by
  have J0 : Hid (∃ Mr, St lo gp w Mr (flats 0 st) ∧ Fr lo w M w Mr) := Lib.hid ⟨M, h, Fr.refl _ _ _⟩
  clear h
  go_enter Tryz.func33, Tryz.ntmps33
  go_wp2_with fail
  go_loopw [] (fun wr => ∃ j : Nat, j ≤ st.length - 1 - a ∧ Hid (∃ Mr, St lo gp wr Mr (flats j st) ∧ Fr lo w M wr Mr)) (fun wr => stLen gp wr)
  case atStart => exact ⟨0, Nat.zero_le _, J0⟩
  case round =>
    obtain ⟨j, hj, hS⟩ := hrel
    obtain ⟨Mr, s1, f1⟩ := hS.out
    obtain ⟨gs, cap, pc, pc1, pc2⟩ := s1.pcell
    have hlen := flats_len j st
    have hsl := s1.slen
    have hpj := Nat.le_trans (ph_flats j st) hl
    rw [hlen] at pc hsl
    by_cases hlt : j < st.length - 1 - a
    · obtain ⟨e, r, hq⟩ : ∃ e r, flats j st = e :: r := by
        cases hq : flats j st with
        | nil => rw [hq] at hlen; simp at hlen; omega
        | cons e r => exact ⟨e, r, rfl⟩
      have hr : r ≠ [] := by
        intro z
        rw [hq, z] at hlen
        simp at hlen; omega
      rw [hq] at s1 hpj
      have S1 := Lib.hid (And.intro s1 f1)
      clear s1 f1 hS
      have hd : decide ((((st.length - j : Nat)) : Int) > (a : Int) + 1) = true := by
        simp only [decide_eq_true_eq]; omega
      go_wp2_with fail
      refine (flatten_any S1.out.1 hr hpj).mono ?_
      rintro x w2 ⟨rfl, M2, s2, f2⟩
      rw [← hq, flats_succ] at s2
      have hs2 := s2.slen
      rw [flats_len] at hs2
      have T2 : Hid (∃ Mr, St lo gp w2 Mr (flats (j + 1) st) ∧ Fr lo w M w2 Mr) := Lib.hid ⟨M2, s2, S1.out.2.trans f2⟩
      clear s2 f2 S1 pc
      go_wp2_with fail
      go_roundw
      case rel => exact ⟨j + 1, by omega, T2⟩
      case measure => show stLen gp w2 < stLen gp wr; omega
    · have ej : j = st.length - 1 - a := by omega
      have hd : decide ((((st.length - j : Nat)) : Int) > (a : Int) + 1) = false := by
        simp only [decide_eq_false_iff_not]; omega
      have S1 := Lib.hid (And.intro s1 f1)
      clear s1 f1 hS
      go_wp2_with fail
      go_end0
      exact ⟨rfl, Mr, by rw [← ej]; exact S1.out.1, S1.out.2⟩
end
end Go.Proofs.YtdojbnngdlmbgaaGreatDoor.Pa
