/-
  The contracts of addArgument, nameArgument and closeLink.
  The contracts of addArgument, nameArgument and closeLink: their walks.
  The contract of nameArgument.
-/
import Derived.Test.YtdojbnngdlmbgaaGreatDoorPaB
namespace Go.Proofs.YtdojbnngdlmbgaaGreatDoor.Pa
open Go.RowKit Go.Proofs.YtdojbnngdlmbgaaGreatDoor.Tr
set_option linter.unusedVariables false

/-- A row of arguments, none of which will grow any more. -/
theorem RA.opened {lo : Nat} {w : World} {X : Nat → Prop} {v : Value} {l : List Ar} {m : List Nat} (h : RA lo w X v l m) (hz : phA l ≤ 16777216) : ∃ xs mv, w.ownsRow lo 59 3 v l.length xs ∧ m = ob v ++ mv ∧ CellsA (LX w fun g => X g ∨ g ∈ mv) xs l := by
  rcases h with ⟨rfl, rfl, rfl⟩ | ⟨f, a, zs, vn, vv, rfl, h1, h2, h3, h4, rfl⟩
  · exact ⟨[], [], ownNil w lo _ 3, rfl, trivial⟩
  · rw [phA_append] at hz
    simp only [phA] at hz
    exact ⟨zs ++ [.bool a.named, vn, vv], ob vv, by rw [List.length_append]; exact h1, rfl, CellsA.append (cellsAX_imp h2 (fun _ q => .inl q) fun _ _ => rfl) ⟨rfl, h3.imp (fun _ q => .inl q) fun _ _ => rfl, h4.lx (by omega) (fun _ q => .inl q) (fun g q => .inr q), trivial⟩⟩
section
variable {lo gp : Nat} {w w2 : World} {M : List Nat} {e : El} {r : List El} {gs cap : Nat} {ys : List Value} {vn va v' : Value} {m1 m2 : List Nat}
/-- A further argument of the top. -/
theorem Opn.addArg (h : Opn lo gp w M e r gs cap ys vn va m1 m2) {xs : List Value} {mv : List Nat} (hr : w.ownsRow lo 59 3 va e.args.length xs) (hm : m2 = ob va ++ mv) (hc : CellsA (LX w fun g => Xm lo w M g ∨ g ∈ mv) xs e.args)
    (hg : w.grownBy w2 va.ownBlock) (ho : v'.ownBlock = va.ownBlock ∨ v'.ownBlock = some w.heap.size) (hy : w2.ownsRow lo 59 3 v' (e.args.length + 1) (xs ++ [.bool false, .slice none 0 0, .slice none 0 0])) :
    ∃ M', St lo gp (w2.setCell ⟨gs, r.length * 5 + 4, none⟩ v') M' ({ e with args := e.args ++ [.mk false [] []] } :: r) ∧ Fr lo w M (w2.setCell ⟨gs, r.length * 5 + 4, none⟩ v') M' := by
  have dj := h.dj
  have glt := h.glt
  have n2 := dj.n2
  rw [hm] at n2
  obtain ⟨k1, k2, k3⟩ := List.nodup_append.1 n2
  have inm : ∀ g, g ∈ mv → g ∈ m2 := fun g q => by rw [hm]; exact List.mem_append.2 (.inr q)
  have ina : ∀ g, g ∈ ob va → g ∈ m2 := fun g q => by rw [hm]; exact List.mem_append.2 (.inl q)
  have hsz : w.heap.size ≤ (w2.setCell ⟨gs, r.length * 5 + 4, none⟩ v').heap.size := by rw [World.size_setCell]; exact hg.size
  have hk : ∀ g, g < w.heap.size → g ≠ gs → g ∉ ob va → (w2.setCell ⟨gs, r.length * 5 + 4, none⟩ v').heap[g]? = w.heap[g]? := fun g h1 h2 h3 => (heap_set_ne (fun q => h2 q.symm)).trans (hg.block g h1 (fun q => h3 (ob_mem.2 q.symm)))
  have hob : ∀ g ∈ ob v', g ∈ ob va ∨ w.heap.size = g := fun g q => by
    rw [ob_mem] at q
    rcases ho with e | e <;> rw [e] at q
    · exact .inl (ob_mem.2 q)
    · exact .inr (Option.some.inj q)
  have hnew : ∀ g ∈ ob vn ++ (ob v' ++ ob (.slice none 0 0)), g ∈ ob vn ++ m2 ∨ w.heap.size ≤ g := fun g q => by
    simp only [List.mem_append] at q ⊢
    rcases q with q | q | q
    · exact .inl (.inl q)
    · rcases hob g q with q | q
      · exact .inl (.inr (ina g q))
      · exact .inr (Nat.le_of_eq q)
    · simp [ob, Value.ownBlock] at q
  have hnd : (ob vn ++ (ob v' ++ ob (.slice none 0 0))).Nodup := by
    have e0 : ob (.slice none 0 0) = [] := rfl
    rw [e0, List.append_nil]
    refine List.nodup_append.2 ⟨ob_nodup _, ob_nodup _, fun x hx y hy e => ?_⟩
    subst e
    rcases hob x hy with q | q
    · exact dj.d2 x hx (ina x q)
    · have := (h.rn.lt x hx).2; omega
  have hx := h.x2 hsz hnew
  have xk : ∀ g, Xm lo w M g → (w2.setCell ⟨gs, r.length * 5 + 4, none⟩ v').heap[g]? = w.heap[g]? := fun g q => hk g q.2.1 (h.notM q.2.2).1 (fun z => (h.notM q.2.2).2.2 (List.mem_append.2 (.inr (ina g z))))
  have mx : ∀ g, g ∈ mv → Xm lo (w2.setCell ⟨gs, r.length * 5 + 4, none⟩ v') (gp :: gs :: (ob vn ++ (ob v' ++ ob (.slice none 0 0)) ++ m1)) g := fun g q => by
    have hlt := h.ra.lt g (inm g q)
    refine ⟨hlt.1, Nat.lt_of_lt_of_le hlt.2 hsz, fun z => ?_⟩
    simp only [List.mem_cons, List.mem_append] at z
    rcases z with z | z | (z | z | z) | z
    · exact (dj.s2 g (List.mem_append.2 (.inr (inm g q)))).2 z
    · exact (dj.s2 g (List.mem_append.2 (.inr (inm g q)))).1 z
    · exact dj.d2 g z (inm g q)
    · rcases hob g z with z | z
      · exact k3 g z g q rfl
      · omega
    · simp [ob, Value.ownBlock] at z
    · exact dj.d1 g (List.mem_append.2 (.inr (inm g q))) z
  have mk : ∀ g, g ∈ mv → (w2.setCell ⟨gs, r.length * 5 + 4, none⟩ v').heap[g]? = w.heap[g]? := fun g q => hk g (h.ra.lt g (inm g q)).2 (dj.s2 g (List.mem_append.2 (.inr (inm g q)))).1 (fun z => k3 g z g q rfl)
  have hgs : w2.heap[gs]? = w.heap[gs]? := hg.block gs glt.2 (fun q => (dj.s2 gs (List.mem_append.2 (.inr (ina _ (ob_mem.2 q.symm))))).1 rfl)
  refine ⟨_, h.re (e2 := { e with args := e.args ++ [.mk false [] []] }) (vn2 := vn) (va2 := v') (m22 := ob v' ++ ob (.slice none 0 0)) ((Below.grownX hg (fun g q => (h.ra.lt g (ina g (ob_mem.2 q))).1) h.lolt).setCell glt.1 _) (fun g h1 h2 h3 => hk g h1 h2 (fun z => h3 (List.mem_append.2 (.inr (ina g z))))) (h.rowSet hgs 4 v') hnew hnd
    (h.rn.keep hx xk (fun g q => hk g (h.rn.lt g q).2 (dj.s2 g (List.mem_append.2 (.inl q))).1 (fun z => dj.d2 g q (ina g z))))
    (.inr ⟨e.args, .mk false [] [], xs, .slice none 0 0, .slice none 0 0, rfl, own_keep hy (fun g q => heap_set_ne ?_), cellsAX_imp hc (fun g q => q.elim (hx g) (mx g)) (fun g q => q.elim (xk g) (mk g)), LX.nil _ _, RN.nil _ _ _, rfl⟩)⟩
  intro e0
  subst e0
  rcases hob gs (ob_mem.2 q) with z | z
  · exact (dj.s2 gs (List.mem_append.2 (.inr (ina _ z)))).1 rfl
  · omega
def stA (w : World) (g p : Nat) (a b c : Value) : World := ((w.setCell ⟨g, p, none⟩ a).setCell ⟨g, p + 1, none⟩ b).setCell ⟨g, p + 2, none⟩ c
theorem stA_ne {w : World} {g p q : Nat} {a b c : Value} (h : g ≠ q) : (stA w g p a b c).heap[q]? = w.heap[q]? := by
  unfold stA; rw [heap_set_ne h, heap_set_ne h, heap_set_ne h]
theorem stA_size {w : World} {g p : Nat} {a b c : Value} : (stA w g p a b c).heap.size = w.heap.size := by simp [stA]
theorem nameA_last : ∀ (f : List Ar) (a : Ar), nameA (f ++ [a]) = f ++ [.mk true a.value []]
  | [], a => rfl
  | [b], a => rfl
  | b :: c :: f, a => by
    have := nameA_last (c :: f) a
    rw [List.cons_append] at this ⊢
    rw [List.cons_append, nameA, this]; rfl
/-- What was read of the last argument becomes its name. -/
theorem Opn.nameArg (h : Opn lo gp w M e r gs cap ys vn va m1 m2) {f : List Ar} {a : Ar} {zs : List Value} {un uv : Value} {ga c : Nat} (L : La lo w (Xm lo w M) va e.args m2 f a zs un uv ga c) (hz : sz a.value ≤ 16777216) :
    ∃ M', St lo gp (stA w ga (f.length * 3) (.bool true) uv (.slice none 0 0)) M' ({ e with args := nameA e.args } :: r) ∧ Fr lo w M (stA w ga (f.length * 3) (.bool true) uv (.slice none 0 0)) M' := by
  have dj := h.dj
  have glt := h.glt
  have hga := h.ra.lt ga L.gin
  have hm := L.hm
  have n2 := dj.n2
  rw [hm] at n2
  obtain ⟨k1, k2, k3⟩ := List.nodup_append.1 n2
  have gav : ga ∈ ob va := by rw [L.hv]; simp [ob, Value.ownBlock]
  have ina : ∀ g, g ∈ ob va → g ∈ m2 := fun g q => by rw [hm]; exact List.mem_append.2 (.inl q)
  have inm : ∀ g, g ∈ ob uv → g ∈ m2 := fun g q => by rw [hm]; exact List.mem_append.2 (.inr q)
  have hsz : w.heap.size ≤ (stA w ga (f.length * 3) (.bool true) uv (.slice none 0 0)).heap.size := by rw [stA_size]; exact Nat.le_refl _
  have hk : ∀ g, g ≠ ga → (stA w ga (f.length * 3) (.bool true) uv (.slice none 0 0)).heap[g]? = w.heap[g]? := fun g h2 => stA_ne (fun q => h2 q.symm)
  have hnew : ∀ g ∈ ob vn ++ (ob va ++ ob (.slice none 0 0)), g ∈ ob vn ++ m2 ∨ w.heap.size ≤ g := fun g q => by
    simp only [List.mem_append] at q ⊢
    rcases q with q | q | q
    · exact .inl (.inl q)
    · exact .inl (.inr (ina g q))
    · simp [ob, Value.ownBlock] at q
  have hnd : (ob vn ++ (ob va ++ ob (.slice none 0 0))).Nodup := by
    have e0 : ob (.slice none 0 0) = [] := rfl
    rw [e0, List.append_nil]
    refine List.nodup_append.2 ⟨ob_nodup _, ob_nodup _, fun x hx y hy e => ?_⟩
    subst e
    exact dj.d2 x hx (ina x hy)
  have hx := h.x2 hsz hnew
  have xk : ∀ g, Xm lo w M g → (stA w ga (f.length * 3) (.bool true) uv (.slice none 0 0)).heap[g]? = w.heap[g]? := fun g q => hk g (fun z => (h.notM q.2.2).2.2 (List.mem_append.2 (.inr (by rw [z]; exact L.gin))))
  have mx : ∀ g, g ∈ ob uv → Xm lo (stA w ga (f.length * 3) (.bool true) uv (.slice none 0 0)) (gp :: gs :: (ob vn ++ (ob va ++ ob (.slice none 0 0)) ++ m1)) g := fun g q => by
    have hlt := h.ra.lt g (inm g q)
    refine ⟨hlt.1, Nat.lt_of_lt_of_le hlt.2 hsz, fun z => ?_⟩
    simp only [List.mem_cons, List.mem_append] at z
    rcases z with z | z | (z | z | z) | z
    · exact (dj.s2 g (List.mem_append.2 (.inr (inm g q)))).2 z
    · exact (dj.s2 g (List.mem_append.2 (.inr (inm g q)))).1 z
    · exact dj.d2 g z (inm g q)
    · exact k3 g z g q rfl
    · simp [ob, Value.ownBlock] at z
    · exact dj.d1 g (List.mem_append.2 (.inr (inm g q))) z
  have rv2 := L.rv.keep (w' := stA w ga (f.length * 3) (.bool true) uv (.slice none 0 0)) hx xk (fun g q => hk g (fun z => k3 ga gav ga (by rw [← z]; exact q) rfl))
  have lv := rv2.lx hz (fun _ q => q) mx
  have hrow2 : (stA w ga (f.length * 3) (.bool true) uv (.slice none 0 0)).ownsRow lo 59 3 va (f.length + 1) (zs ++ [.bool true, uv, .slice none 0 0]) := by
    have hr := L.row
    rw [L.hv] at hr ⊢
    have q := own_setR (own_setR (own_setR hr (f.length * 3) (.bool true)) (f.length * 3 + 1) uv) (f.length * 3 + 2) (.slice none 0 0)
    unfold stA
    rw [← L.zl] at q ⊢
    rw [List.set_append_right _ _ (by omega), List.set_append_right _ _ (by omega), List.set_append_right _ _ (by omega)] at q
    simpa using q
  refine ⟨_, h.re (e2 := { e with args := nameA e.args }) (vn2 := vn) (va2 := va) (m22 := ob va ++ ob (.slice none 0 0)) ?_ (fun g h1 h2 h3 => hk g (fun z => h3 (List.mem_append.2 (.inr (by rw [z]; exact L.gin)))))
    (own_keep h.row (fun g q => by cases q; exact hk _ (fun z => (dj.s2 ga (List.mem_append.2 (.inr L.gin))).1 z.symm))) hnew hnd
    (h.rn.keep hx xk (fun g q => hk g (fun z => dj.d2 g q (by rw [z]; exact L.gin))))
    (.inr ⟨f, .mk true a.value [], zs, uv, .slice none 0 0, by rw [L.hl]; exact nameA_last f a, hrow2, cellsAX_imp L.cl hx xk, lv, RN.nil _ _ _, rfl⟩)⟩
  exact (((Below.refl lo w).setCell hga.1 _).setCell hga.1 _).setCell hga.1 _
end
end Go.Proofs.YtdojbnngdlmbgaaGreatDoor.Pa

namespace Go.Proofs.YtdojbnngdlmbgaaGreatDoor.Pa
open Go.RowKit Go.Proofs.YtdojbnngdlmbgaaGreatDoor.Tr
set_option linter.unusedVariables false

section
variable {lo gp : Nat} {w : World} {M : List Nat} {e : El} {r : List El}
set_option maxRecDepth 100000 in
set_option maxHeartbeats 8000000 in
theorem addArgument_any (h : St lo gp w M (e :: r)) (s : List UInt8) (hl : ph (e :: r) ≤ 4194304) (hs : s.length ≤ 1048576) : Calls Tryz.prog 63 #[.pointer (some ⟨gp, 0, none⟩), .string ⟨s.toArray⟩] w fun x w' => x = .returned (.tuple #[]) ∧ ∃ M', St lo gp w' M' (bar (e :: r) s) ∧ Fr lo w M w' M' := by
  obtain ⟨gs, cap, ys, vn, va, m1, m2, o⟩ := h.op
  have H := Lib.hid o; clear o h
  have hla : e.args.length ≤ 4194304 := by have := len_ph e.args; rw [ph, phE] at hl; omega
  have hpa : phA e.args ≤ 16777216 := by rw [ph, phE] at hl; omega
  go_enter Tryz.func63, Tryz.ntmps63
  go_wp2_with fail
  refine (top_any H.out).mono ?_
  rintro x w1 ⟨rfl, hb⟩
  have H1 := Lib.hid (H.out.keep hb)
  have HF := Lib.hid (H.out.st.keep hb).2
  have c0 : w1.cell? ⟨gs, r.length * 5, none⟩ = some (.int .i64 e.kind) := H1.out.cell 0 _ rfl
  by_cases h3 : e.kind = 3
  · rw [h3] at c0
    obtain ⟨Aa, ca, rfl, _, _⟩ := H1.out.ra.form
    obtain ⟨OA, hOA⟩ : ∃ O, Obj.cells #[Value.bool false, .slice none 0 0, .slice none 0 0] 59 = O := ⟨_, rfl⟩
    have bA : Below w1.heap.size w1 (w1.alloc OA) := (Below.refl _ _).alloc (Nat.le_refl _) _
    have H2 := Lib.hid (H1.out.keep bA)
    have F2 := Lib.hid (HF.out.trans (H1.out.st.keep bA).2)
    obtain ⟨xs, mv, hr, hm, hc⟩ := H2.out.ra.opened hpa
    obtain ⟨i0, hi, hz0, hz1, hz2⟩ := info_parts infoA
    obtain ⟨g', cap', w2, r1, r2, r3, r4, r5⟩ := run_append_lies (P := Tryz.prog) (w1.alloc OA) 60 60 lo 59 i0 _ 3 56 Tryz.underlying60 hi hz0 hz1 hz2 rfl (by omega) _ e.args.length xs hr ⟨w1.heap.size, 0, none⟩ 1 1 [.bool false, .slice none 0 0, .slice none 0 0] rfl
      (World.news_of_block (cs := #[.bool false, .slice none 0 0, .slice none 0 0]) (by rw [hOA]; exact heap_alloc_new w1 OA)) (by intro u hu; simp only [List.mem_cons, List.not_mem_nil, or_false] at hu; rcases hu with rfl | rfl | rfl <;> rfl) (by omega) (by simp only [maxLen]; omega) (by omega) H2.out.lolt _ rfl
    have R := Lib.hid (H2.out.addArg hr hm hc r3 (by rcases r4 with q | q; exact .inl q.symm; exact .inr (by rw [q]; rfl)) r2)
    have hgs : w2.heap[gs]? = (w1.alloc OA).heap[gs]? := r3.block gs H2.out.glt.2 (fun q => (H2.out.dj.s2 gs (List.mem_append.2 (.inr (by rw [hm]; exact List.mem_append.2 (.inl (ob_mem.2 q.symm)))))).1 rfl)
    have c4 : (w1.alloc OA).cell? ⟨gs, r.length * 5 + 4, none⟩ = some (Value.slice Aa e.args.length ca) := H2.out.cell 4 _ rfl
    have c4' : w1.cell? ⟨gs, r.length * 5 + 4, none⟩ = some (Value.slice Aa e.args.length ca) := H1.out.cell 4 _ rfl
    have c42 : w2.cell? ⟨gs, r.length * 5 + 4, none⟩ = some (Value.slice Aa e.args.length ca) := (World.cell?_of_block hgs).trans c4
    have z42 : w2.frozen? ⟨gs, r.length * 5 + 4, none⟩ = false := (World.frozen?_of_block hgs).trans (H2.out.fz _)
    have HB : Hid (bar (e :: r) s = { e with args := e.args ++ [.mk false [] []] } :: r) := Lib.hid (by simp [bar, h3])
    clear hr hm hc r2 r3 r4 r5 hgs H1 H2 H HF hb bA hi hz0 hz1 hz2 c4
    generalize hwa : w1.alloc OA = wa at *
    go_wp2_with (at_builtin; refine wpList_app rfl (.tmp 19) (.tmp 21) _ rfl rfl rfl r1 ?_)
    go_end0
    obtain ⟨M', h1, h2⟩ := R.out
    exact ⟨rfl, M', by rw [HB.out]; exact h1, F2.out.trans h2⟩
  · have hne : ((e.kind : Int) == 3) = false := by
      have : (e.kind : Int) ≠ 3 := by omega
      simpa using this
    have hne2 : ¬ (e.kind : Int) = 3 := by omega
    go_wp2_with fail
    refine (appendText_any H1.out.st (by simp) s hl (by omega)).mono ?_
    rintro x w2 ⟨rfl, M', h1, h2⟩
    have R := Lib.hid (And.intro h1 (HF.out.trans h2))
    clear h1 h2 H H1 HF hb c0
    go_wp2_with fail
    refine bodyPost_ret (results_none rfl _ _ _) rfl ?_
    exact ⟨rfl, M', by simp only [bar]; rw [if_neg h3]; exact R.out.1, R.out.2⟩
set_option maxRecDepth 100000 in
set_option maxHeartbeats 8000000 in
theorem closeLink_any (h : St lo gp w M (e :: r)) (s : List UInt8) (hl : ph (e :: r) ≤ 4194304) (hs : s.length ≤ 1048576) (hr : e.kind = 1 → r ≠ []) : Calls Tryz.prog 65 #[.pointer (some ⟨gp, 0, none⟩), .string ⟨s.toArray⟩] w fun x w' => x = .returned (.tuple #[]) ∧ ∃ M', St lo gp w' M' (linkEnd (e :: r) s) ∧ Fr lo w M w' M' := by
  obtain ⟨gs, cap, ys, vn, va, m1, m2, o⟩ := h.op
  have H := Lib.hid o; clear o h
  go_enter Tryz.func65, Tryz.ntmps65
  go_wp2_with fail
  refine (top_any H.out).mono ?_
  rintro x w1 ⟨rfl, hb⟩
  have H1 := Lib.hid (H.out.keep hb)
  have HF := Lib.hid (H.out.st.keep hb).2
  have c0 : w1.cell? ⟨gs, r.length * 5, none⟩ = some (.int .i64 e.kind) := H1.out.cell 0 _ rfl
  by_cases h1 : e.kind = 1
  · rw [h1] at c0
    go_wp2_with fail
    refine (flatten_any H1.out.st (hr h1) hl).mono ?_
    rintro x w2 ⟨rfl, M2, s2, f2⟩
    have T2 := Lib.hid (And.intro s2 (HF.out.trans f2))
    clear s2 f2 H H1 HF hb c0
    go_wp2_with fail
    refine (appendText_any T2.out.1 (addN_ne (hr h1) _) s (Nat.le_trans (ph_flatten _) hl) (by omega)).mono ?_
    rintro x w3 ⟨rfl, M3, s3, f3⟩
    have T3 := Lib.hid (And.intro s3 (T2.out.2.trans f3))
    clear s3 f3 T2
    go_wp2_with fail
    go_end0
    exact ⟨rfl, M3, by simp only [linkEnd]; rw [if_pos h1]; exact T3.out.1, T3.out.2⟩
  · have hne2 : ¬ (e.kind : Int) = 1 := by omega
    have hne : ((e.kind : Int) == 1) = false := by simpa using hne2
    go_wp2_with fail
    refine (appendText_any H1.out.st (by simp) s hl (by omega)).mono ?_
    rintro x w2 ⟨rfl, M', h2, h3⟩
    have R := Lib.hid (And.intro h2 (HF.out.trans h3))
    clear h2 h3 H H1 HF hb c0
    go_wp2_with fail
    go_end0
    exact ⟨rfl, M', by simp only [linkEnd]; rw [if_neg h1]; exact R.out.1, R.out.2⟩
end
end Go.Proofs.YtdojbnngdlmbgaaGreatDoor.Pa

namespace Go.Proofs.YtdojbnngdlmbgaaGreatDoor.Pa
open Go.RowKit Go.Proofs.YtdojbnngdlmbgaaGreatDoor.Tr
set_option linter.unusedVariables false

section
variable {E : Operand → Value} {o : Oper} {W : World}
theorem x_buildAn {x : Operand} (ho : o.op = Op.build 59 #[(0, .const (.bool true)), (1, x)]) {A : Option Addr} {n c : Nat} (hE : E (.const (.bool true)) = .bool true) (hx : E x = .slice A n c) : (execOp E o).run Tryz.prog W = .ok (.value (.agg #[.bool true, .slice A n c, .slice none 0 0])) W := by
  unfold execOp
  rw [ho]
  go_simp
theorem x_storeAr {p q : Operand} (ho : o.op = Op.store 59 p q) {g f : Nat} {b : Bool} {A A' : Option Addr} {n c n' c' : Nat} {u0 u1 u2 : Value} (hp : E p = .pointer (some ⟨g, f, none⟩)) (hq : E q = .agg #[.bool b, .slice A n c, .slice A' n' c']) (c0 : W.cell? ⟨g, f, none⟩ = some u0) (c1 : W.cell? ⟨g, f + 1, none⟩ = some u1) (c2 : W.cell? ⟨g, f + 2, none⟩ = some u2) (z0 : W.frozen? ⟨g, f, none⟩ = false) (z1 : W.frozen? ⟨g, f + 1, none⟩ = false) (z2 : W.frozen? ⟨g, f + 2, none⟩ = false) : (execOp E o).run Tryz.prog W = .ok .skip (stA W g f (.bool b) (.slice A n c) (.slice A' n' c')) := by
  unfold execOp stA
  rw [ho]
  go_simp
end
def FN (pe pf va : Value) (k : Nat) (px py uv vb : Value) : Nat → Value → World → Prop
  | 0, v, _ => v = pe
  | 1, v, _ => v = pe
  | 2, v, _ => v = pf
  | 3, v, _ => v = va
  | 4, v, _ => v = .int .i64 (k : Int)
  | 5, v, _ => v = pe
  | 6, v, _ => v = pe
  | 7, v, _ => v = pf
  | 8, v, _ => v = va
  | 9, v, _ => v = .int .i64 (k : Int)
  | 10, v, _ => v = px
  | 11, v, _ => v = py
  | 12, v, _ => v = uv
  | 13, v, _ => v = vb
  | _, v, _ => v = px
theorem FN.st {pe pf va : Value} {k : Nat} {px py uv vb : Value} : ∀ i v w w', FN pe pf va k px py uv vb i v w → Eq2 w w' → FN pe pf va k px py uv vb i v w' := by
  intro i v w w' h _
  unfold FN at h ⊢
  split <;> simp only at h ⊢ <;> exact h
section
variable {lo gp : Nat} {w : World} {M : List Nat} {e : El} {r : List El}
set_option maxRecDepth 100000 in
set_option maxHeartbeats 8000000 in
theorem nameArgument_any (h : St lo gp w M (e :: r)) (s : List UInt8) (hl : ph (e :: r) ≤ 4194304) (hs : s.length ≤ 1048576) : Calls Tryz.prog 64 #[.pointer (some ⟨gp, 0, none⟩), .string ⟨s.toArray⟩] w fun x w' => x = .returned (.tuple #[]) ∧ ∃ M', St lo gp w' M' (equal (e :: r) s) ∧ Fr lo w M w' M' := by
  obtain ⟨gs, cap, ys, vn, va, m1, m2, o⟩ := h.op
  have H := Lib.hid o; clear o h
  have hla : e.args.length ≤ 4194304 := by have := len_ph e.args; rw [ph, phE] at hl; omega
  go_enter Tryz.func64, Tryz.ntmps64
  go_wp2_with fail
  refine (top_any H.out).mono ?_
  rintro x w1 ⟨rfl, hb⟩
  have H1 := Lib.hid (H.out.keep hb)
  have HF := Lib.hid (H.out.st.keep hb).2
  have c4 := H1.out.cell 4 _ rfl
  by_cases ha : e.args = []
  · obtain ⟨Aa, ca, rfl, _, _⟩ := H1.out.ra.form
    have e0 : e.args.length = 0 := by rw [ha]; rfl
    rw [e0] at c4
    go_wp2_with fail
    refine (appendText_any H1.out.st (by simp) s hl (by omega)).mono ?_
    rintro x w2 ⟨rfl, M', h2, h3⟩
    have R := Lib.hid (And.intro h2 (HF.out.trans h3))
    clear h2 h3 H H1 HF hb c4
    go_wp2_with fail
    refine bodyPost_ret (results_none rfl _ _ _) rfl ?_
    exact ⟨rfl, M', by simp only [equal]; rw [if_pos (by rw [ha]; rfl)]; exact R.out.1, R.out.2⟩
  · have bd : Below w1.heap.size w1 w1.drew := (Below.refl _ _).drew
    have H2 := Lib.hid (H1.out.keep bd)
    have HF2 := Lib.hid (HF.out.trans (H1.out.st.keep bd).2)
    clear bd
    obtain ⟨f, a, zs, un, uv, ga, ca, L⟩ := H2.out.ra.last ha
    have hfl : f.length ≤ 4194304 := by rw [L.hl, List.length_append] at hla; omega
    have hln : lastNamed e.args = a.named := by rw [L.hl]; simp [lastNamed]
    have hval : sz a.value ≤ 16777216 := by
      rw [ph, phE, L.hl, phA_append] at hl
      simp only [phA] at hl
      omega
    have hva := L.hv
    subst hva
    obtain ⟨Au, cu, rfl, _, _⟩ := L.rv.form
    obtain ⟨An, cn, rfl⟩ := L.ln.form
    have k0 : w1.cell? ⟨ga, f.length * 3, none⟩ = some (Value.bool a.named) := L.cell 0 _ rfl
    have k1 : w1.cell? ⟨ga, f.length * 3 + 1, none⟩ = some (Value.slice An a.name.length cn) := L.cell 1 _ rfl
    have k2 : w1.cell? ⟨ga, f.length * 3 + 2, none⟩ = some (Value.slice Au a.value.length cu) := L.cell 2 _ rfl
    have y0 : w1.frozen? ⟨ga, f.length * 3, none⟩ = false := L.fz (f.length * 3)
    have y1 : w1.frozen? ⟨ga, f.length * 3 + 1, none⟩ = false := L.fz (f.length * 3 + 1)
    have y2 : w1.frozen? ⟨ga, f.length * 3 + 2, none⟩ = false := L.fz (f.length * 3 + 2)
    have R0 := Lib.hid (H2.out.nameArg L hval)
    clear L
    cases hnm : a.named with
    | true =>
      rw [hnm] at k0
      clear k1 k2 y0 y1 y2 R0
      go_wp2_with fail
      refine (appendText_any H1.out.st (by simp) s hl (by omega)).mono ?_
      rintro x w2 ⟨rfl, M', h2, h3⟩
      have R := Lib.hid (And.intro h2 (HF.out.trans h3))
      clear h2 h3 H H1 HF hb c4 k0
      go_wp2_with fail
      refine bodyPost_ret (results_none rfl _ _ _) rfl ?_
      exact ⟨rfl, M', by simp only [equal]; rw [if_pos (by rw [hln]; exact hnm)]; exact R.out.1, R.out.2⟩
    | false =>
      rw [hnm] at k0
      have HQ : Hid (equal (e :: r) s = { e with args := nameA e.args } :: r) := Lib.hid (by simp only [equal]; rw [if_neg (by rw [hln, hnm]; decide)])
      go_wp2_with fail
      clear H H1 H2 HF hb hln hnm
      refine region_ki Eq2 rfl [29, 30, 31, 32, 33, 34, 35, 36, 37, 38, 39, 40, 41, 42, 43] [29, 30, 31, 32, 33, 34, 35, 36, 37, 38, 39, 40, 41, 42, 43] [(4, .pointer (some ⟨gs, r.length * 5, none⟩)), (5, .int .i64 (f.length : Int))]
        (FN (.pointer (some ⟨gs, r.length * 5, none⟩)) (.pointer (some ⟨gs, r.length * 5 + 4, none⟩)) (.slice (some ⟨ga, 0, none⟩) (f.length + 1) ca) f.length (.pointer (some ⟨ga, 0 + f.length * 3, none⟩)) (.pointer (some ⟨ga, 0 + f.length * 3 + 2, none⟩)) (Value.slice Au a.value.length cu) (.agg #[.bool true, Value.slice Au a.value.length cu, .slice none 0 0]))
        (by kernel_rfl) (n := 15) (by kernel_rfl) (by kernel_rfl) (fun j v hj => start2 hj rfl rfl) ?_
      intro l0 ds hl0 hds hT
      have HL0 := Lib.hid hl0; have HDS := Lib.hid hds; clear hl0 hds
      refine ⟨?_, ?_⟩
      · intro i hi S x w' hI hd
        have ew : w' = w1.drew := hI.bl
        have Z : Eq2 w' w' := rfl
        have cc : w'.cell? ⟨gs, r.length * 5 + 4, none⟩ = some (.slice (some ⟨ga, 0, none⟩) (f.length + 1) ca) := by rw [ew]; exact c4
        have cv : w'.cell? ⟨ga, 0 + f.length * 3 + 2, none⟩ = some (Value.slice Au a.value.length cu) := by rw [ew, Nat.zero_add]; exact k2
        match i, hi with
        | 0, _ => exact head_value hI hT Eq2.tr FN.st 0 29 rfl rfl rfl rfl (x_move rfl (hI.lt.eval 4 rfl)) Z rfl
        | 1, _ => exact head_value hI hT Eq2.tr FN.st 1 30 rfl rfl rfl rfl (x_nil (p := .tmp 29) (ad := ⟨gs, r.length * 5, none⟩) rfl (hI.known 0 29 (hd 0 (by kernel_rfl)) rfl)) Z rfl
        | 2, _ => exact head_value hI hT Eq2.tr FN.st 2 31 rfl rfl rfl rfl (x_fieldE 4 (by decide) rfl (hI.known 1 30 (hd 1 (by kernel_rfl)) rfl)) Z rfl
        | 3, _ => exact head_value hI hT Eq2.tr FN.st 3 32 rfl rfl rfl rfl (x_loadA rfl (hI.known 2 31 (hd 2 (by kernel_rfl)) rfl) cc) Z rfl
        | 4, _ => exact head_value hI hT Eq2.tr FN.st 4 33 rfl rfl rfl rfl (x_move rfl (hI.lt.eval 5 rfl)) Z rfl
        | 5, _ => exact head_value hI hT Eq2.tr FN.st 5 34 rfl rfl rfl rfl (x_move rfl (hI.lt.eval 4 rfl)) Z rfl
        | 6, _ => exact head_value hI hT Eq2.tr FN.st 6 35 rfl rfl rfl rfl (x_nil (p := .tmp 34) (ad := ⟨gs, r.length * 5, none⟩) rfl (hI.known 5 34 (hd 5 (by kernel_rfl)) rfl)) Z rfl
        | 7, _ => exact head_value hI hT Eq2.tr FN.st 7 36 rfl rfl rfl rfl (x_fieldE 4 (by decide) rfl (hI.known 6 35 (hd 6 (by kernel_rfl)) rfl)) Z rfl
        | 8, _ => exact head_value hI hT Eq2.tr FN.st 8 37 rfl rfl rfl rfl (x_loadA rfl (hI.known 7 36 (hd 7 (by kernel_rfl)) rfl) cc) Z rfl
        | 9, _ => exact head_value hI hT Eq2.tr FN.st 9 38 rfl rfl rfl rfl (x_move rfl (hI.lt.eval 5 rfl)) Z rfl
        | 10, _ => exact head_value hI hT Eq2.tr FN.st 10 39 rfl rfl rfl rfl (x_indexA rfl (hI.known 8 37 (hd 8 (by kernel_rfl)) rfl) (hI.known 9 38 (hd 9 (by kernel_rfl)) rfl) (by omega)) Z rfl
        | 11, _ => exact head_value hI hT Eq2.tr FN.st 11 40 rfl rfl rfl rfl (x_fieldA 2 (by decide) rfl (hI.known 10 39 (hd 10 (by kernel_rfl)) rfl)) Z rfl
        | 12, _ => exact head_value hI hT Eq2.tr FN.st 12 41 rfl rfl rfl rfl (x_loadN rfl (hI.known 11 40 (hd 11 (by kernel_rfl)) rfl) cv) Z rfl
        | 13, _ =>
          have k12 : x.eval (.tmp 41) = Value.slice Au a.value.length cu := hI.known 12 41 (hd 12 (by kernel_rfl)) rfl
          exact head_value hI hT Eq2.tr FN.st 13 42 rfl rfl rfl rfl (x_buildAn rfl rfl k12) Z rfl
        | 14, _ => exact head_value hI hT Eq2.tr FN.st 14 43 rfl rfl rfl rfl (x_indexA rfl (hI.known 3 32 (hd 3 (by kernel_rfl)) rfl) (hI.known 4 33 (hd 4 (by kernel_rfl)) rfl) (by omega)) Z rfl
        | (n + 15), h => exact absurd h (by omega)
      · intro x w' hL hb9 hk
        have ew : w' = w1.drew := hb9
        subst ew
        have q13 : x.eval (.tmp 42) = .agg #[.bool true, Value.slice Au a.value.length cu, .slice none 0 0] := hk 13 42 (by decide) rfl
        have q14 : x.eval (.tmp 43) = .pointer (some ⟨ga, 0 + f.length * 3, none⟩) := hk 14 43 (by decide) rfl
        rw [Nat.zero_add] at q14
        refine any_store 15 rfl rfl rfl (by kernel_rfl) (x_storeAr rfl q14 q13 k0 k1 k2 y0 y1 y2) ?_
        refine wpAny_done (by kernel_rfl) ?_ _
        obtain ⟨u9, rfl, _⟩ := hL.lit
        rw [HL0.out, HDS.out]
        simp only [setAll, List.set_cons_zero, List.set_cons_succ]
        clear hk q13 q14 hL hT HL0 HDS k0 k1 k2 y0 y1 y2 c4
        generalize hWW : stA w1.drew ga (f.length * 3) (.bool true) (Value.slice Au a.value.length cu) (.slice none 0 0) = WW at R0 ⊢
        clear hWW
        go_wp2_with fail
        go_end0
        obtain ⟨M', h1, h2⟩ := R0.out
        exact ⟨rfl, M', by rw [HQ.out]; exact h1, HF2.out.trans h2⟩
end
end Go.Proofs.YtdojbnngdlmbgaaGreatDoor.Pa
