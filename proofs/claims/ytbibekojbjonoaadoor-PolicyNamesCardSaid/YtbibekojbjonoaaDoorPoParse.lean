/-
  The contract of Parse of package policy.
-/
import Derived.Test.YtbibekojbjonoaaDoorPoPar
namespace Go.Proofs.YtbibekojbjonoaaDoor.Po
open Go.RowKit Go.Shelf Rf Rk
attribute [local go_sem] Oper.semAt_some
set_option linter.unusedVariables false
set_option linter.unusedSimpArgs false

theorem parts_sizes (c : UInt8) : ∀ l : By, (parts c l).length ≤ l.length + 1 ∧ ∀ p ∈ parts c l, p.length ≤ l.length
  | [] => by simp [parts]
  | x :: l => by
    obtain ⟨h1, h2⟩ := parts_sizes c l
    obtain ⟨p, q, e⟩ := parts_ne c l
    rw [parts]
    split
    · refine ⟨by simpa using h1, fun y hy => ?_⟩
      rcases List.mem_cons.1 hy with rfl | hy
      · simp
      · have := h2 y hy; rw [List.length_cons]; omega
    · rw [e] at h1 h2 ⊢
      refine ⟨by simp only [List.length_cons] at h1 ⊢; omega, fun y hy => ?_⟩
      rcases List.mem_cons.1 hy with rfl | hy
      · have := h2 p (by simp); simp; omega
      · have := h2 y (by simp [hy]); rw [List.length_cons]; omega
theorem px_end {b : Nat} (W : World) (n : Int) (z0 : W.heap[b]? = some (.cells #[.slice none 0 0, .slice none 0 0, .slice none 0 0] 29)) (z1 : W.heap[b + 1]? = some (.cells #[.int .i64 0] 3)) (z2 : W.heap[b + 2]? = some (.cells #[.int .i64 0] 30)) :
    (((((W.setCell ⟨b, 0, none⟩ (.slice none 0 0)).setCell ⟨b, 1, none⟩ (.slice none 0 0)).setCell ⟨b, 2, none⟩ (.slice none 0 0)).setCell ⟨b + 1, 0, none⟩ (.int .i64 n)).setCell ⟨b + 2, 0, none⟩ (.int .i64 1)).drew.heap[b]? = some (.cells #[.slice none 0 0, .slice none 0 0, .slice none 0 0] 29) ∧
    (((((W.setCell ⟨b, 0, none⟩ (.slice none 0 0)).setCell ⟨b, 1, none⟩ (.slice none 0 0)).setCell ⟨b, 2, none⟩ (.slice none 0 0)).setCell ⟨b + 1, 0, none⟩ (.int .i64 n)).setCell ⟨b + 2, 0, none⟩ (.int .i64 1)).drew.heap[b + 1]? = some (.cells #[.int .i64 n] 3) ∧
    (((((W.setCell ⟨b, 0, none⟩ (.slice none 0 0)).setCell ⟨b, 1, none⟩ (.slice none 0 0)).setCell ⟨b, 2, none⟩ (.slice none 0 0)).setCell ⟨b + 1, 0, none⟩ (.int .i64 n)).setCell ⟨b + 2, 0, none⟩ (.int .i64 1)).drew.heap[b + 2]? = some (.cells #[.int .i64 1] 30) ∧
    KeepsOthers W (((((W.setCell ⟨b, 0, none⟩ (.slice none 0 0)).setCell ⟨b, 1, none⟩ (.slice none 0 0)).setCell ⟨b, 2, none⟩ (.slice none 0 0)).setCell ⟨b + 1, 0, none⟩ (.int .i64 n)).setCell ⟨b + 2, 0, none⟩ (.int .i64 1)).drew ∧
    (∀ w0, Below b w0 W → Below b w0 (((((W.setCell ⟨b, 0, none⟩ (.slice none 0 0)).setCell ⟨b, 1, none⟩ (.slice none 0 0)).setCell ⟨b, 2, none⟩ (.slice none 0 0)).setCell ⟨b + 1, 0, none⟩ (.int .i64 n)).setCell ⟨b + 2, 0, none⟩ (.int .i64 1)).drew) := by
  obtain ⟨V1, h1⟩ : ∃ V, W.setCell ⟨b, 0, none⟩ (.slice none 0 0) = V := ⟨_, rfl⟩
  obtain ⟨V2, h2⟩ : ∃ V, V1.setCell ⟨b, 1, none⟩ (.slice none 0 0) = V := ⟨_, rfl⟩
  obtain ⟨V3, h3⟩ : ∃ V, V2.setCell ⟨b, 2, none⟩ (.slice none 0 0) = V := ⟨_, rfl⟩
  obtain ⟨V4, h4⟩ : ∃ V, V3.setCell ⟨b + 1, 0, none⟩ (.int .i64 n) = V := ⟨_, rfl⟩
  obtain ⟨V5, h5⟩ : ∃ V, V4.setCell ⟨b + 2, 0, none⟩ (.int .i64 1) = V := ⟨_, rfl⟩
  rw [h1, h2, h3, h4, h5]
  have far : ∀ (A B : World) (q o : Nat) (v : Value), A.setCell ⟨q, o, none⟩ v = B → ∀ k, k ≠ q → B.heap[k]? = A.heap[k]? := fun A B q o v e k hk => by rw [← e]; exact Below.heap_setCell A ⟨q, o, none⟩ v k hk
  have a0 : V1.heap[b]? = some (.cells #[.slice none 0 0, .slice none 0 0, .slice none 0 0] 29) := by rw [← h1]; exact set_bx z0 0 _
  have a1 : V2.heap[b]? = some (.cells #[.slice none 0 0, .slice none 0 0, .slice none 0 0] 29) := by rw [← h2]; exact set_bx a0 1 _
  have a2 : V3.heap[b]? = some (.cells #[.slice none 0 0, .slice none 0 0, .slice none 0 0] 29) := by rw [← h3]; exact set_bx a1 2 _
  have c1 : V3.heap[b + 1]? = some (.cells #[.int .i64 0] 3) := (far _ _ _ _ _ h3 (b + 1) (by omega)).trans ((far _ _ _ _ _ h2 (b + 1) (by omega)).trans ((far _ _ _ _ _ h1 (b + 1) (by omega)).trans z1))
  have d1 : V4.heap[b + 2]? = some (.cells #[.int .i64 0] 30) := (far _ _ _ _ _ h4 (b + 2) (by omega)).trans ((far _ _ _ _ _ h3 (b + 2) (by omega)).trans ((far _ _ _ _ _ h2 (b + 2) (by omega)).trans ((far _ _ _ _ _ h1 (b + 2) (by omega)).trans z2)))
  have c2 : V4.heap[b + 1]? = some (.cells #[.int .i64 n] 3) := by rw [← h4]; exact set_bx c1 0 _
  have d2 : V5.heap[b + 2]? = some (.cells #[.int .i64 1] 30) := by rw [← h5]; exact set_bx d1 0 _
  have ks : ∀ (A B : World) (q o : Nat) (v : Value), A.setCell ⟨q, o, none⟩ v = B → KeepsOthers A B := fun A B q o v e => by rw [← e]; exact KeepsOthers.setCell _ _ _
  have bs : ∀ (A B : World) (q o : Nat) (v : Value), A.setCell ⟨q, o, none⟩ v = B → b ≤ q → ∀ w0, Below b w0 A → Below b w0 B := fun A B q o v e hq w0 h => by rw [← e]; exact h.setCell (p := ⟨q, o, none⟩) hq _
  have hk : KeepsOthers W V5 := (((ks _ _ _ _ _ h1).trans (ks _ _ _ _ _ h2)).trans (ks _ _ _ _ _ h3)).trans ((ks _ _ _ _ _ h4).trans (ks _ _ _ _ _ h5))
  have e0 : V5.heap[b]? = _ := (far _ _ _ _ _ h5 b (by omega)).trans ((far _ _ _ _ _ h4 b (by omega)).trans a2)
  have e1 : V5.heap[b + 1]? = _ := (far _ _ _ _ _ h5 (b + 1) (by omega)).trans c2
  refine ⟨e0, e1, d2, ⟨hk.1, hk.2⟩, fun w0 h => ?_⟩
  exact (bs _ _ _ _ _ h5 (by omega) w0 (bs _ _ _ _ _ h4 (by omega) w0 (bs _ _ _ _ _ h3 (Nat.le_refl _) w0 (bs _ _ _ _ _ h2 (Nat.le_refl _) w0 (bs _ _ _ _ _ h1 (Nat.le_refl _) w0 h))))).drew
structure Fin3 (b : Nat) (gv rv dv n e : Value) (W V : World) : Prop where
  z0 : V.heap[b]? = some (.cells #[gv, rv, dv] 29)
  z1 : V.heap[b + 1]? = some (.cells #[n] 3)
  z2 : V.heap[b + 2]? = some (.cells #[e] 30)
  ko : KeepsOthers W V
  be : ∀ w0, Below b w0 W → Below b w0 V
  ps : ∀ {lo gp : Nat} {P : Pol} {gv rv dv : Value} {L : List Gv}, PS lo gp W P gv rv dv L → b + 2 < gp → PS lo gp V P gv rv dv L
theorem fin3 {b : Nat} (W : World) (gv rv dv n e a1 a2 a3 x y : Value) (z0 : W.heap[b]? = some (.cells #[a1, a2, a3] 29)) (z1 : W.heap[b + 1]? = some (.cells #[x] 3)) (z2 : W.heap[b + 2]? = some (.cells #[y] 30)) :
    Fin3 b gv rv dv n e W (((((W.setCell ⟨b, 0, none⟩ gv).setCell ⟨b, 1, none⟩ rv).setCell ⟨b, 2, none⟩ dv).setCell ⟨b + 1, 0, none⟩ n).setCell ⟨b + 2, 0, none⟩ e) := by
  obtain ⟨V1, h1⟩ : ∃ V, W.setCell ⟨b, 0, none⟩ gv = V := ⟨_, rfl⟩
  obtain ⟨V2, h2⟩ : ∃ V, V1.setCell ⟨b, 1, none⟩ rv = V := ⟨_, rfl⟩
  obtain ⟨V3, h3⟩ : ∃ V, V2.setCell ⟨b, 2, none⟩ dv = V := ⟨_, rfl⟩
  obtain ⟨V4, h4⟩ : ∃ V, V3.setCell ⟨b + 1, 0, none⟩ n = V := ⟨_, rfl⟩
  obtain ⟨V5, h5⟩ : ∃ V, V4.setCell ⟨b + 2, 0, none⟩ e = V := ⟨_, rfl⟩
  rw [h1, h2, h3, h4, h5]
  have far : ∀ (A B : World) (q o : Nat) (v : Value), A.setCell ⟨q, o, none⟩ v = B → ∀ k, k ≠ q → B.heap[k]? = A.heap[k]? := fun A B q o v e k hk => by rw [← e]; exact Below.heap_setCell A ⟨q, o, none⟩ v k hk
  have a0 : V1.heap[b]? = some (.cells #[gv, a2, a3] 29) := by rw [← h1]; exact set_bx z0 0 _
  have a1 : V2.heap[b]? = some (.cells #[gv, rv, a3] 29) := by rw [← h2]; exact set_bx a0 1 _
  have a2 : V3.heap[b]? = some (.cells #[gv, rv, dv] 29) := by rw [← h3]; exact set_bx a1 2 _
  have c1 : V3.heap[b + 1]? = some (.cells #[x] 3) := (far _ _ _ _ _ h3 (b + 1) (by omega)).trans ((far _ _ _ _ _ h2 (b + 1) (by omega)).trans ((far _ _ _ _ _ h1 (b + 1) (by omega)).trans z1))
  have d1 : V4.heap[b + 2]? = some (.cells #[y] 30) := (far _ _ _ _ _ h4 (b + 2) (by omega)).trans ((far _ _ _ _ _ h3 (b + 2) (by omega)).trans ((far _ _ _ _ _ h2 (b + 2) (by omega)).trans ((far _ _ _ _ _ h1 (b + 2) (by omega)).trans z2)))
  have c2 : V4.heap[b + 1]? = some (.cells #[n] 3) := by rw [← h4]; exact set_bx c1 0 _
  have d2 : V5.heap[b + 2]? = some (.cells #[e] 30) := by rw [← h5]; exact set_bx d1 0 _
  have ks : ∀ (A B : World) (q o : Nat) (v : Value), A.setCell ⟨q, o, none⟩ v = B → KeepsOthers A B := fun A B q o v e => by rw [← e]; exact KeepsOthers.setCell _ _ _
  have bs : ∀ (A B : World) (q o : Nat) (v : Value), A.setCell ⟨q, o, none⟩ v = B → b ≤ q → ∀ w0, Below b w0 A → Below b w0 B := fun A B q o v e hq w0 h => by rw [← e]; exact h.setCell (p := ⟨q, o, none⟩) hq _
  have hk : KeepsOthers W V5 := (((ks _ _ _ _ _ h1).trans (ks _ _ _ _ _ h2)).trans (ks _ _ _ _ _ h3)).trans ((ks _ _ _ _ _ h4).trans (ks _ _ _ _ _ h5))
  have e0 : V5.heap[b]? = _ := (far _ _ _ _ _ h5 b (by omega)).trans ((far _ _ _ _ _ h4 b (by omega)).trans a2)
  have e1 : V5.heap[b + 1]? = _ := (far _ _ _ _ _ h5 (b + 1) (by omega)).trans c2
  refine ⟨e0, e1, d2, hk, fun w0 h => ?_, fun {lo gp P gv' rv' dv' L} h hg => ?_⟩
  · exact bs _ _ _ _ _ h5 (by omega) w0 (bs _ _ _ _ _ h4 (by omega) w0 (bs _ _ _ _ _ h3 (Nat.le_refl _) w0 (bs _ _ _ _ _ h2 (Nat.le_refl _) w0 (bs _ _ _ _ _ h1 (Nat.le_refl _) w0 h))))
  · have hl := h.lt
    have p1 : PS lo gp V1 P gv' rv' dv' L := by rw [← h1]; exact h.far (p := ⟨b, 0, none⟩) (by show b < lo; omega) (by show gp ≠ b; omega) _
    have p2 : PS lo gp V2 P gv' rv' dv' L := by rw [← h2]; exact p1.far (p := ⟨b, 1, none⟩) (by show b < lo; omega) (by show gp ≠ b; omega) _
    have p3 : PS lo gp V3 P gv' rv' dv' L := by rw [← h3]; exact p2.far (p := ⟨b, 2, none⟩) (by show b < lo; omega) (by show gp ≠ b; omega) _
    have p4 : PS lo gp V4 P gv' rv' dv' L := by rw [← h4]; exact p3.far (p := ⟨b + 1, 0, none⟩) (by show b + 1 < lo; omega) (by show gp ≠ b + 1; omega) _
    rw [← h5]; exact p4.far (p := ⟨b + 2, 0, none⟩) (by show b + 2 < lo; omega) (by show gp ≠ b + 2; omega) _
theorem eight (w : World) (o0 o1 o2 o3 o4 o5 o6 o7 : Obj) :
    ((((((((w.alloc o0).alloc o1).alloc o2).alloc o3).alloc o4).alloc o5).alloc o6).alloc o7).heap.size = w.heap.size + 8 ∧
    ∀ (i : Nat) (o : Obj), [o0, o1, o2, o3, o4, o5, o6, o7][i]? = some o → ((((((((w.alloc o0).alloc o1).alloc o2).alloc o3).alloc o4).alloc o5).alloc o6).alloc o7).heap[w.heap.size + i]? = some o := by
  refine ⟨by simp, fun i o h => ?_⟩
  have hh : ((((((((w.alloc o0).alloc o1).alloc o2).alloc o3).alloc o4).alloc o5).alloc o6).alloc o7).heap = w.heap ++ #[o0, o1, o2, o3, o4, o5, o6, o7] := by
    show (((((((w.heap.push o0).push o1).push o2).push o3).push o4).push o5).push o6).push o7 = _
    apply Array.ext'
    simp
  rw [hh, Array.getElem?_append_right (by omega), Nat.add_sub_cancel_left]
  simpa using h
theorem below8 (w : World) (o0 o1 o2 o3 o4 o5 o6 o7 : Obj) : Below w.heap.size w ((((((((w.alloc o0).alloc o1).alloc o2).alloc o3).alloc o4).alloc o5).alloc o6).alloc o7) :=
  (((((((((Below.refl _ w).alloc (Nat.le_refl _) _).alloc (by simp) _).alloc (by simp; omega) _).alloc (by simp; omega) _).alloc (by simp; omega) _).alloc (by simp; omega) _).alloc (by simp; omega) _).alloc (by simp; omega) _)
set_option maxRecDepth 100000 in
set_option maxHeartbeats 8000000 in
theorem Parse_short (l : By) (w : World) (hs : l.length ≤ 8192) (ht : Tb w) : Calls Tryd.prog 9 #[.string (bsl l)] w (ParseP w (parse l)) := by
  have HR : Hid (parse l = finish (readL (parts 10 l) 0 Pol.none)) := Lib.hid (by unfold parse; rw [if_neg (by omega)])
  have hz : ¬ (8192 : Int) < ((bsl l).size : Int) := by rw [bsl_size]; omega
  have hz2 : ((bsl l).size : Int) ≤ 8192 := by rw [bsl_size]; omega
  refine (callsIn_wide (n := 0)).1 ?_
  refine callsIn_of_wp_marks Tryd.func9 rfl trivial ?_ rfl
  simp only [Tryd.ntmps9, List.size_toArray, List.length_cons, List.length_nil, Nat.reduceAdd, Nat.reduceSub, Array.replicate_succ, Array.replicate_zero, List.push_toArray, List.append_toArray, List.nil_append, List.cons_append]
  gi_wp2
  refine ⟨trivial, rfl, (callsIn_wide.2 (Rf.SplitSeq_any _ _ _)).mono ?_⟩
  rintro e w' ⟨rfl, rfl⟩
  gi_wp2
  have h8 := eight w (.cells #[.slice none 0 0, .slice none 0 0, .slice none 0 0] 29) (.cells #[.int .i64 0] 3) (.cells #[.int .i64 0] 30) (.cells #[.slice none 0 0, .slice none 0 0, .slice none 0 0] 29) (.cells #[.int .i64 0] 3) (.cells #[.string (bsl l)] 9) (.cells #[.string ⟨#[10]⟩] 9) (.cells #[.int .i64 0] 3)
  have b8 := below8 w (.cells #[.slice none 0 0, .slice none 0 0, .slice none 0 0] 29) (.cells #[.int .i64 0] 3) (.cells #[.int .i64 0] 30) (.cells #[.slice none 0 0, .slice none 0 0, .slice none 0 0] 29) (.cells #[.int .i64 0] 3) (.cells #[.string (bsl l)] 9) (.cells #[.string ⟨#[10]⟩] 9) (.cells #[.int .i64 0] 3)
  obtain ⟨h8s, h8c⟩ := h8
  have q0 := h8c 0 _ rfl
  have q1 := h8c 1 _ rfl
  have q2 := h8c 2 _ rfl
  have q3 := h8c 3 _ rfl
  have q4 := h8c 4 _ rfl
  have q5 := h8c 5 _ rfl
  have q6 := h8c 6 _ rfl
  have q7 := h8c 7 _ rfl
  clear h8c
  rw [show w.heap.size + 1 + 1 + 1 + 1 + 1 + 1 = w.heap.size + 5 + 1 from rfl, show w.heap.size + 1 + 1 + 1 + 1 + 1 = w.heap.size + 5 from rfl, show w.heap.size + 1 + 1 + 1 + 1 = w.heap.size + 4 from rfl, show w.heap.size + 1 + 1 + 1 = w.heap.size + 3 from rfl, show w.heap.size + 1 + 1 = w.heap.size + 2 from rfl]
  rw [Nat.add_zero] at q0
  obtain ⟨b, hb⟩ : ∃ b, w.heap.size = b := ⟨_, rfl⟩
  obtain ⟨W0, hW0⟩ : ∃ W0, ((((((((w.alloc (.cells #[.slice none 0 0, .slice none 0 0, .slice none 0 0] 29)).alloc (.cells #[.int .i64 0] 3)).alloc (.cells #[.int .i64 0] 30)).alloc (.cells #[.slice none 0 0, .slice none 0 0, .slice none 0 0] 29)).alloc (.cells #[.int .i64 0] 3)).alloc (.cells #[.string (bsl l)] 9)).alloc (.cells #[.string ⟨#[10]⟩] 9)).alloc (.cells #[.int .i64 0] 3)) = W0 := ⟨_, rfl⟩
  rw [hW0] at h8s b8 q0 q1 q2 q3 q4 q5 q6 q7 ⊢
  rw [hb] at h8s b8 q0 q1 q2 q3 q4 q5 q6 q7 ⊢
  have hgn : GN b := by rw [← hb]; exact ht.gn
  have HT := Lib.hid ht
  have HBs := Lib.hid hb
  clear hW0 hb ht
  have hps0 : PI b [] W0 := ⟨q0, q1, q2, q4, Pol.none, _, _, _, [], ⟨q3, OwnV.nil _ _, SubO.nil _ _, OwnR.nil _ _, OwnD.nil _ _, by omega, by omega⟩, Acc.nil⟩
  have hfz : W0.frozen? ⟨b + 5, 0, none⟩ = false := by simp [World.frozen?, q5]
  refine rangeK (gf := 30) (lb := #[.pointer (some ⟨b + 5 + 1, 0, none⟩), .pointer (some ⟨b + 5, 0, none⟩), .pointer (some ⟨b + 5 + 2, 0, none⟩)]) rfl (enters_of Tryd.func30 (by kernel_rfl) rfl)
    (split_seqK 10 (bsl l) (b + 5) W0 (by rw [bsl_size]; omega) (by omega) (cell_heap q5 rfl) hfz (cell_heap q6 rfl) (cell_heap q7 rfl)) (fun _ => rfl) (fun h k => Kb.t h k) (Kb.b (by omega))
    (fun pre W => PI b pre W ∧ Below b w W) (fun c pre W => (c = .ret ∧ PX b pre W) ∧ Below b w W)
    (OwnFrom.and (fun s A B row hs hg hr => hs.kc (Kc.grown hg (fun r e => (hr r e).2)) hg.size) (ownFrom_below (Nat.le_of_eq HBs.out.symm) (by omega)))
    (fun c => OwnFrom.and (fun s A B row hs hg hr => ⟨hs.1, hs.2.kc (Kc.grown hg (fun r e => (hr r e).2))⟩) (ownFrom_below (Nat.le_of_eq HBs.out.symm) (by omega)))
    (fun s A v h => ⟨h.1.far v, h.2.setCell (p := ⟨b + 5, 0, none⟩) (by show b ≤ b + 5; omega) _⟩)
    (fun c s A v h => ⟨⟨h.1.1, h.1.2.far v⟩, h.2.setCell (p := ⟨b + 5, 0, none⟩) (by show b ≤ b + 5; omega) _⟩)
    ⟨hps0, b8⟩
    (fun x => { tmps := #[.string (bsl l), undef, .pointer (some ⟨b, 0, none⟩), .pointer (some ⟨b + 1, 0, none⟩), .pointer (some ⟨b + 2, 0, none⟩), .pointer (some ⟨b + 3, 0, none⟩), .pointer (some ⟨b + 4, 0, none⟩), .string x.1, undef, .string (bsl l), .int .i64 (bsl l).size, .bool false, undef, .string (bsl l), .func (.func 30) #[] #[.pointer (some ⟨b + 5 + 1, 0, none⟩), .pointer (some ⟨b + 5, 0, none⟩), .pointer (some ⟨b + 5 + 2, 0, none⟩)], .string x.1, undef, undef, undef, undef, undef, undef, undef, undef, undef, undef, undef, undef, undef, undef], defers := [] }) ?assign ?body ?done ?stop
  case assign =>
    intro l x W K hK
    gi_wp2
    exact hK
  case body =>
    rintro lp pre ⟨x, hxl⟩ W ⟨r, hpf⟩ ⟨hPI, hB⟩
    obtain ⟨P, gv, rv, dv, L, hps, hacc⟩ := hPI.ps
    have hsz := parts_sizes 10 l
    rw [bsl_list] at hpf
    have hx1 : x.data.toList.length ≤ 8192 := by
      have := hsz.2 x.data.toList (by rw [hpf]; simp)
      omega
    have hpl : pre.length ≤ 8193 := by
      have h1 := congrArg List.length hpf
      simp only [List.length_append, List.length_map, List.length_singleton] at h1
      have := hsz.1
      omega
    have hsl : (strs pre).length = pre.length := List.length_map _
    obtain ⟨W1, hW1⟩ : ∃ W1, W.setCell ⟨b + 4, 0, none⟩ (.int .i64 ((pre.length : Int) + 1)) = W1 := ⟨_, rfl⟩
    have c4 : W.cell? ⟨b + 4, 0, none⟩ = some (.int .i64 (pre.length : Nat)) := cell_heap hPI.ct rfl
    have f4 : W.frozen? ⟨b + 4, 0, none⟩ = false := by simp [World.frozen?, hPI.ct]
    have hps1 : PS (b + 8) (b + 3) W1 P gv rv dv L := by rw [← hW1]; exact hps.far (p := ⟨b + 4, 0, none⟩) (by show b + 4 < b + 8; omega) (by show b + 3 ≠ b + 4; omega) _
    have hB1 : Below b w W1 := by rw [← hW1]; exact hB.setCell (p := ⟨b + 4, 0, none⟩) (by show b ≤ b + 4; omega) _
    have hfar : ∀ k, k ≠ b + 4 → W1.heap[k]? = W.heap[k]? := fun k hk => by rw [← hW1]; exact Below.heap_setCell W ⟨b + 4, 0, none⟩ _ k hk
    have hct1 : W1.heap[b + 4]? = some (.cells #[.int .i64 ((pre.length : Int) + 1)] 3) := by
      rw [← hW1, set_bx hPI.ct]; rfl
    have hK1 : KeepsOthers W W1 := by rw [← hW1]; exact KeepsOthers.setCell _ _ _
    have hn1 := hacc.n1
    have hn2 := hacc.n2
    have hn3 := hacc.n3
    have HL := Lib.hid (readLine_any x.data.toList W1 hps1 (HT.out.low hB1 hgn) (by omega) (by omega) (by omega) (by omega))
    rw [str_eq] at HL
    have HPI := Lib.hid hPI
    have HAc := Lib.hid hacc
    have HB1 := Lib.hid hB1
    have HF := Lib.hid hfar
    have HC := Lib.hid hct1
    have HK := Lib.hid hK1
    have HW1 := Lib.hid hW1
    have HSL := Lib.hid hsl
    have hpi : (pre.length : Int) ≤ 8193 := by omega
    clear hPI hacc hB1 hfar hct1 hK1 hps1 hps hsz hpf hsl hn1 hn2 hn3 hB
    gi_wp2
    refine ⟨trivial, rfl, (CallsIn.inRound lp (callsIn_wide.2 HL.out)).mono ?_⟩
    rintro e W3 ⟨hfr, hcase⟩
    have z0 : W3.heap[b]? = some (.cells #[.slice none 0 0, .slice none 0 0, .slice none 0 0] 29) := (hfr.low b (by omega) (by omega)).trans ((HF.out b (by omega)).trans HPI.out.r0)
    have z1 : W3.heap[b + 1]? = some (.cells #[.int .i64 0] 3) := (hfr.low (b + 1) (by omega) (by omega)).trans ((HF.out (b + 1) (by omega)).trans HPI.out.r1)
    have z2 : W3.heap[b + 2]? = some (.cells #[.int .i64 0] 30) := (hfr.low (b + 2) (by omega) (by omega)).trans ((HF.out (b + 2) (by omega)).trans HPI.out.r2)
    have z4 : W3.heap[b + 4]? = some (.cells #[.int .i64 ((pre.length : Int) + 1)] 3) := (hfr.low (b + 4) (by omega) (by omega)).trans HC.out
    have hK3 : KeepsOthers W W3 := HK.out.trans hfr.keeps
    have hB3 : Below b w W3 := HB1.out.trans (hfr.below (by omega) (by omega))
    have hlen : ((pre ++ [(⟨x, hxl⟩ : Str)]).length : Int) = (pre.length : Int) + 1 := by simp
    have hstr : strs (pre ++ [(⟨x, hxl⟩ : Str)]) = strs pre ++ [x.data.toList] := by unfold strs; rw [List.map_append]; rfl
    have Z0 := Lib.hid z0; have Z1 := Lib.hid z1; have Z2 := Lib.hid z2; have Z4 := Lib.hid z4; have K3 := Lib.hid hK3; have B3 := Lib.hid hB3
    rcases hcase with ⟨hbad, rfl⟩ | ⟨hgood, rfl, gv', rv', dv', L', hps'⟩
    · have hbd : ∀ r, readL (strs (pre ++ [(⟨x, hxl⟩ : Str)]) ++ r) 0 Pol.none = (none, (pre ++ [(⟨x, hxl⟩ : Str)]).length) := fun r => by
        rw [hstr, HAc.out.bad hbad r, List.length_append, List.length_append, HSL.out]; rfl
      have HBD := Lib.hid hbd
      have HLn := Lib.hid hlen
      have k0 : W3.cell? ⟨b, 0, none⟩ = some (.slice none 0 0) := cell_heap z0 rfl
      have k1 : W3.cell? ⟨b, 1, none⟩ = some (.slice none 0 0) := cell_heap z0 rfl
      have k2 : W3.cell? ⟨b, 2, none⟩ = some (.slice none 0 0) := cell_heap z0 rfl
      have k3 : W3.cell? ⟨b + 1, 0, none⟩ = some (.int .i64 0) := cell_heap z1 rfl
      have k5 : W3.cell? ⟨b + 2, 0, none⟩ = some (.int .i64 0) := cell_heap z2 rfl
      have k6 : W3.cell? ⟨b + 4, 0, none⟩ = some (.int .i64 ((pre.length : Int) + 1)) := cell_heap z4 rfl
      have f0 : ∀ i, W3.frozen? ⟨b, i, none⟩ = false := fun i => by simp [World.frozen?, z0]
      have f1 : W3.frozen? ⟨b + 1, 0, none⟩ = false := by simp [World.frozen?, z1]
      have f2 : W3.frozen? ⟨b + 2, 0, none⟩ = false := by simp [World.frozen?, z2]
      have n1 : b + 1 ≠ b := by omega
      have n2 : b + 2 ≠ b := by omega
      have n3 : b + 4 ≠ b := by omega
      have n4 : b + 2 ≠ b + 1 := by omega
      have n5 : b + 4 ≠ b + 1 := by omega
      clear z0 z1 z2 z4 hK3 hB3 hlen hstr hbd hbad hfr c4 f4
      gi_wp2
      have HEnd := Lib.hid (px_end (b := b) W3 ((pre.length : Int) + 1) Z0.out Z1.out Z2.out)
      gi_region
      all_goals
        gi_wp2
        exact ⟨K3.out.trans HEnd.out.2.2.2.1, ⟨rfl, ⟨HEnd.out.1, by rw [HLn.out]; exact HEnd.out.2.1, HEnd.out.2.2.1, HBD.out⟩⟩, HEnd.out.2.2.2.2 _ B3.out⟩
    · have hend : PI b (pre ++ [⟨x, hxl⟩]) W3 := ⟨z0, z1, z2, by rw [hlen]; exact z4, _, _, _, _, _, hps', by rw [hstr]; exact HAc.out.snoc hgood (by omega)⟩
      have HE := Lib.hid hend
      have HKb : Hid (Kb (b + 5) W W3) := Lib.hid (fun k hk => (hfr.low (b + 5 + k) (by omega) (by omega)).trans (HF.out (b + 5 + k) (by omega)))
      clear z0 z1 z2 z4 hK3 hB3 hlen hstr hend hgood hfr hps' c4 f4
      gi_wp2
      exact ⟨K3.out, HKb.out, HE.out, B3.out⟩
  case done =>
    rintro D xs W hD hS ⟨hPI, hB⟩ hK
    obtain ⟨P, gv, rv, dv, L, hps, hacc⟩ := hPI.ps
    rw [bsl_list] at hS
    have hgo := hacc.go []
    rw [List.append_nil, show strs xs = parts 10 l from hS] at hgo
    have HR2 : Hid (parse l = if validate P = 0 then ⟨P, 0, 0⟩ else ⟨Pol.none, 0, validate P⟩) := Lib.hid (by rw [HR.out, hgo]; rfl)
    have HV := Lib.hid (Validate_any gv rv dv P W hps.rd hacc.ft (HT.out.low hB hgn))
    obtain ⟨A1, n1, rfl⟩ := hps.og.form
    obtain ⟨A2, n2, rfl⟩ := hps.orr.form
    obtain ⟨A3, n3, rfl⟩ := hps.od.form
    have g0 : W.cell? ⟨b + 3, 0, none⟩ = some (.slice A1 L.length n1) := cell_heap hps.bx rfl
    have g1 : W.cell? ⟨b + 3, 1, none⟩ = some (.slice A2 P.rs.length n2) := cell_heap hps.bx rfl
    have g2 : W.cell? ⟨b + 3, 2, none⟩ = some (.slice A3 P.ds.length n3) := cell_heap hps.bx rfl
    have HPI := Lib.hid hPI
    have HPS := Lib.hid hps
    have HB := Lib.hid hB
    have HKK := Lib.hid hK
    have hD2 : b + 8 ≤ D := by omega
    obtain ⟨V, hV⟩ : ∃ V, validate P = V := ⟨_, rfl⟩
    rw [hV] at HV HR2
    clear hPI hacc hps hB hK hgo hS hV hD
    gi_wp2
    refine ⟨trivial, rfl, (callsIn_wide.2 HV.out).mono ?_⟩
    rintro e W2 ⟨rfl, hb2⟩
    have PI2 := Lib.hid (HPI.out.kc (Kc.of hb2) hb2.size)
    have PS2 := Lib.hid (HPS.out.step hb2)
    have B2 := Lib.hid (HB.out.trans (hb2.mono (by have := HPS.out.ls; omega)))
    have K2 := Lib.hid ((hb2.block D (Array.getElem?_eq_some_iff.1 HKK.out).1).trans HKK.out)
    have k0 : W2.cell? ⟨b, 0, none⟩ = some (.slice none 0 0) := cell_heap PI2.out.r0 rfl
    have k1 : W2.cell? ⟨b, 1, none⟩ = some (.slice none 0 0) := cell_heap PI2.out.r0 rfl
    have k2 : W2.cell? ⟨b, 2, none⟩ = some (.slice none 0 0) := cell_heap PI2.out.r0 rfl
    have k3 : W2.cell? ⟨b + 1, 0, none⟩ = some (.int .i64 0) := cell_heap PI2.out.r1 rfl
    have k5 : W2.cell? ⟨b + 2, 0, none⟩ = some (.int .i64 0) := cell_heap PI2.out.r2 rfl
    have f0 : ∀ i, W2.frozen? ⟨b, i, none⟩ = false := fun i => by simp [World.frozen?, PI2.out.r0]
    have f1 : W2.frozen? ⟨b + 1, 0, none⟩ = false := by simp [World.frozen?, PI2.out.r1]
    have f2 : W2.frozen? ⟨b + 2, 0, none⟩ = false := by simp [World.frozen?, PI2.out.r2]
    have y0 : W2.cell? ⟨b + 3, 0, none⟩ = some (.slice A1 L.length n1) := cell_heap PS2.out.bx rfl
    have y1 : W2.cell? ⟨b + 3, 1, none⟩ = some (.slice A2 P.rs.length n2) := cell_heap PS2.out.bx rfl
    have y2 : W2.cell? ⟨b + 3, 2, none⟩ = some (.slice A3 P.ds.length n3) := cell_heap PS2.out.bx rfl
    have m1 : b + 1 ≠ b := by omega
    have m2 : b + 2 ≠ b := by omega
    have m3 : b + 3 ≠ b := by omega
    have m4 : b + 2 ≠ b + 1 := by omega
    have hD3 : ∀ k, k < b + 8 → k ≠ D := fun k hk => by omega
    have HD3 := Lib.hid hD3
    clear hb2 HPI HPS HB HKK g0 g1 g2 hD3
    by_cases h0 : V = 0
    · have h0' : ((V : Int) != 0) = false := by rw [bne_eq_false_iff_eq]; omega
      have HR3 : Hid (parse l = ⟨P, 0, 0⟩) := Lib.hid (by rw [HR2.out, if_pos h0])
      clear h0
      gi_wp2
      have F := fin3 W2 (.slice A1 L.length n1) (.slice A2 P.rs.length n2) (.slice A3 P.ds.length n3) (.int .i64 0) (.int .i64 0) _ _ _ _ _ PI2.out.r0 PI2.out.r1 PI2.out.r2
      generalize ((((W2.setCell ⟨b, 0, none⟩ (.slice A1 L.length n1)).setCell ⟨b, 1, none⟩ (.slice A2 P.rs.length n2)).setCell ⟨b, 2, none⟩ (.slice A3 P.ds.length n3)).setCell ⟨b + 1, 0, none⟩ (.int .i64 0)).setCell ⟨b + 2, 0, none⟩ (.int .i64 0) = V5 at F ⊢
      have hK' := F.ko.same D _ K2.out rfl
      have hkc : Kc V5 (V5.putObj D (.deferred none)) := Kc.grown (grownBy_putObj' _ D _) (fun r e => by cases e; exact ⟨_, hK', rfl⟩)
      have hbe : Below w.heap.size w (V5.putObj D (.deferred none)) := by
        rw [HBs.out]
        exact (F.be w B2.out).trans (belowK_b (n₀ := b) (w := W0) (by omega) V5 D _ _ (by omega) hK' rfl rfl)
      have t0 : (V5.putObj D (.deferred none)).cell? ⟨b, 0, none⟩ = some (.slice A1 L.length n1) := cell_heap (hkc _ _ _ _ F.z0) rfl
      have t1 : (V5.putObj D (.deferred none)).cell? ⟨b, 1, none⟩ = some (.slice A2 P.rs.length n2) := cell_heap (hkc _ _ _ _ F.z0) rfl
      have t2 : (V5.putObj D (.deferred none)).cell? ⟨b, 2, none⟩ = some (.slice A3 P.ds.length n3) := cell_heap (hkc _ _ _ _ F.z0) rfl
      have t3 : (V5.putObj D (.deferred none)).cell? ⟨b + 1, 0, none⟩ = some (.int .i64 0) := cell_heap (hkc _ _ _ _ F.z1) rfl
      have t4 : (V5.putObj D (.deferred none)).cell? ⟨b + 2, 0, none⟩ = some (.int .i64 0) := cell_heap (hkc _ _ _ _ F.z2) rfl
      refine ⟨by simp, .inl ⟨_, _, rfl, run_takeDeferred hK', ?_⟩⟩
      refine ⟨.tuple #[.agg #[.slice A1 L.length n1, .slice A2 P.rs.length n2, .slice A3 P.ds.length n3], .int .i64 0, .int .i64 0], ?_, ⟨_, _, _, by rw [HR3.out]; rfl, by rw [HR3.out]; exact ((F.ps PS2.out (by omega)).kc hkc (by have := hbe.size; simp [World.putObj])).rd, hbe⟩⟩
      simp [results, Tryd.f9, go_sem, t0, t1, t2, t3, t4]
    · have h0' : ((V : Int) != 0) = true := by rw [bne_iff_ne]; omega
      have HR3 : Hid (parse l = ⟨Pol.none, 0, V⟩) := Lib.hid (by rw [HR2.out, if_neg h0])
      clear h0
      gi_wp2
      have F := fin3 W2 (.slice none 0 0) (.slice none 0 0) (.slice none 0 0) (.int .i64 0) (.int .i64 (V : Nat)) _ _ _ _ _ PI2.out.r0 PI2.out.r1 PI2.out.r2
      generalize ((((W2.setCell ⟨b, 0, none⟩ (.slice none 0 0)).setCell ⟨b, 1, none⟩ (.slice none 0 0)).setCell ⟨b, 2, none⟩ (.slice none 0 0)).setCell ⟨b + 1, 0, none⟩ (.int .i64 0)).setCell ⟨b + 2, 0, none⟩ (.int .i64 (V : Nat)) = V5 at F ⊢
      have hK' := F.ko.same D _ K2.out rfl
      have hkc : Kc V5 (V5.putObj D (.deferred none)) := Kc.grown (grownBy_putObj' _ D _) (fun r e => by cases e; exact ⟨_, hK', rfl⟩)
      have hbe : Below w.heap.size w (V5.putObj D (.deferred none)) := by
        rw [HBs.out]
        exact (F.be w B2.out).trans (belowK_b (n₀ := b) (w := W0) (by omega) V5 D _ _ (by omega) hK' rfl rfl)
      have t0 : (V5.putObj D (.deferred none)).cell? ⟨b, 0, none⟩ = some (.slice none 0 0) := cell_heap (hkc _ _ _ _ F.z0) rfl
      have t1 : (V5.putObj D (.deferred none)).cell? ⟨b, 1, none⟩ = some (.slice none 0 0) := cell_heap (hkc _ _ _ _ F.z0) rfl
      have t2 : (V5.putObj D (.deferred none)).cell? ⟨b, 2, none⟩ = some (.slice none 0 0) := cell_heap (hkc _ _ _ _ F.z0) rfl
      have t3 : (V5.putObj D (.deferred none)).cell? ⟨b + 1, 0, none⟩ = some (.int .i64 0) := cell_heap (hkc _ _ _ _ F.z1) rfl
      have t4 : (V5.putObj D (.deferred none)).cell? ⟨b + 2, 0, none⟩ = some (.int .i64 (V : Nat)) := cell_heap (hkc _ _ _ _ F.z2) rfl
      refine ⟨by simp, .inl ⟨_, _, rfl, run_takeDeferred hK', ?_⟩⟩
      refine ⟨.tuple #[.agg #[.slice none 0 0, .slice none 0 0, .slice none 0 0], .int .i64 0, .int .i64 (V : Nat)], ?_, ⟨_, _, _, by rw [HR3.out]; rfl, by rw [HR3.out]; exact RdP.nil _ _, hbe⟩⟩
      simp [results, Tryd.f9, go_sem, t0, t1, t2, t3, t4]
  case stop =>
    rintro D c pre W hD ⟨r, hpf⟩ ⟨⟨rfl, hX⟩, hB⟩ hK
    rw [bsl_list] at hpf
    have HR3 : Hid (parse l = ⟨Pol.none, pre.length, 1⟩) := Lib.hid (by
      have := hX.bad r
      rw [show strs pre ++ r = parts 10 l from hpf.symm] at this
      rw [HR.out, this]; rfl)
    gi_wp2
    have hkc : Kc W (W.putObj D (.deferred none)) := Kc.grown (grownBy_putObj' _ D _) (fun r e => by cases e; exact ⟨_, hK, rfl⟩)
    have hbe : Below w.heap.size w (W.putObj D (.deferred none)) := by
      rw [HBs.out]
      exact hB.trans (belowK_b (n₀ := b) (w := W0) (by omega) W D _ _ (by omega) hK rfl rfl)
    have t0 : (W.putObj D (.deferred none)).cell? ⟨b, 0, none⟩ = some (.slice none 0 0) := cell_heap (hkc _ _ _ _ hX.r0) rfl
    have t1 : (W.putObj D (.deferred none)).cell? ⟨b, 1, none⟩ = some (.slice none 0 0) := cell_heap (hkc _ _ _ _ hX.r0) rfl
    have t2 : (W.putObj D (.deferred none)).cell? ⟨b, 2, none⟩ = some (.slice none 0 0) := cell_heap (hkc _ _ _ _ hX.r0) rfl
    have t3 : (W.putObj D (.deferred none)).cell? ⟨b + 1, 0, none⟩ = some (.int .i64 (pre.length : Nat)) := cell_heap (hkc _ _ _ _ hX.r1) rfl
    have t4 : (W.putObj D (.deferred none)).cell? ⟨b + 2, 0, none⟩ = some (.int .i64 1) := cell_heap (hkc _ _ _ _ hX.r2) rfl
    refine ⟨by simp, .inl ⟨_, _, rfl, run_takeDeferred hK, ?_⟩⟩
    refine ⟨.tuple #[.agg #[.slice none 0 0, .slice none 0 0, .slice none 0 0], .int .i64 (pre.length : Nat), .int .i64 1], ?_, ⟨_, _, _, by rw [HR3.out]; rfl, by rw [HR3.out]; exact RdP.nil _ _, hbe⟩⟩
    simp [results, Tryd.f9, go_sem, t0, t1, t2, t3, t4]
theorem Parse_any (l : By) (w : World) (hm : l.length ≤ maxLen) (ht : Tb w) : Calls Tryd.prog 9 #[.string (bsl l)] w (ParseP w (parse l)) := by
  by_cases h : l.length ≤ 8192
  · exact Parse_short l w h ht
  · exact Parse_long l w (by omega) hm
end Go.Proofs.YtbibekojbjonoaaDoor.Po
