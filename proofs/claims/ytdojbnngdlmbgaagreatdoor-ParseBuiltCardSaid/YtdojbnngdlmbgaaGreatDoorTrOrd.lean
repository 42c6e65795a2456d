/-
  Regions that draw their order: operations that come first, in any order, each of which leaves all that is there as it was; then the others.
-/
import Derived.Test.YtdojbnngdlmbgaaGreatDoorTrFr
import Derived.Orders
import Derived.StillTail
namespace Go.Proofs.YtdojbnngdlmbgaaGreatDoor.Tr
open Go.RowKit

/-- How many of the first n are not done. -/
def un (f : Nat → Bool) : Nat → Nat
  | 0 => 0
  | n + 1 => un f n + (if f n then 0 else 1)
def upd (f : Nat → Bool) (i : Nat) : Nat → Bool := fun j => if j = i then true else f j
theorem un_ge (f : Nat → Bool) (i : Nat) : ∀ n, n ≤ i → un (upd f i) n = un f n
  | 0, _ => rfl
  | n + 1, h => by
    have hne : n ≠ i := by omega
    rw [un, un, un_ge f i n (by omega)]
    simp [upd, hne]
theorem un_lt (f : Nat → Bool) (i : Nat) (hf : f i = false) : ∀ n, i < n → un (upd f i) n + 1 = un f n
  | n + 1, h => by
    rw [un, un]
    by_cases e : n = i
    · subst e; rw [un_ge f n n (Nat.le_refl _)]; simp [upd, hf]
    · have q := un_lt f i hf n (by omega)
      have u : upd f i n = f n := by simp [upd, e]
      rw [u]; omega
theorem un_zero (f : Nat → Bool) : ∀ n, un f n = 0 → ∀ i, i < n → f i = true
  | n + 1, h, i, hi => by
    rw [un] at h
    by_cases e : i = n
    · subst e
      cases hf : f i with
      | true => rfl
      | false => rw [hf] at h; simp at h
    · exact un_zero f n (by omega) i (by omega)
theorem un_pos (f : Nat → Bool) : ∀ n, un f n ≠ 0 → ∃ i, i < n ∧ f i = false ∧ ∀ j, j < i → f j = true
  | 0, h => absurd rfl h
  | n + 1, h => by
    by_cases e : un f n = 0
    · refine ⟨n, by omega, ?_, un_zero f n e⟩
      rw [un, e] at h
      cases hf : f n with
      | false => rfl
      | true => rw [hf] at h; simp at h
    · obtain ⟨i, h1, h2, h3⟩ := un_pos f n e
      exact ⟨i, by omega, h2, h3⟩
theorem un_all (f : Nat → Bool) : ∀ n, (∀ i, i < n → f i = false) → un f n = n
  | 0, _ => rfl
  | n + 1, h => by rw [un, un_all f n (fun i hi => h i (by omega)), h n (by omega)]; rfl

/-- Whether operation j comes behind i. -/
def behind (ops : Array Oper) : Nat → Nat → Nat → Bool
  | 0, _, _ => false
  | k + 1, j, i => match ops[j]? with
    | some o => o.after.any fun e => Region.binds .any e && (Nat.beq e.on i || behind ops k e.on i)
    | none => false
/-- The first n operations come ahead of the others. -/
def headB (ops : Array Oper) (n : Nat) : Bool :=
  Nat.blt n ops.size && ((List.range ops.size).all fun i => match ops[i]? with
    | some o => o.after.all fun e => !Region.binds .any e || Nat.blt e.on i
    | none => true) &&
  ((List.range n).all fun i => behind ops ops.size n i) && ((List.range ops.size).all fun j => Nat.ble j n || behind ops ops.size j n)
section
variable {P : Program} {ops : Array Oper} {Q : Exit → Act → World → Prop}
def fn (l : Array Bool) : Nat → Bool := fun j => l.getD j false
structure Hv (ops : Array Oper) (n : Nat) (l : Array Bool) : Prop where
  size : l.size = ops.size
  closed : ∀ j o, ops[j]? = some o → fn l j = true → ∀ e ∈ o.after, Region.binds .any e = true → fn l e.on = true
  tail : ∀ t, n ≤ t → fn l t = false
theorem behind_done {n : Nat} {l : Array Bool} (h : Hv ops n l) : ∀ (k j i : Nat) (o : Oper), ops[j]? = some o → (∀ e ∈ o.after, Region.binds .any e = true → fn l e.on = true) → behind ops k j i = true → fn l i = true
  | 0, _, _, _, _, _, hb => by simp [behind] at hb
  | k + 1, j, i, o, ho, hd, hb => by
    simp only [behind, ho] at hb
    obtain ⟨e, he, hb⟩ := Array.any_eq_true'.1 hb
    simp only [Bool.and_eq_true, Bool.or_eq_true] at hb
    have h1 := hd e he hb.1
    rcases hb.2 with h2 | h2
    · rw [← Nat.eq_of_beq_eq_true h2]; exact h1
    · cases hx : ops[e.on]? with
      | none => 
        cases k with
        | zero => simp [behind] at h2
        | succ k => simp [behind, hx] at h2
      | some o2 => exact behind_done h k e.on i o2 hx (fun e2 he2 hb2 => h.closed e.on o2 hx h1 e2 he2 hb2) h2
theorem fn_set {l : Array Bool} {i : Nat} (hi : i < l.size) : fn (l.setIfInBounds i true) = upd (fn l) i := by
  funext j
  unfold fn upd
  by_cases e : j = i
  · subst e; simp [Array.getD, hi]
  · rw [if_neg e, getD_set_ne false (fun h => e h.symm)]
theorem l_done {n : Nat} {l : Array Bool} (h : Hv ops n l) (hn : n ≤ ops.size) (ha : ∀ i, i < n → fn l i = true) : l = (List.replicate n true ++ List.replicate (ops.size - n) false).toArray := by
  apply Array.ext
  · simp [h.size]; omega
  · intro i h1 h2
    by_cases e : i < n
    · have := ha i e
      unfold fn at this
      simp [Array.getD, h1] at this
      simp [this, e]
    · have := h.tail i (by omega)
      unfold fn at this
      simp [Array.getD, h1] at this
      have g : (List.replicate n true ++ List.replicate (ops.size - n) false)[i]? = some false := by
        rw [List.getElem?_append_right (by simp; omega)]
        have : i < ops.size := by rw [← h.size]; exact h1
        simp [List.getElem?_replicate]; omega
      simp only [List.getElem_toArray]
      rw [this]
      exact (List.getElem?_eq_some_iff.1 g).2.symm
theorem any_head {n : Nat} (hB : headB ops n = true) (I : (Nat → Bool) → Act → World → Prop)
    (hstep : ∀ i, i < n → ∀ S a w, I S a w → (∀ j, Region.waitsFor .any ops i j = true → S j = true) → S i = false → wpOp P ops Q i (fun a' w' => I (upd S i) a' w') a w)
    (hend : ∀ S a w, I S a w → (∀ i, i < n → S i = true) → wpAny P .any ops Q (ops.size - n) (List.replicate n true ++ List.replicate (ops.size - n) false).toArray a w) :
    ∀ (m : Nat) (l : Array Bool) (a : Act) (w : World), un (fn l) n = m → Hv ops n l → I (fn l) a w → wpAny P .any ops Q (m + (ops.size - n)) l a w := by
  simp only [headB, Bool.and_eq_true] at hB
  obtain ⟨⟨⟨b0, b1⟩, b2⟩, b3⟩ := hB
  have hn : n < ops.size := Nat.le_of_ble_eq_true b0
  intro m
  induction m with
  | zero =>
    intro l a w hu hv hI
    have hd := un_zero _ _ hu
    rw [Nat.zero_add]
    have e := l_done hv (by omega) hd
    rw [e]
    exact hend _ _ _ hI hd
  | succ m ih =>
    intro l a w hu hv hI
    obtain ⟨i0, hi0, hf0, hl0⟩ := un_pos (fn l) n (by omega)
    have hz : i0 < ops.size := by omega
    have hr0 : i0 ∈ Region.ready .any ops l := by
      refine mem_ready.2 ⟨?_, ops[i0], Array.getElem?_eq_getElem hz, fun e he hb => ?_⟩
      · have : i0 < l.size := by rw [hv.size]; exact hz
        unfold fn at hf0
        simp [Array.getD, this] at hf0 ⊢
        exact hf0
      · have q := List.all_eq_true.1 b1 i0 (List.mem_range.2 hz)
        rw [Array.getElem?_eq_getElem hz] at q
        have q2 := Array.all_eq_true_iff_forall_mem.1 q e he
        rw [hb] at q2
        have q3 : e.on < i0 := (by simpa using q2)
        exact hl0 _ q3
    rw [show m + 1 + (ops.size - n) = (m + (ops.size - n)) + 1 by omega]
    refine ⟨(fun h => by rw [h] at hr0; cases hr0), fun i hi => ?_⟩
    obtain ⟨g1, o, g2, g3⟩ := mem_ready.1 hi
    have hio : i < ops.size := (Array.getElem?_eq_some_iff.1 g2).1
    have hil : i < l.size := by rw [hv.size]; exact hio
    have hfi : fn l i = false := getD_both g1
    have hin : i < n := by
      refine Nat.lt_of_not_le fun hge => ?_
      have all : ∀ x, x < n → fn l x = true := by
        intro x hx
        have q := List.all_eq_true.1 b2 x (List.mem_range.2 hx)
        by_cases e : i = n
        · subst e
          exact behind_done hv _ _ _ o g2 g3 q
        · have q3 := List.all_eq_true.1 b3 i (List.mem_range.2 hio)
          simp only [Bool.or_eq_true] at q3
          rcases q3 with q3 | q3
          · have := Nat.le_of_ble_eq_true q3; omega
          · have t2 : fn l n = true := behind_done hv _ _ _ o g2 g3 q3
            rw [hv.tail n (Nat.le_refl _)] at t2
            cases t2
      have := all i0 hi0
      rw [hf0] at this
      cases this
    refine wpOp_mono (fun a' w' h' => ?_) (hstep i hin (fn l) a w hI (fun j hj => ?_) hfi)
    · refine ih _ a' w' ?_ ?_ ?_
      · rw [fn_set hil]
        have := un_lt (fn l) i hfi n hin
        omega
      · refine ⟨by simp [hv.size], fun j o' hj hl e he hb => ?_, fun t ht => ?_⟩
        · rw [fn_set hil] at hl ⊢
          unfold upd at hl ⊢
          split
          · rfl
          · by_cases e2 : j = i
            · subst e2
              rw [g2] at hj
              have := Option.some.inj hj
              subst this
              exact g3 e he hb
            · rw [if_neg e2] at hl
              exact hv.closed j o' hj hl e he hb
        · rw [fn_set hil]
          unfold upd
          rw [if_neg (by omega)]
          exact hv.tail t ht
      · rw [fn_set hil]; exact h'
    · obtain ⟨oj, h1, e2, h2, h3, h4⟩ := Region.waitsFor_spec hj
      rw [g2] at h1
      have := Option.some.inj h1
      subst this
      rw [← h4]
      exact g3 e2 h2 h3
theorem region_head {id n : Nat} {a : Act} {w : World} (hm : P.follows .mixedOrders = true) (hB : headB ops n = true) (I : (Nat → Bool) → Act → World → Prop) (h0 : I (fun _ => false) a w.drew)
    (hstep : ∀ i, i < n → ∀ S a w, I S a w → (∀ j, Region.waitsFor .any ops i j = true → S j = true) → S i = false → wpOp P ops Q i (fun a' w' => I (upd S i) a' w') a w)
    (hend : ∀ S a w, I S a w → (∀ i, i < n → S i = true) → wpAny P .any ops Q (ops.size - n) (List.replicate n true ++ List.replicate (ops.size - n) false).toArray a w) : (Code.region id ops true).wp P Q a w := by
  refine wp_region_any hm ?_
  have hn : n < ops.size := by
    simp only [headB, Bool.and_eq_true] at hB
    exact Nat.le_of_ble_eq_true hB.1.1.1
  have hf : fn (Array.replicate ops.size false) = fun _ => false := by
    funext j; exact getD_replicate_false _ _
  have hu : un (fn (Array.replicate ops.size false)) n = n := un_all _ _ (fun i _ => by rw [hf])
  have h := any_head hB I hstep hend n (Array.replicate ops.size false) a w.drew hu ⟨by simp, (fun j o _ hj => by rw [hf] at hj; cases hj), fun t _ => by rw [hf]⟩ (by rw [hf]; exact h0)
  rw [show n + (ops.size - n) = ops.size by omega] at h
  exact h
/-- One operation that alone is next. -/
theorem any_one {i fuel : Nat} {l : Array Bool} {a : Act} {w : World} {o : Oper} (ho : ops[i]? = some o) (hg : o.guard = none) (hr : Region.ready .any ops l = [i]) (h : o.wp P a w (wpAny P .any ops Q fuel (l.setIfInBounds i true)) Q) : wpAny P .any ops Q (fuel + 1) l a w := by
  refine wpAny_all hr (by simp) fun j hj => ?_
  have e : j = i := by simpa using hj
  subst e
  unfold wpOp
  rw [ho]
  simp only [f_free hg, if_true]
  exact .inl h
theorem any_two {i j fuel : Nat} {l : Array Bool} {a : Act} {w : World} {o p : Oper} (ho : ops[i]? = some o) (hp : ops[j]? = some p) (hg : o.guard = none) (hg2 : p.guard = none) (hr : Region.ready .any ops l = [i, j]) (h : o.wp P a w (wpAny P .any ops Q fuel (l.setIfInBounds i true)) Q) (h2 : p.wp P a w (wpAny P .any ops Q fuel (l.setIfInBounds j true)) Q) : wpAny P .any ops Q (fuel + 1) l a w := by
  refine wpAny_all hr (by simp) fun x hx => ?_
  have e : x = i ∨ x = j := by simpa using hx
  unfold wpOp
  rcases e with rfl | rfl
  · rw [ho]; simp only [f_free hg, if_true]; exact .inl h
  · rw [hp]; simp only [f_free hg2, if_true]; exact .inl h2
/-- An operation whose run is known. -/
theorem op_value {o : Oper} {a : Act} {w w' : World} {v : Value} {K : Act → World → Prop} (hr : (execOp a.eval o).run P w = .ok (.value v) w') (h : K (a.put o.dst v) w') : o.wp P a w K Q := by
  unfold Oper.wp; rw [hr]; exact h
theorem op_skip {o : Oper} {a : Act} {w w' : World} {K : Act → World → Prop} (hr : (execOp a.eval o).run P w = .ok .skip w') (h : K (a.put o.dst undef) w') : o.wp P a w K Q := by
  unfold Oper.wp; rw [hr]; exact h

/-- The same, its run known. -/
theorem any_val (i d : Nat) {fuel : Nat} {l : Array Bool} {a : Act} {w w' : World} {o : Oper} {v : Value} (ho : ops[i]? = some o) (hg : o.guard = none) (hd : o.dst = some d) (hr : Region.ready .any ops l = [i]) (hrun : (execOp a.eval o).run P w = .ok (.value v) w') (h : wpAny P .any ops Q fuel (l.setIfInBounds i true) (a.put (some d) v) w') : wpAny P .any ops Q (fuel + 1) l a w :=
  any_one ho hg hr (op_value hrun (by rw [hd]; exact h))
theorem any_store (i : Nat) {fuel : Nat} {l : Array Bool} {a : Act} {w w' : World} {o : Oper} (ho : ops[i]? = some o) (hg : o.guard = none) (hd : o.dst = none) (hr : Region.ready .any ops l = [i]) (hrun : (execOp a.eval o).run P w = .ok .skip w') (h : wpAny P .any ops Q fuel (l.setIfInBounds i true) a w') : wpAny P .any ops Q (fuel + 1) l a w :=
  any_one ho hg hr (op_skip hrun (by rw [hd]; exact h))
/-- A frame that is l0 but for the slots D, of which those in L are known. -/
structure Lt (l0 : List Value) (ds : List Deferred) (D : List Nat) (L : List (Nat × Value)) (a : Act) : Prop where
  size : a.tmps.size = l0.length
  low : ∀ j, D.contains j = false → a.tmps.getD j undef = l0.getD j undef
  def_ : a.defers = ds
  get : ∀ j v, lk L j = some v → a.tmps.getD j undef = v
theorem put_same {a : Act} {d : Nat} {v : Value} (h : d < a.tmps.size) : (a.put (some d) v).tmps.getD d undef = v := by
  simp [Act.put, Array.getD, h]
theorem put_other {a : Act} {d j : Nat} {v : Value} (h : d ≠ j) : (a.put (some d) v).tmps.getD j undef = a.tmps.getD j undef := by
  simp only [Act.put]
  rw [Array.getD_eq_getD_getElem?, Array.getElem?_setIfInBounds_ne h, ← Array.getD_eq_getD_getElem?]
theorem beq_ne {d j : Nat} (h : d ≠ j) : Nat.beq d j = false := by
  cases hb : Nat.beq d j with
  | false => rfl
  | true => exact absurd (Nat.eq_of_beq_eq_true hb) h
theorem Lt.eval {l0 : List Value} {ds : List Deferred} {D : List Nat} {L : List (Nat × Value)} {a : Act} (h : Lt l0 ds D L a) (j : Nat) {v : Value} (hl : lk L j = some v) : a.eval (.tmp j) = v := h.get j v hl
theorem Lt.put {l0 : List Value} {ds : List Deferred} {D : List Nat} {L : List (Nat × Value)} {a : Act} (h : Lt l0 ds D L a) (d : Nat) (v : Value) (hD : D.contains d = true) (hn : d < l0.length) : Lt l0 ds D ((d, v) :: L) (a.put (some d) v) := by
  have hd : d < a.tmps.size := by rw [h.size]; exact hn
  refine ⟨by simp [Act.put, h.size], fun j hj => ?_, h.def_, fun j u hj => ?_⟩
  · rw [put_other (fun e => by subst e; rw [hD] at hj; cases hj)]
    exact h.low j hj
  · rw [lk_cons] at hj
    by_cases e : d = j
    · subst e
      rw [show Nat.beq d d = true by simp, if_pos rfl] at hj
      cases hj
      exact put_same hd
    · rw [beq_ne e] at hj
      rw [put_other e]
      exact h.get j u hj
theorem Lt.add {l0 : List Value} {ds : List Deferred} {D : List Nat} {L : List (Nat × Value)} {a : Act} (h : Lt l0 ds D L a) {d : Nat} {v : Value} (hv : a.tmps.getD d undef = v) : Lt l0 ds D ((d, v) :: L) a := by
  refine ⟨h.size, h.low, h.def_, fun j u hj => ?_⟩
  rw [lk_cons] at hj
  by_cases e : d = j
  · subst e
    rw [show Nat.beq d d = true by simp, if_pos rfl] at hj
    rw [hv]; exact Option.some.inj hj
  · rw [beq_ne e] at hj
    exact h.get j u hj
def setAll (l : List Value) (u : Nat → Value) : List Nat → List Value
  | [] => l
  | d :: D => setAll (l.set d (u d)) u D
theorem setAll_len (u : Nat → Value) : ∀ (D : List Nat) (l : List Value), (setAll l u D).length = l.length
  | [], l => rfl
  | d :: D, l => by rw [setAll, setAll_len u D]; simp
theorem setAll_get (u : Nat → Value) (x : Value) : ∀ (D : List Nat) (l : List Value) (j : Nat), j < l.length → (setAll l u D).getD j x = if D.contains j then u j else l.getD j x
  | [], l, j, h => by simp [setAll]
  | d :: D, l, j, h => by
    rw [setAll, setAll_get u x D _ j (by simpa using h), List.contains_cons]
    cases hc : D.contains j with
    | true => simp
    | false =>
      by_cases e : j = d
      · subst e; simp [h]
      · have e' : d ≠ j := fun q => e q.symm
        simp [e, List.getElem?_set_ne e']
theorem toArr_get (l : List Value) (j : Nat) (h : j < l.toArray.size) : l.toArray[j] = l.getD j undef := by
  have h' : j < l.length := by simpa using h
  simp [List.getD, h']
/-- The frame, written out. -/
theorem Lt.lit {l0 : List Value} {ds : List Deferred} {D : List Nat} {L : List (Nat × Value)} {a : Act} (h : Lt l0 ds D L a) : ∃ u : Nat → Value, a = ⟨(setAll l0 u D).toArray, ds⟩ ∧ ∀ j v, lk L j = some v → u j = v := by
  refine ⟨fun j => a.tmps.getD j undef, ?_, h.get⟩
  obtain ⟨tm, df⟩ := a
  have h3 := h.def_
  simp only at h3
  subst h3
  congr 1
  have hs : tm.size = l0.length := h.size
  apply Array.ext
  · simp [setAll_len, hs]
  · intro j h1 h2
    have hj : j < l0.length := by omega
    have g := setAll_get (fun j => tm.getD j undef) undef D l0 j hj
    have e1 : tm[j] = tm.getD j undef := by simp [Array.getD, h1]
    refine (e1.trans ?_).trans (toArr_get _ j h2).symm
    rw [show (setAll l0 (fun j => ({ tmps := tm, defers := df } : Act).tmps.getD j undef) D).getD j undef = _ from g]
    cases hc : D.contains j with
    | true => rfl
    | false => exact h.low j hc
/-- What stands while the first operations are carried out. -/
structure Ki (R : World → World → Prop) (l0 : List Value) (ds : List Deferred) (D : List Nat) (L : List (Nat × Value)) (dl : List Nat) (F : Nat → Value → World → Prop) (w1 : World) (S : Nat → Bool) (a : Act) (w : World) : Prop where
  lt : Lt l0 ds D L a
  bl : R w1 w
  dom : ∀ j, S j = true → j < dl.length
  known : ∀ j d, S j = true → dl[j]? = some d → F j (a.tmps.getD d undef) w
/-- What is asked of the tables. -/
def tabB (dl D : List Nat) (L : List (Nat × Value)) (n : Nat) : Bool :=
  decide dl.Nodup && dl.all (fun d => D.contains d && (lk L d).isNone && Nat.blt d n)
section
variable {R : World → World → Prop} {l0 : List Value} {ds : List Deferred} {D : List Nat} {L : List (Nat × Value)} {dl : List Nat} {F : Nat → Value → World → Prop} {w1 : World} {S : Nat → Bool} {a : Act} {w : World}
theorem Ki.step (hI : Ki R l0 ds D L dl F w1 S a w) (hT : tabB dl D L l0.length = true) (htr : ∀ x y z, R x y → R y z → R x z) (hst : ∀ i v w w', F i v w → R w w' → F i v w') {i d : Nat} {v : Value} {w' : World} (hd : dl[i]? = some d) (hb : R w w') (hF : F i v w') : Ki R l0 ds D L dl F w1 (upd S i) (a.put (some d) v) w' := by
  simp only [tabB, Bool.and_eq_true, decide_eq_true_eq] at hT
  obtain ⟨hnd, hall⟩ := hT
  obtain ⟨hi, hdi⟩ := List.getElem?_eq_some_iff.1 hd
  have q := List.all_eq_true.1 hall d (by rw [← hdi]; exact List.getElem_mem hi)
  simp only [Bool.and_eq_true] at q
  obtain ⟨⟨q1, q2⟩, q3⟩ := q
  have hn : d < l0.length := Nat.le_of_ble_eq_true q3
  have P0 := hI.lt.put d v q1 hn
  have hda : d < a.tmps.size := by rw [hI.lt.size]; exact hn
  refine ⟨⟨P0.size, P0.low, P0.def_, fun j u hj => ?_⟩, htr _ _ _ hI.bl hb, fun j hj => ?_, fun j dj hj hdj => ?_⟩
  · by_cases e : d = j
    · subst e; rw [hj] at q2; cases q2
    · rw [put_other e]; exact hI.lt.get j u hj
  · unfold upd at hj
    split at hj
    · rename_i e; subst e; exact hi
    · exact hI.dom j hj
  · unfold upd at hj
    by_cases e : j = i
    · subst e
      rw [hd] at hdj
      cases hdj
      rw [put_same hda]; exact hF
    · rw [if_neg e] at hj
      have hne : d ≠ dj := by
        intro e2; subst e2
        obtain ⟨hj', hdj'⟩ := List.getElem?_eq_some_iff.1 hdj
        exact e ((List.getElem_inj hnd).1 (hdj'.trans hdi.symm))
      rw [put_other hne]
      exact hst _ _ _ _ (hI.known j dj hj hdj) hb
theorem head_value (hI : Ki R l0 ds D L dl F w1 S a w) (hT : tabB dl D L l0.length = true) (htr : ∀ x y z, R x y → R y z → R x z) (hst : ∀ i v w w', F i v w → R w w' → F i v w') (i d : Nat) {o : Oper} {v : Value} {w' : World} (ho : ops[i]? = some o) (hg : o.guard = none) (hdo : o.dst = some d) (hd : dl[i]? = some d)
    (hr : (execOp a.eval o).run P w = .ok (.value v) w') (hb : R w w') (hF : F i v w') : wpOp P ops Q i (fun a' w' => Ki R l0 ds D L dl F w1 (upd S i) a' w') a w := by
  unfold wpOp
  rw [ho]
  simp only [f_free hg, if_true]
  exact .inl (op_value hr (by rw [hdo]; exact hI.step hT htr hst hd hb hF))
theorem head_call (hI : Ki R l0 ds D L dl F w1 S a w) (hT : tabB dl D L l0.length = true) (htr : ∀ x y z, R x y → R y z → R x z) (hst : ∀ i v w w', F i v w → R w w' → F i v w') (i d : Nat) {o : Oper} {f : FuncId} {args : Array Value} (ho : ops[i]? = some o) (hg : o.guard = none) (hdo : o.dst = some d) (hd : dl[i]? = some d)
    (hr : (execOp a.eval o).run P w = .ok (.enter f args) w) (hc : Calls P f args w fun e w' => ∃ v, e = .returned v ∧ R w w' ∧ F i v w') : wpOp P ops Q i (fun a' w' => Ki R l0 ds D L dl F w1 (upd S i) a' w') a w := by
  unfold wpOp
  rw [ho]
  simp only [f_free hg, if_true]
  refine .inl ?_
  unfold Oper.wp
  rw [hr, Oper.upon_enter]
  refine hc.mono ?_
  rintro e w' ⟨v, rfl, hb, hF⟩
  show Ki _ _ _ _ _ _ _ _ _ _ _
  rw [hdo]; exact hI.step hT htr hst hd hb hF
end
theorem getD_toList (t : Array Value) (j : Nat) : t.getD j undef = t.toList.getD j undef := by simp [Array.getD_eq_getD_getElem?, List.getD]
theorem region_ki {id n : Nat} {a0 : Act} {w : World} (R : World → World → Prop) (hrf : R w.drew w.drew) (dl D : List Nat) (L : List (Nat × Value)) (F : Nat → Value → World → Prop) (hm : P.follows .mixedOrders = true) (hB : headB ops n = true) (hT : tabB dl D L a0.tmps.size = true) (hL : ∀ j v, lk L j = some v → a0.tmps.getD j undef = v)
    (h : ∀ l0 ds, l0 = a0.tmps.toList → ds = a0.defers → tabB dl D L l0.length = true →
      (∀ i, i < n → ∀ S a w', Ki R l0 ds D L dl F w.drew S a w' → (∀ j, Region.waitsFor .any ops i j = true → S j = true) → wpOp P ops Q i (fun a' w' => Ki R l0 ds D L dl F w.drew (upd S i) a' w') a w') ∧
      (∀ a w', Lt l0 ds D L a → R w.drew w' → (∀ i d, i < n → dl[i]? = some d → F i (a.tmps.getD d undef) w') → wpAny P .any ops Q (ops.size - n) (List.replicate n true ++ List.replicate (ops.size - n) false).toArray a w')) : (Code.region id ops true).wp P Q a0 w := by
  obtain ⟨h1, h2⟩ := h _ _ rfl rfl (by simpa using hT)
  refine region_head hm hB (fun S a w' => Ki R a0.tmps.toList a0.defers D L dl F w.drew S a w') ⟨⟨by simp, fun j _ => getD_toList _ _, rfl, hL⟩, hrf, (fun j hj => by cases hj), (fun j d hj => by cases hj)⟩ (fun i hi S a w' hI hd _ => h1 i hi S a w' hI hd) (fun S a w' hI hS => h2 a w' hI.lt hI.bl (fun i d hi hd => hI.known i d (hS i hi) hd))
/-- All that is there stays. -/
def Bl (w w' : World) : Prop := Below w.heap.size w w'
theorem Bl.tr : ∀ x y z, Bl x y → Bl y z → Bl x z := fun _ _ _ h k => Below.trans h (Below.mono k (Below.size h))
end
end Go.Proofs.YtdojbnngdlmbgaaGreatDoor.Tr
