/-
  A range over a function whose variables are laid in a new block in every round.
  What slices.Backward's iterator promises over the parser's stack: its elements, the top first, with their indexes.
  The contracts of lastTag and lastBrace.
  The contract of lastBrace.
-/
import Derived.Test.YtdojbnngdlmbgaaGreatDoorTiRange
import Derived.Test.YtdojbnngdlmbgaaGreatDoorPaC
import Derived.Shelf.Abstract
import Derived.Shelf.RegionOpen
import Derived.OwnWalkIn
import Derived.TacticsInMore
import Derived.LoopNIn
import Derived.LoopIn
import Derived.RangeFuncBox
namespace Go.Proofs.YtdojbnngdlmbgaaGreatDoor.Rf
open Go.RowKit
variable {P : Program}

/-- The statement 'for .. := range g' over such an iterator. -/
theorem range1a {α : Type} {g : Operand} {ps : Array Tmp} {assign body : Code} {Q : Exit → Act → World → Prop} {a : Act} {w : World} {gf : Nat} {lb : Array Value}
    (hg : a.eval g = .func (.func gf) #[] lb) (eg : ∀ args w, (callFunc gf args).run P w = .ok (.enter gf args) w)
    {encs : α → Array Value} {Bs : Nat} {S Sp : List α → Prop} (hseq : Seq1 P gf lb encs Bs w.heap.size S Sp w) (hps : ∀ x, (encs x).size = ps.size)
    (I : List α → World → Prop) (Ix : Code → List α → World → Prop) (hI : OwnFrom w.heap.size I) (hIx : ∀ c, OwnFrom w.heap.size (Ix c))
    (hIs : ∀ s A v, I s A → I s (A.setCell ⟨Bs, 0, none⟩ v)) (hIxs : ∀ c s A v, Ix c s A → Ix c s (A.setCell ⟨Bs, 0, none⟩ v)) (h0 : I [] w) (O : α → Obj) (a₁ : α → Nat → Act)
    (hassign : ∀ (l : Nat) (x : α) (W : World) (K : Act → World → Prop), K (a₁ x W.heap.size) (W.alloc (O x)) →
      assign.wpIn (Fence.wide.inRound l) 0 P (Exit.then K (fun _ _ _ => False)) { tmps := (ps.zip (encs x)).foldl (fun t (p, v) => t.setIfInBounds p v) a.tmps, defers := [] } W)
    (hbody : ∀ (l : Nat) (pre : List α) (x : α) (W : World) (b : Nat), w.heap.size ≤ b → W.heap[b]? = some (O x) → I pre W → body.wpIn (Fence.wide.inRound l) 0 P (ownPostK (Below w.heap.size) I Ix (pre ++ [x]) W) (a₁ x b) W)
    (hdone : ∀ (D : Nat) (xs : List α) (W : World), w.heap.size ≤ D → S xs → I xs W → W.heap[D]? = some (.deferred (some [])) → Q .normal { a with defers := { target := .collected D, args := #[] } :: a.defers } W)
    (hstop : ∀ (D : Nat) (c : Code) (pre : List α) (W : World), w.heap.size ≤ D → Sp pre → Ix c pre W → W.heap[D]? = some (.deferred (some [])) → c.wpIn Fence.wide 0 P Q { a with defers := { target := .collected D, args := #[] } :: a.defers } W) :
    (Code.rangeFunc g ps assign body).wpIn Fence.wide 0 P Q a w := by
  refine wpIn_rangeFunc fun fn hfn => ?_
  obtain ⟨R, hR⟩ : ∃ R : LoopState → Option Code → Loop, R = fun st pe => { state := st, pending := pe, fn, tmps := a.tmps, params := ps, assign, body, defers := w.heap.size } := ⟨_, rfl⟩
  obtain ⟨V, hV⟩ : ∃ V, (w.alloc (.deferred (some []))).alloc (.loop (R .ready none)) = V := ⟨_, rfl⟩
  -- the two blocks of the statement's own book-keeping
  let Bk : LoopState → Option Code → World → Prop := fun st pe W => W.heap[w.heap.size + 1]? = some (.loop (R st pe)) ∧ W.heap[w.heap.size]? = some (.deferred (some []))
  have hBk0 : Bk .ready none V := by
    rw [← hV]
    refine ⟨?_, (Below.heap_alloc _ _ _ (by simp)).trans (World.alloc_heap_new w _)⟩
    have := World.alloc_heap_new (w.alloc (.deferred (some []))) (.loop (R .ready none))
    rwa [World.size_alloc] at this
  have hBks : ∀ st pe A v, Bk st pe A → Bk st pe (A.setCell ⟨Bs, 0, none⟩ v) := fun st pe A v h =>
    ⟨(KeepsOthers.setCell A _ v).same _ _ h.1 rfl, (KeepsOthers.setCell A _ v).same _ _ h.2 rfl⟩
  have hI0 : I [] V := by rw [← hV]; exact hI.alloc _ (hI.alloc _ h0)
  have hB0 : Below w.heap.size w V := by rw [← hV]; exact ((Below.refl _ w).alloc (Nat.le_refl _) _).alloc (by simp) _
  have hput : ∀ (A : World) (l : Nat) (o o' : Obj), w.heap.size ≤ l → A.heap[l]? = some o → Below w.heap.size A (A.putObj l o') := fun A l o o' hl h =>
    (Below.refl _ A).grown (grownBy_putObj' A l o') (by have := (Array.getElem?_eq_some_iff.1 h).1; omega) (fun k e => by cases e; omega)
  refine ⟨w.heap.size + 1, [{ target := .collected w.heap.size, args := #[] }], V, { target := .fn (.func gf) lb, args := #[.func (.yield (w.heap.size + 1)) #[] #[]] }, V, gf,
    #[.func (.yield (w.heap.size + 1)) #[] #[]] ++ lb, V, ?_, ?_, fun _ _ => trivial, ?_, fun h => ?_, ?_⟩
  · rw [← hV, hR]; exact run_enterLoop_outer _ _ _ _ _
  · simp only [resolve, hg]; simp [go_sem]
  · simp [invoke, go_sem, eg]
  · cases h
  refine (hseq (w.heap.size + 1) (fun pre W => I pre W ∧ Bk .ready none W) (fun pre W => ∃ c, Ix c pre W ∧ Bk .done (some c) W) V hB0
    (fun s A v h => ⟨hIs s A v h.1, hBks _ _ A v h.2⟩) (fun s A v h => by obtain ⟨c, h1, h2⟩ := h; exact ⟨c, hIxs c s A v h1, hBks _ _ A v h2⟩) ?_ ⟨hI0, hBk0⟩).mono ?_
  · -- one round
    rintro pre x W0 ⟨hi0, hl0, hk0⟩
    have hlt0 : w.heap.size + 1 < W0.heap.size := (Array.getElem?_eq_some_iff.1 hl0).1
    have hy := run_yield (P := P) (args := encs x) hl0 (by rw [hR]; exact hps x)
    rw [hR] at hy
    have hi : I pre (W0.alloc (O x)) := hI.alloc _ hi0
    have hl : (W0.alloc (O x)).heap[w.heap.size + 1]? = some (.loop (R .ready none)) := (Below.heap_alloc _ _ _ hlt0).trans hl0
    have hk : (W0.alloc (O x)).heap[w.heap.size]? = some (.deferred (some [])) := (Below.heap_alloc _ _ _ (by omega)).trans hk0
    have hbn : (W0.alloc (O x)).heap[W0.heap.size]? = some (O x) := World.alloc_heap_new W0 _
    have hb0 : Below w.heap.size W0 (W0.alloc (O x)) := (Below.refl _ W0).alloc (by omega) _
    have hlt : w.heap.size + 1 < (W0.alloc (O x)).heap.size := (Array.getElem?_eq_some_iff.1 hl).1
    refine ⟨fn, _, assign, body, hy, roundIn_of_wpIn hfn (hassign _ x W0 _ ⟨_, run_beginRound hl (by rw [hR]), ?_⟩)⟩
    generalize W0.alloc (O x) = W at hi hl hk hbn hb0 hlt ⊢
    obtain ⟨X, hX⟩ : ∃ X, W.putObj (w.heap.size + 1) (.loop { R .ready none with state := .busy }) = X := ⟨_, rfl⟩
    rw [hX]
    have hl2 : X.heap[w.heap.size + 1]? = some (.loop { R .ready none with state := .busy }) := by rw [← hX]; exact World.putObj_heap_same hlt
    have hk2 : X.heap[w.heap.size]? = some (.deferred (some [])) := by rw [← hX]; exact (World.putObj_heap_other (by omega)).trans hk
    have hw2 : Below w.heap.size W0 X := by rw [← hX]; exact hb0.trans (hput _ _ _ _ (by omega) hl)
    have hbx : X.heap[W0.heap.size]? = some (O x) := by rw [← hX]; exact (World.putObj_heap_other (by omega)).trans hbn
    have hi2 : I pre X := by rw [← hX]; exact hI.putObj _ hi (by omega) hl rfl
    refine wpIn_mono (hbody _ pre x X W0.heap.size (by omega) hbx hi2) ?_
    have fin : ∀ (j : Option Code) (Y : World), KeepsOthers X Y →
        (Instr.endRound (w.heap.size + 1) j).run P Y = .ok (.bool j.isNone) (Y.putObj (w.heap.size + 1) (.loop (R (if j.isNone then .ready else .done) j))) ∧
        Y.heap[w.heap.size + 1]? = some (.loop { R .ready none with state := .busy }) ∧ Bk (if j.isNone then .ready else .done) j (Y.putObj (w.heap.size + 1) (.loop (R (if j.isNone then .ready else .done) j))) := by
      intro j Y hY
      have hl3 := hY.same _ _ hl2 rfl
      have hk3 := hY.same _ _ hk2 rfl
      have he := run_endRound (P := P) j hl3
      refine ⟨?_, hl3, World.putObj_heap_same (Array.getElem?_eq_some_iff.1 hl3).1, (World.putObj_heap_other (by omega)).trans hk3⟩
      rw [hR] at he ⊢
      exact he
    rintro e a3 Y hp
    cases e with
    | normal =>
      obtain ⟨hY, hB, hi3⟩ := hp
      obtain ⟨hr, hl3, hb3⟩ := fin none Y hY
      exact ⟨_, _, hr, .inl ⟨rfl, ⟨hI.putObj _ hi3 (by omega) hl3 rfl, hb3⟩, (hw2.trans hB).trans (hput _ _ _ _ (by omega) hl3)⟩⟩
    | ret =>
      obtain ⟨hY, hi3⟩ := hp
      obtain ⟨hr, hl3, hb3⟩ := fin (some .ret) Y hY
      exact ⟨_, _, hr, .inr ⟨rfl, .ret, (hIx _).putObj _ hi3 (by omega) hl3 rfl, hb3⟩⟩
    | exit id =>
      obtain ⟨hY, hi3⟩ := hp
      obtain ⟨hr, hl3, hb3⟩ := fin (some (.exit id)) Y hY
      exact ⟨_, _, hr, .inr ⟨rfl, .exit id, (hIx _).putObj _ hi3 (by omega) hl3 rfl, hb3⟩⟩
    | goto t =>
      obtain ⟨hY, hi3⟩ := hp
      obtain ⟨hr, hl3, hb3⟩ := fin (some (.goto t)) Y hY
      exact ⟨_, _, hr, .inr ⟨rfl, .goto t, (hIx _).putObj _ hi3 (by omega) hl3 rfl, hb3⟩⟩
    | panic ch => exact hp.elim
    | outgrown => exact hp.elim
  · -- behind the iterator
    rintro e Y ⟨⟨v, rfl⟩, (⟨xs, hS, hi, hl, hk⟩ | ⟨pre, hSp, c, hi, hl, hk⟩)⟩
    · have he := run_endLoop (P := P) hl (by rw [hR]; simp)
      rw [hR] at he
      exact ⟨none, _, he, hdone _ xs _ (Nat.le_refl _) hS (hI.putObj _ hi (by omega) hl rfl) ((World.putObj_heap_other (by omega)).trans hk)⟩
    · have he := run_endLoop (P := P) hl (by rw [hR]; simp)
      rw [hR] at he
      exact ⟨some c, _, he, hstop _ c pre _ (Nat.le_refl _) hSp ((hIx c).putObj _ hi (by omega) hl rfl) ((World.putObj_heap_other (by omega)).trans hk)⟩
end Go.Proofs.YtdojbnngdlmbgaaGreatDoor.Rf

namespace Go.Proofs.YtdojbnngdlmbgaaGreatDoor.Pa
open Go.RowKit Go.Shelf Go.Proofs.YtdojbnngdlmbgaaGreatDoor.Tr Go.Proofs.YtdojbnngdlmbgaaGreatDoor.Rf
attribute [local go_sem] Oper.semAt_some
set_option linter.unusedVariables false

/-- An element as it is handed out. -/
structure Eb where
  i : Nat
  k : Int
  s : ByteArray
  t : Int
  A : Option Addr
  n : Nat
  c : Nat
  A' : Option Addr
  n' : Nat
  c' : Nat
def Eb.val (x : Eb) : Value := .agg #[.int .i64 x.k, .string x.s, .int .i64 x.t, .slice x.A x.n x.c, .slice x.A' x.n' x.c']
def Eb.key (x : Eb) : Nat × Int × Int := (x.i, x.k, x.t)
def tops : List El → List (Nat × Int × Int)
  | [] => []
  | e :: r => (r.length, (e.kind : Int), e.tag) :: tops r
/-- The cells of every element. -/
theorem ES.at {lo : Nat} {w : World} {X : Nat → Prop} : ∀ (p : List El) {e : El} {r : List El} {xs : List Value} {m : List Nat}, ES lo w X (p ++ e :: r) xs m → ∃ A n c A' n' c', ∀ j u, [Value.int .i64 e.kind, .string ⟨e.op.toArray⟩, .int .i64 e.tag, .slice A n c, .slice A' n' c'][j]? = some u → xs[r.length * 5 + j]? = some u
  | [], e, r, xs, m, ⟨ys, c0, m1, m2, hx, h1, ⟨vn, va, m3, hc0, h2, h3, _⟩, _⟩ => by
    subst hc0
    obtain ⟨A, c, rfl, _⟩ := h2.form
    obtain ⟨A', c', rfl, _⟩ := h3.form
    refine ⟨A, e.nodes.length, c, A', e.args.length, c', fun j u hj => ?_⟩
    rw [hx, ← h1.len, List.getElem?_append_right (by omega)]
    simpa using hj
  | f :: p, e, r, xs, m, ⟨ys, c, m1, m2, hx, h1, h2, _⟩ => by
    obtain ⟨A, n, c1, A', n', c', q⟩ := ES.at p h1
    refine ⟨A, n, c1, A', n', c', fun j u hj => ?_⟩
    have q1 := q j u hj
    have hlt := (List.getElem?_eq_some_iff.1 q1).1
    rw [hx, List.getElem?_append_left hlt]
    exact q1
theorem Backward_any (A : Option Addr) (n c : Nat) (w : World) :
    Calls Tryz.prog 141 #[.slice A n c] w fun e w' =>
      e = .returned (.func (.func 149) #[] #[.pointer (some ⟨w.heap.size, 0, none⟩)]) ∧ w.alloc (.cells #[.slice A n c] 68) = w' := by
  go_enter Tryz.func141, Tryz.ntmps141
  go_wp2
  go_ret
  exact ⟨rfl, rfl⟩
set_option maxRecDepth 100000 in
set_option maxHeartbeats 4000000 in
theorem back_seq {lo : Nat} {X : Nat → Prop} {st : List El} {xs : List Value} {m : List Nat} {gs cap : Nat} {cur : Array Value} (Bs n₀ : Nat) (w w0 : World) (hst : st.length ≤ 1000) (hB : Bs < n₀) (hg : gs < n₀) (hn : n₀ ≤ w.heap.size)
    (h0 : w.cell? ⟨Bs, 0, none⟩ = some (.slice (some ⟨gs, 0, none⟩) st.length cap)) (hc : w.heap[gs]? = some (.cells cur 67)) (hx : cur.toList.take (st.length * 5) = xs) (es : ES lo w0 X st xs m) (h63 : st.length ≤ cap ∧ cap ≤ 9223372036854775807) :
    Seq1 Tryz.prog 149 #[.pointer (some ⟨Bs, 0, none⟩)] (fun x : Eb => #[.int .i64 (x.i : Int), x.val]) Bs n₀
      (fun l => l.map Eb.key = tops st) (fun pre => ∃ rest, pre.map Eb.key ++ rest = tops st) w := by
  intro l J Jx W hW hJ hJx hY hJ0
  have k0 : W.cell? ⟨Bs, 0, none⟩ = some (.slice (some ⟨gs, 0, none⟩) st.length cap) := (hW.cell (p := ⟨Bs, 0, none⟩) (by show Bs < _; omega)).trans h0
  have kc : W.heap[gs]? = some (.cells cur 67) := (hW.block gs (by omega)).trans hc
  refine callsIn_of_wp Tryz.func149 rfl trivial ?_ rfl
  simp only [Tryz.ntmps149, List.size_toArray, List.length_cons, List.length_nil, Nat.reduceAdd, Nat.reduceSub, Array.replicate_succ, Array.replicate_zero, List.push_toArray, List.append_toArray, List.nil_append, List.cons_append]
  have HES := Lib.hid es; clear es
  have HX := Lib.hid hx; clear hx
  gi_wp2
  gi_loopw [3] (fun i wr => ∃ (pre : List Eb) (r : List El), i = .int .i64 ((r.length : Int) - 1) ∧ r.length ≤ 1000 ∧ wr.cell? ⟨Bs, 0, none⟩ = some (.slice (some ⟨gs, 0, none⟩) st.length cap) ∧ wr.heap[gs]? = some (.cells cur 67) ∧ Hid (pre.map Eb.key ++ tops r = tops st) ∧ Hid (∃ p, st = p ++ r) ∧ J pre wr) (fun i _ => ((intOf i) + 1).toNat)
  case atStart => exact ⟨[], st, by go_num, hst, k0, kc, Lib.hid rfl, Lib.hid ⟨[], rfl⟩, hJ0⟩
  case round =>
    obtain ⟨pre, r, rfl, hr, c0, cc, hp, hq, hj⟩ := hrel
    cases r with
    | nil =>
      gi_wp2
      go_end0
      exact ⟨⟨_, rfl⟩, .inl ⟨pre, by have := hp.out; simpa [tops] using this, hj⟩⟩
    | cons e r =>
      obtain ⟨p, hpq⟩ := hq.out
      have es := HES.out
      rw [hpq] at es
      obtain ⟨A, n, c, A', n', c', hat⟩ := ES.at p es
      have hlen : r.length < st.length := by rw [hpq]; simp; omega
      have d : ∀ j u, [Value.int .i64 e.kind, .string ⟨e.op.toArray⟩, .int .i64 e.tag, .slice A n c, .slice A' n' c'][j]? = some u → wr.cell? ⟨gs, r.length * 5 + j, none⟩ = some u := fun j u hj => by
        have := cell_row cc HX.out (hat j u hj)
        rwa [Nat.zero_add] at this
      have d0 : wr.cell? ⟨gs, r.length * 5, none⟩ = some (Value.int .i64 e.kind) := d 0 _ rfl
      have d1 := d 1 _ rfl
      have d2 := d 2 _ rfl
      have d3 := d 3 _ rfl
      have d4 := d 4 _ rfl
      clear d hat es
      have HP : Hid (pre.map Eb.key ++ [((r.length : Nat), (e.kind : Int), e.tag)] ++ tops r = tops st) := Lib.hid (by rw [← hp.out]; simp [tops])
      have HQ : Hid (∃ p, st = p ++ r) := Lib.hid ⟨p ++ [e], by rw [hpq]; simp⟩
      clear hpq hp hq
      obtain ⟨fn, tmps, assign, body, hy, hR⟩ := hY pre ⟨r.length, e.kind, ⟨e.op.toArray⟩, e.tag, A, n, c, A', n', c'⟩ wr hj
      dsimp only [Eb.val] at hy
      have hr' : r.length ≤ 1000 := by simp only [List.length_cons] at hr; omega
      rw [List.length_cons]
      gi_wp2
      refine ⟨rfl, hR.mono ?_⟩
      rintro e9 W3 (⟨rfl, hJ3, hk3⟩ | ⟨rfl, hJx3⟩)
      · have q0 : W3.cell? ⟨Bs, 0, none⟩ = some (.slice (some ⟨gs, 0, none⟩) st.length cap) := (hk3.cell (p := ⟨Bs, 0, none⟩) (by show Bs < _; omega)).trans c0
        have qc : W3.heap[gs]? = some (.cells cur 67) := (hk3.block gs (by omega)).trans cc
        clear hy hR d0 d1 d2 d3 d4
        gi_wp2
        refine ⟨⟨pre ++ [⟨r.length, e.kind, ⟨e.op.toArray⟩, e.tag, A, n, c, A', n', c'⟩], r, by go_num, hr', q0, qc, Lib.hid (by rw [← HP.out]; simp [Eb.key]), HQ, hJ3⟩, ?_⟩
        show ((r.length : Int) - 1 + 1).toNat < (((r.length + 1 : Nat) : Int) - 1 + 1).toNat
        omega
      · clear hy hR d0 d1 d2 d3 d4
        gi_wp2
        refine bodyPost_ret (results_none rfl _ _ _) rfl ?_
        exact ⟨⟨_, rfl⟩, .inr ⟨pre ++ [⟨r.length, e.kind, ⟨e.op.toArray⟩, e.tag, A, n, c, A', n', c'⟩], ⟨tops r, by rw [← HP.out]; simp [Eb.key]⟩, hJx3⟩⟩
end Go.Proofs.YtdojbnngdlmbgaaGreatDoor.Pa

namespace Go.Proofs.YtdojbnngdlmbgaaGreatDoor.Pa
open Go.RowKit Go.Shelf Go.Proofs.YtdojbnngdlmbgaaGreatDoor.Tr Go.Proofs.YtdojbnngdlmbgaaGreatDoor.Rf
attribute [local go_sem] Oper.semAt_some
set_option linter.unusedVariables false

def ltag (t : Int) : List (Nat × Int × Int) → Nat
  | [] => 0
  | x :: r => if x.2.1 = 2 ∧ x.2.2 = t then x.1 else ltag t r
def lbr : List (Nat × Int × Int) → Nat
  | [] => 0
  | x :: r => if x.2.1 = 3 then x.1 else if x.2.1 = 2 then 0 else lbr r
theorem ltag_skip (t : Int) : ∀ (p : List Eb) (q : List (Nat × Int × Int)), (∀ y ∈ p, ¬ (y.k = 2 ∧ y.t = t)) → ltag t (p.map Eb.key ++ q) = ltag t q
  | [], q, _ => rfl
  | y :: p, q, h => by
    rw [List.map_cons, List.cons_append, ltag, if_neg (by exact h y (by simp))]
    exact ltag_skip t p q (fun z hz => h z (by simp [hz]))
theorem lbr_skip : ∀ (p : List Eb) (q : List (Nat × Int × Int)), (∀ y ∈ p, ¬ y.k = 3 ∧ ¬ y.k = 2) → lbr (p.map Eb.key ++ q) = lbr q
  | [], q, _ => rfl
  | y :: p, q, h => by
    rw [List.map_cons, List.cons_append, lbr, if_neg (by exact (h y (by simp)).1), if_neg (by exact (h y (by simp)).2)]
    exact lbr_skip p q (fun z hz => h z (by simp [hz]))
theorem ltag_at (t : Int) : ∀ st : List El, ltag t (tops st) = match tagAt t st with
    | none => 0
    | some i => st.length - 1 - i
  | [] => rfl
  | e :: r => by
    rw [tops, ltag, tagAt]
    by_cases h : e.kind = 2 ∧ e.tag = t
    · rw [if_pos (by simp only; omega), if_pos h]; simp
    · rw [if_neg (by simp only; omega), if_neg h, ltag_at t r]
      cases hq : tagAt t r with
      | none => rfl
      | some i => show r.length - 1 - i = (r.length + 1) - 1 - (i + 1); omega
theorem lbr_at : ∀ st : List El, lbr (tops st) = match braceAt st with
    | none => 0
    | some i => st.length - 1 - i
  | [] => rfl
  | e :: r => by
    rw [tops, lbr, braceAt]
    by_cases h : e.kind = 3
    · rw [if_pos (by simp only; omega), if_pos h]; simp
    · rw [if_neg (by simp only; omega), if_neg h]
      by_cases h2 : e.kind = 2
      · rw [if_pos (by simp only; omega), if_pos h2]
      · rw [if_neg (by simp only; omega), if_neg h2, lbr_at r]
        cases hq : braceAt r with
        | none => rfl
        | some i => show r.length - 1 - i = (r.length + 1) - 1 - (i + 1); omega
def Eb.obj (x : Eb) : Obj := .cells #[.int .i64 x.k, .string x.s, .int .i64 x.t, .slice x.A x.n x.c, .slice x.A' x.n' x.c'] 67
theorem snocT {t : Int} {pre : List Eb} {x : Eb} (hp : ∀ y ∈ pre, ¬ (y.k = 2 ∧ y.t = t)) (h : ¬ (x.k = 2 ∧ x.t = t)) : ∀ y ∈ pre ++ [x], ¬ (y.k = 2 ∧ y.t = t) := fun y hy => (List.mem_append.1 hy).elim (hp y) (fun e => by simp at e; subst e; exact h)
section
variable {lo gp : Nat} {w : World} {M : List Nat} {st : List El}
set_option maxRecDepth 100000 in
set_option maxHeartbeats 8000000 in
theorem lastTag_any (h : St lo gp w M st) (hst : st.length ≤ 1000) (t : Int) : Calls Tryz.prog 114 #[.pointer (some ⟨gp, 0, none⟩), .int .i64 t] w fun x w' => x = .returned (.int .i64 (ltag t (tops st) : Int)) ∧ Below w.heap.size w w' := by
  obtain ⟨gs, cap, xs, m, so⟩ := h.so
  have lgp := (h.lt gp (by rw [so.hM]; simp)).2
  have lgs := (h.lt gs (by rw [so.hM]; simp)).2
  have p0 : w.cell? ⟨gp, 0, none⟩ = some (.slice (some ⟨gs, 0, none⟩) st.length cap) := cell_heap so.hp rfl
  obtain ⟨g9, c9, cur, q, _, hcur, hc1, hc2, _, hx⟩ : ∃ g' c' cur, Value.slice (some ⟨gs, 0, none⟩) st.length cap = .slice (some ⟨g', 0, none⟩) st.length c' ∧ lo ≤ g' ∧ w.heap[g']? = some (.cells cur 67 (0, 0)) ∧ st.length ≤ c' ∧ c' ≤ maxLen ∧ cur.size = c' * 5 ∧ cur.toList.take (st.length * 5) = xs := by
    rcases so.row.2 with ⟨q, _⟩ | q
    · cases q
    · exact q
  injection q with q1 q2 q3
  injection q1 with q1
  injection q1 with q1
  subst q1 q3
  have SO := Lib.hid so
  have HX := Lib.hid hx
  clear h so hx
  have hc3 : cap ≤ 9223372036854775807 := by simpa [maxLen] using hc2
  have c0 := newCell w (.int .i64 t) 3
  have c1 := newCell (w.alloc (.cells #[.int .i64 t] 3)) (.int .i64 0) 3
  have c2 := newCell ((w.alloc (.cells #[.int .i64 t] 3)).alloc (.cells #[.int .i64 0] 3)) (.slice (some ⟨gs, 0, none⟩) st.length cap) 68
  simp only [World.size_alloc] at c1 c2
  have hB0 : Below w.heap.size w (((w.alloc (.cells #[.int .i64 t] 3)).alloc (.cells #[.int .i64 0] 3)).alloc (.cells #[.slice (some ⟨gs, 0, none⟩) st.length cap] 68)) := (((Below.refl _ w).alloc (Nat.le_refl _) _).alloc (by simp) _).alloc (by simp; omega) _
  have pB : ((w.alloc (.cells #[.int .i64 t] 3)).alloc (.cells #[.int .i64 0] 3)).cell? ⟨gp, 0, none⟩ = some (.slice (some ⟨gs, 0, none⟩) st.length cap) := oldCell _ (oldCell _ p0)
  refine (callsIn_wide (n := 0)).1 ?_
  refine callsIn_of_wp_marks Tryz.func114 rfl trivial ?_ rfl
  simp only [Tryz.ntmps114, List.size_toArray, List.length_cons, List.length_nil, Nat.reduceAdd, Nat.reduceSub, Array.replicate_succ, Array.replicate_zero, List.push_toArray, List.append_toArray, List.nil_append, List.cons_append]
  gi_wp2
  refine ⟨trivial, rfl, (callsIn_wide.2 (Backward_any _ _ _ _)).mono ?_⟩
  rintro e w' ⟨rfl, rfl⟩
  gi_wp2
  refine range1a (gf := 149) (lb := #[.pointer (some ⟨w.heap.size + 1 + 1, 0, none⟩)]) rfl (enters_of Tryz.func149 (by kernel_rfl) rfl)
    (back_seq (w.heap.size + 1 + 1) _ _ w hst (by simp) (by simp; omega) (Nat.le_refl _) c2.1 ((hB0.block gs lgs).trans hcur) HX.out SO.out.es ⟨hc1, hc3⟩) (fun _ => rfl)
    (fun pre W => ((∀ x ∈ pre, ¬ (x.k = 2 ∧ x.t = t)) ∧ W.cell? ⟨w.heap.size, 0, none⟩ = some (.int .i64 t) ∧ W.cell? ⟨w.heap.size + 1, 0, none⟩ = some (.int .i64 0) ∧ W.frozen? ⟨w.heap.size + 1, 0, none⟩ = false) ∧ Below w.heap.size w W)
    (fun c pre W => (c = .ret ∧ (∃ p x, pre = p ++ [x] ∧ (∀ y ∈ p, ¬ (y.k = 2 ∧ y.t = t)) ∧ (x.k = 2 ∧ x.t = t) ∧ W.cell? ⟨w.heap.size + 1, 0, none⟩ = some (.int .i64 (x.i : Int)))) ∧ Below w.heap.size w W)
    (OwnFrom.and (Own.from (fun s A B row hs hg hr => ⟨hs.1, cell_kept hs.2.1 hg hr, cell_kept hs.2.2.1 hg hr, (frozen_kept hs.2.2.1 hg hr).trans hs.2.2.2⟩) _) (ownFrom_below (Nat.le_refl _) (by simp; omega)))
    (fun c => OwnFrom.and (Own.from (fun s A B row hs hg hr => ⟨hs.1, by obtain ⟨p, x, h1, h2, h3, h4⟩ := hs.2; exact ⟨p, x, h1, h2, h3, cell_kept h4 hg hr⟩⟩) _) (ownFrom_below (Nat.le_refl _) (by simp; omega)))
    (fun s A v h => ⟨⟨h.1.1, (World.cell?_setCell_far A ⟨w.heap.size + 1 + 1, 0, none⟩ ⟨w.heap.size, 0, none⟩ v (by show w.heap.size + 1 + 1 ≠ w.heap.size; omega)).trans h.1.2.1, (World.cell?_setCell_far A ⟨w.heap.size + 1 + 1, 0, none⟩ ⟨w.heap.size + 1, 0, none⟩ v (by show w.heap.size + 1 + 1 ≠ w.heap.size + 1; omega)).trans h.1.2.2.1, by rw [World.frozen?_setCell]; exact h.1.2.2.2⟩, h.2.setCell (p := ⟨w.heap.size + 1 + 1, 0, none⟩) (by show w.heap.size ≤ w.heap.size + 1 + 1; omega) _⟩)
    (fun c s A v h => ⟨⟨h.1.1, by obtain ⟨p, x, h1, h2, h3, h4⟩ := h.1.2; exact ⟨p, x, h1, h2, h3, (World.cell?_setCell_far A ⟨w.heap.size + 1 + 1, 0, none⟩ ⟨w.heap.size + 1, 0, none⟩ v (by show w.heap.size + 1 + 1 ≠ w.heap.size + 1; omega)).trans h4⟩⟩, h.2.setCell (p := ⟨w.heap.size + 1 + 1, 0, none⟩) (by show w.heap.size ≤ w.heap.size + 1 + 1; omega) _⟩)
    ⟨⟨by simp, oldCell _ (oldCell _ c0.1), oldCell _ c1.1, oldFrozen _ c1.1 c1.2⟩, hB0⟩ Eb.obj
    (fun x b => { tmps := #[.pointer (some ⟨gp, 0, none⟩), .int .i64 t, undef, .pointer (some ⟨w.heap.size, 0, none⟩), .pointer (some ⟨w.heap.size + 1, 0, none⟩), .int .i64 (x.i : Int), .pointer (some ⟨b, 0, none⟩), .pointer (some ⟨gp, 0, none⟩), .pointer (some ⟨gp, 0, none⟩), .pointer (some ⟨gp, 0, none⟩), .slice (some ⟨gs, 0, none⟩) st.length cap, .func (.func 149) #[] #[.pointer (some ⟨w.heap.size + 1 + 1, 0, none⟩)], .int .i64 (x.i : Int), x.val, undef, undef, undef, undef, undef, undef, undef, undef, undef, undef], defers := [] }) ?assign ?body ?done ?stop
  case assign =>
    intro l x W K hK
    unfold Eb.val Eb.obj at *
    gi_wp2
    exact hK
  case body =>
    rintro l pre x W b hb hbo ⟨⟨hp, ht, hc, hf⟩, hB⟩
    unfold Eb.obj at hbo
    have d0 : W.cell? ⟨b, 0, none⟩ = some (.int .i64 x.k) := cell_heap hbo rfl
    have d2 : W.cell? ⟨b, 2, none⟩ = some (.int .i64 x.t) := cell_heap hbo rfl
    have HSET : Hid (KeepsOthers W (W.setCell ⟨w.heap.size + 1, 0, none⟩ (.int .i64 (x.i : Int))) ∧ (W.setCell ⟨w.heap.size + 1, 0, none⟩ (.int .i64 (x.i : Int))).cell? ⟨w.heap.size + 1, 0, none⟩ = some (.int .i64 (x.i : Int)) ∧ Below w.heap.size w (W.setCell ⟨w.heap.size + 1, 0, none⟩ (.int .i64 (x.i : Int)))) :=
      Lib.hid ⟨KeepsOthers.setCell _ _ _, World.cell?_setCell_same W ⟨w.heap.size + 1, 0, none⟩ _ hc, hB.setCell (p := ⟨w.heap.size + 1, 0, none⟩) (by show w.heap.size ≤ w.heap.size + 1; omega) _⟩
    have HP := Lib.hid hp
    clear hbo hp
    by_cases h2 : x.k = 2
    · have e2 : (x.k == 2) = true := by simpa using h2
      by_cases h3 : x.t = t
      · have e3 : (x.t == t) = true := by simpa using h3
        gi_wp2
        exact ⟨HSET.out.1, ⟨rfl, pre, x, rfl, HP.out, ⟨h2, h3⟩, HSET.out.2.1⟩, HSET.out.2.2⟩
      · have e3 : (x.t == t) = false := by simpa using h3
        gi_wp2
        exact ⟨KeepsOthers.refl _, Below.refl _ _, ⟨snocT HP.out (fun q => h3 q.2), ht, hc, hf⟩, hB⟩
    · have e2 : (x.k == 2) = false := by simpa using h2
      gi_wp2
      exact ⟨KeepsOthers.refl _, Below.refl _ _, ⟨snocT HP.out (fun q => h2 q.1), ht, hc, hf⟩, hB⟩
  case done =>
    rintro D ys W hD hS ⟨⟨hp, ht, hc, hf⟩, hB⟩ hK
    have hv : ltag t (tops st) = 0 := by
      have := ltag_skip t ys [] hp
      rw [List.append_nil, hS] at this
      exact this
    have HV := Lib.hid hv; clear hv hS
    gi_wp2
    have hK' := (KeepsOthers.setCell W ⟨w.heap.size + 1, 0, none⟩ (.int .i64 0)).same D _ hK rfl
    refine ⟨by simp, .inl ⟨_, _, rfl, run_takeDeferred hK', ?_⟩⟩
    have hc5 := cell_kept (World.cell?_setCell_same W ⟨w.heap.size + 1, 0, none⟩ (.int .i64 0) hc) (grownBy_putObj' _ D (.deferred none)) (fun r e => by cases e; exact ⟨_, hK', rfl⟩)
    refine ⟨.int .i64 0, ?_, by rw [HV.out]; rfl, (hB.setCell (p := ⟨w.heap.size + 1, 0, none⟩) (by show w.heap.size ≤ w.heap.size + 1; omega) _).trans (belowK_b (w := w) (Nat.le_refl _) _ D _ _ (by simp at hD; omega) hK' rfl rfl)⟩
    simp [results, Tryz.f114, go_sem, hc5]
  case stop =>
    rintro D c pre W hD hSp ⟨⟨rfl, p, x, rfl, hp, h23, hc⟩, hB⟩ hK
    have hv : ltag t (tops st) = x.i := by
      obtain ⟨rest, hr⟩ := hSp
      rw [← hr, List.map_append, List.append_assoc, ltag_skip t p _ hp]
      show ltag t (x.key :: rest) = _
      rw [ltag, if_pos (by exact h23)]
      rfl
    have HV := Lib.hid hv; clear hv hSp
    gi_wp2
    refine ⟨by simp, .inl ⟨_, _, rfl, run_takeDeferred hK, ?_⟩⟩
    have hc5 := cell_kept hc (grownBy_putObj' _ D (.deferred none)) (fun r e => by cases e; exact ⟨_, hK, rfl⟩)
    refine ⟨.int .i64 (x.i : Int), ?_, by rw [HV.out], hB.trans (belowK_b (w := w) (Nat.le_refl _) W D _ _ (by simp at hD; omega) hK rfl rfl)⟩
    simp [results, Tryz.f114, go_sem, hc5]
end
end Go.Proofs.YtdojbnngdlmbgaaGreatDoor.Pa

namespace Go.Proofs.YtdojbnngdlmbgaaGreatDoor.Pa
open Go.RowKit Go.Shelf Go.Proofs.YtdojbnngdlmbgaaGreatDoor.Tr Go.Proofs.YtdojbnngdlmbgaaGreatDoor.Rf
attribute [local go_sem] Oper.semAt_some
set_option linter.unusedVariables false

section
variable {lo gp : Nat} {w : World} {M : List Nat} {st : List El}
set_option maxRecDepth 100000 in
set_option maxHeartbeats 8000000 in
theorem lastBrace_any (h : St lo gp w M st) (hst : st.length ≤ 1000) : Calls Tryz.prog 116 #[.pointer (some ⟨gp, 0, none⟩)] w fun x w' => x = .returned (.int .i64 (lbr (tops st) : Int)) ∧ Below w.heap.size w w' := by
  obtain ⟨gs, cap, xs, m, so⟩ := h.so
  have lgp := (h.lt gp (by rw [so.hM]; simp)).2
  have lgs := (h.lt gs (by rw [so.hM]; simp)).2
  have p0 : w.cell? ⟨gp, 0, none⟩ = some (.slice (some ⟨gs, 0, none⟩) st.length cap) := cell_heap so.hp rfl
  obtain ⟨g9, c9, cur, q, _, hcur, hc1, hc2, _, hx⟩ : ∃ g' c' cur, Value.slice (some ⟨gs, 0, none⟩) st.length cap = .slice (some ⟨g', 0, none⟩) st.length c' ∧ lo ≤ g' ∧ w.heap[g']? = some (.cells cur 67 (0, 0)) ∧ st.length ≤ c' ∧ c' ≤ maxLen ∧ cur.size = c' * 5 ∧ cur.toList.take (st.length * 5) = xs := by
    rcases so.row.2 with ⟨q, _⟩ | q
    · cases q
    · exact q
  injection q with q1 q2 q3
  injection q1 with q1
  injection q1 with q1
  subst q1 q3
  have SO := Lib.hid so
  have HX := Lib.hid hx
  clear h so hx
  have hc3 : cap ≤ 9223372036854775807 := by simpa [maxLen] using hc2
  have c1 := newCell w (.int .i64 0) 3
  have c2 := newCell (w.alloc (.cells #[.int .i64 0] 3)) (.slice (some ⟨gs, 0, none⟩) st.length cap) 68
  simp only [World.size_alloc] at c2
  have hB0 : Below w.heap.size w ((w.alloc (.cells #[.int .i64 0] 3)).alloc (.cells #[.slice (some ⟨gs, 0, none⟩) st.length cap] 68)) := ((Below.refl _ w).alloc (Nat.le_refl _) _).alloc (by simp) _
  have pB : (w.alloc (.cells #[.int .i64 0] 3)).cell? ⟨gp, 0, none⟩ = some (.slice (some ⟨gs, 0, none⟩) st.length cap) := oldCell _ p0
  refine (callsIn_wide (n := 0)).1 ?_
  refine callsIn_of_wp_marks Tryz.func116 rfl trivial ?_ rfl
  simp only [Tryz.ntmps116, List.size_toArray, List.length_cons, List.length_nil, Nat.reduceAdd, Nat.reduceSub, Array.replicate_succ, Array.replicate_zero, List.push_toArray, List.append_toArray, List.nil_append, List.cons_append]
  gi_wp2
  refine ⟨trivial, rfl, (callsIn_wide.2 (Backward_any _ _ _ _)).mono ?_⟩
  rintro e w' ⟨rfl, rfl⟩
  gi_wp2
  refine range1a (gf := 149) (lb := #[.pointer (some ⟨w.heap.size + 1, 0, none⟩)]) rfl (enters_of Tryz.func149 (by kernel_rfl) rfl)
    (back_seq (w.heap.size + 1) _ _ w hst (by simp) (by simp; omega) (Nat.le_refl _) c2.1 ((hB0.block gs lgs).trans hcur) HX.out SO.out.es ⟨hc1, hc3⟩) (fun _ => rfl)
    (fun pre W => ((∀ x ∈ pre, ¬ x.k = 3 ∧ ¬ x.k = 2) ∧ W.cell? ⟨w.heap.size, 0, none⟩ = some (.int .i64 0) ∧ W.frozen? ⟨w.heap.size, 0, none⟩ = false) ∧ Below w.heap.size w W)
    (fun c pre W => (c = .ret ∧ (∃ p x, ∃ v : Nat, pre = p ++ [x] ∧ (∀ y ∈ p, ¬ y.k = 3 ∧ ¬ y.k = 2) ∧ ((x.k = 3 ∧ v = x.i) ∨ (x.k = 2 ∧ v = 0)) ∧ W.cell? ⟨w.heap.size, 0, none⟩ = some (.int .i64 (v : Int)))) ∧ Below w.heap.size w W)
    (OwnFrom.and (Own.from (fun s A B row hs hg hr => ⟨hs.1, cell_kept hs.2.1 hg hr, (frozen_kept hs.2.1 hg hr).trans hs.2.2⟩) _) (ownFrom_below (Nat.le_refl _) (by simp; omega)))
    (fun c => OwnFrom.and (Own.from (fun s A B row hs hg hr => ⟨hs.1, by obtain ⟨p, x, v, h1, h2, h3, h4⟩ := hs.2; exact ⟨p, x, v, h1, h2, h3, cell_kept h4 hg hr⟩⟩) _) (ownFrom_below (Nat.le_refl _) (by simp; omega)))
    (fun s A v h => ⟨⟨h.1.1, (World.cell?_setCell_far A ⟨w.heap.size + 1, 0, none⟩ ⟨w.heap.size, 0, none⟩ v (by show w.heap.size + 1 ≠ w.heap.size; omega)).trans h.1.2.1, by rw [World.frozen?_setCell]; exact h.1.2.2⟩, h.2.setCell (p := ⟨w.heap.size + 1, 0, none⟩) (by show w.heap.size ≤ w.heap.size + 1; omega) _⟩)
    (fun c s A v h => ⟨⟨h.1.1, by obtain ⟨p, x, u, h1, h2, h3, h4⟩ := h.1.2; exact ⟨p, x, u, h1, h2, h3, (World.cell?_setCell_far A ⟨w.heap.size + 1, 0, none⟩ ⟨w.heap.size, 0, none⟩ v (by show w.heap.size + 1 ≠ w.heap.size; omega)).trans h4⟩⟩, h.2.setCell (p := ⟨w.heap.size + 1, 0, none⟩) (by show w.heap.size ≤ w.heap.size + 1; omega) _⟩)
    ⟨⟨by simp, oldCell _ c1.1, oldFrozen _ c1.1 c1.2⟩, hB0⟩ Eb.obj
    (fun x b => { tmps := #[.pointer (some ⟨gp, 0, none⟩), undef, .pointer (some ⟨w.heap.size, 0, none⟩), .int .i64 (x.i : Int), .pointer (some ⟨b, 0, none⟩), .pointer (some ⟨gp, 0, none⟩), .pointer (some ⟨gp, 0, none⟩), .pointer (some ⟨gp, 0, none⟩), .slice (some ⟨gs, 0, none⟩) st.length cap, .func (.func 149) #[] #[.pointer (some ⟨w.heap.size + 1, 0, none⟩)], .int .i64 (x.i : Int), x.val, undef, undef, undef, undef, undef, undef, undef], defers := [] }) ?assign ?body ?done ?stop
  case assign =>
    intro l x W K hK
    unfold Eb.val Eb.obj at *
    gi_wp2
    exact hK
  case body =>
    rintro l pre x W b hb hbo ⟨⟨hp, hc, hf⟩, hB⟩
    unfold Eb.obj at hbo
    have d0 : W.cell? ⟨b, 0, none⟩ = some (.int .i64 x.k) := cell_heap hbo rfl
    have HSET : ∀ v : Nat, Hid (KeepsOthers W (W.setCell ⟨w.heap.size, 0, none⟩ (.int .i64 (v : Int))) ∧ (W.setCell ⟨w.heap.size, 0, none⟩ (.int .i64 (v : Int))).cell? ⟨w.heap.size, 0, none⟩ = some (.int .i64 (v : Int)) ∧ Below w.heap.size w (W.setCell ⟨w.heap.size, 0, none⟩ (.int .i64 (v : Int)))) := fun v =>
      Lib.hid ⟨KeepsOthers.setCell _ _ _, World.cell?_setCell_same W ⟨w.heap.size, 0, none⟩ _ hc, hB.setCell (p := ⟨w.heap.size, 0, none⟩) (Nat.le_refl _) _⟩
    have HS := HSET x.i
    have HZ := HSET 0
    have HP := Lib.hid hp
    clear hbo hp HSET
    by_cases h3 : x.k = 3
    · have e3 : (x.k == 3) = true := by simpa using h3
      gi_wp2
      exact ⟨HS.out.1, ⟨rfl, pre, x, x.i, rfl, HP.out, .inl ⟨h3, rfl⟩, HS.out.2.1⟩, HS.out.2.2⟩
    · have e3 : (x.k == 3) = false := by simpa using h3
      by_cases h2 : x.k = 2
      · have e2 : (x.k == 2) = true := by simpa using h2
        gi_wp2
        exact ⟨HZ.out.1, ⟨rfl, pre, x, 0, rfl, HP.out, .inr ⟨h2, rfl⟩, HZ.out.2.1⟩, HZ.out.2.2⟩
      · have e2 : (x.k == 2) = false := by simpa using h2
        gi_wp2
        exact ⟨KeepsOthers.refl _, Below.refl _ _, ⟨fun y hy => (List.mem_append.1 hy).elim (HP.out y) (fun e => by simp at e; subst e; exact ⟨h3, h2⟩), hc, hf⟩, hB⟩
  case done =>
    rintro D ys W hD hS ⟨⟨hp, hc, hf⟩, hB⟩ hK
    have hv : lbr (tops st) = 0 := by
      have := lbr_skip ys [] hp
      rw [List.append_nil, hS] at this
      exact this
    have HV := Lib.hid hv; clear hv hS
    gi_wp2
    have hK' := (KeepsOthers.setCell W ⟨w.heap.size, 0, none⟩ (.int .i64 0)).same D _ hK rfl
    refine ⟨by simp, .inl ⟨_, _, rfl, run_takeDeferred hK', ?_⟩⟩
    have hc5 := cell_kept (World.cell?_setCell_same W ⟨w.heap.size, 0, none⟩ (.int .i64 0) hc) (grownBy_putObj' _ D (.deferred none)) (fun r e => by cases e; exact ⟨_, hK', rfl⟩)
    refine ⟨.int .i64 0, ?_, by rw [HV.out]; rfl, (hB.setCell (p := ⟨w.heap.size, 0, none⟩) (Nat.le_refl _) _).trans (belowK_b (w := w) (Nat.le_refl _) _ D _ _ (by simp at hD; omega) hK' rfl rfl)⟩
    simp [results, Tryz.f116, go_sem, hc5]
  case stop =>
    rintro D c pre W hD hSp ⟨⟨rfl, p, x, v, rfl, hp, h23, hc⟩, hB⟩ hK
    have hv : lbr (tops st) = v := by
      obtain ⟨rest, hr⟩ := hSp
      rw [← hr, List.map_append, List.append_assoc, lbr_skip p _ hp]
      show lbr (x.key :: rest) = _
      rcases h23 with ⟨h3, rfl⟩ | ⟨h2, rfl⟩
      · rw [lbr, if_pos (by exact h3)]; rfl
      · rw [lbr, if_neg (by show ¬ x.k = 3; omega), if_pos (by exact h2)]
    have HV := Lib.hid hv; clear hv hSp
    gi_wp2
    refine ⟨by simp, .inl ⟨_, _, rfl, run_takeDeferred hK, ?_⟩⟩
    have hc5 := cell_kept hc (grownBy_putObj' _ D (.deferred none)) (fun r e => by cases e; exact ⟨_, hK, rfl⟩)
    refine ⟨.int .i64 (v : Int), ?_, by rw [HV.out], hB.trans (belowK_b (w := w) (Nat.le_refl _) W D _ _ (by simp at hD; omega) hK rfl rfl)⟩
    simp [results, Tryz.f116, go_sem, hc5]
end
end Go.Proofs.YtdojbnngdlmbgaaGreatDoor.Pa
