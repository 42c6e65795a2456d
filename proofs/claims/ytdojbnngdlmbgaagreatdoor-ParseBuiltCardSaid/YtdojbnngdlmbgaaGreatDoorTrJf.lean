/-
  What package tree's Join keeps while it joins; Reset of a builder; the end of a region that appends a node.
-/
import Derived.Test.YtdojbnngdlmbgaaGreatDoorTrJB
namespace Go.Proofs.YtdojbnngdlmbgaaGreatDoor.Tr
open Go.RowKit
set_option linter.unusedVariables false

/-- The builder stays where neither its block nor a row of bytes changes. -/
theorem Bd.keep2 {w w' : World} {B b : Nat} {x : List UInt8} (h : Bd w B b x) (hk : ∀ g, (g = b ∨ ¬ NB w g) → g < w.heap.size → w'.heap[g]? = w.heap[g]?) : Bd w' B b x := by
  have key : ∀ p, Lib.BuilderAtF 105 5 B b p (Lib.byteCells x) w → Lib.BuilderAtF 105 5 B b p (Lib.byteCells x) w' := by
    rintro p ⟨h1, v, h2, h3, h4⟩
    refine ⟨h1, v, (hk b (.inl rfl) (Array.getElem?_eq_some_iff.1 h2).1).trans h2, ⟨h3.1, h3.2.imp id ?_⟩, h4⟩
    rintro ⟨g, cap, cur, fz, a1, a2, a3, a4⟩
    exact ⟨g, cap, cur, fz, a1, a2, (hk g (.inr fun hn => hn cur fz a3) (Array.getElem?_eq_some_iff.1 a3).1).trans a3, a4⟩
  exact h.imp (key _) (key _)
/-- What stands while a list is joined: the variable in block J holds the row v, which reads as out; the builder behind it holds x. -/
structure Jw (d : Nat) (w : World) (v : Value) (out : List Nd) (x : List UInt8) (wr : World) : Prop where
  bl : Below w.heap.size w wr
  hj : wr.heap[w.heap.size]? = some (.cells #[v] 27)
  bd : Bd wr (w.heap.size + 1) (w.heap.size + 1) x
  row : RowN d (w.heap.size + 2) wr v out
  lo : w.heap.size + 2 ≤ wr.heap.size
/-- What such a step leaves. -/
structure Rk (w0 : World) (x : List UInt8) (w w' : World) : Prop where
  fr : Fr (w0.heap.size + 1) (w0.heap.size + 1) w w'
  sz : w.heap.size ≤ w'.heap.size
  bd : Bd w (w0.heap.size + 1) (w0.heap.size + 1) x → Bd w' (w0.heap.size + 1) (w0.heap.size + 1) x
theorem Rk.refl (w0 : World) (x : List UInt8) (w : World) : Rk w0 x w w := ⟨Fr.refl _ _ _, Nat.le_refl _, fun h => h⟩
theorem Rk.tr (w0 : World) (u : List UInt8) : ∀ x y z, Rk w0 u x y → Rk w0 u y z → Rk w0 u x z := fun _ _ _ h k => ⟨h.fr.trans k.fr, Nat.le_trans h.sz k.sz, fun q => k.bd (h.bd q)⟩
theorem Rk.of {w0 w w' : World} {x : List UInt8} (h : Below w.heap.size w w') (hl : w0.heap.size + 1 ≤ w.heap.size) : Rk w0 x w w' :=
  ⟨⟨h.mono hl, fun k o hk _ _ => (h.block k (Array.getElem?_eq_some_iff.1 hk).1).trans hk⟩, h.size, fun q => q.keep h⟩
theorem Rk.block {w0 w w' : World} {x : List UInt8} (h : Rk w0 x w w') {g : Nat} (hg : g < w.heap.size) (hne : g ≠ w0.heap.size + 1) (hn : NB w g) : w'.heap[g]? = w.heap[g]? := by
  have e := Array.getElem?_eq_getElem hg
  rw [e]
  exact h.fr.kept g _ e (fun q => hne (Option.some.inj q)) (fun c fz q => hn c fz (by rw [e, q]))
theorem Jw.step {d : Nat} {w : World} {v : Value} {out : List Nd} {x y : List UInt8} {wr w' : World} (h : Jw d w v out x wr) (hf : Fr (w.heap.size + 1) (w.heap.size + 1) wr w') (hs : wr.heap.size ≤ w'.heap.size) (hb : Bd w' (w.heap.size + 1) (w.heap.size + 1) y) : Jw d w v out y w' := by
  have R : ∀ g, g < wr.heap.size → g ≠ w.heap.size + 1 → NB wr g → w'.heap[g]? = wr.heap[g]? := by
    intro g hg hne hn
    have e := Array.getElem?_eq_getElem hg
    rw [e]
    exact hf.kept g _ e (fun q => hne (Option.some.inj q)) (fun c fz q => hn c fz (by rw [e, q]))
  have hl := h.lo
  exact ⟨h.bl.trans (hf.below.mono (by omega)), (hf.below.block _ (by omega)).trans h.hj, hb, h.row.keep hs (fun g h1 h2 h3 => R g h2 (by omega) h3), Nat.le_trans hl hs⟩
theorem Jw.rk {d : Nat} {w : World} {v : Value} {out : List Nd} {x : List UInt8} {wr w' : World} (h : Jw d w v out x wr) (k : Rk w x wr w') : Jw d w v out x w' := h.step k.fr k.sz (k.bd h.bd)
theorem set5 (ys : List Value) (n : Nat) (h : ys.length = n) (a0 a1 a2 a3 a4 b0 b1 b2 b3 b4 : Value) : (((((ys ++ [a0, a1, a2, a3, a4]).set n b0).set (n + 1) b1).set (n + 2) b2).set (n + 3) b3).set (n + 4) b4 = ys ++ [b0, b1, b2, b3, b4] := by
  subst h
  simp
/-- The world in which a node was stored. -/
def stN (w : World) (g o : Nat) (b0 b1 b2 b3 b4 : Value) : World := ((((w.setCell ⟨g, o, none⟩ b0).setCell ⟨g, o + 1, none⟩ b1).setCell ⟨g, o + 2, none⟩ b2).setCell ⟨g, o + 3, none⟩ b3).setCell ⟨g, o + 4, none⟩ b4
theorem stN_size {w : World} {g o : Nat} {b0 b1 b2 b3 b4 : Value} : (stN w g o b0 b1 b2 b3 b4).heap.size = w.heap.size := by simp [stN]
theorem stN_ne {w : World} {g o k : Nat} {b0 b1 b2 b3 b4 : Value} (h : g ≠ k) : (stN w g o b0 b1 b2 b3 b4).heap[k]? = w.heap[k]? := by
  unfold stN; rw [heap_set_ne h, heap_set_ne h, heap_set_ne h, heap_set_ne h, heap_set_ne h]
theorem heap_setF {w : World} {b j : Nat} {cs : Array Value} {t : TypeId} {fz : Nat × Nat} {v : Value} (h : w.heap[b]? = some (.cells cs t fz)) : (w.setCell ⟨b, j, none⟩ v).heap[b]? = some (.cells (cs.setIfInBounds j v) t fz) := by
  simp [World.setCell, Array.getElem?_modify, h]
/-- A node stored over the last of a row. -/
theorem RowN.store {d lo : Nat} {w : World} {g cap : Nat} {l : List Nd} {k0 t0 : Int} {s0 : ByteArray} {n0 : List Nd} {x0 : List Ar} (h : RowN d lo w (.slice (some ⟨g, 0, none⟩) (l.length + 1) cap) (l ++ [.mk k0 t0 s0 n0 x0])) {k t : Int} {s : ByteArray} {vk va : Value} {n : List Nd} {x : List Ar} (f1 : Fit k) (f2 : Fit t)
    (hn : LRx d w (Out lo w (some g)) vk n) (hx : ARx d w (Out lo w (some g)) va x) :
    RowN d lo (stN w g (l.length * 5) (.int .i64 k) (.int .i64 t) (.string s) vk va) (.slice (some ⟨g, 0, none⟩) (l.length + 1) cap) (l ++ [.mk k t s n x]) := by
  obtain ⟨ys, h1, h2⟩ := h
  have he : (l ++ [Nd.mk k0 t0 s0 n0 x0]).length = l.length + 1 := by simp
  have he2 : (l ++ [Nd.mk k t s n x]).length = l.length + 1 := by simp
  rw [he] at h1
  -- the cells in front and behind
  obtain ⟨xs, zs, rfl, c1, c2⟩ : ∃ xs zs, ys = xs ++ zs ∧ Cells (LRx d w (Out lo w (some g))) (ARx d w (Out lo w (some g))) xs l ∧ Cells (LRx d w (Out lo w (some g))) (ARx d w (Out lo w (some g))) zs [.mk k0 t0 s0 n0 x0] := cells_split l _ _ h2
  have hz5 : zs.length = 5 := by have := c2.length; simpa using this
  match zs, hz5 with
  | [a0, a1, a2, a3, a4], _ =>
    have hl := c1.length
    have o5 := own_setR (own_setR (own_setR (own_setR (own_setR h1 (l.length * 5) (.int .i64 k)) (l.length * 5 + 1) (.int .i64 t)) (l.length * 5 + 2) (.string s)) (l.length * 5 + 3) vk) (l.length * 5 + 4) va
    rw [set5 xs (l.length * 5) hl] at o5
    have same : ∀ q, Out lo w (some g) q → Out lo (stN w g (l.length * 5) (.int .i64 k) (.int .i64 t) (.string s) vk va) (some g) q := fun q hq => ⟨hq.1, by rw [stN_size]; exact hq.2.1, hq.2.2.1, hq.2.2.2.same (stN_ne (fun e => hq.2.2.1 (by rw [e])))⟩
    have cell : ∀ p : Addr, Out lo w (some g) p.block → (stN w g (l.length * 5) (.int .i64 k) (.int .i64 t) (.string s) vk va).cell? p = w.cell? p := fun p hq => World.cell?_of_block (stN_ne (fun e => hq.2.2.1 (by rw [e])))
    refine ⟨xs ++ [.int .i64 k, .int .i64 t, .string s, vk, va], by rw [he2]; exact o5, Cells.append (c1.imp (fun _ _ q => q.imp same cell) (fun _ _ q => ARx.imp q same cell)) ?_⟩
    show Cells _ _ [.int .i64 k, .int .i64 t, .string s, vk, va] [.mk k t s n x]
    exact ⟨rfl, rfl, rfl, f1, f2, hn.imp same cell, ARx.imp hx same cell, trivial⟩
/-- Reset. -/
theorem Reset (B b : Nat) (x : List UInt8) (w : World) (h : Bd w B b x) :
    Calls Tryz.prog 71 #[.pointer (some ⟨b, 0, none⟩)] w fun e w' => e = .returned (.tuple #[]) ∧ Bd w' B b [] ∧ Fr B b w w' ∧ w.heap.size ≤ w'.heap.size := by
  have hB := h.le
  obtain ⟨p, v, hp, hb⟩ : ∃ p v, (p = .pointer none ∨ p = .pointer (some ⟨b, 0, none⟩)) ∧ w.heap[b]? = some (.cells #[p, v] 105) := by
    rcases h with ⟨_, v, h2, _⟩ | ⟨_, v, h2, _⟩
    · exact ⟨_, v, .inl rfl, h2⟩
    · exact ⟨_, v, .inr rfl, h2⟩
  have c0 : w.cell? ⟨b, 0, none⟩ = some p := cell_heap hb rfl
  have c1 : w.cell? ⟨b, 1, none⟩ = some v := cell_heap hb rfl
  have f0 : w.frozen? ⟨b, 0, none⟩ = false := by simp [World.frozen?, hb]
  have f1 : w.frozen? ⟨b, 1, none⟩ = false := by simp [World.frozen?, hb]
  have HB := Lib.hid hb; clear hb hp h
  go_enter Tryz.func71, Tryz.ntmps71
  go_wp2_with fail
  go_end0
  have g9 : ((w.setCell ⟨b, 0, none⟩ (Value.pointer none)).setCell ⟨b, 1, none⟩ (Value.slice none 0 0)).heap[b]? = some (.cells #[Value.pointer none, Value.slice none 0 0] 105) := heap_set (heap_set HB.out)
  refine ⟨rfl, .inl ⟨hB, _, g9, ⟨rfl, .inl ⟨rfl, rfl⟩⟩, by simp [Value.ownBlock]⟩, ⟨((Below.refl _ _).setCell hB _).setCell hB _, fun k o hk hne _ => ?_⟩, by simp⟩
  have hbk : b ≠ k := fun e => hne (by rw [e])
  rw [heap_set_ne hbk, heap_set_ne hbk]; exact hk
end Go.Proofs.YtdojbnngdlmbgaaGreatDoor.Tr
