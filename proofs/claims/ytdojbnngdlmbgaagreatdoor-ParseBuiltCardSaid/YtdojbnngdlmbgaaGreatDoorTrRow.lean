/-
  A row of nodes or arguments that a call owns and appends to; its parts lie elsewhere.
-/
import Derived.Test.YtdojbnngdlmbgaaGreatDoorTrMx
import Derived.Deep.AppendLies
namespace Go.Proofs.YtdojbnngdlmbgaaGreatDoor.Tr
open Go.RowKit

/-- v is a row from block lo on that reads as l; the parts lie in other blocks from lo on. -/
def RowA (d lo : Nat) (w : World) (v : Value) (l : List Ar) : Prop :=
  ∃ ys, w.ownsRow lo 59 3 v l.length ys ∧ CellsA (LRx d w (Out lo w v.ownBlock)) ys l
def RowN (d lo : Nat) (w : World) (v : Value) (l : List Nd) : Prop :=
  ∃ ys, w.ownsRow lo 62 5 v l.length ys ∧ Cells (LRx d w (Out lo w v.ownBlock)) (ARx d w (Out lo w v.ownBlock)) ys l
theorem own_keep {w w' : World} {base : Nat} {e : TypeId} {size : Nat} {v : Value} {n : Nat} {xs : List Value} (h : w.ownsRow base e size v n xs) (hk : ∀ g, v.ownBlock = some g → w'.heap[g]? = w.heap[g]?) : w'.ownsRow base e size v n xs := by
  refine ⟨h.1, h.2.imp id ?_⟩
  rintro ⟨g, cap, cur, h3, h4, h5, h6⟩
  exact ⟨g, cap, cur, h3, h4, (hk g (by rw [h3]; rfl)).trans h5, h6⟩
theorem own_lt {w : World} {base : Nat} {e : TypeId} {size : Nat} {v : Value} {n : Nat} {xs : List Value} (h : w.ownsRow base e size v n xs) : ∀ g, v.ownBlock = some g → base ≤ g ∧ g < w.heap.size := by
  intro g hg
  rcases h.2 with ⟨rfl, _⟩ | ⟨g', cap, cur, rfl, h1, h2, _⟩
  · simp [Value.ownBlock] at hg
  · simp [Value.ownBlock] at hg; subst hg; exact ⟨h1, (Array.getElem?_eq_some_iff.1 h2).1⟩
theorem own_nb {w : World} {base : Nat} {e : TypeId} {size : Nat} {v : Value} {n : Nat} {xs : List Value} (h : w.ownsRow base e size v n xs) (he : e ≠ 5) : ∀ g, v.ownBlock = some g → NB w g := by
  intro g hg
  rcases h.2 with ⟨rfl, _⟩ | ⟨g', cap, cur, rfl, h1, h2, _⟩
  · simp [Value.ownBlock] at hg
  · simp [Value.ownBlock] at hg; subst hg; exact NB.cells h2 he
theorem out_more {lo : Nat} {w w' : World} {r : Option Nat} (h : w.heap.size ≤ w'.heap.size) (hk : ∀ g, lo ≤ g → g < w.heap.size → NB w g → w'.heap[g]? = w.heap[g]?) : ∀ g, Out lo w r g → Out lo w' r g := fun g ⟨h1, h2, h3, h4⟩ => ⟨h1, by omega, h3, h4.same (hk g h1 h2 h4)⟩
/-- Changes elsewhere. -/
theorem RowA.keep {d lo : Nat} {w w' : World} {v : Value} {l : List Ar} (h : RowA d lo w v l) (hs : w.heap.size ≤ w'.heap.size) (hk : ∀ g, lo ≤ g → g < w.heap.size → NB w g → w'.heap[g]? = w.heap[g]?) : RowA d lo w' v l := by
  obtain ⟨ys, h1, h2⟩ := h
  exact ⟨ys, own_keep h1 (fun g hg => hk g (own_lt h1 g hg).1 (own_lt h1 g hg).2 (own_nb h1 (by decide) g hg)), h2.imp fun _ _ q => q.imp (out_more hs hk) fun p hp => World.cell?_of_block (hk _ hp.1 hp.2.1 hp.2.2.2)⟩
theorem RowN.keep {d lo : Nat} {w w' : World} {v : Value} {l : List Nd} (h : RowN d lo w v l) (hs : w.heap.size ≤ w'.heap.size) (hk : ∀ g, lo ≤ g → g < w.heap.size → NB w g → w'.heap[g]? = w.heap[g]?) : RowN d lo w' v l := by
  obtain ⟨ys, h1, h2⟩ := h
  exact ⟨ys, own_keep h1 (fun g hg => hk g (own_lt h1 g hg).1 (own_lt h1 g hg).2 (own_nb h1 (by decide) g hg)), h2.imp (fun _ _ q => q.imp (out_more hs hk) fun p hp => World.cell?_of_block (hk _ hp.1 hp.2.1 hp.2.2.2)) (fun _ _ q => ARx.imp q (out_more hs hk) fun p hp => World.cell?_of_block (hk _ hp.1 hp.2.1 hp.2.2.2))⟩
theorem RowA.below {d lo : Nat} {w w' : World} {v : Value} {l : List Ar} (h : RowA d lo w v l) (hb : Below w.heap.size w w') : RowA d lo w' v l := h.keep hb.size fun g _ hg _ => hb.block g hg
theorem RowN.below {d lo : Nat} {w w' : World} {v : Value} {l : List Nd} (h : RowN d lo w v l) (hb : Below w.heap.size w w') : RowN d lo w' v l := h.keep hb.size fun g _ hg _ => hb.block g hg
theorem RowA.nil (d lo : Nat) (w : World) : RowA d lo w (.slice none 0 0) [] := ⟨[], ownNil w lo _ 3, trivial⟩
theorem RowN.nil (d lo : Nat) (w : World) : RowN d lo w (.slice none 0 0) [] := ⟨[], ownNil w lo _ 5, trivial⟩
theorem RowA.form {d lo : Nat} {w : World} {v : Value} {l : List Ar} (h : RowA d lo w v l) : ∃ A c, v = .slice A l.length c ∧ l.length ≤ c ∧ c ≤ 9223372036854775807 := by
  obtain ⟨ys, h1, _⟩ := h
  rcases h1.2 with ⟨rfl, h0⟩ | ⟨g, cap, cur, rfl, _, _, h2, h3, _⟩
  · exact ⟨none, 0, by rw [h0], by omega, by omega⟩
  · exact ⟨_, cap, rfl, h2, by simpa [maxLen] using h3⟩
theorem RowN.form {d lo : Nat} {w : World} {v : Value} {l : List Nd} (h : RowN d lo w v l) : ∃ A c, v = .slice A l.length c ∧ l.length ≤ c ∧ c ≤ 9223372036854775807 := by
  obtain ⟨ys, h1, _⟩ := h
  rcases h1.2 with ⟨rfl, h0⟩ | ⟨g, cap, cur, rfl, _, _, h2, h3, _⟩
  · exact ⟨none, 0, by rw [h0], by omega, by omega⟩
  · exact ⟨_, cap, rfl, h2, by simpa [maxLen] using h3⟩
/-- The row with its parts. -/
theorem RowA.rx {d lo : Nat} {w : World} {v : Value} {l : List Ar} (h : RowA d lo w v l) (hz : szA l ≤ 16777216) : ARx d w (In lo w) v l := by
  obtain ⟨ys, h1, h2⟩ := h
  exact own_rxA h1 (h2.imp fun _ _ q => q.imp (fun g hg => ⟨hg.1, hg.2.1, hg.2.2.2⟩) fun _ _ => rfl) hz (fun g hg => ⟨(own_lt h1 g hg).1, (own_lt h1 g hg).2, own_nb h1 (by decide) g hg⟩)
theorem RowN.rx {d lo : Nat} {w : World} {v : Value} {l : List Nd} (h : RowN d lo w v l) (hz : sz l ≤ 16777216) : LRx (d + 1) w (In lo w) v l := by
  obtain ⟨ys, h1, h2⟩ := h
  exact own_rx h1 (h2.imp (fun _ _ q => q.imp (fun g hg => ⟨hg.1, hg.2.1, hg.2.2.2⟩) fun _ _ => rfl) (fun _ _ q => ARx.imp q (fun g hg => ⟨hg.1, hg.2.1, hg.2.2.2⟩) fun _ _ => rfl)) hz (fun g hg => ⟨(own_lt h1 g hg).1, (own_lt h1 g hg).2, own_nb h1 (by decide) g hg⟩)
/-- What an append leaves: w' out of w, the row v become v'. -/
structure Grew (w w' : World) (v v' : Value) : Prop where
  gr : w.grownBy w' v.ownBlock
  at_ : v'.ownBlock = v.ownBlock ∨ v'.ownBlock = some w.heap.size
  lt : ∀ g, v'.ownBlock = some g → g < w'.heap.size
theorem Grew.size {w w' : World} {v v' : Value} (h : Grew w w' v v') : w.heap.size ≤ w'.heap.size := h.gr.size
theorem Grew.block {w w' : World} {v v' : Value} (h : Grew w w' v v') {g : Nat} (hg : g < w.heap.size) (hn : some g ≠ v.ownBlock) : w'.heap[g]? = w.heap[g]? := h.gr.block g hg hn
theorem Grew.out {lo : Nat} {w w' : World} {v v' : Value} (h : Grew w w' v v') : ∀ g, Out lo w v.ownBlock g → Out lo w' v'.ownBlock g := by
  rintro g ⟨h1, h2, h3, h4⟩
  refine ⟨h1, Nat.lt_of_lt_of_le h2 h.size, ?_, h4.same (h.block h2 h3)⟩
  rcases h.at_ with e | e <;> rw [e]
  · exact h3
  · intro q; have := Option.some.inj q; omega
theorem Grew.cell {lo : Nat} {w w' : World} {v v' : Value} (h : Grew w w' v v') (p : Addr) (hp : Out lo w v.ownBlock p.block) : w'.cell? p = w.cell? p := World.cell?_of_block (h.block hp.2.1 hp.2.2.1)
theorem Grew.rx {d lo : Nat} {w w' : World} {v v' : Value} (h : Grew w w' v v') {u : Value} {l : List Nd} (q : LRx d w (Out lo w v.ownBlock) u l) : LRx d w' (Out lo w' v'.ownBlock) u l := q.imp h.out h.cell
theorem Grew.rxA {d lo : Nat} {w w' : World} {v v' : Value} (h : Grew w w' v v') {u : Value} {l : List Ar} (q : ARx d w (Out lo w v.ownBlock) u l) : ARx d w' (Out lo w' v'.ownBlock) u l := ARx.imp q h.out h.cell
/-- append(v, one argument). -/
theorem RowA.app {d lo : Nat} {w : World} {v : Value} {l : List Ar} (ty : TypeId) (h : RowA d lo w v l) (hl : l.length ≤ 33554432) (hlo : lo ≤ w.heap.size) {b : Nat} {nm : Bool} {vn vv : Value} {n x : List Nd}
    (hb : w.heap[b]? = some (.cells #[.bool nm, vn, vv] 59)) (hn : LRx d w (Out lo w v.ownBlock) vn n) (hx : LRx d w (Out lo w v.ownBlock) vv x) :
    ∃ g cap w', (Builtin.append_ #[60, 60] ty #[v, .slice (some ⟨b, 0, none⟩) 1 1]).run Tryz.prog w = .ok (.slice (some ⟨g, 0, none⟩) (l.length + 1) cap) w' ∧ Grew w w' v (.slice (some ⟨g, 0, none⟩) (l.length + 1) cap) ∧ RowA d lo w' (.slice (some ⟨g, 0, none⟩) (l.length + 1) cap) (l ++ [.mk nm n x]) := by
  obtain ⟨ys, h1, h2⟩ := h
  obtain ⟨i0, hi, hz0, hz1, hz2⟩ := info_parts infoA
  obtain ⟨g, cap, w', r1, r2, r3, r4, r5⟩ := run_append_lies (P := Tryz.prog) w 60 ty lo 59 i0 _ 3 56 Tryz.underlying60 hi hz0 hz1 hz2 rfl (by omega) v l.length ys h1 ⟨b, 0, none⟩ 1 1 [.bool nm, vn, vv] rfl
    (World.news_of_block (cs := #[.bool nm, vn, vv]) hb) (by intro u hu; simp only [List.mem_cons, List.not_mem_nil, or_false] at hu; rcases hu with rfl | rfl | rfl; rfl; exact hn.one; exact hx.one) (by omega) (by simp only [maxLen]; omega) (by omega) hlo w.heap.size rfl
  have G : Grew w w' v (.slice (some ⟨g, 0, none⟩) (l.length + 1) cap) := ⟨r3, by rcases r4 with e | e; exact .inl e.symm; exact .inr (by rw [e]; rfl), fun g' e => by cases e; exact r5⟩
  exact ⟨g, cap, w', r1, G, _, by rw [List.length_append]; exact r2, CellsA.snoc (h2.imp fun _ _ q => G.rx q) (G.rx hn) (G.rx hx)⟩
/-- append(v, one node). -/
theorem RowN.app {d lo : Nat} {w : World} {v : Value} {l : List Nd} (ty : TypeId) (h : RowN d lo w v l) (hl : l.length ≤ 33554432) (hlo : lo ≤ w.heap.size) {b : Nat} {k t : Int} {s : ByteArray} {vk va : Value} {n : List Nd} {x : List Ar}
    (hb : w.heap[b]? = some (.cells #[.int .i64 k, .int .i64 t, .string s, vk, va] 62)) (f1 : Fit k) (f2 : Fit t) (hn : LRx d w (Out lo w v.ownBlock) vk n) (hx : ARx d w (Out lo w v.ownBlock) va x) :
    ∃ g cap w', (Builtin.append_ #[27, 27] ty #[v, .slice (some ⟨b, 0, none⟩) 1 1]).run Tryz.prog w = .ok (.slice (some ⟨g, 0, none⟩) (l.length + 1) cap) w' ∧ Grew w w' v (.slice (some ⟨g, 0, none⟩) (l.length + 1) cap) ∧ RowN d lo w' (.slice (some ⟨g, 0, none⟩) (l.length + 1) cap) (l ++ [.mk k t s n x]) := by
  obtain ⟨ys, h1, h2⟩ := h
  obtain ⟨i0, hi, hz0, hz1, hz2⟩ := info_parts infoN
  obtain ⟨g, cap, w', r1, r2, r3, r4, r5⟩ := run_append_lies (P := Tryz.prog) w 27 ty lo 62 i0 _ 5 80 Tryz.underlying27 hi hz0 hz1 hz2 rfl (by omega) v l.length ys h1 ⟨b, 0, none⟩ 1 1 [.int .i64 k, .int .i64 t, .string s, vk, va] rfl
    (World.news_of_block (cs := #[.int .i64 k, .int .i64 t, .string s, vk, va]) hb) (by intro u hu; simp only [List.mem_cons, List.not_mem_nil, or_false] at hu; rcases hu with rfl | rfl | rfl | rfl | rfl; rfl; rfl; rfl; exact hn.one; exact ARx.one hx) (by omega) (by simp only [maxLen]; omega) (by omega) hlo w.heap.size rfl
  have G : Grew w w' v (.slice (some ⟨g, 0, none⟩) (l.length + 1) cap) := ⟨r3, by rcases r4 with e | e; exact .inl e.symm; exact .inr (by rw [e]; rfl), fun g' e => by cases e; exact r5⟩
  refine ⟨g, cap, w', r1, G, _, by rw [List.length_append]; exact r2, Cells.append (h2.imp (fun _ _ q => G.rx q) (fun _ _ q => G.rxA q)) (show Cells _ _ [.int .i64 k, .int .i64 t, .string s, vk, va] [.mk k t s n x] from ⟨rfl, rfl, rfl, f1, f2, G.rx hn, G.rxA hx, trivial⟩)⟩
theorem cells_split {R : Value → List Nd → Prop} {RA : Value → List Ar → Prop} : ∀ (l m : List Nd) (ys : List Value), Cells R RA ys (l ++ m) → ∃ xs zs, ys = xs ++ zs ∧ Cells R RA xs l ∧ Cells R RA zs m
  | [], m, ys, h => ⟨[], ys, rfl, trivial, h⟩
  | n :: l, m, c0 :: c1 :: c2 :: c3 :: c4 :: ys, ⟨a0, a1, a2, f1, f2, a3, a4, r⟩ => by
    obtain ⟨xs, zs, rfl, h1, h2⟩ := cells_split l m ys r
    exact ⟨c0 :: c1 :: c2 :: c3 :: c4 :: xs, zs, rfl, ⟨a0, a1, a2, f1, f2, a3, a4, h1⟩, h2⟩
theorem own_setR {w : World} {base : Nat} {e : TypeId} {size n cap g : Nat} {xs : List Value} (h : w.ownsRow base e size (.slice (some ⟨g, 0, none⟩) n cap) n xs) (j : Nat) (u : Value) : (w.setCell ⟨g, j, none⟩ u).ownsRow base e size (.slice (some ⟨g, 0, none⟩) n cap) n (xs.set j u) := by
  obtain ⟨h1, h2⟩ := h
  refine ⟨by simpa using h1, ?_⟩
  rcases h2 with ⟨h2, _⟩ | ⟨g', cap', cur, hv, hg, hh, r1, r2, r3, r4⟩
  · cases h2
  · injection hv with e1 e2 e3
    injection e1 with e1
    injection e1 with e1
    subst e1 e3
    refine .inr ⟨g, cap, cur.setIfInBounds j u, rfl, hg, ?_, r1, r2, by simpa using r3, ?_⟩
    · simp [World.setCell, Array.getElem?_modify, hh]
    · rw [← r4, Array.toList_setIfInBounds, List.take_set]
end Go.Proofs.YtdojbnngdlmbgaaGreatDoor.Tr
