/-
  Appending to a list of nodes or of arguments that the call itself makes.
-/
import Derived.Test.YtdojbnngdlmbgaaGreatDoorTrKnown
import Derived.Laws.AppendOwn
import Derived.Laws.OwnMore
namespace Go.Proofs.YtdojbnngdlmbgaaGreatDoor.Tr
open Go.RowKit
set_option linter.unusedVariables false

/-- The cells of a list of nodes. -/
def Cells (R : Value → List Nd → Prop) (RA : Value → List Ar → Prop) : List Value → List Nd → Prop
  | [], [] => True
  | c0 :: c1 :: c2 :: c3 :: c4 :: xs, n :: l => c0 = .int .i64 n.kind ∧ c1 = .int .i64 n.tag ∧ c2 = .string n.text ∧ Fit n.kind ∧ Fit n.tag ∧ R c3 n.kids ∧ RA c4 n.args ∧ Cells R RA xs l
  | _, _ => False
/-- The cells of a list of arguments. -/
def CellsA (R : Value → List Nd → Prop) : List Value → List Ar → Prop
  | [], [] => True
  | c0 :: c1 :: c2 :: xs, a :: l => c0 = .bool a.named ∧ R c1 a.name ∧ R c2 a.value ∧ CellsA R xs l
  | _, _ => False
theorem Cells.imp {R R' : Value → List Nd → Prop} {RA RA' : Value → List Ar → Prop} (h1 : ∀ v l, R v l → R' v l) (h2 : ∀ v l, RA v l → RA' v l) : ∀ {xs : List Value} {l : List Nd}, Cells R RA xs l → Cells R' RA' xs l
  | [], [], _ => trivial
  | c0 :: c1 :: c2 :: c3 :: c4 :: xs, n :: l, ⟨a0, a1, a2, f1, f2, a3, a4, r⟩ => ⟨a0, a1, a2, f1, f2, h1 _ _ a3, h2 _ _ a4, Cells.imp h1 h2 r⟩
theorem CellsA.imp {R R' : Value → List Nd → Prop} (h1 : ∀ v l, R v l → R' v l) : ∀ {xs : List Value} {l : List Ar}, CellsA R xs l → CellsA R' xs l
  | [], [], _ => trivial
  | c0 :: c1 :: c2 :: xs, n :: l, ⟨a0, a1, a2, r⟩ => ⟨a0, h1 _ _ a1, h1 _ _ a2, CellsA.imp h1 r⟩
theorem Cells.append {R : Value → List Nd → Prop} {RA : Value → List Ar → Prop} : ∀ {xs ys : List Value} {l m : List Nd}, Cells R RA xs l → Cells R RA ys m → Cells R RA (xs ++ ys) (l ++ m)
  | [], _, [], _, _, h => h
  | c0 :: c1 :: c2 :: c3 :: c4 :: xs, _, n :: l, _, ⟨a0, a1, a2, f1, f2, a3, a4, r⟩, h => ⟨a0, a1, a2, f1, f2, a3, a4, Cells.append r h⟩
theorem CellsA.append {R : Value → List Nd → Prop} : ∀ {xs ys : List Value} {l m : List Ar}, CellsA R xs l → CellsA R ys m → CellsA R (xs ++ ys) (l ++ m)
  | [], _, [], _, _, h => h
  | c0 :: c1 :: c2 :: xs, _, n :: l, _, ⟨a0, a1, a2, r⟩, h => ⟨a0, a1, a2, CellsA.append r h⟩
theorem Cells.length {R : Value → List Nd → Prop} {RA : Value → List Ar → Prop} : ∀ {xs : List Value} {l : List Nd}, Cells R RA xs l → xs.length = l.length * 5
  | [], [], _ => rfl
  | c0 :: c1 :: c2 :: c3 :: c4 :: xs, n :: l, ⟨_, _, _, _, _, _, _, r⟩ => by have := Cells.length r; simp only [List.length_cons]; omega
theorem CellsA.length {R : Value → List Nd → Prop} : ∀ {xs : List Value} {l : List Ar}, CellsA R xs l → xs.length = l.length * 3
  | [], [], _ => rfl
  | c0 :: c1 :: c2 :: xs, n :: l, ⟨_, _, _, r⟩ => by have := CellsA.length r; simp only [List.length_cons]; omega
/-- A value of one cell. -/
theorem LRd.one {d : Nat} {w : World} {B : Nat} {v : Value} {l : List Nd} (h : LRd d w B v l) : v.oneCell' = true := by obtain ⟨A, c, rfl⟩ := h.form; rfl
theorem ARd.one {d : Nat} {w : World} {B : Nat} {v : Value} {l : List Ar} (h : ARd d w B v l) : v.oneCell' = true := by obtain ⟨A, c, rfl⟩ := ARd.form h; rfl
theorem Cells.one {d : Nat} {w : World} {B : Nat} : ∀ {xs : List Value} {l : List Nd}, Cells (LRd d w B) (ARd d w B) xs l → ∀ u ∈ xs, u.oneCell' = true
  | [], [], _, u, hu => by cases hu
  | c0 :: c1 :: c2 :: c3 :: c4 :: xs, n :: l, ⟨a0, a1, a2, _, _, a3, a4, r⟩, u, hu => by
    simp only [List.mem_cons] at hu
    rcases hu with rfl | rfl | rfl | rfl | rfl | hu
    · subst a0; rfl
    · subst a1; rfl
    · subst a2; rfl
    · exact a3.one
    · exact a4.one
    · exact Cells.one r u hu
theorem CellsA.one {d : Nat} {w : World} {B : Nat} : ∀ {xs : List Value} {l : List Ar}, CellsA (LRd d w B) xs l → ∀ u ∈ xs, u.oneCell' = true
  | [], [], _, u, hu => by cases hu
  | c0 :: c1 :: c2 :: xs, n :: l, ⟨a0, a1, a2, r⟩, u, hu => by
    simp only [List.mem_cons] at hu
    rcases hu with rfl | rfl | rfl | hu
    · subst a0; rfl
    · exact a1.one
    · exact a2.one
    · exact CellsA.one r u hu
theorem Cells.get {R : Value → List Nd → Prop} {RA : Value → List Ar → Prop} : ∀ {xs : List Value} {l : List Nd}, Cells R RA xs l → ∀ i n, l[i]? = some n → ∃ vk va, xs[i * 5]? = some (.int .i64 n.kind) ∧ xs[i * 5 + 1]? = some (.int .i64 n.tag) ∧ xs[i * 5 + 2]? = some (.string n.text) ∧ xs[i * 5 + 3]? = some vk ∧ xs[i * 5 + 4]? = some va ∧ Fit n.kind ∧ Fit n.tag ∧ R vk n.kids ∧ RA va n.args
  | [], [], _, i, n, h => by simp at h
  | c0 :: c1 :: c2 :: c3 :: c4 :: xs, m :: l, ⟨a0, a1, a2, f1, f2, a3, a4, r⟩, i, n, h => by
    cases i with
    | zero =>
      simp at h; subst h
      exact ⟨c3, c4, by simp [a0], by simp [a1], by simp [a2], by simp, by simp, f1, f2, a3, a4⟩
    | succ i =>
      obtain ⟨vk, va, h0, h1, h2, h3, h4, h5⟩ := Cells.get r i n (by simpa using h)
      have e : (i + 1) * 5 = i * 5 + 5 := by omega
      rw [e]
      exact ⟨vk, va, by simpa using h0, by simpa [Nat.add_right_comm _ 5] using h1, by simpa [Nat.add_right_comm _ 5] using h2, by simpa [Nat.add_right_comm _ 5] using h3, by simpa [Nat.add_right_comm _ 5] using h4, h5⟩
theorem CellsA.get {R : Value → List Nd → Prop} : ∀ {xs : List Value} {l : List Ar}, CellsA R xs l → ∀ i n, l[i]? = some n → ∃ vk va, xs[i * 3]? = some (.bool n.named) ∧ xs[i * 3 + 1]? = some vk ∧ xs[i * 3 + 2]? = some va ∧ R vk n.name ∧ R va n.value
  | [], [], _, i, n, h => by simp at h
  | c0 :: c1 :: c2 :: xs, m :: l, ⟨a0, a1, a2, r⟩, i, n, h => by
    cases i with
    | zero =>
      simp at h; subst h
      exact ⟨c1, c2, by simp [a0], by simp, by simp, a1, a2⟩
    | succ i =>
      obtain ⟨vk, va, h0, h1, h2, h3⟩ := CellsA.get r i n (by simpa using h)
      have e : (i + 1) * 3 = i * 3 + 3 := by omega
      rw [e]
      exact ⟨vk, va, by simpa using h0, by simpa [Nat.add_right_comm _ 3] using h1, by simpa [Nat.add_right_comm _ 3] using h2, h3⟩
/-- Out of memory: the cells of a list. -/
theorem cells_read {R : Value → List Nd → Prop} {w : World} {B g : Nat} : ∀ (l : List Nd) (o : Nat), (∀ i n, l[i]? = some n → NdAt R w B g (o + i * 5) n) → ∃ xs, Cells R (ARd' R w B) xs l ∧ ∀ j u, xs[j]? = some u → w.cell? ⟨g, o + j, none⟩ = some u
  | [], o, _ => ⟨[], trivial, fun j u h => by simp at h⟩
  | n :: l, o, h => by
    obtain ⟨vk, va, a1, a2, a3, a4, a5, f1, f2, a6, a7⟩ := h 0 n rfl
    obtain ⟨xs, h1, h2⟩ := cells_read l (o + 5) (fun i m hm => by have := h (i + 1) m (by simpa using hm); rwa [show o + (i + 1) * 5 = o + 5 + i * 5 by omega] at this)
    simp only [Nat.zero_mul, Nat.add_zero] at a1 a2 a3 a4 a5
    refine ⟨_ :: _ :: _ :: _ :: _ :: xs, ⟨rfl, rfl, rfl, f1, f2, a6, a7, h1⟩, fun j u hj => ?_⟩
    match j, hj with
    | 0, hj => simp at hj; subst hj; exact a1
    | 1, hj => simp at hj; subst hj; exact a2
    | 2, hj => simp at hj; subst hj; exact a3
    | 3, hj => simp at hj; subst hj; exact a4
    | 4, hj => simp at hj; subst hj; exact a5
    | j + 5, hj =>
      rw [show o + (j + 5) = o + 5 + j by omega]
      exact h2 j u (by simpa using hj)
theorem cells_readA {R : Value → List Nd → Prop} {w : World} {g : Nat} : ∀ (l : List Ar) (o : Nat), (∀ i n, l[i]? = some n → ArAt R w g (o + i * 3) n) → ∃ xs, CellsA R xs l ∧ ∀ j u, xs[j]? = some u → w.cell? ⟨g, o + j, none⟩ = some u
  | [], o, _ => ⟨[], trivial, fun j u h => by simp at h⟩
  | n :: l, o, h => by
    obtain ⟨vk, va, a1, a2, a3, a6, a7⟩ := h 0 n rfl
    obtain ⟨xs, h1, h2⟩ := cells_readA l (o + 3) (fun i m hm => by have := h (i + 1) m (by simpa using hm); rwa [show o + (i + 1) * 3 = o + 3 + i * 3 by omega] at this)
    simp only [Nat.zero_mul, Nat.add_zero] at a1 a2 a3
    refine ⟨_ :: _ :: _ :: xs, ⟨rfl, a6, a7, h1⟩, fun j u hj => ?_⟩
    match j, hj with
    | 0, hj => simp at hj; subst hj; exact a1
    | 1, hj => simp at hj; subst hj; exact a2
    | 2, hj => simp at hj; subst hj; exact a3
    | j + 3, hj =>
      rw [show o + (j + 3) = o + 3 + j by omega]
      exact h2 j u (by simpa using hj)
/-- A row that the call owns, whose cells are those of a list, reads as it. -/
theorem cell_row {w : World} {g : Nat} {cur : Array Value} {e : TypeId} {k : Nat} {xs : List Value} (h : w.heap[g]? = some (.cells cur e)) (hx : cur.toList.take k = xs) {j : Nat} {u : Value} (hj : xs[j]? = some u) : w.cell? ⟨g, 0 + j, none⟩ = some u := by
  rw [Nat.zero_add]
  refine cell_heap h ?_
  rw [← hx] at hj
  have hlt : j < k := by
    have := (List.getElem?_eq_some_iff.1 hj).1
    rw [List.length_take] at this; omega
  rw [List.getElem?_take_of_lt hlt] at hj
  simpa using hj
theorem own_rd {d : Nat} {w : World} {base B : Nat} {e : TypeId} {v : Value} {xs : List Value} {l : List Nd} (h : w.ownsRow base e 5 v l.length xs) (hc : Cells (LRd d w B) (ARd d w B) xs l) (hz : sz l ≤ 16777216) (hB : B = w.heap.size) : LRd (d + 1) w B v l := by
  rcases h.2 with ⟨rfl, h0⟩ | ⟨g, cap, cur, rfl, _, hg, h1, h2, _, h3⟩
  · have : l = [] := List.length_eq_zero_iff.1 h0
    subst this
    exact LRd_nil d w B 0 none (Nat.zero_le _)
  · refine ⟨hz, some ⟨g, 0, none⟩, cap, rfl, h1, h2, fun _ => ⟨g, 0, rfl, by rw [hB]; exact (Array.getElem?_eq_some_iff.1 hg).1, fun i _ n hn => ?_⟩⟩
    obtain ⟨vk, va, a0, a1, a2, a3, a4, a5⟩ := hc.get i n hn
    have q := fun {j : Nat} {u : Value} (hj : xs[j]? = some u) => cell_row hg h3 hj
    exact ⟨vk, va, q a0, q a1, q a2, q a3, q a4, a5⟩
theorem own_rdA {d : Nat} {w : World} {base B : Nat} {e : TypeId} {v : Value} {xs : List Value} {l : List Ar} (h : w.ownsRow base e 3 v l.length xs) (hc : CellsA (LRd d w B) xs l) (hz : szA l ≤ 16777216) (hB : B = w.heap.size) : ARd d w B v l := by
  rcases h.2 with ⟨rfl, h0⟩ | ⟨g, cap, cur, rfl, _, hg, h1, h2, _, h3⟩
  · have : l = [] := List.length_eq_zero_iff.1 h0
    subst this
    exact ARd_nil d w B 0 none (Nat.zero_le _)
  · refine ⟨hz, some ⟨g, 0, none⟩, cap, rfl, h1, h2, fun _ => ⟨g, 0, rfl, by rw [hB]; exact (Array.getElem?_eq_some_iff.1 hg).1, fun i _ n hn => ?_⟩⟩
    obtain ⟨vk, va, a0, a1, a2, a5⟩ := hc.get i n hn
    have q := fun {j : Nat} {u : Value} (hj : xs[j]? = some u) => cell_row hg h3 hj
    exact ⟨vk, va, q a0, q a1, q a2, a5⟩

theorem infoN : (Tryz.prog.info? 62).map (fun i => (i.zero, i.size, i.bytes)) = some (some (.agg #[.int .i64 0, .int .i64 0, .string ⟨#[]⟩, .slice none 0 0, .slice none 0 0]), 5, 80) := by kernel_rfl
theorem infoA : (Tryz.prog.info? 59).map (fun i => (i.zero, i.size, i.bytes)) = some (some (.agg #[.bool false, .slice none 0 0, .slice none 0 0]), 3, 56) := by kernel_rfl
/-- Nothing is appended. -/
theorem run_app0 (w : World) (base : Nat) (t ty e : TypeId) (i : TypeInfo) (size : Nat) (ht : Tryz.prog.underlying t = some (.slice e)) (hi : Tryz.prog.info? e = some i) (v : Value) (n c : Nat) (xs : List Value) (hown : w.ownsRow base e size v n xs) :
    (Builtin.append_ #[t, t] ty #[v, .slice none 0 c]).run Tryz.prog w = .ok v w := by
  rcases hown.2 with ⟨rfl, rfl⟩ | ⟨g, cap, cur, rfl, _, _, hnc, _⟩
  · simp [Builtin.append_, run_underlying ht, sizeOf, typeInfo, hi, Builtin.lenOf, Builtin.firstCells]
  · simp [Builtin.append_, run_underlying ht, sizeOf, typeInfo, hi, Builtin.lenOf, Builtin.firstCells, hnc, storeCells]
/-- What is appended: the cells of a list in memory. -/
theorem src_cells {d : Nat} {w : World} {B : Nat} {v : Value} {l : List Nd} (h : LRd (d + 1) w B v l) :
    ∃ A c xs, v = .slice A l.length c ∧ Cells (LRd d w B) (ARd d w B) xs l ∧ (A = none → l = []) ∧ ∀ a, A = some a → ∀ j u, xs[j]? = some u → w.cell? (a.add j) = some u := by
  obtain ⟨A, c, rfl, _, _, _, R⟩ := h.open
  by_cases h0 : 0 < l.length
  · obtain ⟨g, o, rfl, _, q⟩ := R h0
    obtain ⟨xs, h1, h2⟩ := cells_read l o q
    refine ⟨_, c, xs, rfl, h1, (fun e => nomatch e), fun a e j u hj => ?_⟩
    cases e
    have := h2 j u hj
    unfold Addr.add
    split
    · rename_i e; subst e; exact this
    · exact this
  · have : l = [] := List.length_eq_zero_iff.1 (by omega)
    subst this
    exact ⟨A, c, [], rfl, trivial, fun _ => rfl, fun a _ j u hj => by simp at hj⟩
theorem src_cellsA {d : Nat} {w : World} {B : Nat} {v : Value} {l : List Ar} (h : ARd d w B v l) :
    ∃ A c xs, v = .slice A l.length c ∧ CellsA (LRd d w B) xs l ∧ (A = none → l = []) ∧ ∀ a, A = some a → ∀ j u, xs[j]? = some u → w.cell? (a.add j) = some u := by
  obtain ⟨A, c, rfl, _, _, _, R⟩ := ARd.open h
  by_cases h0 : 0 < l.length
  · obtain ⟨g, o, rfl, _, q⟩ := R h0
    obtain ⟨xs, h1, h2⟩ := cells_readA l o q
    refine ⟨_, c, xs, rfl, h1, (fun e => nomatch e), fun a e j u hj => ?_⟩
    cases e
    have := h2 j u hj
    unfold Addr.add
    split
    · rename_i e; subst e; exact this
    · exact this
  · have : l = [] := List.length_eq_zero_iff.1 (by omega)
    subst this
    exact ⟨A, c, [], rfl, trivial, fun _ => rfl, fun a _ j u hj => by simp at hj⟩
theorem ownNil (w : World) (base : Nat) (e : TypeId) (size : Nat) : w.ownsRow base e size (.slice none 0 0) 0 [] := ⟨by simp, .inl ⟨rfl, rfl⟩⟩
/-- append(dst, l...): dst a row of the call's own, l a list in memory. -/
theorem run_appN {d : Nat} {w : World} {base B n : Nat} {v u : Value} {xs : List Value} {l : List Nd} (ty : TypeId) (hown : w.ownsRow base 62 5 v n xs) (h : LRd (d + 1) w B u l) (hn : n ≤ 33554432) (hbase : base ≤ w.heap.size) :
    ∃ v' w' ys, (Builtin.append_ #[27, 27] ty #[v, u]).run Tryz.prog w = .ok v' w' ∧ Cells (LRd d w B) (ARd d w B) ys l ∧ w'.ownsRow base 62 5 v' (n + l.length) (xs ++ ys) ∧ w.grownBy w' v.ownBlock := by
  have hlen := Nat.le_trans (sz_len l) h.1
  obtain ⟨A, c, ys, rfl, hc, h0, hr⟩ := src_cells h
  obtain ⟨i0, hi, hz0, hz1, hz2⟩ := info_parts infoN
  cases A with
  | none =>
    have := h0 rfl
    subst this
    have hy : ys = [] := List.length_eq_zero_iff.1 (by simpa using hc.length)
    subst hy
    exact ⟨v, w, [], run_app0 w base _ _ _ i0 5 Tryz.underlying27 hi v n c xs hown, trivial, by simpa using hown, ⟨rfl, rfl, rfl, Nat.le_refl _, fun _ _ _ => rfl⟩⟩
  | some a =>
    obtain ⟨v', w', h1, h2, h3, _⟩ := run_append_own (P := Tryz.prog) w base 27 ty 62 i0 _ 5 80 Tryz.underlying27 hi hz0 hz1 hz2 rfl (by omega) v n xs hown a l.length c ys hc.length (hr a rfl) hc.one (by simp only [maxLen]; omega) (by omega) hbase
    exact ⟨v', w', ys, h1, hc, h2, h3⟩
theorem run_appA {d : Nat} {w : World} {base B n : Nat} {v u : Value} {xs : List Value} {l : List Ar} (ty : TypeId) (hown : w.ownsRow base 59 3 v n xs) (h : ARd d w B u l) (hn : n ≤ 33554432) (hbase : base ≤ w.heap.size) :
    ∃ v' w' ys, (Builtin.append_ #[60, 60] ty #[v, u]).run Tryz.prog w = .ok v' w' ∧ CellsA (LRd d w B) ys l ∧ w'.ownsRow base 59 3 v' (n + l.length) (xs ++ ys) ∧ w.grownBy w' v.ownBlock := by
  have hlen := Nat.le_trans (szA_len l) h.1
  obtain ⟨A, c, ys, rfl, hc, h0, hr⟩ := src_cellsA h
  obtain ⟨i0, hi, hz0, hz1, hz2⟩ := info_parts infoA
  cases A with
  | none =>
    have := h0 rfl
    subst this
    have hy : ys = [] := List.length_eq_zero_iff.1 (by simpa using hc.length)
    subst hy
    exact ⟨v, w, [], run_app0 w base _ _ _ i0 3 Tryz.underlying60 hi v n c xs hown, trivial, by simpa using hown, ⟨rfl, rfl, rfl, Nat.le_refl _, fun _ _ _ => rfl⟩⟩
  | some a =>
    obtain ⟨v', w', h1, h2, h3, _⟩ := run_append_own (P := Tryz.prog) w base 60 ty 59 i0 _ 3 56 Tryz.underlying60 hi hz0 hz1 hz2 rfl (by omega) v n xs hown a l.length c ys hc.length (hr a rfl) hc.one (by simp only [maxLen]; omega) (by omega) hbase
    exact ⟨v', w', ys, h1, hc, h2, h3⟩
/-- Onto nil: the list again, in a row of the call's own. -/
theorem run_copyN {d : Nat} {w : World} {B : Nat} {u : Value} {l : List Nd} (ty : TypeId) (h : LRd (d + 1) w B u l) (hB : B ≤ w.heap.size) :
    ∃ A c w' ys, (Builtin.append_ #[27, 27] ty #[.slice none 0 0, u]).run Tryz.prog w = .ok (.slice A l.length c) w' ∧ LRd (d + 1) w' w'.heap.size (.slice A l.length c) l ∧ Below w.heap.size w w' ∧
      w'.ownsRow w.heap.size 62 5 (.slice A l.length c) l.length ys ∧ Cells (LRd d w B) (ARd d w B) ys l := by
  obtain ⟨v', w', ys, h1, h2, h3, h4⟩ := run_appN ty (ownNil w w.heap.size _ 5) h (by omega) (Nat.le_refl _)
  have hb : Below w.heap.size w w' := (Below.refl _ _).grown h4 (Nat.le_refl _) (fun k e => by simp [Value.ownBlock] at e)
  rw [Nat.zero_add, List.nil_append] at h3
  have hc : Cells (LRd d w' w'.heap.size) (ARd d w' w'.heap.size) ys l := h2.imp (fun _ _ q => q.below hb hB (Nat.le_trans hB hb.size)) (fun _ _ q => ARd.below q hb hB (Nat.le_trans hB hb.size))
  have hr : LRd (d + 1) w' w'.heap.size v' l := own_rd h3 hc h.1 rfl
  obtain ⟨A, c, rfl⟩ := hr.form
  exact ⟨A, c, w', ys, h1, hr, hb, h3, h2⟩
/-- An append whose run is known. -/
theorem wpList_app {ops : Array Oper} {rest : List Oper} {o : Oper} {a : Act} {Q : Exit → Act → World → Prop} {w w' : World} {v u v' : Value} {t : TypeId} (hrun : (Builtin.append_ #[t, t] t #[v, u]).run Tryz.prog w = .ok v' w') (hw : Region.wanted o (yielded ops a.tmps) = true) (s x : Operand)
    (ho : o.op = .call { callee := .builtin .append, args := #[s, x], argTypes := #[t, t] }) (hty : o.type = t) (hs : a.eval s = v) (hx : a.eval x = u) (h : wpList Tryz.prog ops Q rest (a.put o.dst v') w') : wpList Tryz.prog ops Q (o :: rest) a w := by
  refine wpList_step fun K hK => ?_
  rw [if_pos hw]
  subst hty
  unfold Oper.wp
  simp [execOp, ho, resolve, invoke, builtin, hs, hx, hrun, Result.andThen]
  exact hK _ _ h
end Go.Proofs.YtdojbnngdlmbgaaGreatDoor.Tr
