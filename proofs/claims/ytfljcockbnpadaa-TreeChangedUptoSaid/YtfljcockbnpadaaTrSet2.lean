/-
  A zero node or a zero argument appended, and a list of kids or of arguments of a copied list replaced, in memory.
-/
import Derived.Test.YtfljcockbnpadaaTrSet
import Derived.OneCell
namespace Go.Proofs.Ytfljcockbnpadaa.Tr
open Go.RowKit
set_option linter.unusedVariables false

def zN : Nd := .mk 0 0 ⟨#[]⟩ [] []
def zA : Ar := .mk false [] []
def zNo : Obj := .cells #[.int .i64 0, .int .i64 0, .string ⟨#[]⟩, .slice none 0 0, .slice none 0 0] 30
def zAo : Obj := .cells #[.bool false, .slice none 0 0, .slice none 0 0] 32
theorem LRd_empty {d : Nat} {w w' : World} {B B' : Nat} {v : Value} (h : LRd d w B v []) : LRd d w' B' v [] := by
  cases d with
  | zero => exact h.elim
  | succ d =>
    obtain ⟨_, A, c, rfl, _, hc, _⟩ := h
    exact LRd_nil d w' B' c A hc
theorem ARd_empty {d : Nat} {w w' : World} {B B' : Nat} {v : Value} (h : ARd d w B v []) : ARd d w' B' v [] := by
  obtain ⟨_, A, c, rfl, _, hc, _⟩ := h
  exact ARd_nil d w' B' c A hc
theorem zN_rd (d : Nat) (W : World) : LRd (d + 2) (W.alloc zNo) (W.alloc zNo).heap.size (.slice (some ⟨W.heap.size, 0, none⟩) 1 1) [zN] :=
  LRd_one (n := zN) (by simp [sz, szN, szA, zN, ByteArray.size]) (by simp) (heap_new W zNo) (fit_small (k := 0) (by decide) (by decide)) (fit_small (k := 0) (by decide) (by decide)) (LRd_nil d _ _ _ _ maxLen0) (ARd_nil _ _ _ _ _ maxLen0)
theorem zA_rd (d : Nat) (W : World) : ARd (d + 1) (W.alloc zAo) (W.alloc zAo).heap.size (.slice (some ⟨W.heap.size, 0, none⟩) 1 1) [zA] :=
  ARd_one (a := zA) (by simp [szA, szG, sz, zA]) (by simp) (heap_new W zAo) (LRd_nil d _ _ _ _ maxLen0) (LRd_nil d _ _ _ _ maxLen0)
theorem own_alloc {W : World} {base : Nat} {e : TypeId} {size n : Nat} {v : Value} {xs : List Value} (h : W.ownsRow base e size v n xs) (o : Obj) : (W.alloc o).ownsRow base e size v n xs := World.ownsRow.alloc h o
/-- append(v, api.Node{}). -/
theorem run_zeroN (d : Nat) {W : World} {base n : Nat} {v : Value} {xs : List Value} (ty : TypeId) (hown : W.ownsRow base 30 5 v n xs) (hbase : base ≤ W.heap.size) (hn : n ≤ 33554432) :
    ∃ v' w' ys, (Builtin.append_ #[22, 22] ty #[v, .slice (some ⟨W.heap.size, 0, none⟩) 1 1]).run Try.prog (W.alloc zNo) = .ok v' w' ∧ w'.ownsRow base 30 5 v' (n + 1) (xs ++ ys) ∧ (W.alloc zNo).grownBy w' v.ownBlock ∧ ∀ w0 B0, Cells (LRd (d + 1) w0 B0) (ARd (d + 1) w0 B0) ys [zN] := by
  obtain ⟨v', w', ys, h1, h2, h3, h4⟩ := run_appN ty (own_alloc hown zNo) (zN_rd d W) hn (by simp; omega)
  refine ⟨v', w', ys, h1, h3, h4, fun w0 B0 => ?_⟩
  have hlen : ys.length = 5 := h2.length
  match ys, hlen, h2 with
  | [c0, c1, c2, c3, c4], _, ⟨a0, a1, a2, f1, f2, a3, a4, _⟩ => exact ⟨a0, a1, a2, f1, f2, LRd_empty a3, ARd_empty a4, trivial⟩
/-- append(v, api.Arg{}). -/
theorem run_zeroA (d : Nat) {W : World} {base n : Nat} {v : Value} {xs : List Value} (ty : TypeId) (hown : W.ownsRow base 32 3 v n xs) (hbase : base ≤ W.heap.size) (hn : n ≤ 33554432) :
    ∃ v' w' ys, (Builtin.append_ #[28, 28] ty #[v, .slice (some ⟨W.heap.size, 0, none⟩) 1 1]).run Try.prog (W.alloc zAo) = .ok v' w' ∧ w'.ownsRow base 32 3 v' (n + 1) (xs ++ ys) ∧ (W.alloc zAo).grownBy w' v.ownBlock ∧ ∀ w0 B0, CellsA (LRd (d + 1) w0 B0) ys [zA] := by
  obtain ⟨v', w', ys, h1, h2, h3, h4⟩ := run_appA ty (own_alloc hown zAo) (zA_rd d W) hn (by simp; omega)
  refine ⟨v', w', ys, h1, h3, h4, fun w0 B0 => ?_⟩
  have hlen : ys.length = 3 := h2.length
  match ys, hlen, h2 with
  | [c0, c1, c2], _, ⟨a0, a1, a2, _⟩ => exact ⟨a0, LRd_empty a1, LRd_empty a2, trivial⟩
theorem own_blk {w : World} {base : Nat} {e : TypeId} {size n : Nat} {v : Value} {xs : List Value} (h : w.ownsRow base e size v n xs) : ∀ k, v.ownBlock = some k → base ≤ k := by
  intro k e
  rcases h.2 with ⟨rfl, _⟩ | ⟨g, cap, cur, rfl, hg, _⟩
  · simp [Value.ownBlock] at e
  · simp [Value.ownBlock] at e; omega
theorem own_form {w : World} {base : Nat} {e : TypeId} {size n : Nat} {v : Value} {xs : List Value} (h : w.ownsRow base e size v n xs) (hn : 0 < n) : ∃ g c, v = .slice (some ⟨g, 0, none⟩) n c ∧ base ≤ g := by
  rcases h.2 with ⟨rfl, h0⟩ | ⟨g, cap, cur, rfl, hg, _⟩
  · omega
  · exact ⟨g, cap, rfl, hg⟩
/-- append(append([]api.Node(nil), u...), api.Node{}). -/
theorem run_moreN {d : Nat} {w : World} {B : Nat} {u : Value} {l : List Nd} (ty : TypeId) (h : LRd (d + 1) w B u l) (hB : B ≤ w.heap.size) :
    ∃ A c w1 g' c' w2 ys, (Builtin.append_ #[22, 22] ty #[.slice none 0 0, u]).run Try.prog w = .ok (.slice A l.length c) w1 ∧
      (Builtin.append_ #[22, 22] ty #[.slice A l.length c, .slice (some ⟨w1.heap.size, 0, none⟩) 1 1]).run Try.prog (w1.alloc zNo) = .ok (.slice (some ⟨g', 0, none⟩) (l.length + 1) c') w2 ∧
      Below w.heap.size w w2 ∧ w.heap.size ≤ g' ∧ w2.ownsRow w.heap.size 30 5 (.slice (some ⟨g', 0, none⟩) (l.length + 1) c') (l.length + 1) ys ∧ Cells (LRd (d + 1) w B) (ARd (d + 1) w B) ys (l ++ [zN]) := by
  obtain ⟨A, c, w1, ys, h1, r1, b1, o1, c1⟩ := run_copyN ty h hB
  have hl : l.length ≤ 16777216 := Nat.le_trans (sz_len l) h.1
  obtain ⟨v', w2, zs, h3, o2, g2, c2⟩ := run_zeroN d ty o1 b1.size (by omega)
  have hb2 : Below w.heap.size w1 w2 := ((Below.refl _ _).alloc b1.size zNo).trans ((Below.refl _ _).grown g2 (by simp; have := b1.size; omega) (own_blk o1))
  obtain ⟨g', c', rfl, hg⟩ := own_form o2 (by omega)
  exact ⟨A, c, w1, g', c', w2, ys ++ zs, h1, h3, b1.trans hb2, hg, o2, Cells.append (c1.imp (fun _ _ q => q.deep1) (fun _ _ q => ARd.deep q (by omega))) (c2 w B)⟩
theorem run_copyA {d : Nat} {w : World} {B : Nat} {u : Value} {l : List Ar} (ty : TypeId) (h : ARd d w B u l) (hB : B ≤ w.heap.size) :
    ∃ A c w' ys, (Builtin.append_ #[28, 28] ty #[.slice none 0 0, u]).run Try.prog w = .ok (.slice A l.length c) w' ∧ Below w.heap.size w w' ∧
      w'.ownsRow w.heap.size 32 3 (.slice A l.length c) l.length ys ∧ CellsA (LRd d w B) ys l := by
  obtain ⟨v', w', ys, h1, h2, h3, h4⟩ := run_appA ty (ownNil w w.heap.size _ 3) h (by omega) (Nat.le_refl _)
  have hb : Below w.heap.size w w' := (Below.refl _ _).grown h4 (Nat.le_refl _) (fun k e => by simp [Value.ownBlock] at e)
  rw [Nat.zero_add, List.nil_append] at h3
  rcases h3.2 with ⟨rfl, h0⟩ | ⟨g, cap, cur, rfl, hg, _⟩
  · exact ⟨none, 0, w', ys, by rw [h1, h0], hb, by rw [h0]; rw [h0] at h3; exact h3, h2⟩
  · exact ⟨_, cap, w', ys, h1, hb, h3, h2⟩
theorem run_moreA {d : Nat} {w : World} {B : Nat} {u : Value} {l : List Ar} (ty : TypeId) (h : ARd d w B u l) (hB : B ≤ w.heap.size) :
    ∃ A c w1 g' c' w2 ys, (Builtin.append_ #[28, 28] ty #[.slice none 0 0, u]).run Try.prog w = .ok (.slice A l.length c) w1 ∧
      (Builtin.append_ #[28, 28] ty #[.slice A l.length c, .slice (some ⟨w1.heap.size, 0, none⟩) 1 1]).run Try.prog (w1.alloc zAo) = .ok (.slice (some ⟨g', 0, none⟩) (l.length + 1) c') w2 ∧
      Below w.heap.size w w2 ∧ w.heap.size ≤ g' ∧ w2.ownsRow w.heap.size 32 3 (.slice (some ⟨g', 0, none⟩) (l.length + 1) c') (l.length + 1) ys ∧ CellsA (LRd (d + 1) w B) ys (l ++ [zA]) := by
  obtain ⟨A, c, w1, ys, h1, b1, o1, c1⟩ := run_copyA ty h hB
  have hl : l.length ≤ 16777216 := Nat.le_trans (szA_len l) h.1
  obtain ⟨v', w2, zs, h3, o2, g2, c2⟩ := run_zeroA d ty o1 b1.size (by omega)
  have hb2 : Below w.heap.size w1 w2 := ((Below.refl _ _).alloc b1.size zAo).trans ((Below.refl _ _).grown g2 (by simp; have := b1.size; omega) (own_blk o1))
  obtain ⟨g', c', rfl, hg⟩ := own_form o2 (by omega)
  exact ⟨A, c, w1, g', c', w2, ys ++ zs, h1, h3, b1.trans hb2, hg, o2, CellsA.append (c1.imp (fun _ _ q => q.deep1)) (c2 w B)⟩
/-- The kids of node k of the copy replaced by a row of the call's own. -/
theorem Cp.put_kids {d : Nat} {w : World} {g n cap : Nat} {l : List Nd} {W W2 : World} (h : Cp d w g n cap l W) {k : Nat} {x : Nd} (hk : l[k]? = some x) (hW : Below W.heap.size W W2) {g' m c' : Nat} {ys : List Value} {z : List Nd} (hm : m = z.length) (hg : W.heap.size ≤ g')
    (ho : W2.ownsRow W.heap.size 30 5 (.slice (some ⟨g', 0, none⟩) m c') m ys) (hin : Cells (LRd (d + 1) w w.heap.size) (ARd (d + 1) w w.heap.size) ys z)
    (hz : sz z ≤ 16777216) (hz2 : sz (l.set k (.mk x.kind x.tag x.text z x.args)) ≤ 16777216) :
    LRd (d + 3) (W2.setCell ⟨g, k * 5 + 3, none⟩ (.slice (some ⟨g', 0, none⟩) m c')) (W2.setCell ⟨g, k * 5 + 3, none⟩ (.slice (some ⟨g', 0, none⟩) m c')).heap.size (.slice (some ⟨g, 0, none⟩) n cap) (l.set k (.mk x.kind x.tag x.text z x.args)) ∧ Below w.heap.size w (W2.setCell ⟨g, k * 5 + 3, none⟩ (.slice (some ⟨g', 0, none⟩) m c')) := by
  have h' := h.below hW
  obtain ⟨hn, hb0, xs, o, c⟩ := h'
  have hgl : g < W.heap.size := by
    obtain ⟨_, _, _, o', _⟩ := h
    rcases o'.2 with ⟨h2, _⟩ | ⟨g2, cap', cur, hv, _, hh, _⟩
    · cases h2
    · injection hv with e1; injection e1 with e1; injection e1 with e1; subst e1
      exact (Array.getElem?_eq_some_iff.1 hh).1
  have hB : Below w.heap.size w (W2.setCell ⟨g, k * 5 + 3, none⟩ (.slice (some ⟨g', 0, none⟩) m c')) := hb0.setCell (p := ⟨g, k * 5 + 3, none⟩) (own_base o) _
  have o2 : (W2.setCell ⟨g, k * 5 + 3, none⟩ (.slice (some ⟨g', 0, none⟩) m c')).ownsRow W.heap.size 30 5 (.slice (some ⟨g', 0, none⟩) m c') m ys := ownsRow_setCell_other ho (by simp [Value.ownBlock]; omega) _
  have hzr : LRd (d + 2) (W2.setCell ⟨g, k * 5 + 3, none⟩ (.slice (some ⟨g', 0, none⟩) m c')) (W2.setCell ⟨g, k * 5 + 3, none⟩ (.slice (some ⟨g', 0, none⟩) m c')).heap.size (.slice (some ⟨g', 0, none⟩) m c') z := by
    subst hm
    exact own_rd o2 (hin.imp (fun _ _ q => q.below hB (Nat.le_refl _) hB.size) (fun _ _ q => ARd.below q hB (Nat.le_refl _) hB.size)) hz rfl
  have o1 := own_set o (k * 5 + 3) (.slice (some ⟨g', 0, none⟩) m c')
  subst hn
  refine ⟨?_, hB⟩
  have hcc : Cells (LRd (d + 2) (W2.setCell ⟨g, k * 5 + 3, none⟩ (.slice (some ⟨g', 0, none⟩) m c')) (W2.setCell ⟨g, k * 5 + 3, none⟩ (.slice (some ⟨g', 0, none⟩) m c')).heap.size) (ARd (d + 2) (W2.setCell ⟨g, k * 5 + 3, none⟩ (.slice (some ⟨g', 0, none⟩) m c')) (W2.setCell ⟨g, k * 5 + 3, none⟩ (.slice (some ⟨g', 0, none⟩) m c')).heap.size) xs l :=
    c.imp (fun _ _ q => (q.below hB (Nat.le_refl _) hB.size).deep (by omega)) (fun _ _ q => ARd.deep (ARd.below q hB (Nat.le_refl _) hB.size) (by omega))
  have hset := hcc.set_kids _ z hzr k x hk
  have := own_rd (l := l.set k (.mk x.kind x.tag x.text z x.args)) (by rw [List.length_set]; exact o1) hset hz2 rfl
  exact this
theorem Cp.put_args {d : Nat} {w : World} {g n cap : Nat} {l : List Nd} {W W2 : World} (h : Cp d w g n cap l W) {k : Nat} {x : Nd} (hk : l[k]? = some x) (hW : Below W.heap.size W W2) {g' m c' : Nat} {ys : List Value} {z : List Ar} (hm : m = z.length) (hg : W.heap.size ≤ g')
    (ho : W2.ownsRow W.heap.size 32 3 (.slice (some ⟨g', 0, none⟩) m c') m ys) (hin : CellsA (LRd (d + 1) w w.heap.size) ys z)
    (hz : szA z ≤ 16777216) (hz2 : sz (l.set k (.mk x.kind x.tag x.text x.kids z)) ≤ 16777216) :
    LRd (d + 2) (W2.setCell ⟨g, k * 5 + 4, none⟩ (.slice (some ⟨g', 0, none⟩) m c')) (W2.setCell ⟨g, k * 5 + 4, none⟩ (.slice (some ⟨g', 0, none⟩) m c')).heap.size (.slice (some ⟨g, 0, none⟩) n cap) (l.set k (.mk x.kind x.tag x.text x.kids z)) ∧ Below w.heap.size w (W2.setCell ⟨g, k * 5 + 4, none⟩ (.slice (some ⟨g', 0, none⟩) m c')) := by
  have h' := h.below hW
  obtain ⟨hn, hb0, xs, o, c⟩ := h'
  have hgl : g < W.heap.size := by
    obtain ⟨_, _, _, o', _⟩ := h
    rcases o'.2 with ⟨h2, _⟩ | ⟨g2, cap', cur, hv, _, hh, _⟩
    · cases h2
    · injection hv with e1; injection e1 with e1; injection e1 with e1; subst e1
      exact (Array.getElem?_eq_some_iff.1 hh).1
  have hB : Below w.heap.size w (W2.setCell ⟨g, k * 5 + 4, none⟩ (.slice (some ⟨g', 0, none⟩) m c')) := hb0.setCell (p := ⟨g, k * 5 + 4, none⟩) (own_base o) _
  have o2 : (W2.setCell ⟨g, k * 5 + 4, none⟩ (.slice (some ⟨g', 0, none⟩) m c')).ownsRow W.heap.size 32 3 (.slice (some ⟨g', 0, none⟩) m c') m ys := ownsRow_setCell_other ho (by simp [Value.ownBlock]; omega) _
  have hzr : ARd (d + 1) (W2.setCell ⟨g, k * 5 + 4, none⟩ (.slice (some ⟨g', 0, none⟩) m c')) (W2.setCell ⟨g, k * 5 + 4, none⟩ (.slice (some ⟨g', 0, none⟩) m c')).heap.size (.slice (some ⟨g', 0, none⟩) m c') z := by
    subst hm
    exact own_rdA o2 (hin.imp (fun _ _ q => q.below hB (Nat.le_refl _) hB.size)) hz rfl
  have o1 := own_set o (k * 5 + 4) (.slice (some ⟨g', 0, none⟩) m c')
  subst hn
  refine ⟨?_, hB⟩
  have hcc : Cells (LRd (d + 1) (W2.setCell ⟨g, k * 5 + 4, none⟩ (.slice (some ⟨g', 0, none⟩) m c')) (W2.setCell ⟨g, k * 5 + 4, none⟩ (.slice (some ⟨g', 0, none⟩) m c')).heap.size) (ARd (d + 1) (W2.setCell ⟨g, k * 5 + 4, none⟩ (.slice (some ⟨g', 0, none⟩) m c')) (W2.setCell ⟨g, k * 5 + 4, none⟩ (.slice (some ⟨g', 0, none⟩) m c')).heap.size) xs l :=
    c.imp (fun _ _ q => (q.below hB (Nat.le_refl _) hB.size).deep (by omega)) (fun _ _ q => ARd.deep (ARd.below q hB (Nat.le_refl _) hB.size) (by omega))
  have hset := hcc.set_args _ z hzr k x hk
  exact own_rd (l := l.set k (.mk x.kind x.tag x.text x.kids z)) (by rw [List.length_set]; exact o1) hset hz2 rfl
end Go.Proofs.Ytfljcockbnpadaa.Tr
