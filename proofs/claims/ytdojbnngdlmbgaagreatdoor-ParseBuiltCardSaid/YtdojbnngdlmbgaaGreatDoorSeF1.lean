/-
  The contracts of the tape that builds texts: New, Next, Of.
  The contract of trcgen's Piece: some text, not too long.
  The contract of trcgen's Piece: some text, not too long.
  The contract of trcgen's Piece: some text, not too long.
-/
import Derived.Test.YtdojbnngdlmbgaaGreatDoorSeA
import Derived.Laws.Rows
namespace Go.Proofs.YtdojbnngdlmbgaaGreatDoor.Se
open Go.RowKit Go.Shelf
set_option linter.unusedVariables false
set_option linter.unusedSimpArgs false

theorem below_drewN {B : Nat} {a w : World} (h : Below B a w) (n : Nat) : Below B a (w.drewN n) := ⟨h.os, h.tape, h.output, h.size, h.block⟩
theorem bl_new (W : World) (o : Obj) : Below W.heap.size W (W.alloc o) := (Below.refl _ _).alloc (Nat.le_refl _) _
theorem i64_and24 (n : Int) : bits .and .i64 n 16777215 = n % 16777216 := by
  have h7 : (BitVec.ofInt 64 16777215).toNat = 2 ^ 24 - 1 := by decide
  have key : (BitVec.ofInt 64 n &&& BitVec.ofInt 64 16777215).toNat = (n % ((2 ^ 64 : Nat) : Int)).toNat % 2 ^ 24 := by
    rw [BitVec.toNat_and, BitVec.toNat_ofInt, h7, Nat.and_two_pow_sub_one_eq_mod]
  show IntKind.i64.wrap ((BitVec.ofInt 64 n &&& BitVec.ofInt 64 16777215).toNat : Nat) = n % 16777216
  rw [key, IntKind.wrap_i64]
  omega

/-- A slice of numbers that came in. -/
structure Sl (w0 : World) (A : Option Addr) (n c : Nat) : Prop where
  le : n ≤ c
  mx : c ≤ maxLen
  at_ : 0 < n → ∃ ad, A = some ad ∧ ad.block < w0.heap.size ∧ ∀ i, i < n → ∃ z : Int, w0.cell? (ad.add i) = some (.int .i64 z)
/-- The tape at block b over the slice. -/
structure Tp (w0 : World) (A : Option Addr) (n c b : Nat) (W : World) : Prop where
  c0 : W.cell? ⟨b, 0, none⟩ = some (.slice A n c)
  c1 : ∃ k : Nat, k ≤ n ∧ W.cell? ⟨b, 1, none⟩ = some (.int .i64 k)
  f1 : W.frozen? ⟨b, 1, none⟩ = false
  bl : Below w0.heap.size w0 W
  lb : w0.heap.size ≤ b
  lt : b < W.heap.size
/-- Nothing but block b has changed. -/
structure Only (b : Nat) (W W' : World) : Prop where
  size : W'.heap.size = W.heap.size
  block : ∀ g, g ≠ b → W'.heap[g]? = W.heap[g]?
theorem Tp.below {w0 W W' : World} {A : Option Addr} {n c b : Nat} (h : Tp w0 A n c b W) (hb : Below W.heap.size W W') : Tp w0 A n c b W' := by
  obtain ⟨k, hk, h1⟩ := h.c1
  exact ⟨(hb.cell (p := ⟨b, 0, none⟩) h.lt).trans h.c0, ⟨k, hk, (hb.cell (p := ⟨b, 1, none⟩) h.lt).trans h1⟩, (hb.frozen (p := ⟨b, 1, none⟩) h.lt).trans h.f1, h.bl.trans (hb.mono h.bl.size), h.lb, Nat.lt_of_lt_of_le h.lt hb.size⟩
theorem add_block (a : Addr) (n : Nat) : (a.add n).block = a.block := by unfold Addr.add; split <;> rfl

theorem size_setCell (W : World) (p : Addr) (u : Value) : (W.setCell p u).heap.size = W.heap.size := by simp [World.setCell]
theorem Tp.store {w0 W : World} {A : Option Addr} {n c b : Nat} (h : Tp w0 A n c b W) {k : Nat} (hk : k < n) : Tp w0 A n c b (W.setCell ⟨b, 1, none⟩ (.int .i64 ((k : Int) + 1))) := by
  obtain ⟨k', _, h1⟩ := h.c1
  refine ⟨?_, ⟨k + 1, by omega, ?_⟩, ?_, h.bl.setCell (p := ⟨b, 1, none⟩) h.lb _, h.lb, by rw [size_setCell]; exact h.lt⟩
  · rw [World.cell?_setCell_other W ⟨b, 1, none⟩ ⟨b, 0, none⟩ _ (by simp)]; exact h.c0
  · rw [World.cell?_setCell_same' W ⟨b, 1, none⟩ _ (by rw [h1]; rfl)]; simp
  · rw [World.frozen?_setCell]; exact h.f1
theorem Tp.other {w0 W : World} {A : Option Addr} {n c b : Nat} (h : Tp w0 A n c b W) {p : Addr} (hp : p.block ≠ b) (hw : w0.heap.size ≤ p.block) (u : Value) : Tp w0 A n c b (W.setCell p u) := by
  obtain ⟨k, hk, h1⟩ := h.c1
  have hf : ∀ q : Addr, q.block = b → (W.setCell p u).cell? q = W.cell? q := fun q hq => World.cell?_setCell_other W p q u (fun e => hp (by rw [← e] at hq; exact hq))
  exact ⟨(hf ⟨b, 0, none⟩ rfl).trans h.c0, ⟨k, hk, (hf ⟨b, 1, none⟩ rfl).trans h1⟩, by rw [World.frozen?_setCell]; exact h.f1, h.bl.setCell hw u, h.lb, by rw [size_setCell]; exact h.lt⟩
theorem New_any (A : Option Addr) (n c : Nat) (w : World) :
    Calls Tryz.prog 9 #[.slice A n c] w fun e w' => e = .returned (.pointer (some ⟨w.heap.size, 0, none⟩)) ∧ Tp w A n c w.heap.size w' := by
  go_enter Tryz.func9, Tryz.ntmps9
  go_wp2
  go_ret
  exact ⟨rfl, by simp, ⟨0, Nat.zero_le _, by simp⟩, by simp, (Below.refl _ _).alloc (Nat.le_refl _) _, Nat.le_refl _, by simp⟩

set_option maxHeartbeats 1000000 in
theorem Next_ex (w0 : World) (A : Option Addr) (n c b m : Nat) (W : World) (hs : Sl w0 A n c) (h : Tp w0 A n c b W) (hm : 1 ≤ m) (hm2 : m ≤ 100) : ∃ r : Nat, r < m ∧
    Calls Tryz.prog 26 #[.pointer (some ⟨b, 0, none⟩), .int .i64 (m : Int)] W fun e W' => e = .returned (.int .i64 (r : Int)) ∧ Tp w0 A n c b W' ∧ Only b W W' := by
  obtain ⟨k, hk, c1⟩ := h.c1
  have c0 := h.c0
  have f1 := h.f1
  have hmx := hs.mx
  have hle := hs.le
  unfold maxLen at hmx
  by_cases hlt : k < n
  · obtain ⟨ad, rfl, hadb, hz⟩ := hs.at_ (by omega)
    obtain ⟨z, hzc⟩ := hz k hlt
    clear hz
    have hzW : W.cell? (ad.add k) = some (.int .i64 z) := (h.bl.cell (p := ad.add k) (by rw [add_block]; exact hadb)).trans hzc
    have hand := i64_and24 z
    have g1 : ¬ (n : Int) ≤ (k : Int) := by omega
    have g2 : (k : Int) < (n : Int) := by omega
    have g3 : (0 : Int) ≤ z % 16777216 := by omega
    have g4 : z % 16777216 < 16777216 := by omega
    have q1 : 0 ≤ z % 16777216 % (m : Int) := Int.emod_nonneg _ (by omega)
    have q2 : z % 16777216 % (m : Int) < (m : Int) := Int.emod_lt_of_pos _ (by omega)
    refine ⟨(z % 16777216 % (m : Int)).toNat, by omega, ?_⟩
    have HQ := Lib.hid (Int.toNat_of_nonneg q1)
    clear q1 q2
    generalize (z % 16777216 % (m : Int)).toNat = r at HQ ⊢
    go_enter Tryz.func26, Tryz.ntmps26
    go_wp2
    go_quiet (fail)
    go_wp2
    go_quiet (fail)
    go_wp2
    go_ret
    exact ⟨ret_int HQ.out.symm, (h.below (below_drewN (Below.refl _ _) _)).store hlt, ⟨size_setCell (W.drewN _) _ _, fun g hg => Below.heap_setCell (W.drewN _) ⟨b, 1, none⟩ _ g hg⟩⟩
  · have g1 : (n : Int) ≤ (k : Int) := by omega
    refine ⟨0, by omega, ?_⟩
    go_enter Tryz.func26, Tryz.ntmps26
    go_wp2
    go_quiet (fail)
    go_wp2
    go_ret
    exact ⟨rfl, h.below (below_drewN (Below.refl _ _) nq), ⟨rfl, fun _ _ => rfl⟩⟩
theorem Next_any (w0 : World) (A : Option Addr) (n c b m : Nat) (W : World) (hs : Sl w0 A n c) (h : Tp w0 A n c b W) (hm : 1 ≤ m) (hm2 : m ≤ 100) :
    Calls Tryz.prog 26 #[.pointer (some ⟨b, 0, none⟩), .int .i64 (m : Int)] W fun e W' => ∃ r : Nat, r < m ∧ e = .returned (.int .i64 (r : Int)) ∧ Tp w0 A n c b W' ∧ Only b W W' := by
  obtain ⟨r, hr, H⟩ := Next_ex w0 A n c b m W hs h hm hm2
  exact H.mono fun e W' ⟨h1, h2, h3⟩ => ⟨r, hr, h1, h2, h3⟩
/-- What a call leaves that makes a text. -/
def TxP (w0 : World) (A : Option Addr) (n c b mx : Nat) (e : Ending) (W' : World) : Prop := ∃ x : ByteArray, x.size ≤ mx ∧ e = .returned (.string x) ∧ Tp w0 A n c b W'
set_option maxHeartbeats 1000000 in
theorem Of_lit (mx : Nat) (l : List ByteArray) (w0 : World) (A : Option Addr) (n c b g m : Nat) (cs : Array Value) (W : World) (hs : Sl w0 A n c) (h : Tp w0 A n c b W) (hg : g ≠ b) {t : TypeId} {fr : Nat × Nat}
    (hc : W.heap[g]? = some (.cells cs t fr)) (hcs : cs = (l.map Value.string).toArray) (hl : l.length = m) (hz : ∀ x ∈ l, x.size ≤ mx) (hm : 1 ≤ m) (hm2 : m ≤ 100) :
    Calls Tryz.prog 25 #[.pointer (some ⟨b, 0, none⟩), .slice (some ⟨g, 0, none⟩) m m] W fun e W' => ∃ x : ByteArray, x.size ≤ mx ∧ e = .returned (.string x) ∧ Tp w0 A n c b W' ∧ Only b W W' := by
  go_enter Tryz.func25, Tryz.ntmps25
  go_wp2_with fail
  (with_reducible refine (Next_any w0 A n c b m _ hs h hm hm2).mono ?_)
  rintro e w1 ⟨r, hr, rfl, ht1, ho1⟩
  have hrl : r < l.length := by omega
  have hx := hz l[r] (List.getElem_mem hrl)
  have hxc : cs[r]? = some (.string l[r]) := by rw [hcs]; simp [hrl]
  generalize l[r] = x at hx hxc
  have hcell : w1.cell? ⟨g, r, none⟩ = some (.string x) := by rw [cell_of_row w1 g r cs t fr ((ho1.block g hg).trans hc)]; exact hxc
  have hri : (r : Int) < (m : Int) := by omega
  clear hxc hz hcs hl hrl
  have HT := Lib.hid ht1; have HO := Lib.hid ho1
  clear ht1 ho1 hc
  go_wp2
  go_ret
  exact ⟨x, hx, rfl, HT.out, HO.out⟩
theorem Next_3 (w0 : World) (A : Option Addr) (n c b : Nat) (W : World) (hs : Sl w0 A n c) (h : Tp w0 A n c b W) :
    Calls Tryz.prog 26 #[.pointer (some ⟨b, 0, none⟩), .int .i64 3] W fun e W' => ∃ r : Nat, r < 3 ∧ e = .returned (.int .i64 (r : Int)) ∧ Tp w0 A n c b W' ∧ Only b W W' := Next_any w0 A n c b 3 W hs h (by decide) (by decide)
theorem Next_4 (w0 : World) (A : Option Addr) (n c b : Nat) (W : World) (hs : Sl w0 A n c) (h : Tp w0 A n c b W) :
    Calls Tryz.prog 26 #[.pointer (some ⟨b, 0, none⟩), .int .i64 4] W fun e W' => ∃ r : Nat, r < 4 ∧ e = .returned (.int .i64 (r : Int)) ∧ Tp w0 A n c b W' ∧ Only b W W' := Next_any w0 A n c b 4 W hs h (by decide) (by decide)
theorem Next_5 (w0 : World) (A : Option Addr) (n c b : Nat) (W : World) (hs : Sl w0 A n c) (h : Tp w0 A n c b W) :
    Calls Tryz.prog 26 #[.pointer (some ⟨b, 0, none⟩), .int .i64 5] W fun e W' => ∃ r : Nat, r < 5 ∧ e = .returned (.int .i64 (r : Int)) ∧ Tp w0 A n c b W' ∧ Only b W W' := Next_any w0 A n c b 5 W hs h (by decide) (by decide)
theorem Next_24 (w0 : World) (A : Option Addr) (n c b : Nat) (W : World) (hs : Sl w0 A n c) (h : Tp w0 A n c b W) :
    Calls Tryz.prog 26 #[.pointer (some ⟨b, 0, none⟩), .int .i64 24] W fun e W' => ∃ r : Nat, r < 24 ∧ e = .returned (.int .i64 (r : Int)) ∧ Tp w0 A n c b W' ∧ Only b W W' := Next_any w0 A n c b 24 W hs h (by decide) (by decide)
theorem bsz (l : Array UInt8) : (⟨l⟩ : ByteArray).size = l.size := rfl
end Go.Proofs.YtdojbnngdlmbgaaGreatDoor.Se

namespace Go.Proofs.YtdojbnngdlmbgaaGreatDoor.Se
open Go.RowKit Go.Shelf
set_option linter.unusedVariables false
set_option linter.unusedSimpArgs false

theorem Word_any (w0 : World) (A : Option Addr) (n c b : Nat) (hs : Sl w0 A n c) (W : World) (h : Tp w0 A n c b W) :
    Calls Tryz.prog 108 #[.pointer (some ⟨b, 0, none⟩)] W (TxP w0 A n c b 3) := by
  have hlt := h.lt
  have H1 := Lib.hid (h.below (bl_new W (.cells #[.string ⟨#[97]⟩, .string ⟨#[120, 32, 121]⟩, .string ⟨#[49, 50]⟩, .string ⟨#[]⟩, .string ⟨#[98]⟩, .string ⟨#[48]⟩, .string ⟨#[45, 51]⟩, .string ⟨#[65, 98]⟩, .string ⟨#[32]⟩, .string ⟨#[122]⟩] 9)))
  go_enter Tryz.func108, Tryz.ntmps108
  go_wp2_with fail
  refine (Of_lit 3 [⟨#[97]⟩, ⟨#[120, 32, 121]⟩, ⟨#[49, 50]⟩, ⟨#[]⟩, ⟨#[98]⟩, ⟨#[48]⟩, ⟨#[45, 51]⟩, ⟨#[65, 98]⟩, ⟨#[32]⟩, ⟨#[122]⟩] w0 A n c b W.heap.size 10 _ _ hs H1.out (by omega) (heap_alloc_new W _) rfl rfl (by decide) (by decide) (by decide)).mono ?_
  rintro e w1 ⟨x, hx, rfl, ht1, ho1⟩
  have HT := Lib.hid ht1
  clear ht1 ho1
  go_wp2
  go_ret
  exact ⟨x, hx, rfl, HT.out⟩
def pB : Nat → Nat
  | 0 => 3
  | d + 1 => 3 * pB d + 60
theorem pB_le : ∀ d, d ≤ 3 → pB d ≤ 861 := by
  intro d h
  rcases (by omega : d = 0 ∨ d = 1 ∨ d = 2 ∨ d = 3) with rfl | rfl | rfl | rfl <;> decide
theorem pB_pos (d : Nat) : 3 ≤ pB d := by
  cases d with
  | zero => exact Nat.le_refl _
  | succ d => show 3 ≤ 3 * pB d + 60; omega
set_option maxRecDepth 100000 in
theorem Piece_zero (w0 : World) (A : Option Addr) (n c b : Nat) (hs : Sl w0 A n c) (W : World) (h : Tp w0 A n c b W) :
    Calls Tryz.prog 57 #[.pointer (some ⟨b, 0, none⟩), .int .i64 0] W (TxP w0 A n c b 3) := by
  have HW := Lib.hid (Word_any w0 A n c b hs W h)
  unfold TxP at HW ⊢
  clear h hs
  go_enter Tryz.func57, Tryz.ntmps57
  go_wp2_with fail
  (with_reducible refine HW.out.mono ?_)
  rintro e w1 ⟨x, hx, rfl, ht⟩
  have HT := Lib.hid ht
  clear ht
  go_wp2
  go_ret
  exact ⟨x, hx, rfl, HT.out⟩
/-- What is known behind Next, and of the pieces within. -/
structure Pc (w0 : World) (A : Option Addr) (n c b B : Nat) (D : Int) (W : World) (q : Int) : Prop where
  hs : Sl w0 A n c
  B1 : 3 ≤ B
  B2 : B ≤ 861
  D1 : 1 ≤ D
  D2 : D ≤ 5
  ih : ∀ W, Tp w0 A n c b W → Calls Tryz.prog 57 #[.pointer (some ⟨b, 0, none⟩), .int .i64 (D - 1)] W (TxP w0 A n c b B)
  hw : ∀ W, Tp w0 A n c b W → Calls Tryz.prog 108 #[.pointer (some ⟨b, 0, none⟩)] W (TxP w0 A n c b 3)
  nx : Calls Tryz.prog 26 #[.pointer (some ⟨b, 0, none⟩), .int .i64 24] W fun e W' => e = .returned (.int .i64 q) ∧ Tp w0 A n c b W' ∧ Only b W W'
end Go.Proofs.YtdojbnngdlmbgaaGreatDoor.Se

namespace Go.Proofs.YtdojbnngdlmbgaaGreatDoor.Se
open Go.RowKit Go.Shelf
set_option linter.unusedVariables false
set_option linter.unusedSimpArgs false

set_option maxRecDepth 100000 in
set_option maxHeartbeats 4000000 in
theorem Pc_0 {w0 : World} {A : Option Addr} {n c b B : Nat} {D : Int} {W : World} (h : Pc w0 A n c b B D W 0) :
    Calls Tryz.prog 57 #[.pointer (some ⟨b, 0, none⟩), .int .i64 D] W (TxP w0 A n c b (3 * B + 60)) := by
  have IH := Lib.hid h.ih
  have HW := Lib.hid h.hw
  have HN := Lib.hid h.nx
  have HS := Lib.hid h.hs
  have hB := h.B2
  have hB3 := h.B1
  have hD1 := h.D1
  have hD2 := h.D2
  have g1 : decide (D ≤ 0) = false := by rw [decide_eq_false_iff_not]; omega
  unfold TxP at IH HW ⊢
  clear h
  go_enter Tryz.func57, Tryz.ntmps57
  go_wp2_with fail
  (with_reducible refine HN.out.mono ?_)
  rintro e w1 ⟨rfl, ht1, ho1⟩
  have H1 := Lib.hid ht1
  clear ht1 ho1 HN
  have hl1 := H1.out.lt
  have T1 := Lib.hid (H1.out.below (bl_new w1 (.cells #[.string ⟨#[84]⟩, .string ⟨#[85, 47, 120]⟩, .string ⟨#[58, 65]⟩, .string ⟨#[58, 66]⟩, .string ⟨#[58, 67]⟩, .string ⟨#[47, 120]⟩, .string ⟨#[65]⟩, .string ⟨#[66]⟩, .string ⟨#[58, 84, 97, 108, 107, 58, 65]⟩, .string ⟨#[88]⟩] 9)))
  go_wp2_with fail
  refine (Of_lit 7 [⟨#[84]⟩, ⟨#[85, 47, 120]⟩, ⟨#[58, 65]⟩, ⟨#[58, 66]⟩, ⟨#[58, 67]⟩, ⟨#[47, 120]⟩, ⟨#[65]⟩, ⟨#[66]⟩, ⟨#[58, 84, 97, 108, 107, 58, 65]⟩, ⟨#[88]⟩] w0 A n c b w1.heap.size 10 _ _ HS.out T1.out (by omega) (heap_alloc_new w1 _) rfl rfl (by decide) (by decide) (by decide)).mono ?_
  rintro e w2 ⟨x2, hx2, rfl, ht, ho⟩
  have H2 := Lib.hid ht
  clear ht ho T1 H1 hl1
  have hl2 := H2.out.lt
  go_wp2_with fail
  (with_reducible refine (IH.out _ H2.out).mono ?_)
  rintro e w3 ⟨x3, hx3, rfl, ht⟩
  have H3 := Lib.hid ht
  clear ht H2 hl2
  have hl3 := H3.out.lt
  have T3 := Lib.hid (H3.out.below (bl_new w3 (.cells #[.string ⟨#[107]⟩, .string ⟨#[49]⟩, .string ⟨#[110]⟩] 9)))
  go_wp2_with fail
  refine (Of_lit 1 [⟨#[107]⟩, ⟨#[49]⟩, ⟨#[110]⟩] w0 A n c b w3.heap.size 3 _ _ HS.out T3.out (by omega) (heap_alloc_new w3 _) rfl rfl (by decide) (by decide) (by decide)).mono ?_
  rintro e w4 ⟨x4, hx4, rfl, ht, ho⟩
  have H4 := Lib.hid ht
  clear ht ho T3 H3 hl3
  have hl4 := H4.out.lt
  go_wp2_with fail
  (with_reducible refine (IH.out _ H4.out).mono ?_)
  rintro e w5 ⟨x5, hx5, rfl, ht⟩
  have H5 := Lib.hid ht
  clear ht H4 hl4
  go_wp2
  go_ret
  refine ⟨_, ?_, rfl, H5.out⟩
  simp only [ByteArray.size_append, bsz, List.size_toArray, List.length_cons, List.length_nil]; omega
set_option maxRecDepth 100000 in
set_option maxHeartbeats 4000000 in
theorem Pc_1 {w0 : World} {A : Option Addr} {n c b B : Nat} {D : Int} {W : World} (h : Pc w0 A n c b B D W 1) :
    Calls Tryz.prog 57 #[.pointer (some ⟨b, 0, none⟩), .int .i64 D] W (TxP w0 A n c b (3 * B + 60)) := by
  have IH := Lib.hid h.ih
  have HW := Lib.hid h.hw
  have HN := Lib.hid h.nx
  have HS := Lib.hid h.hs
  have hB := h.B2
  have hB3 := h.B1
  have hD1 := h.D1
  have hD2 := h.D2
  have g1 : decide (D ≤ 0) = false := by rw [decide_eq_false_iff_not]; omega
  unfold TxP at IH HW ⊢
  clear h
  go_enter Tryz.func57, Tryz.ntmps57
  go_wp2_with fail
  (with_reducible refine HN.out.mono ?_)
  rintro e w1 ⟨rfl, ht1, ho1⟩
  have H1 := Lib.hid ht1
  clear ht1 ho1 HN
  have hl1 := H1.out.lt
  have T1 := Lib.hid (H1.out.below (bl_new w1 (.cells #[.string ⟨#[84]⟩, .string ⟨#[65]⟩, .string ⟨#[66]⟩, .string ⟨#[58, 65]⟩, .string ⟨#[58, 65, 47, 66]⟩] 9)))
  go_wp2_with fail
  refine (Of_lit 4 [⟨#[84]⟩, ⟨#[65]⟩, ⟨#[66]⟩, ⟨#[58, 65]⟩, ⟨#[58, 65, 47, 66]⟩] w0 A n c b w1.heap.size 5 _ _ HS.out T1.out (by omega) (heap_alloc_new w1 _) rfl rfl (by decide) (by decide) (by decide)).mono ?_
  rintro e w2 ⟨x2, hx2, rfl, ht, ho⟩
  have H2 := Lib.hid ht
  clear ht ho T1 H1 hl1
  go_wp2
  go_ret
  refine ⟨_, ?_, rfl, H2.out⟩
  simp only [ByteArray.size_append, bsz, List.size_toArray, List.length_cons, List.length_nil]; omega
set_option maxRecDepth 100000 in
set_option maxHeartbeats 4000000 in
theorem Pc_2 {w0 : World} {A : Option Addr} {n c b B : Nat} {D : Int} {W : World} (h : Pc w0 A n c b B D W 2) :
    Calls Tryz.prog 57 #[.pointer (some ⟨b, 0, none⟩), .int .i64 D] W (TxP w0 A n c b (3 * B + 60)) := by
  have IH := Lib.hid h.ih
  have HW := Lib.hid h.hw
  have HN := Lib.hid h.nx
  have HS := Lib.hid h.hs
  have hB := h.B2
  have hB3 := h.B1
  have hD1 := h.D1
  have hD2 := h.D2
  have g1 : decide (D ≤ 0) = false := by rw [decide_eq_false_iff_not]; omega
  unfold TxP at IH HW ⊢
  clear h
  go_enter Tryz.func57, Tryz.ntmps57
  go_wp2_with fail
  (with_reducible refine HN.out.mono ?_)
  rintro e w1 ⟨rfl, ht1, ho1⟩
  have H1 := Lib.hid ht1
  clear ht1 ho1 HN
  have hl1 := H1.out.lt
  have T1 := Lib.hid (H1.out.below (bl_new w1 (.cells #[.string ⟨#[49]⟩, .string ⟨#[107]⟩, .string ⟨#[110]⟩, .string ⟨#[105]⟩, .string ⟨#[120]⟩] 9)))
  go_wp2_with fail
  refine (Of_lit 1 [⟨#[49]⟩, ⟨#[107]⟩, ⟨#[110]⟩, ⟨#[105]⟩, ⟨#[120]⟩] w0 A n c b w1.heap.size 5 _ _ HS.out T1.out (by omega) (heap_alloc_new w1 _) rfl rfl (by decide) (by decide) (by decide)).mono ?_
  rintro e w2 ⟨x2, hx2, rfl, ht, ho⟩
  have H2 := Lib.hid ht
  clear ht ho T1 H1 hl1
  have hl2 := H2.out.lt
  have T2 := Lib.hid (H2.out.below (bl_new w2 (.cells #[.string ⟨#[]⟩, .string ⟨#[124]⟩, .string ⟨#[124, 100]⟩] 9)))
  go_wp2_with fail
  refine (Of_lit 2 [⟨#[]⟩, ⟨#[124]⟩, ⟨#[124, 100]⟩] w0 A n c b w2.heap.size 3 _ _ HS.out T2.out (by omega) (heap_alloc_new w2 _) rfl rfl (by decide) (by decide) (by decide)).mono ?_
  rintro e w3 ⟨x3, hx3, rfl, ht, ho⟩
  have H3 := Lib.hid ht
  clear ht ho T2 H2 hl2
  go_wp2
  go_ret
  refine ⟨_, ?_, rfl, H3.out⟩
  simp only [ByteArray.size_append, bsz, List.size_toArray, List.length_cons, List.length_nil]; omega
set_option maxRecDepth 100000 in
set_option maxHeartbeats 4000000 in
theorem Pc_3 {w0 : World} {A : Option Addr} {n c b B : Nat} {D : Int} {W : World} (h : Pc w0 A n c b B D W 3) :
    Calls Tryz.prog 57 #[.pointer (some ⟨b, 0, none⟩), .int .i64 D] W (TxP w0 A n c b (3 * B + 60)) := by
  have IH := Lib.hid h.ih
  have HW := Lib.hid h.hw
  have HN := Lib.hid h.nx
  have HS := Lib.hid h.hs
  have hB := h.B2
  have hB3 := h.B1
  have hD1 := h.D1
  have hD2 := h.D2
  have g1 : decide (D ≤ 0) = false := by rw [decide_eq_false_iff_not]; omega
  unfold TxP at IH HW ⊢
  clear h
  go_enter Tryz.func57, Tryz.ntmps57
  go_wp2_with fail
  (with_reducible refine HN.out.mono ?_)
  rintro e w1 ⟨rfl, ht1, ho1⟩
  have H1 := Lib.hid ht1
  clear ht1 ho1 HN
  have hl1 := H1.out.lt
  go_wp2_with fail
  (with_reducible refine (IH.out _ H1.out).mono ?_)
  rintro e w2 ⟨x2, hx2, rfl, ht⟩
  have H2 := Lib.hid ht
  clear ht H1 hl1
  have hl2 := H2.out.lt
  go_wp2_with fail
  (with_reducible refine (IH.out _ H2.out).mono ?_)
  rintro e w3 ⟨x3, hx3, rfl, ht⟩
  have H3 := Lib.hid ht
  clear ht H2 hl2
  have hl3 := H3.out.lt
  go_wp2_with fail
  (with_reducible refine (IH.out _ H3.out).mono ?_)
  rintro e w4 ⟨x4, hx4, rfl, ht⟩
  have H4 := Lib.hid ht
  clear ht H3 hl3
  go_wp2
  go_ret
  refine ⟨_, ?_, rfl, H4.out⟩
  simp only [ByteArray.size_append, bsz, List.size_toArray, List.length_cons, List.length_nil]; omega
set_option maxRecDepth 100000 in
set_option maxHeartbeats 4000000 in
theorem Pc_4 {w0 : World} {A : Option Addr} {n c b B : Nat} {D : Int} {W : World} (h : Pc w0 A n c b B D W 4) :
    Calls Tryz.prog 57 #[.pointer (some ⟨b, 0, none⟩), .int .i64 D] W (TxP w0 A n c b (3 * B + 60)) := by
  have IH := Lib.hid h.ih
  have HW := Lib.hid h.hw
  have HN := Lib.hid h.nx
  have HS := Lib.hid h.hs
  have hB := h.B2
  have hB3 := h.B1
  have hD1 := h.D1
  have hD2 := h.D2
  have g1 : decide (D ≤ 0) = false := by rw [decide_eq_false_iff_not]; omega
  unfold TxP at IH HW ⊢
  clear h
  go_enter Tryz.func57, Tryz.ntmps57
  go_wp2_with fail
  (with_reducible refine HN.out.mono ?_)
  rintro e w1 ⟨rfl, ht1, ho1⟩
  have H1 := Lib.hid ht1
  clear ht1 ho1 HN
  have hl1 := H1.out.lt
  go_wp2_with fail
  (with_reducible refine (IH.out _ H1.out).mono ?_)
  rintro e w2 ⟨x2, hx2, rfl, ht⟩
  have H2 := Lib.hid ht
  clear ht H1 hl1
  have hl2 := H2.out.lt
  go_wp2_with fail
  (with_reducible refine (IH.out _ H2.out).mono ?_)
  rintro e w3 ⟨x3, hx3, rfl, ht⟩
  have H3 := Lib.hid ht
  clear ht H2 hl2
  have hl3 := H3.out.lt
  go_wp2_with fail
  (with_reducible refine (IH.out _ H3.out).mono ?_)
  rintro e w4 ⟨x4, hx4, rfl, ht⟩
  have H4 := Lib.hid ht
  clear ht H3 hl3
  go_wp2
  go_ret
  refine ⟨_, ?_, rfl, H4.out⟩
  simp only [ByteArray.size_append, bsz, List.size_toArray, List.length_cons, List.length_nil]; omega
end Go.Proofs.YtdojbnngdlmbgaaGreatDoor.Se

namespace Go.Proofs.YtdojbnngdlmbgaaGreatDoor.Se
open Go.RowKit Go.Shelf
set_option linter.unusedVariables false
set_option linter.unusedSimpArgs false

set_option maxRecDepth 100000 in
set_option maxHeartbeats 4000000 in
theorem Pc_5 {w0 : World} {A : Option Addr} {n c b B : Nat} {D : Int} {W : World} (h : Pc w0 A n c b B D W 5) :
    Calls Tryz.prog 57 #[.pointer (some ⟨b, 0, none⟩), .int .i64 D] W (TxP w0 A n c b (3 * B + 60)) := by
  have IH := Lib.hid h.ih
  have HW := Lib.hid h.hw
  have HN := Lib.hid h.nx
  have HS := Lib.hid h.hs
  have hB := h.B2
  have hB3 := h.B1
  have hD1 := h.D1
  have hD2 := h.D2
  have g1 : decide (D ≤ 0) = false := by rw [decide_eq_false_iff_not]; omega
  unfold TxP at IH HW ⊢
  clear h
  go_enter Tryz.func57, Tryz.ntmps57
  go_wp2_with fail
  (with_reducible refine HN.out.mono ?_)
  rintro e w1 ⟨rfl, ht1, ho1⟩
  have H1 := Lib.hid ht1
  clear ht1 ho1 HN
  have hl1 := H1.out.lt
  go_wp2_with fail
  (with_reducible refine (HW.out _ H1.out).mono ?_)
  rintro e w2 ⟨x2, hx2, rfl, ht⟩
  have H2 := Lib.hid ht
  clear ht H1 hl1
  have hl2 := H2.out.lt
  go_wp2_with fail
  (with_reducible refine (IH.out _ H2.out).mono ?_)
  rintro e w3 ⟨x3, hx3, rfl, ht⟩
  have H3 := Lib.hid ht
  clear ht H2 hl2
  have hl3 := H3.out.lt
  have T3 := Lib.hid (H3.out.below (bl_new w3 (.cells #[.string ⟨#[122, 61, 50]⟩, .string ⟨#[108, 97, 115, 116]⟩] 9)))
  go_wp2_with fail
  refine (Of_lit 4 [⟨#[122, 61, 50]⟩, ⟨#[108, 97, 115, 116]⟩] w0 A n c b w3.heap.size 2 _ _ HS.out T3.out (by omega) (heap_alloc_new w3 _) rfl rfl (by decide) (by decide) (by decide)).mono ?_
  rintro e w4 ⟨x4, hx4, rfl, ht, ho⟩
  have H4 := Lib.hid ht
  clear ht ho T3 H3 hl3
  go_wp2
  go_ret
  refine ⟨_, ?_, rfl, H4.out⟩
  simp only [ByteArray.size_append, bsz, List.size_toArray, List.length_cons, List.length_nil]; omega
set_option maxRecDepth 100000 in
set_option maxHeartbeats 4000000 in
theorem Pc_6 {w0 : World} {A : Option Addr} {n c b B : Nat} {D : Int} {W : World} (h : Pc w0 A n c b B D W 6) :
    Calls Tryz.prog 57 #[.pointer (some ⟨b, 0, none⟩), .int .i64 D] W (TxP w0 A n c b (3 * B + 60)) := by
  have IH := Lib.hid h.ih
  have HW := Lib.hid h.hw
  have HN := Lib.hid h.nx
  have HS := Lib.hid h.hs
  have hB := h.B2
  have hB3 := h.B1
  have hD1 := h.D1
  have hD2 := h.D2
  have g1 : decide (D ≤ 0) = false := by rw [decide_eq_false_iff_not]; omega
  unfold TxP at IH HW ⊢
  clear h
  go_enter Tryz.func57, Tryz.ntmps57
  go_wp2_with fail
  (with_reducible refine HN.out.mono ?_)
  rintro e w1 ⟨rfl, ht1, ho1⟩
  have H1 := Lib.hid ht1
  clear ht1 ho1 HN
  have hl1 := H1.out.lt
  have T1 := Lib.hid (H1.out.below (bl_new w1 (.cells #[.string ⟨#[65]⟩, .string ⟨#[66]⟩, .string ⟨#[84, 101, 109, 112, 108, 97, 116, 101, 58, 84]⟩, .string ⟨#[67]⟩, .string ⟨#[91]⟩, .string ⟨#[84, 97, 108, 107, 58, 65]⟩] 9)))
  go_wp2_with fail
  refine (Of_lit 10 [⟨#[65]⟩, ⟨#[66]⟩, ⟨#[84, 101, 109, 112, 108, 97, 116, 101, 58, 84]⟩, ⟨#[67]⟩, ⟨#[91]⟩, ⟨#[84, 97, 108, 107, 58, 65]⟩] w0 A n c b w1.heap.size 6 _ _ HS.out T1.out (by omega) (heap_alloc_new w1 _) rfl rfl (by decide) (by decide) (by decide)).mono ?_
  rintro e w2 ⟨x2, hx2, rfl, ht, ho⟩
  have H2 := Lib.hid ht
  clear ht ho T1 H1 hl1
  have hl2 := H2.out.lt
  go_wp2_with fail
  (with_reducible refine (IH.out _ H2.out).mono ?_)
  rintro e w3 ⟨x3, hx3, rfl, ht⟩
  have H3 := Lib.hid ht
  clear ht H2 hl2
  go_wp2
  go_ret
  refine ⟨_, ?_, rfl, H3.out⟩
  simp only [ByteArray.size_append, bsz, List.size_toArray, List.length_cons, List.length_nil]; omega
set_option maxRecDepth 100000 in
set_option maxHeartbeats 4000000 in
theorem Pc_7 {w0 : World} {A : Option Addr} {n c b B : Nat} {D : Int} {W : World} (h : Pc w0 A n c b B D W 7) :
    Calls Tryz.prog 57 #[.pointer (some ⟨b, 0, none⟩), .int .i64 D] W (TxP w0 A n c b (3 * B + 60)) := by
  have IH := Lib.hid h.ih
  have HW := Lib.hid h.hw
  have HN := Lib.hid h.nx
  have HS := Lib.hid h.hs
  have hB := h.B2
  have hB3 := h.B1
  have hD1 := h.D1
  have hD2 := h.D2
  have g1 : decide (D ≤ 0) = false := by rw [decide_eq_false_iff_not]; omega
  unfold TxP at IH HW ⊢
  clear h
  go_enter Tryz.func57, Tryz.ntmps57
  go_wp2_with fail
  (with_reducible refine HN.out.mono ?_)
  rintro e w1 ⟨rfl, ht1, ho1⟩
  have H1 := Lib.hid ht1
  clear ht1 ho1 HN
  have hl1 := H1.out.lt
  have T1 := Lib.hid (H1.out.below (bl_new w1 (.cells #[.string ⟨#[49, 44, 50, 44, 51]⟩, .string ⟨#[97, 44, 98]⟩, .string ⟨#[]⟩, .string ⟨#[120]⟩] 9)))
  go_wp2_with fail
  refine (Of_lit 5 [⟨#[49, 44, 50, 44, 51]⟩, ⟨#[97, 44, 98]⟩, ⟨#[]⟩, ⟨#[120]⟩] w0 A n c b w1.heap.size 4 _ _ HS.out T1.out (by omega) (heap_alloc_new w1 _) rfl rfl (by decide) (by decide) (by decide)).mono ?_
  rintro e w2 ⟨x2, hx2, rfl, ht, ho⟩
  have H2 := Lib.hid ht
  clear ht ho T1 H1 hl1
  have hl2 := H2.out.lt
  go_wp2_with fail
  (with_reducible refine (IH.out _ H2.out).mono ?_)
  rintro e w3 ⟨x3, hx3, rfl, ht⟩
  have H3 := Lib.hid ht
  clear ht H2 hl2
  go_wp2
  go_ret
  refine ⟨_, ?_, rfl, H3.out⟩
  simp only [ByteArray.size_append, bsz, List.size_toArray, List.length_cons, List.length_nil]; omega
set_option maxRecDepth 100000 in
set_option maxHeartbeats 4000000 in
theorem Pc_8 {w0 : World} {A : Option Addr} {n c b B : Nat} {D : Int} {W : World} (h : Pc w0 A n c b B D W 8) :
    Calls Tryz.prog 57 #[.pointer (some ⟨b, 0, none⟩), .int .i64 D] W (TxP w0 A n c b (3 * B + 60)) := by
  have IH := Lib.hid h.ih
  have HW := Lib.hid h.hw
  have HN := Lib.hid h.nx
  have HS := Lib.hid h.hs
  have hB := h.B2
  have hB3 := h.B1
  have hD1 := h.D1
  have hD2 := h.D2
  have g1 : decide (D ≤ 0) = false := by rw [decide_eq_false_iff_not]; omega
  unfold TxP at IH HW ⊢
  clear h
  go_enter Tryz.func57, Tryz.ntmps57
  go_wp2_with fail
  (with_reducible refine HN.out.mono ?_)
  rintro e w1 ⟨rfl, ht1, ho1⟩
  have H1 := Lib.hid ht1
  clear ht1 ho1 HN
  have hl1 := H1.out.lt
  have T1 := Lib.hid (H1.out.below (bl_new w1 (.cells #[.string ⟨#[89]⟩, .string ⟨#[70, 32, 89]⟩, .string ⟨#[106, 46, 110, 46]⟩, .string ⟨#[72]⟩, .string ⟨#[72, 58, 105]⟩, .string ⟨#[78]⟩, .string ⟨#[92, 89]⟩] 9)))
  go_wp2_with fail
  refine (Of_lit 4 [⟨#[89]⟩, ⟨#[70, 32, 89]⟩, ⟨#[106, 46, 110, 46]⟩, ⟨#[72]⟩, ⟨#[72, 58, 105]⟩, ⟨#[78]⟩, ⟨#[92, 89]⟩] w0 A n c b w1.heap.size 7 _ _ HS.out T1.out (by omega) (heap_alloc_new w1 _) rfl rfl (by decide) (by decide) (by decide)).mono ?_
  rintro e w2 ⟨x2, hx2, rfl, ht, ho⟩
  have H2 := Lib.hid ht
  clear ht ho T1 H1 hl1
  go_wp2
  go_ret
  refine ⟨_, ?_, rfl, H2.out⟩
  simp only [ByteArray.size_append, bsz, List.size_toArray, List.length_cons, List.length_nil]; omega
set_option maxRecDepth 100000 in
set_option maxHeartbeats 4000000 in
theorem Pc_9 {w0 : World} {A : Option Addr} {n c b B : Nat} {D : Int} {W : World} (h : Pc w0 A n c b B D W 9) :
    Calls Tryz.prog 57 #[.pointer (some ⟨b, 0, none⟩), .int .i64 D] W (TxP w0 A n c b (3 * B + 60)) := by
  have IH := Lib.hid h.ih
  have HW := Lib.hid h.hw
  have HN := Lib.hid h.nx
  have HS := Lib.hid h.hs
  have hB := h.B2
  have hB3 := h.B1
  have hD1 := h.D1
  have hD2 := h.D2
  have g1 : decide (D ≤ 0) = false := by rw [decide_eq_false_iff_not]; omega
  unfold TxP at IH HW ⊢
  clear h
  go_enter Tryz.func57, Tryz.ntmps57
  go_wp2_with fail
  (with_reducible refine HN.out.mono ?_)
  rintro e w1 ⟨rfl, ht1, ho1⟩
  have H1 := Lib.hid ht1
  clear ht1 ho1 HN
  have hl1 := H1.out.lt
  have T1 := Lib.hid (H1.out.below (bl_new w1 (.cells #[.string ⟨#[88]⟩, .string ⟨#[65]⟩, .string ⟨#[66]⟩] 9)))
  go_wp2_with fail
  refine (Of_lit 1 [⟨#[88]⟩, ⟨#[65]⟩, ⟨#[66]⟩] w0 A n c b w1.heap.size 3 _ _ HS.out T1.out (by omega) (heap_alloc_new w1 _) rfl rfl (by decide) (by decide) (by decide)).mono ?_
  rintro e w2 ⟨x2, hx2, rfl, ht, ho⟩
  have H2 := Lib.hid ht
  clear ht ho T1 H1 hl1
  go_wp2
  go_ret
  refine ⟨_, ?_, rfl, H2.out⟩
  simp only [ByteArray.size_append, bsz, List.size_toArray, List.length_cons, List.length_nil]; omega
set_option maxRecDepth 100000 in
set_option maxHeartbeats 4000000 in
theorem Pc_10 {w0 : World} {A : Option Addr} {n c b B : Nat} {D : Int} {W : World} (h : Pc w0 A n c b B D W 10) :
    Calls Tryz.prog 57 #[.pointer (some ⟨b, 0, none⟩), .int .i64 D] W (TxP w0 A n c b (3 * B + 60)) := by
  have IH := Lib.hid h.ih
  have HW := Lib.hid h.hw
  have HN := Lib.hid h.nx
  have HS := Lib.hid h.hs
  have hB := h.B2
  have hB3 := h.B1
  have hD1 := h.D1
  have hD2 := h.D2
  have g1 : decide (D ≤ 0) = false := by rw [decide_eq_false_iff_not]; omega
  unfold TxP at IH HW ⊢
  clear h
  go_enter Tryz.func57, Tryz.ntmps57
  go_wp2_with fail
  (with_reducible refine HN.out.mono ?_)
  rintro e w1 ⟨rfl, ht1, ho1⟩
  have H1 := Lib.hid ht1
  clear ht1 ho1 HN
  have hl1 := H1.out.lt
  have T1 := Lib.hid (H1.out.below (bl_new w1 (.cells #[.string ⟨#[88]⟩, .string ⟨#[65]⟩, .string ⟨#[]⟩] 9)))
  go_wp2_with fail
  refine (Of_lit 1 [⟨#[88]⟩, ⟨#[65]⟩, ⟨#[]⟩] w0 A n c b w1.heap.size 3 _ _ HS.out T1.out (by omega) (heap_alloc_new w1 _) rfl rfl (by decide) (by decide) (by decide)).mono ?_
  rintro e w2 ⟨x2, hx2, rfl, ht, ho⟩
  have H2 := Lib.hid ht
  clear ht ho T1 H1 hl1
  go_wp2
  go_ret
  refine ⟨_, ?_, rfl, H2.out⟩
  simp only [ByteArray.size_append, bsz, List.size_toArray, List.length_cons, List.length_nil]; omega
end Go.Proofs.YtdojbnngdlmbgaaGreatDoor.Se
