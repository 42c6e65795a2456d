/-
  The contracts of the tape that makes titles out of a list of numbers.
-/
import Derived.Test.YtaapdhpfjiaeaaaDoorTiBel
import Derived.Laws.Rows
import Derived.Deep.RegionHeld3
namespace Go.Proofs.YtaapdhpfjiaeaaaDoor.Ti
open Go.RowKit

theorem i64_and24 (n : Int) : bits .and .i64 n 16777215 = n % 16777216 := by
  have h7 : (BitVec.ofInt 64 16777215).toNat = 2 ^ 24 - 1 := by decide
  have key : (BitVec.ofInt 64 n &&& BitVec.ofInt 64 16777215).toNat = (n % ((2 ^ 64 : Nat) : Int)).toNat % 2 ^ 24 := by
    rw [BitVec.toNat_and, BitVec.toNat_ofInt, h7, Nat.and_two_pow_sub_one_eq_mod]
  show IntKind.i64.wrap ((BitVec.ofInt 64 n &&& BitVec.ofInt 64 16777215).toNat : Nat) = n % 16777216
  rw [key, IntKind.wrap_i64]
  omega

/-- A slice of numbers that came in. -/
structure Sl (w0 : World) (A : Option Addr) (n c : Nat) : Prop where
  le : n ≤ c
  mx : c ≤ maxLen
  at_ : 0 < n → ∃ ad, A = some ad ∧ ad.block < w0.heap.size ∧ ∀ i, i < n → ∃ z : Int, w0.cell? (ad.add i) = some (.int .i64 z)
/-- The tape at block b over the slice. -/
structure Tp (w0 : World) (A : Option Addr) (n c b : Nat) (W : World) : Prop where
  c0 : W.cell? ⟨b, 0, none⟩ = some (.slice A n c)
  c1 : ∃ k : Nat, k ≤ n ∧ W.cell? ⟨b, 1, none⟩ = some (.int .i64 k)
  f1 : W.frozen? ⟨b, 1, none⟩ = false
  bl : Below w0.heap.size w0 W
  lb : w0.heap.size ≤ b
  lt : b < W.heap.size
/-- Nothing but block b has changed. -/
structure Only (b : Nat) (W W' : World) : Prop where
  size : W'.heap.size = W.heap.size
  block : ∀ g, g ≠ b → W'.heap[g]? = W.heap[g]?
theorem Tp.below {w0 W W' : World} {A : Option Addr} {n c b : Nat} (h : Tp w0 A n c b W) (hb : Below W.heap.size W W') : Tp w0 A n c b W' := by
  obtain ⟨k, hk, h1⟩ := h.c1
  exact ⟨(hb.cell (p := ⟨b, 0, none⟩) h.lt).trans h.c0, ⟨k, hk, (hb.cell (p := ⟨b, 1, none⟩) h.lt).trans h1⟩, (hb.frozen (p := ⟨b, 1, none⟩) h.lt).trans h.f1, h.bl.trans (hb.mono h.bl.size), h.lb, Nat.lt_of_lt_of_le h.lt hb.size⟩
theorem add_block (a : Addr) (n : Nat) : (a.add n).block = a.block := by unfold Addr.add; split <;> rfl

theorem size_setCell (W : World) (p : Addr) (u : Value) : (W.setCell p u).heap.size = W.heap.size := by simp [World.setCell]
theorem Tp.store {w0 W : World} {A : Option Addr} {n c b : Nat} (h : Tp w0 A n c b W) {k : Nat} (hk : k < n) : Tp w0 A n c b (W.setCell ⟨b, 1, none⟩ (.int .i64 ((k : Int) + 1))) := by
  obtain ⟨k', _, h1⟩ := h.c1
  refine ⟨?_, ⟨k + 1, by omega, ?_⟩, ?_, h.bl.setCell (p := ⟨b, 1, none⟩) h.lb _, h.lb, by rw [size_setCell]; exact h.lt⟩
  · rw [World.cell?_setCell_other W ⟨b, 1, none⟩ ⟨b, 0, none⟩ _ (by simp)]; exact h.c0
  · rw [World.cell?_setCell_same' W ⟨b, 1, none⟩ _ (by rw [h1]; rfl)]; simp
  · rw [World.frozen?_setCell]; exact h.f1
theorem Tp.other {w0 W : World} {A : Option Addr} {n c b : Nat} (h : Tp w0 A n c b W) {p : Addr} (hp : p.block ≠ b) (hw : w0.heap.size ≤ p.block) (u : Value) : Tp w0 A n c b (W.setCell p u) := by
  obtain ⟨k, hk, h1⟩ := h.c1
  have hf : ∀ q : Addr, q.block = b → (W.setCell p u).cell? q = W.cell? q := fun q hq => World.cell?_setCell_other W p q u (fun e => hp (by rw [← e] at hq; exact hq))
  exact ⟨(hf ⟨b, 0, none⟩ rfl).trans h.c0, ⟨k, hk, (hf ⟨b, 1, none⟩ rfl).trans h1⟩, by rw [World.frozen?_setCell]; exact h.f1, h.bl.setCell hw u, h.lb, by rw [size_setCell]; exact h.lt⟩
theorem New_any (A : Option Addr) (n c : Nat) (w : World) :
    Calls Tryd.prog 26 #[.slice A n c] w fun e w' => e = .returned (.pointer (some ⟨w.heap.size, 0, none⟩)) ∧ Tp w A n c w.heap.size w' := by
  go_enter Tryd.func26, Tryd.ntmps26
  go_wp2
  go_ret
  exact ⟨rfl, by simp, ⟨0, Nat.zero_le _, by simp⟩, by simp, (Below.refl _ _).alloc (Nat.le_refl _) _, Nat.le_refl _, by simp⟩

set_option maxHeartbeats 1000000 in
theorem Next_any (w0 : World) (A : Option Addr) (n c b m : Nat) (W : World) (hs : Sl w0 A n c) (h : Tp w0 A n c b W) (hm : 1 ≤ m) (hm2 : m ≤ 100) :
    Calls Tryd.prog 50 #[.pointer (some ⟨b, 0, none⟩), .int .i64 (m : Int)] W fun e W' => ∃ r : Nat, r < m ∧ e = .returned (.int .i64 (r : Int)) ∧ Tp w0 A n c b W' ∧ Only b W W' := by
  obtain ⟨k, hk, c1⟩ := h.c1
  have c0 := h.c0
  have f1 := h.f1
  have hmx := hs.mx
  have hle := hs.le
  unfold maxLen at hmx
  by_cases hlt : k < n
  · obtain ⟨ad, rfl, hadb, hz⟩ := hs.at_ (by omega)
    obtain ⟨z, hzc⟩ := hz k hlt
    clear hz
    have hzW : W.cell? (ad.add k) = some (.int .i64 z) := (h.bl.cell (p := ad.add k) (by rw [add_block]; exact hadb)).trans hzc
    have hand := i64_and24 z
    have g1 : ¬ (n : Int) ≤ (k : Int) := by omega
    have g2 : (k : Int) < (n : Int) := by omega
    have g3 : (0 : Int) ≤ z % 16777216 := by omega
    have g4 : z % 16777216 < 16777216 := by omega
    go_enter Tryd.func50, Tryd.ntmps50
    go_wp2
    go_quiet (fail)
    go_wp2
    go_quiet (fail)
    go_wp2
    go_ret
    have q1 : 0 ≤ z % 16777216 % (m : Int) := Int.emod_nonneg _ (by omega)
    have q2 : z % 16777216 % (m : Int) < (m : Int) := Int.emod_lt_of_pos _ (by omega)
    exact ⟨(z % 16777216 % (m : Int)).toNat, by omega, ret_int (by rw [Int.toNat_of_nonneg q1]), (h.below (below_drewN (Below.refl _ _) _)).store hlt, ⟨size_setCell (W.drewN _) _ _, fun g hg => Below.heap_setCell (W.drewN _) ⟨b, 1, none⟩ _ g hg⟩⟩
  · have g1 : (n : Int) ≤ (k : Int) := by omega
    go_enter Tryd.func50, Tryd.ntmps50
    go_wp2
    go_quiet (fail)
    go_wp2
    go_ret
    exact ⟨0, by omega, rfl, h.below (below_drewN (Below.refl _ _) nq), ⟨rfl, fun _ _ => rfl⟩⟩

/-- The block of the names that the tape chooses from. -/
def nameCells : Array Value := #[.string ⟨#[65]⟩, .string ⟨#[66]⟩, .string ⟨#[65, 47, 66]⟩, .string ⟨#[67]⟩, .string ⟨#[84]⟩, .string ⟨#[85, 47, 120]⟩, .string ⟨#[65, 47, 66, 47, 99]⟩, .string ⟨#[76, 111, 110, 103, 32, 110, 97, 109, 101]⟩, .string ⟨#[49]⟩, .string ⟨#[88]⟩]
theorem nameCells_at {r : Nat} (h : r < 10) : ∃ x ∈ tnames, nameCells[r]? = some (.string ⟨x.toArray⟩) := by
  have : r = 0 ∨ r = 1 ∨ r = 2 ∨ r = 3 ∨ r = 4 ∨ r = 5 ∨ r = 6 ∨ r = 7 ∨ r = 8 ∨ r = 9 := by omega
  rcases this with rfl | rfl | rfl | rfl | rfl | rfl | rfl | rfl | rfl | rfl
  · exact ⟨[65], by decide, rfl⟩
  · exact ⟨[66], by decide, rfl⟩
  · exact ⟨[65, 47, 66], by decide, rfl⟩
  · exact ⟨[67], by decide, rfl⟩
  · exact ⟨[84], by decide, rfl⟩
  · exact ⟨[85, 47, 120], by decide, rfl⟩
  · exact ⟨[65, 47, 66, 47, 99], by decide, rfl⟩
  · exact ⟨[76, 111, 110, 103, 32, 110, 97, 109, 101], by decide, rfl⟩
  · exact ⟨[49], by decide, rfl⟩
  · exact ⟨[88], by decide, rfl⟩
set_option maxHeartbeats 1000000 in
theorem Of_any (w0 : World) (A : Option Addr) (n c b g : Nat) (W : World) (hs : Sl w0 A n c) (h : Tp w0 A n c b W) (hg : g ≠ b) {t : TypeId} {fr : Nat × Nat} (hc : W.heap[g]? = some (.cells nameCells t fr)) :
    Calls Tryd.prog 51 #[.pointer (some ⟨b, 0, none⟩), .slice (some ⟨g, 0, none⟩) 10 10] W fun e W' => ∃ x ∈ tnames, e = .returned (.string ⟨x.toArray⟩) ∧ Tp w0 A n c b W' ∧ Only b W W' := by
  go_enter Tryd.func51, Tryd.ntmps51
  go_wp2_with fail
  refine (Next_any w0 A n c b 10 _ hs h (by omega) (by omega)).mono ?_
  rintro e w1 ⟨r, hr, rfl, ht1, ho1⟩
  obtain ⟨x, hx, hxc⟩ := nameCells_at hr
  have hcell : w1.cell? ⟨g, r, none⟩ = some (.string ⟨x.toArray⟩) := by rw [cell_of_row w1 g r nameCells t fr ((ho1.block g hg).trans hc)]; exact hxc
  have hri : (r : Int) < 10 := by omega
  clear hxc
  have HT := Lib.hid ht1; have HO := Lib.hid ho1
  clear ht1 ho1 hc
  go_wp2
  go_ret
  exact ⟨x, hx, rfl, HT.out, HO.out⟩

set_option maxRecDepth 100000 in
set_option maxHeartbeats 1000000 in
theorem TapeTitle_any (w0 : World) (A : Option Addr) (n c b : Nat) (W : World) (hs : Sl w0 A n c) (h : Tp w0 A n c b W) :
    Calls Tryd.prog 27 #[.pointer (some ⟨b, 0, none⟩)] W fun e W' => ∃ (k : Nat) (x : List UInt8), k < 6 ∧ x ∈ tnames ∧ e = .returned (.agg #[.int .i64 (k : Int), .string ⟨x.toArray⟩]) ∧ Tp w0 A n c b W' := by
  have hlt := h.lt
  have hb1 : Below W.heap.size W (W.alloc (.cells #[.int .i64 0, .string ⟨#[]⟩] 24)) := (Below.refl _ _).alloc (Nat.le_refl _) _
  have H1 := Lib.hid (h.below hb1)
  have hsz := h.bl.size
  clear hb1
  go_enter Tryd.func27, Tryd.ntmps27
  go_wp2_with fail
  refine (Next_any w0 A n c b 6 _ hs H1.out (by omega) (by omega)).mono ?_
  rintro e w1 ⟨k, hk, rfl, ht1, ho1⟩
  have hrow : w1.heap[W.heap.size]? = some (.cells #[.int .i64 0, .string ⟨#[]⟩] 24 (0, 0)) := (ho1.block _ (by omega)).trans (heap_alloc_new W _)
  have hs1 : W.heap.size + 1 ≤ w1.heap.size := by have := ho1.size; simp at this; omega
  have hb2 : Below w1.heap.size w1 (w1.alloc (.cells nameCells 9)) := (Below.refl _ _).alloc (Nat.le_refl _) _
  have H2 := Lib.hid (ht1.below hb2)
  have HR := Lib.hid hrow
  clear hrow ht1 ho1 H1 hb2
  go_wp2_with fail
  refine (Of_any w0 A n c b w1.heap.size _ hs H2.out (by omega) (heap_alloc_new w1 _)).mono ?_
  rintro e w2 ⟨x, hx, rfl, ht2, ho2⟩
  have hrow : w2.heap[W.heap.size]? = some (.cells #[.int .i64 0, .string ⟨#[]⟩] 24 (0, 0)) := (ho2.block _ (by omega)).trans ((heap_alloc_old w1 _ _ (by omega)).trans HR.out)
  have z0 : w2.cell? ⟨W.heap.size, 0, none⟩ = some (.int .i64 0) := by rw [cell_of_row _ _ _ _ _ _ hrow]; rfl
  have z1 : w2.cell? ⟨W.heap.size, 1, none⟩ = some (.string ⟨#[]⟩) := by rw [cell_of_row _ _ _ _ _ _ hrow]; rfl
  have fz : ∀ i, w2.frozen? ⟨W.heap.size, i, none⟩ = false := fun i => by simp [World.frozen?, hrow]
  have f0 := fz 0
  have f1 := fz 1
  have HT := Lib.hid ht2
  clear hrow fz ht2 ho2 HR H2
  go_wp2
  refine bodyPost_ret (v := .agg #[.int .i64 (k : Int), .string ⟨x.toArray⟩]) ?_ rfl ⟨k, x, hk, hx, rfl, (HT.out.other (p := ⟨W.heap.size, 0, none⟩) (by show W.heap.size ≠ b; omega) hsz _).other (p := ⟨W.heap.size, 1, none⟩) (by show W.heap.size ≠ b; omega) hsz _⟩
  simp [results, Tryd.results27, go_sem, z0, z1]
end Go.Proofs.YtaapdhpfjiaeaaaDoor.Ti
