/-
  The contracts of the tape and of the formulas that it makes.
-/
import Derived.Test.YtfocokjihbenmaaGreatDoorFoSb
import Derived.Test.YtfocokjihbenmaaGreatDoorFoMm
import Derived.Test.YtfocokjihbenmaaGreatDoorNuL
import Derived.Laws.Rows
import Derived.Deep.RegionHeld3
namespace Go.Proofs.YtfocokjihbenmaaGreatDoor.Fo
open Go.RowKit Go.Proofs.YtfocokjihbenmaaGreatDoor.Nu
set_option linter.unusedVariables false
set_option linter.unusedSimpArgs false

theorem i64_and24 (n : Int) : bits .and .i64 n 16777215 = n % 16777216 := by
  have h7 : (BitVec.ofInt 64 16777215).toNat = 2 ^ 24 - 1 := by decide
  have key : (BitVec.ofInt 64 n &&& BitVec.ofInt 64 16777215).toNat = (n % ((2 ^ 64 : Nat) : Int)).toNat % 2 ^ 24 := by
    rw [BitVec.toNat_and, BitVec.toNat_ofInt, h7, Nat.and_two_pow_sub_one_eq_mod]
  show IntKind.i64.wrap ((BitVec.ofInt 64 n &&& BitVec.ofInt 64 16777215).toNat : Nat) = n % 16777216
  rw [key, IntKind.wrap_i64]
  omega

/-- A slice of numbers that came in. -/
structure Sl (w0 : World) (A : Option Addr) (n c : Nat) : Prop where
  le : n ≤ c
  mx : c ≤ maxLen
  at_ : 0 < n → ∃ ad, A = some ad ∧ ad.block < w0.heap.size ∧ ∀ i, i < n → ∃ z : Int, w0.cell? (ad.add i) = some (.int .i64 z)
/-- The tape at block b over the slice. -/
structure Tp (w0 : World) (A : Option Addr) (n c b : Nat) (W : World) : Prop where
  c0 : W.cell? ⟨b, 0, none⟩ = some (.slice A n c)
  c1 : ∃ k : Nat, k ≤ n ∧ W.cell? ⟨b, 1, none⟩ = some (.int .i64 k)
  f1 : W.frozen? ⟨b, 1, none⟩ = false
  bl : Below w0.heap.size w0 W
  lb : w0.heap.size ≤ b
  lt : b < W.heap.size
/-- Nothing but block b has changed. -/
structure Only (b : Nat) (W W' : World) : Prop where
  size : W'.heap.size = W.heap.size
  block : ∀ g, g ≠ b → W'.heap[g]? = W.heap[g]?
theorem Tp.below {w0 W W' : World} {A : Option Addr} {n c b : Nat} (h : Tp w0 A n c b W) (hb : Below W.heap.size W W') : Tp w0 A n c b W' := by
  obtain ⟨k, hk, h1⟩ := h.c1
  exact ⟨(hb.cell (p := ⟨b, 0, none⟩) h.lt).trans h.c0, ⟨k, hk, (hb.cell (p := ⟨b, 1, none⟩) h.lt).trans h1⟩, (hb.frozen (p := ⟨b, 1, none⟩) h.lt).trans h.f1, h.bl.trans (hb.mono h.bl.size), h.lb, Nat.lt_of_lt_of_le h.lt hb.size⟩
theorem add_block (a : Addr) (n : Nat) : (a.add n).block = a.block := by unfold Addr.add; split <;> rfl

theorem size_setCell (W : World) (p : Addr) (u : Value) : (W.setCell p u).heap.size = W.heap.size := by simp [World.setCell]
theorem Tp.store {w0 W : World} {A : Option Addr} {n c b : Nat} (h : Tp w0 A n c b W) {k : Nat} (hk : k < n) : Tp w0 A n c b (W.setCell ⟨b, 1, none⟩ (.int .i64 ((k : Int) + 1))) := by
  obtain ⟨k', _, h1⟩ := h.c1
  refine ⟨?_, ⟨k + 1, by omega, ?_⟩, ?_, h.bl.setCell (p := ⟨b, 1, none⟩) h.lb _, h.lb, by rw [size_setCell]; exact h.lt⟩
  · rw [World.cell?_setCell_other W ⟨b, 1, none⟩ ⟨b, 0, none⟩ _ (by simp)]; exact h.c0
  · rw [World.cell?_setCell_same' W ⟨b, 1, none⟩ _ (by rw [h1]; rfl)]; simp
  · rw [World.frozen?_setCell]; exact h.f1
theorem Tp.other {w0 W : World} {A : Option Addr} {n c b : Nat} (h : Tp w0 A n c b W) {p : Addr} (hp : p.block ≠ b) (hw : w0.heap.size ≤ p.block) (u : Value) : Tp w0 A n c b (W.setCell p u) := by
  obtain ⟨k, hk, h1⟩ := h.c1
  have hf : ∀ q : Addr, q.block = b → (W.setCell p u).cell? q = W.cell? q := fun q hq => World.cell?_setCell_other W p q u (fun e => hp (by rw [← e] at hq; exact hq))
  exact ⟨(hf ⟨b, 0, none⟩ rfl).trans h.c0, ⟨k, hk, (hf ⟨b, 1, none⟩ rfl).trans h1⟩, by rw [World.frozen?_setCell]; exact h.f1, h.bl.setCell hw u, h.lb, by rw [size_setCell]; exact h.lt⟩
theorem New_any (A : Option Addr) (n c : Nat) (w : World) :
    Calls Tryz.prog 10 #[.slice A n c] w fun e w' => e = .returned (.pointer (some ⟨w.heap.size, 0, none⟩)) ∧ Tp w A n c w.heap.size w' := by
  go_enter Tryz.func10, Tryz.ntmps10
  go_wp2
  go_ret
  exact ⟨rfl, by simp, ⟨0, Nat.zero_le _, by simp⟩, by simp, (Below.refl _ _).alloc (Nat.le_refl _) _, Nat.le_refl _, by simp⟩

set_option maxHeartbeats 1000000 in
theorem Next_any (w0 : World) (A : Option Addr) (n c b m : Nat) (W : World) (hs : Sl w0 A n c) (h : Tp w0 A n c b W) (hm : 1 ≤ m) (hm2 : m ≤ 100) :
    Calls Tryz.prog 25 #[.pointer (some ⟨b, 0, none⟩), .int .i64 (m : Int)] W fun e W' => ∃ r : Nat, r < m ∧ e = .returned (.int .i64 (r : Int)) ∧ Tp w0 A n c b W' ∧ Only b W W' := by
  obtain ⟨k, hk, c1⟩ := h.c1
  have c0 := h.c0
  have f1 := h.f1
  have hmx := hs.mx
  have hle := hs.le
  unfold maxLen at hmx
  by_cases hlt : k < n
  · obtain ⟨ad, rfl, hadb, hz⟩ := hs.at_ (by omega)
    obtain ⟨z, hzc⟩ := hz k hlt
    clear hz
    have hzW : W.cell? (ad.add k) = some (.int .i64 z) := (h.bl.cell (p := ad.add k) (by rw [add_block]; exact hadb)).trans hzc
    have hand := i64_and24 z
    have g1 : ¬ (n : Int) ≤ (k : Int) := by omega
    have g2 : (k : Int) < (n : Int) := by omega
    have g3 : (0 : Int) ≤ z % 16777216 := by omega
    have g4 : z % 16777216 < 16777216 := by omega
    go_enter Tryz.func25, Tryz.ntmps25
    go_wp2
    go_quiet (fail)
    go_wp2
    go_quiet (fail)
    go_wp2
    go_ret
    have q1 : 0 ≤ z % 16777216 % (m : Int) := Int.emod_nonneg _ (by omega)
    have q2 : z % 16777216 % (m : Int) < (m : Int) := Int.emod_lt_of_pos _ (by omega)
    exact ⟨(z % 16777216 % (m : Int)).toNat, by omega, ret_int (by rw [Int.toNat_of_nonneg q1]), (h.below (below_drewN (Below.refl _ _) _)).store hlt, ⟨size_setCell (W.drewN _) _ _, fun g hg => Below.heap_setCell (W.drewN _) ⟨b, 1, none⟩ _ g hg⟩⟩
  · have g1 : (n : Int) ≤ (k : Int) := by omega
    go_enter Tryz.func25, Tryz.ntmps25
    go_wp2
    go_quiet (fail)
    go_wp2
    go_ret
    exact ⟨0, by omega, rfl, h.below (below_drewN (Below.refl _ _) nq), ⟨rfl, fun _ _ => rfl⟩⟩

set_option maxHeartbeats 1000000 in
theorem Of_tab (tb : List (List UInt8)) (w0 : World) (A : Option Addr) (n c b g m : Nat) (cs : Array Value) (W : World) (hs : Sl w0 A n c) (h : Tp w0 A n c b W) (hg : g ≠ b) {t : TypeId} {fr : Nat × Nat}
    (hc : W.heap[g]? = some (.cells cs t fr)) (hm : 1 ≤ m) (hm2 : m ≤ 100) (hcs : ∀ r, r < m → ∃ x ∈ tb, cs[r]? = some (.string ⟨x.toArray⟩)) :
    Calls Tryz.prog 26 #[.pointer (some ⟨b, 0, none⟩), .slice (some ⟨g, 0, none⟩) m m] W fun e W' => ∃ x ∈ tb, e = .returned (.string ⟨x.toArray⟩) ∧ Tp w0 A n c b W' ∧ Only b W W' := by
  go_enter Tryz.func26, Tryz.ntmps26
  go_wp2_with fail
  (with_reducible refine (Next_any w0 A n c b m _ hs h hm hm2).mono ?_)
  rintro e w1 ⟨r, hr, rfl, ht1, ho1⟩
  obtain ⟨x, hx, hxc⟩ := hcs r hr
  have hcell : w1.cell? ⟨g, r, none⟩ = some (.string ⟨x.toArray⟩) := by rw [cell_of_row w1 g r cs t fr ((ho1.block g hg).trans hc)]; exact hxc
  have hri : (r : Int) < (m : Int) := by omega
  clear hxc
  have HT := Lib.hid ht1; have HO := Lib.hid ho1
  clear ht1 ho1 hc hcs
  go_wp2
  go_ret
  exact ⟨x, hx, rfl, HT.out, HO.out⟩
def numsC : Array Value := #[.string ⟨#[49]⟩, .string ⟨#[50]⟩, .string ⟨#[48]⟩, .string ⟨#[51, 46, 53]⟩, .string ⟨#[49, 48]⟩, .string ⟨#[48, 46, 50, 53]⟩, .string ⟨#[55]⟩, .string ⟨#[49, 48, 48, 48, 48, 48]⟩, .string ⟨#[57, 57, 57, 57, 57, 57, 57, 57, 57]⟩, .string ⟨#[49, 46, 48, 48, 48, 48, 48, 48, 48, 48, 49]⟩]
theorem nums_at {r : Nat} (h : r < 10) : ∃ x ∈ nums, numsC[r]? = some (.string ⟨x.toArray⟩) := by
  rcases (by omega : r = 0 ∨ r = 1 ∨ r = 2 ∨ r = 3 ∨ r = 4 ∨ r = 5 ∨ r = 6 ∨ r = 7 ∨ r = 8 ∨ r = 9) with rfl | rfl | rfl | rfl | rfl | rfl | rfl | rfl | rfl | rfl
  · exact ⟨[49], by decide, rfl⟩
  · exact ⟨[50], by decide, rfl⟩
  · exact ⟨[48], by decide, rfl⟩
  · exact ⟨[51, 46, 53], by decide, rfl⟩
  · exact ⟨[49, 48], by decide, rfl⟩
  · exact ⟨[48, 46, 50, 53], by decide, rfl⟩
  · exact ⟨[55], by decide, rfl⟩
  · exact ⟨[49, 48, 48, 48, 48, 48], by decide, rfl⟩
  · exact ⟨[57, 57, 57, 57, 57, 57, 57, 57, 57], by decide, rfl⟩
  · exact ⟨[49, 46, 48, 48, 48, 48, 48, 48, 48, 48, 49], by decide, rfl⟩
theorem Of_nums (w0 : World) (A : Option Addr) (n c b g : Nat) (W : World) (hs : Sl w0 A n c) (h : Tp w0 A n c b W) (hg : g ≠ b) {t : TypeId} {fr : Nat × Nat} (hc : W.heap[g]? = some (.cells numsC t fr)) :
    Calls Tryz.prog 26 #[.pointer (some ⟨b, 0, none⟩), .slice (some ⟨g, 0, none⟩) 10 10] W fun e W' => ∃ x ∈ nums, e = .returned (.string ⟨x.toArray⟩) ∧ Tp w0 A n c b W' ∧ Only b W W' :=
  Of_tab nums w0 A n c b g 10 numsC W hs h hg hc (by decide) (by decide) fun r hr => nums_at hr
def presC : Array Value := #[.string ⟨#[45]⟩, .string ⟨#[43]⟩, .string ⟨#[110, 111, 116, 32]⟩, .string ⟨#[102, 108, 111, 111, 114, 32]⟩]
theorem pres_at {r : Nat} (h : r < 4) : ∃ x ∈ pres, presC[r]? = some (.string ⟨x.toArray⟩) := by
  rcases (by omega : r = 0 ∨ r = 1 ∨ r = 2 ∨ r = 3) with rfl | rfl | rfl | rfl
  · exact ⟨[45], by decide, rfl⟩
  · exact ⟨[43], by decide, rfl⟩
  · exact ⟨[110, 111, 116, 32], by decide, rfl⟩
  · exact ⟨[102, 108, 111, 111, 114, 32], by decide, rfl⟩
theorem Of_pres (w0 : World) (A : Option Addr) (n c b g : Nat) (W : World) (hs : Sl w0 A n c) (h : Tp w0 A n c b W) (hg : g ≠ b) {t : TypeId} {fr : Nat × Nat} (hc : W.heap[g]? = some (.cells presC t fr)) :
    Calls Tryz.prog 26 #[.pointer (some ⟨b, 0, none⟩), .slice (some ⟨g, 0, none⟩) 4 4] W fun e W' => ∃ x ∈ pres, e = .returned (.string ⟨x.toArray⟩) ∧ Tp w0 A n c b W' ∧ Only b W W' :=
  Of_tab pres w0 A n c b g 4 presC W hs h hg hc (by decide) (by decide) fun r hr => pres_at hr
def binsC : Array Value := #[.string ⟨#[43]⟩, .string ⟨#[45]⟩, .string ⟨#[42]⟩, .string ⟨#[47]⟩, .string ⟨#[32, 109, 111, 100, 32]⟩, .string ⟨#[94]⟩, .string ⟨#[32, 61, 32]⟩, .string ⟨#[60, 62]⟩, .string ⟨#[60]⟩, .string ⟨#[62, 32]⟩, .string ⟨#[60, 61]⟩, .string ⟨#[62, 61]⟩, .string ⟨#[32, 97, 110, 100, 32]⟩, .string ⟨#[32, 111, 114, 32]⟩, .string ⟨#[32, 114, 111, 117, 110, 100, 32]⟩]
theorem bins_at {r : Nat} (h : r < 15) : ∃ x ∈ bins, binsC[r]? = some (.string ⟨x.toArray⟩) := by
  rcases (by omega : r = 0 ∨ r = 1 ∨ r = 2 ∨ r = 3 ∨ r = 4 ∨ r = 5 ∨ r = 6 ∨ r = 7 ∨ r = 8 ∨ r = 9 ∨ r = 10 ∨ r = 11 ∨ r = 12 ∨ r = 13 ∨ r = 14) with rfl | rfl | rfl | rfl | rfl | rfl | rfl | rfl | rfl | rfl | rfl | rfl | rfl | rfl | rfl
  · exact ⟨[43], by decide, rfl⟩
  · exact ⟨[45], by decide, rfl⟩
  · exact ⟨[42], by decide, rfl⟩
  · exact ⟨[47], by decide, rfl⟩
  · exact ⟨[32, 109, 111, 100, 32], by decide, rfl⟩
  · exact ⟨[94], by decide, rfl⟩
  · exact ⟨[32, 61, 32], by decide, rfl⟩
  · exact ⟨[60, 62], by decide, rfl⟩
  · exact ⟨[60], by decide, rfl⟩
  · exact ⟨[62, 32], by decide, rfl⟩
  · exact ⟨[60, 61], by decide, rfl⟩
  · exact ⟨[62, 61], by decide, rfl⟩
  · exact ⟨[32, 97, 110, 100, 32], by decide, rfl⟩
  · exact ⟨[32, 111, 114, 32], by decide, rfl⟩
  · exact ⟨[32, 114, 111, 117, 110, 100, 32], by decide, rfl⟩
theorem Of_bins (w0 : World) (A : Option Addr) (n c b g : Nat) (W : World) (hs : Sl w0 A n c) (h : Tp w0 A n c b W) (hg : g ≠ b) {t : TypeId} {fr : Nat × Nat} (hc : W.heap[g]? = some (.cells binsC t fr)) :
    Calls Tryz.prog 26 #[.pointer (some ⟨b, 0, none⟩), .slice (some ⟨g, 0, none⟩) 15 15] W fun e W' => ∃ x ∈ bins, e = .returned (.string ⟨x.toArray⟩) ∧ Tp w0 A n c b W' ∧ Only b W W' :=
  Of_tab bins w0 A n c b g 15 binsC W hs h hg hc (by decide) (by decide) fun r hr => bins_at hr
theorem pres_of {x : List UInt8} (h : x ∈ pres) : ∃ p ∈ presP, x = p.flatten := by
  obtain ⟨p, hp, e⟩ := List.mem_map.1 h; exact ⟨p, hp, e.symm⟩
theorem bins_of {x : List UInt8} (h : x ∈ bins) : ∃ p ∈ binsP, x = p.flatten := by
  obtain ⟨p, hp, e⟩ := List.mem_map.1 h; exact ⟨p, hp, e.symm⟩
/-- What built returns. -/
def Bt (w0 : World) (A : Option Addr) (n c b d : Nat) (e : Ending) (W' : World) : Prop := ∃ (ps : List (List UInt8)) (u : List UInt8), ps.flatten = u ∧ Fm (cB d) (nB d) ps ∧ e = .returned (.string ⟨u.toArray⟩) ∧ Tp w0 A n c b W'
theorem bt_num {w0 : World} {A : Option Addr} {n c b d : Nat} {x : List UInt8} (h : x ∈ nums) {W' : World} (ht : Tp w0 A n c b W') : Bt w0 A n c b d (.returned (.string ⟨x.toArray⟩)) W' :=
  ⟨[x], x, by simp, (Fm.num h).le (cB_pos d) (nB_pos d), rfl, ht⟩
theorem bs_ext {a b : ByteArray} (h : a.data.toList = b.data.toList) : a = b := by
  apply ByteArray.ext; apply Array.ext'; exact h
theorem nB_le : ∀ d, d ≤ 4 → nB d ≤ 281 := by
  intro d h
  rcases (by omega : d = 0 ∨ d = 1 ∨ d = 2 ∨ d = 3 ∨ d = 4) with rfl | rfl | rfl | rfl | rfl <;> decide
theorem pres_len : ∀ x ∈ pres, x.length ≤ 6 := by decide
theorem bins_len : ∀ x ∈ bins, x.length ≤ 7 := by decide
theorem bt_par {w0 : World} {A : Option Addr} {n c b d : Nat} {ps : List (List UInt8)} {u : List UInt8} (hu : ps.flatten = u) (h : Fm (cB d) (nB d) ps) {W' : World} (ht : Tp w0 A n c b W') : Bt w0 A n c b (d + 1) (.returned (.string ((⟨#[40]⟩ : ByteArray) ++ ⟨u.toArray⟩ ++ ⟨#[41]⟩))) W' := by
  subst hu
  exact ⟨_, _, rfl, h.par.le (by have := cB_pos d; show _ ≤ 2 * cB d + 1; omega) (by show _ ≤ 2 * nB d + 7; omega), by congr 2; apply bs_ext; simp, ht⟩
theorem bt_pre {w0 : World} {A : Option Addr} {n c b d : Nat} {x : List UInt8} {ps : List (List UInt8)} {u : List UInt8} (hx : x ∈ pres) (hu : ps.flatten = u) (h : Fm (cB d) (nB d) ps) {W' : World} (ht : Tp w0 A n c b W') : Bt w0 A n c b (d + 1) (.returned (.string ((⟨x.toArray⟩ : ByteArray) ++ ⟨u.toArray⟩))) W' := by
  subst hu
  obtain ⟨p, hp, rfl⟩ := pres_of hx
  exact ⟨_, _, rfl, (h.pre hp).le (by have := cB_pos d; show _ ≤ 2 * cB d + 1; omega) (by show _ ≤ 2 * nB d + 7; omega), by congr 2; apply bs_ext; simp, ht⟩
theorem bt_bin {w0 : World} {A : Option Addr} {n c b d : Nat} {x : List UInt8} {ps qs : List (List UInt8)} {u v : List UInt8} (hu : ps.flatten = u) (h : Fm (cB d) (nB d) ps) (hx : x ∈ bins) (hv : qs.flatten = v) (k : Fm (cB d) (nB d) qs) {W' : World} (ht : Tp w0 A n c b W') : Bt w0 A n c b (d + 1) (.returned (.string ((⟨u.toArray⟩ : ByteArray) ++ ⟨x.toArray⟩ ++ ⟨v.toArray⟩))) W' := by
  subst hu; subst hv
  obtain ⟨p, hp, rfl⟩ := bins_of hx
  exact ⟨_, _, rfl, (h.bin hp k).le (by show _ ≤ 2 * cB d + 1; omega) (by show _ ≤ 2 * nB d + 7; omega), by congr 2; apply bs_ext; simp, ht⟩
theorem Next_5 (w0 : World) (A : Option Addr) (n c b : Nat) (W : World) (hs : Sl w0 A n c) (h : Tp w0 A n c b W) :
    Calls Tryz.prog 25 #[.pointer (some ⟨b, 0, none⟩), .int .i64 5] W fun e W' => ∃ r : Nat, r < 5 ∧ e = .returned (.int .i64 (r : Int)) ∧ Tp w0 A n c b W' ∧ Only b W W' := Next_any w0 A n c b 5 W hs h (by decide) (by decide)
theorem Next_8 (w0 : World) (A : Option Addr) (n c b : Nat) (W : World) (hs : Sl w0 A n c) (h : Tp w0 A n c b W) :
    Calls Tryz.prog 25 #[.pointer (some ⟨b, 0, none⟩), .int .i64 8] W fun e W' => ∃ r : Nat, r < 8 ∧ e = .returned (.int .i64 (r : Int)) ∧ Tp w0 A n c b W' ∧ Only b W W' := Next_any w0 A n c b 8 W hs h (by decide) (by decide)
set_option maxRecDepth 100000 in
set_option maxHeartbeats 4000000 in
theorem built_any (w0 : World) (A : Option Addr) (n c b : Nat) (hs : Sl w0 A n c) : ∀ (d : Nat) (hd : d ≤ 4) (W : World) (h : Tp w0 A n c b W),
    Calls Tryz.prog 9 #[.pointer (some ⟨b, 0, none⟩), .int .i64 (d : Int)] W fun e W' => Bt w0 A n c b d e W'
  | 0, _, W, h => by
    have hlt := h.lt
    have H1 := Lib.hid (h.below ((Below.refl _ W).alloc (Nat.le_refl _) (.cells numsC 9)))
    go_enter Tryz.func9, Tryz.ntmps9
    go_wp2_with fail
    refine (Of_nums w0 A n c b W.heap.size _ hs H1.out (by omega) (heap_alloc_new W _)).mono ?_
    rintro e w1 ⟨x, hx, rfl, ht1, ho1⟩
    have HT := Lib.hid ht1
    clear ht1 ho1
    go_wp2
    go_ret
    exact bt_num hx HT.out
  | d + 1, hd, W, h => by
    have hlt := h.lt
    have IH := Lib.hid (built_any w0 A n c b hs d (by omega))
    have HS := Lib.hid hs
    obtain ⟨D, hD⟩ : ∃ D : Int, ((d + 1 : Nat) : Int) = D := ⟨_, rfl⟩
    have eD : (d : Int) = D - 1 := by omega
    rw [eD] at IH
    rw [hD]
    have hD1 : 1 ≤ D := by omega
    have hD2 : D ≤ 5 := by omega
    have g1 : decide (D ≤ 0) = false := by rw [decide_eq_false_iff_not]; omega
    clear hs hD eD
    go_enter Tryz.func9, Tryz.ntmps9
    go_wp2_with fail
    (with_reducible refine (Next_5 w0 A n c b _ HS.out h).mono ?_)
    rintro e w1 ⟨r, hr, rfl, ht1, ho1⟩
    have hlt1 := ht1.lt
    have H1 := Lib.hid ht1
    clear h ht1 ho1
    by_cases h0 : r = 0
    · subst h0
      have H2 := Lib.hid (H1.out.below ((Below.refl _ w1).alloc (Nat.le_refl _) (.cells numsC 9)))
      go_wp2_with fail
      refine (Of_nums w0 A n c b w1.heap.size _ HS.out H2.out (by omega) (heap_alloc_new w1 _)).mono ?_
      rintro e w2 ⟨x, hx, rfl, ht2, ho2⟩
      have HT := Lib.hid ht2
      clear ht2 ho2
      go_wp2
      go_ret
      exact bt_num hx HT.out
    · have g2 : ((r : Int) == 0) = false := by simpa using h0
      have HR := Lib.hid h0
      clear h0
      go_wp2_with fail
      (with_reducible refine (Next_8 w0 A n c b _ HS.out H1.out).mono ?_)
      rintro e w2 ⟨q, hq, rfl, ht2, ho2⟩
      have hlt2 := ht2.lt
      have H2 := Lib.hid ht2
      clear ht2 ho2 hlt1 H1
      by_cases h0 : q = 0
      · subst h0
        go_wp2_with fail
        (with_reducible refine (IH.out _ H2.out).mono ?_)
        rintro e w3 ⟨ps, u, hu, hf, rfl, ht3⟩
        have hl : u.length ≤ 281 := hu ▸ Nat.le_trans hf.len (nB_le d (by omega))
        have HF := Lib.hid hf; have HU := Lib.hid hu; clear hu
        have HT := Lib.hid ht3
        clear hf ht3
        go_wp2
        go_ret
        exact bt_par HU.out HF.out HT.out
      · have g3 : ((q : Int) == 0) = false := by simpa using h0
        clear h0
        by_cases h1 : q = 1
        · subst h1
          have H3 := Lib.hid (H2.out.below ((Below.refl _ w2).alloc (Nat.le_refl _) (.cells presC 9)))
          go_wp2_with fail
          refine (Of_pres w0 A n c b w2.heap.size _ HS.out H3.out (by omega) (heap_alloc_new w2 _)).mono ?_
          rintro e w3 ⟨x, hx, rfl, ht3, ho3⟩
          have HT := Lib.hid ht3
          clear ht3 ho3
          go_wp2_with fail
          (with_reducible refine (IH.out _ HT.out).mono ?_)
          rintro e w4 ⟨ps, u, hu, hf, rfl, ht4⟩
          have hl : u.length ≤ 281 := hu ▸ Nat.le_trans hf.len (nB_le d (by omega))
          have hlx := pres_len x hx
          have HF := Lib.hid hf; have HU := Lib.hid hu; clear hu
          have HT4 := Lib.hid ht4
          clear hf ht4
          go_wp2
          go_ret
          exact bt_pre hx HU.out HF.out HT4.out
        · have g4 : ((q : Int) == 1) = false := beq_eq_false_iff_ne.2 (by omega)
          clear h1
          go_wp2_with fail
          (with_reducible refine (IH.out _ H2.out).mono ?_)
          rintro e w3 ⟨ps, u, hu, hf, rfl, ht3⟩
          have hlt3 := ht3.lt
          have HT := Lib.hid ht3
          have hl3 : u.length ≤ 281 := hu ▸ Nat.le_trans hf.len (nB_le d (by omega))
          have HF := Lib.hid hf; have HU := Lib.hid hu; clear hu
          have H3 := Lib.hid (ht3.below ((Below.refl _ w3).alloc (Nat.le_refl _) (.cells binsC 9)))
          clear hf ht3
          go_wp2_with fail
          refine (Of_bins w0 A n c b w3.heap.size _ HS.out H3.out (by omega) (heap_alloc_new w3 _)).mono ?_
          rintro e w4 ⟨x, hx, rfl, ht4, ho4⟩
          have hlx := bins_len x hx
          have HT4 := Lib.hid ht4
          clear ht4 ho4
          go_wp2_with fail
          (with_reducible refine (IH.out _ HT4.out).mono ?_)
          rintro e w5 ⟨qs, v, hv, hf5, rfl, ht5⟩
          have hl5 : v.length ≤ 281 := hv ▸ Nat.le_trans hf5.len (nB_le d (by omega))
          have HF5 := Lib.hid hf5; have HV := Lib.hid hv; clear hv
          have HT5 := Lib.hid ht5
          clear hf5 ht5
          go_wp2
          go_ret
          exact bt_bin HU.out HF.out hx HV.out HF5.out HT5.out
end Go.Proofs.YtfocokjihbenmaaGreatDoor.Fo
