/-
  The law on operators between two small numbers (P8.2).
-/
import Derived.Test.YtfocokjihbenmaaGreatDoorFoOq
import Derived.Test.YtfocokjihbenmaaGreatDoorNuMo
import Derived.Deep.RegionWith
import Derived.Deep.Cut
import Derived.Deep.CutRange
namespace Go.Proofs.YtfocokjihbenmaaGreatDoor.Fo
open Go.RowKit Go.Proofs.YtfocokjihbenmaaGreatDoor.Nu
set_option linter.unusedVariables false
set_option linter.unusedSimpArgs false

theorem and_7 (n : Int) : 0 ≤ bits .and .i64 n 7 ∧ bits .and .i64 n 7 ≤ 7 := by
  have h2 : (BitVec.ofInt 64 7).toNat = 7 := by decide
  have h3 : (BitVec.ofInt 64 n).toNat &&& 7 ≤ 7 := Nat.and_le_right
  have e : bits .and .i64 n 7 = IntKind.i64.wrap ((BitVec.ofInt 64 n &&& BitVec.ofInt 64 7).toNat : Int) := rfl
  rw [e, BitVec.toNat_and, h2, IntKind.wrap_i64]
  omega
def opC : Array Value := #[.string ⟨#[43]⟩, .string ⟨#[45]⟩, .string ⟨#[42]⟩, .string ⟨#[47]⟩, .string ⟨#[32, 109, 111, 100, 32]⟩, .string ⟨#[61]⟩, .string ⟨#[60]⟩, .string ⟨#[62, 61]⟩]
structure Bd (w : World) (i j : Int) (W : World) : Prop where
  up : Up w W
  a7 : At w.heap.size (nb1 i 1) W
  a8 : At (w.heap.size + 1) (nb1 j 1) W
  sz : w.heap.size + 2 ≤ W.heap.size
theorem Bd.first (w : World) (i j : Int) : Bd w i j ((w.alloc (nb1 i 1)).alloc (nb1 j 1)) := by
  refine ⟨((Below.refl _ w).alloc (Nat.le_refl _) _).alloc (by simp) _, At.alloc (nhh w _) _, ?_, by simp⟩
  have := nhh (w.alloc (nb1 i 1)) (nb1 j 1)
  rwa [World.size_alloc] at this
theorem Bd.alloc {w : World} {i j : Int} {W : World} (h : Bd w i j W) (o : Obj) : Bd w i j (W.alloc o) := ⟨Below.alloc h.up h.up.size o, h.a7.alloc o, h.a8.alloc o, by have := h.sz; simp; omega⟩
theorem Bd.drew {w : World} {i j : Int} {W : World} (h : Bd w i j W) : Bd w i j W.drew := ⟨Below.drew h.up, h.a7, h.a8, h.sz⟩
theorem Bd.call {w : World} {i j : Int} {W w' : World} (hb : Below W.heap.size W w') (h : Bd w i j W) : Bd w i j w' := ⟨Below.trans h.up (hb.mono h.up.size), h.a7.call hb, h.a8.call hb, Nat.le_trans h.sz hb.size⟩
/-- A block of the region's own. -/
structure Az (w : World) (g : Nat) (o : Obj) (W : World) : Prop where
  at_ : At g o W
  ge : w.heap.size + 2 ≤ g
theorem Az.new {w : World} {i j : Int} {W : World} (h : Bd w i j W) (o : Obj) : Az w W.heap.size o (W.alloc o) := ⟨nhh W o, h.sz⟩
theorem Az.alloc {w : World} {g : Nat} {o : Obj} {W : World} (h : Az w g o W) (p : Obj) : Az w g o (W.alloc p) := ⟨h.at_.alloc p, h.ge⟩
theorem Az.drew {w : World} {g : Nat} {o : Obj} {W : World} (h : Az w g o W) : Az w g o W.drew := ⟨h.at_, h.ge⟩
theorem Az.call {w : World} {g : Nat} {o : Obj} {W w' : World} (hb : Below W.heap.size W w') (h : Az w g o W) : Az w g o w' := ⟨h.at_.call hb, h.ge⟩
abbrev zb : Obj := .cells #[.int .i64 0, .int .i64 0] 24
abbrev ob : Obj := .cells #[.string ⟨#[43]⟩, .string ⟨#[45]⟩, .string ⟨#[42]⟩, .string ⟨#[47]⟩, .string ⟨#[32, 109, 111, 100, 32]⟩, .string ⟨#[61]⟩, .string ⟨#[60]⟩, .string ⟨#[62, 61]⟩] 9
theorem Az.cells {w : World} {g : Nat} {W : World} (h : Az w g zb W) : W.cell? ⟨g, 0, none⟩ = some (.int .i64 0) ∧ W.cell? ⟨g, 1, none⟩ = some (.int .i64 0) ∧ W.frozen? ⟨g, 0, none⟩ = false ∧ W.frozen? ⟨g, 1, none⟩ = false ∧ g < W.heap.size := by
  have h1 : W.heap[g]? = some zb := h.at_
  refine ⟨?_, ?_, ?_, ?_, (Array.getElem?_eq_some_iff.1 h1).1⟩
  · unfold World.cell?; rw [h1]; rfl
  · unfold World.cell?; rw [h1]; rfl
  · simp [World.frozen?, h1]
  · simp [World.frozen?, h1]
theorem Az.str {w : World} {g : Nat} {W : World} (h : Az w g ob W) {k : Nat} {s : List UInt8} (hs : opC[k]? = some (.string ⟨s.toArray⟩)) : W.cell? ⟨g, k, none⟩ = some (.string ⟨s.toArray⟩) ∧ g < W.heap.size := by
  have h1 : W.heap[g]? = some ob := h.at_
  refine ⟨?_, (Array.getElem?_eq_some_iff.1 h1).1⟩
  rw [cell_of_row W g k _ _ _ h1]; exact hs
def Fin (w : World) (i j n d : Int) (g : Nat) (W : World) : Prop := At w.heap.size (nb1 i 1) W ∧ At (w.heap.size + 1) (nb1 j 1) W ∧ At g (nb1 n d) W ∧ w.heap.size + 2 ≤ g ∧ Up w W
theorem fin_a {w : World} {i j n d : Int} {W : World} (h : Bd w i j W) : Fin w i j n d W.heap.size (W.alloc (nb1 n d)) := ⟨h.a7.alloc _, h.a8.alloc _, nhh W _, h.sz, Below.alloc h.up h.up.size _⟩
theorem fin_b {w : World} {i j n d : Int} {g : Nat} {W : World} (h : Bd w i j W) (hz : Az w g zb W) : Fin w i j n d g ((W.setCell ⟨g, 0, none⟩ (.int .i64 n)).setCell ⟨g, 1, none⟩ (.int .i64 d)) := by
  have hg := hz.ge
  have h1 : W.heap[g]? = some zb := hz.at_
  refine ⟨(h.a7.set (p := ⟨g, 0, none⟩) (by show g ≠ _; omega) _).set (p := ⟨g, 1, none⟩) (by show g ≠ _; omega) _, (h.a8.set (p := ⟨g, 0, none⟩) (by show g ≠ _; omega) _).set (p := ⟨g, 1, none⟩) (by show g ≠ _; omega) _, ?_, hg, ?_⟩
  · exact s2 (n := 0) (d := 0) h1 n d
  · exact (Below.setCell h.up (p := ⟨g, 0, none⟩) (by show _ ≤ g; omega) _).setCell (p := ⟨g, 1, none⟩) (by show _ ≤ g; omega) _
theorem EvUp (w : World) (ht : Tb w) (i j : Int) (s : ByteArray) (L : List UInt8) (h : s.data.toList = L) (n d x : Int) (hv : ev L = ⟨n, d, x⟩) (W : World) (hW : Bd w i j W) : Calls Tryz.prog 7 #[.string s] W fun e w' => e = .returned (.tuple #[.agg #[.int .i64 n, .int .i64 d], .int .i64 x]) ∧ Below W.heap.size W w' := by
  have h2 := Eval_any s W (ht.below hW.up)
  rw [h, hv] at h2
  exact h2
theorem RTruth_any (b : Bool) (w : World) : Calls Tryz.prog 18 #[.bool b] w fun e w' => e = .returned (.agg #[.int .i64 (tr b).n, .int .i64 (tr b).d]) ∧ Below w.heap.size w w' := by
  cases b
  · go_enter Tryz.func18, Tryz.ntmps18
    go_wp2
    exact bodyPost_ret (v := .agg #[.int .i64 0, .int .i64 1]) (by simp [results, Tryz.results18, go_sem]) rfl ⟨rfl, (Below.refl _ w).alloc (Nat.le_refl _) _⟩
  · go_enter Tryz.func18, Tryz.ntmps18
    go_wp2
    exact bodyPost_ret (v := .agg #[.int .i64 1, .int .i64 1]) (by simp [results, Tryz.results18, go_sem]) rfl ⟨rfl, (Below.refl _ w).alloc (Nat.le_refl _) _⟩
theorem op_pick {k : Nat} (h : k < 8) : ∃ p s, opQ[k]? = some p ∧ p ∈ opQ ∧ Hid (s = p.1.flatten) ∧ opC[k]? = some (.string ⟨s.toArray⟩) ∧ s.length ≤ 7 ∧
    ∀ h : k < 8, [Value.string ⟨#[43]⟩, .string ⟨#[45]⟩, .string ⟨#[42]⟩, .string ⟨#[47]⟩, .string ⟨#[32, 109, 111, 100, 32]⟩, .string ⟨#[61]⟩, .string ⟨#[60]⟩, .string ⟨#[62, 61]⟩][k]'h = .string ⟨s.toArray⟩ := by
  rcases (by omega : k = 0 ∨ k = 1 ∨ k = 2 ∨ k = 3 ∨ k = 4 ∨ k = 5 ∨ k = 6 ∨ k = 7) with rfl | rfl | rfl | rfl | rfl | rfl | rfl | rfl
  · exact ⟨([[43]], [43]), [43], rfl, by decide, Lib.hid rfl, rfl, by decide, fun _ => rfl⟩
  · exact ⟨([[45]], [45]), [45], rfl, by decide, Lib.hid rfl, rfl, by decide, fun _ => rfl⟩
  · exact ⟨([[42]], [42]), [42], rfl, by decide, Lib.hid rfl, rfl, by decide, fun _ => rfl⟩
  · exact ⟨([[47]], [47]), [47], rfl, by decide, Lib.hid rfl, rfl, by decide, fun _ => rfl⟩
  · exact ⟨([[32], [109, 111, 100], [32]], [109, 111, 100]), [32, 109, 111, 100, 32], rfl, by decide, Lib.hid rfl, rfl, by decide, fun _ => rfl⟩
  · exact ⟨([[61]], [61]), [61], rfl, by decide, Lib.hid rfl, rfl, by decide, fun _ => rfl⟩
  · exact ⟨([[60]], [60]), [60], rfl, by decide, Lib.hid rfl, rfl, by decide, fun _ => rfl⟩
  · exact ⟨([[62, 61]], [62, 61]), [62, 61], rfl, by decide, Lib.hid rfl, rfl, by decide, fun _ => rfl⟩
theorem op_text {i j : Int} (hi : i.natAbs ≤ 9999) (hj : j.natAbs ≤ 9999) {p : List (List UInt8) × Tok} (hp : p ∈ opQ) {s : List UInt8} (hs : s = p.1.flatten) {R : R3} (hR : ap2 p.2 ⟨i, 1, 0⟩ ⟨j, 1, 0⟩ = R) : ev (dg i ++ s ++ dg j) = R := by
  have h := (op_ev hi hj hp).1
  rw [List.flatten_append, List.flatten_append, ← dg_sg, ← dg_sg, ← hs, hR] at h
  exact h
theorem At.put {W : World} {g : Nat} {n d : Int} (h : At g (nb1 n d) W) (u v : Int) : At g (nb1 u v) ((W.setCell ⟨g, 0, none⟩ (.int .i64 u)).setCell ⟨g, 1, none⟩ (.int .i64 v)) := s2 (n := n) (d := d) h u v
theorem At.off {W : World} {g c : Nat} {n d : Int} (h : At g (nb1 n d) W) (hc : c ≠ g) (u v : Value) : At g (nb1 n d) ((W.setCell ⟨c, 0, none⟩ u).setCell ⟨c, 1, none⟩ v) := (h.set (p := ⟨c, 0, none⟩) hc _).set (p := ⟨c, 1, none⟩) hc _
set_option maxRecDepth 100000 in
set_option maxHeartbeats 8000000 in
theorem FormulaOperators_any (a b o : Int) (w : World) (ht : Tb w) : Calls Tryz.prog 5 #[.int .i64 a, .int .i64 b, .int .i64 o] w fun e w' => e = .returned (.bool true) ∧ Below w.heap.size w w' := by
  obtain ⟨i, hi⟩ : ∃ i, a.tmod 10000 = i := ⟨_, rfl⟩
  obtain ⟨j, hj⟩ : ∃ j, b.tmod 10000 = j := ⟨_, rfl⟩
  have hi2 : i.natAbs ≤ 9999 := by rw [← hi]; exact tmod_bd4 a
  have hj2 : j.natAbs ≤ 9999 := by rw [← hj]; exact tmod_bd4 b
  obtain ⟨o0, o7⟩ := and_7 o
  obtain ⟨k, hk⟩ : ∃ k : Nat, bits .and .i64 o 7 = (k : Int) := ⟨(bits .and .i64 o 7).toNat, by omega⟩
  rw [hk] at o0 o7
  have hk8 : k < 8 := by omega
  have hk8i : (k : Int) < 8 := by omega
  obtain ⟨p, s, hpk, hp, hps, hs, hs7, hsk⟩ := op_pick hk8
  obtain ⟨n, d, z, hR⟩ : ∃ n d z, ap2 p.2 ⟨i, 1, 0⟩ ⟨j, 1, 0⟩ = ⟨n, d, z⟩ := ⟨_, _, _, rfl⟩
  have hV : ev (dg i ++ s ++ dg j) = ⟨n, d, z⟩ := op_text hi2 hj2 hp hps.out hR
  have HP := Lib.hid hpk; have HR := Lib.hid hR
  clear hpk hR
  have HDi := Lib.hid (digitsM_any a)
  have HDj := Lib.hid (digitsM_any b)
  rw [hi] at HDi
  rw [hj] at HDj
  have hli := dg_len i hi2
  have hlj := dg_len j hj2
  have HV := Lib.hid hV
  have HT := Lib.hid ht
  clear hV ht
  generalize dg i = x at HV HDi hli
  generalize dg j = y at HV HDj hlj
  have HE := Lib.hid (EvUp w HT.out i j ((⟨x.toArray⟩ : ByteArray) ++ ⟨s.toArray⟩ ++ ⟨y.toArray⟩) (x ++ s ++ y) (by simp) _ _ _ HV.out)
  have rc1 : ∀ w, (Op.stringOp .add ⟨x.toArray⟩ ⟨s.toArray⟩).run Tryz.prog w = .ok (.string ((⟨x.toArray⟩ : ByteArray) ++ ⟨s.toArray⟩)) w := fun w => run_string_add_sum w _ _ (by rw [bsz, bsz]; show _ ≤ 9223372036854775807; omega)
  have rc2 : ∀ w, (Op.stringOp .add ((⟨x.toArray⟩ : ByteArray) ++ ⟨s.toArray⟩) ⟨y.toArray⟩).run Tryz.prog w = .ok (.string ((⟨x.toArray⟩ : ByteArray) ++ ⟨s.toArray⟩ ++ ⟨y.toArray⟩)) w := fun w => run_string_add_sum w _ _ (by rw [ByteArray.size_append, bsz, bsz, bsz]; show _ ≤ 9223372036854775807; omega)
  have n1 : ¬ 9223372036854775807 < x.length + s.length := by omega
  have n2 : ¬ 9223372036854775807 < x.length + s.length + y.length := by omega
  go_enter Tryz.func5, Tryz.ntmps5
  go_wp2_with fail
  have B0 : Bd w i j ((w.alloc (nb1 i 1)).alloc (nb1 j 1)) := Bd.first w i j
  unfold nb1 at B0
  generalize hW0 : (((w.alloc (.cells #[.int .i64 i, .int .i64 1] 24)).alloc (.cells #[.int .i64 j, .int .i64 1] 24))) = W0 at *
  go_upto_region 3 with fail
  go_cut [10, 11] from 24 to 36 (fun s10 s11 wx => s11 = .int .i64 z ∧ ∃ g, s10 = .pointer (some ⟨g, 0, none⟩) ∧ Hid (Fin w i j n d g wx))
  case first =>
    go_region_with (first
      | (go_at_call 11; (with_reducible refine (HDi.out _).mono ?_); rintro e w1 ⟨rfl, hb1⟩
         have B1 := Bd.call hb1 (by repeat (first | assumption | with_reducible apply Bd.alloc | with_reducible apply Bd.drew))
         (first | (with_reducible have z1 := Az.call hb1 (Az.new (i := i) (j := j) (by repeat (first | assumption | with_reducible apply Bd.alloc | with_reducible apply Bd.drew)) zb); (try simp only [World.size_alloc] at z1); obtain ⟨z1a, z1b, z1c, z1d, z1e⟩ := z1.cells) | (with_reducible have z1 := Az.call hb1 (Az.alloc (Az.new (i := i) (j := j) (by repeat (first | assumption | with_reducible apply Bd.alloc | with_reducible apply Bd.drew)) zb) ob); (try simp only [World.size_alloc] at z1); obtain ⟨z1a, z1b, z1c, z1d, z1e⟩ := z1.cells) | (with_reducible have z1 := Az.call hb1 (Az.drew (Az.new (i := i) (j := j) (by repeat (first | assumption | with_reducible apply Bd.alloc | with_reducible apply Bd.drew)) zb)); (try simp only [World.size_alloc] at z1); obtain ⟨z1a, z1b, z1c, z1d, z1e⟩ := z1.cells) | (with_reducible have z1 := Az.call hb1 (Az.drew (Az.alloc (Az.new (i := i) (j := j) (by repeat (first | assumption | with_reducible apply Bd.alloc | with_reducible apply Bd.drew)) zb) ob)); (try simp only [World.size_alloc] at z1); obtain ⟨z1a, z1b, z1c, z1d, z1e⟩ := z1.cells) | (with_reducible have z1 := Az.call hb1 (show Az w _ zb _ by assumption); (try simp only [World.size_alloc] at z1); obtain ⟨z1a, z1b, z1c, z1d, z1e⟩ := z1.cells) | (with_reducible have z1 := Az.call hb1 (Az.alloc (show Az w _ zb _ by assumption) ob); (try simp only [World.size_alloc] at z1); obtain ⟨z1a, z1b, z1c, z1d, z1e⟩ := z1.cells) | skip)
         (first | (with_reducible have y1 := Az.call hb1 (Az.new (i := i) (j := j) (by repeat (first | assumption | with_reducible apply Bd.alloc | with_reducible apply Bd.drew)) ob); (try simp only [World.size_alloc] at y1); obtain ⟨y1k, y1l⟩ := y1.str hs) | (with_reducible have y1 := Az.call hb1 (Az.alloc (Az.new (i := i) (j := j) (by repeat (first | assumption | with_reducible apply Bd.alloc | with_reducible apply Bd.drew)) ob) zb); (try simp only [World.size_alloc] at y1); obtain ⟨y1k, y1l⟩ := y1.str hs) | (with_reducible have y1 := Az.call hb1 (Az.drew (Az.new (i := i) (j := j) (by repeat (first | assumption | with_reducible apply Bd.alloc | with_reducible apply Bd.drew)) ob)); (try simp only [World.size_alloc] at y1); obtain ⟨y1k, y1l⟩ := y1.str hs) | (with_reducible have y1 := Az.call hb1 (Az.drew (Az.alloc (Az.new (i := i) (j := j) (by repeat (first | assumption | with_reducible apply Bd.alloc | with_reducible apply Bd.drew)) ob) zb)); (try simp only [World.size_alloc] at y1); obtain ⟨y1k, y1l⟩ := y1.str hs) | (with_reducible have y1 := Az.call hb1 (show Az w _ ob _ by assumption); (try simp only [World.size_alloc] at y1); obtain ⟨y1k, y1l⟩ := y1.str hs) | (with_reducible have y1 := Az.call hb1 (Az.alloc (show Az w _ ob _ by assumption) zb); (try simp only [World.size_alloc] at y1); obtain ⟨y1k, y1l⟩ := y1.str hs) | skip))
      | (go_at_call 11; (with_reducible refine (HDj.out _).mono ?_); rintro e w2 ⟨rfl, hb2⟩
         have B2 := Bd.call hb2 (by repeat (first | assumption | with_reducible apply Bd.alloc | with_reducible apply Bd.drew))
         (first | (with_reducible have z2 := Az.call hb2 (Az.new (i := i) (j := j) (by repeat (first | assumption | with_reducible apply Bd.alloc | with_reducible apply Bd.drew)) zb); (try simp only [World.size_alloc] at z2); obtain ⟨z2a, z2b, z2c, z2d, z2e⟩ := z2.cells) | (with_reducible have z2 := Az.call hb2 (Az.alloc (Az.new (i := i) (j := j) (by repeat (first | assumption | with_reducible apply Bd.alloc | with_reducible apply Bd.drew)) zb) ob); (try simp only [World.size_alloc] at z2); obtain ⟨z2a, z2b, z2c, z2d, z2e⟩ := z2.cells) | (with_reducible have z2 := Az.call hb2 (Az.drew (Az.new (i := i) (j := j) (by repeat (first | assumption | with_reducible apply Bd.alloc | with_reducible apply Bd.drew)) zb)); (try simp only [World.size_alloc] at z2); obtain ⟨z2a, z2b, z2c, z2d, z2e⟩ := z2.cells) | (with_reducible have z2 := Az.call hb2 (Az.drew (Az.alloc (Az.new (i := i) (j := j) (by repeat (first | assumption | with_reducible apply Bd.alloc | with_reducible apply Bd.drew)) zb) ob)); (try simp only [World.size_alloc] at z2); obtain ⟨z2a, z2b, z2c, z2d, z2e⟩ := z2.cells) | (with_reducible have z2 := Az.call hb2 (show Az w _ zb _ by assumption); (try simp only [World.size_alloc] at z2); obtain ⟨z2a, z2b, z2c, z2d, z2e⟩ := z2.cells) | (with_reducible have z2 := Az.call hb2 (Az.alloc (show Az w _ zb _ by assumption) ob); (try simp only [World.size_alloc] at z2); obtain ⟨z2a, z2b, z2c, z2d, z2e⟩ := z2.cells) | skip)
         (first | (with_reducible have y2 := Az.call hb2 (Az.new (i := i) (j := j) (by repeat (first | assumption | with_reducible apply Bd.alloc | with_reducible apply Bd.drew)) ob); (try simp only [World.size_alloc] at y2); obtain ⟨y2k, y2l⟩ := y2.str hs) | (with_reducible have y2 := Az.call hb2 (Az.alloc (Az.new (i := i) (j := j) (by repeat (first | assumption | with_reducible apply Bd.alloc | with_reducible apply Bd.drew)) ob) zb); (try simp only [World.size_alloc] at y2); obtain ⟨y2k, y2l⟩ := y2.str hs) | (with_reducible have y2 := Az.call hb2 (Az.drew (Az.new (i := i) (j := j) (by repeat (first | assumption | with_reducible apply Bd.alloc | with_reducible apply Bd.drew)) ob)); (try simp only [World.size_alloc] at y2); obtain ⟨y2k, y2l⟩ := y2.str hs) | (with_reducible have y2 := Az.call hb2 (Az.drew (Az.alloc (Az.new (i := i) (j := j) (by repeat (first | assumption | with_reducible apply Bd.alloc | with_reducible apply Bd.drew)) ob) zb)); (try simp only [World.size_alloc] at y2); obtain ⟨y2k, y2l⟩ := y2.str hs) | (with_reducible have y2 := Az.call hb2 (show Az w _ ob _ by assumption); (try simp only [World.size_alloc] at y2); obtain ⟨y2k, y2l⟩ := y2.str hs) | (with_reducible have y2 := Az.call hb2 (Az.alloc (show Az w _ ob _ by assumption) zb); (try simp only [World.size_alloc] at y2); obtain ⟨y2k, y2l⟩ := y2.str hs) | skip))
      | (go_at_call 7; (with_reducible refine (HE.out _ (by repeat (first | assumption | with_reducible apply Bd.alloc | with_reducible apply Bd.drew))).mono ?_); rintro e w3 ⟨rfl, hb3⟩
         have B3 := Bd.call hb3 (by repeat (first | assumption | with_reducible apply Bd.alloc | with_reducible apply Bd.drew))
         (first | (with_reducible have z3 := Az.call hb3 (Az.new (i := i) (j := j) (by repeat (first | assumption | with_reducible apply Bd.alloc | with_reducible apply Bd.drew)) zb); (try simp only [World.size_alloc] at z3); obtain ⟨z3a, z3b, z3c, z3d, z3e⟩ := z3.cells) | (with_reducible have z3 := Az.call hb3 (Az.alloc (Az.new (i := i) (j := j) (by repeat (first | assumption | with_reducible apply Bd.alloc | with_reducible apply Bd.drew)) zb) ob); (try simp only [World.size_alloc] at z3); obtain ⟨z3a, z3b, z3c, z3d, z3e⟩ := z3.cells) | (with_reducible have z3 := Az.call hb3 (Az.drew (Az.new (i := i) (j := j) (by repeat (first | assumption | with_reducible apply Bd.alloc | with_reducible apply Bd.drew)) zb)); (try simp only [World.size_alloc] at z3); obtain ⟨z3a, z3b, z3c, z3d, z3e⟩ := z3.cells) | (with_reducible have z3 := Az.call hb3 (Az.drew (Az.alloc (Az.new (i := i) (j := j) (by repeat (first | assumption | with_reducible apply Bd.alloc | with_reducible apply Bd.drew)) zb) ob)); (try simp only [World.size_alloc] at z3); obtain ⟨z3a, z3b, z3c, z3d, z3e⟩ := z3.cells) | (with_reducible have z3 := Az.call hb3 (show Az w _ zb _ by assumption); (try simp only [World.size_alloc] at z3); obtain ⟨z3a, z3b, z3c, z3d, z3e⟩ := z3.cells) | (with_reducible have z3 := Az.call hb3 (Az.alloc (show Az w _ zb _ by assumption) ob); (try simp only [World.size_alloc] at z3); obtain ⟨z3a, z3b, z3c, z3d, z3e⟩ := z3.cells) | skip)
         (first | (with_reducible have y3 := Az.call hb3 (Az.new (i := i) (j := j) (by repeat (first | assumption | with_reducible apply Bd.alloc | with_reducible apply Bd.drew)) ob); (try simp only [World.size_alloc] at y3); obtain ⟨y3k, y3l⟩ := y3.str hs) | (with_reducible have y3 := Az.call hb3 (Az.alloc (Az.new (i := i) (j := j) (by repeat (first | assumption | with_reducible apply Bd.alloc | with_reducible apply Bd.drew)) ob) zb); (try simp only [World.size_alloc] at y3); obtain ⟨y3k, y3l⟩ := y3.str hs) | (with_reducible have y3 := Az.call hb3 (Az.drew (Az.new (i := i) (j := j) (by repeat (first | assumption | with_reducible apply Bd.alloc | with_reducible apply Bd.drew)) ob)); (try simp only [World.size_alloc] at y3); obtain ⟨y3k, y3l⟩ := y3.str hs) | (with_reducible have y3 := Az.call hb3 (Az.drew (Az.alloc (Az.new (i := i) (j := j) (by repeat (first | assumption | with_reducible apply Bd.alloc | with_reducible apply Bd.drew)) ob) zb)); (try simp only [World.size_alloc] at y3); obtain ⟨y3k, y3l⟩ := y3.str hs) | (with_reducible have y3 := Az.call hb3 (show Az w _ ob _ by assumption); (try simp only [World.size_alloc] at y3); obtain ⟨y3k, y3l⟩ := y3.str hs) | (with_reducible have y3 := Az.call hb3 (Az.alloc (show Az w _ ob _ by assumption) zb); (try simp only [World.size_alloc] at y3); obtain ⟨y3k, y3l⟩ := y3.str hs) | skip)))
    all_goals
      go_wp2_with fail
      go_meet
      first
        | exact ⟨rfl, _, rfl, Lib.hid (fin_a (by repeat (first | assumption | with_reducible apply Bd.alloc | with_reducible apply Bd.drew)))⟩
        | exact ⟨rfl, _, rfl, Lib.hid (fin_b (by repeat (first | assumption | with_reducible apply Bd.alloc | with_reducible apply Bd.drew)) (by assumption))⟩
  case rest =>
  obtain ⟨rfl, g, rfl, HF⟩ := hcut
  obtain ⟨h7, h8, hg, hge, hup⟩ := HF.out
  clear HF
  have HA := Lib.hid (And.intro h7 (And.intro h8 (And.intro hg hup)))
  have C7 := h7.n2; have C8 := h8.n2
  have c70 := C7.c0; have c71 := C7.c1; have c80 := C8.c0; have c81 := C8.c1; have c7l := C7.lt; have c8l := C8.lt
  have HC := Lib.hid (RCompare_any i 1 j 1)
  obtain ⟨c, hc⟩ : ∃ c, cmp i 1 j 1 = c := ⟨_, rfl⟩
  rw [hc] at HC
  have HCc := Lib.hid hc
  clear C7 C8 h7 h8 hg hup hc B0 hW0 HE rc1 rc2 n1 n2 HDi HDj HV hsk hs hs7 hps hp
  go_wp2_with fail
  (with_reducible refine (HC.out _).mono ?_)
  rintro e w4 ⟨rfl, hb4⟩
  have D7 := (HA.out.1.call hb4).alloc (nb1 0 0)
  have D8 := (HA.out.2.1.call hb4).alloc (nb1 0 0)
  have Dg := (HA.out.2.2.1.call hb4).alloc (nb1 0 0)
  have Dm : At w4.heap.size (nb1 0 0) (w4.alloc (nb1 0 0)) := nhh _ _
  have hu4 : Up w (w4.alloc (nb1 0 0)) := Below.alloc (Below.trans HA.out.2.2.2 (hb4.mono HA.out.2.2.2.size)) (Nat.le_trans HA.out.2.2.2.size hb4.size) _
  have hgl : g < w4.heap.size := (HA.out.2.2.1.call hb4).n2.lt
  have h7l : w.heap.size < w4.heap.size := (HA.out.1.call hb4).n2.lt
  have h8l : w.heap.size + 1 < w4.heap.size := (HA.out.2.1.call hb4).n2.lt
  have HD := Lib.hid (And.intro D7 (And.intro D8 (And.intro Dg (And.intro Dm hu4))))
  obtain ⟨e70, e71, _, _, e7l⟩ := D7.n2
  obtain ⟨e80, e81, _, _, e8l⟩ := D8.n2
  clear hb4 c70 c71 c80 c81 c7l c8l D7 D8 Dg Dm hu4 HA HC
  unfold nb1 at HD e70 e71 e80 e81 e7l e8l
  have eqr := eq_num
  rcases (by omega : k = 0 ∨ k = 1 ∨ k = 2 ∨ k = 3 ∨ k = 4 ∨ k = 5 ∨ k = 6 ∨ k = 7) with rfl | rfl | rfl | rfl | rfl | rfl | rfl | rfl
  · have hp : p = ([[43]], [43]) := (Option.some.inj HP.out).symm
    subst hp
    have hr : add i 1 j 1 = ⟨n, d, z⟩ := HR.out
    have CR := Lib.hid (RAdd_any i 1 j 1)
    rw [hr] at CR
    have HRR := Lib.hid hr
    clear hr
    go_wp2_with fail
    (with_reducible refine (CR.out _).mono ?_)
    rintro e w5 ⟨rfl, hb5⟩
    have Dm := HD.out.2.2.2.1.call hb5
    obtain ⟨m0, m1, m2, m3, m4⟩ := (show At w4.heap.size (nb1 0 0) w5 from Dm).n2
    have Dg := (show At g (nb1 n d) w5 from HD.out.2.2.1.call hb5).off (c := w4.heap.size) (by omega) (.int .i64 n) (.int .i64 d)
    have Dn := (show At w4.heap.size (nb1 0 0) w5 from Dm).put n d
    have hu5 : Up w ((w5.setCell ⟨w4.heap.size, 0, none⟩ (.int .i64 n)).setCell ⟨w4.heap.size, 1, none⟩ (.int .i64 d)) := (Below.setCell (Below.trans HD.out.2.2.2.2 (hb5.mono HD.out.2.2.2.2.size)) (p := ⟨w4.heap.size, 0, none⟩) (by show _ ≤ w4.heap.size; omega) _).setCell (p := ⟨w4.heap.size, 1, none⟩) (by show _ ≤ w4.heap.size; omega) _
    obtain ⟨q0, q1, _, _, q4⟩ := Dg.n2
    obtain ⟨r0, r1, _, _, r4⟩ := Dn.n2
    have he : eqN n d n d = true := by simp [eqN]
    have HK := Lib.hid (known_any _ (HT.out.below hu5))
    have HU := Lib.hid hu5
    clear hb5 Dm Dg Dn hu5 e70 e71 e80 e81 e7l e8l
    go_wp2_with fail
    (with_reducible refine HK.out.mono ?_)
    rintro e w6 ⟨rfl, hb6⟩
    go_wp2
    go_ret
    exact ⟨rfl, Below.trans HU.out (hb6.mono HU.out.size)⟩
  · have hp : p = ([[45]], [45]) := (Option.some.inj HP.out).symm
    subst hp
    have hr : sub i 1 j 1 = ⟨n, d, z⟩ := HR.out
    have CR := Lib.hid (RSub_any i 1 j 1)
    rw [hr] at CR
    have HRR := Lib.hid hr
    clear hr
    go_wp2_with fail
    (with_reducible refine (CR.out _).mono ?_)
    rintro e w5 ⟨rfl, hb5⟩
    have Dm := HD.out.2.2.2.1.call hb5
    obtain ⟨m0, m1, m2, m3, m4⟩ := (show At w4.heap.size (nb1 0 0) w5 from Dm).n2
    have Dg := (show At g (nb1 n d) w5 from HD.out.2.2.1.call hb5).off (c := w4.heap.size) (by omega) (.int .i64 n) (.int .i64 d)
    have Dn := (show At w4.heap.size (nb1 0 0) w5 from Dm).put n d
    have hu5 : Up w ((w5.setCell ⟨w4.heap.size, 0, none⟩ (.int .i64 n)).setCell ⟨w4.heap.size, 1, none⟩ (.int .i64 d)) := (Below.setCell (Below.trans HD.out.2.2.2.2 (hb5.mono HD.out.2.2.2.2.size)) (p := ⟨w4.heap.size, 0, none⟩) (by show _ ≤ w4.heap.size; omega) _).setCell (p := ⟨w4.heap.size, 1, none⟩) (by show _ ≤ w4.heap.size; omega) _
    obtain ⟨q0, q1, _, _, q4⟩ := Dg.n2
    obtain ⟨r0, r1, _, _, r4⟩ := Dn.n2
    have he : eqN n d n d = true := by simp [eqN]
    have HK := Lib.hid (known_any _ (HT.out.below hu5))
    have HU := Lib.hid hu5
    clear hb5 Dm Dg Dn hu5 e70 e71 e80 e81 e7l e8l
    go_wp2_with fail
    (with_reducible refine HK.out.mono ?_)
    rintro e w6 ⟨rfl, hb6⟩
    go_wp2
    go_ret
    exact ⟨rfl, Below.trans HU.out (hb6.mono HU.out.size)⟩
  · have hp : p = ([[42]], [42]) := (Option.some.inj HP.out).symm
    subst hp
    have hr : mul i 1 j 1 = ⟨n, d, z⟩ := HR.out
    have CR := Lib.hid (RMul_any i 1 j 1)
    rw [hr] at CR
    have HRR := Lib.hid hr
    clear hr
    go_wp2_with fail
    (with_reducible refine (CR.out _).mono ?_)
    rintro e w5 ⟨rfl, hb5⟩
    have Dm := HD.out.2.2.2.1.call hb5
    obtain ⟨m0, m1, m2, m3, m4⟩ := (show At w4.heap.size (nb1 0 0) w5 from Dm).n2
    have Dg := (show At g (nb1 n d) w5 from HD.out.2.2.1.call hb5).off (c := w4.heap.size) (by omega) (.int .i64 n) (.int .i64 d)
    have Dn := (show At w4.heap.size (nb1 0 0) w5 from Dm).put n d
    have hu5 : Up w ((w5.setCell ⟨w4.heap.size, 0, none⟩ (.int .i64 n)).setCell ⟨w4.heap.size, 1, none⟩ (.int .i64 d)) := (Below.setCell (Below.trans HD.out.2.2.2.2 (hb5.mono HD.out.2.2.2.2.size)) (p := ⟨w4.heap.size, 0, none⟩) (by show _ ≤ w4.heap.size; omega) _).setCell (p := ⟨w4.heap.size, 1, none⟩) (by show _ ≤ w4.heap.size; omega) _
    obtain ⟨q0, q1, _, _, q4⟩ := Dg.n2
    obtain ⟨r0, r1, _, _, r4⟩ := Dn.n2
    have he : eqN n d n d = true := by simp [eqN]
    have HK := Lib.hid (known_any _ (HT.out.below hu5))
    have HU := Lib.hid hu5
    clear hb5 Dm Dg Dn hu5 e70 e71 e80 e81 e7l e8l
    go_wp2_with fail
    (with_reducible refine HK.out.mono ?_)
    rintro e w6 ⟨rfl, hb6⟩
    go_wp2
    go_ret
    exact ⟨rfl, Below.trans HU.out (hb6.mono HU.out.size)⟩
  · have hp : p = ([[47]], [47]) := (Option.some.inj HP.out).symm
    subst hp
    have hr : div i 1 j 1 = ⟨n, d, z⟩ := HR.out
    have CR := Lib.hid (RDiv_any i 1 j 1)
    rw [hr] at CR
    have HRR := Lib.hid hr
    clear hr
    go_wp2_with fail
    (with_reducible refine (CR.out _).mono ?_)
    rintro e w5 ⟨rfl, hb5⟩
    have Dm := HD.out.2.2.2.1.call hb5
    obtain ⟨m0, m1, m2, m3, m4⟩ := (show At w4.heap.size (nb1 0 0) w5 from Dm).n2
    have Dg := (show At g (nb1 n d) w5 from HD.out.2.2.1.call hb5).off (c := w4.heap.size) (by omega) (.int .i64 n) (.int .i64 d)
    have Dn := (show At w4.heap.size (nb1 0 0) w5 from Dm).put n d
    have hu5 : Up w ((w5.setCell ⟨w4.heap.size, 0, none⟩ (.int .i64 n)).setCell ⟨w4.heap.size, 1, none⟩ (.int .i64 d)) := (Below.setCell (Below.trans HD.out.2.2.2.2 (hb5.mono HD.out.2.2.2.2.size)) (p := ⟨w4.heap.size, 0, none⟩) (by show _ ≤ w4.heap.size; omega) _).setCell (p := ⟨w4.heap.size, 1, none⟩) (by show _ ≤ w4.heap.size; omega) _
    obtain ⟨q0, q1, _, _, q4⟩ := Dg.n2
    obtain ⟨r0, r1, _, _, r4⟩ := Dn.n2
    have he : eqN n d n d = true := by simp [eqN]
    have HK := Lib.hid (known_any _ (HT.out.below hu5))
    have HU := Lib.hid hu5
    clear hb5 Dm Dg Dn hu5 e70 e71 e80 e81 e7l e8l
    go_wp2_with fail
    (with_reducible refine HK.out.mono ?_)
    rintro e w6 ⟨rfl, hb6⟩
    go_wp2
    go_ret
    exact ⟨rfl, Below.trans HU.out (hb6.mono HU.out.size)⟩
  · have hp : p = ([[32], [109, 111, 100], [32]], [109, 111, 100]) := (Option.some.inj HP.out).symm
    subst hp
    have hr : mod i 1 j 1 = ⟨n, d, z⟩ := HR.out
    have CR := Lib.hid (RMod_any i 1 j 1)
    rw [hr] at CR
    have HRR := Lib.hid hr
    clear hr
    go_wp2_with fail
    (with_reducible refine (CR.out _).mono ?_)
    rintro e w5 ⟨rfl, hb5⟩
    have Dm := HD.out.2.2.2.1.call hb5
    obtain ⟨m0, m1, m2, m3, m4⟩ := (show At w4.heap.size (nb1 0 0) w5 from Dm).n2
    have Dg := (show At g (nb1 n d) w5 from HD.out.2.2.1.call hb5).off (c := w4.heap.size) (by omega) (.int .i64 n) (.int .i64 d)
    have Dn := (show At w4.heap.size (nb1 0 0) w5 from Dm).put n d
    have hu5 : Up w ((w5.setCell ⟨w4.heap.size, 0, none⟩ (.int .i64 n)).setCell ⟨w4.heap.size, 1, none⟩ (.int .i64 d)) := (Below.setCell (Below.trans HD.out.2.2.2.2 (hb5.mono HD.out.2.2.2.2.size)) (p := ⟨w4.heap.size, 0, none⟩) (by show _ ≤ w4.heap.size; omega) _).setCell (p := ⟨w4.heap.size, 1, none⟩) (by show _ ≤ w4.heap.size; omega) _
    obtain ⟨q0, q1, _, _, q4⟩ := Dg.n2
    obtain ⟨r0, r1, _, _, r4⟩ := Dn.n2
    have he : eqN n d n d = true := by simp [eqN]
    have HK := Lib.hid (known_any _ (HT.out.below hu5))
    have HU := Lib.hid hu5
    clear hb5 Dm Dg Dn hu5 e70 e71 e80 e81 e7l e8l
    go_wp2_with fail
    (with_reducible refine HK.out.mono ?_)
    rintro e w6 ⟨rfl, hb6⟩
    go_wp2
    go_ret
    exact ⟨rfl, Below.trans HU.out (hb6.mono HU.out.size)⟩
  · have hp : p = ([[61]], [61]) := (Option.some.inj HP.out).symm
    subst hp
    have hr : tr (holdsB [61] (cmp i 1 j 1)) = ⟨n, d, z⟩ := HR.out
    rw [HCc.out] at hr
    by_cases hcc : c = 0
    · have hh : holdsB [61] c = true := by simp [holdsB, hcc]
      rw [hh] at hr
      obtain ⟨rfl, rfl, rfl⟩ : n = 1 ∧ d = 1 ∧ z = 0 := by simpa [tr, eq_comm] using hr
      have hd : (c == 0) = true := by simpa using hcc
      have CR : Hid (∀ w : World, Calls Tryz.prog 18 #[.bool true] w fun e w' => e = .returned (.agg #[.int .i64 1, .int .i64 1]) ∧ Below w.heap.size w w') := Lib.hid (RTruth_any true)
      clear hr hh
      go_wp2_with fail
      (with_reducible refine (CR.out _).mono ?_)
      rintro e w5 ⟨rfl, hb5⟩
      have Dm := HD.out.2.2.2.1.call hb5
      obtain ⟨m0, m1, m2, m3, m4⟩ := (show At w4.heap.size (nb1 0 0) w5 from Dm).n2
      have Dg := (show At g (nb1 1 1) w5 from HD.out.2.2.1.call hb5).off (c := w4.heap.size) (by omega) (.int .i64 1) (.int .i64 1)
      have Dn := (show At w4.heap.size (nb1 0 0) w5 from Dm).put 1 1
      have hu5 : Up w ((w5.setCell ⟨w4.heap.size, 0, none⟩ (.int .i64 1)).setCell ⟨w4.heap.size, 1, none⟩ (.int .i64 1)) := (Below.setCell (Below.trans HD.out.2.2.2.2 (hb5.mono HD.out.2.2.2.2.size)) (p := ⟨w4.heap.size, 0, none⟩) (by show _ ≤ w4.heap.size; omega) _).setCell (p := ⟨w4.heap.size, 1, none⟩) (by show _ ≤ w4.heap.size; omega) _
      obtain ⟨q0, q1, _, _, q4⟩ := Dg.n2
      obtain ⟨r0, r1, _, _, r4⟩ := Dn.n2
      have he : eqN 1 1 1 1 = true := by simp [eqN]
      have HK := Lib.hid (known_any _ (HT.out.below hu5))
      have HU := Lib.hid hu5
      clear hb5 Dm Dg Dn hu5 e70 e71 e80 e81 e7l e8l hcc
      go_wp2_with fail
      (with_reducible refine HK.out.mono ?_)
      rintro e w6 ⟨rfl, hb6⟩
      go_wp2
      go_ret
      exact ⟨rfl, Below.trans HU.out (hb6.mono HU.out.size)⟩
    · have hh : holdsB [61] c = false := by simp [holdsB, hcc]
      rw [hh] at hr
      obtain ⟨rfl, rfl, rfl⟩ : n = 0 ∧ d = 1 ∧ z = 0 := by simpa [tr, eq_comm] using hr
      have hd : (c == 0) = false := by simpa using hcc
      have CR : Hid (∀ w : World, Calls Tryz.prog 18 #[.bool false] w fun e w' => e = .returned (.agg #[.int .i64 0, .int .i64 1]) ∧ Below w.heap.size w w') := Lib.hid (RTruth_any false)
      clear hr hh
      go_wp2_with fail
      (with_reducible refine (CR.out _).mono ?_)
      rintro e w5 ⟨rfl, hb5⟩
      have Dm := HD.out.2.2.2.1.call hb5
      obtain ⟨m0, m1, m2, m3, m4⟩ := (show At w4.heap.size (nb1 0 0) w5 from Dm).n2
      have Dg := (show At g (nb1 0 1) w5 from HD.out.2.2.1.call hb5).off (c := w4.heap.size) (by omega) (.int .i64 0) (.int .i64 1)
      have Dn := (show At w4.heap.size (nb1 0 0) w5 from Dm).put 0 1
      have hu5 : Up w ((w5.setCell ⟨w4.heap.size, 0, none⟩ (.int .i64 0)).setCell ⟨w4.heap.size, 1, none⟩ (.int .i64 1)) := (Below.setCell (Below.trans HD.out.2.2.2.2 (hb5.mono HD.out.2.2.2.2.size)) (p := ⟨w4.heap.size, 0, none⟩) (by show _ ≤ w4.heap.size; omega) _).setCell (p := ⟨w4.heap.size, 1, none⟩) (by show _ ≤ w4.heap.size; omega) _
      obtain ⟨q0, q1, _, _, q4⟩ := Dg.n2
      obtain ⟨r0, r1, _, _, r4⟩ := Dn.n2
      have he : eqN 0 1 0 1 = true := by simp [eqN]
      have HK := Lib.hid (known_any _ (HT.out.below hu5))
      have HU := Lib.hid hu5
      clear hb5 Dm Dg Dn hu5 e70 e71 e80 e81 e7l e8l hcc
      go_wp2_with fail
      (with_reducible refine HK.out.mono ?_)
      rintro e w6 ⟨rfl, hb6⟩
      go_wp2
      go_ret
      exact ⟨rfl, Below.trans HU.out (hb6.mono HU.out.size)⟩
  · have hp : p = ([[60]], [60]) := (Option.some.inj HP.out).symm
    subst hp
    have hr : tr (holdsB [60] (cmp i 1 j 1)) = ⟨n, d, z⟩ := HR.out
    rw [HCc.out] at hr
    by_cases hcc : c < 0
    · have hh : holdsB [60] c = true := by simp [holdsB, hcc]
      rw [hh] at hr
      obtain ⟨rfl, rfl, rfl⟩ : n = 1 ∧ d = 1 ∧ z = 0 := by simpa [tr, eq_comm] using hr
      have hd : decide (c < 0) = true := decide_eq_true hcc
      have CR : Hid (∀ w : World, Calls Tryz.prog 18 #[.bool true] w fun e w' => e = .returned (.agg #[.int .i64 1, .int .i64 1]) ∧ Below w.heap.size w w') := Lib.hid (RTruth_any true)
      clear hr hh
      go_wp2_with fail
      (with_reducible refine (CR.out _).mono ?_)
      rintro e w5 ⟨rfl, hb5⟩
      have Dm := HD.out.2.2.2.1.call hb5
      obtain ⟨m0, m1, m2, m3, m4⟩ := (show At w4.heap.size (nb1 0 0) w5 from Dm).n2
      have Dg := (show At g (nb1 1 1) w5 from HD.out.2.2.1.call hb5).off (c := w4.heap.size) (by omega) (.int .i64 1) (.int .i64 1)
      have Dn := (show At w4.heap.size (nb1 0 0) w5 from Dm).put 1 1
      have hu5 : Up w ((w5.setCell ⟨w4.heap.size, 0, none⟩ (.int .i64 1)).setCell ⟨w4.heap.size, 1, none⟩ (.int .i64 1)) := (Below.setCell (Below.trans HD.out.2.2.2.2 (hb5.mono HD.out.2.2.2.2.size)) (p := ⟨w4.heap.size, 0, none⟩) (by show _ ≤ w4.heap.size; omega) _).setCell (p := ⟨w4.heap.size, 1, none⟩) (by show _ ≤ w4.heap.size; omega) _
      obtain ⟨q0, q1, _, _, q4⟩ := Dg.n2
      obtain ⟨r0, r1, _, _, r4⟩ := Dn.n2
      have he : eqN 1 1 1 1 = true := by simp [eqN]
      have HK := Lib.hid (known_any _ (HT.out.below hu5))
      have HU := Lib.hid hu5
      clear hb5 Dm Dg Dn hu5 e70 e71 e80 e81 e7l e8l hcc
      go_wp2_with fail
      (with_reducible refine HK.out.mono ?_)
      rintro e w6 ⟨rfl, hb6⟩
      go_wp2
      go_ret
      exact ⟨rfl, Below.trans HU.out (hb6.mono HU.out.size)⟩
    · have hh : holdsB [60] c = false := by simp [holdsB]; omega
      rw [hh] at hr
      obtain ⟨rfl, rfl, rfl⟩ : n = 0 ∧ d = 1 ∧ z = 0 := by simpa [tr, eq_comm] using hr
      have hd : decide (c < 0) = false := decide_eq_false hcc
      have CR : Hid (∀ w : World, Calls Tryz.prog 18 #[.bool false] w fun e w' => e = .returned (.agg #[.int .i64 0, .int .i64 1]) ∧ Below w.heap.size w w') := Lib.hid (RTruth_any false)
      clear hr hh
      go_wp2_with fail
      (with_reducible refine (CR.out _).mono ?_)
      rintro e w5 ⟨rfl, hb5⟩
      have Dm := HD.out.2.2.2.1.call hb5
      obtain ⟨m0, m1, m2, m3, m4⟩ := (show At w4.heap.size (nb1 0 0) w5 from Dm).n2
      have Dg := (show At g (nb1 0 1) w5 from HD.out.2.2.1.call hb5).off (c := w4.heap.size) (by omega) (.int .i64 0) (.int .i64 1)
      have Dn := (show At w4.heap.size (nb1 0 0) w5 from Dm).put 0 1
      have hu5 : Up w ((w5.setCell ⟨w4.heap.size, 0, none⟩ (.int .i64 0)).setCell ⟨w4.heap.size, 1, none⟩ (.int .i64 1)) := (Below.setCell (Below.trans HD.out.2.2.2.2 (hb5.mono HD.out.2.2.2.2.size)) (p := ⟨w4.heap.size, 0, none⟩) (by show _ ≤ w4.heap.size; omega) _).setCell (p := ⟨w4.heap.size, 1, none⟩) (by show _ ≤ w4.heap.size; omega) _
      obtain ⟨q0, q1, _, _, q4⟩ := Dg.n2
      obtain ⟨r0, r1, _, _, r4⟩ := Dn.n2
      have he : eqN 0 1 0 1 = true := by simp [eqN]
      have HK := Lib.hid (known_any _ (HT.out.below hu5))
      have HU := Lib.hid hu5
      clear hb5 Dm Dg Dn hu5 e70 e71 e80 e81 e7l e8l hcc
      go_wp2_with fail
      (with_reducible refine HK.out.mono ?_)
      rintro e w6 ⟨rfl, hb6⟩
      go_wp2
      go_ret
      exact ⟨rfl, Below.trans HU.out (hb6.mono HU.out.size)⟩
  · have hp : p = ([[62, 61]], [62, 61]) := (Option.some.inj HP.out).symm
    subst hp
    have hr : tr (holdsB [62, 61] (cmp i 1 j 1)) = ⟨n, d, z⟩ := HR.out
    rw [HCc.out] at hr
    by_cases hcc : 0 ≤ c
    · have hh : holdsB [62, 61] c = true := by simp [holdsB, hcc]
      rw [hh] at hr
      obtain ⟨rfl, rfl, rfl⟩ : n = 1 ∧ d = 1 ∧ z = 0 := by simpa [tr, eq_comm] using hr
      have hd : decide (c ≥ 0) = true := decide_eq_true hcc
      have CR : Hid (∀ w : World, Calls Tryz.prog 18 #[.bool true] w fun e w' => e = .returned (.agg #[.int .i64 1, .int .i64 1]) ∧ Below w.heap.size w w') := Lib.hid (RTruth_any true)
      clear hr hh
      go_wp2_with fail
      (with_reducible refine (CR.out _).mono ?_)
      rintro e w5 ⟨rfl, hb5⟩
      have Dm := HD.out.2.2.2.1.call hb5
      obtain ⟨m0, m1, m2, m3, m4⟩ := (show At w4.heap.size (nb1 0 0) w5 from Dm).n2
      have Dg := (show At g (nb1 1 1) w5 from HD.out.2.2.1.call hb5).off (c := w4.heap.size) (by omega) (.int .i64 1) (.int .i64 1)
      have Dn := (show At w4.heap.size (nb1 0 0) w5 from Dm).put 1 1
      have hu5 : Up w ((w5.setCell ⟨w4.heap.size, 0, none⟩ (.int .i64 1)).setCell ⟨w4.heap.size, 1, none⟩ (.int .i64 1)) := (Below.setCell (Below.trans HD.out.2.2.2.2 (hb5.mono HD.out.2.2.2.2.size)) (p := ⟨w4.heap.size, 0, none⟩) (by show _ ≤ w4.heap.size; omega) _).setCell (p := ⟨w4.heap.size, 1, none⟩) (by show _ ≤ w4.heap.size; omega) _
      obtain ⟨q0, q1, _, _, q4⟩ := Dg.n2
      obtain ⟨r0, r1, _, _, r4⟩ := Dn.n2
      have he : eqN 1 1 1 1 = true := by simp [eqN]
      have HK := Lib.hid (known_any _ (HT.out.below hu5))
      have HU := Lib.hid hu5
      clear hb5 Dm Dg Dn hu5 e70 e71 e80 e81 e7l e8l hcc
      go_wp2_with fail
      (with_reducible refine HK.out.mono ?_)
      rintro e w6 ⟨rfl, hb6⟩
      go_wp2
      go_ret
      exact ⟨rfl, Below.trans HU.out (hb6.mono HU.out.size)⟩
    · have hh : holdsB [62, 61] c = false := by simp [holdsB]; omega
      rw [hh] at hr
      obtain ⟨rfl, rfl, rfl⟩ : n = 0 ∧ d = 1 ∧ z = 0 := by simpa [tr, eq_comm] using hr
      have hd : decide (c ≥ 0) = false := decide_eq_false hcc
      have CR : Hid (∀ w : World, Calls Tryz.prog 18 #[.bool false] w fun e w' => e = .returned (.agg #[.int .i64 0, .int .i64 1]) ∧ Below w.heap.size w w') := Lib.hid (RTruth_any false)
      clear hr hh
      go_wp2_with fail
      (with_reducible refine (CR.out _).mono ?_)
      rintro e w5 ⟨rfl, hb5⟩
      have Dm := HD.out.2.2.2.1.call hb5
      obtain ⟨m0, m1, m2, m3, m4⟩ := (show At w4.heap.size (nb1 0 0) w5 from Dm).n2
      have Dg := (show At g (nb1 0 1) w5 from HD.out.2.2.1.call hb5).off (c := w4.heap.size) (by omega) (.int .i64 0) (.int .i64 1)
      have Dn := (show At w4.heap.size (nb1 0 0) w5 from Dm).put 0 1
      have hu5 : Up w ((w5.setCell ⟨w4.heap.size, 0, none⟩ (.int .i64 0)).setCell ⟨w4.heap.size, 1, none⟩ (.int .i64 1)) := (Below.setCell (Below.trans HD.out.2.2.2.2 (hb5.mono HD.out.2.2.2.2.size)) (p := ⟨w4.heap.size, 0, none⟩) (by show _ ≤ w4.heap.size; omega) _).setCell (p := ⟨w4.heap.size, 1, none⟩) (by show _ ≤ w4.heap.size; omega) _
      obtain ⟨q0, q1, _, _, q4⟩ := Dg.n2
      obtain ⟨r0, r1, _, _, r4⟩ := Dn.n2
      have he : eqN 0 1 0 1 = true := by simp [eqN]
      have HK := Lib.hid (known_any _ (HT.out.below hu5))
      have HU := Lib.hid hu5
      clear hb5 Dm Dg Dn hu5 e70 e71 e80 e81 e7l e8l hcc
      go_wp2_with fail
      (with_reducible refine HK.out.mono ?_)
      rintro e w6 ⟨rfl, hb6⟩
      go_wp2
      go_ret
      exact ⟨rfl, Below.trans HU.out (hb6.mono HU.out.size)⟩
end Go.Proofs.YtfocokjihbenmaaGreatDoor.Fo
