/-
  The contracts of Fixed and Format of package number and of its reference.
-/
import Derived.Test.YtpehlihbpmcofaaDoorNuNota
import Derived.Laws.Concat
namespace Go.Proofs.YtpehlihbpmcofaaDoor.Nu
open Go.RowKit

def fixS (n d k : Int) : ByteArray := if (rnd n d k).e = 0 then notaS (rnd n d k).n (rnd n d k).d k.toNat else ⟨#[]⟩
def fmtS (n d : Int) : ByteArray := ⟨(fmt n d).toArray⟩
theorem rnd_k {n d k : Int} (h : (rnd n d k).e = 0) : 0 ≤ k ∧ k ≤ 9 := by
  unfold rnd at h
  split at h
  · split at h
    · assumption
    · simp at h
  · simp at h
theorem rnd_ok {n d k : Int} (h : (rnd n d k).e = 0) : Ok (rnd n d k).n (rnd n d k).d := by
  have hk := rnd_k h
  have h1 : okB n d = true := by
    cases hq : okB n d
    · unfold rnd at h; rw [hq] at h; simp at h
    · rfl
  have e : rnd n d k = fit (ud n d k.toNat) (pw k.toNat) := by unfold rnd; rw [h1, if_pos rfl, if_pos hk]
  rw [e] at h ⊢
  have hp : pw k.toNat ≠ 0 := by have := pw_bd (k := k.toNat) (by omega); omega
  exact (fit_ok hp h).1
theorem power_q (k : Nat) (w : World) (h : k ≤ 9) : Calls Tryd.prog 53 #[.int .i64 (k : Int)] w fun e w' => e = .returned (.int .i64 (pw k)) ∧ w' = w :=
  (power_any k w h).mono fun _ _ ⟨he, hw⟩ => ⟨he, hw.symm⟩
theorem Power_q2 (k : Nat) (w : World) (h : k ≤ 9) : Calls Tryd.prog 41 #[.int .i64 (k : Int)] w fun e w' => e = .returned (.int .i64 (pw k)) ∧ w' = w :=
  (Power_any k w h).mono fun _ _ ⟨he, hw⟩ => ⟨he, hw.symm⟩
theorem quiet_add_same' {P : Program} {f : FuncId} {args : Array Value} {w : World} {a n : Nat} {v : Value}
    (h : Calls P f args (w.drewN (a + n)) fun e w' => e = .returned v ∧ w' = w.drewN (a + n)) :
    Calls P f args (w.drewN (a + n)) fun e w'' => e = .returned v ∧ ∃ m, w'' = w.drewN (a + m) :=
  h.mono fun _ _ ⟨he, hm⟩ => ⟨he, n, hm⟩
/-- A number in its box, the table, and the world before. -/
structure Fh (w : World) (n d : Int) (W : World) : Prop where
  c0 : W.cell? ⟨w.heap.size, 0, none⟩ = some (.int .i64 n)
  c1 : W.cell? ⟨w.heap.size, 1, none⟩ = some (.int .i64 d)
  tb : Tb W
  bl : Below w.heap.size w W
structure Gh (w : World) (n d : Int) (W : World) : Prop where
  c0 : W.cell? ⟨w.heap.size, 0, none⟩ = some (.int .i64 n)
  c1 : W.cell? ⟨w.heap.size, 1, none⟩ = some (.int .i64 d)
  bl : Below w.heap.size w W
theorem Fh.below {w W W' : World} {n d : Int} (h : Fh w n d W) (hb : Below W.heap.size W W') : Fh w n d W' :=
  ⟨(hb.cell (p := ⟨w.heap.size, 0, none⟩) (lt_cell h.c0)).trans h.c0, (hb.cell (p := ⟨w.heap.size, 1, none⟩) (lt_cell h.c1)).trans h.c1, h.tb.below hb, h.bl.trans (hb.mono h.bl.size)⟩
theorem Gh.below {w W W' : World} {n d : Int} (h : Gh w n d W) (hb : Below W.heap.size W W') : Gh w n d W' :=
  ⟨(hb.cell (p := ⟨w.heap.size, 0, none⟩) (lt_cell h.c0)).trans h.c0, (hb.cell (p := ⟨w.heap.size, 1, none⟩) (lt_cell h.c1)).trans h.c1, h.bl.trans (hb.mono h.bl.size)⟩
theorem Fh.drewN {w W : World} {n d : Int} (h : Fh w n d W) (k : Nat) : Fh w n d (W.drewN k) := h.below (below_drewN (Below.refl _ _) k)
theorem Gh.drewN {w W : World} {n d : Int} (h : Gh w n d W) (k : Nat) : Gh w n d (W.drewN k) := h.below (below_drewN (Below.refl _ _) k)
theorem Itoa_fh {w W : World} {n d : Int} (x : Int) (hx : x.natAbs ≤ 1000000000) (h : Fh w n d W) : Calls Tryd.prog 63 #[.int .i64 x] W fun e w' => e = .returned (.string (itS x)) ∧ Fh w n d w' :=
  (Itoa_s x W (by omega) h.tb).mono fun _ _ ⟨he, hb⟩ => ⟨he, h.below hb⟩
theorem RItoa_gh {w W : World} {n d : Int} (x : Int) (hx : x.natAbs ≤ 1000000000) (h : Gh w n d W) : Calls Tryd.prog 64 #[.int .i64 x] W fun e w' => e = .returned (.string (itS x)) ∧ Gh w n d w' :=
  (RItoa_s x W (by omega)).mono fun _ _ ⟨he, hb⟩ => ⟨he, h.below hb⟩

set_option maxRecDepth 100000 in
set_option maxHeartbeats 1000000 in
theorem Fixed_any (n d k : Int) (w : World) (ht : Tb w) :
    Calls Tryd.prog 37 #[.agg #[.int .i64 n, .int .i64 d], .int .i64 k] w fun e w' => e = .returned (.tuple #[.string (fixS n d k), .int .i64 (rnd n d k).e]) ∧ Below w.heap.size w w' := by
  by_cases he : (rnd n d k).e = 0
  · have hO := rnd_ok he
    obtain ⟨hk0, hk9⟩ := rnd_k he
    obtain ⟨j, rfl⟩ : ∃ j : Nat, k = (j : Int) := ⟨k.toNat, by omega⟩
    have HA : Hid (fixS n d (j : Int) = notaS (rnd n d (j : Int)).n (rnd n d (j : Int)).d j) := Lib.hid (by unfold fixS; rw [if_pos he, Int.toNat_natCast])
    have HO := Lib.hid (okB_iff.2 hO)
    have hk : j ≤ 9 := by omega
    clear hO
    go_enter Tryd.func37, Tryd.ntmps37
    go_wp2_with fail
    refine (Round_any n d (j : Int) _).mono ?_
    rintro e w1 ⟨rfl, hb⟩
    have HB := Lib.hid (below1 hb)
    go_wp2_with fail
    refine (decimal_any _ _ j _ hk HO.out (ht.below (HB.out.alloc HB.out.size _))).mono ?_
    rintro e w2 ⟨rfl, hb2⟩
    have hB1 := HB.out.alloc HB.out.size (.cells #[.int .i64 (rnd n d (j : Int)).n, .int .i64 (rnd n d (j : Int)).d] 23)
    have HB2 := Lib.hid (hB1.trans (hb2.mono hB1.size))
    clear hB1
    go_wp2
    go_ret2
    exact ⟨by rw [HA.out, he]; rfl, HB2.out⟩
  · have HA : Hid (fixS n d k = ⟨#[]⟩) := Lib.hid (by unfold fixS; rw [if_neg he])
    have he1 : ((rnd n d k).e != 0) = true := by rw [bne_iff_ne]; exact he
    have HE := Lib.hid he; clear he
    go_enter Tryd.func37, Tryd.ntmps37
    go_wp2_with fail
    refine (Round_any n d k _).mono ?_
    rintro e w1 ⟨rfl, hb⟩
    have HB := Lib.hid (below1 hb)
    go_wp2
    go_ret2
    exact ⟨by rw [HA.out]; rfl, HB.out.alloc HB.out.size _⟩

set_option maxRecDepth 100000 in
set_option maxHeartbeats 1000000 in
theorem RFixed_any (n d k : Int) (w : World) :
    Calls Tryd.prog 38 #[.agg #[.int .i64 n, .int .i64 d], .int .i64 k] w fun e w' => e = .returned (.tuple #[.string (fixS n d k), .int .i64 (rnd n d k).e]) ∧ Below w.heap.size w w' := by
  by_cases he : (rnd n d k).e = 0
  · have hO := rnd_ok he
    obtain ⟨hk0, hk9⟩ := rnd_k he
    obtain ⟨j, rfl⟩ : ∃ j : Nat, k = (j : Int) := ⟨k.toNat, by omega⟩
    have HA : Hid (fixS n d (j : Int) = notaS (rnd n d (j : Int)).n (rnd n d (j : Int)).d j) := Lib.hid (by unfold fixS; rw [if_pos he, Int.toNat_natCast])
    have HO := Lib.hid (okB_iff.2 hO)
    have hk : j ≤ 9 := by omega
    clear hO
    go_enter Tryd.func38, Tryd.ntmps38
    go_wp2_with fail
    refine (RRound_any n d (j : Int) _).mono ?_
    rintro e w1 ⟨rfl, hb⟩
    have HB := Lib.hid (below1 hb)
    go_wp2_with fail
    refine (notation_any _ _ j _ hk HO.out).mono ?_
    rintro e w2 ⟨rfl, hb2⟩
    have hB1 := HB.out.alloc HB.out.size (.cells #[.int .i64 (rnd n d (j : Int)).n, .int .i64 (rnd n d (j : Int)).d] 23)
    have HB2 := Lib.hid (hB1.trans (hb2.mono hB1.size))
    clear hB1
    go_wp2
    go_ret2
    exact ⟨by rw [HA.out, he]; rfl, HB2.out⟩
  · have HA : Hid (fixS n d k = ⟨#[]⟩) := Lib.hid (by unfold fixS; rw [if_neg he])
    have he1 : ((rnd n d k).e != 0) = true := by rw [bne_iff_ne]; exact he
    have HE := Lib.hid he; clear he
    go_enter Tryd.func38, Tryd.ntmps38
    go_wp2_with fail
    refine (RRound_any n d k _).mono ?_
    rintro e w1 ⟨rfl, hb⟩
    have HB := Lib.hid (below1 hb)
    go_wp2
    go_ret2
    exact ⟨by rw [HA.out]; rfl, HB.out.alloc HB.out.size _⟩
end Go.Proofs.YtpehlihbpmcofaaDoor.Nu
