/-
  The contracts of the reference's Source and args.
-/
import Derived.Test.YtlceaadaeednpaaTrWrite2
import Derived.Deep.RegionHeld3
namespace Go.Proofs.Ytlceaadaeednpaa.Tr
open Go.RowKit

theorem size_of {X : ByteArray} {x : List UInt8} (h : X.data.toList = x) : X.size = x.length := by rw [← h]; rfl
def SrcL (d : Nat) : Prop := ∀ (B : Nat) (v : Value) (l : List Nd) (w : World), LRd d w B v l → B ≤ w.heap.size →
    Calls Try.prog 13 #[v] w fun e w' => ∃ X : ByteArray, e = .returned (.string X) ∧ Hid (X.data.toList = src l) ∧ Below w.heap.size w w'
def SrcA (d : Nat) : Prop := ∀ (B : Nat) (v : Value) (l : List Ar) (w : World), ARd d w B v l → B ≤ w.heap.size →
    Calls Try.prog 25 #[v] w fun e w' => ∃ X : ByteArray, e = .returned (.string X) ∧ Hid (X.data.toList = srcA l) ∧ Below w.heap.size w w'

set_option maxHeartbeats 4000000 in
theorem args_step (d : Nat) (hL : SrcL d) : SrcA d := by
  intro B v l w h hB
  have hz := h.1
  have hsl := srcA_len l
  obtain ⟨A, c, rfl, hc1, hc2, hln, R⟩ := h.open
  have R' := Lib.hid R; clear R h
  have HL := Lib.hid (Nat.le_trans hsl (Nat.mul_le_mul_left 27 hz)); clear hz hsl
  go_enter Try.func25, Try.ntmps25
  go_wp2_with fail
  go_loopw [3, 4] (fun sv i wr => ∃ (k : Nat) (S : ByteArray), k ≤ l.length ∧ i = .int .i64 k ∧ sv = .string S ∧ Hid (S.data.toList = srcA (l.take k)) ∧ Hid (Below w.heap.size w wr)) (fun _ i _ => l.length - (intOf i).toNat)
  case atStart => exact ⟨0, ⟨#[]⟩, Nat.zero_le _, rfl, rfl, Lib.hid (by simp [srcA_nil]), Lib.hid (Below.refl _ _)⟩
  case round =>
    obtain ⟨k, S, hk, rfl, rfl, hS, hbl⟩ := hrel
    have hSs : S.size ≤ 452984832 := by rw [size_of hS.out]; exact Nat.le_trans (srcA_take_len l k) HL.out
    by_cases hlt : k < l.length
    · obtain ⟨g, o, rfl, hg, q⟩ := R'.out (by omega)
      obtain ⟨vn, vv, y1, y2, y3, y4, y5⟩ := q k l[k] (List.getElem?_eq_getElem hlt)
      clear q
      have hcell : ∀ i, wr.cell? ⟨g, i, none⟩ = w.cell? ⟨g, i, none⟩ := fun i => hbl.out.cell (by show g < _; omega)
      have Y := Lib.hid (And.intro y3 (And.intro y4 y5)); clear y4 y5
      rw [← hcell] at y1 y2 y3
      clear hcell
      have hsg : (srcG l[k]).length ≤ 452984832 := by
        have h1 := srcA_take_len l (k + 1)
        rw [srcA_take hlt, List.length_append] at h1
        have h2 := HL.out
        omega
      have HT := Lib.hid (srcA_take hlt)
      have hBr : Hid (B ≤ wr.heap.size) := Lib.hid (Nat.le_trans hB hbl.out.size)
      rw [srcG_eq] at hsg HT
      generalize l[k] = ar at *
      obtain ⟨nm, nam, val⟩ := ar
      simp only [Ar.named, Ar.name, Ar.value] at *
      cases nm with
      | false =>
        simp only [Bool.false_eq_true, if_false, List.length_append, List.length_cons, List.length_nil] at hsg HT
        go_wp2_with fail
        refine (hL B _ _ wr (Y.out.2.2.below hbl.out hB (Nat.le_refl _)) hBr.out).mono ?_
        rintro e w1 ⟨X, rfl, hX, hb⟩
        have hXs : X.size ≤ 452984832 := by rw [size_of hX.out]; omega
        have B1 := Lib.hid (hbl.out.trans (hb.mono hbl.out.size)); clear hb
        go_wp2_with fail
        go_roundw
        case rel => exact ⟨k + 1, _, by omega, by go_num, rfl, Lib.hid (by rw [HT.out, cat_list, cat_list, hS.out, hX.out]; simp), B1⟩
        case measure => simp [intOf]; omega
      | true =>
        simp only [if_true, List.length_append, List.length_cons, List.length_nil] at hsg HT
        go_wp2_with fail
        refine (hL B _ _ wr (Y.out.2.1.below hbl.out hB (Nat.le_refl _)) hBr.out).mono ?_
        rintro e w1 ⟨X, rfl, hX, hb⟩
        have hXs : X.size ≤ 452984832 := by rw [size_of hX.out]; omega
        have B1 := Lib.hid (hbl.out.trans (hb.mono hbl.out.size)); clear hb
        have z3 : w1.cell? ⟨g, o + k * 3 + 2, none⟩ = some vv := (B1.out.cell (by show g < _; omega)).trans Y.out.1
        clear y1 y2 y3
        go_wp2_with fail
        refine (hL B _ _ w1 (Y.out.2.2.below B1.out hB (Nat.le_refl _)) (Nat.le_trans hB B1.out.size)).mono ?_
        rintro e w2 ⟨Z, rfl, hZ, hb⟩
        have hZs : Z.size ≤ 452984832 := by rw [size_of hZ.out]; omega
        have B2 := Lib.hid (B1.out.trans (hb.mono B1.out.size)); clear hb
        go_wp2_with fail
        go_roundw
        case rel => exact ⟨k + 1, _, by omega, by go_num, rfl, Lib.hid (by rw [HT.out]; simp only [cat_list]; rw [hS.out, hX.out, hZ.out]; simp), B2⟩
        case measure => simp [intOf]; omega
    · have e : k = l.length := by omega
      subst e
      rw [List.take_length] at hS
      go_wp2_with fail
      go_ret
      exact ⟨S, rfl, hS, hbl.out⟩

theorem TagText_any (t : Int) (w : World) (c : Bool) (h1 : 1 ≤ t) (h3 : t ≤ 3) : Calls Try.prog 26 #[.int .i64 t, .bool c] w fun e w' => ∃ X : ByteArray, e = .returned (.string X) ∧ Hid (X.data.toList = (if c then [60, 47] else [60]) ++ tname t ++ [62]) ∧ Below w.heap.size w w' := by
  have : t = 1 ∨ t = 2 ∨ t = 3 := by omega
  rcases this with rfl | rfl | rfl <;> cases c <;>
  · go_enter Try.func26, Try.ntmps26
    go_wp2
    go_ret
    exact ⟨_, rfl, Lib.hid rfl, (Below.refl _ _).alloc (Nat.le_refl _) _⟩
end Go.Proofs.Ytlceaadaeednpaa.Tr
