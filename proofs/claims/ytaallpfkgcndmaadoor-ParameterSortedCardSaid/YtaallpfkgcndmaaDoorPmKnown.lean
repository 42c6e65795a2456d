/-
  The contract of the law's known; the law ParameterBind for every list of arguments.
-/
import Derived.Test.YtaallpfkgcndmaaDoorPmBind
namespace Go.Proofs.YtaallpfkgcndmaaDoor.Pm
open Go.RowKit Go.Shelf
set_option linter.unusedVariables false
set_option linter.unusedSimpArgs false

/-- A row that was just laid. -/
theorem rd_lit {α : Type} {k : Nat} {enc : α → List Value} (hk : ∀ x, (enc x).length = k) {w : World} {b : Nat} {cs : Array Value} {t : TypeId} {l : List α} (h : w.heap[b]? = some (.cells cs t)) (hc : cs.toList = l.flatMap enc) (hl : l.length ≤ 1000) : Rd k enc w w.heap.size (.slice (some ⟨b, 0, none⟩) l.length l.length) l := by
  refine ⟨some ⟨b, 0, none⟩, l.length, rfl, Nat.le_refl _, by simp only [maxLen]; omega, fun _ => ⟨b, 0, rfl, (Array.getElem?_eq_some_iff.1 h).1, fun i x hx j u hu => ?_⟩⟩
  have hu2 := flat_at hk l i x hx j u hu
  rw [Nat.zero_add]
  refine cell_heap h ?_
  rw [← hc] at hu2
  simpa using hu2
theorem same_b (u v : Value) (a : List Bd) (w : World) (hu : RdB w w.heap.size u a) (hv : RdB w w.heap.size v a) :
    Calls Tryd.prog 12 #[u, v] w fun e w' => e = .returned (.bool true) ∧ Below w.heap.size w w' :=
  (SameBindings_any u v a a w hu hv).mono fun e w' ⟨h1, h2⟩ => ⟨by rw [h1, decide_eq_true rfl], h2⟩
theorem same_s (u v : Value) (a : List By) (w : World) (hu : RdS w w.heap.size u a) (hv : RdS w w.heap.size v a) :
    Calls Tryd.prog 17 #[u, v] w fun e w' => e = .returned (.bool true) ∧ Below w.heap.size w w' :=
  (SameStrings_any u v a a w hu hv).mono fun e w' ⟨h1, h2⟩ => ⟨by rw [h1, decide_eq_true rfl], h2⟩
def kArgs : List Val := [(false, [], [97]), (true, [32, 49, 32], [32, 98, 32]), (false, [], [99])]
def kOut : List Bd := [([49], [98]), ([50], [99])]
theorem k_bind : bind (puts dec tr 0 kArgs) = kOut := by
  have h1 : dec (0 + 1) = [49] := dec_small (x := 1) (by omega)
  have h2 : dec (0 + 1 + 1) = [50] := dec_small (x := 2) (by omega)
  simp only [kArgs, puts]
  rw [h1, h2]
  decide
theorem k_sm : Sm kArgs := ⟨by decide, by decide, by decide⟩
set_option maxRecDepth 100000 in
set_option maxHeartbeats 4000000 in
theorem known_any (w : World) : Calls Tryd.prog 9 #[] w fun e w' => e = .returned (.bool true) ∧ Below w.heap.size w w' := by
  obtain ⟨OT, hOT⟩ : ∃ O, Obj.cells #[Value.bool false, .string ⟨#[]⟩, .string ⟨#[97]⟩, .bool true, .string ⟨#[32, 49, 32]⟩, .string ⟨#[32, 98, 32]⟩, .bool false, .string ⟨#[]⟩, .string ⟨#[99]⟩] 40 = O := ⟨_, rfl⟩
  have hq : (w.alloc OT).heap[w.heap.size]? = some (Obj.cells #[Value.bool false, .string ⟨#[]⟩, .string ⟨#[97]⟩, .bool true, .string ⟨#[32, 49, 32]⟩, .string ⟨#[32, 98, 32]⟩, .bool false, .string ⟨#[]⟩, .string ⟨#[99]⟩] 40) := by rw [hOT]; exact heap_alloc_new w OT
  have HB := Lib.hid (Bind_any _ kArgs (w.alloc OT) (rd_lit encV_len hq rfl (by decide)) k_sm)
  have hb0 : Below w.heap.size w (w.alloc OT) := (Below.refl _ _).alloc (Nat.le_refl _) _
  have H0 := Lib.hid hb0
  clear hq hb0
  go_enter Tryd.func9, Tryd.ntmps9
  go_wp2_with fail
  refine HB.out.mono ?_
  rintro e w1 ⟨v1, rfl, o1, b1⟩
  rw [if_neg (by decide)] at o1 ⊢
  rw [k_bind] at o1
  obtain ⟨A1, c1, hv, _⟩ := o1.rd.ex
  have O1 := Lib.hid o1
  have B1 := Lib.hid (H0.out.trans (b1.mono H0.out.size))
  clear o1 b1 HB H0
  obtain ⟨OU, hOU⟩ : ∃ O, Obj.cells #[Value.string ⟨#[49]⟩, .string ⟨#[98]⟩, .string ⟨#[50]⟩, .string ⟨#[99]⟩] 33 = O := ⟨_, rfl⟩
  have hr : (w1.alloc OU).heap[w1.heap.size]? = some (Obj.cells #[Value.string ⟨#[49]⟩, .string ⟨#[98]⟩, .string ⟨#[50]⟩, .string ⟨#[99]⟩] 33) := by rw [hOU]; exact heap_alloc_new w1 OU
  have b2 : Below w1.heap.size w1 (w1.alloc OU) := (Below.refl _ _).alloc (Nat.le_refl _) _
  have HS := Lib.hid (same_b v1 _ kOut (w1.alloc OU) (O1.out.rd.up b2) (rd_lit encB_len hr rfl (by decide)))
  have B2 := Lib.hid (B1.out.trans (b2.mono B1.out.size))
  clear hr b2 O1 B1 hv
  go_wp2_with fail
  refine HS.out.mono ?_
  rintro e w2 ⟨rfl, b3⟩
  have B3 := Lib.hid (B2.out.trans (b3.mono B2.out.size))
  clear b3 HS B2
  go_wp2_with fail
  go_ret
  exact ⟨rfl, B3.out⟩
set_option maxRecDepth 100000 in
set_option maxHeartbeats 4000000 in
theorem ParameterBind_any (v : Value) (l : List Val) (w : World) (hr : RdV w w.heap.size v l) :
    Calls Tryd.prog 3 #[v] w fun e w' => e = .returned (.bool true) ∧ Below w.heap.size w w' := by
  have HR := Lib.hid hr
  clear hr
  go_enter Tryd.func3, Tryd.ntmps3
  go_wp2_with fail
  refine (large_any v l w HR.out).mono ?_
  rintro e w1 ⟨b, rfl, hS, rfl⟩
  cases b with
  | true =>
    go_wp2_with fail
    refine (known_any w1).mono ?_
    rintro e w2 ⟨rfl, b2⟩
    go_wp2
    go_ret
    exact ⟨rfl, b2⟩
  | false =>
    have hs := hS rfl
    clear hS
    have HB := Lib.hid (Bind_any v l w1 HR.out hs)
    go_wp2_with fail
    refine HB.out.mono ?_
    rintro e w2 ⟨v2, rfl, o2, b2⟩
    have HC := Lib.hid (RBind_any v l w2 (HR.out.up b2) hs)
    obtain ⟨E, hE⟩ : ∃ E : Int, (if 40 < l.length then (8 : Int) else 0) = E := ⟨_, rfl⟩
    have HE := Lib.hid hE
    rw [hE]
    clear hE
    obtain ⟨L, hL⟩ : ∃ L, (if 40 < l.length then ([] : List Bd) else bind (puts dec tr 0 l)) = L := ⟨_, rfl⟩
    have HL := Lib.hid hL
    rw [hL] at o2
    clear hL
    have O2 := Lib.hid (And.intro o2 b2)
    clear o2 b2 HB
    go_wp2_with fail
    refine HC.out.mono ?_
    rintro e w3 ⟨v3, rfl, o3, b3⟩
    rw [HE.out]
    rw [HL.out] at o3
    have HS := Lib.hid (same_b v2 v3 L w3 (O2.out.1.rd.up b3) o3.rd)
    have B3 := Lib.hid (O2.out.2.trans (b3.mono O2.out.2.size))
    obtain ⟨A2, c2, hv2, _⟩ := O2.out.1.rd.ex
    obtain ⟨A3, c3, hv3, _⟩ := o3.rd.ex
    subst hv2 hv3
    clear o3 b3 HC O2
    go_wp2_with fail
    refine HS.out.mono ?_
    rintro e w4 ⟨rfl, b4⟩
    have B4 := Lib.hid (B3.out.trans (b4.mono B3.out.size))
    clear b4 B3 HS
    go_wp2_with fail
    refine (known_any w4).mono ?_
    rintro e w5 ⟨rfl, b5⟩
    have B5 := Lib.hid (B4.out.trans (b5.mono B4.out.size))
    clear b5 B4
    go_wp2_with fail
    go_ret
    exact ⟨rfl, B5.out⟩
end Go.Proofs.YtaallpfkgcndmaaDoor.Pm
