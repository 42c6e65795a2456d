/-
  The contracts of take and expect.
-/
import Derived.Test.YtfocokjihbenmaaDoorFoMem
import Derived.Test.YtfocokjihbenmaaDoorShelf
import Derived.Lib.SlicesS
namespace Go.Proofs.YtfocokjihbenmaaDoor.Fo
open Go.RowKit Go.Proofs.YtfocokjihbenmaaDoor.Nu
set_option linter.unusedVariables false
set_option linter.unusedSimpArgs false

def bs (t : Tok) : ByteArray := ⟨t.toArray⟩
theorem bs_inj {a b : Tok} (h : bs a = bs b) : a = b := by
  have := congrArg (fun x : ByteArray => x.data.toList) h
  simpa [bs] using this
theorem mem_bs {t : Tok} {S : List Tok} : bs t ∈ S.map bs ↔ t ∈ S := by
  rw [List.mem_map]
  exact ⟨fun ⟨a, h, e⟩ => bs_inj e ▸ h, fun h => ⟨t, h, rfl⟩⟩
theorem contains_bs (t : Tok) (S : List Tok) : Lib.containsS ((S.map bs).take S.length) (bs t) = decide (t ∈ S) := by
  rw [List.take_of_length_le (by simp)]
  by_cases h : t ∈ S
  · rw [decide_eq_true h]; exact (Lib.containsS_iff _ _).2 (mem_bs.2 h)
  · rw [decide_eq_false h]
    cases hc : Lib.containsS (S.map bs) (bs t) with
    | false => rfl
    | true => exact absurd (mem_bs.1 ((Lib.containsS_iff _ _).1 hc)) h
theorem Contains_any (w : World) (g : Nat) (c : Nat) (S : List Tok) (t : Tok) (hS : ∀ j x, S[j]? = some x → w.cell? ⟨g, j, none⟩ = some (sv x)) (hl : S.length ≤ 100) :
    Calls Tryd.prog 91 #[.slice (some ⟨g, 0, none⟩) S.length c, sv t] w fun e w' => e = .returned (.bool (decide (t ∈ S))) ∧ w' = w := by
  refine (Tryd.slices_Contains_string g 0 S.length c (S.map bs) (bs t) w (by simp) (by omega) (fun j hj => ?_)).mono fun e w' ⟨h1, h2⟩ => ⟨by rw [h1, contains_bs], h2⟩
  have hj' : j < S.length := by simpa using hj
  have := hS j S[j] (List.getElem?_eq_getElem hj')
  rw [Nat.zero_add, this]
  simp [sv, bs, List.getD_eq_getElem?_getD, hj']
section
variable {gp bt : Nat} {w : World} {v : Value} {l : List Tok} {b : Bool}
/-- What take leaves. -/
def TkP (gp bt : Nat) (w : World) (v : Value) (l : List Tok) (b : Bool) (x : Option (Tok × List Tok)) (e : Ending) (w' : World) : Prop := match x with
  | none => e = .returned (.tuple #[.string ⟨#[]⟩, .bool false]) ∧ St gp bt w' v l b ∧ Fr gp w.heap.size w w'
  | some (o, r) => e = .returned (.tuple #[sv o, .bool true]) ∧ ∃ u, St gp bt w' u r b ∧ Fr gp w.heap.size w w'
set_option maxRecDepth 100000 in
set_option maxHeartbeats 2000000 in
theorem take_any (h : St gp bt w v l b) (g : Nat) (S : List Tok) (hS : ∀ j x, S[j]? = some x → w.cell? ⟨g, j, none⟩ = some (sv x)) (hl : S.length ≤ 100) (hL : l.length ≤ 400) :
    Calls Tryd.prog 74 #[.pointer (some ⟨gp, 0, none⟩), .slice (some ⟨g, 0, none⟩) S.length S.length] w fun e w' => TkP gp bt w v l b (next S l) e w' := by
  have h0 := h.c0
  have hf := h.f 0
  cases l with
  | nil =>
    obtain ⟨A, c, rfl⟩ := h.t.nil
    have H := Lib.hid h; clear h
    go_enter Tryd.func74, Tryd.ntmps74
    go_wp2
    go_ret2
    exact ⟨rfl, H.out, Fr.refl _ _ _⟩
  | cons o l =>
    obtain ⟨a, c, rfl, h2, h3, h4, h5⟩ := h.t.tail
    have HC := Lib.hid (fun t => Contains_any w g S.length S t hS hl)
    have H := Lib.hid h; have H5 := Lib.hid h5; clear h h5
    simp only [List.length_cons] at hL
    by_cases ho : o ∈ S
    · have e1 : next S (o :: l) = some (o, l) := if_pos ho
      rw [e1]
      have hd : decide (o ∈ S) = true := decide_eq_true ho
      have HO := Lib.hid hd; clear hd ho e1
      unfold sv at h4
      go_enter Tryd.func74, Tryd.ntmps74
      go_wp2_with fail
      refine (HC.out o).mono ?_
      rintro e w1 ⟨rfl, rfl⟩
      rw [HO.out]
      go_wp2
      all_goals
        go_ret2
        first
          | exact ⟨rfl, _, H.out.set H5.out (fun _ q => List.mem_cons_of_mem _ q), Fr.setCell _ _ _ _⟩
          | exact ⟨rfl, _, H.out.set (TS.none0 (by omega)) (fun _ q => List.mem_cons_of_mem _ q), Fr.setCell _ _ _ _⟩
    · have e1 : next S (o :: l) = none := if_neg ho
      rw [e1]
      have hd : decide (o ∈ S) = false := decide_eq_false ho
      have HO := Lib.hid hd; clear hd ho e1
      unfold sv at h4
      go_enter Tryd.func74, Tryd.ntmps74
      go_wp2_with fail
      refine (HC.out o).mono ?_
      rintro e w1 ⟨rfl, rfl⟩
      rw [HO.out]
      go_wp2
      go_ret2
      exact ⟨rfl, H.out, Fr.refl _ _ _⟩
theorem heap_new (w : World) (o : Obj) : (w.alloc o).heap[w.heap.size]? = some o := by
  show (w.heap.push o)[w.heap.size]? = _
  rw [Array.getElem?_push, if_pos rfl]
/-- A row of strings that a call lays. -/
def row (S : List Tok) (t : TypeId) : Obj := .cells (S.map sv).toArray t
theorem row_at (w : World) (S : List Tok) (t : TypeId) : ∀ j x, S[j]? = some x → (w.alloc (row S t)).cell? ⟨w.heap.size, j, none⟩ = some (sv x) := fun j x hj => by
  unfold World.cell?
  rw [show (w.alloc (row S t)).heap[(⟨w.heap.size, j, none⟩ : Addr).block]? = some (row S t) from heap_new w _]
  simp [row, hj]
theorem St.alloc (h : St gp bt w v l b) (o : Obj) : St gp bt (w.alloc o) v l b := h.below ((Below.refl _ w).alloc (Nat.le_refl _) o)
theorem Fr.alloc {gp n : Nat} {w w' : World} (h : Fr gp n w w') (hn : n ≤ w'.heap.size) (o : Obj) : Fr gp n w (w'.alloc o) := h.trans (Fr.of ((Below.refl n w').alloc hn o)) (Nat.le_refl _)
def expT (o : Tok) (l : List Tok) : List Tok := match next [o] l with
  | none => l
  | some (_, r) => r
def expB (o : Tok) (l : List Tok) : Bool := (next [o] l).isNone
set_option maxRecDepth 100000 in
set_option maxHeartbeats 2000000 in
theorem expect_any (h : St gp bt w v l b) (o : Tok) (hL : l.length ≤ 400) :
    Calls Tryd.prog 110 #[.pointer (some ⟨gp, 0, none⟩), sv o] w fun e w' => e = .returned (.bool (!expB o l)) ∧ (∃ u, St gp bt w' u (expT o l) (expB o l || b)) ∧ Fr gp w.heap.size w w' := by
  obtain ⟨w1, hw1⟩ : ∃ w1, w.alloc (row [o] 9) = w1 := ⟨_, rfl⟩
  have h1 : St gp bt w1 v l b := hw1 ▸ h.alloc _
  have HT := Lib.hid (take_any h1 w.heap.size [o] (hw1 ▸ row_at w [o] _) (by simp) hL)
  have hB : Below w.heap.size w w1 := hw1 ▸ (Below.refl _ w).alloc (Nat.le_refl _) _
  have HB := Lib.hid hB
  clear hB h1 h
  unfold row sv at hw1
  simp only [List.map_cons, List.map_nil] at hw1
  unfold sv
  cases hx : next [o] l with
  | none =>
    have HX := Lib.hid hx; clear hx
    go_enter Tryd.func110, Tryd.ntmps110
    go_wp2_with fail
    refine HT.out.mono ?_
    rintro e w2 hp
    rw [HX.out] at hp
    obtain ⟨rfl, hs, hf⟩ := hp
    have hc := hs.c1
    have hfz := hs.f 1
    have HS := Lib.hid hs; have HF := Lib.hid hf; clear hs hf
    go_wp2
    go_ret
    have e1 : expT o l = l := by unfold expT; rw [HX.out]
    have e2 : expB o l = true := by unfold expB; rw [HX.out]; rfl
    rw [e1, e2]
    exact ⟨rfl, ⟨_, HS.out.fail⟩, ((Fr.of HB.out).trans HF.out HB.out.size).trans (Fr.setCell _ _ _ _) (Nat.le_refl _)⟩
  | some y =>
    obtain ⟨o', r⟩ := y
    have HX := Lib.hid hx; clear hx
    go_enter Tryd.func110, Tryd.ntmps110
    go_wp2_with fail
    refine HT.out.mono ?_
    rintro e w2 hp
    rw [HX.out] at hp
    obtain ⟨rfl, u, hs, hf⟩ := hp
    have HS := Lib.hid hs; have HF := Lib.hid hf; clear hs hf
    unfold sv
    go_wp2
    go_ret
    have e1 : expT o l = r := by unfold expT; rw [HX.out]
    have e2 : expB o l = false := by unfold expB; rw [HX.out]; rfl
    rw [e1, e2]
    exact ⟨rfl, ⟨_, HS.out⟩, (Fr.of HB.out).trans HF.out HB.out.size⟩
end
end Go.Proofs.YtfocokjihbenmaaDoor.Fo
