/-
  Rows of numbers and of strings that the reference of package strfunc makes.
-/
import Derived.Test.YtihhejeciagdpaaSfPart
import Derived.Test.YtihhejeciagdpaaSfRPl
import Derived.Laws.OwnMore
import Derived.Laws.AppendOwn
import Derived.Laws.Rows
import Derived.Maps.AppendAt
import Derived.OwnWalk
namespace Go.Proofs.Ytihhejeciagdpaa.Sf
open Go.RowKit Go.Shelf
set_option linter.unusedVariables false

theorem infoString : (Try.prog.info? 9).map (fun i => (i.zero, i.size, i.bytes)) = some (some (.string ⟨#[]⟩), 1, 16) := by kernel_rfl
theorem infoInt : (Try.prog.info? 3).map (fun i => (i.zero, i.size, i.bytes)) = some (some (.int .i64 0), 1, 8) := by kernel_rfl
theorem info_parts {x : Option TypeInfo} {z : Option Value} {s b : Nat} (h : x.map (fun i => (i.zero, i.size, i.bytes)) = some (z, s, b)) : ∃ i, x = some i ∧ i.zero = z ∧ i.size = s ∧ i.bytes = b := by
  cases x with
  | none => cases h
  | some i => simp at h; exact ⟨i, rfl, h.1, h.2.1, h.2.2⟩
theorem one_new (w : World) (u : Value) (t : TypeId) : ∀ j x, [u][j]? = some x → (w.alloc (.cells #[u] t)).cell? ((⟨w.heap.size, 0, none⟩ : Addr).add j) = some x := fun j x hj => by
  cases j with
  | zero =>
    simp at hj; subst hj
    simp [Addr.add]
  | succ j => simp at hj
theorem own_form {w : World} {base : Nat} {t : TypeId} {size : Nat} {v : Value} {n : Nat} {xs : List Value} (h : w.ownsRow base t size v n xs) : ∃ A c, v = .slice A n c := by
  rcases h.2 with ⟨rfl, rfl⟩ | ⟨g, cap, cur, rfl, _⟩
  · exact ⟨_, _, rfl⟩
  · exact ⟨_, _, rfl⟩
theorem own_below {w w' : World} {base : Nat} {e : TypeId} {size : Nat} {v : Value} {n : Nat} {xs : List Value} (h : w.ownsRow base e size v n xs) (hb : Below w.heap.size w w') : w'.ownsRow base e size v n xs := by
  obtain ⟨h1, h2⟩ := h
  refine ⟨h1, ?_⟩
  rcases h2 with h | ⟨g, cap, cur, hv, h3, h4, h5⟩
  · exact .inl h
  · exact .inr ⟨g, cap, cur, hv, h3, (hb.block g (Array.getElem?_eq_some_iff.1 h4).1).trans h4, h5⟩
def ints (l : List Nat) : List Value := l.map fun (a : Nat) => .int .i64 (a : Int)
def strs (l : List ByteArray) : List Value := l.map .string
/-- A slice whose cells read as l. -/
structure RV {α : Type} (f : α → Value) (w : World) (A : Option Addr) (c : Nat) (l : List α) : Prop where
  le : l.length ≤ c
  mx : c ≤ 9223372036854775807
  at_ : ∀ i (h : i < l.length), ∃ g, A = some ⟨g, 0, none⟩ ∧ g < w.heap.size ∧ w.cell? ⟨g, i, none⟩ = some (f l[i])
abbrev RI := RV (fun a : Nat => Value.int .i64 (a : Int))
abbrev RS := RV Value.string
theorem RV.keep {α : Type} {f : α → Value} {w w' : World} {A : Option Addr} {c : Nat} {l : List α} (h : RV f w A c l) (hb : Below w.heap.size w w') : RV f w' A c l :=
  ⟨h.le, h.mx, fun i hi => by
    obtain ⟨g, h1, h2, h3⟩ := h.at_ i hi
    exact ⟨g, h1, Nat.lt_of_lt_of_le h2 hb.size, (World.cell?_of_block (a := ⟨g, i, none⟩) (hb.block g h2)).trans h3⟩⟩
theorem RV.take {α : Type} {f : α → Value} {w : World} {A : Option Addr} {c : Nat} {l : List α} (h : RV f w A c l) (m : Nat) : RV f w A c (l.take m) :=
  ⟨by have := h.le; simp; omega, h.mx, fun i hi => by
    have h1 : i < l.length := by simp at hi; omega
    obtain ⟨g, h2, h3, h4⟩ := h.at_ i h1
    exact ⟨g, h2, h3, by rw [h4, List.getElem_take]⟩⟩
theorem own_RV {α : Type} {f : α → Value} {w : World} {base : Nat} {t : TypeId} {v : Value} {l : List α} (h : w.ownsRow base t 1 v l.length (l.map f)) : ∃ A c, v = .slice A l.length c ∧ RV f w A c l := by
  obtain ⟨h1, h2⟩ := h
  rcases h2 with ⟨rfl, h0⟩ | ⟨g, cap, cur, rfl, h3, h4, h5, h6, h7, h8⟩
  · exact ⟨none, 0, by rw [h0], by omega, by omega, fun i hi => by omega⟩
  · refine ⟨some ⟨g, 0, none⟩, cap, rfl, h5, by simpa [maxLen] using h6, fun i hi => ⟨g, rfl, (Array.getElem?_eq_some_iff.1 h4).1, ?_⟩⟩
    rw [cell_of_row w g i cur t (0, 0) h4]
    have : (cur.toList.take (l.length * 1))[i]? = (l.map f)[i]? := by rw [h8]
    rw [List.getElem?_take, if_pos (by omega), List.getElem?_map, List.getElem?_eq_getElem hi, Option.map_some] at this
    simpa using this
/-- One number more. -/
theorem ints_snoc (l : List Nat) (a : Nat) : ints (l ++ [a]) = ints l ++ [.int .i64 (a : Int)] := by simp [ints]
theorem strs_snoc (l : List ByteArray) (a : ByteArray) : strs (l ++ [a]) = strs l ++ [.string a] := by simp [strs]
end Go.Proofs.Ytihhejeciagdpaa.Sf
