/-
  Slices of arguments, bindings and strings in memory: rows of the call's own, and rows that are read.
-/
import Derived.Test.YtaallpfkgcndmaaDoorPmTrim
import Derived.Test.YtaallpfkgcndmaaDoorChecked
import Derived.WalkLawsBesides
import Derived.Outline
import Derived.Deep.QuietTactic
import Derived.BigQuiet
import Derived.OwnWalk
import Derived.Laws.OwnMore
import Derived.Laws.Rows
import Derived.Sort.OwnSorted
import Derived.Maps.OwnOps
import Derived.Maps.OwnSet
namespace Go.Proofs.YtaallpfkgcndmaaDoor.Pm
open Go.RowKit Go.Shelf
set_option linter.unusedVariables false
set_option linter.unusedSimpArgs false

def encB (p : Bd) : List Value := [.string (bsl p.1), .string (bsl p.2)]
def encV (x : Val) : List Value := [.bool x.1, .string (bsl x.2.1), .string (bsl x.2.2)]
def encS (n : By) : List Value := [.string (bsl n)]
/-- The slice v reads as the list l, k cells each, in blocks below B. -/
structure Rd {α : Type} (k : Nat) (enc : α → List Value) (w : World) (B : Nat) (v : Value) (l : List α) : Prop where
  ex : ∃ A c, v = .slice A l.length c ∧ l.length ≤ c ∧ c ≤ maxLen ∧ (0 < l.length → ∃ g o, A = some ⟨g, o, none⟩ ∧ g < B ∧ ∀ (i : Nat) (x : α), l[i]? = some x → ∀ (j : Nat) (u : Value), (enc x)[j]? = some u → w.cell? ⟨g, o + i * k + j, none⟩ = some u)
theorem Rd.keep {α : Type} {k : Nat} {enc : α → List Value} {w w' : World} {B : Nat} {v : Value} {l : List α} (h : Rd k enc w B v l) (hk : ∀ p : Addr, p.block < B → w'.cell? p = w.cell? p) : Rd k enc w' B v l := by
  obtain ⟨A, c, h1, h2, h3, h4⟩ := h.ex
  refine ⟨A, c, h1, h2, h3, fun hn => ?_⟩
  obtain ⟨g, o, h5, h6, h7⟩ := h4 hn
  exact ⟨g, o, h5, h6, fun i x hx j u hu => (hk _ h6).trans (h7 i x hx j u hu)⟩
theorem Rd.below {α : Type} {k : Nat} {enc : α → List Value} {w w' : World} {B B' : Nat} {v : Value} {l : List α} (h : Rd k enc w B v l) (hb : Below B' w w') (hB : B ≤ B') : Rd k enc w' B v l := h.keep fun _ hp => hb.cell (by omega)
theorem Rd.more {α : Type} {k : Nat} {enc : α → List Value} {w : World} {B B' : Nat} {v : Value} {l : List α} (h : Rd k enc w B v l) (hB : B ≤ B') : Rd k enc w B' v l := by
  obtain ⟨A, c, h1, h2, h3, h4⟩ := h.ex
  exact ⟨A, c, h1, h2, h3, fun hn => by
    obtain ⟨g, o, h5, h6, h7⟩ := h4 hn
    exact ⟨g, o, h5, by omega, h7⟩⟩
theorem Rd.up {α : Type} {k : Nat} {enc : α → List Value} {w w' : World} {v : Value} {l : List α} (h : Rd k enc w w.heap.size v l) (hb : Below w.heap.size w w') : Rd k enc w' w'.heap.size v l := (h.below hb (Nat.le_refl _)).more hb.size
theorem flat_at {α : Type} {k : Nat} {enc : α → List Value} (hk : ∀ x, (enc x).length = k) : ∀ (l : List α) (i : Nat) (x : α), l[i]? = some x → ∀ (j : Nat) (u : Value), (enc x)[j]? = some u → (l.flatMap enc)[i * k + j]? = some u
  | [], i, x, h, _, _, _ => by simp at h
  | a :: r, 0, x, h, j, u, hu => by
    simp at h; subst h
    have hj : j < k := by rw [← hk a]; exact (List.getElem?_eq_some_iff.1 hu).1
    rw [List.flatMap_cons, List.getElem?_append_left (by rw [hk]; omega)]
    simpa using hu
  | a :: r, i + 1, x, h, j, u, hu => by
    have ih := flat_at hk r i x (by simpa using h) j u hu
    rw [List.flatMap_cons, show (i + 1) * k + j = k + (i * k + j) by rw [Nat.succ_mul]; omega, List.getElem?_append_right (by rw [hk]; omega), hk]
    simpa using ih
/-- A row of the call's own is read. -/
theorem rd_own {α : Type} {k : Nat} {enc : α → List Value} (hk : ∀ x, (enc x).length = k) {w : World} {base : Nat} {e : TypeId} {v : Value} {l : List α} (h : w.ownsRow base e k v l.length (l.flatMap enc)) : Rd k enc w w.heap.size v l := by
  rcases h.2 with ⟨h1, h2⟩ | ⟨g, cap, cur, h3, h4, h5, h6, h7, h8, h9⟩
  · exact ⟨none, 0, by rw [h1, h2], by omega, by simp [maxLen], fun hn => by omega⟩
  · refine ⟨some ⟨g, 0, none⟩, cap, h3, h6, h7, fun hn => ⟨g, 0, rfl, (Array.getElem?_eq_some_iff.1 h5).1, fun i x hx j u hu => ?_⟩⟩
    have hu2 := flat_at hk l i x hx j u hu
    rw [Nat.zero_add, cell_of_row _ _ _ _ _ _ h5]
    rw [← h9, List.getElem?_take] at hu2
    split at hu2
    · simpa using hu2
    · cases hu2
theorem encB_len (x : Bd) : (encB x).length = 2 := rfl
theorem encV_len (x : Val) : (encV x).length = 3 := rfl
theorem encS_len (x : By) : (encS x).length = 1 := rfl
abbrev RdB := Rd 2 encB
abbrev RdV := Rd 3 encV
abbrev RdS := Rd 1 encS
def OwnB (w : World) (base : Nat) (v : Value) (l : List Bd) : Prop := w.ownsRow base 33 2 v l.length (l.flatMap encB)
def OwnS (w : World) (base : Nat) (v : Value) (l : List By) : Prop := w.ownsRow base 9 1 v l.length (l.flatMap encS)
theorem OwnB.rd {w : World} {base : Nat} {v : Value} {l : List Bd} (h : OwnB w base v l) : RdB w w.heap.size v l := rd_own encB_len h
theorem OwnS.rd {w : World} {base : Nat} {v : Value} {l : List By} (h : OwnS w base v l) : RdS w w.heap.size v l := rd_own encS_len h
theorem flatB_len (l : List Bd) : (l.flatMap encB).length = 2 * l.length := by
  induction l with
  | nil => rfl
  | cons a r ih => rw [List.flatMap_cons, List.length_append, ih, encB_len, List.length_cons]; omega
theorem flatS_len (l : List By) : (l.flatMap encS).length = l.length := by
  induction l with
  | nil => rfl
  | cons a r ih => rw [List.flatMap_cons, List.length_append, ih, encS_len, List.length_cons]; omega
theorem flatB_one (l : List Bd) : ∀ u ∈ l.flatMap encB, u.oneCell' = true := fun u hu => by
  obtain ⟨p, _, hp⟩ := List.mem_flatMap.1 hu
  simp [encB] at hp
  rcases hp with rfl | rfl <;> rfl
theorem row_below {w w' : World} {base e k B : Nat} {v : Value} {m : Nat} {xs : List Value} (h : w.ownsRow base e k v m xs) (hb : Below B w w') (hB : w.heap.size ≤ B) : w'.ownsRow base e k v m xs := by
  refine ⟨h.1, ?_⟩
  rcases h.2 with h2 | ⟨g, cap, cur, h3, h4, h5, h6⟩
  · exact .inl h2
  · have hlt : g < w.heap.size := (Array.getElem?_eq_some_iff.1 h5).1
    exact .inr ⟨g, cap, cur, h3, h4, (hb.block g (by omega)).trans h5, h6⟩
theorem OwnB.below {w w' : World} {base B : Nat} {v : Value} {l : List Bd} (h : OwnB w base v l) (hb : Below B w w') (hB : w.heap.size ≤ B) : OwnB w' base v l := row_below h hb hB
theorem OwnS.below {w w' : World} {base B : Nat} {v : Value} {l : List By} (h : OwnS w base v l) (hb : Below B w w') (hB : w.heap.size ≤ B) : OwnS w' base v l := row_below h hb hB
theorem below_own {w w' : World} {base e k : Nat} {v : Value} {m : Nat} {xs : List Value} (ho : w.ownsRow base e k v m xs) (hg : w.grownBy w' v.ownBlock) (hb : base ≤ w.heap.size) : Below base w w' :=
  (Below.refl _ _).grown hg hb fun j hj => (World.ownsRow.lt ho j hj).1
theorem cells_new (w : World) (xs : List Value) (t : TypeId) : ∀ j u, xs[j]? = some u → (w.alloc (.cells xs.toArray t)).cell? ((⟨w.heap.size, 0, none⟩ : Addr).add j) = some u := by
  intro j u h
  have hadd : (⟨w.heap.size, 0, none⟩ : Addr).add j = ⟨w.heap.size, j, none⟩ := by unfold Addr.add; split <;> simp_all
  rw [hadd, cell_of_row _ _ j xs.toArray t (0, 0) (heap_alloc_new w _)]
  simpa using h
theorem snocB {w : World} {base : Nat} {v : Value} {l : List Bd} {p : Bd} (h : w.ownsRow base 33 2 v (l.length + 1) (l.flatMap encB ++ encB p)) : OwnB w base v (l ++ [p]) := by
  unfold OwnB; rw [List.length_append, List.flatMap_append]; simpa using h
theorem snocS {w : World} {base : Nat} {v : Value} {l : List By} {p : By} (h : w.ownsRow base 9 1 v (l.length + 1) (l.flatMap encS ++ encS p)) : OwnS w base v (l ++ [p]) := by
  unfold OwnS; rw [List.length_append, List.flatMap_append]; simpa using h
theorem OwnB.nil (w : World) (base : Nat) : OwnB w base (.slice none 0 0) [] := World.ownsRow_nil _ _ _ _
theorem OwnS.nil (w : World) (base : Nat) : OwnS w base (.slice none 0 0) [] := World.ownsRow_nil _ _ _ _
theorem str_eq (s : ByteArray) : bsl s.data.toList = s := rfl
theorem bsl_list (n : By) : (bsl n).data.toList = n := rfl
theorem bsl_toList (n : By) : (bsl n).toList = n := by rw [Lib.toList_data]; rfl
theorem bsl_size (l : By) : (bsl l).size = l.length := by rw [← size_list]; rfl
theorem bsl_inj {a b : By} (h : bsl a = bsl b) : a = b := congrArg (fun s : ByteArray => s.data.toList) h
theorem bindInfo : (Tryd.prog.info? 33).map (fun i => (i.zero, i.size, i.bytes)) = some (some (.agg #[.string ⟨#[]⟩, .string ⟨#[]⟩]), 2, 32) := by kernel_rfl
theorem strInfo : (Tryd.prog.info? 9).map (fun i => (i.zero, i.size, i.bytes)) = some (some (.string ⟨#[]⟩), 1, 16) := by kernel_rfl
end Go.Proofs.YtaallpfkgcndmaaDoor.Pm
