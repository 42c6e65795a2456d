/-
  An argument that reads as a datum is a slice of arguments, bindings or strings in memory.
-/
import Derived.Test.YtaallpfkgcndmaaDoorPmMem
import Derived.ProofKit
import Derived.OpenShut
import Derived.ShutString
import Derived.Deep.Slices
import Derived.ChangeSlices
namespace Go.Proofs.YtaallpfkgcndmaaDoor.Pm
open Go.RowKit Go.Deep

theorem len3 {α : Type} : ∀ {l : List α}, l.length = 3 → ∃ a b c, l = [a, b, c]
  | [a, b, c], _ => ⟨a, b, c, rfl⟩
theorem len2 {α : Type} : ∀ {l : List α}, l.length = 2 → ∃ a b, l = [a, b]
  | [a, b], _ => ⟨a, b, rfl⟩
section
variable {H : Type} {enc : TypeId × Value → H} {w : World}
theorem spot_none {a : Addr} {v : Value} (h : w.cell? a = some v) : a.spot = none ∧ a.block < w.heap.size := by
  unfold World.cell? at h
  split at h
  · rename_i c _ _ hc
    refine ⟨?_, (Array.getElem?_eq_some_iff.1 hc).1⟩
    cases hs : a.spot with
    | none => rfl
    | some s => simp [hs] at h
  · cases h
theorem cells_at {g o j n : Nat} {cs : List Value} (h : w.cells? 0 ((⟨g, o, none⟩ : Addr).add j) n = some cs) : cs.length = n ∧ ∀ i, i < n → w.cell? ⟨g, o + j + i, none⟩ = cs[i]? := by
  obtain ⟨_, h2, h3⟩ := World.cells?_some h
  refine ⟨h2, fun i hi => ?_⟩
  rw [← h3 i hi, add_add]
  unfold Addr.add
  split
  · rename_i e; rw [show o + j + i = o by omega]
  · rw [Nat.add_assoc]
/-- A slice whose elements read as values of one kind. -/
theorem open_row {α : Type} {k : Nat} {ec : α → List Value} (hk : ∀ x, (ec x).length = k) (hk0 : 0 < k) {T E : TypeId} (hT : Tryd.prog.underlying T = some (.slice E)) (hc : Tryd.prog.cellsOf E = k)
    (ho : ∀ (n : Nat) (cs : List Value) (y : DataW H × List MemPlace), DataW.trod enc Tryd.prog w 0 (fun _ => true) true n E cs = some y → ∃ x : α, cs = ec x)
    {n : Nat} {cs : List Value} {x : DataW H × List MemPlace} (h : DataW.trod enc Tryd.prog w 0 (fun _ => true) true n T cs = some x) : ∃ v l, cs = [v] ∧ Rd k ec w w.heap.size v l := by
  rcases open_slice hT h with ⟨rfl, _⟩ | ⟨a, len, cap, m, n', D, Pl, rfl, _, hl, hm, hmm, _, hx⟩
  · exact ⟨_, [], rfl, ⟨none, 0, rfl, Nat.le_refl _, by simp [maxLen], fun h => absurd h (by simp)⟩⟩
  · rw [hc] at hx
    have hlm : len ≤ m := by rw [hmm]; simpa using hl
    by_cases h0 : len = 0
    · subst h0
      exact ⟨_, [], rfl, ⟨some a, cap, rfl, Nat.zero_le _, hm, fun h => absurd h (by simp)⟩⟩
    obtain ⟨g, o, sp⟩ := a
    have hsp : sp = none ∧ g < w.heap.size := by
      obtain ⟨cs', h1, _⟩ := hx 0 (by omega)
      obtain ⟨_, h2, h3⟩ := World.cells?_some h1
      have h4 := h3 0 (by omega)
      rw [show ((⟨g, o, sp⟩ : Addr).add (0 * k)).add 0 = ⟨g, o, sp⟩ by simp [Addr.add], List.getElem?_eq_getElem (by omega)] at h4
      exact spot_none h4
    obtain ⟨rfl, hg⟩ := hsp
    have key : ∀ i, i < len → ∃ y : α, ∀ j u, (ec y)[j]? = some u → w.cell? ⟨g, o + i * k + j, none⟩ = some u := by
      intro i hi
      obtain ⟨cs', h1, h2⟩ := hx i (by omega)
      obtain ⟨y, rfl⟩ := ho _ _ _ h2
      obtain ⟨_, h4⟩ := cells_at h1
      exact ⟨y, fun j u hj => by rw [h4 j (by have := (List.getElem?_eq_some_iff.1 hj).1; rw [hk] at this; exact this), hj]⟩
    obtain ⟨y0, _⟩ := key 0 (by omega)
    have : Inhabited α := ⟨y0⟩
    obtain ⟨f, hf⟩ := choose_lt key
    refine ⟨_, (List.range len).map f, rfl, ⟨some ⟨g, o, none⟩, cap, by simp, by simpa using hl, hm, fun _ => ⟨g, o, rfl, hg, fun i y hy j u hu => ?_⟩⟩⟩
    rw [List.getElem?_map] at hy
    obtain ⟨i', h1, h2⟩ := Option.map_eq_some_iff.1 hy
    obtain ⟨h3, h4⟩ := List.getElem?_eq_some_iff.1 h1
    rw [List.getElem_range] at h4
    subst h4 h2
    exact hf i (by simpa using h3) j u hu
theorem cellsStr : Tryd.prog.cellsOf 9 = 1 := by kernel_rfl
theorem open_strS (n : Nat) (cs : List Value) (y : DataW H × List MemPlace) (h : DataW.trod enc Tryd.prog w 0 (fun _ => true) true n 9 cs = some y) : ∃ x : By, cs = encS x := by
  obtain ⟨s, h1, _, _⟩ := DataW.trod_string Tryd.underlying9 h
  exact ⟨s.data.toList, h1⟩
theorem cellsBool : Tryd.prog.cellsOf 4 = 1 := by kernel_rfl
theorem cellsVal : Tryd.prog.cellsOf 40 = 3 := by kernel_rfl
theorem cellsBnd : Tryd.prog.cellsOf 33 = 2 := by kernel_rfl
theorem open_valV (n : Nat) (cs : List Value) (y : DataW H × List MemPlace) (h : DataW.trod enc Tryd.prog w 0 (fun _ => true) true n 40 cs = some y) : ∃ x : Val, cs = encV x := by
  obtain ⟨xs, m, rfl, rfl, hl, hlen, hf⟩ := DataW.trod_struct Tryd.underlying40 h
  rw [cellsVal] at hl
  obtain ⟨c0, c1, c2, rfl⟩ := len3 hl
  have hlen' : xs.length = 3 := hlen
  obtain ⟨x0, x1, x2, rfl⟩ := len3 hlen'
  have g0 : DataW.trod enc Tryd.prog w 0 (fun _ => true) true m 4 (([c0, c1, c2].drop 0).take (Tryd.prog.cellsOf 4)) = some x0 := hf 0 _ rfl
  have g1 : DataW.trod enc Tryd.prog w 0 (fun _ => true) true m 9 (([c0, c1, c2].drop 1).take (Tryd.prog.cellsOf 9)) = some x1 := hf 1 _ rfl
  have g2 : DataW.trod enc Tryd.prog w 0 (fun _ => true) true m 9 (([c0, c1, c2].drop 2).take (Tryd.prog.cellsOf 9)) = some x2 := hf 2 _ rfl
  rw [cellsBool] at g0
  rw [cellsStr] at g1 g2
  obtain ⟨b, e0, rfl⟩ := DataW.trod_bool Tryd.underlying4 g0
  obtain ⟨s1, e1, _, _⟩ := DataW.trod_string Tryd.underlying9 g1
  obtain ⟨s2, e2, _, _⟩ := DataW.trod_string Tryd.underlying9 g2
  have e0' : c0 = .bool b := List.cons.inj e0 |>.1
  have e1' : c1 = .string s1 := List.cons.inj e1 |>.1
  have e2' : c2 = .string s2 := List.cons.inj e2 |>.1
  exact ⟨(b, s1.data.toList, s2.data.toList), by rw [e0', e1', e2']; rfl⟩
theorem open_bndB (n : Nat) (cs : List Value) (y : DataW H × List MemPlace) (h : DataW.trod enc Tryd.prog w 0 (fun _ => true) true n 33 cs = some y) : ∃ x : Bd, cs = encB x := by
  obtain ⟨xs, m, rfl, rfl, hl, hlen, hf⟩ := DataW.trod_struct Tryd.underlying33 h
  rw [cellsBnd] at hl
  obtain ⟨c0, c1, rfl⟩ := len2 hl
  have hlen' : xs.length = 2 := hlen
  obtain ⟨x0, x1, rfl⟩ := len2 hlen'
  have g0 : DataW.trod enc Tryd.prog w 0 (fun _ => true) true m 9 (([c0, c1].drop 0).take (Tryd.prog.cellsOf 9)) = some x0 := hf 0 _ rfl
  have g1 : DataW.trod enc Tryd.prog w 0 (fun _ => true) true m 9 (([c0, c1].drop 1).take (Tryd.prog.cellsOf 9)) = some x1 := hf 1 _ rfl
  rw [cellsStr] at g0 g1
  obtain ⟨s1, e1, _, _⟩ := DataW.trod_string Tryd.underlying9 g0
  obtain ⟨s2, e2, _, _⟩ := DataW.trod_string Tryd.underlying9 g1
  have e1' : c0 = .string s1 := List.cons.inj e1 |>.1
  have e2' : c1 = .string s2 := List.cons.inj e2 |>.1
  exact ⟨(s1.data.toList, s2.data.toList), by rw [e1', e2']; rfl⟩
theorem open_vals {n : Nat} {cs : List Value} {x : DataW H × List MemPlace} (h : DataW.trod enc Tryd.prog w 0 (fun _ => true) true n 22 cs = some x) : ∃ v l, cs = [v] ∧ RdV w w.heap.size v l :=
  open_row encV_len (by omega) Tryd.underlying22 cellsVal open_valV h
theorem open_binds {n : Nat} {cs : List Value} {x : DataW H × List MemPlace} (h : DataW.trod enc Tryd.prog w 0 (fun _ => true) true n 25 cs = some x) : ∃ v l, cs = [v] ∧ RdB w w.heap.size v l :=
  open_row encB_len (by omega) Tryd.underlying25 cellsBnd open_bndB h
theorem open_strsS {n : Nat} {cs : List Value} {x : DataW H × List MemPlace} (h : DataW.trod enc Tryd.prog w 0 (fun _ => true) true n 30 cs = some x) : ∃ v l, cs = [v] ∧ RdS w w.heap.size v l :=
  open_row encS_len (by omega) Tryd.underlying30 cellsStr open_strS h
end
end Go.Proofs.YtaallpfkgcndmaaDoor.Pm
