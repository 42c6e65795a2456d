/-
  The reference's Join: plain part, rows whose last text is written, small runs.
-/
import Derived.Test.YtlceaadaeednpaaTrJl
namespace Go.Proofs.Ytlceaadaeednpaa.Tr
open Go.RowKit
set_option linter.unusedVariables false

/-- The list so far, in the reference's way. -/
def foR (l : List Nd) : List Nd := flP (foJ l).1 (foJ l).2
theorem foR_join (l : List Nd) : foR l = join l := foJ_join l
theorem foR_len (l : List Nd) (k : Nat) : (foR (l.take k)).length ≤ sz l := Nat.le_trans (flP_len _ _) (foJ_len l k)
/-- The last of what is there is no text. -/
def Nt (out : List Nd) : Prop := ∀ m, out.getLast? = some m → m.kind ≠ 1
theorem foldJ_nt : ∀ (l : List Nd) (out : List Nd) (x : List UInt8), (x = [] → Nt out) → (l.foldl stJ (out, x)).2 = [] → Nt (l.foldl stJ (out, x)).1
  | [], out, x, h, hx => h hx
  | n :: r, out, x, h, hx => by
    rw [List.foldl_cons] at hx ⊢
    by_cases hk : n.kind = 1
    · have e : stJ (out, x) n = (out, x ++ n.text.data.toList) := by simp [stJ, hk]
      rw [e] at hx ⊢
      refine foldJ_nt r _ _ (fun q => h ?_) hx
      exact (List.append_eq_nil_iff.1 q).1
    · have e : stJ (out, x) n = (flP out x ++ [jb n], []) := by simp [stJ, hk]
      rw [e] at hx ⊢
      refine foldJ_nt r _ _ (fun _ m hm => ?_) hx
      rw [List.getLast?_append] at hm
      simp at hm
      subst hm
      exact hk
/-- How the list so far ends. -/
theorem foR_cases (l : List Nd) : (∃ out x, x ≠ [] ∧ foJ l = (out, x) ∧ foR l = out ++ [txN ⟨x.toArray⟩]) ∨ (Nt (foR l) ∧ (foJ l).2 = [] ∧ foR l = (foJ l).1) := by
  by_cases hx : (foJ l).2 = []
  · right
    have e : foR l = (foJ l).1 := by unfold foR flP; rw [hx]; rfl
    refine ⟨?_, hx, e⟩
    rw [e]
    exact foldJ_nt l [] [] (fun _ m hm => by simp at hm) hx
  · left
    refine ⟨(foJ l).1, (foJ l).2, hx, rfl, ?_⟩
    unfold foR flP
    cases h : (foJ l).2 with
    | nil => exact absurd h hx
    | cons c x => rfl
theorem foR_other {l : List Nd} {k : Nat} (h : k < l.length) (hk : l[k].kind ≠ 1) : foR (l.take (k + 1)) = foR (l.take k) ++ [jb l[k]] := by
  unfold foR
  rw [foJ_take h]
  simp [stJ, hk, flP]
theorem foR_empty {l : List Nd} {k : Nat} (h : k < l.length) (hk : l[k].kind = 1) (he : l[k].text.size = 0) : foR (l.take (k + 1)) = foR (l.take k) := by
  unfold foR
  rw [foJ_take h]
  simp [stJ, hk, empty_list he]
theorem foR_new {l : List Nd} {k : Nat} (h : k < l.length) (hk : l[k].kind = 1) (he : l[k].text.size ≠ 0) (hx : (foJ (l.take k)).2 = []) : foR (l.take (k + 1)) = foR (l.take k) ++ [txN l[k].text] := by
  have e : foR (l.take k) = (foJ (l.take k)).1 := by unfold foR flP; rw [hx]; rfl
  rw [e]
  unfold foR
  rw [foJ_take h]
  simp only [stJ, hk, if_true, hx, List.nil_append]
  unfold flP
  cases hd : l[k].text.data.toList with
  | nil => exact absurd (by rw [ba_sizeJ, hd]; rfl) he
  | cons c x =>
    simp only [List.isEmpty_cons, Bool.false_eq_true, if_false]
    congr 2
    rw [← hd]
theorem foR_more {l : List Nd} {k : Nat} (h : k < l.length) (hk : l[k].kind = 1) {out : List Nd} {x : List UInt8} (hx : x ≠ []) (hf : foJ (l.take k) = (out, x)) : foR (l.take (k + 1)) = out ++ [txN ⟨(x ++ l[k].text.data.toList).toArray⟩] := by
  unfold foR
  rw [foJ_take h, hf]
  simp only [stJ, hk, if_true]
  unfold flP
  cases x with
  | nil => exact absurd rfl hx
  | cons c x => rfl
/-- The text of the last node written anew. -/
theorem RowN.setText {d lo : Nat} {w : World} {g cap : Nat} {l : List Nd} {k0 t0 : Int} {s0 s : ByteArray} {n0 : List Nd} {x0 : List Ar} (h : RowN d lo w (.slice (some ⟨g, 0, none⟩) (l.length + 1) cap) (l ++ [.mk k0 t0 s0 n0 x0])) :
    RowN d lo (w.setCell ⟨g, l.length * 5 + 2, none⟩ (.string s)) (.slice (some ⟨g, 0, none⟩) (l.length + 1) cap) (l ++ [.mk k0 t0 s n0 x0]) := by
  obtain ⟨ys, h1, h2⟩ := h
  have he : (l ++ [Nd.mk k0 t0 s0 n0 x0]).length = l.length + 1 := by simp
  have he2 : (l ++ [Nd.mk k0 t0 s n0 x0]).length = l.length + 1 := by simp
  rw [he] at h1
  obtain ⟨xs, zs, rfl, c1, c2⟩ := cells_split l _ _ h2
  have hz5 : zs.length = 5 := by have := c2.length; simpa using this
  match zs, hz5, c2 with
  | [a0, a1, a2, a3, a4], _, c2 =>
    have hl := c1.length
    have o5 := own_setR h1 (l.length * 5 + 2) (.string s)
    have e : (xs ++ [a0, a1, a2, a3, a4]).set (l.length * 5 + 2) (.string s) = xs ++ [a0, a1, .string s, a3, a4] := by rw [← hl]; simp
    rw [e] at o5
    have same : ∀ q, Out lo w (some g) q → Out lo (w.setCell ⟨g, l.length * 5 + 2, none⟩ (.string s)) (some g) q := fun q hq => ⟨hq.1, by simpa using hq.2.1, hq.2.2.1, hq.2.2.2.same (heap_set_ne (fun e => hq.2.2.1 (by rw [e])))⟩
    have cell : ∀ p : Addr, Out lo w (some g) p.block → (w.setCell ⟨g, l.length * 5 + 2, none⟩ (.string s)).cell? p = w.cell? p := fun p hq => World.cell?_of_block (heap_set_ne (fun e => hq.2.2.1 (by rw [e])))
    refine ⟨xs ++ [a0, a1, .string s, a3, a4], by rw [he2]; exact o5, Cells.append (c1.imp (fun _ _ q => q.imp same cell) (fun _ _ q => ARx.imp q same cell)) ?_⟩
    obtain ⟨b0, b1, b2, f1, f2, b3, b4, _⟩ := c2
    show Cells _ _ [a0, a1, .string s, a3, a4] [.mk k0 t0 s n0 x0]
    exact ⟨b0, b1, rfl, f1, f2, b3.imp same cell, ARx.imp b4 same cell, trivial⟩
/-- The cells of the last node of a row. -/
theorem RowN.last {d lo : Nat} {w : World} {v : Value} {l : List Nd} {m : Nd} (h : RowN d lo w v (l ++ [m])) : ∃ g cap, v = .slice (some ⟨g, 0, none⟩) (l.length + 1) cap ∧ l.length + 1 ≤ cap ∧ cap ≤ 9223372036854775807 ∧ lo ≤ g ∧ g < w.heap.size ∧ w.cell? ⟨g, l.length * 5, none⟩ = some (.int .i64 m.kind) ∧ w.cell? ⟨g, l.length * 5 + 2, none⟩ = some (.string m.text) ∧ w.frozen? ⟨g, l.length * 5 + 2, none⟩ = false := by
  obtain ⟨ys, h1, h2⟩ := h
  have hlen : (l ++ [m]).length = l.length + 1 := by simp
  rw [hlen] at h1
  have h3 := own_lt h1
  rcases h1.2 with ⟨_, e⟩ | ⟨g, cap, cur, rfl, hg, hh, r1, r2, r3, r4⟩
  · omega
  · obtain ⟨vk, va, a0, a1, a2, _⟩ := h2.get l.length m (by simp)
    have q := fun {j : Nat} {u : Value} (hj : ys[j]? = some u) => cell_row hh r4 hj
    refine ⟨g, cap, rfl, r1, by simpa [maxLen] using r2, hg, (h3 g rfl).2, by simpa using q a0, by simpa using q a2, by simp [World.frozen?, hh]⟩
end Go.Proofs.Ytlceaadaeednpaa.Tr
