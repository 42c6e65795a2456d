/-
  The law ParameterLast, for every list of arguments and every name, text and name that is asked for.
-/
import Derived.Test.YtaallpfkgcndmaaDoorPmKnown
import Derived.Deep.AppendLies
namespace Go.Proofs.YtaallpfkgcndmaaDoor.Pm
open Go.RowKit Go.Shelf
set_option linter.unusedVariables false
set_option linter.unusedSimpArgs false

theorem wpList_app {P : Program} {ops : Array Oper} {rest : List Oper} {o : Oper} {a : Act} {Q : Exit → Act → World → Prop} {w w' : World} {v u v' : Value} (hgd : o.guard = none) (s x : Operand) (t : TypeId)
    (ho : o.op = .call { callee := .builtin .append, args := #[s, x], argTypes := #[t, t] }) (hs : a.eval s = v) (hx : a.eval x = u) (hr : (Builtin.append_ #[t, t] o.type #[v, u]).run P w = .ok v' w') (h : wpList P ops Q rest (a.put o.dst v') w') : wpList P ops Q (o :: rest) a w := by
  refine wpList_plain hgd fun K hK => ?_
  unfold Oper.wp execOp
  simp only [ho, resolve, invoke, builtin, Sem.run_bind, Sem.run_pure, Result.andThen_ok, List.map_toArray, List.map_cons, List.map_nil, hs, hx, hr]
  exact hK _ _ h
theorem valInfo : (Tryd.prog.info? 40).map (fun i => (i.zero, i.size, i.bytes)) = some (some (.agg #[.bool false, .string ⟨#[]⟩, .string ⟨#[]⟩]), 3, 40) := by kernel_rfl
def OwnV (w : World) (base : Nat) (v : Value) (l : List Val) : Prop := w.ownsRow base 40 3 v l.length (l.flatMap encV)
theorem OwnV.rd {w : World} {base : Nat} {v : Value} {l : List Val} (h : OwnV w base v l) : RdV w w.heap.size v l := rd_own encV_len h
theorem flatV_len (l : List Val) : (l.flatMap encV).length = l.length * 3 := by
  induction l with
  | nil => rfl
  | cons a r ih => rw [List.flatMap_cons, List.length_append, ih, encV_len, List.length_cons]; omega
theorem flatV_one (l : List Val) : ∀ u ∈ l.flatMap encV, u.oneCell' = true := fun u hu => by
  obtain ⟨p, _, hp⟩ := List.mem_flatMap.1 hu
  simp [encV] at hp
  rcases hp with rfl | rfl | rfl <;> rfl
theorem flat_get {α : Type} {k : Nat} {enc : α → List Value} (hk : ∀ x, (enc x).length = k) (h0 : 0 < k) : ∀ (l : List α) (j : Nat) (u : Value), (l.flatMap enc)[j]? = some u → ∃ i x q, l[i]? = some x ∧ (enc x)[q]? = some u ∧ j = i * k + q
  | [], j, u, h => by simp at h
  | a :: r, j, u, h => by
    rw [List.flatMap_cons] at h
    by_cases hj : j < k
    · rw [List.getElem?_append_left (by rw [hk]; exact hj)] at h
      exact ⟨0, a, j, rfl, h, by omega⟩
    · rw [List.getElem?_append_right (by rw [hk]; omega), hk] at h
      obtain ⟨i, x, q, h1, h2, h3⟩ := flat_get hk h0 r (j - k) u h
      exact ⟨i + 1, x, q, by simpa using h1, h2, by rw [Nat.succ_mul]; omega⟩
/-- A copy of a slice of arguments. -/
theorem run_copyV (w : World) (ty : TypeId) (v : Value) (l : List Val) (hr : RdV w w.heap.size v l) (hl : l.length ≤ 1000) :
    ∃ v' w', (Builtin.append_ #[22, 22] ty #[.slice none 0 0, v]).run Tryd.prog w = .ok v' w' ∧ OwnV w' w.heap.size v' l ∧ Below w.heap.size w w' := by
  obtain ⟨i0, hi, hz0, hz1, hz2⟩ := info_parts valInfo
  obtain ⟨A, c, rfl, h1, h2, h3⟩ := hr.ex
  by_cases h0 : l.length = 0
  · have hl0 := List.length_eq_zero_iff.1 h0
    subst hl0
    refine ⟨.slice none 0 0, w, ?_, World.ownsRow_nil _ _ _ _, Below.refl _ _⟩
    cases A with
    | none => simp [Builtin.append_, run_underlying Tryd.underlying22, sizeOf, typeInfo, hi, Builtin.lenOf, Builtin.firstCells]
    | some ad => simp [Builtin.append_, run_underlying Tryd.underlying22, sizeOf, typeInfo, hi, Builtin.lenOf, Builtin.firstCells, loadCells, loadCellsFrom]
  · obtain ⟨g, o, rfl, hg, hc⟩ := h3 (by omega)
    have hne : ∀ j u, (l.flatMap encV)[j]? = some u → w.cell? ((⟨g, o, none⟩ : Addr).add j) = some u := fun j u hj => by
      obtain ⟨i, x, q, e1, e2, e3⟩ := flat_get encV_len (by omega) l j u hj
      have := hc i x e1 q u e2
      have ha : (⟨g, o, none⟩ : Addr).add j = ⟨g, o + j, none⟩ := by
        unfold Addr.add; split
        · rename_i e; rw [e]; rfl
        · rfl
      rw [ha, e3]
      simpa [Nat.add_assoc] using this
    obtain ⟨g', cap', w', r0, r1, r2, r3, r4⟩ := run_append_lies (P := Tryd.prog) w 22 ty w.heap.size 40 i0 _ 3 40 Tryd.underlying22 hi hz0 hz1 hz2 rfl (by omega) (.slice none 0 0) 0 [] (World.ownsRow_nil _ _ _ _) ⟨g, o, none⟩ l.length c (l.flatMap encV) (flatV_len l) hne (flatV_one l) (by omega) (by simp only [maxLen]; omega) (by omega) (Nat.le_refl _) w.heap.size rfl
    rw [Nat.zero_add] at r0
    rw [Nat.zero_add, List.nil_append] at r1
    exact ⟨_, w', r0, r1, (Below.refl _ _).grown r2 (Nat.le_refl _) (fun k q => by cases q)⟩
/-- One argument behind a row of the call's own. -/
theorem run_pushV (w : World) (ty : TypeId) (v : Value) (l : List Val) (x : Val) (base b : Nat) (hrow : OwnV w base v l) (hb : w.heap[b]? = some (.cells (encV x).toArray 40)) (hl : l.length ≤ 1000) (hbase : base ≤ w.heap.size) :
    ∃ v' w', (Builtin.append_ #[22, 22] ty #[v, .slice (some ⟨b, 0, none⟩) 1 1]).run Tryd.prog w = .ok v' w' ∧ OwnV w' base v' (l ++ [x]) ∧ Below base w w' := by
  obtain ⟨i0, hi, hz0, hz1, hz2⟩ := info_parts valInfo
  have hlen := flatV_len l
  obtain ⟨g', cap', w', r0, r1, r2, r3, r4⟩ := run_append_lies (P := Tryd.prog) w 22 ty base 40 i0 _ 3 40 Tryd.underlying22 hi hz0 hz1 hz2 rfl (by omega) v l.length (l.flatMap encV) hrow ⟨b, 0, none⟩ 1 1 (encV x) rfl (World.news_of_block (cs := (encV x).toArray) hb) (by simp [encV, Value.oneCell']) (by omega) (by simp only [maxLen]; omega) (by omega) hbase w.heap.size rfl
  refine ⟨_, w', r0, ?_, (Below.refl _ _).grown r2 hbase (fun k q => (World.ownsRow.lt hrow k q).1)⟩
  unfold OwnV
  rw [List.length_append, List.flatMap_append]
  simpa using r1
end Go.Proofs.YtaallpfkgcndmaaDoor.Pm
