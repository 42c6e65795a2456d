/-
  What is known of the tokens of a text: TF holds of each of them.
  What Parse needs: tokens in memory, and the last operation of a region that is a call.
  The contract of Parse.
  The contract of trclaw4's known.
  The law ParseKeeps, for every text.
-/
import Derived.Test.YtdojbnngdlmbgaaGreatDoorPaA
import Derived.Test.YtdojbnngdlmbgaaGreatDoorTkPure
import Derived.Test.YtdojbnngdlmbgaaGreatDoorPaE
import Derived.Test.YtdojbnngdlmbgaaGreatDoorTkTag
import Derived.Test.YtdojbnngdlmbgaaGreatDoorTrREq
namespace Go.Proofs.YtdojbnngdlmbgaaGreatDoor.Pa
open Go.Proofs.YtdojbnngdlmbgaaGreatDoor

/-- The tag of a token. -/
def tgOf (k : Nat) (x : List UInt8) : Nat → Nat → Nat
  | 0, _ => 0
  | n + 1, j => if (k = 11 ∧ x = Tk.tO j) ∨ (k = 12 ∧ x = Tk.tE j) then j else tgOf k x n (j + 1)
theorem TF.plain {k : Nat} {s : List UInt8} {t : Int} (h : k ≠ 10 ∧ k ≠ 3 ∧ k ≠ 4 ∧ k ≠ 11 ∧ k ≠ 12 ∧ k ≠ 7 ∧ k ≠ 8) : TF k s t := by
  obtain ⟨h1, h2, h3, h4, h5, h6, h7⟩ := h
  exact ⟨fun q => absurd q h1, fun q => absurd q h2, fun q => absurd q h3, fun q => absurd q h4, fun q => absurd q h5, fun q => absurd q h6, fun q => absurd q h7⟩
theorem tO_eq : ∀ j : Nat, 1 ≤ j → j ≤ 3 → Tk.tO j = tO (j : Int) ∧ Tk.tE j = tE (j : Int)
  | 1, _, _ => ⟨rfl, rfl⟩
  | 2, _, _ => ⟨rfl, rfl⟩
  | 3, _, _ => ⟨rfl, rfl⟩
  | 0, h, _ => by omega
  | n + 4, _, h => by omega
theorem tgOf_open : ∀ j : Nat, 1 ≤ j → j ≤ 3 → tgOf 11 (Tk.tO j) 3 1 = j ∧ tgOf 12 (Tk.tE j) 3 1 = j
  | 1, _, _ => ⟨by decide, by decide⟩
  | 2, _, _ => ⟨by decide, by decide⟩
  | 3, _, _ => ⟨by decide, by decide⟩
  | 0, h, _ => by omega
  | n + 4, _, h => by omega
theorem rep_of {c : UInt8} : ∀ l : List UInt8, (l.takeWhile (· == c)) = List.replicate (l.takeWhile (· == c)).length c
  | [] => rfl
  | d :: l => by
    by_cases h : d = c
    · subst h
      simp only [List.takeWhile_cons, beq_self_eq_true, if_true, List.length_cons, List.replicate_succ]
      rw [← rep_of l]
    · simp [h]
theorem take_run (c : UInt8) (l : List UInt8) : l.take (Tk.run c l) = List.replicate (Tk.run c l) c := by
  have h := List.takeWhile_prefix (p := (· == c)) (l := l)
  have e := List.prefix_iff_eq_take.1 h
  unfold Tk.run
  rw [← e]; exact rep_of l
theorem TF.tagFrom (l : List UInt8) : ∀ n j, 1 ≤ j → n + j ≤ 4 → (Tk.tagFrom l n j).2 ≠ 0 → TF (Tk.tagFrom l n j).1 (l.take (Tk.tagFrom l n j).2) (tgOf (Tk.tagFrom l n j).1 (l.take (Tk.tagFrom l n j).2) 3 1)
  | 0, _, _, _, h => absurd rfl h
  | n + 1, j, h1, h2, h => by
    unfold Tk.tagFrom at h ⊢
    split
    · rename_i hp
      have e := Tk.hp_eq hp
      simp only [e]
      refine ⟨(fun q => by cases q), (fun q => by cases q), (fun q => by cases q), fun _ => ?_, (fun q => by cases q), (fun q => by cases q), (fun q => by cases q)⟩
      rw [(tgOf_open j h1 (by omega)).1]
      exact ⟨(tO_eq j h1 (by omega)).1, by omega, by omega⟩
    · split
      · rename_i hp
        have e := Tk.hp_eq hp
        simp only [e]
        refine ⟨(fun q => by cases q), (fun q => by cases q), (fun q => by cases q), (fun q => by cases q), fun _ => ?_, (fun q => by cases q), (fun q => by cases q)⟩
        rw [(tgOf_open j h1 (by omega)).2]
        exact (tO_eq j h1 (by omega)).2
      · rename_i hp hq
        rw [if_neg hp, if_neg hq] at h
        exact TF.tagFrom l n (j + 1) (by omega) (by omega) h
theorem occ_at {r e : List UInt8} {j : Nat} (h : Lib.index r e = (j : Int)) : (r.drop j).take e.length = e := by
  rcases Lib.index_spec r e with ⟨q, _⟩ | ⟨i, q, _, ho, _⟩
  · omega
  · have : i = j := by omega
    subst this
    unfold Lib.occAt at ho
    rw [List.isPrefixOf_iff_prefix] at ho
    exact (List.prefix_iff_eq_take.1 ho).symm
theorem nowiki_eq {l : List UInt8} (hp : Lib.hasPrefix l Tk.nO = true) (h : Tk.upTo l Tk.nO Tk.nE ≠ 0) : l.take (Tk.upTo l Tk.nO Tk.nE) = Tr.nowikiL ++ within (l.take (Tk.upTo l Tk.nO Tk.nE)) ++ Tr.nowikiR := by
  obtain ⟨r, rfl⟩ := Tk.hp_app hp
  unfold Tk.upTo at h ⊢
  have hd : (Tk.nO ++ r).drop Tk.nO.length = r := by simp
  rw [hd] at h ⊢
  split
  · rename_i q; rw [if_pos q] at h; exact absurd rfl h
  · rename_i q
    have hg := Lib.index_ge r Tk.nE
    obtain ⟨j, hj⟩ : ∃ j : Nat, Lib.index r Tk.nE = (j : Int) := ⟨(Lib.index r Tk.nE).toNat, by omega⟩
    have hr := Lib.index_room r Tk.nE (by omega)
    have ho := occ_at hj
    rw [hj] at hr ⊢
    have hlen : j + Tk.nE.length ≤ r.length := by omega
    have e : (Tk.nO ++ r).take (Tk.nO.length + (j : Int).toNat + Tk.nE.length) = Tk.nO ++ (r.take j ++ Tk.nE) := by
      rw [Int.toNat_natCast, show Tk.nO.length + j + Tk.nE.length = Tk.nO.length + (j + Tk.nE.length) by omega, List.take_length_add_append]
      congr 1
      rw [List.take_add, ho]
    rw [e]
    have hl8 : Tk.nO.length = 8 := rfl
    have hl9 : Tk.nE.length = 9 := rfl
    have hw : within (Tk.nO ++ (r.take j ++ Tk.nE)) = r.take j := by
      unfold within
      have e1 : (Tk.nO ++ (r.take j ++ Tk.nE)).drop 8 = r.take j ++ Tk.nE := by rw [← hl8]; simp
      have e2 : (Tk.nO ++ (r.take j ++ Tk.nE)).length - 17 = (r.take j).length := by simp only [List.length_append, hl8, hl9]; omega
      rw [e1, e2]; simp
    rw [hw]
    show _ = Tk.nO ++ r.take j ++ Tk.nE
    rw [List.append_assoc]
theorem TF.mark (l : List UInt8) (h : (Tk.mark l).2 ≠ 0) : TF (Tk.mark l).1 (l.take (Tk.mark l).2) (tgOf (Tk.mark l).1 (l.take (Tk.mark l).2) 3 1) := by
  unfold Tk.mark at h ⊢
  split
  · rename_i q; simp at h
  · rename_i c r
    simp only at h
    split
    · rename_i hc
      rw [if_pos hc] at h
      unfold Tk.angle at h ⊢
      split
      · exact TF.plain (by simp)
      · rename_i q1
        rw [if_neg q1] at h
        split
        · rename_i q2
          rw [if_pos q2] at h
          exact ⟨fun _ => nowiki_eq q2 h, (fun q => by cases q), (fun q => by cases q), (fun q => by cases q), (fun q => by cases q), (fun q => by cases q), (fun q => by cases q)⟩
        · rename_i q2
          rw [if_neg q2] at h
          exact TF.tagFrom _ 3 1 (by omega) (by omega) h
    · rename_i hc
      rw [if_neg hc] at h
      split
      · rename_i h2
        rw [if_pos h2] at h
        unfold Tk.braces at h ⊢
        split
        · rename_i q; rw [if_pos q] at h; exact absurd rfl h
        · rename_i q
          rw [take_run]
          exact ⟨(fun q => by cases q), fun _ => ⟨by simp, by simp; omega⟩, (fun q => by cases q), (fun q => by cases q), (fun q => by cases q), (fun q => by cases q), (fun q => by cases q)⟩
      · rename_i h2
        rw [if_neg h2] at h
        split
        · rename_i h3
          rw [if_pos h3] at h
          unfold Tk.braces at h ⊢
          split
          · rename_i q; rw [if_pos q] at h; exact absurd rfl h
          · rename_i q
            rw [take_run]
            exact ⟨(fun q => by cases q), (fun q => by cases q), fun _ => by simp, (fun q => by cases q), (fun q => by cases q), (fun q => by cases q), (fun q => by cases q)⟩
        · rename_i h3
          rw [if_neg h3] at h
          split
          · unfold Tk.pair; split <;> (try split) <;> exact TF.plain (by simp)
          · split
            · unfold Tk.pair; split <;> (try split) <;> exact TF.plain (by simp)
            · split
              · rename_i h6
                exact ⟨(fun q => by cases q), (fun q => by cases q), (fun q => by cases q), (fun q => by cases q), (fun q => by cases q), fun _ => by simp [h6], (fun q => by cases q)⟩
              · split
                · rename_i h7
                  exact ⟨(fun q => by cases q), (fun q => by cases q), (fun q => by cases q), (fun q => by cases q), (fun q => by cases q), (fun q => by cases q), fun _ => by simp [h7]⟩
                · split
                  · exact TF.plain (by simp)
                  · exact TF.plain (by simp)
/-- A token with its text and its tag. -/
def tk (s : List UInt8) (x : Tk.Tok) : Nat × List UInt8 × Int := (x.1, (s.drop x.2.1).take (x.2.2 - x.2.1), (tgOf x.1 ((s.drop x.2.1).take (x.2.2 - x.2.1)) 3 1 : Nat))
def toks (s : List UInt8) : List (Nat × List UInt8 × Int) := (Tk.scanL s 0 0).map (tk s)
theorem gap_ok (s : List UInt8) {a b : Nat} (hb : b ≤ s.length) (hab : a ≤ b) : (∀ x ∈ (Tk.gap a b).map (tk s), TF x.1 x.2.1 x.2.2) ∧ ((Tk.gap a b).map (tk s)).flatMap (fun x => x.2.1) ++ s.drop b = s.drop a := by
  unfold Tk.gap
  split
  · rename_i e; subst e; simp
  · refine ⟨fun x hx => ?_, ?_⟩
    · simp only [List.map_cons, List.map_nil, List.mem_singleton] at hx
      subst hx
      exact TF.plain (by simp [tk])
    · simp only [List.map_cons, List.map_nil, List.flatMap_cons, List.flatMap_nil, List.append_nil, tk]
      have : s.drop b = (s.drop a).drop (b - a) := by rw [List.drop_drop]; congr 1; omega
      rw [this, List.take_append_drop]
theorem scan_ok (s : List UInt8) : ∀ (n text i : Nat), s.length - i ≤ n → text ≤ i → i ≤ s.length → (∀ x ∈ (Tk.scanL s text i).map (tk s), TF x.1 x.2.1 x.2.2) ∧ ((Tk.scanL s text i).map (tk s)).flatMap (fun x => x.2.1) = s.drop text := by
  intro n
  induction n with
  | zero =>
    intro text i hn ht hi
    rw [Tk.scan_end (by omega)]
    have g := gap_ok s (a := text) (b := s.length) (Nat.le_refl _) (by omega)
    exact ⟨g.1, by simpa using g.2⟩
  | succ n ih =>
    intro text i hn ht hi
    by_cases hlt : i < s.length
    · by_cases h0 : (Tk.mark (s.drop i)).2 = 0
      · rw [Tk.scan_no hlt h0]; exact ih text (i + 1) (by omega) (by omega) (by omega)
      · rw [Tk.scan_yes hlt h0]
        have hle := Tk.mark_le (s.drop i)
        rw [List.length_drop] at hle
        have g := gap_ok s (a := text) (b := i) (by omega) ht
        have r := ih (i + (Tk.mark (s.drop i)).2) (i + (Tk.mark (s.drop i)).2) (by omega) (Nat.le_refl _) (by omega)
        have e : i + (Tk.mark (s.drop i)).2 - i = (Tk.mark (s.drop i)).2 := by omega
        refine ⟨fun x hx => ?_, ?_⟩
        · rw [List.map_append, List.mem_append, List.map_cons, List.mem_cons] at hx
          rcases hx with hx | rfl | hx
          · exact g.1 x hx
          · simp only [tk, e]
            exact TF.mark (s.drop i) h0
          · exact r.1 x hx
        · rw [List.map_append, List.flatMap_append, List.map_cons, List.flatMap_cons, r.2, ← g.2]
          congr 1
          simp only [tk, e]
          have : s.drop (i + (Tk.mark (s.drop i)).2) = (s.drop i).drop (Tk.mark (s.drop i)).2 := by rw [List.drop_drop]
          rw [this, List.take_append_drop]
    · rw [Tk.scan_end hlt]
      have g := gap_ok s (a := text) (b := s.length) (Nat.le_refl _) (by omega)
      exact ⟨g.1, by simpa using g.2⟩
/-- The source of the tree of a text is the text. -/
theorem src_parse (s : List UInt8) : Tr.src (tree (toks s)) = s := by
  have h := scan_ok s s.length 0 0 (by omega) (Nat.le_refl _) (Nat.zero_le _)
  rw [src_tree (toks s) h.1]
  exact h.2
end Go.Proofs.YtdojbnngdlmbgaaGreatDoor.Pa

namespace Go.Proofs.YtdojbnngdlmbgaaGreatDoor.Pa
open Go.RowKit Go.Proofs.YtdojbnngdlmbgaaGreatDoor.Tr
set_option linter.unusedVariables false

theorem tgOf_eq (k : Nat) (x : List UInt8) : ∀ n j, Tk.tagOf (k : Int) x n j = tgOf k x n j
  | 0, _ => rfl
  | n + 1, j => by
    rw [Tk.tagOf, tgOf, tgOf_eq k x n (j + 1)]
    have h1 : ((k : Int) = 11) = (k = 11) := by apply propext; omega
    have h2 : ((k : Int) = 12) = (k = 12) := by apply propext; omega
    simp only [h1, h2]
theorem chain_tok {n : Nat} : ∀ {a : Nat} {l : List Tk.Tok}, Tk.Chain n a l → ∀ x ∈ l, a ≤ x.2.1 ∧ x.2.1 < x.2.2 ∧ x.2.2 ≤ n ∧ 1 ≤ x.1 ∧ x.1 ≤ 12
  | _, [], _, _, hx => by cases hx
  | a, (k, f, t) :: r, h, x, hx => by
    obtain ⟨h1, h2, h3, h4, h5, h6⟩ := h
    rcases List.mem_cons.1 hx with rfl | hx
    · exact ⟨by simp only; omega, by simp only; omega, h3, by simp only; omega, by simp only; omega⟩
    · have := chain_tok h6 x hx
      exact ⟨by omega, this.2⟩
theorem cellsOf_at : ∀ (l : List Tk.Tok) (i : Nat) (hi : i < l.length) (j : Nat) (u : Value), [Value.int .i64 (l[i].1 : Int), .int .i64 (l[i].2.1 : Int), .int .i64 (l[i].2.2 : Int)][j]? = some u → (Tk.cellsOf l)[i * 3 + j]? = some u
  | [], i, hi, _, _, _ => by simp at hi
  | x :: l, 0, _, j, u, h => by
    have hj : j < 3 := by have := (List.getElem?_eq_some_iff.1 h).1; simpa using this
    simp only [Tk.cellsOf, List.flatMap_cons]
    rw [List.getElem?_append_left (by simp only [List.length_cons, List.length_nil]; omega)]
    simpa using h
  | x :: l, i + 1, hi, j, u, h => by
    have ih := cellsOf_at l i (by simpa using hi) j u (by simpa using h)
    simp only [Tk.cellsOf, List.flatMap_cons] at ih ⊢
    rw [show (i + 1) * 3 + j = 3 + (i * 3 + j) by omega, List.getElem?_append_right (by simp)]
    simpa using ih
/-- A token in memory. -/
theorem Own.tok {w : World} {base : Nat} {v : Value} {l : List Tk.Tok} (h : Tk.Own w base v l) {i : Nat} (hi : i < l.length) : ∃ g c, v = .slice (some ⟨g, 0, none⟩) l.length c ∧ g < w.heap.size ∧ l.length ≤ c ∧ c ≤ 9223372036854775807 ∧ w.cell? ⟨g, i * 3, none⟩ = some (.int .i64 (l[i].1 : Int)) ∧ w.cell? ⟨g, i * 3 + 1, none⟩ = some (.int .i64 (l[i].2.1 : Int)) ∧ w.cell? ⟨g, i * 3 + 2, none⟩ = some (.int .i64 (l[i].2.2 : Int)) := by
  unfold Tk.Own at h
  rcases h.2 with ⟨rfl, h0⟩ | ⟨g, c, cur, rfl, _, hg, h1, h2, _, h3⟩
  · omega
  · have q : ∀ j u, [Value.int .i64 (l[i].1 : Int), .int .i64 (l[i].2.1 : Int), .int .i64 (l[i].2.2 : Int)][j]? = some u → w.cell? ⟨g, i * 3 + j, none⟩ = some u := fun j u hj => by
      have := cell_row hg h3 (cellsOf_at l i hi j u hj)
      rwa [Nat.zero_add] at this
    exact ⟨g, c, rfl, (Array.getElem?_eq_some_iff.1 hg).1, h1, by simpa [maxLen] using h2, q 0 _ rfl, q 1 _ rfl, q 2 _ rfl⟩
theorem any_call {P : Program} {ops : Array Oper} {Q : Exit → Act → World → Prop} (i d : Nat) {fuel : Nat} {l : Array Bool} {a : Act} {w : World} {o : Oper} {f : FuncId} {args : Array Value} (ho : ops[i]? = some o) (hg : o.guard = none) (hd : o.dst = some d) (hr : Region.ready .any ops l = [i]) (hrun : (execOp a.eval o).run P w = .ok (.enter f args) w) (hc : Calls P f args w fun e w' => ∃ v, e = .returned v ∧ wpAny P .any ops Q fuel (l.setIfInBounds i true) (a.put (some d) v) w') : wpAny P .any ops Q (fuel + 1) l a w := by
  refine any_one ho hg hr ?_
  unfold Oper.wp
  rw [hrun, Oper.upon_enter]
  refine hc.mono ?_
  rintro e w' ⟨v, rfl, h⟩
  show wpAny _ _ _ _ _ _ _ _
  rw [hd]; exact h
section
variable {E : Operand → Value} {o : Oper} {W : World}
theorem x_fieldT0 {p : Operand} {b : Nat} (ho : o.op = Op.fieldAddr 72 p 0) (h : E p = .pointer (some ⟨b, 0, none⟩)) : (execOp E o).run Tryz.prog W = .ok (.value (.pointer (some ⟨b, 0, none⟩))) W := by
  unfold execOp
  rw [ho]
  simp only [h]
  go_simp
theorem x_loadI {p : Operand} {b f : Nat} {v : Value} (ho : o.op = Op.load 3 p) (h : E p = .pointer (some ⟨b, f, none⟩)) (hc : W.cell? ⟨b, f, none⟩ = some v) : (execOp E o).run Tryz.prog W = .ok (.value v) W := by
  unfold execOp
  rw [ho]
  simp only [h]
  go_simp
theorem x_loadT {p : Operand} (ho : o.op = Op.load 72 p) {g : Nat} {k f t : Int} {T : TypeId} (hp : E p = .pointer (some ⟨g, 0, none⟩)) (hc : W.heap[g]? = some (.cells #[.int .i64 k, .int .i64 f, .int .i64 t] T)) : (execOp E o).run Tryz.prog W = .ok (.value (.agg #[.int .i64 k, .int .i64 f, .int .i64 t])) W := by
  have c0 : W.cell? ⟨g, 0, none⟩ = some (.int .i64 k) := cell_heap hc rfl
  have c1 : W.cell? ⟨g, 1, none⟩ = some (.int .i64 f) := cell_heap hc rfl
  have c2 : W.cell? ⟨g, 2, none⟩ = some (.int .i64 t) := cell_heap hc rfl
  clear hc
  unfold execOp
  rw [ho]
  go_simp
theorem x_callText {x y : Operand} {t : Array TypeId} (ho : o.op = .call { callee := .value (.func 31), args := #[x, y], argTypes := t }) {u v : Value} (hE : E (.func 31) = .func (.func 31) #[] #[]) (hx : E x = u) (hy : E y = v) : (execOp E o).run Tryz.prog W = .ok (.enter 31 #[u, v]) W := by
  unfold execOp
  rw [ho]
  go_simp
theorem x_callTag {x y : Operand} {t : Array TypeId} (ho : o.op = .call { callee := .value (.func 32), args := #[x, y], argTypes := t }) {u v : Value} (hE : E (.func 32) = .func (.func 32) #[] #[]) (hx : E x = u) (hy : E y = v) : (execOp E o).run Tryz.prog W = .ok (.enter 32 #[u, v]) W := by
  unfold execOp
  rw [ho]
  go_simp
theorem x_callTake {x y z q : Operand} {t : Array TypeId} (ho : o.op = .call { callee := .value (.func 30), args := #[x, y, z, q], argTypes := t }) {u v s r : Value} (hE : E (.func 30) = .func (.func 30) #[] #[]) (hx : E x = u) (hy : E y = v) (hz : E z = s) (hq : E q = r) : (execOp E o).run Tryz.prog W = .ok (.enter 30 #[u, v, s, r]) W := by
  unfold execOp
  rw [ho]
  go_simp
end
theorem joins : ∀ d, JnL 34 d
  | 0 => fun _ _ _ _ h => h.elim
  | d + 1 => Join_step d (joinBelow_step d (joins d))
end Go.Proofs.YtdojbnngdlmbgaaGreatDoor.Pa

namespace Go.Proofs.YtdojbnngdlmbgaaGreatDoor.Pa
open Go.RowKit Go.Proofs.YtdojbnngdlmbgaaGreatDoor.Tr
set_option linter.unusedVariables false

def FT (bt : Nat) (sv kv tv xv gv : Value) : Nat → Value → World → Prop
  | 0, v, _ => v = .pointer (some ⟨bt, 0, none⟩)
  | 1, v, _ => v = kv
  | 2, v, _ => v = sv
  | 3, v, _ => v = tv
  | 4, v, _ => v = xv
  | 5, v, _ => v = sv
  | 6, v, _ => v = tv
  | _, v, _ => v = gv
theorem FT.st {bt : Nat} {sv kv tv xv gv : Value} : ∀ i v w w', FT bt sv kv tv xv gv i v w → Bl w w' → FT bt sv kv tv xv gv i v w' := by
  intro i v w w' h _
  unfold FT at h ⊢
  split <;> simp only at h ⊢ <;> exact h
theorem takes_take {l : List (Nat × List UInt8 × Int)} {k : Nat} (h : k < l.length) (st : List El) : takes (l.take (k + 1)) st = take (takes (l.take k) st) l[k].1 l[k].2.1 l[k].2.2 := by
  rw [List.take_succ_eq_append_getElem h, takes, List.foldl_append]
  rfl
theorem ph_takes : ∀ (l : List (Nat × List UInt8 × Int)) (st : List El), ph (takes l st) ≤ ph st + 16 * l.length + (l.flatMap fun x => x.2.1).length
  | [], st => by simp [takes]
  | x :: l, st => by
    have h1 := ph_takes l (take st x.1 x.2.1 x.2.2)
    have h2 := ph_take st x.1 x.2.1 x.2.2
    show ph (takes l (take st x.1 x.2.1 x.2.2)) ≤ _
    rw [List.flatMap_cons, List.length_append, List.length_cons]
    omega
theorem len_takes : ∀ (l : List (Nat × List UInt8 × Int)) (st : List El), st.length ≤ 21 → (takes l st).length ≤ 21
  | [], _, h => h
  | x :: l, st, h => len_takes l _ (len_take st x.1 x.2.1 x.2.2 h)
theorem chain_len {n : Nat} : ∀ {a : Nat} {l : List Tk.Tok}, Tk.Chain n a l → a ≤ n ∧ l.length ≤ n - a
  | a, [], h => by
    have : a = n := h
    simp; omega
  | a, (k, f, t) :: r, h => by
    obtain ⟨h1, h2, h3, h4, h5, h6⟩ := h
    have := chain_len h6
    rw [List.length_cons]
    omega
theorem pre_len {α : Type} (f : α → List UInt8) (l : List α) (k : Nat) : ((l.take k).flatMap f).length ≤ (l.flatMap f).length := by
  have : (l.take k).flatMap f ++ (l.drop k).flatMap f = l.flatMap f := by rw [← List.flatMap_append, List.take_append_drop]
  rw [← this, List.length_append]; omega
/-- What holds of the stack behind the first tokens. -/
structure Tks (S : List UInt8) (T : List Tk.Tok) (k : Nat) : Prop where
  inv : Inv (takes ((T.map (tk S)).take k) [root])
  ph : Pa.ph (takes ((T.map (tk S)).take k) [root]) ≤ 4194304
  len : (takes ((T.map (tk S)).take k) [root]).length ≤ 21
theorem Tks.of {S : List UInt8} {T : List Tk.Tok} (hS : S.length ≤ 8192) (hok : (∀ x ∈ T.map (tk S), TF x.1 x.2.1 x.2.2) ∧ (T.map (tk S)).flatMap (fun x => x.2.1) = S.drop 0) (hch : Tk.Chain S.length 0 T) (k : Nat) : Tks S T k := by
  have h0 : Inv [root] := ⟨rfl, rfl, rfl⟩
  refine ⟨(takes_src _ h0 (fun x hx => hok.1 x (List.mem_of_mem_take hx))).2, ?_, len_takes _ _ (by simp)⟩
  have h1 := ph_takes ((T.map (tk S)).take k) [root]
  have h2 := pre_len (fun x : Nat × List UInt8 × Int => x.2.1) (T.map (tk S)) k
  rw [hok.2, List.drop_zero] at h2
  have h3 := (chain_len hch).2
  have h4 : ((T.map (tk S)).take k).length ≤ T.length := by rw [List.length_take, List.length_map]; omega
  have h5 : Pa.ph [root] = 8 := rfl
  omega
set_option maxRecDepth 100000 in
set_option maxHeartbeats 16000000 in
theorem Parse_any (s : ByteArray) (w : World) (ht : Tk.Tb w) (hs : s.size ≤ 8192) :
    Calls Tryz.prog 12 #[.string s] w fun e w' => ∃ v d, e = .returned (.tuple #[v, .int .i64 0]) ∧ LRx d w' (In w.heap.size w') v (tree (toks s.data.toList)) ∧ Below w.heap.size w w' := by
  have hok := scan_ok s.data.toList s.data.toList.length 0 0 (by omega) (Nat.le_refl _) (Nat.zero_le _)
  have hch := Tk.scan_chain s.data.toList _ 0 0 (Nat.le_refl _) (Nat.le_refl _) (Nat.zero_le _)
  go_enter Tryz.func12, Tryz.ntmps12
  go_wp2_with fail
  refine (Tk.Scan_any s w ht hs).mono ?_
  rintro e w1 ⟨v1, rfl, ho1, hb1⟩
  obtain ⟨A1, c1, hv1, hv2, hv3⟩ := own_form ho1
  subst hv1
  have HO := Lib.hid ho1
  have HB1 := Lib.hid hb1
  have HTB := Lib.hid (ht.below hb1)
  have HOK := Lib.hid hok
  have HCH := Lib.hid hch
  clear ho1 hb1 ht hok hch
  obtain ⟨T, hT⟩ : ∃ T, Tk.scanL s.data.toList 0 0 = T := ⟨_, rfl⟩
  rw [hT] at HO HOK HCH hv2 ⊢
  have KS : Hid (∀ k, Tks s.data.toList T k) := Lib.hid (fun k => Tks.of hs HOK.out HCH.out k)
  have HTT := Lib.hid hT
  clear hT
  -- the parser
  have q1 := heap_alloc2_old w1 (Obj.cells #[Value.int .i64 0, .string ⟨#[]⟩, .int .i64 0, .slice none 0 0, .slice none 0 0] 67) (Obj.cells #[Value.slice (some ⟨w1.heap.size, 0, none⟩) 1 1] 70)
  have q2 := heap_alloc2_new w1 (Obj.cells #[Value.int .i64 0, .string ⟨#[]⟩, .int .i64 0, .slice none 0 0, .slice none 0 0] 67) (Obj.cells #[Value.slice (some ⟨w1.heap.size, 0, none⟩) 1 1] 70)
  have b2 := two_below w1 (Obj.cells #[Value.int .i64 0, .string ⟨#[]⟩, .int .i64 0, .slice none 0 0, .slice none 0 0] 67) (Obj.cells #[Value.slice (some ⟨w1.heap.size, 0, none⟩) 1 1] 70)
  have S0 : Hid (∃ M, St w1.heap.size (w1.heap.size + 1) ((w1.alloc (Obj.cells #[Value.int .i64 0, .string ⟨#[]⟩, .int .i64 0, .slice none 0 0, .slice none 0 0] 67)).alloc (Obj.cells #[Value.slice (some ⟨w1.heap.size, 0, none⟩) 1 1] 70)) M [root]) := Lib.hid ⟨[w1.heap.size + 1, w1.heap.size], w1.heap.size, 1, _, [], rfl, by simp, by omega, q2, ⟨rfl, .inr ⟨w1.heap.size, 1, _, rfl, Nat.le_refl _, q1, by simp, by simp [maxLen], rfl, rfl⟩⟩, [], _, [], [], rfl, ⟨rfl, rfl⟩, ⟨.slice none 0 0, .slice none 0 0, [], rfl, RN.nil _ _ _, .inl ⟨rfl, rfl, rfl⟩, rfl⟩, rfl⟩
  have HB2 := Lib.hid b2
  clear q1 q2 b2
  have hTl : T.length ≤ 8192 := Nat.le_trans (chain_len HCH.out).2 (by show s.size - 0 ≤ _; omega)
  go_wp2_with fail
  generalize hw2 : (w1.alloc (Obj.cells #[Value.int .i64 0, .string ⟨#[]⟩, .int .i64 0, .slice none 0 0, .slice none 0 0] 67)).alloc (Obj.cells #[Value.slice (some ⟨w1.heap.size, 0, none⟩) 1 1] 70) = w2 at *
  clear hw2
  go_loopw [22] (fun i wr => ∃ k : Nat, k ≤ T.length ∧ i = .int .i64 k ∧ Hid ((∃ Mr, St w1.heap.size (w1.heap.size + 1) wr Mr (takes ((T.map (tk s.data.toList)).take k) [root])) ∧ Below w1.heap.size w1 wr)) (fun i _ => T.length - (intOf i).toNat)
  case atStart => exact ⟨0, Nat.zero_le _, rfl, Lib.hid ⟨by simpa [takes] using S0.out, HB2.out⟩⟩
  case round =>
    obtain ⟨k, hk, rfl, hS⟩ := hrel
    clear S0
    by_cases hlt : k < T.length
    · obtain ⟨⟨Mr, s3⟩, b3⟩ := hS.out
      obtain ⟨g, c, hv, hg, hc1, hc2, t0, t1, t2⟩ := Own.tok HO.out hlt
      cases hv
      have hct := chain_tok HCH.out T[k] (List.getElem_mem hlt)
      have hTF := HOK.out.1 (tk s.data.toList T[k]) (List.mem_map_of_mem (List.getElem_mem hlt))
      have HTK : Hid (takes ((T.map (tk s.data.toList)).take (k + 1)) [root] = take (takes ((T.map (tk s.data.toList)).take k) [root]) (tk s.data.toList T[k]).1 (tk s.data.toList T[k]).2.1 (tk s.data.toList T[k]).2.2) := Lib.hid (by
        rw [takes_take (by rw [List.length_map]; exact hlt)]
        simp only [List.getElem_map])
      have hcell : ∀ i, wr.cell? ⟨g, i, none⟩ = w1.cell? ⟨g, i, none⟩ := fun i => b3.cell hg
      rw [← hcell] at t0 t1 t2
      generalize T[k] = x at *
      obtain ⟨kd, f, t⟩ := x
      simp only at t0 t1 t2 hct
      have hxt : Tk.textOf s.data.toList (f : Int) (t : Int) = (s.data.toList.drop f).take (t - f) := by
        rw [Tk.textOf_good (by have : s.data.toList.length = s.size := rfl; omega)]; rfl
      have hlen : ((s.data.toList.drop f).take (t - f)).length ≤ 8192 := by
        rw [List.length_take, List.length_drop]
        have : s.data.toList.length = s.size := rfl
        omega
      obtain ⟨X, hX⟩ : ∃ X, (s.data.toList.drop f).take (t - f) = X := ⟨_, rfl⟩
      have htk : tk s.data.toList (kd, f, t) = (kd, X, ((tgOf kd X 3 1 : Nat) : Int)) := by rw [← hX]; rfl
      rw [htk] at hTF HTK
      simp only at hTF HTK
      have HXT : Hid (Tk.textOf s.data.toList (f : Int) (t : Int) = X) := Lib.hid (hxt.trans hX)
      have hXl : X.length ≤ 8192 := by rw [← hX]; exact hlen
      have KT := Lib.hid (KS.out k)
      have HTF := Lib.hid hTF
      clear hxt hX htk hlen hcell hTF
      obtain ⟨OT, hOT⟩ : ∃ O, Obj.cells #[Value.int .i64 (kd : Int), .int .i64 (f : Int), .int .i64 (t : Int)] 72 = O := ⟨_, rfl⟩
      go_wp2_with fail
      have bT : Below wr.heap.size wr (wr.alloc OT).drew := ((Below.refl _ _).alloc (Nat.le_refl _) _).drew
      have hbt : (wr.alloc OT).drew.heap[wr.heap.size]? = some OT := heap_alloc_new wr OT
      have S3 := Lib.hid (And.intro s3 b3)
      have hTb : Hid (Tk.Tb (wr.alloc OT).drew) := Lib.hid (HTB.out.below (b3.trans (bT.mono b3.size)))
      clear s3 b3 hS t0 t1 t2
      refine region_ki Bl (Below.refl _ _) [26, 27, 28, 29, 30, 31, 32, 33] [26, 27, 28, 29, 30, 31, 32, 33, 34] [(0, .string s), (6, .pointer (some ⟨w1.heap.size + 1, 0, none⟩)), (8, .pointer (some ⟨wr.heap.size, 0, none⟩))] (FT wr.heap.size (.string s) (.int .i64 (kd : Int)) (.agg #[.int .i64 (kd : Int), .int .i64 (f : Int), .int .i64 (t : Int)]) (.string ⟨X.toArray⟩) (.int .i64 ((tgOf kd X 3 1 : Nat) : Int))) (by kernel_rfl) (n := 8) (by kernel_rfl) (by kernel_rfl) (fun j v hj => start3p hj rfl rfl rfl) ?_
      generalize hWX : (wr.alloc OT) = WX at bT hbt hTb ⊢
      clear hWX
      intro l0 ds hl0 hds hT9
      have HL0 := Lib.hid hl0; have HDS := Lib.hid hds; clear hl0 hds
      refine ⟨?_, ?_⟩
      · intro i hi S a w' hI hd
        have hq : w'.heap[wr.heap.size]? = some (Obj.cells #[Value.int .i64 (kd : Int), .int .i64 (f : Int), .int .i64 (t : Int)] 72) := by rw [hOT]; exact (hI.bl.block _ (Array.getElem?_eq_some_iff.1 hbt).1).trans hbt
        match i, hi with
        | 0, _ => exact head_value hI hT9 Bl.tr FT.st 0 26 rfl rfl rfl rfl (x_fieldT0 rfl (hI.lt.eval 8 rfl)) (Below.refl _ _) rfl
        | 1, _ => exact head_value hI hT9 Bl.tr FT.st 1 27 rfl rfl rfl rfl (x_loadI (p := .tmp 26) (b := wr.heap.size) (f := 0) rfl (hI.known 0 26 (hd 0 (by kernel_rfl)) rfl) (cell_heap hq rfl)) (Below.refl _ _) rfl
        | 2, _ => exact head_value hI hT9 Bl.tr FT.st 2 28 rfl rfl rfl rfl (x_move rfl (hI.lt.eval 0 rfl)) (Below.refl _ _) rfl
        | 3, _ => exact head_value hI hT9 Bl.tr FT.st 3 29 rfl rfl rfl rfl (x_loadT rfl (hI.lt.eval 8 rfl) hq) (Below.refl _ _) rfl
        | 4, _ =>
          have k2 : a.eval (.tmp 28) = .string s := hI.known 2 28 (hd 2 (by kernel_rfl)) rfl
          have k3 : a.eval (.tmp 29) = .agg #[.int .i64 (kd : Int), .int .i64 (f : Int), .int .i64 (t : Int)] := hI.known 3 29 (hd 3 (by kernel_rfl)) rfl
          exact head_call hI hT9 Bl.tr FT.st 4 30 rfl rfl rfl rfl (x_callText rfl rfl k2 k3) ((Tk.Text_any s kd f t w').mono fun e w4 ⟨h1, h2⟩ => ⟨_, h1, h2, by rw [HXT.out]; rfl⟩)
        | 5, _ => exact head_value hI hT9 Bl.tr FT.st 5 31 rfl rfl rfl rfl (x_move rfl (hI.lt.eval 0 rfl)) (Below.refl _ _) rfl
        | 6, _ => exact head_value hI hT9 Bl.tr FT.st 6 32 rfl rfl rfl rfl (x_loadT rfl (hI.lt.eval 8 rfl) hq) (Below.refl _ _) rfl
        | 7, _ =>
          have k5 : a.eval (.tmp 31) = .string s := hI.known 5 31 (hd 5 (by kernel_rfl)) rfl
          have k6 : a.eval (.tmp 32) = .agg #[.int .i64 (kd : Int), .int .i64 (f : Int), .int .i64 (t : Int)] := hI.known 6 32 (hd 6 (by kernel_rfl)) rfl
          exact head_call hI hT9 Bl.tr FT.st 7 33 rfl rfl rfl rfl (x_callTag rfl rfl k5 k6) ((Tk.Tag_any s kd f t w' (hTb.out.below hI.bl)).mono fun e w4 ⟨h1, h2⟩ => ⟨_, h1, h2, by rw [HXT.out, tgOf_eq]; rfl⟩)
        | (n + 8), h => exact absurd h (by omega)
      · intro a w' hL hb hk9
        have k1 : a.eval (.tmp 27) = .int .i64 (kd : Int) := hk9 1 27 (by decide) rfl
        have k4 : a.eval (.tmp 30) = .string ⟨X.toArray⟩ := hk9 4 30 (by decide) rfl
        have k7 : a.eval (.tmp 33) = .int .i64 ((tgOf kd X 3 1 : Nat) : Int) := hk9 7 33 (by decide) rfl
        have b9 : Below wr.heap.size wr w' := bT.trans (Below.mono hb bT.size)
        have K9 := S3.out.1.keep b9
        refine any_call 8 34 rfl rfl rfl (by kernel_rfl) (x_callTake rfl rfl (hL.eval 6 rfl) k1 k4 k7) ((take_any K9.1 KT.out.inv kd X _ HTF.out hct.2.2.2.1 hct.2.2.2.2 KT.out.ph (by omega) KT.out.len).mono ?_)
        rintro e w5 ⟨rfl, M5, s5, f5⟩
        refine ⟨_, rfl, ?_⟩
        refine wpAny_done (by kernel_rfl) ?_ _
        have hn : l0.length = 42 := by rw [HL0.out]; rfl
        have hL2 := hL.put 34 (.tuple #[]) (by decide) (by omega)
        have R5 : Hid ((∃ Mr, St w1.heap.size (w1.heap.size + 1) w5 Mr (takes ((T.map (tk s.data.toList)).take (k + 1)) [root])) ∧ Below w1.heap.size w1 w5) := Lib.hid ⟨⟨M5, by rw [HTK.out]; exact s5⟩, S3.out.2.trans (K9.2.bl.trans f5.bl)⟩
        generalize a.put (some 34) (.tuple #[]) = a2 at hL2 ⊢
        obtain ⟨u9, rfl, _⟩ := hL2.lit
        rw [HL0.out, HDS.out]
        simp only [setAll, List.set_cons_zero, List.set_cons_succ]
        clear hk9 k1 k4 k7 hL hL2 hT9 HL0 HDS hn s5 f5 K9 b9 S3 hbt bT
        go_wp2_with fail
        go_roundw
        case rel => exact ⟨k + 1, by omega, by go_num, R5⟩
        case measure => exact meas hlt
    · have ek : k = T.length := by omega
      subst ek
      obtain ⟨⟨Mr, s3⟩, b3⟩ := hS.out
      have kt := KS.out T.length
      have eL : (T.map (tk s.data.toList)).take T.length = T.map (tk s.data.toList) := List.take_of_length_le (by simp)
      have ki := kt.inv
      have kp := kt.ph
      have kl := kt.len
      rw [eL] at ki kp kl s3
      have HTR : Hid (tree (toks s.data.toList) = join (nodesOf (flats ((takes (T.map (tk s.data.toList)) [root]).length - 1) (takes (T.map (tk s.data.toList)) [root])))) := Lib.hid (by unfold tree toks; rw [HTT.out])
      generalize hst : takes (T.map (tk s.data.toList)) [root] = st at *
      have hpos : 0 < st.length := List.length_pos_iff.2 ki.ne
      obtain ⟨e, he⟩ : ∃ e, flats (st.length - 1 - 0) st = [e] := by
        have h1 := flats_len (st.length - 1 - 0) st
        match hq : flats (st.length - 1 - 0) st with
        | [] => rw [hq] at h1; simp at h1; omega
        | [e] => exact ⟨e, rfl⟩
        | _ :: _ :: _ => rw [hq] at h1; simp at h1; omega
      have hpe : ph [e] ≤ 4194304 := by rw [← he]; exact Nat.le_trans (ph_flats _ _) kp
      have HTR2 : Hid (tree (toks s.data.toList) = join e.nodes) := Lib.hid (by
        rw [HTR.out]
        have : st.length - 1 = st.length - 1 - 0 := rfl
        rw [this, he]; rfl)
      have HE := Lib.hid he
      have S3 := Lib.hid (And.intro s3 b3)
      clear s3 b3 hS eL he HTR hst kt
      have f0 := flattenAbove_any S3.out.1 0 hpos (by omega) kp
      have F0 := Lib.hid f0
      clear f0
      go_wp2_with fail
      refine (F0.out).mono ?_
      rintro x w4 ⟨rfl, M4, s4, f4⟩
      rw [HE.out] at s4
      obtain ⟨gs, cap, ys, vn, va, m1, m2, o⟩ := s4.op
      have H4 := Lib.hid (And.intro o (S3.out.2.trans f4.bl))
      clear s4 f4 o S3 F0
      go_wp2_with fail
      refine (top_any H4.out.1).mono ?_
      rintro x w5 ⟨rfl, hb5⟩
      have H5 := Lib.hid (H4.out.1.keep hb5)
      have c3 : w5.cell? ⟨gs, 3, none⟩ = some vn := by
        have := H5.out.cell 3 _ rfl
        simpa using this
      have LN : LX w5 (fun g => g < w5.heap.size) vn e.nodes := H5.out.rn.lx (by rw [ph, phE] at hpe; omega) (fun g q => q.2.1) (fun g q => (H5.out.rn.lt g q).2)
      obtain ⟨d, LD⟩ := LN
      have LR := Lib.hid (LD.rd (fun g q => q))
      obtain ⟨A9, c9, rfl⟩ := LD.form
      have B5 := Lib.hid (H4.out.2.trans (hb5.mono (H4.out.2.size)))
      clear LD H4 hb5
      go_wp2_with fail
      refine (joins d _ _ _ w5 LR.out (Nat.le_refl _)).mono ?_
      rintro x w6 ⟨v6, rfl, l6, b6⟩
      have R6 := Lib.hid (And.intro l6 b6)
      obtain ⟨A6, c6, rfl⟩ := l6.form
      clear l6 b6 c3
      go_wp2_with fail
      go_ret2
      have hb := HB1.out.trans ((B5.out.mono HB1.out.size).trans (R6.out.2.mono (Nat.le_trans HB1.out.size B5.out.size)))
      exact ⟨_, d + 1, rfl, by rw [HTR2.out]; exact In.lower R6.out.1 (Nat.le_trans HB1.out.size B5.out.size), hb⟩
end Go.Proofs.YtdojbnngdlmbgaaGreatDoor.Pa

namespace Go.Proofs.YtdojbnngdlmbgaaGreatDoor.Pa
open Go.RowKit Go.Proofs.YtdojbnngdlmbgaaGreatDoor.Tr
set_option linter.unusedVariables false

theorem requals : ∀ d, REq d
  | 0 => fun _ _ _ _ _ _ h => h.elim
  | d + 1 => REqual_step d (requals d)
def kText : List UInt8 := [123, 123, 97, 124, 98, 61, 99, 125, 125]
theorem k_scan : Tk.scanL kText 0 0 = [(3, 0, 2), (1, 2, 3), (7, 3, 4), (1, 4, 5), (8, 5, 6), (1, 6, 7), (4, 7, 9)] := by
  rw [Tk.scan_yes (by decide) (by decide)]
  rw [show (0 : Nat) + (Tk.mark (kText.drop 0)).2 = 2 from rfl, Tk.scan_no (by decide) (by decide), Tk.scan_yes (by decide) (by decide)]
  rw [show (2 : Nat) + 1 + (Tk.mark (kText.drop (2 + 1))).2 = 4 from rfl, Tk.scan_no (by decide) (by decide), Tk.scan_yes (by decide) (by decide)]
  rw [show (4 : Nat) + 1 + (Tk.mark (kText.drop (4 + 1))).2 = 6 from rfl, Tk.scan_no (by decide) (by decide), Tk.scan_yes (by decide) (by decide)]
  rw [show (6 : Nat) + 1 + (Tk.mark (kText.drop (6 + 1))).2 = 9 from rfl, Tk.scan_end (by decide)]
  rfl
def kTree : List Nd := [.mk 4 0 ⟨#[]⟩ [.mk 1 0 ⟨#[97]⟩ [] []] [.mk true [.mk 1 0 ⟨#[98]⟩ [] []] [.mk 1 0 ⟨#[99]⟩ [] []]]]
theorem k_tree : tree (toks kText) = kTree := by
  unfold toks
  rw [k_scan]
  rfl
theorem word_any (s : ByteArray) (w : World) : Calls Tryz.prog 28 #[.string s] w fun e w' => e = .returned (.slice (some ⟨w.heap.size, 0, none⟩) 1 1) ∧ w.alloc (.cells #[.int .i64 1, .int .i64 0, .string s, .slice none 0 0, .slice none 0 0] 62) = w' := by
  go_enter Tryz.func28, Tryz.ntmps28
  go_wp2_with fail
  go_ret
  exact ⟨rfl, rfl⟩
theorem AX.lit {w : World} {X : Nat → Prop} {b : Nat} {nm : Bool} {vn vv : Value} {n v : List Nd} (hb : w.heap[b]? = some (.cells #[.bool nm, vn, vv] 59)) (hX : X b) (hn : LX w X vn n) (hv : LX w X vv v) (hz : szA [.mk nm n v] ≤ 16777216) : AX w X (.slice (some ⟨b, 0, none⟩) 1 1) [.mk nm n v] := by
  obtain ⟨d1, hn⟩ := hn
  obtain ⟨d2, hv⟩ := hv
  refine ⟨d1 + d2, hz, some ⟨b, 0, none⟩, 1, rfl, by simp, by simp [maxLen], fun _ => ⟨b, 0, rfl, hX, fun i hi m hm => ?_⟩⟩
  have e : i = 0 := by simpa using hi
  subst e
  simp only [List.getElem?_cons_zero, Option.some.injEq] at hm
  subst hm
  exact ⟨vn, vv, cell_heap hb rfl, cell_heap hb rfl, cell_heap hb rfl, hn.deep (by omega), hv.deep (by omega)⟩
/-- A list of one text that was just laid. -/
theorem LX.word (w : World) (s : ByteArray) (hs : s.size ≤ 1048576) : LX (w.alloc (.cells #[.int .i64 1, .int .i64 0, .string s, .slice none 0 0, .slice none 0 0] 62)) (fun g => g < (w.alloc (.cells #[.int .i64 1, .int .i64 0, .string s, .slice none 0 0, .slice none 0 0] 62)).heap.size) (.slice (some ⟨w.heap.size, 0, none⟩) 1 1) [.mk 1 0 s [] []] :=
  LX.lit (heap_alloc_new w _) (by simp) (fit_nat (n := 1) (by omega)) (fit_nat (n := 0) (by omega)) (LX.nil _ _) (AX.nil _ _) (by rw [szN_eq]; simp only [Nd.text, Nd.kids, Nd.args, sz_nil, szA_nil]; omega)
theorem LX.on {w w' : World} {v : Value} {l : List Nd} (h : LX w (fun g => g < w.heap.size) v l) (hb : Below w.heap.size w w') : LX w' (fun g => g < w'.heap.size) v l := h.imp (fun g hg => Nat.lt_of_lt_of_le hg hb.size) (fun g hg => hb.block g hg)
theorem AX.on {w w' : World} {v : Value} {l : List Ar} (h : AX w (fun g => g < w.heap.size) v l) (hb : Below w.heap.size w w') : AX w' (fun g => g < w'.heap.size) v l := h.imp (fun g hg => Nat.lt_of_lt_of_le hg hb.size) (fun g hg => hb.block g hg)
/-- Two lists that are the same are told to be equal. -/
theorem equal_same {a b : Value} {l : List Nd} {w : World} (ha : LX w (fun g => g < w.heap.size) a l) (hb : LX w (fun g => g < w.heap.size) b l) : Calls Tryz.prog 14 #[a, b] w fun e w' => e = .returned (.bool true) ∧ Below w.heap.size w w' := by
  obtain ⟨d1, h1⟩ := ha
  obtain ⟨d2, h2⟩ := hb
  refine (requals (d1 + d2) w.heap.size a b l l w ((h1.deep (by omega)).rd fun _ q => q) ((h2.deep (by omega)).rd fun _ q => q) (Nat.le_refl _)).mono ?_
  rintro e w' ⟨h3, h4⟩
  exact ⟨by rw [h3, eqB_true rfl], h4⟩
theorem LRx.lx {d a : Nat} {w : World} {v : Value} {l : List Nd} (h : LRx d w (In a w) v l) : LX w (fun g => g < w.heap.size) v l := ⟨d, h.imp (fun _ q => q.2.1) fun _ _ => rfl⟩
set_option maxRecDepth 100000 in
set_option maxHeartbeats 4000000 in
theorem known_any (w : World) (ht : Tk.Tb w) : Calls Tryz.prog 11 #[] w fun e w' => e = .returned (.bool true) ∧ Below w.heap.size w w' := by
  have HP := Lib.hid (Parse_any ⟨#[123, 123, 97, 124, 98, 61, 99, 125, 125]⟩ w ht (by decide))
  go_enter Tryz.func11, Tryz.ntmps11
  go_wp2_with fail
  refine HP.out.mono ?_
  rintro e w1 ⟨v, d, rfl, l1, b1⟩
  have hk : tree (toks (⟨#[123, 123, 97, 124, 98, 61, 99, 125, 125]⟩ : ByteArray).data.toList) = kTree := k_tree
  rw [hk] at l1
  clear hk
  obtain ⟨A, c, hv⟩ := l1.form
  subst hv
  have L1 := Lib.hid (LRx.lx l1)
  have B1 := Lib.hid b1
  clear l1 b1 HP
  go_wp2_with fail
  refine (word_any _ w1).mono ?_
  rintro e w2 ⟨rfl, e2⟩
  have b2 : Below w1.heap.size w1 w2 := by rw [← e2]; exact (Below.refl _ _).alloc (Nat.le_refl _) _
  have LA : LX w2 (fun g => g < w2.heap.size) (.slice (some ⟨w1.heap.size, 0, none⟩) 1 1) [.mk 1 0 ⟨#[97]⟩ [] []] := by rw [← e2]; exact LX.word w1 _ (by decide)
  have H2 := Lib.hid (And.intro LA (And.intro (L1.out.on b2) (B1.out.trans (b2.mono B1.out.size))))
  clear e2 b2 LA L1 B1
  go_wp2_with fail
  refine (word_any _ w2).mono ?_
  rintro e w3 ⟨rfl, e3⟩
  have b3 : Below w2.heap.size w2 w3 := by rw [← e3]; exact (Below.refl _ _).alloc (Nat.le_refl _) _
  have LB : LX w3 (fun g => g < w3.heap.size) (.slice (some ⟨w2.heap.size, 0, none⟩) 1 1) [.mk 1 0 ⟨#[98]⟩ [] []] := by rw [← e3]; exact LX.word w2 _ (by decide)
  have H3 := Lib.hid (And.intro LB (And.intro (H2.out.1.on b3) (And.intro (H2.out.2.1.on b3) (H2.out.2.2.trans (b3.mono H2.out.2.2.size)))))
  clear e3 b3 LB H2
  go_wp2_with fail
  refine (word_any _ w3).mono ?_
  rintro e w4 ⟨rfl, e4⟩
  have b4 : Below w3.heap.size w3 w4 := by rw [← e4]; exact (Below.refl _ _).alloc (Nat.le_refl _) _
  have LC : LX w4 (fun g => g < w4.heap.size) (.slice (some ⟨w3.heap.size, 0, none⟩) 1 1) [.mk 1 0 ⟨#[99]⟩ [] []] := by rw [← e4]; exact LX.word w3 _ (by decide)
  have H4 := Lib.hid (And.intro LC (And.intro (H3.out.1.on b4) (And.intro (H3.out.2.1.on b4) (And.intro (H3.out.2.2.1.on b4) (H3.out.2.2.2.trans (b4.mono H3.out.2.2.2.size))))))
  clear e4 b4 LC H3
  obtain ⟨OA, hOA⟩ : ∃ O, Obj.cells #[Value.bool true, .slice (some ⟨w2.heap.size, 0, none⟩) 1 1, .slice (some ⟨w3.heap.size, 0, none⟩) 1 1] 59 = O := ⟨_, rfl⟩
  have b5 : Below w4.heap.size w4 (w4.alloc OA) := (Below.refl _ _).alloc (Nat.le_refl _) _
  have AA := Lib.hid (AX.lit (w := w4.alloc OA) (X := fun g => g < (w4.alloc OA).heap.size) (b := w4.heap.size) (by rw [hOA]; exact heap_alloc_new w4 OA) (by simp) (H4.out.2.1.on b5) (H4.out.1.on b5) (by decide))
  obtain ⟨ON, hON⟩ : ∃ O, Obj.cells #[Value.int .i64 4, .int .i64 0, .string ⟨#[]⟩, .slice (some ⟨w1.heap.size, 0, none⟩) 1 1, .slice (some ⟨w4.heap.size, 0, none⟩) 1 1] 62 = O := ⟨_, rfl⟩
  have b6 : Below (w4.alloc OA).heap.size (w4.alloc OA) ((w4.alloc OA).alloc ON) := (Below.refl _ _).alloc (Nat.le_refl _) _
  have NN := Lib.hid (LX.lit (w := (w4.alloc OA).alloc ON) (X := fun g => g < ((w4.alloc OA).alloc ON).heap.size) (b := w4.heap.size + 1) (k := 4) (t := 0) (s := ⟨#[]⟩) (by rw [hON]; exact heap_alloc2_new w4 OA ON) (by simp) (by unfold Fit; omega) (by unfold Fit; omega) ((H4.out.2.2.1.on b5).on b6) (AA.out.on b6) (by decide))
  have LL := Lib.hid ((H4.out.2.2.2.1.on b5).on b6)
  have BB := Lib.hid (H4.out.2.2.2.2.trans ((b5.mono H4.out.2.2.2.2.size).trans (b6.mono (Nat.le_trans H4.out.2.2.2.2.size b5.size))))
  clear b5 b6 AA H4
  go_wp2_with fail
  refine (equal_same (l := kTree) LL.out NN.out).mono ?_
  rintro e w9 ⟨rfl, b9⟩
  have B9 := Lib.hid (BB.out.trans (b9.mono BB.out.size))
  clear b9 LL NN BB
  go_wp2_with fail
  go_ret
  exact ⟨rfl, B9.out⟩
end Go.Proofs.YtdojbnngdlmbgaaGreatDoor.Pa

namespace Go.Proofs.YtdojbnngdlmbgaaGreatDoor.Pa
open Go.RowKit Go.Proofs.YtdojbnngdlmbgaaGreatDoor.Tr
set_option linter.unusedVariables false

theorem str_list (s : ByteArray) : (⟨s.data.toList.toArray⟩ : ByteArray) = s := rfl
end Go.Proofs.YtdojbnngdlmbgaaGreatDoor.Pa
