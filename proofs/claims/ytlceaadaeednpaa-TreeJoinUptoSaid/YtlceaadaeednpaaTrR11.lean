/-
  The region of the reference's Join that makes the new node: a call and a new block, in either order.
-/
import Derived.Test.YtlceaadaeednpaaTrRK
namespace Go.Proofs.Ytlceaadaeednpaa.Tr
open Go.RowKit
set_option linter.unusedVariables false

section
variable {P : Program} {ops : Array Oper} {Q : Exit → Act → World → Prop} {R : World → World → Prop} {l0 : List Value} {ds : List Deferred} {D : List Nat} {L : List (Nat × Value)} {dl : List Nat} {F : Nat → Value → World → Prop} {w1 : World} {S : Nat → Bool} {a : Act} {w : World} {M : (Nat → Bool) → Act → World → Prop}
theorem head_value2 (hI : Ki R l0 ds D L dl F w1 S a w) (hT : tabB dl D L l0.length = true) (htr : ∀ x y z, R x y → R y z → R x z) (hst : ∀ i v w w', F i v w → R w w' → F i v w') (i d : Nat) {o : Oper} {v : Value} {w' : World} (ho : ops[i]? = some o) (hg : o.guard = none) (hdo : o.dst = some d) (hd : dl[i]? = some d)
    (hr : (execOp a.eval o).run P w = .ok (.value v) w') (hb : R w w') (hF : F i v w') (hM : M (upd S i) (a.put (some d) v) w') : wpOp P ops Q i (fun a' w' => Ki R l0 ds D L dl F w1 (upd S i) a' w' ∧ M (upd S i) a' w') a w := by
  unfold wpOp
  rw [ho]
  simp only [f_free hg, if_true]
  exact .inl (op_value hr (by rw [hdo]; exact ⟨hI.step hT htr hst hd hb hF, hM⟩))
theorem head_call2 (hI : Ki R l0 ds D L dl F w1 S a w) (hT : tabB dl D L l0.length = true) (htr : ∀ x y z, R x y → R y z → R x z) (hst : ∀ i v w w', F i v w → R w w' → F i v w') (i d : Nat) {o : Oper} {f : FuncId} {args : Array Value} (ho : ops[i]? = some o) (hg : o.guard = none) (hdo : o.dst = some d) (hd : dl[i]? = some d)
    (hr : (execOp a.eval o).run P w = .ok (.enter f args) w) (hc : Calls P f args w fun e w' => ∃ v, e = .returned v ∧ R w w' ∧ F i v w' ∧ M (upd S i) (a.put (some d) v) w') : wpOp P ops Q i (fun a' w' => Ki R l0 ds D L dl F w1 (upd S i) a' w' ∧ M (upd S i) a' w') a w := by
  unfold wpOp
  rw [ho]
  simp only [f_free hg, if_true]
  refine .inl ?_
  unfold Oper.wp
  rw [hr, Oper.upon_enter]
  refine hc.mono ?_
  rintro e w' ⟨v, rfl, hb, hF, hM⟩
  show Ki _ _ _ _ _ _ _ _ _ _ _ ∧ _
  rw [hdo]; exact ⟨hI.step hT htr hst hd hb hF, hM⟩
theorem region_ki2 {id n : Nat} {a0 : Act} {w : World} (M : (Nat → Bool) → Act → World → Prop) (hM0 : M (fun _ => false) a0 w.drew) (R : World → World → Prop) (hrf : R w.drew w.drew) (dl D : List Nat) (L : List (Nat × Value)) (F : Nat → Value → World → Prop) (hm : P.follows .mixedOrders = true) (hB : headB ops n = true) (hT : tabB dl D L a0.tmps.size = true) (hL : ∀ j v, lk L j = some v → a0.tmps.getD j undef = v)
    (h : ∀ l0 ds, l0 = a0.tmps.toList → ds = a0.defers → tabB dl D L l0.length = true →
      (∀ i, i < n → ∀ S a w', Ki R l0 ds D L dl F w.drew S a w' → M S a w' → (∀ j, Region.waitsFor .any ops i j = true → S j = true) → S i = false → wpOp P ops Q i (fun a' w' => Ki R l0 ds D L dl F w.drew (upd S i) a' w' ∧ M (upd S i) a' w') a w') ∧
      (∀ S a w', Lt l0 ds D L a → R w.drew w' → (∀ i d, i < n → dl[i]? = some d → F i (a.tmps.getD d undef) w') → M S a w' → (∀ i, i < n → S i = true) → wpAny P .any ops Q (ops.size - n) (List.replicate n true ++ List.replicate (ops.size - n) false).toArray a w')) : (Code.region id ops true).wp P Q a0 w := by
  obtain ⟨h1, h2⟩ := h _ _ rfl rfl (by simpa using hT)
  refine region_head hm hB (fun S a w' => Ki R a0.tmps.toList a0.defers D L dl F w.drew S a w' ∧ M S a w') ⟨⟨⟨by simp, fun j _ => getD_toList _ _, rfl, hL⟩, hrf, (fun j hj => by cases hj), (fun j d hj => by cases hj)⟩, hM0⟩ (fun i hi S a w' hI hd hf => h1 i hi S a w' hI.1 hI.2 hd hf) (fun S a w' hI hS => h2 S a w' hI.1.lt hI.1.bl (fun i d hi hd => hI.1.known i d (hS i hi) hd) hI.2 hS)
end
/-- The operations. -/
def FS (d a bn : Nat) (kd tg : Int) (tx : ByteArray) (nk : Value) (ks : List Nd) : Nat → Value → World → Prop
  | 0, v, _ => v = .pointer (some ⟨bn, 0, none⟩)
  | 1, v, _ => v = .int .i64 kd
  | 2, v, _ => v = .pointer (some ⟨bn, 1, none⟩)
  | 3, v, _ => v = .int .i64 tg
  | 4, v, _ => v = .pointer (some ⟨bn, 2, none⟩)
  | 5, v, _ => v = .string tx
  | 6, v, _ => v = .pointer (some ⟨bn, 3, none⟩)
  | 7, v, _ => v = nk
  | 8, v, w => LRx d w (In a w) v (join ks)
  | 10, v, w => ∃ g, v = .pointer (some ⟨g, 0, none⟩) ∧ a ≤ g ∧ w.heap[g]? = some (.cells zeroN 31)
  | _, _, _ => True
theorem FS.st {d a bn : Nat} {kd tg : Int} {tx : ByteArray} {nk : Value} {ks : List Nd} : ∀ i v w w', FS d a bn kd tg tx nk ks i v w → Bl w w' → FS d a bn kd tg tx nk ks i v w' := by
  intro i v w w' h hb
  unfold FS at h ⊢
  split <;> simp only at h ⊢
  all_goals first
    | exact h
    | exact In.below h hb
    | exact (let ⟨g, h1, h2, h3⟩ := h; ⟨g, h1, h2, (Below.block hb g (Array.getElem?_eq_some_iff.1 h3).1).trans h3⟩)
/-- How the operations hang together: what was joined does not lie in the new block. -/
structure MS (d a0 : Nat) (kd tg : Int) (tx : ByteArray) (ks : List Nd) (S : Nat → Bool) (a : Act) (w : World) : Prop where
  m1 : S 8 = true → S 10 = true → ∃ g, a.tmps.getD 6 undef = .pointer (some ⟨g, 0, none⟩) ∧ LRx d w (fun q => In a0 w q ∧ q ≠ g) (a.tmps.getD 67 undef) (join ks)
  m2 : S 9 = true → S 8 = true ∧ ∃ A c, a.tmps.getD 67 undef = .slice A (join ks).length c ∧ a.tmps.getD 68 undef = .agg #[.int .i64 kd, .int .i64 tg, .string tx, .slice A (join ks).length c, .slice none 0 0]
theorem upd_ne {S : Nat → Bool} {i j : Nat} (h : j ≠ i) : upd S i j = S j := by simp [upd, h]
theorem MS.other {d a0 : Nat} {kd tg : Int} {tx : ByteArray} {ks : List Nd} {S : Nat → Bool} {a : Act} {w : World} (h : MS d a0 kd tg tx ks S a w) {i e : Nat} (v : Value) (hi : 8 ≠ i ∧ 9 ≠ i ∧ 10 ≠ i) (he : e ≠ 6 ∧ e ≠ 67 ∧ e ≠ 68) : MS d a0 kd tg tx ks (upd S i) (a.put (some e) v) w := by
  refine ⟨fun h1 h2 => ?_, fun h1 => ?_⟩
  · rw [upd_ne hi.1] at h1; rw [upd_ne hi.2.2] at h2
    rw [put_other he.1, put_other he.2.1]; exact h.m1 h1 h2
  · rw [upd_ne hi.2.1] at h1
    rw [upd_ne hi.1, put_other he.2.1, put_other he.2.2]; exact h.m2 h1
end Go.Proofs.Ytlceaadaeednpaa.Tr
