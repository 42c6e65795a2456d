/-
  A region that draws its order and only reads, in a round of a range over a function: one walk in the order of the text serves every order, as outside a round, since none of its operations is a defer statement.
-/
import Derived.Sort.QuietIn
namespace Go.Proofs.YtihhejeciagdpaaDoor.Sf
open Go.RowKit
section
variable {F : Fence} {n : Nat} {P : Program} {ops : Array Oper} {C : World → Prop}

def noDefer (o : Oper) : Bool := match o.op with
  | .defer _ => false
  | _ => true
theorem noDefer_ne {o : Oper} (h : noDefer o = true) (c) : o.op ≠ .defer c := by
  intro e
  unfold noDefer at h
  rw [e] at h
  cases h
/-- An operation that only reads, in whatever round. -/
theorem quiet_wp {o : Oper} {a : Act} {K : Act → Prop} {K' : Act → World → Prop} {X : Exit → Act → World → Prop} {w : World} (hd : noDefer o = true) (hw : C w) (hK : ∀ a w', C w' → K a → K' a w')
    (ha : o.askedIn F P a C) (hq : o.quietIn F n P a C K) : o.wpIn F n P a w K' X := by
  obtain ⟨v, hv, hk⟩ := hq
  have hr := hv w hw
  refine ⟨ha w hw, ?_⟩
  rw [Oper.semAt_eq F.round a.eval o (noDefer_ne hd)]
  revert hr
  unfold Oper.quietAtIn
  cases (execOp a.eval o).run P w with
  | halt x w' => exact fun hr => hr.elim
  | ok x w' =>
    cases x with
    | value u => rintro ⟨rfl, rfl⟩; exact hK _ _ hw hk
    | skip => rintro ⟨rfl, rfl⟩; exact hK _ _ hw hk
    | enter f args =>
      rintro ⟨rfl, h1, h2⟩
      refine ⟨h1, h2.mono ?_⟩
      rintro e w'' ⟨rfl, hc⟩
      exact hK _ _ hc hk
    | _ => exact fun hr => hr.elim
theorem quiet_op {i : Nat} {a : Act} {K : Act → Prop} {K' : Act → World → Prop} {X : Exit → Act → World → Prop} {w : World} (hd : ∀ o, ops[i]? = some o → noDefer o = true) (hw : C w) (hK : ∀ a w', C w' → K a → K' a w')
    (hq : qOpIn F n P ops C i K a) : wpOpIn F n P ops X i K' a w := by
  unfold qOpIn at hq
  unfold wpOpIn
  cases ho : ops[i]? with
  | none => simp only [ho] at hq ⊢; exact hK _ _ hw hq
  | some o =>
    simp only [ho] at hq ⊢
    obtain ⟨ha, hq⟩ := hq
    by_cases hn : Region.wanted o (yielded ops a.tmps) = true
    · simp only [hn, if_true] at hq ⊢
      exact quiet_wp (hd o ho) hw hK ha hq
    · simp only [hn] at hq ⊢
      exact ⟨ha w hw, hK _ _ hw hq⟩
theorem quiet_any {md : Region.Mode} {Y : Act → Prop} {X : Exit → Act → World → Prop} (hd : ∀ (i : Nat) (o : Oper), ops[i]? = some o → noDefer o = true) (hY : ∀ a w, C w → Y a → X .normal a w) : ∀ (k : Nat) (listed : Array Bool) (a : Act) (w : World), C w →
    wpAnyQIn F n P md ops C Y k listed a → wpAnyIn F n P md ops X k listed a w := by
  intro k
  induction k with
  | zero => exact fun listed a w hw hq => ⟨hq.1, hY a w hw hq.2⟩
  | succ k ih => exact fun listed a w hw hq => ⟨fun h0 => hY a w hw (hq.1 h0), fun i hi => quiet_op (hd i) hw (fun a' w' hw' h' => ih _ a' w' hw' h') (hq.2 i hi)⟩
theorem wq_round {id : Nat} {X : Exit → Act → World → Prop} {a : Act} {w : World} {l : List Oper} (hd : l.all noDefer = true) (hm : P.follows .mixedOrders = true) (hB : Region.lexB .any l.toArray = true)
    (h : wpQuietIn F n P l.toArray (fun w' => ∃ n, w' = w.drewN n) (fun a' => ∀ w', (∃ n, w' = w.drewN n) → X .normal a' w') l a) : (Code.region id l.toArray true).wpIn F n P X a w := by
  have hB' := hB
  simp only [Region.lexB, Bool.and_eq_true] at hB'
  refine wpIn_region_any hm (quiet_any (C := fun w' => ∃ n, w' = w.drewN n) (Y := fun a' => ∀ w', (∃ n, w' = w.drewN n) → X .normal a' w') ?_ (fun _ w' hw' h' => h' w' hw') _ _ _ _ ⟨1, rfl⟩ ?_)
  · intro i o ho
    rw [List.getElem?_toArray] at ho
    exact List.all_eq_true.1 hd o (List.mem_of_getElem? ho)
  · have := wpAnyQIn_lex (F := F) (n := n) (C := fun w' => ∃ n, w' = w.drewN n) (md := .any) hB'.1 l 0 (Array.replicate l.length false) a (by simp) (by simpa using hB'.2) h
    simpa using this
end
end Go.Proofs.YtihhejeciagdpaaDoor.Sf
