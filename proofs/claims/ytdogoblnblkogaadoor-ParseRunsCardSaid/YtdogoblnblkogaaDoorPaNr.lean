/-
  The trees of the texts that the laws on nested calls and on runs of braces make, by the kernel.
-/
import Derived.Test.YtdogoblnblkogaaDoorPaF
namespace Go.Proofs.YtdogoblnblkogaaDoor.Pa
open Go.Proofs.YtdogoblnblkogaaDoor.Tr

/-- The scan with a bound on its steps, which the kernel can run. -/
def scanF (s : List UInt8) : Nat → Nat → Nat → List Tk.Tok
  | 0, text, _ => Tk.gap text s.length
  | f + 1, text, i =>
    if i < s.length then
      if (Tk.mark (s.drop i)).2 = 0 then scanF s f text (i + 1)
      else Tk.gap text i ++ ((Tk.mark (s.drop i)).1, i, i + (Tk.mark (s.drop i)).2) :: scanF s f (i + (Tk.mark (s.drop i)).2) (i + (Tk.mark (s.drop i)).2)
    else Tk.gap text s.length
theorem scanF_eq (s : List UInt8) : ∀ (f text i : Nat), s.length - i ≤ f → scanF s f text i = Tk.scanL s text i
  | 0, text, i, h => by rw [Tk.scan_end (by omega)]; rfl
  | f + 1, text, i, h => by
    unfold scanF
    by_cases hlt : i < s.length
    · rw [if_pos hlt]
      by_cases h0 : (Tk.mark (s.drop i)).2 = 0
      · rw [if_pos h0, Tk.scan_no hlt h0, scanF_eq s f text (i + 1) (by omega)]
      · rw [if_neg h0, Tk.scan_yes hlt h0, scanF_eq s f _ _ (by omega)]
    · rw [if_neg hlt, Tk.scan_end hlt]
def toksF (s : List UInt8) : List (Nat × List UInt8 × Int) := (scanF s s.length 0 0).map (tk s)
theorem toksF_eq (s : List UInt8) : toksF s = toks s := by
  unfold toksF toks
  rw [scanF_eq s _ 0 0 (by omega)]
def rp (a : Nat) (l : List UInt8) : List UInt8 := (List.replicate a l).flatten
def nestT (n : Nat) : List UInt8 := rp n [123, 123, 97, 124] ++ rp n [125, 125]
def runT (n : Nat) : List UInt8 := rp n [123] ++ ([97] ++ rp n [125])
/-- How many calls lie within one another, by their first arguments. -/
def cnt : Nat → List Nd → Nat
  | 0, _ => 0
  | f + 1, n :: _ => match n.args with
    | a :: _ => if n.kind = 4 then 1 + cnt f a.value else 0
    | [] => 0
  | _ + 1, [] => 0
theorem nest_all : (List.range 32).all (fun n => cnt 40 (tree (toksF (nestT n))) == min n 20) = true := by decide +kernel
theorem nest_cnt {n : Nat} (h : n < 32) : cnt 40 (tree (toks (nestT n))) = min n 20 := by
  have := List.all_eq_true.1 nest_all n (List.mem_range.2 h)
  rw [toksF_eq] at this
  exact beq_iff_eq.1 this
/-! ### Runs -/
def isTx (l : List Nd) (s : List UInt8) : Bool := match l with
  | [n] => n.kind == 1 && (n.tag == 0 && (n.text.data.toList == s && (n.kids.isEmpty && n.args.isEmpty)))
  | _ => false
theorem isTx_eq {l : List Nd} {s : List UInt8} (h : isTx l s = true) : l = [.mk 1 0 ⟨s.toArray⟩ [] []] := by
  unfold isTx at h
  split at h
  · rename_i n
    cases n with | mk k t x ks az =>
    simp only [Bool.and_eq_true, beq_iff_eq, Nd.kind, Nd.tag, Nd.text, Nd.kids, Nd.args, List.isEmpty_iff] at h
    obtain ⟨rfl, rfl, h3, rfl, rfl⟩ := h
    subst h3
    rfl
  · cases h
/-- Along single calls and parameters: how many of each, and what is within. -/
def fol : Nat → List Nd → Nat × Nat × List Nd
  | 0, l => (0, 0, l)
  | f + 1, l => match l with
    | [n] => if n.kind = 5 then ((fol f n.kids).1 + 1, (fol f n.kids).2.1, (fol f n.kids).2.2)
      else if n.kind = 4 then ((fol f n.kids).1, (fol f n.kids).2.1 + 1, (fol f n.kids).2.2) else (0, 0, l)
    | _ => (0, 0, l)
/-- What is left of the list once the braces that stand alone are taken off. -/
def core (n : Nat) (l : List Nd) : List Nd := if n % 3 = 1 then (l.drop 1).take 1 else l
def runOk (n : Nat) (l : List Nd) : Bool :=
  (if n % 3 = 1 then l.length == 3 && (isTx (l.take 1) [123] && isTx (l.drop 2) [125]) else true) &&
  (isTx (fol 40 (core n l)).2.2 [97] && ((fol 40 (core n l)).1 == n / 3 && (fol 40 (core n l)).2.1 == if n % 3 = 2 then 1 else 0))
theorem run_all : (List.range 18).all (fun n => decide (n < 2) || runOk n (tree (toksF (runT n)))) = true := by decide +kernel
theorem run_ok {n : Nat} (h2 : 2 ≤ n) (h : n < 18) : runOk n (tree (toks (runT n))) = true := by
  have := List.all_eq_true.1 run_all n (List.mem_range.2 h)
  rw [toksF_eq, decide_eq_false (by omega), Bool.false_or] at this
  exact this
theorem runT_len (n : Nat) : (runT n).length = 2 * n + 1 := by
  unfold runT rp
  simp; omega
theorem nestT_len (n : Nat) : (nestT n).length = 6 * n := by
  unfold nestT rp
  simp; omega
end Go.Proofs.YtdogoblnblkogaaDoor.Pa
