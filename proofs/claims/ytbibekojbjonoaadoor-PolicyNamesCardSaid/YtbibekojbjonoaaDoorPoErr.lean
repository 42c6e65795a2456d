/-
  Policies as plain values: errors, statements, texts.
-/
import Derived.Test.YtbibekojbjonoaaDoorPoPure
import Derived.Test.YtbibekojbjonoaaDoorTiRound
namespace Go.Proofs.YtbibekojbjonoaaDoor.Po
set_option linter.unusedVariables false
set_option linter.unusedSimpArgs false

/-! ### The errors -/
def firstE {α : Type} (f : α → Nat) : List α → Nat
  | [] => 0
  | a :: r => if f a = 0 then firstE f r else f a
def memErr (gs : List Grp) (m : By) : Nat :=
  if m.head? = some 64 then (if isName (m.drop 1) then (if has gs (m.drop 1) then 0 else 4) else 1) else if isName m then 0 else 1
def groupErr (gs : List Grp) (i : Nat) (g : Grp) : Nat :=
  if isName g.nm then (if has (gs.take i) g.nm then 5 else if 24 < g.ms.length then 3 else firstE (memErr gs) g.ms) else 1
def gsErr (gs : List Grp) : Nat → List Grp → Nat
  | _, [] => 0
  | i, g :: r => if groupErr gs i g = 0 then gsErr gs (i + 1) r else groupErr gs i g
def scopeOK (kd sp : Int) (tn : By) : Bool :=
  if kd = 1 then decide (sp = 0 ∧ tn = []) else if kd = 2 then decide (0 ≤ sp ∧ sp < 6 ∧ tn = []) else if kd = 3 then Ti.valid sp tn else false
def secOK (se : By) : Bool := decide (se.length ≤ 100) && (!(se.any fun c => c == 10 || c == 124) && decide (tr se = se))
def rulErr (gs : List Grp) (r : Rul) : Nat := if r.ri < 1 ∨ 5 < r.ri then 2 else if has gs r.gr then (if scopeOK r.kd r.sp r.tn then 0 else 7) else 4
def gudErr (gs : List Grp) (d : Gud) : Nat := if has gs d.gr then (if Ti.valid d.sp d.tn && secOK d.se then 0 else 7) else 4
def validate (P : Pol) : Nat :=
  if 24 < P.gs.length ∨ 64 < P.rs.length ∨ 64 < P.ds.length then 3
  else if gsErr P.gs 0 P.gs = 0 then (if firstE (rulErr P.gs) P.rs = 0 then firstE (gudErr P.gs) P.ds else firstE (rulErr P.gs) P.rs) else gsErr P.gs 0 P.gs
theorem firstE_zero {α : Type} {f : α → Nat} {l : List α} (h : firstE f l = 0) : ∀ x ∈ l, f x = 0 := by
  induction l with
  | nil => simp
  | cons a r ih =>
    rw [firstE] at h
    by_cases ha : f a = 0
    · rw [if_pos ha] at h
      intro x hx
      rcases List.mem_cons.1 hx with rfl | hx
      · exact ha
      · exact ih h x hx
    · rw [if_neg ha] at h; exact absurd h ha
theorem firstE_all {α : Type} {f : α → Nat} {l : List α} (h : ∀ x ∈ l, f x = 0) : firstE f l = 0 := by
  induction l with
  | nil => rfl
  | cons a r ih => rw [firstE, if_pos (h a (by simp))]; exact ih fun x hx => h x (by simp [hx])
theorem firstE_drop {α : Type} (f : α → Nat) (l : List α) (k : Nat) (hk : k < l.length) (h : firstE f l = firstE f (l.drop k)) (h0 : f l[k] = 0) : firstE f l = firstE f (l.drop (k + 1)) := by
  rw [h, List.drop_eq_getElem_cons hk, firstE, if_pos h0]
theorem firstE_hit {α : Type} (f : α → Nat) (l : List α) (k : Nat) (hk : k < l.length) (h : firstE f l = firstE f (l.drop k)) (h0 : f l[k] ≠ 0) : firstE f l = f l[k] := by
  rw [h, List.drop_eq_getElem_cons hk, firstE, if_neg h0]
theorem firstE_end {α : Type} (f : α → Nat) (l : List α) (k : Nat) (hk : ¬ k < l.length) (h : firstE f l = firstE f (l.drop k)) : firstE f l = 0 := by
  rw [h, List.drop_of_length_le (by omega)]; rfl
theorem gsErr_drop (gs : List Grp) (k : Nat) (hk : k < gs.length) (h : gsErr gs 0 gs = gsErr gs k (gs.drop k)) (h0 : groupErr gs k gs[k] = 0) : gsErr gs 0 gs = gsErr gs (k + 1) (gs.drop (k + 1)) := by
  rw [h, List.drop_eq_getElem_cons hk, gsErr, if_pos h0]
theorem gsErr_hit (gs : List Grp) (k : Nat) (hk : k < gs.length) (h : gsErr gs 0 gs = gsErr gs k (gs.drop k)) (h0 : groupErr gs k gs[k] ≠ 0) : gsErr gs 0 gs = groupErr gs k gs[k] := by
  rw [h, List.drop_eq_getElem_cons hk, gsErr, if_neg h0]
theorem gsErr_end (gs : List Grp) (k : Nat) (hk : ¬ k < gs.length) (h : gsErr gs 0 gs = gsErr gs k (gs.drop k)) : gsErr gs 0 gs = 0 := by
  rw [h, List.drop_of_length_le (by omega)]; rfl
theorem gsErr_zero {gs : List Grp} : ∀ {k : Nat} {l : List Grp}, gsErr gs k l = 0 → ∀ (i : Nat) (h : i < l.length), groupErr gs (k + i) l[i] = 0
  | _, [], _, i, h => by simp at h
  | k, g :: r, h0, 0, h => by
    rw [gsErr] at h0
    by_cases hg : groupErr gs k g = 0
    · exact hg
    · rw [if_neg hg] at h0; exact absurd h0 hg
  | k, g :: r, h0, i + 1, h => by
    rw [gsErr] at h0
    by_cases hg : groupErr gs k g = 0
    · rw [if_pos hg] at h0
      have := gsErr_zero h0 i (by simpa using h)
      rw [Nat.add_assoc, Nat.add_comm 1 i] at this
      exact this
    · rw [if_neg hg] at h0; exact absurd h0 hg
/-! ### The words of statements -/
def wGroup : By := [103, 114, 111, 117, 112]
def wAllow : By := [97, 108, 108, 111, 119]
def wDeny : By := [100, 101, 110, 121]
def wGuard : By := [103, 117, 97, 114, 100]
def wStrict : By := [115, 116, 114, 105, 99, 116]
def rName : Nat → By
  | 1 => [114, 101, 97, 100]
  | 2 => [101, 100, 105, 116]
  | 3 => [109, 111, 118, 101]
  | 4 => [100, 101, 108, 101, 116, 101]
  | 5 => [114, 101, 118, 105, 101, 119]
  | _ => []
def right (w : By) : Nat := if rName 1 = w then 1 else if rName 2 = w then 2 else if rName 3 = w then 3 else if rName 4 = w then 4 else if rName 5 = w then 5 else 0
def sAll : By := [60, 97, 108, 108, 62]
def sName : Nat → By
  | 0 => [60, 77, 97, 105, 110, 62]
  | 1 => [60, 84, 97, 108, 107, 62]
  | 2 => [60, 85, 115, 101, 114, 62]
  | 3 => [60, 84, 101, 109, 112, 108, 97, 116, 101, 62]
  | 4 => [60, 67, 97, 116, 101, 103, 111, 114, 121, 62]
  | 5 => [60, 80, 114, 111, 106, 101, 99, 116, 62]
  | _ => []
/-- The namespace that a word in angle brackets names; 6 if there is none. -/
def spaceW (w : By) : Nat := if w = sName 0 then 0 else if w = sName 1 then 1 else if w = sName 2 then 2 else if w = sName 3 then 3 else if w = sName 4 then 4 else if w = sName 5 then 5 else 6
structure Scp where
  kd : Nat
  sp : Nat
  tn : By
  ok : Bool
  deriving DecidableEq
def scope (s : By) : Scp :=
  if s = sAll then ⟨1, 0, [], true⟩ else if spaceW s < 6 then ⟨2, spaceW s, [], true⟩ else ⟨3, (Ti.parse s).1.1, (Ti.parse s).1.2, decide ((Ti.parse s).2 = 0)⟩
inductive St where
  | skip | bad | grp (g : Grp) | rul (r : Rul) | gud (d : Gud)
  deriving DecidableEq
def stGroup (r : By) : St := if (cw r).1 = [] then .bad else .grp ⟨(cw r).1, words (cw r).2⟩
def mkRul (al : Bool) (r : By) : Rul :=
  ⟨al, (right (cw r).1 : Nat), (cw (cw r).2).1, ((scope (cw (cw r).2).2).kd : Nat), ((scope (cw (cw r).2).2).sp : Nat), (scope (cw (cw r).2).2).tn⟩
def stRule (al : Bool) (r : By) : St := if right (cw r).1 ≠ 0 ∧ (scope (cw (cw r).2).2).ok = true then .rul (mkRul al r) else .bad
def mkGud (st : Bool) (r : By) : Gud :=
  ⟨st, (cw r).1, ((Ti.parse (tr (Lib.cut (cw r).2 [124]).1)).1.1 : Nat), (Ti.parse (tr (Lib.cut (cw r).2 [124]).1)).1.2, tr (Lib.cut (cw r).2 [124]).2.1⟩
/-- A bar with nothing behind it. -/
def forgot (r : By) : Bool := (Lib.cut r [124]).2.2 && decide (tr (Lib.cut r [124]).2.1 = [])
def stGuard (st : Bool) (r : By) : St := if (Ti.parse (tr (Lib.cut (cw r).2 [124]).1)).2 = 0 ∧ forgot (cw r).2 = false then .gud (mkGud st r) else .bad
def stmt (line : By) : St :=
  if (cw line).1 = [] ∨ (cw line).1.head? = some 35 then .skip
  else if (cw line).1 = wGroup then stGroup (cw line).2
  else if (cw line).1 = wAllow ∨ (cw line).1 = wDeny then stRule (decide ((cw line).1 = wAllow)) (cw line).2
  else if (cw line).1 = wGuard ∨ (cw line).1 = wStrict then stGuard (decide ((cw line).1 = wStrict)) (cw line).2
  else .bad
def Pol.add (P : Pol) : St → Pol
  | .grp g => ⟨P.gs ++ [g], P.rs, P.ds⟩
  | .rul r => ⟨P.gs, P.rs ++ [r], P.ds⟩
  | .gud d => ⟨P.gs, P.rs, P.ds ++ [d]⟩
  | _ => P
/-- The policy of the lines, or none; and the number of the last line that was read. -/
def readL : List By → Nat → Pol → Option Pol × Nat
  | [], n, P => (some P, n)
  | l :: r, n, P => if stmt l = .bad then (none, n + 1) else readL r (n + 1) (P.add (stmt l))
structure Res where
  p : Pol
  n : Nat
  e : Nat
  deriving DecidableEq
def finish : Option Pol × Nat → Res
  | (none, n) => ⟨Pol.none, n, 1⟩
  | (some P, _) => if validate P = 0 then ⟨P, 0, 0⟩ else ⟨Pol.none, 0, validate P⟩
def parse (s : By) : Res := if 8192 < s.length then ⟨Pol.none, 0, 3⟩ else finish (readL (Rf.parts 10 s) 0 Pol.none)
/-! ### Texts -/
def fG (g : Grp) : By := wGroup ++ 32 :: g.nm ++ g.ms.flatMap (fun m => 32 :: m)
def fScope (r : Rul) : By := if r.kd = 1 then sAll else if r.kd = 2 then sName r.sp.toNat else Ti.format r.sp r.tn
def fR (r : Rul) : By := (if r.al then wAllow else wDeny) ++ 32 :: rName r.ri.toNat ++ 32 :: r.gr ++ 32 :: fScope r
def fD (d : Gud) : By := (if d.st then wStrict else wGuard) ++ 32 :: d.gr ++ 32 :: Ti.format d.sp d.tn ++ (if d.se = [] then [] else 32 :: 124 :: 32 :: d.se)
def fmt (P : Pol) : By := (P.gs.flatMap fun g => fG g ++ [10]) ++ (P.rs.flatMap fun r => fR r ++ [10]) ++ (P.ds.flatMap fun d => fD d ++ [10])
structure Txt where
  t : By
  e : Nat
  deriving DecidableEq
def formatP (P : Pol) : Txt := if validate P = 0 then (if 8192 < (fmt P).length then ⟨[], 3⟩ else ⟨fmt P, 0⟩) else ⟨[], validate P⟩
end Go.Proofs.YtbibekojbjonoaaDoor.Po
