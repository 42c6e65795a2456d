/-
  The value of a formula's tree.
-/
import Derived.Test.YtfocokjihbenmaaDoorFoPure
import Derived.Test.YtfocokjihbenmaaDoorNuMake
namespace Go.Proofs.YtfocokjihbenmaaDoor.Fo
open Go.Proofs.YtfocokjihbenmaaDoor.Nu

def tr (b : Bool) : R3 := if b then ⟨1, 1, 0⟩ else ⟨0, 1, 0⟩
def pwr (a : R3) : Nat → R3
  | 0 => ⟨1, 1, 0⟩
  | k + 1 => let r := pwr a k; if r.e = 0 then mul r.n r.d a.n a.d else r
def holdsB (o : Tok) (c : Int) : Bool :=
  if o = [61] then decide (c = 0) else if o = [60, 62] then !decide (c = 0) else if o = [60] then decide (c < 0) else if o = [62] then decide (0 < c) else if o = [60, 61] then decide (c ≤ 0) else decide (0 ≤ c)
def ap1 (o : Tok) (a : R3) : R3 :=
  if o = [45] then sub 0 1 a.n a.d else if o = [110, 111, 116] then tr (decide (a.n = 0)) else if o = [102, 108, 111, 111, 114] then ⟨flr a.n a.d, 1, 0⟩ else a
def rndF (a c : R3) : R3 := if c.d = 1 then rnd a.n a.d c.n else ⟨0, 0, 2⟩
def pwF (a c : R3) : R3 := if c.d = 1 ∧ 0 ≤ c.n ∧ c.n ≤ 30 then pwr a c.n.toNat else ⟨0, 0, 2⟩
def ap2 (o : Tok) (a c : R3) : R3 :=
  if o = [43] then add a.n a.d c.n c.d else if o = [45] then sub a.n a.d c.n c.d else if o = [42] then mul a.n a.d c.n c.d else if o = [47] then div a.n a.d c.n c.d
  else if o = [109, 111, 100] then mod a.n a.d c.n c.d else if o = [114, 111, 117, 110, 100] then rndF a c else if o = [94] then pwF a c
  else if o = [97, 110, 100] then tr (decide (a.n ≠ 0) && decide (c.n ≠ 0)) else if o = [111, 114] then tr (decide (a.n ≠ 0) || decide (c.n ≠ 0))
  else tr (holdsB o (cmp a.n a.d c.n c.d))
def val : T → R3
  | .bad => ⟨0, 0, 1⟩
  | .num s => parse s
  | .un o x => if (val x).e = 0 then ap1 o (val x) else ⟨0, 0, (val x).e⟩
  | .bin o x y => if (val x).e = 0 then (if (val y).e = 0 then ap2 o (val x) (val y) else ⟨0, 0, (val y).e⟩) else ⟨0, 0, (val x).e⟩
def fuel (l : List Tok) : Nat := 20 * l.length + 20
def top (l : List Tok) : Res := G (fuel l) 0 .bad l false
def evT (l : List Tok) : R3 :=
  if (top l).b = false ∧ (top l).r = [] then (if 20 < (top l).t.lv then ⟨0, 0, 17⟩ else val (top l).t) else ⟨0, 0, 1⟩
def ev (s : List UInt8) : R3 :=
  if 400 < s.length then ⟨0, 0, 3⟩ else match splitL s with
  | none => ⟨0, 0, 1⟩
  | some l => evT l
end Go.Proofs.YtfocokjihbenmaaDoor.Fo
