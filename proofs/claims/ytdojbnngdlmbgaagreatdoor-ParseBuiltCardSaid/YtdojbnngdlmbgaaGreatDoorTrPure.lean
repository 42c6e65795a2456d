/-
  Trees as plain data: their sources, numbers and depths, and bounds on them.
-/
import Derived.Below
import Derived.Lib.Hide
import Derived.ProofKit
namespace Go.Proofs.YtdojbnngdlmbgaaGreatDoor.Tr

mutual
inductive Nd where
  | mk (kind tag : Int) (text : ByteArray) (kids : List Nd) (args : List Ar)
inductive Ar where
  | mk (named : Bool) (name value : List Nd)
end
def Nd.kind : Nd → Int | .mk k _ _ _ _ => k
def Nd.tag : Nd → Int | .mk _ t _ _ _ => t
def Nd.text : Nd → ByteArray | .mk _ _ s _ _ => s
def Nd.kids : Nd → List Nd | .mk _ _ _ k _ => k
def Nd.args : Nd → List Ar | .mk _ _ _ _ a => a
def Ar.named : Ar → Bool | .mk n _ _ => n
def Ar.name : Ar → List Nd | .mk _ n _ => n
def Ar.value : Ar → List Nd | .mk _ _ v => v
theorem Nd.eta : ∀ n : Nd, n = .mk n.kind n.tag n.text n.kids n.args | .mk _ _ _ _ _ => rfl
theorem Ar.eta : ∀ n : Ar, n = .mk n.named n.name n.value | .mk _ _ _ => rfl

/-- A tag's name. -/
def tname (t : Int) : List UInt8 :=
  if t = 1 then [110, 111, 105, 110, 99, 108, 117, 100, 101]
  else if t = 2 then [105, 110, 99, 108, 117, 100, 101, 111, 110, 108, 121]
  else if t = 3 then [111, 110, 108, 121, 105, 110, 99, 108, 117, 100, 101]
  else []
/-- A tag around a text. -/
def tagged (t : Int) (x : List UInt8) : List UInt8 := if tname t = [] then [] else [60] ++ tname t ++ [62] ++ x ++ [60, 47] ++ tname t ++ [62]
def nowikiL : List UInt8 := [60, 110, 111, 119, 105, 107, 105, 62]
def nowikiR : List UInt8 := [60, 47, 110, 111, 119, 105, 107, 105, 62]
/-- A node's text, out of those of its parts. -/
def ntext (k t : Int) (s x y : List UInt8) : List UInt8 :=
  if k = 1 then s else if k = 2 then s else if k = 3 then nowikiL ++ s ++ nowikiR
  else if k = 4 then [123, 123] ++ x ++ y ++ [125, 125] else if k = 5 then [123, 123, 123] ++ x ++ y ++ [125, 125, 125]
  else if k = 6 then tagged t x else []
mutual
def src : List Nd → List UInt8
  | [] => []
  | n :: r => srcN n ++ src r
def srcN : Nd → List UInt8
  | .mk k t s kids args => ntext k t s.data.toList (src kids) (srcA args)
def srcA : List Ar → List UInt8
  | [] => []
  | a :: r => srcG a ++ srcA r
def srcG : Ar → List UInt8
  | .mk b n v => [124] ++ (if b then src n ++ [61] else []) ++ src v
end
theorem srcN_eq (n : Nd) : srcN n = ntext n.kind n.tag n.text.data.toList (src n.kids) (srcA n.args) := by cases n; simp [srcN, Nd.kind, Nd.tag, Nd.text, Nd.kids, Nd.args]
theorem srcG_eq (a : Ar) : srcG a = [124] ++ (if a.named then src a.name ++ [61] else []) ++ src a.value := by cases a; rw [srcG]; rfl
theorem src_nil : src [] = [] := by simp [src]
theorem src_cons (n : Nd) (r : List Nd) : src (n :: r) = srcN n ++ src r := by simp [src]
theorem srcA_nil : srcA [] = [] := by simp [srcA]
theorem srcA_cons (n : Ar) (r : List Ar) : srcA (n :: r) = srcG n ++ srcA r := by simp [srcA]
theorem src_append : ∀ a b : List Nd, src (a ++ b) = src a ++ src b
  | [], b => by simp [src_nil]
  | n :: r, b => by simp only [List.cons_append, src_cons, src_append r b, List.append_assoc]
theorem srcA_append : ∀ a b : List Ar, srcA (a ++ b) = srcA a ++ srcA b
  | [], b => by simp [srcA_nil]
  | n :: r, b => by simp only [List.cons_append, srcA_cons, srcA_append r b, List.append_assoc]

/-! The reference's number of nodes. -/
mutual
def cntR : List Nd → Nat
  | [] => 0
  | n :: r => cntRN n + cntR r
def cntRN : Nd → Nat
  | .mk _ _ _ kids args => 1 + cntR kids + cntRA args
def cntRA : List Ar → Nat
  | [] => 0
  | a :: r => cntRG a + cntRA r
def cntRG : Ar → Nat
  | .mk _ n v => cntR n + cntR v
end
theorem cntRN_eq (n : Nd) : cntRN n = 1 + cntR n.kids + cntRA n.args := by cases n; simp [cntRN, Nd.kids, Nd.args]
theorem cntRG_eq (a : Ar) : cntRG a = cntR a.name + cntR a.value := by cases a; simp [cntRG, Ar.name, Ar.value]
theorem cntR_nil : cntR [] = 0 := by simp [cntR]
theorem cntR_cons (n : Nd) (r : List Nd) : cntR (n :: r) = cntRN n + cntR r := by simp [cntR]
theorem cntRA_nil : cntRA [] = 0 := by simp [cntRA]
theorem cntRA_cons (n : Ar) (r : List Ar) : cntRA (n :: r) = cntRG n + cntRA r := by simp [cntRA]
theorem cntR_append : ∀ a b : List Nd, cntR (a ++ b) = cntR a + cntR b
  | [], b => by simp [cntR_nil]
  | n :: r, b => by simp only [List.cons_append, cntR_cons, cntR_append r b]; omega
theorem cntRA_append : ∀ a b : List Ar, cntRA (a ++ b) = cntRA a + cntRA b
  | [], b => by simp [cntRA_nil]
  | n :: r, b => by simp only [List.cons_append, cntRA_cons, cntRA_append r b]; omega

/-! The program's number of nodes and depth. -/
def hasK (k : Int) : Bool := k != 1 && k != 2 && k != 3
def hasA (k : Int) : Bool := hasK k && k != 6
mutual
def cnt : List Nd → Nat
  | [] => 0
  | n :: r => cntN n + cnt r
def cntN : Nd → Nat
  | .mk k _ _ kids args => 1 + (if hasK k then cnt kids else 0) + (if hasA k then cntA args else 0)
def cntA : List Ar → Nat
  | [] => 0
  | a :: r => cntG a + cntA r
def cntG : Ar → Nat
  | .mk b n v => (if b then cnt n else 0) + cnt v
end
theorem cntN_eq (n : Nd) : cntN n = 1 + (if hasK n.kind then cnt n.kids else 0) + (if hasA n.kind then cntA n.args else 0) := by cases n; rw [cntN]; rfl
theorem cntG_eq (a : Ar) : cntG a = (if a.named then cnt a.name else 0) + cnt a.value := by cases a; rw [cntG]; rfl
theorem cnt_nil : cnt [] = 0 := by simp [cnt]
theorem cnt_cons (n : Nd) (r : List Nd) : cnt (n :: r) = cntN n + cnt r := by simp [cnt]
theorem cntA_nil : cntA [] = 0 := by simp [cntA]
theorem cntA_cons (n : Ar) (r : List Ar) : cntA (n :: r) = cntG n + cntA r := by simp [cntA]
theorem cnt_append : ∀ a b : List Nd, cnt (a ++ b) = cnt a + cnt b
  | [], b => by simp [cnt_nil]
  | n :: r, b => by simp only [List.cons_append, cnt_cons, cnt_append r b]; omega
/-- The lists directly below, in the order in which they are yielded. -/
def belowG (a : Ar) : List (List Nd) := (if a.named then [a.name] else []) ++ [a.value]
def belowN (n : Nd) : List (List Nd) := (if hasK n.kind then [n.kids] else []) ++ (if hasA n.kind then n.args.flatMap belowG else [])
def below (l : List Nd) : List (List Nd) := l.flatMap belowN
theorem cntA_sum : ∀ l : List Ar, cntA l = ((l.flatMap belowG).map cnt).sum
  | [] => by simp [cntA_nil]
  | a :: r => by
    rw [cntA_cons, cntA_sum r, cntG_eq, List.flatMap_cons, List.map_append, List.sum_append]
    cases h : a.named <;> simp [belowG, h] <;> omega
theorem cnt_sum : ∀ l : List Nd, cnt l = l.length + ((below l).map cnt).sum
  | [] => by simp [cnt_nil, below]
  | n :: r => by
    have ih := cnt_sum r
    unfold below at ih ⊢
    rw [cnt_cons, ih, cntN_eq, List.flatMap_cons, List.map_append, List.sum_append, List.length_cons]
    cases h : hasK n.kind <;> cases h' : hasA n.kind <;> simp [belowN, h, h', cntA_sum] <;> omega
mutual
def depM : List Nd → Nat
  | [] => 0
  | n :: r => max (depN n) (depM r)
def depN : Nd → Nat
  | .mk k _ _ kids args => max (if hasK k then (if kids.isEmpty then 0 else 1 + depM kids) else 0) (if hasA k then depA args else 0)
def depA : List Ar → Nat
  | [] => 0
  | a :: r => max (depG a) (depA r)
def depG : Ar → Nat
  | .mk b n v => max (if b then (if n.isEmpty then 0 else 1 + depM n) else 0) (if v.isEmpty then 0 else 1 + depM v)
end
def dep (l : List Nd) : Nat := if l.isEmpty then 0 else 1 + depM l
/-- The greatest of some numbers. -/
def top : List Nat → Nat
  | [] => 0
  | a :: r => max a (top r)
theorem top_append : ∀ a b : List Nat, top (a ++ b) = max (top a) (top b)
  | [], b => by simp [top]
  | n :: r, b => by simp only [List.cons_append, top, top_append r b]; omega
theorem depG_eq (a : Ar) : depG a = top ((belowG a).map dep) := by
  cases a with | mk b n v => cases b <;> simp [depG, belowG, Ar.named, Ar.name, Ar.value, top, dep]
theorem depA_eq : ∀ l : List Ar, depA l = top ((l.flatMap belowG).map dep)
  | [] => by simp [depA, top]
  | a :: r => by rw [depA, depA_eq r, depG_eq, List.flatMap_cons, List.map_append, top_append]
theorem depN_eq (n : Nd) : depN n = top ((belowN n).map dep) := by
  cases n with
  | mk k t s kids args =>
    rw [depN, depA_eq]
    cases h : hasK k <;> cases h' : hasA k <;> simp [belowN, Nd.kind, Nd.kids, Nd.args, h, h', top, dep]
theorem depM_eq : ∀ l : List Nd, depM l = top ((below l).map dep)
  | [] => by simp [depM, below, top]
  | n :: r => by
    have ih := depM_eq r
    unfold below at ih ⊢
    rw [depM, ih, depN_eq, List.flatMap_cons, List.map_append, top_append]

/-! Size. -/
mutual
def sz : List Nd → Nat
  | [] => 0
  | n :: r => szN n + sz r
def szN : Nd → Nat
  | .mk _ _ s kids args => 1 + s.size + sz kids + szA args
def szA : List Ar → Nat
  | [] => 0
  | a :: r => szG a + szA r
def szG : Ar → Nat
  | .mk _ n v => 1 + sz n + sz v
end
theorem szN_eq (n : Nd) : szN n = 1 + n.text.size + sz n.kids + szA n.args := by cases n; simp [szN, Nd.text, Nd.kids, Nd.args]
theorem szG_eq (a : Ar) : szG a = 1 + sz a.name + sz a.value := by cases a; simp [szG, Ar.name, Ar.value]
theorem sz_nil : sz [] = 0 := by simp [sz]
theorem sz_cons (n : Nd) (r : List Nd) : sz (n :: r) = szN n + sz r := by simp [sz]
theorem szA_nil : szA [] = 0 := by simp [szA]
theorem szA_cons (n : Ar) (r : List Ar) : szA (n :: r) = szG n + szA r := by simp [szA]
theorem sz_append : ∀ a b : List Nd, sz (a ++ b) = sz a + sz b
  | [], b => by simp [sz_nil]
  | n :: r, b => by simp only [List.cons_append, sz_cons, sz_append r b]; omega
theorem szA_append : ∀ a b : List Ar, szA (a ++ b) = szA a + szA b
  | [], b => by simp [szA_nil]
  | n :: r, b => by simp only [List.cons_append, szA_cons, szA_append r b]; omega
theorem sz_len : ∀ l : List Nd, l.length ≤ sz l
  | [] => by simp
  | n :: r => by have := sz_len r; rw [sz_cons, szN_eq, List.length_cons]; omega
theorem szA_len : ∀ l : List Ar, l.length ≤ szA l
  | [] => by simp
  | n :: r => by have := szA_len r; rw [szA_cons, szG_eq, List.length_cons]; omega
theorem sz_mem : ∀ {l : List Nd} {n : Nd}, n ∈ l → szN n ≤ sz l
  | a :: r, n, h => by
    rw [sz_cons]
    rcases List.mem_cons.1 h with rfl | h
    · omega
    · have := sz_mem h; omega
theorem szA_mem : ∀ {l : List Ar} {n : Ar}, n ∈ l → szG n ≤ szA l
  | a :: r, n, h => by
    rw [szA_cons]
    rcases List.mem_cons.1 h with rfl | h
    · omega
    · have := szA_mem h; omega
theorem tname_len (t : Int) : (tname t).length ≤ 11 := by unfold tname; split <;> (try split) <;> (try split) <;> simp
theorem tagged_len (t : Int) (x : List UInt8) : (tagged t x).length ≤ 27 + x.length := by
  have := tname_len t
  unfold tagged; split
  · simp
  · simp only [List.length_append, List.length_cons, List.length_nil]; omega
theorem ntext_len (k t : Int) (s x y : List UInt8) : (ntext k t s x y).length ≤ 27 + s.length + x.length + y.length := by
  have := tagged_len t x
  unfold ntext nowikiL nowikiR
  repeat' split
  all_goals (try simp only [List.length_append, List.length_cons, List.length_nil]); omega
mutual
theorem src_len : ∀ l : List Nd, (src l).length ≤ 27 * sz l
  | [] => by simp [src_nil]
  | n :: r => by
    have h1 := srcN_len n
    have h2 := src_len r
    rw [src_cons, sz_cons, List.length_append]; omega
theorem srcN_len : ∀ n : Nd, (srcN n).length ≤ 27 * szN n
  | .mk k t s kids args => by
    have h1 := src_len kids
    have h2 := srcA_len args
    have h3 := ntext_len k t s.data.toList (src kids) (srcA args)
    have h4 : s.data.toList.length = s.size := rfl
    rw [srcN, szN]; omega
theorem srcA_len : ∀ l : List Ar, (srcA l).length ≤ 27 * szA l
  | [] => by simp [srcA_nil]
  | n :: r => by
    have h1 := srcG_len n
    have h2 := srcA_len r
    rw [srcA_cons, szA_cons, List.length_append]; omega
theorem srcG_len : ∀ a : Ar, (srcG a).length ≤ 27 * szG a
  | .mk b n v => by
    have h1 := src_len n
    have h2 := src_len v
    rw [srcG, szG]
    cases b <;> simp only [List.length_append, List.length_cons, List.length_nil, if_true, if_false, Bool.false_eq_true] <;> omega
end
mutual
theorem cntR_le : ∀ l : List Nd, cntR l ≤ sz l
  | [] => by simp [cntR_nil]
  | n :: r => by have h1 := cntRN_le n; have h2 := cntR_le r; rw [cntR_cons, sz_cons]; omega
theorem cntRN_le : ∀ n : Nd, cntRN n ≤ szN n
  | .mk k t s kids args => by have h1 := cntR_le kids; have h2 := cntRA_le args; rw [cntRN, szN]; omega
theorem cntRA_le : ∀ l : List Ar, cntRA l ≤ szA l
  | [] => by simp [cntRA_nil]
  | n :: r => by have h1 := cntRG_le n; have h2 := cntRA_le r; rw [cntRA_cons, szA_cons]; omega
theorem cntRG_le : ∀ a : Ar, cntRG a ≤ szG a
  | .mk b n v => by have h1 := cntR_le n; have h2 := cntR_le v; rw [cntRG, szG]; omega
end
mutual
theorem cnt_le : ∀ l : List Nd, cnt l ≤ sz l
  | [] => by simp [cnt_nil]
  | n :: r => by have h1 := cntN_le n; have h2 := cnt_le r; rw [cnt_cons, sz_cons]; omega
theorem cntN_le : ∀ n : Nd, cntN n ≤ szN n
  | .mk k t s kids args => by have h1 := cnt_le kids; have h2 := cntA_le args; rw [cntN, szN]; split <;> split <;> omega
theorem cntA_le : ∀ l : List Ar, cntA l ≤ szA l
  | [] => by simp [cntA_nil]
  | n :: r => by have h1 := cntG_le n; have h2 := cntA_le r; rw [cntA_cons, szA_cons]; omega
theorem cntG_le : ∀ a : Ar, cntG a ≤ szG a
  | .mk b n v => by have h1 := cnt_le n; have h2 := cnt_le v; rw [cntG, szG]; split <;> omega
end
mutual
theorem depM_le : ∀ l : List Nd, depM l ≤ sz l
  | [] => by simp [depM]
  | n :: r => by have h1 := depN_le n; have h2 := depM_le r; rw [depM, sz_cons]; omega
theorem depN_le : ∀ n : Nd, depN n ≤ szN n
  | .mk k t s kids args => by
    have h1 := depM_le kids; have h2 := depA_le args; rw [depN, szN]
    split <;> split <;> (try split) <;> omega
theorem depA_le : ∀ l : List Ar, depA l ≤ szA l
  | [] => by simp [depA]
  | n :: r => by have h1 := depG_le n; have h2 := depA_le r; rw [depA, szA_cons]; omega
theorem depG_le : ∀ a : Ar, depG a ≤ szG a
  | .mk b n v => by
    have h1 := depM_le n; have h2 := depM_le v; rw [depG, szG]
    split <;> (try split) <;> (try split) <;> omega
end
theorem dep_le (l : List Nd) : dep l ≤ 1 + sz l := by have := depM_le l; unfold dep; split <;> omega
end Go.Proofs.YtdojbnngdlmbgaaGreatDoor.Tr
