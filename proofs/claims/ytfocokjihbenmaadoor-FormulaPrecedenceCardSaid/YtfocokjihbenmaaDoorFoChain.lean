/-
  The contract of chain, over that of its operand.
-/
import Derived.Test.YtfocokjihbenmaaDoorFoNode
import Derived.Deep.RegionWith
namespace Go.Proofs.YtfocokjihbenmaaDoor.Fo
open Go.RowKit Go.Proofs.YtfocokjihbenmaaDoor.Nu
set_option linter.unusedVariables false
set_option linter.unusedSimpArgs false

/-- What a rule leaves: a node that reads as the tree, and the parser behind it. -/
def Post (gp bt : Nat) (w : World) (R : Res) (e : Ending) (w' : World) : Prop := ∃ x u, e = .returned x ∧ Nd (w.heap.size ≤ ·) w' R.t x ∧ St gp bt w' u R.r R.b ∧ Fr gp w.heap.size w w'
/-- The contract of the rule k at n steps. -/
def Lv (f : FuncId) (n k : Nat) : Prop := ∀ (gp bt : Nat) (w : World) (v : Value) (l : List Tok) (b : Bool), St gp bt w v l b → 20 * l.length + (12 - k) ≤ n → l.length ≤ 400 →
  Calls Tryd.prog f #[.pointer (some ⟨gp, 0, none⟩)] w (Post gp bt w (G n k .bad l b))
def tkLen (gp : Nat) (w : World) : Nat := match w.cell? ⟨gp, 0, none⟩ with
  | some (.slice _ n _) => n
  | _ => 0
theorem St.len {gp bt : Nat} {w : World} {v : Value} {l : List Tok} {b : Bool} (h : St gp bt w v l b) : tkLen gp w = l.length := by
  unfold tkLen
  rw [h.c0]
  obtain ⟨A, c, h1, _⟩ := h.t
  rw [h1]
/-- The variable at block c holds a node that reads as x. -/
def Vr (X : Nat → Prop) (w : World) (c : Nat) (x : T) : Prop := ∃ o A k d, w.heap[c]? = some (.cells #[.string o, .slice A k d, .int .i64 (x.lv : Int)] 45) ∧ Nd X w x (.agg #[.string o, .slice A k d, .int .i64 (x.lv : Int)])
theorem run_mkf (fn : Fn) (first cap : Array Value) (w : World) : (Instr.makeFunc fn first cap).run Tryd.prog w = .ok (.func fn first cap) w := rfl
theorem c3 {W : World} {c : Nat} {a b d : Value} {t : TypeId} (h : W.heap[c]? = some (.cells #[a, b, d] t)) : W.cell? ⟨c, 0, none⟩ = some a ∧ W.cell? ⟨c, 1, none⟩ = some b ∧ W.cell? ⟨c, 2, none⟩ = some d ∧ (∀ o, W.frozen? ⟨c, o, none⟩ = false) := by
  refine ⟨?_, ?_, ?_, fun o => ?_⟩
  · unfold World.cell?; rw [h]; rfl
  · unfold World.cell?; rw [h]; rfl
  · unfold World.cell?; rw [h]; rfl
  · unfold World.frozen?; rw [h]; rfl
theorem set3 {W : World} {c : Nat} {a b d : Value} {t : TypeId} (h : W.heap[c]? = some (.cells #[a, b, d] t)) (a' b' d' : Value) :
    (((W.setCell ⟨c, 0, none⟩ a').setCell ⟨c, 1, none⟩ b').setCell ⟨c, 2, none⟩ d').heap[c]? = some (.cells #[a', b', d'] t) := by
  simp only [World.setCell, Array.getElem?_modify, if_pos, h]
  rfl
theorem set3_ne {W : World} {c g : Nat} (h : g ≠ c) (a' b' d' : Value) : (((W.setCell ⟨c, 0, none⟩ a').setCell ⟨c, 1, none⟩ b').setCell ⟨c, 2, none⟩ d').heap[g]? = W.heap[g]? := by
  rw [Below.heap_setCell _ _ _ _ h, Below.heap_setCell _ _ _ _ h, Below.heap_setCell _ _ _ _ h]
/-- What holds ahead of a round of chain. -/
structure Ch (gp bt g : Nat) (S : List Tok) (w0 w : World) (cl cr : Nat) (R : Res) (n k : Nat) (x : T) (l : List Tok) (b : Bool) (u : Value) : Prop where
  st : St gp bt w u l b
  var : Vr (fun i => w0.heap.size < i ∧ i ≠ cl) w cl x
  res : ∃ c0 c1 c2, w.heap[cr]? = some (.cells #[c0, c1, c2] 45)
  row : ∀ j t, S[j]? = some t → w.cell? ⟨g, j, none⟩ = some (sv t)
  fr : Fr gp w0.heap.size w0 w
  eq : G n (10 + k) x l b = R
  fuel : 20 * l.length + 1 ≤ n
  len : l.length ≤ 400
  lv : x.lv + l.length ≤ 800
/-- A row of two nodes. -/
def two (o1 : ByteArray) (A1 : Option Addr) (k1 c1 : Nat) (n1 : Nat) (o2 : ByteArray) (A2 : Option Addr) (k2 c2 : Nat) (n2 : Nat) : Obj := .cells #[.string o1, .slice A1 k1 c1, .int .i64 (n1 : Int), .string o2, .slice A2 k2 c2, .int .i64 (n2 : Int)] 45
/-- A round of chain. -/
theorem Ch.step {gp bt g : Nat} {w0 w w2 w3 w4 : World} {cl : Nat} {R : Res} {m k : Nat} {x : T} {l r : List Tok} {b : Bool} {u u3 : Value} {o : Tok} {y : Res} {o1 o2 : ByteArray} {A1 A2 : Option Addr} {k1 c1 k2 c2 : Nat}
    (hc : Ch gp bt g (ops k) w0 w cl w0.heap.size R (m + 1) k x l b u) (hg : g < w0.heap.size) (hgp : gp < w0.heap.size) (hbt : bt < w0.heap.size) (hcl : w0.heap.size < cl) (hne : g ≠ gp) (hlr : l.length = r.length + 1)
    (hv : w.heap[cl]? = some (.cells #[.string o1, .slice A1 k1 c1, .int .i64 (x.lv : Int)] 45)) (hn1 : Nd (fun i => w0.heap.size < i ∧ i ≠ cl) w x (.agg #[.string o1, .slice A1 k1 c1, .int .i64 (x.lv : Int)]))
    (f2 : Fr gp w.heap.size w w2) (f3 : Fr gp w2.heap.size w2 w3) (hs3 : St gp bt w3 u3 y.r y.b) (hn2 : Nd (w2.heap.size ≤ ·) w3 y.t (.agg #[.string o2, .slice A2 k2 c2, .int .i64 (y.t.lv : Int)]))
    (hb4 : Below (w3.alloc (two o1 A1 k1 c1 x.lv o2 A2 k2 c2 y.t.lv)).heap.size (w3.alloc (two o1 A1 k1 c1 x.lv o2 A2 k2 c2 y.t.lv)) w4) (heq : G m (10 + k) (.bin o x y.t) y.r y.b = R) (hsz : y.t.sz + y.r.length ≤ r.length) :
    Ch gp bt g (ops k) w0 (((w4.setCell ⟨cl, 0, none⟩ (sv o)).setCell ⟨cl, 1, none⟩ (.slice (some ⟨w3.heap.size, 0, none⟩) 2 2)).setCell ⟨cl, 2, none⟩ (.int .i64 ((max x.lv y.t.lv + 1 : Nat) : Int))) cl w0.heap.size R m k (.bin o x y.t) y.r y.b u3 := by
  have hz0 := hc.fr.size
  have hz2 := f2.size
  have hz3 := f3.size
  have hz4 := hb4.size
  simp only [World.size_alloc] at hz4
  have hclw := lt_heap hv
  obtain ⟨e0, e1, e2, he⟩ := hc.res
  have hfu := hc.fuel
  have hle := hc.len
  have hlv := hc.lv
  have hyl := T.lv_sz y.t
  have B34 : Below w3.heap.size w3 w4 := ((Below.refl _ w3).alloc (Nat.le_refl _) _).trans (hb4.mono (by simp))
  have F4 : Fr gp w.heap.size w w4 := (f2.trans f3 f2.size).trans (Fr.of B34) (by omega)
  have hc4 : w4.heap[cl]? = some _ := (F4.block cl hclw (by omega)).trans hv
  have zz : ∀ (W : World) (a b d : Value), (((W.setCell ⟨cl, 0, none⟩ a).setCell ⟨cl, 1, none⟩ b).setCell ⟨cl, 2, none⟩ d).heap.size = W.heap.size := fun W a b d => by simp [World.setCell]
  have hnew : w4.heap[w3.heap.size]? = some (two o1 A1 k1 c1 x.lv o2 A2 k2 c2 y.t.lv) := (hb4.block w3.heap.size (by simp)).trans (heap_new _ _)
  refine ⟨?_, ?_, ⟨e0, e1, e2, ?_⟩, fun j t hj => ?_, ?_, heq, by omega, by omega, ?_⟩
  · exact (hs3.below B34).keep (set3_ne (by omega) _ _ _) (set3_ne (by omega) _ _ _) (by rw [zz]; exact Nat.le_refl _)
  · refine ⟨_, _, _, _, set3 hc4 _ _ _, ?_⟩
    refine ⟨w3.heap.size, _, _, _, _, _, _, _, rfl, ⟨by omega, by omega⟩, (set3_ne (by omega) _ _ _).trans hnew, ?_, ?_⟩
    · exact Nd.keep (fun i hi hl => (set3_ne hi.2 _ _ _).trans (F4.block i hl (by omega))) (fun i hi _ => hi) _ _ hn1
    · exact Nd.keep (X := fun i => w2.heap.size ≤ i) (fun i hi hl => (set3_ne (by omega) _ _ _).trans (B34.block i hl)) (fun i hi _ => ⟨by omega, by omega⟩) _ _ hn2
  · exact (set3_ne (by omega) _ _ _).trans ((F4.block _ (lt_heap he) (by omega)).trans he)
  · rw [World.cell?_of_block (w := w4) (set3_ne (by show g ≠ cl; omega) _ _ _), F4.cell (by omega) hne j none]
    exact hc.row j t hj
  · exact (hc.fr.trans F4 hz0).trans (Fr.of ((((Below.refl w0.heap.size w4).setCell (by show _ ≤ cl; omega) _).setCell (by show _ ≤ cl; omega) _).setCell (by show _ ≤ cl; omega) _)) (Nat.le_refl _)
  · simp only [T.lv]; omega
set_option maxRecDepth 100000 in
set_option maxHeartbeats 4000000 in
theorem chain_any (f : FuncId) (eg : ∀ args w, (callFunc f args).run Tryd.prog w = .ok (.enter f args) w) (n k : Nat) (hf : ∀ m, m ≤ n → Lv f m (k + 1)) (hk : k ≤ 5) (gp bt : Nat) (w : World) (v : Value) (l : List Tok) (b : Bool) (h : St gp bt w v l b) (hn : 20 * l.length + (12 - (k + 1)) ≤ n) (hl : l.length ≤ 400)
    (g : Nat) (hS : ∀ j x, (ops k)[j]? = some x → w.cell? ⟨g, j, none⟩ = some (sv x)) (hg : g ≠ gp) (hgl : g < w.heap.size) :
    Calls Tryd.prog 46 #[.pointer (some ⟨gp, 0, none⟩), .func (.func f) #[.pointer (some ⟨gp, 0, none⟩)] #[], .slice (some ⟨g, 0, none⟩) (ops k).length (ops k).length] w
      (Post gp bt w (G n (10 + k) (G n (k + 1) .bad l b).t (G n (k + 1) .bad l b).r (G n (k + 1) .bad l b).b)) := by
  have HF := Lib.hid hf; clear hf
  have HS := Lib.hid h; have HO := Lib.hid hS; clear h hS
  go_enter Tryd.func46, Tryd.ntmps46
  go_wp2_with fail
  refine (HF.out n (Nat.le_refl _) gp bt _ v l b (HS.out.alloc _) (by omega) hl).mono ?_
  rintro e w1 ⟨x, u, rfl, hx, hs, hf⟩
  obtain ⟨o0, A0, k0, c0, rfl⟩ := hx.form
  have hsz := hf.size
  simp only [World.size_alloc] at hsz
  have hRes : ∃ e0 e1 e2, w1.heap[w.heap.size]? = some (.cells #[e0, e1, e2] 45) := ⟨_, _, _, (hf.block w.heap.size (by simp) (by have := HS.out.lt; omega)).trans (heap_new w _)⟩
  have hG := G_sz n (k + 1) .bad l b
  have hL1 := T.lv_sz (G n (k + 1) .bad l b).t
  simp only [T.sz] at hG
  have hW : Fr gp w.heap.size w w1 := (Fr.of ((Below.refl _ w).alloc (Nat.le_refl _) _)).trans hf (by simp)
  have J0 : Hid (∃ m x l' b' u', m ≤ n ∧ Ch gp bt g (ops k) w (w1.alloc (.cells #[.string o0, .slice A0 k0 c0, .int .i64 ((G n (k + 1) .bad l b).t.lv : Int)] 45)) w1.heap.size w.heap.size (G n (10 + k) (G n (k + 1) .bad l b).t (G n (k + 1) .bad l b).r (G n (k + 1) .bad l b).b) m k x l' b' u') := Lib.hid
    ⟨n, _, _, _, u, Nat.le_refl _, hs.alloc _, ⟨_, _, _, _, heap_new _ _, Nd.keep (X := fun i => (w.alloc (.cells #[.string ⟨#[]⟩, .slice none 0 0, .int .i64 0] 45)).heap.size ≤ i) (fun i _ hl => Below.heap_alloc _ _ _ hl) (fun i (hi : (w.alloc (.cells #[.string ⟨#[]⟩, .slice none 0 0, .int .i64 0] 45)).heap.size ≤ i) hl => by simp only [World.size_alloc] at hi; exact ⟨by omega, by omega⟩) _ _ hx⟩, by
        obtain ⟨e0, e1, e2, he⟩ := hRes; exact ⟨e0, e1, e2, (Below.heap_alloc _ _ _ (by omega)).trans he⟩,
      fun j t hj => by
        have h1 := HO.out j t hj
        rw [World.cell?_of_block (w := w1) (Below.heap_alloc _ _ _ (by show g < w1.heap.size; omega)), hW.cell hgl hg j none]
        exact h1, hW.alloc (by omega) _, rfl, by omega, by omega, by omega⟩
  clear hs hx hf hRes hG hL1
  have HW := Lib.hid hW
  clear hW
  go_wp2_with fail
  have hgp := HS.out.lt
  obtain ⟨R, hR⟩ : ∃ R, (G n (10 + k) (G n (k + 1) .bad l b).t (G n (k + 1) .bad l b).r (G n (k + 1) .bad l b).b) = R := ⟨_, rfl⟩
  rw [hR] at J0 ⊢
  clear hR
  go_loopw [] (fun wr => Hid (∃ m x l' b' u', m ≤ n ∧ Ch gp bt g (ops k) w wr w1.heap.size w.heap.size R m k x l' b' u')) (fun wr => tkLen gp wr)
  case atStart => exact J0
  case round =>
    obtain ⟨m, x, l', b', u', hm, hc⟩ := hrel.out
    clear hrel J0
    obtain ⟨m, rfl⟩ : ∃ j, m = j + 1 := ⟨m - 1, by have := hc.fuel; omega⟩
    have hlen := hc.st.len
    have HT := Lib.hid (take_any hc.st g (ops k) hc.row (by have : ∀ k, (ops k).length ≤ 3 := (by intro k; unfold ops; split <;> decide); have := this k; omega) hc.len)
    have HC := Lib.hid hc
    cases hx : next (ops k) l' with
    | none =>
      rw [hx] at HT
      have heq : (⟨x, l', b'⟩ : Res) = R := by have := hc.eq; rw [G_lp, hx] at this; exact this
      have HE := Lib.hid heq; clear heq hx hc
      go_wp2_with fail
      refine HT.out.mono ?_
      rintro e w2 ⟨rfl, hs, hf⟩
      obtain ⟨o1, A1, k1, c1, hv, hn1⟩ := HC.out.var
      obtain ⟨e0, e1, e2, hr⟩ := HC.out.res
      have hcl : w2.heap[w1.heap.size]? = some _ := (hf.block _ (lt_heap hv) (by omega)).trans hv
      have hcr : w2.heap[w.heap.size]? = some _ := (hf.block _ (lt_heap hr) (by omega)).trans hr
      obtain ⟨q0, q1, q2, qf⟩ := c3 hcl
      obtain ⟨p0, p1, p2, pf⟩ := c3 hcr
      have pf0 := pf 0; have pf1 := pf 1; have pf2 := pf 2
      have hN : Nd (w.heap.size ≤ ·) (((w2.setCell ⟨w.heap.size, 0, none⟩ (.string o1)).setCell ⟨w.heap.size, 1, none⟩ (.slice A1 k1 c1)).setCell ⟨w.heap.size, 2, none⟩ (.int .i64 (x.lv : Int))) x (.agg #[.string o1, .slice A1 k1 c1, .int .i64 (x.lv : Int)]) :=
        Nd.keep (X := fun i => w.heap.size < i ∧ i ≠ w1.heap.size) (fun i hi hl => (set3_ne (by omega) _ _ _).trans (hf.block i hl (by omega))) (fun i hi _ => Nat.le_of_lt hi.1) _ _ hn1
      have hS9 : St gp bt (((w2.setCell ⟨w.heap.size, 0, none⟩ (.string o1)).setCell ⟨w.heap.size, 1, none⟩ (.slice A1 k1 c1)).setCell ⟨w.heap.size, 2, none⟩ (.int .i64 (x.lv : Int))) u' l' b' :=
        hs.keep ((set3_ne (by have := HS.out.lb; omega) _ _ _)) (set3_ne (by omega) _ _ _) (by simp [World.setCell])
      have hZ := set3 hcr (.string o1) (.slice A1 k1 c1) (.int .i64 (x.lv : Int))
      clear hv hn1 hr hcl hcr
      have hF : Fr gp w.heap.size w (((w2.setCell ⟨w.heap.size, 0, none⟩ (.string o1)).setCell ⟨w.heap.size, 1, none⟩ (.slice A1 k1 c1)).setCell ⟨w.heap.size, 2, none⟩ (.int .i64 (x.lv : Int))) :=
        (HC.out.fr.trans hf HC.out.fr.size).trans (Fr.of ((((Below.refl w.heap.size w2).setCell (Nat.le_refl _) _).setCell (Nat.le_refl _) _).setCell (Nat.le_refl _) _)) (Nat.le_refl _)
      clear hf
      go_wp2_with fail
      generalize (((w2.setCell ⟨w.heap.size, 0, none⟩ (.string o1)).setCell ⟨w.heap.size, 1, none⟩ (.slice A1 k1 c1)).setCell ⟨w.heap.size, 2, none⟩ (.int .i64 (x.lv : Int))) = W9 at hZ hN hS9 hF ⊢
      obtain ⟨z0, z1, z2, _⟩ := c3 hZ
      refine bodyPost_ret (v := .agg #[.string o1, .slice A1 k1 c1, .int .i64 (x.lv : Int)]) (by simp [results, Tryd.results46, go_sem, z0, z1, z2]) rfl ?_
      rw [← HE.out]
      exact ⟨_, _, rfl, hN, hS9, hF⟩
    | some y =>
      obtain ⟨o, r⟩ := y
      rw [hx] at HT
      have hlr : l'.length = r.length + 1 := by rw [(next_le hx).1]; rfl
      have heq : G m (10 + k) (.bin o x (G m (k + 1) .bad r b').t) (G m (k + 1) .bad r b').r (G m (k + 1) .bad r b').b = R := by have := hc.eq; rw [G_lp, hx] at this; exact this
      have hfu := hc.fuel
      have hle := hc.len
      have hlv := hc.lv
      have HE := Lib.hid heq; clear heq hx hc

      go_wp2_with fail
      refine HT.out.mono ?_
      rintro e w2 ⟨rfl, u2, hs, hf⟩
      unfold sv
      obtain ⟨o1, A1, k1, c1, hv, hn1⟩ := HC.out.var
      have hcl : w2.heap[w1.heap.size]? = some _ := (hf.block _ (lt_heap hv) (by omega)).trans hv
      have hz2 := hf.size
      have hzc := lt_heap hv
      obtain ⟨q0, q1, q2, qf⟩ := c3 hcl
      have HN := Lib.hid hn1
      have HS2 := Lib.hid hs
      have HF2 := Lib.hid hf
      have HCL := Lib.hid hcl
      have HV := Lib.hid hv
      clear hs hf hv hn1 hcl
      have HQ : Hid (∀ W, W.heap = w2.heap → Calls Tryd.prog f #[.pointer (some ⟨gp, 0, none⟩)] W (Post gp bt W (G m (k + 1) .bad r b'))) := Lib.hid fun W hW =>
        HF.out m (by omega) gp bt W u2 r b' (HS2.out.keep (by rw [hW]) (by rw [hW]) (by rw [hW]; exact Nat.le_refl _)) (by omega) (by omega)
      have hG := G_sz m (k + 1) .bad r b'
      have hL1 := T.lv_sz (G m (k + 1) .bad r b').t
      simp only [T.sz] at hG
      have HM : Hid (∀ (W0 W : World) (o2 : ByteArray) (A2 : Option Addr) (k2 c2 : Nat), W.heap = (W0.alloc (.cells #[.string o1, .slice A1 k1 c1, .int .i64 (x.lv : Int), .string o2, .slice A2 k2 c2, .int .i64 ((G m (k + 1) .bad r b').t.lv : Int)] 45)).heap →
          Calls Tryd.prog 75 #[.string ⟨o.toArray⟩, .slice (some ⟨W0.heap.size, 0, none⟩) 2 2] W fun e w' => e = .returned (.agg #[.string ⟨o.toArray⟩, .slice (some ⟨W0.heap.size, 0, none⟩) 2 2, .int .i64 ((max x.lv (G m (k + 1) .bad r b').t.lv + 1 : Nat) : Int)]) ∧ Below W.heap.size W w') := Lib.hid fun W0 W o2 A2 k2 c2 hW =>
        makeNode_2 o W W0.heap.size _ o1 A1 k1 c1 x.lv o2 A2 k2 c2 _ (by rw [hW]; exact heap_new _ _) (by omega) (by omega)
      have HG := Lib.hid hG; have HL := Lib.hid hL1
      clear hG hL1
      go_wp2_with fail
      go_region_with (first
        | (go_at_call 75; refine (HM.out w3 _ o2 A2 k2 c2 (by rfl)).mono ?_; rintro e w4 ⟨rfl, hb4⟩; obtain ⟨y0, y1, y2, yf⟩ := c3 (((hb4.block w1.heap.size (by have := hf3.size; simp only [World.size_alloc]; have := lt_heap HCL.out; exact Nat.lt_of_lt_of_le this (Nat.le_trans ‹_› (by simp)))).trans (Below.heap_alloc _ _ _ (Nat.lt_of_lt_of_le (lt_heap HCL.out) hf3.size))).trans ((hf3.block w1.heap.size (lt_heap HCL.out) (by omega)).trans HCL.out)))
        | (refine (HQ.out _ (by rfl)).mono ?_; rintro e w3 ⟨xv, u3, rfl, hx3, hs3, hf3⟩; obtain ⟨o2, A2, k2, c2, rfl⟩ := hx3.form; obtain ⟨t0, t1, t2, tf⟩ := c3 ((hf3.block w1.heap.size (lt_heap HCL.out) (by omega)).trans HCL.out)))
      all_goals
        have f3 : Fr gp w2.heap.size w2 w3 := ⟨hf3.os, hf3.tape, hf3.output, hf3.size, hf3.block⟩
        have hb : ∀ W : World, W.heap = (w3.alloc (two o1 A1 k1 c1 x.lv o2 A2 k2 c2 (G m (k + 1) .bad r b').t.lv)).heap → W.os = w3.os → W.tape = w3.tape → W.output = w3.output → Below W.heap.size W w4 → Below (w3.alloc (two o1 A1 k1 c1 x.lv o2 A2 k2 c2 (G m (k + 1) .bad r b').t.lv)).heap.size (w3.alloc (two o1 A1 k1 c1 x.lv o2 A2 k2 c2 (G m (k + 1) .bad r b').t.lv)) w4 :=
          fun W h1 h2 h3 h4 h5 => ⟨h5.os.trans h2, h5.tape.trans h3, h5.output.trans h4, by rw [← h1]; exact h5.size, fun i hi => by rw [← h1] at hi ⊢; exact h5.block i hi⟩
        have hb4' := hb _ rfl rfl rfl rfl hb4
        have JN := Lib.hid (Ch.step HC.out hgl HS.out.lt HS.out.lb (by omega) hg hlr HV.out HN.out HF2.out f3 hs3 hx3 hb4' HE.out (by have := HG.out; omega))
        go_roundw
        case rel => exact ⟨_, _, _, _, _, _, _, _, _, _, _, _, _, _, _, _, _, Lib.hid ⟨m, _, _, _, _, by omega, JN.out⟩, rfl⟩
        case measure =>
          have h1 := JN.out.st.len
          have h2 := HG.out
          have h3 : ∀ a b : Nat, a = (G m (k + 1) .bad r b').r.length → b = l'.length → a < b := by omega
          exact h3 _ _ h1 hlen
end Go.Proofs.YtfocokjihbenmaaDoor.Fo
