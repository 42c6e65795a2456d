/-
  The contract of the reference's Equal.
-/
import Derived.Test.YtdojbnngdlmbgaaGreatDoorTrKnown
import Derived.ChangeAlike
import Derived.Test.YtdojbnngdlmbgaaGreatDoorTrFr
namespace Go.Proofs.YtdojbnngdlmbgaaGreatDoor.Tr
open Go.RowKit

def REq (d : Nat) : Prop := ∀ (B : Nat) (a b : Value) (l m : List Nd) (w : World), LRd d w B a l → LRd d w B b m → B ≤ w.heap.size →
    Calls Tryz.prog 14 #[a, b] w fun e w' => e = .returned (.bool (eqB l m)) ∧ Below w.heap.size w w'
/-- What stands while two arguments are compared. -/
structure He (w : World) (bx by_ : Nat) (ox oy : Obj) (v4 u4 : Value) (g1 p1 g2 p2 : Nat) (nm1 nm2 : Bool) (vn vv un uv : Value) (W : World) : Prop where
  x4 : W.cell? ⟨bx, 4, none⟩ = some v4
  y4 : W.cell? ⟨by_, 4, none⟩ = some u4
  a0 : W.cell? ⟨g1, p1, none⟩ = some (.bool nm1)
  a1 : W.cell? ⟨g1, p1 + 1, none⟩ = some vn
  a2 : W.cell? ⟨g1, p1 + 2, none⟩ = some vv
  b0 : W.cell? ⟨g2, p2, none⟩ = some (.bool nm2)
  b1 : W.cell? ⟨g2, p2 + 1, none⟩ = some un
  b2 : W.cell? ⟨g2, p2 + 2, none⟩ = some uv
  bl : Below w.heap.size w W
  hx : W.heap[bx]? = some ox
  hy : W.heap[by_]? = some oy
  l1 : g1 < W.heap.size
  l2 : g2 < W.heap.size
section
variable {w : World} {bx by_ : Nat} {ox oy : Obj} {v4 u4 : Value} {g1 p1 g2 p2 : Nat} {nm1 nm2 : Bool} {vn vv un uv : Value} {W W' : World}
theorem He.drew (h : He w bx by_ ox oy v4 u4 g1 p1 g2 p2 nm1 nm2 vn vv un uv W) : He w bx by_ ox oy v4 u4 g1 p1 g2 p2 nm1 nm2 vn vv un uv W.drew := ⟨h.x4, h.y4, h.a0, h.a1, h.a2, h.b0, h.b1, h.b2, h.bl.drew, h.hx, h.hy, h.l1, h.l2⟩
theorem He.below (h : He w bx by_ ox oy v4 u4 g1 p1 g2 p2 nm1 nm2 vn vv un uv W) (hb : Below W.heap.size W W') : He w bx by_ ox oy v4 u4 g1 p1 g2 p2 nm1 nm2 vn vv un uv W' :=
  ⟨(hb.cell (p := ⟨bx, 4, none⟩) (Array.getElem?_eq_some_iff.1 h.hx).1).trans h.x4, (hb.cell (p := ⟨by_, 4, none⟩) (Array.getElem?_eq_some_iff.1 h.hy).1).trans h.y4, (hb.cell h.l1).trans h.a0, (hb.cell h.l1).trans h.a1, (hb.cell h.l1).trans h.a2, (hb.cell h.l2).trans h.b0, (hb.cell h.l2).trans h.b1, (hb.cell h.l2).trans h.b2,
    h.bl.trans (hb.mono h.bl.size), (hb.block bx (Array.getElem?_eq_some_iff.1 h.hx).1).trans h.hx, (hb.block by_ (Array.getElem?_eq_some_iff.1 h.hy).1).trans h.hy, Nat.lt_of_lt_of_le h.l1 hb.size, Nat.lt_of_lt_of_le h.l2 hb.size⟩
theorem eq_he {d : Nat} (hL : REq d) {B : Nat} {x y : Value} {l m : List Nd} {b : Bool} (h : He w bx by_ ox oy v4 u4 g1 p1 g2 p2 nm1 nm2 vn vv un uv W) (hl : LRd d w B x l) (hm : LRd d w B y m) (hB : B ≤ w.heap.size) (hb : eqB l m = b) :
    Calls Tryz.prog 14 #[x, y] W fun e w' => e = .returned (.bool b) ∧ He w bx by_ ox oy v4 u4 g1 p1 g2 p2 nm1 nm2 vn vv un uv w' :=
  (hL B x y l m W (hl.below h.bl hB (Nat.le_refl _)) (hm.below h.bl hB (Nat.le_refl _)) (Nat.le_trans hB h.bl.size)).mono fun e w' ⟨he, hw⟩ => ⟨by rw [he, hb], h.below hw⟩
end
theorem start3 {a : Act} {i1 i2 i3 : Nat} {v1 v2 v3 : Value} {j : Nat} {v : Value} (h : lk [(i1, v1), (i2, v2), (i3, v3)] j = some v) (h1 : a.tmps.getD i1 undef = v1) (h2 : a.tmps.getD i2 undef = v2) (h3 : a.tmps.getD i3 undef = v3) : a.tmps.getD j undef = v := by
  simp only [lk] at h
  split at h
  · rename_i e; rw [← Nat.eq_of_beq_eq_true e, h1]; exact Option.some.inj h
  · split at h
    · rename_i e; rw [← Nat.eq_of_beq_eq_true e, h2]; exact Option.some.inj h
    · split at h
      · rename_i e; rw [← Nat.eq_of_beq_eq_true e, h3]; exact Option.some.inj h
      · cases h
theorem Ar_ne {a b : Ar} (h : a.named ≠ b.named ∨ a.name ≠ b.name ∨ a.value ≠ b.value) : a ≠ b := by
  rintro rfl
  rcases h with h | h | h <;> exact h rfl
theorem Nd_ext {a b : Nd} (h1 : a.kind = b.kind) (h2 : a.tag = b.tag) (h3 : a.text = b.text) (h4 : a.kids = b.kids) (h5 : a.args = b.args) : a = b := by
  rw [Nd.eta a, Nd.eta b, h1, h2, h3, h4, h5]
theorem Ar_ext {a b : Ar} (h1 : a.named = b.named) (h2 : a.name = b.name) (h3 : a.value = b.value) : a = b := by
  rw [Ar.eta a, Ar.eta b, h1, h2, h3]

set_option maxRecDepth 100000 in
set_option maxHeartbeats 16000000 in
theorem REqual_step (d : Nat) (hL : REq d) : REq (d + 1) := by
  intro B a b l m w h1 h2 hB
  have hz1 := h1.1
  have hz2 := h2.1
  obtain ⟨A1, c1, rfl, ha1, ha2, hln1, R1⟩ := h1.open
  obtain ⟨A2, c2, rfl, hb1, hb2, hln2, R2⟩ := h2.open
  have R1' := Lib.hid R1; have R2' := Lib.hid R2; clear R1 R2 h1 h2
  by_cases hl : l.length = m.length
  · rw [← hl]
    rw [← hl] at hb1
    have HH := Lib.hid hl; clear hl
    go_enter Tryz.func14, Tryz.ntmps14
    go_wp2_with fail
    go_loopw [5] (fun i wr => ∃ k : Nat, k ≤ l.length ∧ i = .int .i64 k ∧ Hid (l.take k = m.take k) ∧ Hid (Below w.heap.size w wr)) (fun i _ => l.length - (intOf i).toNat)
    case atStart => exact ⟨0, Nat.zero_le _, rfl, Lib.hid rfl, Lib.hid (Below.refl _ _)⟩
    case round =>
      obtain ⟨k, hk, rfl, hE, hbl⟩ := hrel
      by_cases hlt : k < l.length
      · have hlt2 : k < m.length := by rw [← HH.out]; exact hlt
        obtain ⟨g1, o1, rfl, hg1, q1⟩ := R1'.out (by omega)
        obtain ⟨g2, o2, rfl, hg2, q2⟩ := R2'.out (by omega)
        have hc1 : ∀ i, wr.cell? ⟨g1, i, none⟩ = w.cell? ⟨g1, i, none⟩ := fun i => hbl.out.cell (by show g1 < _; omega)
        have hc2 : ∀ i, wr.cell? ⟨g2, i, none⟩ = w.cell? ⟨g2, i, none⟩ := fun i => hbl.out.cell (by show g2 < _; omega)
        obtain ⟨vk, va, x1, x2, x3, x4, x5, f1, f2, x6, x7⟩ := q1 k l[k] (List.getElem?_eq_getElem hlt)
        obtain ⟨uk, ua, y1, y2, y3, y4, y5, g1', g2', y6, y7⟩ := q2 k m[k] (List.getElem?_eq_getElem hlt2)
        have RA1 := Lib.hid (ARd.open (d := d) x7)
        have RA2 := Lib.hid (ARd.open (d := d) y7)
        obtain ⟨Ak, ck, rfl⟩ := x6.form
        obtain ⟨Dk, ek, rfl⟩ := y6.form
        have HK := Lib.hid (And.intro x6 y6)
        rw [← hc1] at x1 x2 x3 x4 x5
        rw [← hc2] at y1 y2 y3 y4 y5
        clear q1 q2 hc1 hc2 f1 f2 g1' g2' x6 y6 x7 y7
        generalize hLk : l[k] = L1 at x1 x2 x3 x4 x5 HK RA1
        generalize hMk : m[k] = M1 at y1 y2 y3 y4 y5 HK RA2
        have HLk := Lib.hid hLk; have HMk := Lib.hid hMk; clear hLk hMk
        obtain ⟨k1, t1, s1, ks1, as1⟩ := L1
        obtain ⟨k2, t2, s2, ks2, as2⟩ := M1
        simp only [Nd.kind, Nd.tag, Nd.text, Nd.kids] at x1 x2 x3 x4 x5 y1 y2 y3 y4 y5 HK
        obtain ⟨Aa, ca, rfl, hk1', hk2', hk3', RA1'⟩ := RA1.out
        obtain ⟨Da, ea, rfl, hm1', hm2', hm3', RA2'⟩ := RA2.out
        simp only [Nd.args] at x5 y5 hk1' hk2' hk3' hm1' hm2' hm3' RA1' RA2'
        clear RA1 RA2
        have RA1 := Lib.hid RA1'; have RA2 := Lib.hid RA2'; clear RA1' RA2'
        have hg2w : g2 < wr.heap.size := Nat.lt_of_lt_of_le hg2 (Nat.le_trans hB hbl.out.size)
        have hg1w : g1 < wr.heap.size := Nat.lt_of_lt_of_le hg1 (Nat.le_trans hB hbl.out.size)
        have TX := Lib.hid (two_below wr (Obj.cells #[Value.int .i64 k1, Value.int .i64 t1, Value.string s1, Value.slice Ak ks1.length ck, Value.slice Aa as1.length ca] 62) (Obj.cells #[Value.int .i64 k2, Value.int .i64 t2, Value.string s2, Value.slice Dk ks2.length ek, Value.slice Da as2.length ea] 62))
        have TY := Lib.hid (two_below wr (Obj.cells #[Value.int .i64 k2, Value.int .i64 t2, Value.string s2, Value.slice Dk ks2.length ek, Value.slice Da as2.length ea] 62) (Obj.cells #[Value.int .i64 k1, Value.int .i64 t1, Value.string s1, Value.slice Ak ks1.length ck, Value.slice Aa as1.length ca] 62))
        go_wp2_with fail
        go_region
        · have hX : ((wr.alloc (Obj.cells #[Value.int .i64 k1, Value.int .i64 t1, Value.string s1, Value.slice Ak ks1.length ck, Value.slice Aa as1.length ca] 62)).alloc (Obj.cells #[Value.int .i64 k2, Value.int .i64 t2, Value.string s2, Value.slice Dk ks2.length ek, Value.slice Da as2.length ea] 62)).drew.heap[wr.heap.size]? = some (.cells #[Value.int .i64 k1, Value.int .i64 t1, Value.string s1, Value.slice Ak ks1.length ck, Value.slice Aa as1.length ca] 62) := heap_alloc2_old wr _ _
          have hY : ((wr.alloc (Obj.cells #[Value.int .i64 k1, Value.int .i64 t1, Value.string s1, Value.slice Ak ks1.length ck, Value.slice Aa as1.length ca] 62)).alloc (Obj.cells #[Value.int .i64 k2, Value.int .i64 t2, Value.string s2, Value.slice Dk ks2.length ek, Value.slice Da as2.length ea] 62)).drew.heap[wr.heap.size + 1]? = some (.cells #[Value.int .i64 k2, Value.int .i64 t2, Value.string s2, Value.slice Dk ks2.length ek, Value.slice Da as2.length ea] 62) := heap_alloc2_new wr _ _
          have HB := Lib.hid (hbl.out.trans (TX.out.drew.mono hbl.out.size))
          have hbx : wr.heap.size < ((wr.alloc (Obj.cells #[Value.int .i64 k1, Value.int .i64 t1, Value.string s1, Value.slice Ak ks1.length ck, Value.slice Aa as1.length ca] 62)).alloc (Obj.cells #[Value.int .i64 k2, Value.int .i64 t2, Value.string s2, Value.slice Dk ks2.length ek, Value.slice Da as2.length ea] 62)).drew.heap.size := (Array.getElem?_eq_some_iff.1 hX).1
          have hby : wr.heap.size + 1 < ((wr.alloc (Obj.cells #[Value.int .i64 k1, Value.int .i64 t1, Value.string s1, Value.slice Ak ks1.length ck, Value.slice Aa as1.length ca] 62)).alloc (Obj.cells #[Value.int .i64 k2, Value.int .i64 t2, Value.string s2, Value.slice Dk ks2.length ek, Value.slice Da as2.length ea] 62)).drew.heap.size := (Array.getElem?_eq_some_iff.1 hY).1
          clear x1 x2 x3 x4 x5 y1 y2 y3 y4 y5 TX TY hg1w hg2w
          generalize ((wr.alloc (Obj.cells #[Value.int .i64 k1, Value.int .i64 t1, Value.string s1, Value.slice Ak ks1.length ck, Value.slice Aa as1.length ca] 62)).alloc (Obj.cells #[Value.int .i64 k2, Value.int .i64 t2, Value.string s2, Value.slice Dk ks2.length ek, Value.slice Da as2.length ea] 62)).drew = W at hX hY HB hbx hby ⊢
          generalize wr.heap.size + 1 = by_ at hY hby ⊢
          generalize wr.heap.size = bx at hX hbx ⊢
          have c0 : W.cell? ⟨bx, 0, none⟩ = some (Value.int .i64 k1) := cell_heap hX rfl
          have c1' : W.cell? ⟨bx, 1, none⟩ = some (Value.int .i64 t1) := cell_heap hX rfl
          have c2' : W.cell? ⟨bx, 2, none⟩ = some (Value.string s1) := cell_heap hX rfl
          have c3' : W.cell? ⟨bx, 3, none⟩ = some (Value.slice Ak ks1.length ck) := cell_heap hX rfl
          have c4' : W.cell? ⟨bx, 4, none⟩ = some (Value.slice Aa as1.length ca) := cell_heap hX rfl
          have d0' : W.cell? ⟨by_, 0, none⟩ = some (Value.int .i64 k2) := cell_heap hY rfl
          have d1' : W.cell? ⟨by_, 1, none⟩ = some (Value.int .i64 t2) := cell_heap hY rfl
          have d2' : W.cell? ⟨by_, 2, none⟩ = some (Value.string s2) := cell_heap hY rfl
          have d3' : W.cell? ⟨by_, 3, none⟩ = some (Value.slice Dk ks2.length ek) := cell_heap hY rfl
          have d4' : W.cell? ⟨by_, 4, none⟩ = some (Value.slice Da as2.length ea) := cell_heap hY rfl
          have HD : Hid (Nd.mk k1 t1 s1 ks1 as1 ≠ Nd.mk k2 t2 s2 ks2 as2 → eqB l m = false) := Lib.hid (fun hne => eqB_false (fun e => hne (by rw [← HLk.out, ← HMk.out]; subst e; rfl)))
          by_cases hk1 : k1 = k2
          case neg =>
            have hkn : (k1 != k2) = true := by simpa using hk1
            have HR := Lib.hid (HD.out (fun e => hk1 (by injection e)))
            go_wp2_with fail
            go_ret
            exact ⟨ret_bool HR.out.symm, HB.out⟩
          by_cases ht1 : t1 = t2
          case neg =>
            have hkn : (t1 != t2) = true := by simpa using ht1
            have HR := Lib.hid (HD.out (fun e => ht1 (by injection e)))
            subst hk1
            go_wp2_with fail
            go_ret
            exact ⟨ret_bool HR.out.symm, HB.out⟩
          by_cases hs1 : s1 = s2
          case neg =>
            have HR := Lib.hid (HD.out (fun e => hs1 (by injection e)))
            have hs' : (s1.toList == s2.toList) = false := by rw [beq_eq_false_iff_ne]; exact fun e => hs1 (ba_list e)
            have hs2 : ¬ s1.toList = s2.toList := fun e => hs1 (ba_list e)
            subst hk1 ht1
            go_wp2_with fail
            go_ret
            exact ⟨ret_bool HR.out.symm, HB.out⟩
          by_cases hla : as1.length = as2.length
          case neg =>
            have HR := Lib.hid (HD.out (fun e => hla (by injection e with _ _ _ _ e; rw [e])))
            have hl1 : ¬ (as1.length : Int) = (as2.length : Int) := by omega
            have hl2 : ((as1.length : Int) != (as2.length : Int)) = true := by simpa using hl1
            subst hk1 ht1 hs1
            go_wp2_with fail
            go_ret
            exact ⟨ret_bool HR.out.symm, HB.out⟩
          rw [← hla] at d4'
          have HLA := Lib.hid hla; clear hla
          subst hk1 ht1 hs1
          go_wp2_with fail
          refine (hL B _ _ ks1 ks2 W (HK.out.1.below HB.out hB (Nat.le_refl _)) (HK.out.2.below HB.out hB (Nat.le_refl _)) (Nat.le_trans hB HB.out.size)).mono ?_
          rintro e W1 ⟨rfl, hb⟩
          have HB1 := Lib.hid (HB.out.trans (hb.mono HB.out.size))
          have hX1 := (hb.block bx hbx).trans hX
          have hY1 := (hb.block by_ hby).trans hY
          obtain ⟨OX, hOX⟩ : ∃ O, Obj.cells #[Value.int .i64 k1, Value.int .i64 t1, Value.string s1, Value.slice Ak ks1.length ck, Value.slice Aa as1.length ca] 62 = O := ⟨_, rfl⟩
          obtain ⟨OY, hOY⟩ : ∃ O, Obj.cells #[Value.int .i64 k1, Value.int .i64 t1, Value.string s1, Value.slice Dk ks2.length ek, Value.slice Da as2.length ea] 62 = O := ⟨_, rfl⟩
          rw [hOX] at hX1
          rw [hOY] at hY1
          have HXY := Lib.hid (And.intro hX1 hY1)
          have HOX := Lib.hid hOX; have HOY := Lib.hid hOY; clear hOX hOY
          clear hb c0 c1' c2' c3' c4' d0' d1' d2' d3' d4' hX hY hX1 hY1
          cases hQ : eqB ks1 ks2 with
          | false =>
            have HR := Lib.hid (HD.out (fun e => eqB_no hQ (by injection e))); clear hQ
            go_wp2_with fail
            go_ret
            exact ⟨ret_bool HR.out.symm, HB1.out⟩
          | true =>
            have HKe := Lib.hid (eqB_iff.1 hQ); clear hQ
            go_wp2_with fail
            go_loopw [8] (fun j wq => ∃ q : Nat, q ≤ as1.length ∧ j = .int .i64 q ∧ Hid (as1.take q = as2.take q) ∧ Hid (Below w.heap.size w wq ∧ wq.heap[bx]? = some OX ∧ wq.heap[by_]? = some OY)) (fun j _ => as1.length - (intOf j).toNat)
            case atStart => exact ⟨0, Nat.zero_le _, rfl, Lib.hid rfl, Lib.hid ⟨HB1.out, HXY.out.1, HXY.out.2⟩⟩
            case round =>
              obtain ⟨q, hq, rfl, hEa, hbq⟩ := hrel
              have hX2 := hbq.out.2.1
              have hY2 := hbq.out.2.2
              rw [← HOX.out] at hX2
              rw [← HOY.out, ← HLA.out] at hY2
              have c4' : wr.cell? ⟨bx, 4, none⟩ = some (Value.slice Aa as1.length ca) := cell_heap hX2 rfl
              have d4' : wr.cell? ⟨by_, 4, none⟩ = some (Value.slice Da as1.length ea) := cell_heap hY2 rfl
              have HB2 := Lib.hid hbq.out.1
              clear hX2 hY2
              by_cases hqa : q < as1.length
              · have hqb : q < as2.length := by rw [← HLA.out]; exact hqa
                obtain ⟨G1, O1, rfl, hG1, r1⟩ := RA1.out (by omega)
                obtain ⟨G2, O2, rfl, hG2, r2⟩ := RA2.out (by omega)
                obtain ⟨vn, vv, p1, p2, p3, p4, p5⟩ := r1 q as1[q] (List.getElem?_eq_getElem hqa)
                obtain ⟨un, uv, z1, z2, z3, z4, z5⟩ := r2 q as2[q] (List.getElem?_eq_getElem hqb)
                obtain ⟨An, cn, rfl⟩ := p4.form
                obtain ⟨Av, cv, rfl⟩ := p5.form
                obtain ⟨Dn, en, rfl⟩ := z4.form
                obtain ⟨Dv, ev, rfl⟩ := z5.form
                clear r1 r2
                have hG1w : G1 < w.heap.size := Nat.lt_of_lt_of_le hG1 hB
                have hG2w : G2 < w.heap.size := Nat.lt_of_lt_of_le hG2 hB
                have hc1 : ∀ i, wr.cell? ⟨G1, i, none⟩ = w.cell? ⟨G1, i, none⟩ := fun i => HB2.out.cell (by show G1 < _; omega)
                have hc2 : ∀ i, wr.cell? ⟨G2, i, none⟩ = w.cell? ⟨G2, i, none⟩ := fun i => HB2.out.cell (by show G2 < _; omega)
                rw [← hc1] at p1 p2 p3
                rw [← hc2] at z1 z2 z3
                clear hc1 hc2
                have HTk : Hid (as1[q] = as2[q] → as1.take (q + 1) = as2.take (q + 1)) := Lib.hid (fun e => take_succ_eq hqa hqb hEa.out e)
                have HDa : Hid (as1[q] ≠ as2[q] → eqB l m = false) := Lib.hid (fun hne => HD.out (fun e => hne (by injection e with _ _ _ _ e; subst e; rfl)))
                generalize as1[q] = a1 at *
                generalize as2[q] = a2 at *
                obtain ⟨nm1, na1, va1⟩ := a1
                obtain ⟨nm2, na2, va2⟩ := a2
                simp only [Ar.named, Ar.name, Ar.value] at p1 p2 p3 p4 p5 z1 z2 z3 z4 z5
                have HN := Lib.hid (And.intro p4 z4); have HV := Lib.hid (And.intro p5 z5); clear p4 z4 p5 z5
                have hs := HB2.out.size
                have H3 : He w bx by_ OX OY (Value.slice (some ⟨G1, O1, none⟩) as1.length ca) (Value.slice (some ⟨G2, O2, none⟩) as1.length ea) G1 (O1 + q * 3) G2 (O2 + q * 3) nm1 nm2 (Value.slice An na1.length cn) (Value.slice Av va1.length cv) (Value.slice Dn na2.length en) (Value.slice Dv va2.length ev) wr := ⟨c4', d4', p1, p2, p3, z1, z2, z3, HB2.out, hbq.out.2.1, hbq.out.2.2, by omega, by omega⟩
                have H3 := H3.drew
                clear hs
                by_cases hnm : nm1 = nm2
                case neg =>
                  have HR := Lib.hid (HDa.out (fun e => hnm (by injection e)))
                  have hnm2 : Hid ((nm1 != nm2) = true) := Lib.hid (by simpa using hnm)
                  clear hnm
                  go_wp2_with fail
                  clear c4' d4' p1 p2 p3 z1 z2 z3
                  refine region_q (C := He w bx by_ OX OY (Value.slice (some ⟨G1, O1, none⟩) as1.length ca) (Value.slice (some ⟨G2, O2, none⟩) as1.length ea) G1 (O1 + q * 3) G2 (O2 + q * 3) nm1 nm2 (Value.slice An na1.length cn) (Value.slice Av va1.length cv) (Value.slice Dn na2.length en) (Value.slice Dv va2.length ev)) (by kernel_rfl) (by kernel_rfl) H3 ?_
                  refine f_start 71 116 [(6, .pointer (some ⟨bx, 0, none⟩)), (7, .pointer (some ⟨by_, 0, none⟩)), (8, .int .i64 (q : Int))] ⟨rfl, rfl, rfl, fun j v hj => ?_⟩ ?_
                  · exact start3 hj rfl rfl rfl
                  intro a l0 ds hl0 hds hF
                  have HL0 := Lib.hid hl0; have HDS := Lib.hid hds; clear hl0 hds
                  refine f_op hF 71 (.pointer (some ⟨bx, 4, none⟩)) rfl rfl rfl (f_free rfl) (fun W hW => x_fieldN 4 (by decide) rfl (hF.eval 6 rfl)) ?_
                  clear hF; clear a; intro a hF
                  refine f_op hF 72 (Value.slice (some ⟨G1, O1, none⟩) as1.length ca) rfl rfl rfl (f_free rfl) (fun W hW => x_loadA rfl (hF.eval 71 rfl) hW.x4) ?_
                  clear hF; clear a; intro a hF
                  refine f_op hF 73 (.int .i64 (q : Int)) rfl rfl rfl (f_free rfl) (fun W hW => x_move rfl (hF.eval 8 rfl)) ?_
                  clear hF; clear a; intro a hF
                  refine f_op hF 74 (.pointer (some ⟨G1, O1 + q * 3, none⟩)) rfl rfl rfl (f_free rfl) (fun W hW => x_indexA rfl (hF.eval 72 rfl) (hF.eval 73 rfl) hqa) ?_
                  clear hF; clear a; intro a hF
                  refine f_op hF 75 (.pointer (some ⟨G1, O1 + q * 3, none⟩)) rfl rfl rfl (f_free rfl) (fun W hW => x_fieldA 0 (by decide) rfl (hF.eval 74 rfl)) ?_
                  clear hF; clear a; intro a hF
                  refine f_op hF 76 (.bool nm1) rfl rfl rfl (f_free rfl) (fun W hW => x_loadB rfl (hF.eval 75 rfl) hW.a0) ?_
                  clear hF; clear a; intro a hF
                  refine f_op hF 77 (.pointer (some ⟨by_, 4, none⟩)) rfl rfl rfl (f_free rfl) (fun W hW => x_fieldN 4 (by decide) rfl (hF.eval 7 rfl)) ?_
                  clear hF; clear a; intro a hF
                  refine f_op hF 78 (Value.slice (some ⟨G2, O2, none⟩) as1.length ea) rfl rfl rfl (f_free rfl) (fun W hW => x_loadA rfl (hF.eval 77 rfl) hW.y4) ?_
                  clear hF; clear a; intro a hF
                  refine f_op hF 79 (.int .i64 (q : Int)) rfl rfl rfl (f_free rfl) (fun W hW => x_move rfl (hF.eval 8 rfl)) ?_
                  clear hF; clear a; intro a hF
                  refine f_op hF 80 (.pointer (some ⟨G2, O2 + q * 3, none⟩)) rfl rfl rfl (f_free rfl) (fun W hW => x_indexA rfl (hF.eval 78 rfl) (hF.eval 79 rfl) hqa) ?_
                  clear hF; clear a; intro a hF
                  refine f_op hF 81 (.pointer (some ⟨G2, O2 + q * 3, none⟩)) rfl rfl rfl (f_free rfl) (fun W hW => x_fieldA 0 (by decide) rfl (hF.eval 80 rfl)) ?_
                  clear hF; clear a; intro a hF
                  refine f_op hF 82 (.bool nm2) rfl rfl rfl (f_free rfl) (fun W hW => x_loadB rfl (hF.eval 81 rfl) hW.b0) ?_
                  clear hF; clear a; intro a hF
                  refine f_op hF 83 (.bool true) rfl rfl rfl (f_free rfl) (fun W hW => x_neq rfl nm1 nm2 true (hF.eval 76 rfl) (hF.eval 82 rfl) hnm2.out) ?_
                  clear hF; clear a; intro a hF
                  refine f_op hF 84 (.bool true) rfl rfl rfl (f_free rfl) (fun W hW => x_move rfl (hF.eval 83 rfl)) ?_
                  clear hF; clear a; intro a hF
                  refine f_skip hF 85 rfl rfl rfl (f_guard hF 13 84 false true false rfl (by kernel_rfl) rfl rfl rfl) ?_
                  clear hF; clear a; intro a hF
                  refine f_skip hF 86 rfl rfl rfl (f_guard hF 13 84 false true false rfl (by kernel_rfl) rfl rfl rfl) ?_
                  clear hF; clear a; intro a hF
                  refine f_skip hF 87 rfl rfl rfl (f_guard hF 13 84 false true false rfl (by kernel_rfl) rfl rfl rfl) ?_
                  clear hF; clear a; intro a hF
                  refine f_skip hF 88 rfl rfl rfl (f_guard hF 13 84 false true false rfl (by kernel_rfl) rfl rfl rfl) ?_
                  clear hF; clear a; intro a hF
                  refine f_skip hF 89 rfl rfl rfl (f_guard hF 13 84 false true false rfl (by kernel_rfl) rfl rfl rfl) ?_
                  clear hF; clear a; intro a hF
                  refine f_skip hF 90 rfl rfl rfl (f_guard hF 13 84 false true false rfl (by kernel_rfl) rfl rfl rfl) ?_
                  clear hF; clear a; intro a hF
                  refine f_skip hF 91 rfl rfl rfl (f_guard hF 13 84 false true false rfl (by kernel_rfl) rfl rfl rfl) ?_
                  clear hF; clear a; intro a hF
                  refine f_skip hF 92 rfl rfl rfl (f_guard hF 13 84 false true false rfl (by kernel_rfl) rfl rfl rfl) ?_
                  clear hF; clear a; intro a hF
                  refine f_skip hF 93 rfl rfl rfl (f_guard hF 13 84 false true false rfl (by kernel_rfl) rfl rfl rfl) ?_
                  clear hF; clear a; intro a hF
                  refine f_skip hF 94 rfl rfl rfl (f_guard hF 13 84 false true false rfl (by kernel_rfl) rfl rfl rfl) ?_
                  clear hF; clear a; intro a hF
                  refine f_skip hF 95 rfl rfl rfl (f_guard hF 13 84 false true false rfl (by kernel_rfl) rfl rfl rfl) ?_
                  clear hF; clear a; intro a hF
                  refine f_skip hF 96 rfl rfl rfl (f_guard hF 13 84 false true false rfl (by kernel_rfl) rfl rfl rfl) ?_
                  clear hF; clear a; intro a hF
                  refine f_skip hF 97 rfl rfl rfl (f_guard hF 13 84 false true false rfl (by kernel_rfl) rfl rfl rfl) ?_
                  clear hF; clear a; intro a hF
                  refine f_skip hF 98 rfl rfl rfl (f_guard hF 13 84 false true false rfl (by kernel_rfl) rfl rfl rfl) ?_
                  clear hF; clear a; intro a hF
                  refine f_op hF 99 (.bool true) rfl rfl rfl (f_free rfl) (fun W hW => x_pick rfl true (hF.eval 84 rfl) rfl) ?_
                  clear hF; clear a; intro a hF
                  refine f_op hF 100 (.bool true) rfl rfl rfl (f_free rfl) (fun W hW => x_move rfl (hF.eval 99 rfl)) ?_
                  clear hF; clear a; intro a hF
                  refine f_skip hF 101 rfl rfl rfl (f_guard hF 29 100 false true false rfl (by kernel_rfl) rfl rfl rfl) ?_
                  clear hF; clear a; intro a hF
                  refine f_skip hF 102 rfl rfl rfl (f_guard hF 29 100 false true false rfl (by kernel_rfl) rfl rfl rfl) ?_
                  clear hF; clear a; intro a hF
                  refine f_skip hF 103 rfl rfl rfl (f_guard hF 29 100 false true false rfl (by kernel_rfl) rfl rfl rfl) ?_
                  clear hF; clear a; intro a hF
                  refine f_skip hF 104 rfl rfl rfl (f_guard hF 29 100 false true false rfl (by kernel_rfl) rfl rfl rfl) ?_
                  clear hF; clear a; intro a hF
                  refine f_skip hF 105 rfl rfl rfl (f_guard hF 29 100 false true false rfl (by kernel_rfl) rfl rfl rfl) ?_
                  clear hF; clear a; intro a hF
                  refine f_skip hF 106 rfl rfl rfl (f_guard hF 29 100 false true false rfl (by kernel_rfl) rfl rfl rfl) ?_
                  clear hF; clear a; intro a hF
                  refine f_skip hF 107 rfl rfl rfl (f_guard hF 29 100 false true false rfl (by kernel_rfl) rfl rfl rfl) ?_
                  clear hF; clear a; intro a hF
                  refine f_skip hF 108 rfl rfl rfl (f_guard hF 29 100 false true false rfl (by kernel_rfl) rfl rfl rfl) ?_
                  clear hF; clear a; intro a hF
                  refine f_skip hF 109 rfl rfl rfl (f_guard hF 29 100 false true false rfl (by kernel_rfl) rfl rfl rfl) ?_
                  clear hF; clear a; intro a hF
                  refine f_skip hF 110 rfl rfl rfl (f_guard hF 29 100 false true false rfl (by kernel_rfl) rfl rfl rfl) ?_
                  clear hF; clear a; intro a hF
                  refine f_skip hF 111 rfl rfl rfl (f_guard hF 29 100 false true false rfl (by kernel_rfl) rfl rfl rfl) ?_
                  clear hF; clear a; intro a hF
                  refine f_skip hF 112 rfl rfl rfl (f_guard hF 29 100 false true false rfl (by kernel_rfl) rfl rfl rfl) ?_
                  clear hF; clear a; intro a hF
                  refine f_skip hF 113 rfl rfl rfl (f_guard hF 29 100 false true false rfl (by kernel_rfl) rfl rfl rfl) ?_
                  clear hF; clear a; intro a hF
                  refine f_skip hF 114 rfl rfl rfl (f_guard hF 29 100 false true false rfl (by kernel_rfl) rfl rfl rfl) ?_
                  clear hF; clear a; intro a hF
                  refine f_op hF 115 (.bool true) rfl rfl rfl (f_free rfl) (fun W hW => x_pick rfl true (hF.eval 100 rfl) rfl) ?_
                  clear hF; clear a; intro a hF
                  refine wpQuiet_nil ?_
                  intro w' h8
                  obtain ⟨u, e, hu⟩ := hF.last45 rfl rfl
                  clear hF
                  subst e
                  rw [hu, HL0.out, HDS.out]
                  clear hu HL0 HDS
                  simp only [List.take_succ_cons, List.take_zero, List.cons_append, List.nil_append]
                  go_wp2_with fail
                  go_ret
                  exact ⟨ret_bool HR.out.symm, h8.bl⟩
                subst hnm
                cases hE1 : eqB na1 na2 with
                | false =>
                  have HR := Lib.hid (HDa.out (fun e => eqB_no hE1 (by injection e)))
                  have E1 := Lib.hid hE1; clear hE1
                  go_wp2_with fail
                  clear c4' d4' p1 p2 p3 z1 z2 z3
                  refine region_q (C := He w bx by_ OX OY (Value.slice (some ⟨G1, O1, none⟩) as1.length ca) (Value.slice (some ⟨G2, O2, none⟩) as1.length ea) G1 (O1 + q * 3) G2 (O2 + q * 3) nm1 nm1 (Value.slice An na1.length cn) (Value.slice Av va1.length cv) (Value.slice Dn na2.length en) (Value.slice Dv va2.length ev)) (by kernel_rfl) (by kernel_rfl) H3 ?_
                  refine f_start 71 116 [(6, .pointer (some ⟨bx, 0, none⟩)), (7, .pointer (some ⟨by_, 0, none⟩)), (8, .int .i64 (q : Int))] ⟨rfl, rfl, rfl, fun j v hj => ?_⟩ ?_
                  · exact start3 hj rfl rfl rfl
                  intro a l0 ds hl0 hds hF
                  have HL0 := Lib.hid hl0; have HDS := Lib.hid hds; clear hl0 hds
                  refine f_op hF 71 (.pointer (some ⟨bx, 4, none⟩)) rfl rfl rfl (f_free rfl) (fun W hW => x_fieldN 4 (by decide) rfl (hF.eval 6 rfl)) ?_
                  clear hF; clear a; intro a hF
                  refine f_op hF 72 (Value.slice (some ⟨G1, O1, none⟩) as1.length ca) rfl rfl rfl (f_free rfl) (fun W hW => x_loadA rfl (hF.eval 71 rfl) hW.x4) ?_
                  clear hF; clear a; intro a hF
                  refine f_op hF 73 (.int .i64 (q : Int)) rfl rfl rfl (f_free rfl) (fun W hW => x_move rfl (hF.eval 8 rfl)) ?_
                  clear hF; clear a; intro a hF
                  refine f_op hF 74 (.pointer (some ⟨G1, O1 + q * 3, none⟩)) rfl rfl rfl (f_free rfl) (fun W hW => x_indexA rfl (hF.eval 72 rfl) (hF.eval 73 rfl) hqa) ?_
                  clear hF; clear a; intro a hF
                  refine f_op hF 75 (.pointer (some ⟨G1, O1 + q * 3, none⟩)) rfl rfl rfl (f_free rfl) (fun W hW => x_fieldA 0 (by decide) rfl (hF.eval 74 rfl)) ?_
                  clear hF; clear a; intro a hF
                  refine f_op hF 76 (.bool nm1) rfl rfl rfl (f_free rfl) (fun W hW => x_loadB rfl (hF.eval 75 rfl) hW.a0) ?_
                  clear hF; clear a; intro a hF
                  refine f_op hF 77 (.pointer (some ⟨by_, 4, none⟩)) rfl rfl rfl (f_free rfl) (fun W hW => x_fieldN 4 (by decide) rfl (hF.eval 7 rfl)) ?_
                  clear hF; clear a; intro a hF
                  refine f_op hF 78 (Value.slice (some ⟨G2, O2, none⟩) as1.length ea) rfl rfl rfl (f_free rfl) (fun W hW => x_loadA rfl (hF.eval 77 rfl) hW.y4) ?_
                  clear hF; clear a; intro a hF
                  refine f_op hF 79 (.int .i64 (q : Int)) rfl rfl rfl (f_free rfl) (fun W hW => x_move rfl (hF.eval 8 rfl)) ?_
                  clear hF; clear a; intro a hF
                  refine f_op hF 80 (.pointer (some ⟨G2, O2 + q * 3, none⟩)) rfl rfl rfl (f_free rfl) (fun W hW => x_indexA rfl (hF.eval 78 rfl) (hF.eval 79 rfl) hqa) ?_
                  clear hF; clear a; intro a hF
                  refine f_op hF 81 (.pointer (some ⟨G2, O2 + q * 3, none⟩)) rfl rfl rfl (f_free rfl) (fun W hW => x_fieldA 0 (by decide) rfl (hF.eval 80 rfl)) ?_
                  clear hF; clear a; intro a hF
                  refine f_op hF 82 (.bool nm1) rfl rfl rfl (f_free rfl) (fun W hW => x_loadB rfl (hF.eval 81 rfl) hW.b0) ?_
                  clear hF; clear a; intro a hF
                  refine f_op hF 83 (.bool false) rfl rfl rfl (f_free rfl) (fun W hW => x_neq rfl nm1 nm1 false (hF.eval 76 rfl) (hF.eval 82 rfl) (by simp)) ?_
                  clear hF; clear a; intro a hF
                  refine f_op hF 84 (.bool false) rfl rfl rfl (f_free rfl) (fun W hW => x_move rfl (hF.eval 83 rfl)) ?_
                  clear hF; clear a; intro a hF
                  refine f_op hF 85 (.pointer (some ⟨bx, 4, none⟩)) rfl rfl rfl (f_guard hF 13 84 false false true rfl (by kernel_rfl) rfl rfl rfl) (fun W hW => x_fieldN 4 (by decide) rfl (hF.eval 6 rfl)) ?_
                  clear hF; clear a; intro a hF
                  refine f_op hF 86 (Value.slice (some ⟨G1, O1, none⟩) as1.length ca) rfl rfl rfl (f_guard hF 13 84 false false true rfl (by kernel_rfl) rfl rfl rfl) (fun W hW => x_loadA rfl (hF.eval 85 rfl) hW.x4) ?_
                  clear hF; clear a; intro a hF
                  refine f_op hF 87 (.int .i64 (q : Int)) rfl rfl rfl (f_guard hF 13 84 false false true rfl (by kernel_rfl) rfl rfl rfl) (fun W hW => x_move rfl (hF.eval 8 rfl)) ?_
                  clear hF; clear a; intro a hF
                  refine f_op hF 88 (.pointer (some ⟨G1, O1 + q * 3, none⟩)) rfl rfl rfl (f_guard hF 13 84 false false true rfl (by kernel_rfl) rfl rfl rfl) (fun W hW => x_indexA rfl (hF.eval 86 rfl) (hF.eval 87 rfl) hqa) ?_
                  clear hF; clear a; intro a hF
                  refine f_op hF 89 (.pointer (some ⟨G1, O1 + q * 3 + 1, none⟩)) rfl rfl rfl (f_guard hF 13 84 false false true rfl (by kernel_rfl) rfl rfl rfl) (fun W hW => x_fieldA 1 (by decide) rfl (hF.eval 88 rfl)) ?_
                  clear hF; clear a; intro a hF
                  refine f_op hF 90 (Value.slice An na1.length cn) rfl rfl rfl (f_guard hF 13 84 false false true rfl (by kernel_rfl) rfl rfl rfl) (fun W hW => x_loadN rfl (hF.eval 89 rfl) hW.a1) ?_
                  clear hF; clear a; intro a hF
                  refine f_op hF 91 (.pointer (some ⟨by_, 4, none⟩)) rfl rfl rfl (f_guard hF 13 84 false false true rfl (by kernel_rfl) rfl rfl rfl) (fun W hW => x_fieldN 4 (by decide) rfl (hF.eval 7 rfl)) ?_
                  clear hF; clear a; intro a hF
                  refine f_op hF 92 (Value.slice (some ⟨G2, O2, none⟩) as1.length ea) rfl rfl rfl (f_guard hF 13 84 false false true rfl (by kernel_rfl) rfl rfl rfl) (fun W hW => x_loadA rfl (hF.eval 91 rfl) hW.y4) ?_
                  clear hF; clear a; intro a hF
                  refine f_op hF 93 (.int .i64 (q : Int)) rfl rfl rfl (f_guard hF 13 84 false false true rfl (by kernel_rfl) rfl rfl rfl) (fun W hW => x_move rfl (hF.eval 8 rfl)) ?_
                  clear hF; clear a; intro a hF
                  refine f_op hF 94 (.pointer (some ⟨G2, O2 + q * 3, none⟩)) rfl rfl rfl (f_guard hF 13 84 false false true rfl (by kernel_rfl) rfl rfl rfl) (fun W hW => x_indexA rfl (hF.eval 92 rfl) (hF.eval 93 rfl) hqa) ?_
                  clear hF; clear a; intro a hF
                  refine f_op hF 95 (.pointer (some ⟨G2, O2 + q * 3 + 1, none⟩)) rfl rfl rfl (f_guard hF 13 84 false false true rfl (by kernel_rfl) rfl rfl rfl) (fun W hW => x_fieldA 1 (by decide) rfl (hF.eval 94 rfl)) ?_
                  clear hF; clear a; intro a hF
                  refine f_op hF 96 (Value.slice Dn na2.length en) rfl rfl rfl (f_guard hF 13 84 false false true rfl (by kernel_rfl) rfl rfl rfl) (fun W hW => x_loadN rfl (hF.eval 95 rfl) hW.b1) ?_
                  clear hF; clear a; intro a hF
                  refine f_call hF 97 14 #[Value.slice An na1.length cn, Value.slice Dn na2.length en] (.bool false) rfl rfl rfl (f_guard hF 13 84 false false true rfl (by kernel_rfl) rfl rfl rfl) (fun W hW => x_call2 rfl rfl (hF.eval 90 rfl) (hF.eval 96 rfl)) (fun W hW => eq_he hL hW HN.out.1 HN.out.2 hB E1.out) ?_
                  clear hF; clear a; intro a hF
                  refine f_op hF 98 (.bool true) rfl rfl rfl (f_guard hF 13 84 false false true rfl (by kernel_rfl) rfl rfl rfl) (fun W hW => x_not rfl false true (hF.eval 97 rfl) rfl) ?_
                  clear hF; clear a; intro a hF
                  refine f_op hF 99 (.bool true) rfl rfl rfl (f_free rfl) (fun W hW => x_pick rfl false (hF.eval 84 rfl) (hF.eval 98 rfl)) ?_
                  clear hF; clear a; intro a hF
                  refine f_op hF 100 (.bool true) rfl rfl rfl (f_free rfl) (fun W hW => x_move rfl (hF.eval 99 rfl)) ?_
                  clear hF; clear a; intro a hF
                  refine f_skip hF 101 rfl rfl rfl (f_guard hF 29 100 false true false rfl (by kernel_rfl) rfl rfl rfl) ?_
                  clear hF; clear a; intro a hF
                  refine f_skip hF 102 rfl rfl rfl (f_guard hF 29 100 false true false rfl (by kernel_rfl) rfl rfl rfl) ?_
                  clear hF; clear a; intro a hF
                  refine f_skip hF 103 rfl rfl rfl (f_guard hF 29 100 false true false rfl (by kernel_rfl) rfl rfl rfl) ?_
                  clear hF; clear a; intro a hF
                  refine f_skip hF 104 rfl rfl rfl (f_guard hF 29 100 false true false rfl (by kernel_rfl) rfl rfl rfl) ?_
                  clear hF; clear a; intro a hF
                  refine f_skip hF 105 rfl rfl rfl (f_guard hF 29 100 false true false rfl (by kernel_rfl) rfl rfl rfl) ?_
                  clear hF; clear a; intro a hF
                  refine f_skip hF 106 rfl rfl rfl (f_guard hF 29 100 false true false rfl (by kernel_rfl) rfl rfl rfl) ?_
                  clear hF; clear a; intro a hF
                  refine f_skip hF 107 rfl rfl rfl (f_guard hF 29 100 false true false rfl (by kernel_rfl) rfl rfl rfl) ?_
                  clear hF; clear a; intro a hF
                  refine f_skip hF 108 rfl rfl rfl (f_guard hF 29 100 false true false rfl (by kernel_rfl) rfl rfl rfl) ?_
                  clear hF; clear a; intro a hF
                  refine f_skip hF 109 rfl rfl rfl (f_guard hF 29 100 false true false rfl (by kernel_rfl) rfl rfl rfl) ?_
                  clear hF; clear a; intro a hF
                  refine f_skip hF 110 rfl rfl rfl (f_guard hF 29 100 false true false rfl (by kernel_rfl) rfl rfl rfl) ?_
                  clear hF; clear a; intro a hF
                  refine f_skip hF 111 rfl rfl rfl (f_guard hF 29 100 false true false rfl (by kernel_rfl) rfl rfl rfl) ?_
                  clear hF; clear a; intro a hF
                  refine f_skip hF 112 rfl rfl rfl (f_guard hF 29 100 false true false rfl (by kernel_rfl) rfl rfl rfl) ?_
                  clear hF; clear a; intro a hF
                  refine f_skip hF 113 rfl rfl rfl (f_guard hF 29 100 false true false rfl (by kernel_rfl) rfl rfl rfl) ?_
                  clear hF; clear a; intro a hF
                  refine f_skip hF 114 rfl rfl rfl (f_guard hF 29 100 false true false rfl (by kernel_rfl) rfl rfl rfl) ?_
                  clear hF; clear a; intro a hF
                  refine f_op hF 115 (.bool true) rfl rfl rfl (f_free rfl) (fun W hW => x_pick rfl true (hF.eval 100 rfl) rfl) ?_
                  clear hF; clear a; intro a hF
                  refine wpQuiet_nil ?_
                  intro w' h8
                  obtain ⟨u, e, hu⟩ := hF.last45 rfl rfl
                  clear hF
                  subst e
                  rw [hu, HL0.out, HDS.out]
                  clear hu HL0 HDS
                  simp only [List.take_succ_cons, List.take_zero, List.cons_append, List.nil_append]
                  go_wp2_with fail
                  go_ret
                  exact ⟨ret_bool HR.out.symm, h8.bl⟩
                | true =>
                  have E1 := Lib.hid hE1; have HE1 := Lib.hid (eqB_iff.1 hE1); clear hE1
                  cases hE2 : eqB va1 va2 with
                  | false =>
                    have HR := Lib.hid (HDa.out (fun e => eqB_no hE2 (by injection e)))
                    have E2 := Lib.hid hE2; clear hE2
                    go_wp2_with fail
                    clear c4' d4' p1 p2 p3 z1 z2 z3
                    refine region_q (C := He w bx by_ OX OY (Value.slice (some ⟨G1, O1, none⟩) as1.length ca) (Value.slice (some ⟨G2, O2, none⟩) as1.length ea) G1 (O1 + q * 3) G2 (O2 + q * 3) nm1 nm1 (Value.slice An na1.length cn) (Value.slice Av va1.length cv) (Value.slice Dn na2.length en) (Value.slice Dv va2.length ev)) (by kernel_rfl) (by kernel_rfl) H3 ?_
                    refine f_start 71 116 [(6, .pointer (some ⟨bx, 0, none⟩)), (7, .pointer (some ⟨by_, 0, none⟩)), (8, .int .i64 (q : Int))] ⟨rfl, rfl, rfl, fun j v hj => ?_⟩ ?_
                    · exact start3 hj rfl rfl rfl
                    intro a l0 ds hl0 hds hF
                    have HL0 := Lib.hid hl0; have HDS := Lib.hid hds; clear hl0 hds
                    refine f_op hF 71 (.pointer (some ⟨bx, 4, none⟩)) rfl rfl rfl (f_free rfl) (fun W hW => x_fieldN 4 (by decide) rfl (hF.eval 6 rfl)) ?_
                    clear hF; clear a; intro a hF
                    refine f_op hF 72 (Value.slice (some ⟨G1, O1, none⟩) as1.length ca) rfl rfl rfl (f_free rfl) (fun W hW => x_loadA rfl (hF.eval 71 rfl) hW.x4) ?_
                    clear hF; clear a; intro a hF
                    refine f_op hF 73 (.int .i64 (q : Int)) rfl rfl rfl (f_free rfl) (fun W hW => x_move rfl (hF.eval 8 rfl)) ?_
                    clear hF; clear a; intro a hF
                    refine f_op hF 74 (.pointer (some ⟨G1, O1 + q * 3, none⟩)) rfl rfl rfl (f_free rfl) (fun W hW => x_indexA rfl (hF.eval 72 rfl) (hF.eval 73 rfl) hqa) ?_
                    clear hF; clear a; intro a hF
                    refine f_op hF 75 (.pointer (some ⟨G1, O1 + q * 3, none⟩)) rfl rfl rfl (f_free rfl) (fun W hW => x_fieldA 0 (by decide) rfl (hF.eval 74 rfl)) ?_
                    clear hF; clear a; intro a hF
                    refine f_op hF 76 (.bool nm1) rfl rfl rfl (f_free rfl) (fun W hW => x_loadB rfl (hF.eval 75 rfl) hW.a0) ?_
                    clear hF; clear a; intro a hF
                    refine f_op hF 77 (.pointer (some ⟨by_, 4, none⟩)) rfl rfl rfl (f_free rfl) (fun W hW => x_fieldN 4 (by decide) rfl (hF.eval 7 rfl)) ?_
                    clear hF; clear a; intro a hF
                    refine f_op hF 78 (Value.slice (some ⟨G2, O2, none⟩) as1.length ea) rfl rfl rfl (f_free rfl) (fun W hW => x_loadA rfl (hF.eval 77 rfl) hW.y4) ?_
                    clear hF; clear a; intro a hF
                    refine f_op hF 79 (.int .i64 (q : Int)) rfl rfl rfl (f_free rfl) (fun W hW => x_move rfl (hF.eval 8 rfl)) ?_
                    clear hF; clear a; intro a hF
                    refine f_op hF 80 (.pointer (some ⟨G2, O2 + q * 3, none⟩)) rfl rfl rfl (f_free rfl) (fun W hW => x_indexA rfl (hF.eval 78 rfl) (hF.eval 79 rfl) hqa) ?_
                    clear hF; clear a; intro a hF
                    refine f_op hF 81 (.pointer (some ⟨G2, O2 + q * 3, none⟩)) rfl rfl rfl (f_free rfl) (fun W hW => x_fieldA 0 (by decide) rfl (hF.eval 80 rfl)) ?_
                    clear hF; clear a; intro a hF
                    refine f_op hF 82 (.bool nm1) rfl rfl rfl (f_free rfl) (fun W hW => x_loadB rfl (hF.eval 81 rfl) hW.b0) ?_
                    clear hF; clear a; intro a hF
                    refine f_op hF 83 (.bool false) rfl rfl rfl (f_free rfl) (fun W hW => x_neq rfl nm1 nm1 false (hF.eval 76 rfl) (hF.eval 82 rfl) (by simp)) ?_
                    clear hF; clear a; intro a hF
                    refine f_op hF 84 (.bool false) rfl rfl rfl (f_free rfl) (fun W hW => x_move rfl (hF.eval 83 rfl)) ?_
                    clear hF; clear a; intro a hF
                    refine f_op hF 85 (.pointer (some ⟨bx, 4, none⟩)) rfl rfl rfl (f_guard hF 13 84 false false true rfl (by kernel_rfl) rfl rfl rfl) (fun W hW => x_fieldN 4 (by decide) rfl (hF.eval 6 rfl)) ?_
                    clear hF; clear a; intro a hF
                    refine f_op hF 86 (Value.slice (some ⟨G1, O1, none⟩) as1.length ca) rfl rfl rfl (f_guard hF 13 84 false false true rfl (by kernel_rfl) rfl rfl rfl) (fun W hW => x_loadA rfl (hF.eval 85 rfl) hW.x4) ?_
                    clear hF; clear a; intro a hF
                    refine f_op hF 87 (.int .i64 (q : Int)) rfl rfl rfl (f_guard hF 13 84 false false true rfl (by kernel_rfl) rfl rfl rfl) (fun W hW => x_move rfl (hF.eval 8 rfl)) ?_
                    clear hF; clear a; intro a hF
                    refine f_op hF 88 (.pointer (some ⟨G1, O1 + q * 3, none⟩)) rfl rfl rfl (f_guard hF 13 84 false false true rfl (by kernel_rfl) rfl rfl rfl) (fun W hW => x_indexA rfl (hF.eval 86 rfl) (hF.eval 87 rfl) hqa) ?_
                    clear hF; clear a; intro a hF
                    refine f_op hF 89 (.pointer (some ⟨G1, O1 + q * 3 + 1, none⟩)) rfl rfl rfl (f_guard hF 13 84 false false true rfl (by kernel_rfl) rfl rfl rfl) (fun W hW => x_fieldA 1 (by decide) rfl (hF.eval 88 rfl)) ?_
                    clear hF; clear a; intro a hF
                    refine f_op hF 90 (Value.slice An na1.length cn) rfl rfl rfl (f_guard hF 13 84 false false true rfl (by kernel_rfl) rfl rfl rfl) (fun W hW => x_loadN rfl (hF.eval 89 rfl) hW.a1) ?_
                    clear hF; clear a; intro a hF
                    refine f_op hF 91 (.pointer (some ⟨by_, 4, none⟩)) rfl rfl rfl (f_guard hF 13 84 false false true rfl (by kernel_rfl) rfl rfl rfl) (fun W hW => x_fieldN 4 (by decide) rfl (hF.eval 7 rfl)) ?_
                    clear hF; clear a; intro a hF
                    refine f_op hF 92 (Value.slice (some ⟨G2, O2, none⟩) as1.length ea) rfl rfl rfl (f_guard hF 13 84 false false true rfl (by kernel_rfl) rfl rfl rfl) (fun W hW => x_loadA rfl (hF.eval 91 rfl) hW.y4) ?_
                    clear hF; clear a; intro a hF
                    refine f_op hF 93 (.int .i64 (q : Int)) rfl rfl rfl (f_guard hF 13 84 false false true rfl (by kernel_rfl) rfl rfl rfl) (fun W hW => x_move rfl (hF.eval 8 rfl)) ?_
                    clear hF; clear a; intro a hF
                    refine f_op hF 94 (.pointer (some ⟨G2, O2 + q * 3, none⟩)) rfl rfl rfl (f_guard hF 13 84 false false true rfl (by kernel_rfl) rfl rfl rfl) (fun W hW => x_indexA rfl (hF.eval 92 rfl) (hF.eval 93 rfl) hqa) ?_
                    clear hF; clear a; intro a hF
                    refine f_op hF 95 (.pointer (some ⟨G2, O2 + q * 3 + 1, none⟩)) rfl rfl rfl (f_guard hF 13 84 false false true rfl (by kernel_rfl) rfl rfl rfl) (fun W hW => x_fieldA 1 (by decide) rfl (hF.eval 94 rfl)) ?_
                    clear hF; clear a; intro a hF
                    refine f_op hF 96 (Value.slice Dn na2.length en) rfl rfl rfl (f_guard hF 13 84 false false true rfl (by kernel_rfl) rfl rfl rfl) (fun W hW => x_loadN rfl (hF.eval 95 rfl) hW.b1) ?_
                    clear hF; clear a; intro a hF
                    refine f_call hF 97 14 #[Value.slice An na1.length cn, Value.slice Dn na2.length en] (.bool true) rfl rfl rfl (f_guard hF 13 84 false false true rfl (by kernel_rfl) rfl rfl rfl) (fun W hW => x_call2 rfl rfl (hF.eval 90 rfl) (hF.eval 96 rfl)) (fun W hW => eq_he hL hW HN.out.1 HN.out.2 hB E1.out) ?_
                    clear hF; clear a; intro a hF
                    refine f_op hF 98 (.bool false) rfl rfl rfl (f_guard hF 13 84 false false true rfl (by kernel_rfl) rfl rfl rfl) (fun W hW => x_not rfl true false (hF.eval 97 rfl) rfl) ?_
                    clear hF; clear a; intro a hF
                    refine f_op hF 99 (.bool false) rfl rfl rfl (f_free rfl) (fun W hW => x_pick rfl false (hF.eval 84 rfl) (hF.eval 98 rfl)) ?_
                    clear hF; clear a; intro a hF
                    refine f_op hF 100 (.bool false) rfl rfl rfl (f_free rfl) (fun W hW => x_move rfl (hF.eval 99 rfl)) ?_
                    clear hF; clear a; intro a hF
                    refine f_op hF 101 (.pointer (some ⟨bx, 4, none⟩)) rfl rfl rfl (f_guard hF 29 100 false false true rfl (by kernel_rfl) rfl rfl rfl) (fun W hW => x_fieldN 4 (by decide) rfl (hF.eval 6 rfl)) ?_
                    clear hF; clear a; intro a hF
                    refine f_op hF 102 (Value.slice (some ⟨G1, O1, none⟩) as1.length ca) rfl rfl rfl (f_guard hF 29 100 false false true rfl (by kernel_rfl) rfl rfl rfl) (fun W hW => x_loadA rfl (hF.eval 101 rfl) hW.x4) ?_
                    clear hF; clear a; intro a hF
                    refine f_op hF 103 (.int .i64 (q : Int)) rfl rfl rfl (f_guard hF 29 100 false false true rfl (by kernel_rfl) rfl rfl rfl) (fun W hW => x_move rfl (hF.eval 8 rfl)) ?_
                    clear hF; clear a; intro a hF
                    refine f_op hF 104 (.pointer (some ⟨G1, O1 + q * 3, none⟩)) rfl rfl rfl (f_guard hF 29 100 false false true rfl (by kernel_rfl) rfl rfl rfl) (fun W hW => x_indexA rfl (hF.eval 102 rfl) (hF.eval 103 rfl) hqa) ?_
                    clear hF; clear a; intro a hF
                    refine f_op hF 105 (.pointer (some ⟨G1, O1 + q * 3 + 2, none⟩)) rfl rfl rfl (f_guard hF 29 100 false false true rfl (by kernel_rfl) rfl rfl rfl) (fun W hW => x_fieldA 2 (by decide) rfl (hF.eval 104 rfl)) ?_
                    clear hF; clear a; intro a hF
                    refine f_op hF 106 (Value.slice Av va1.length cv) rfl rfl rfl (f_guard hF 29 100 false false true rfl (by kernel_rfl) rfl rfl rfl) (fun W hW => x_loadN rfl (hF.eval 105 rfl) hW.a2) ?_
                    clear hF; clear a; intro a hF
                    refine f_op hF 107 (.pointer (some ⟨by_, 4, none⟩)) rfl rfl rfl (f_guard hF 29 100 false false true rfl (by kernel_rfl) rfl rfl rfl) (fun W hW => x_fieldN 4 (by decide) rfl (hF.eval 7 rfl)) ?_
                    clear hF; clear a; intro a hF
                    refine f_op hF 108 (Value.slice (some ⟨G2, O2, none⟩) as1.length ea) rfl rfl rfl (f_guard hF 29 100 false false true rfl (by kernel_rfl) rfl rfl rfl) (fun W hW => x_loadA rfl (hF.eval 107 rfl) hW.y4) ?_
                    clear hF; clear a; intro a hF
                    refine f_op hF 109 (.int .i64 (q : Int)) rfl rfl rfl (f_guard hF 29 100 false false true rfl (by kernel_rfl) rfl rfl rfl) (fun W hW => x_move rfl (hF.eval 8 rfl)) ?_
                    clear hF; clear a; intro a hF
                    refine f_op hF 110 (.pointer (some ⟨G2, O2 + q * 3, none⟩)) rfl rfl rfl (f_guard hF 29 100 false false true rfl (by kernel_rfl) rfl rfl rfl) (fun W hW => x_indexA rfl (hF.eval 108 rfl) (hF.eval 109 rfl) hqa) ?_
                    clear hF; clear a; intro a hF
                    refine f_op hF 111 (.pointer (some ⟨G2, O2 + q * 3 + 2, none⟩)) rfl rfl rfl (f_guard hF 29 100 false false true rfl (by kernel_rfl) rfl rfl rfl) (fun W hW => x_fieldA 2 (by decide) rfl (hF.eval 110 rfl)) ?_
                    clear hF; clear a; intro a hF
                    refine f_op hF 112 (Value.slice Dv va2.length ev) rfl rfl rfl (f_guard hF 29 100 false false true rfl (by kernel_rfl) rfl rfl rfl) (fun W hW => x_loadN rfl (hF.eval 111 rfl) hW.b2) ?_
                    clear hF; clear a; intro a hF
                    refine f_call hF 113 14 #[Value.slice Av va1.length cv, Value.slice Dv va2.length ev] (.bool false) rfl rfl rfl (f_guard hF 29 100 false false true rfl (by kernel_rfl) rfl rfl rfl) (fun W hW => x_call2 rfl rfl (hF.eval 106 rfl) (hF.eval 112 rfl)) (fun W hW => eq_he hL hW HV.out.1 HV.out.2 hB E2.out) ?_
                    clear hF; clear a; intro a hF
                    refine f_op hF 114 (.bool true) rfl rfl rfl (f_guard hF 29 100 false false true rfl (by kernel_rfl) rfl rfl rfl) (fun W hW => x_not rfl false true (hF.eval 113 rfl) rfl) ?_
                    clear hF; clear a; intro a hF
                    refine f_op hF 115 (.bool true) rfl rfl rfl (f_free rfl) (fun W hW => x_pick rfl false (hF.eval 100 rfl) (hF.eval 114 rfl)) ?_
                    clear hF; clear a; intro a hF
                    refine wpQuiet_nil ?_
                    intro w' h8
                    obtain ⟨u, e, hu⟩ := hF.last45 rfl rfl
                    clear hF
                    subst e
                    rw [hu, HL0.out, HDS.out]
                    clear hu HL0 HDS
                    simp only [List.take_succ_cons, List.take_zero, List.cons_append, List.nil_append]
                    go_wp2_with fail
                    go_ret
                    exact ⟨ret_bool HR.out.symm, h8.bl⟩
                  | true =>
                    have E2 := Lib.hid hE2; have HE2 := Lib.hid (eqB_iff.1 hE2); clear hE2
                    go_wp2_with fail
                    clear c4' d4' p1 p2 p3 z1 z2 z3
                    refine region_q (C := He w bx by_ OX OY (Value.slice (some ⟨G1, O1, none⟩) as1.length ca) (Value.slice (some ⟨G2, O2, none⟩) as1.length ea) G1 (O1 + q * 3) G2 (O2 + q * 3) nm1 nm1 (Value.slice An na1.length cn) (Value.slice Av va1.length cv) (Value.slice Dn na2.length en) (Value.slice Dv va2.length ev)) (by kernel_rfl) (by kernel_rfl) H3 ?_
                    refine f_start 71 116 [(6, .pointer (some ⟨bx, 0, none⟩)), (7, .pointer (some ⟨by_, 0, none⟩)), (8, .int .i64 (q : Int))] ⟨rfl, rfl, rfl, fun j v hj => ?_⟩ ?_
                    · exact start3 hj rfl rfl rfl
                    intro a l0 ds hl0 hds hF
                    have HL0 := Lib.hid hl0; have HDS := Lib.hid hds; clear hl0 hds
                    refine f_op hF 71 (.pointer (some ⟨bx, 4, none⟩)) rfl rfl rfl (f_free rfl) (fun W hW => x_fieldN 4 (by decide) rfl (hF.eval 6 rfl)) ?_
                    clear hF; clear a; intro a hF
                    refine f_op hF 72 (Value.slice (some ⟨G1, O1, none⟩) as1.length ca) rfl rfl rfl (f_free rfl) (fun W hW => x_loadA rfl (hF.eval 71 rfl) hW.x4) ?_
                    clear hF; clear a; intro a hF
                    refine f_op hF 73 (.int .i64 (q : Int)) rfl rfl rfl (f_free rfl) (fun W hW => x_move rfl (hF.eval 8 rfl)) ?_
                    clear hF; clear a; intro a hF
                    refine f_op hF 74 (.pointer (some ⟨G1, O1 + q * 3, none⟩)) rfl rfl rfl (f_free rfl) (fun W hW => x_indexA rfl (hF.eval 72 rfl) (hF.eval 73 rfl) hqa) ?_
                    clear hF; clear a; intro a hF
                    refine f_op hF 75 (.pointer (some ⟨G1, O1 + q * 3, none⟩)) rfl rfl rfl (f_free rfl) (fun W hW => x_fieldA 0 (by decide) rfl (hF.eval 74 rfl)) ?_
                    clear hF; clear a; intro a hF
                    refine f_op hF 76 (.bool nm1) rfl rfl rfl (f_free rfl) (fun W hW => x_loadB rfl (hF.eval 75 rfl) hW.a0) ?_
                    clear hF; clear a; intro a hF
                    refine f_op hF 77 (.pointer (some ⟨by_, 4, none⟩)) rfl rfl rfl (f_free rfl) (fun W hW => x_fieldN 4 (by decide) rfl (hF.eval 7 rfl)) ?_
                    clear hF; clear a; intro a hF
                    refine f_op hF 78 (Value.slice (some ⟨G2, O2, none⟩) as1.length ea) rfl rfl rfl (f_free rfl) (fun W hW => x_loadA rfl (hF.eval 77 rfl) hW.y4) ?_
                    clear hF; clear a; intro a hF
                    refine f_op hF 79 (.int .i64 (q : Int)) rfl rfl rfl (f_free rfl) (fun W hW => x_move rfl (hF.eval 8 rfl)) ?_
                    clear hF; clear a; intro a hF
                    refine f_op hF 80 (.pointer (some ⟨G2, O2 + q * 3, none⟩)) rfl rfl rfl (f_free rfl) (fun W hW => x_indexA rfl (hF.eval 78 rfl) (hF.eval 79 rfl) hqa) ?_
                    clear hF; clear a; intro a hF
                    refine f_op hF 81 (.pointer (some ⟨G2, O2 + q * 3, none⟩)) rfl rfl rfl (f_free rfl) (fun W hW => x_fieldA 0 (by decide) rfl (hF.eval 80 rfl)) ?_
                    clear hF; clear a; intro a hF
                    refine f_op hF 82 (.bool nm1) rfl rfl rfl (f_free rfl) (fun W hW => x_loadB rfl (hF.eval 81 rfl) hW.b0) ?_
                    clear hF; clear a; intro a hF
                    refine f_op hF 83 (.bool false) rfl rfl rfl (f_free rfl) (fun W hW => x_neq rfl nm1 nm1 false (hF.eval 76 rfl) (hF.eval 82 rfl) (by simp)) ?_
                    clear hF; clear a; intro a hF
                    refine f_op hF 84 (.bool false) rfl rfl rfl (f_free rfl) (fun W hW => x_move rfl (hF.eval 83 rfl)) ?_
                    clear hF; clear a; intro a hF
                    refine f_op hF 85 (.pointer (some ⟨bx, 4, none⟩)) rfl rfl rfl (f_guard hF 13 84 false false true rfl (by kernel_rfl) rfl rfl rfl) (fun W hW => x_fieldN 4 (by decide) rfl (hF.eval 6 rfl)) ?_
                    clear hF; clear a; intro a hF
                    refine f_op hF 86 (Value.slice (some ⟨G1, O1, none⟩) as1.length ca) rfl rfl rfl (f_guard hF 13 84 false false true rfl (by kernel_rfl) rfl rfl rfl) (fun W hW => x_loadA rfl (hF.eval 85 rfl) hW.x4) ?_
                    clear hF; clear a; intro a hF
                    refine f_op hF 87 (.int .i64 (q : Int)) rfl rfl rfl (f_guard hF 13 84 false false true rfl (by kernel_rfl) rfl rfl rfl) (fun W hW => x_move rfl (hF.eval 8 rfl)) ?_
                    clear hF; clear a; intro a hF
                    refine f_op hF 88 (.pointer (some ⟨G1, O1 + q * 3, none⟩)) rfl rfl rfl (f_guard hF 13 84 false false true rfl (by kernel_rfl) rfl rfl rfl) (fun W hW => x_indexA rfl (hF.eval 86 rfl) (hF.eval 87 rfl) hqa) ?_
                    clear hF; clear a; intro a hF
                    refine f_op hF 89 (.pointer (some ⟨G1, O1 + q * 3 + 1, none⟩)) rfl rfl rfl (f_guard hF 13 84 false false true rfl (by kernel_rfl) rfl rfl rfl) (fun W hW => x_fieldA 1 (by decide) rfl (hF.eval 88 rfl)) ?_
                    clear hF; clear a; intro a hF
                    refine f_op hF 90 (Value.slice An na1.length cn) rfl rfl rfl (f_guard hF 13 84 false false true rfl (by kernel_rfl) rfl rfl rfl) (fun W hW => x_loadN rfl (hF.eval 89 rfl) hW.a1) ?_
                    clear hF; clear a; intro a hF
                    refine f_op hF 91 (.pointer (some ⟨by_, 4, none⟩)) rfl rfl rfl (f_guard hF 13 84 false false true rfl (by kernel_rfl) rfl rfl rfl) (fun W hW => x_fieldN 4 (by decide) rfl (hF.eval 7 rfl)) ?_
                    clear hF; clear a; intro a hF
                    refine f_op hF 92 (Value.slice (some ⟨G2, O2, none⟩) as1.length ea) rfl rfl rfl (f_guard hF 13 84 false false true rfl (by kernel_rfl) rfl rfl rfl) (fun W hW => x_loadA rfl (hF.eval 91 rfl) hW.y4) ?_
                    clear hF; clear a; intro a hF
                    refine f_op hF 93 (.int .i64 (q : Int)) rfl rfl rfl (f_guard hF 13 84 false false true rfl (by kernel_rfl) rfl rfl rfl) (fun W hW => x_move rfl (hF.eval 8 rfl)) ?_
                    clear hF; clear a; intro a hF
                    refine f_op hF 94 (.pointer (some ⟨G2, O2 + q * 3, none⟩)) rfl rfl rfl (f_guard hF 13 84 false false true rfl (by kernel_rfl) rfl rfl rfl) (fun W hW => x_indexA rfl (hF.eval 92 rfl) (hF.eval 93 rfl) hqa) ?_
                    clear hF; clear a; intro a hF
                    refine f_op hF 95 (.pointer (some ⟨G2, O2 + q * 3 + 1, none⟩)) rfl rfl rfl (f_guard hF 13 84 false false true rfl (by kernel_rfl) rfl rfl rfl) (fun W hW => x_fieldA 1 (by decide) rfl (hF.eval 94 rfl)) ?_
                    clear hF; clear a; intro a hF
                    refine f_op hF 96 (Value.slice Dn na2.length en) rfl rfl rfl (f_guard hF 13 84 false false true rfl (by kernel_rfl) rfl rfl rfl) (fun W hW => x_loadN rfl (hF.eval 95 rfl) hW.b1) ?_
                    clear hF; clear a; intro a hF
                    refine f_call hF 97 14 #[Value.slice An na1.length cn, Value.slice Dn na2.length en] (.bool true) rfl rfl rfl (f_guard hF 13 84 false false true rfl (by kernel_rfl) rfl rfl rfl) (fun W hW => x_call2 rfl rfl (hF.eval 90 rfl) (hF.eval 96 rfl)) (fun W hW => eq_he hL hW HN.out.1 HN.out.2 hB E1.out) ?_
                    clear hF; clear a; intro a hF
                    refine f_op hF 98 (.bool false) rfl rfl rfl (f_guard hF 13 84 false false true rfl (by kernel_rfl) rfl rfl rfl) (fun W hW => x_not rfl true false (hF.eval 97 rfl) rfl) ?_
                    clear hF; clear a; intro a hF
                    refine f_op hF 99 (.bool false) rfl rfl rfl (f_free rfl) (fun W hW => x_pick rfl false (hF.eval 84 rfl) (hF.eval 98 rfl)) ?_
                    clear hF; clear a; intro a hF
                    refine f_op hF 100 (.bool false) rfl rfl rfl (f_free rfl) (fun W hW => x_move rfl (hF.eval 99 rfl)) ?_
                    clear hF; clear a; intro a hF
                    refine f_op hF 101 (.pointer (some ⟨bx, 4, none⟩)) rfl rfl rfl (f_guard hF 29 100 false false true rfl (by kernel_rfl) rfl rfl rfl) (fun W hW => x_fieldN 4 (by decide) rfl (hF.eval 6 rfl)) ?_
                    clear hF; clear a; intro a hF
                    refine f_op hF 102 (Value.slice (some ⟨G1, O1, none⟩) as1.length ca) rfl rfl rfl (f_guard hF 29 100 false false true rfl (by kernel_rfl) rfl rfl rfl) (fun W hW => x_loadA rfl (hF.eval 101 rfl) hW.x4) ?_
                    clear hF; clear a; intro a hF
                    refine f_op hF 103 (.int .i64 (q : Int)) rfl rfl rfl (f_guard hF 29 100 false false true rfl (by kernel_rfl) rfl rfl rfl) (fun W hW => x_move rfl (hF.eval 8 rfl)) ?_
                    clear hF; clear a; intro a hF
                    refine f_op hF 104 (.pointer (some ⟨G1, O1 + q * 3, none⟩)) rfl rfl rfl (f_guard hF 29 100 false false true rfl (by kernel_rfl) rfl rfl rfl) (fun W hW => x_indexA rfl (hF.eval 102 rfl) (hF.eval 103 rfl) hqa) ?_
                    clear hF; clear a; intro a hF
                    refine f_op hF 105 (.pointer (some ⟨G1, O1 + q * 3 + 2, none⟩)) rfl rfl rfl (f_guard hF 29 100 false false true rfl (by kernel_rfl) rfl rfl rfl) (fun W hW => x_fieldA 2 (by decide) rfl (hF.eval 104 rfl)) ?_
                    clear hF; clear a; intro a hF
                    refine f_op hF 106 (Value.slice Av va1.length cv) rfl rfl rfl (f_guard hF 29 100 false false true rfl (by kernel_rfl) rfl rfl rfl) (fun W hW => x_loadN rfl (hF.eval 105 rfl) hW.a2) ?_
                    clear hF; clear a; intro a hF
                    refine f_op hF 107 (.pointer (some ⟨by_, 4, none⟩)) rfl rfl rfl (f_guard hF 29 100 false false true rfl (by kernel_rfl) rfl rfl rfl) (fun W hW => x_fieldN 4 (by decide) rfl (hF.eval 7 rfl)) ?_
                    clear hF; clear a; intro a hF
                    refine f_op hF 108 (Value.slice (some ⟨G2, O2, none⟩) as1.length ea) rfl rfl rfl (f_guard hF 29 100 false false true rfl (by kernel_rfl) rfl rfl rfl) (fun W hW => x_loadA rfl (hF.eval 107 rfl) hW.y4) ?_
                    clear hF; clear a; intro a hF
                    refine f_op hF 109 (.int .i64 (q : Int)) rfl rfl rfl (f_guard hF 29 100 false false true rfl (by kernel_rfl) rfl rfl rfl) (fun W hW => x_move rfl (hF.eval 8 rfl)) ?_
                    clear hF; clear a; intro a hF
                    refine f_op hF 110 (.pointer (some ⟨G2, O2 + q * 3, none⟩)) rfl rfl rfl (f_guard hF 29 100 false false true rfl (by kernel_rfl) rfl rfl rfl) (fun W hW => x_indexA rfl (hF.eval 108 rfl) (hF.eval 109 rfl) hqa) ?_
                    clear hF; clear a; intro a hF
                    refine f_op hF 111 (.pointer (some ⟨G2, O2 + q * 3 + 2, none⟩)) rfl rfl rfl (f_guard hF 29 100 false false true rfl (by kernel_rfl) rfl rfl rfl) (fun W hW => x_fieldA 2 (by decide) rfl (hF.eval 110 rfl)) ?_
                    clear hF; clear a; intro a hF
                    refine f_op hF 112 (Value.slice Dv va2.length ev) rfl rfl rfl (f_guard hF 29 100 false false true rfl (by kernel_rfl) rfl rfl rfl) (fun W hW => x_loadN rfl (hF.eval 111 rfl) hW.b2) ?_
                    clear hF; clear a; intro a hF
                    refine f_call hF 113 14 #[Value.slice Av va1.length cv, Value.slice Dv va2.length ev] (.bool true) rfl rfl rfl (f_guard hF 29 100 false false true rfl (by kernel_rfl) rfl rfl rfl) (fun W hW => x_call2 rfl rfl (hF.eval 106 rfl) (hF.eval 112 rfl)) (fun W hW => eq_he hL hW HV.out.1 HV.out.2 hB E2.out) ?_
                    clear hF; clear a; intro a hF
                    refine f_op hF 114 (.bool false) rfl rfl rfl (f_guard hF 29 100 false false true rfl (by kernel_rfl) rfl rfl rfl) (fun W hW => x_not rfl true false (hF.eval 113 rfl) rfl) ?_
                    clear hF; clear a; intro a hF
                    refine f_op hF 115 (.bool false) rfl rfl rfl (f_free rfl) (fun W hW => x_pick rfl false (hF.eval 100 rfl) (hF.eval 114 rfl)) ?_
                    clear hF; clear a; intro a hF
                    refine wpQuiet_nil ?_
                    intro w' h8
                    obtain ⟨u, e, hu⟩ := hF.last45 rfl rfl
                    clear hF
                    subst e
                    rw [hu, HL0.out, HDS.out]
                    clear hu HL0 HDS
                    simp only [List.take_succ_cons, List.take_zero, List.cons_append, List.nil_append]
                    have HBq := Lib.hid (show Below w.heap.size w w' ∧ w'.heap[bx]? = some OX ∧ w'.heap[by_]? = some OY from ⟨h8.bl, h8.hx, h8.hy⟩)
                    go_wp2_with fail
                    go_roundw
                    case rel => exact ⟨q + 1, by omega, by go_num, Lib.hid (HTk.out (by rw [HE1.out, HE2.out])), HBq⟩
                    case measure => exact meas hqa
              · have e : q = as1.length := by omega
                subst e
                have HEQ : Hid (Nd.mk k1 t1 s1 ks1 as1 = Nd.mk k1 t1 s1 ks2 as2) := Lib.hid (by rw [HKe.out, take_eq_len HLA.out hEa.out])
                go_wp2_with fail
                go_roundw
                case rel => exact ⟨k + 1, by omega, by go_num, Lib.hid (take_succ_eq hlt hlt2 hE.out (by rw [HLk.out, HMk.out, HEQ.out])), HB2⟩
                case measure => exact meas hlt
        · have hX : ((wr.alloc (Obj.cells #[Value.int .i64 k2, Value.int .i64 t2, Value.string s2, Value.slice Dk ks2.length ek, Value.slice Da as2.length ea] 62)).alloc (Obj.cells #[Value.int .i64 k1, Value.int .i64 t1, Value.string s1, Value.slice Ak ks1.length ck, Value.slice Aa as1.length ca] 62)).drew.heap[wr.heap.size + 1]? = some (.cells #[Value.int .i64 k1, Value.int .i64 t1, Value.string s1, Value.slice Ak ks1.length ck, Value.slice Aa as1.length ca] 62) := heap_alloc2_new wr _ _
          have hY : ((wr.alloc (Obj.cells #[Value.int .i64 k2, Value.int .i64 t2, Value.string s2, Value.slice Dk ks2.length ek, Value.slice Da as2.length ea] 62)).alloc (Obj.cells #[Value.int .i64 k1, Value.int .i64 t1, Value.string s1, Value.slice Ak ks1.length ck, Value.slice Aa as1.length ca] 62)).drew.heap[wr.heap.size]? = some (.cells #[Value.int .i64 k2, Value.int .i64 t2, Value.string s2, Value.slice Dk ks2.length ek, Value.slice Da as2.length ea] 62) := heap_alloc2_old wr _ _
          have HB := Lib.hid (hbl.out.trans (TY.out.drew.mono hbl.out.size))
          have hbx : wr.heap.size + 1 < ((wr.alloc (Obj.cells #[Value.int .i64 k2, Value.int .i64 t2, Value.string s2, Value.slice Dk ks2.length ek, Value.slice Da as2.length ea] 62)).alloc (Obj.cells #[Value.int .i64 k1, Value.int .i64 t1, Value.string s1, Value.slice Ak ks1.length ck, Value.slice Aa as1.length ca] 62)).drew.heap.size := (Array.getElem?_eq_some_iff.1 hX).1
          have hby : wr.heap.size < ((wr.alloc (Obj.cells #[Value.int .i64 k2, Value.int .i64 t2, Value.string s2, Value.slice Dk ks2.length ek, Value.slice Da as2.length ea] 62)).alloc (Obj.cells #[Value.int .i64 k1, Value.int .i64 t1, Value.string s1, Value.slice Ak ks1.length ck, Value.slice Aa as1.length ca] 62)).drew.heap.size := (Array.getElem?_eq_some_iff.1 hY).1
          clear x1 x2 x3 x4 x5 y1 y2 y3 y4 y5 TX TY hg1w hg2w
          generalize ((wr.alloc (Obj.cells #[Value.int .i64 k2, Value.int .i64 t2, Value.string s2, Value.slice Dk ks2.length ek, Value.slice Da as2.length ea] 62)).alloc (Obj.cells #[Value.int .i64 k1, Value.int .i64 t1, Value.string s1, Value.slice Ak ks1.length ck, Value.slice Aa as1.length ca] 62)).drew = W at hX hY HB hbx hby ⊢
          generalize wr.heap.size + 1 = bx at hX hbx ⊢
          generalize wr.heap.size = by_ at hY hby ⊢
          have c0 : W.cell? ⟨bx, 0, none⟩ = some (Value.int .i64 k1) := cell_heap hX rfl
          have c1' : W.cell? ⟨bx, 1, none⟩ = some (Value.int .i64 t1) := cell_heap hX rfl
          have c2' : W.cell? ⟨bx, 2, none⟩ = some (Value.string s1) := cell_heap hX rfl
          have c3' : W.cell? ⟨bx, 3, none⟩ = some (Value.slice Ak ks1.length ck) := cell_heap hX rfl
          have c4' : W.cell? ⟨bx, 4, none⟩ = some (Value.slice Aa as1.length ca) := cell_heap hX rfl
          have d0' : W.cell? ⟨by_, 0, none⟩ = some (Value.int .i64 k2) := cell_heap hY rfl
          have d1' : W.cell? ⟨by_, 1, none⟩ = some (Value.int .i64 t2) := cell_heap hY rfl
          have d2' : W.cell? ⟨by_, 2, none⟩ = some (Value.string s2) := cell_heap hY rfl
          have d3' : W.cell? ⟨by_, 3, none⟩ = some (Value.slice Dk ks2.length ek) := cell_heap hY rfl
          have d4' : W.cell? ⟨by_, 4, none⟩ = some (Value.slice Da as2.length ea) := cell_heap hY rfl
          have HD : Hid (Nd.mk k1 t1 s1 ks1 as1 ≠ Nd.mk k2 t2 s2 ks2 as2 → eqB l m = false) := Lib.hid (fun hne => eqB_false (fun e => hne (by rw [← HLk.out, ← HMk.out]; subst e; rfl)))
          by_cases hk1 : k1 = k2
          case neg =>
            have hkn : (k1 != k2) = true := by simpa using hk1
            have HR := Lib.hid (HD.out (fun e => hk1 (by injection e)))
            go_wp2_with fail
            go_ret
            exact ⟨ret_bool HR.out.symm, HB.out⟩
          by_cases ht1 : t1 = t2
          case neg =>
            have hkn : (t1 != t2) = true := by simpa using ht1
            have HR := Lib.hid (HD.out (fun e => ht1 (by injection e)))
            subst hk1
            go_wp2_with fail
            go_ret
            exact ⟨ret_bool HR.out.symm, HB.out⟩
          by_cases hs1 : s1 = s2
          case neg =>
            have HR := Lib.hid (HD.out (fun e => hs1 (by injection e)))
            have hs' : (s1.toList == s2.toList) = false := by rw [beq_eq_false_iff_ne]; exact fun e => hs1 (ba_list e)
            have hs2 : ¬ s1.toList = s2.toList := fun e => hs1 (ba_list e)
            subst hk1 ht1
            go_wp2_with fail
            go_ret
            exact ⟨ret_bool HR.out.symm, HB.out⟩
          by_cases hla : as1.length = as2.length
          case neg =>
            have HR := Lib.hid (HD.out (fun e => hla (by injection e with _ _ _ _ e; rw [e])))
            have hl1 : ¬ (as1.length : Int) = (as2.length : Int) := by omega
            have hl2 : ((as1.length : Int) != (as2.length : Int)) = true := by simpa using hl1
            subst hk1 ht1 hs1
            go_wp2_with fail
            go_ret
            exact ⟨ret_bool HR.out.symm, HB.out⟩
          rw [← hla] at d4'
          have HLA := Lib.hid hla; clear hla
          subst hk1 ht1 hs1
          go_wp2_with fail
          refine (hL B _ _ ks1 ks2 W (HK.out.1.below HB.out hB (Nat.le_refl _)) (HK.out.2.below HB.out hB (Nat.le_refl _)) (Nat.le_trans hB HB.out.size)).mono ?_
          rintro e W1 ⟨rfl, hb⟩
          have HB1 := Lib.hid (HB.out.trans (hb.mono HB.out.size))
          have hX1 := (hb.block bx hbx).trans hX
          have hY1 := (hb.block by_ hby).trans hY
          obtain ⟨OX, hOX⟩ : ∃ O, Obj.cells #[Value.int .i64 k1, Value.int .i64 t1, Value.string s1, Value.slice Ak ks1.length ck, Value.slice Aa as1.length ca] 62 = O := ⟨_, rfl⟩
          obtain ⟨OY, hOY⟩ : ∃ O, Obj.cells #[Value.int .i64 k1, Value.int .i64 t1, Value.string s1, Value.slice Dk ks2.length ek, Value.slice Da as2.length ea] 62 = O := ⟨_, rfl⟩
          rw [hOX] at hX1
          rw [hOY] at hY1
          have HXY := Lib.hid (And.intro hX1 hY1)
          have HOX := Lib.hid hOX; have HOY := Lib.hid hOY; clear hOX hOY
          clear hb c0 c1' c2' c3' c4' d0' d1' d2' d3' d4' hX hY hX1 hY1
          cases hQ : eqB ks1 ks2 with
          | false =>
            have HR := Lib.hid (HD.out (fun e => eqB_no hQ (by injection e))); clear hQ
            go_wp2_with fail
            go_ret
            exact ⟨ret_bool HR.out.symm, HB1.out⟩
          | true =>
            have HKe := Lib.hid (eqB_iff.1 hQ); clear hQ
            go_wp2_with fail
            go_loopw [8] (fun j wq => ∃ q : Nat, q ≤ as1.length ∧ j = .int .i64 q ∧ Hid (as1.take q = as2.take q) ∧ Hid (Below w.heap.size w wq ∧ wq.heap[bx]? = some OX ∧ wq.heap[by_]? = some OY)) (fun j _ => as1.length - (intOf j).toNat)
            case atStart => exact ⟨0, Nat.zero_le _, rfl, Lib.hid rfl, Lib.hid ⟨HB1.out, HXY.out.1, HXY.out.2⟩⟩
            case round =>
              obtain ⟨q, hq, rfl, hEa, hbq⟩ := hrel
              have hX2 := hbq.out.2.1
              have hY2 := hbq.out.2.2
              rw [← HOX.out] at hX2
              rw [← HOY.out, ← HLA.out] at hY2
              have c4' : wr.cell? ⟨bx, 4, none⟩ = some (Value.slice Aa as1.length ca) := cell_heap hX2 rfl
              have d4' : wr.cell? ⟨by_, 4, none⟩ = some (Value.slice Da as1.length ea) := cell_heap hY2 rfl
              have HB2 := Lib.hid hbq.out.1
              clear hX2 hY2
              by_cases hqa : q < as1.length
              · have hqb : q < as2.length := by rw [← HLA.out]; exact hqa
                obtain ⟨G1, O1, rfl, hG1, r1⟩ := RA1.out (by omega)
                obtain ⟨G2, O2, rfl, hG2, r2⟩ := RA2.out (by omega)
                obtain ⟨vn, vv, p1, p2, p3, p4, p5⟩ := r1 q as1[q] (List.getElem?_eq_getElem hqa)
                obtain ⟨un, uv, z1, z2, z3, z4, z5⟩ := r2 q as2[q] (List.getElem?_eq_getElem hqb)
                obtain ⟨An, cn, rfl⟩ := p4.form
                obtain ⟨Av, cv, rfl⟩ := p5.form
                obtain ⟨Dn, en, rfl⟩ := z4.form
                obtain ⟨Dv, ev, rfl⟩ := z5.form
                clear r1 r2
                have hG1w : G1 < w.heap.size := Nat.lt_of_lt_of_le hG1 hB
                have hG2w : G2 < w.heap.size := Nat.lt_of_lt_of_le hG2 hB
                have hc1 : ∀ i, wr.cell? ⟨G1, i, none⟩ = w.cell? ⟨G1, i, none⟩ := fun i => HB2.out.cell (by show G1 < _; omega)
                have hc2 : ∀ i, wr.cell? ⟨G2, i, none⟩ = w.cell? ⟨G2, i, none⟩ := fun i => HB2.out.cell (by show G2 < _; omega)
                rw [← hc1] at p1 p2 p3
                rw [← hc2] at z1 z2 z3
                clear hc1 hc2
                have HTk : Hid (as1[q] = as2[q] → as1.take (q + 1) = as2.take (q + 1)) := Lib.hid (fun e => take_succ_eq hqa hqb hEa.out e)
                have HDa : Hid (as1[q] ≠ as2[q] → eqB l m = false) := Lib.hid (fun hne => HD.out (fun e => hne (by injection e with _ _ _ _ e; subst e; rfl)))
                generalize as1[q] = a1 at *
                generalize as2[q] = a2 at *
                obtain ⟨nm1, na1, va1⟩ := a1
                obtain ⟨nm2, na2, va2⟩ := a2
                simp only [Ar.named, Ar.name, Ar.value] at p1 p2 p3 p4 p5 z1 z2 z3 z4 z5
                have HN := Lib.hid (And.intro p4 z4); have HV := Lib.hid (And.intro p5 z5); clear p4 z4 p5 z5
                have hs := HB2.out.size
                have H3 : He w bx by_ OX OY (Value.slice (some ⟨G1, O1, none⟩) as1.length ca) (Value.slice (some ⟨G2, O2, none⟩) as1.length ea) G1 (O1 + q * 3) G2 (O2 + q * 3) nm1 nm2 (Value.slice An na1.length cn) (Value.slice Av va1.length cv) (Value.slice Dn na2.length en) (Value.slice Dv va2.length ev) wr := ⟨c4', d4', p1, p2, p3, z1, z2, z3, HB2.out, hbq.out.2.1, hbq.out.2.2, by omega, by omega⟩
                have H3 := H3.drew
                clear hs
                by_cases hnm : nm1 = nm2
                case neg =>
                  have HR := Lib.hid (HDa.out (fun e => hnm (by injection e)))
                  have hnm2 : Hid ((nm1 != nm2) = true) := Lib.hid (by simpa using hnm)
                  clear hnm
                  go_wp2_with fail
                  clear c4' d4' p1 p2 p3 z1 z2 z3
                  refine region_q (C := He w bx by_ OX OY (Value.slice (some ⟨G1, O1, none⟩) as1.length ca) (Value.slice (some ⟨G2, O2, none⟩) as1.length ea) G1 (O1 + q * 3) G2 (O2 + q * 3) nm1 nm2 (Value.slice An na1.length cn) (Value.slice Av va1.length cv) (Value.slice Dn na2.length en) (Value.slice Dv va2.length ev)) (by kernel_rfl) (by kernel_rfl) H3 ?_
                  refine f_start 71 116 [(6, .pointer (some ⟨bx, 0, none⟩)), (7, .pointer (some ⟨by_, 0, none⟩)), (8, .int .i64 (q : Int))] ⟨rfl, rfl, rfl, fun j v hj => ?_⟩ ?_
                  · exact start3 hj rfl rfl rfl
                  intro a l0 ds hl0 hds hF
                  have HL0 := Lib.hid hl0; have HDS := Lib.hid hds; clear hl0 hds
                  refine f_op hF 71 (.pointer (some ⟨bx, 4, none⟩)) rfl rfl rfl (f_free rfl) (fun W hW => x_fieldN 4 (by decide) rfl (hF.eval 6 rfl)) ?_
                  clear hF; clear a; intro a hF
                  refine f_op hF 72 (Value.slice (some ⟨G1, O1, none⟩) as1.length ca) rfl rfl rfl (f_free rfl) (fun W hW => x_loadA rfl (hF.eval 71 rfl) hW.x4) ?_
                  clear hF; clear a; intro a hF
                  refine f_op hF 73 (.int .i64 (q : Int)) rfl rfl rfl (f_free rfl) (fun W hW => x_move rfl (hF.eval 8 rfl)) ?_
                  clear hF; clear a; intro a hF
                  refine f_op hF 74 (.pointer (some ⟨G1, O1 + q * 3, none⟩)) rfl rfl rfl (f_free rfl) (fun W hW => x_indexA rfl (hF.eval 72 rfl) (hF.eval 73 rfl) hqa) ?_
                  clear hF; clear a; intro a hF
                  refine f_op hF 75 (.pointer (some ⟨G1, O1 + q * 3, none⟩)) rfl rfl rfl (f_free rfl) (fun W hW => x_fieldA 0 (by decide) rfl (hF.eval 74 rfl)) ?_
                  clear hF; clear a; intro a hF
                  refine f_op hF 76 (.bool nm1) rfl rfl rfl (f_free rfl) (fun W hW => x_loadB rfl (hF.eval 75 rfl) hW.a0) ?_
                  clear hF; clear a; intro a hF
                  refine f_op hF 77 (.pointer (some ⟨by_, 4, none⟩)) rfl rfl rfl (f_free rfl) (fun W hW => x_fieldN 4 (by decide) rfl (hF.eval 7 rfl)) ?_
                  clear hF; clear a; intro a hF
                  refine f_op hF 78 (Value.slice (some ⟨G2, O2, none⟩) as1.length ea) rfl rfl rfl (f_free rfl) (fun W hW => x_loadA rfl (hF.eval 77 rfl) hW.y4) ?_
                  clear hF; clear a; intro a hF
                  refine f_op hF 79 (.int .i64 (q : Int)) rfl rfl rfl (f_free rfl) (fun W hW => x_move rfl (hF.eval 8 rfl)) ?_
                  clear hF; clear a; intro a hF
                  refine f_op hF 80 (.pointer (some ⟨G2, O2 + q * 3, none⟩)) rfl rfl rfl (f_free rfl) (fun W hW => x_indexA rfl (hF.eval 78 rfl) (hF.eval 79 rfl) hqa) ?_
                  clear hF; clear a; intro a hF
                  refine f_op hF 81 (.pointer (some ⟨G2, O2 + q * 3, none⟩)) rfl rfl rfl (f_free rfl) (fun W hW => x_fieldA 0 (by decide) rfl (hF.eval 80 rfl)) ?_
                  clear hF; clear a; intro a hF
                  refine f_op hF 82 (.bool nm2) rfl rfl rfl (f_free rfl) (fun W hW => x_loadB rfl (hF.eval 81 rfl) hW.b0) ?_
                  clear hF; clear a; intro a hF
                  refine f_op hF 83 (.bool true) rfl rfl rfl (f_free rfl) (fun W hW => x_neq rfl nm1 nm2 true (hF.eval 76 rfl) (hF.eval 82 rfl) hnm2.out) ?_
                  clear hF; clear a; intro a hF
                  refine f_op hF 84 (.bool true) rfl rfl rfl (f_free rfl) (fun W hW => x_move rfl (hF.eval 83 rfl)) ?_
                  clear hF; clear a; intro a hF
                  refine f_skip hF 85 rfl rfl rfl (f_guard hF 13 84 false true false rfl (by kernel_rfl) rfl rfl rfl) ?_
                  clear hF; clear a; intro a hF
                  refine f_skip hF 86 rfl rfl rfl (f_guard hF 13 84 false true false rfl (by kernel_rfl) rfl rfl rfl) ?_
                  clear hF; clear a; intro a hF
                  refine f_skip hF 87 rfl rfl rfl (f_guard hF 13 84 false true false rfl (by kernel_rfl) rfl rfl rfl) ?_
                  clear hF; clear a; intro a hF
                  refine f_skip hF 88 rfl rfl rfl (f_guard hF 13 84 false true false rfl (by kernel_rfl) rfl rfl rfl) ?_
                  clear hF; clear a; intro a hF
                  refine f_skip hF 89 rfl rfl rfl (f_guard hF 13 84 false true false rfl (by kernel_rfl) rfl rfl rfl) ?_
                  clear hF; clear a; intro a hF
                  refine f_skip hF 90 rfl rfl rfl (f_guard hF 13 84 false true false rfl (by kernel_rfl) rfl rfl rfl) ?_
                  clear hF; clear a; intro a hF
                  refine f_skip hF 91 rfl rfl rfl (f_guard hF 13 84 false true false rfl (by kernel_rfl) rfl rfl rfl) ?_
                  clear hF; clear a; intro a hF
                  refine f_skip hF 92 rfl rfl rfl (f_guard hF 13 84 false true false rfl (by kernel_rfl) rfl rfl rfl) ?_
                  clear hF; clear a; intro a hF
                  refine f_skip hF 93 rfl rfl rfl (f_guard hF 13 84 false true false rfl (by kernel_rfl) rfl rfl rfl) ?_
                  clear hF; clear a; intro a hF
                  refine f_skip hF 94 rfl rfl rfl (f_guard hF 13 84 false true false rfl (by kernel_rfl) rfl rfl rfl) ?_
                  clear hF; clear a; intro a hF
                  refine f_skip hF 95 rfl rfl rfl (f_guard hF 13 84 false true false rfl (by kernel_rfl) rfl rfl rfl) ?_
                  clear hF; clear a; intro a hF
                  refine f_skip hF 96 rfl rfl rfl (f_guard hF 13 84 false true false rfl (by kernel_rfl) rfl rfl rfl) ?_
                  clear hF; clear a; intro a hF
                  refine f_skip hF 97 rfl rfl rfl (f_guard hF 13 84 false true false rfl (by kernel_rfl) rfl rfl rfl) ?_
                  clear hF; clear a; intro a hF
                  refine f_skip hF 98 rfl rfl rfl (f_guard hF 13 84 false true false rfl (by kernel_rfl) rfl rfl rfl) ?_
                  clear hF; clear a; intro a hF
                  refine f_op hF 99 (.bool true) rfl rfl rfl (f_free rfl) (fun W hW => x_pick rfl true (hF.eval 84 rfl) rfl) ?_
                  clear hF; clear a; intro a hF
                  refine f_op hF 100 (.bool true) rfl rfl rfl (f_free rfl) (fun W hW => x_move rfl (hF.eval 99 rfl)) ?_
                  clear hF; clear a; intro a hF
                  refine f_skip hF 101 rfl rfl rfl (f_guard hF 29 100 false true false rfl (by kernel_rfl) rfl rfl rfl) ?_
                  clear hF; clear a; intro a hF
                  refine f_skip hF 102 rfl rfl rfl (f_guard hF 29 100 false true false rfl (by kernel_rfl) rfl rfl rfl) ?_
                  clear hF; clear a; intro a hF
                  refine f_skip hF 103 rfl rfl rfl (f_guard hF 29 100 false true false rfl (by kernel_rfl) rfl rfl rfl) ?_
                  clear hF; clear a; intro a hF
                  refine f_skip hF 104 rfl rfl rfl (f_guard hF 29 100 false true false rfl (by kernel_rfl) rfl rfl rfl) ?_
                  clear hF; clear a; intro a hF
                  refine f_skip hF 105 rfl rfl rfl (f_guard hF 29 100 false true false rfl (by kernel_rfl) rfl rfl rfl) ?_
                  clear hF; clear a; intro a hF
                  refine f_skip hF 106 rfl rfl rfl (f_guard hF 29 100 false true false rfl (by kernel_rfl) rfl rfl rfl) ?_
                  clear hF; clear a; intro a hF
                  refine f_skip hF 107 rfl rfl rfl (f_guard hF 29 100 false true false rfl (by kernel_rfl) rfl rfl rfl) ?_
                  clear hF; clear a; intro a hF
                  refine f_skip hF 108 rfl rfl rfl (f_guard hF 29 100 false true false rfl (by kernel_rfl) rfl rfl rfl) ?_
                  clear hF; clear a; intro a hF
                  refine f_skip hF 109 rfl rfl rfl (f_guard hF 29 100 false true false rfl (by kernel_rfl) rfl rfl rfl) ?_
                  clear hF; clear a; intro a hF
                  refine f_skip hF 110 rfl rfl rfl (f_guard hF 29 100 false true false rfl (by kernel_rfl) rfl rfl rfl) ?_
                  clear hF; clear a; intro a hF
                  refine f_skip hF 111 rfl rfl rfl (f_guard hF 29 100 false true false rfl (by kernel_rfl) rfl rfl rfl) ?_
                  clear hF; clear a; intro a hF
                  refine f_skip hF 112 rfl rfl rfl (f_guard hF 29 100 false true false rfl (by kernel_rfl) rfl rfl rfl) ?_
                  clear hF; clear a; intro a hF
                  refine f_skip hF 113 rfl rfl rfl (f_guard hF 29 100 false true false rfl (by kernel_rfl) rfl rfl rfl) ?_
                  clear hF; clear a; intro a hF
                  refine f_skip hF 114 rfl rfl rfl (f_guard hF 29 100 false true false rfl (by kernel_rfl) rfl rfl rfl) ?_
                  clear hF; clear a; intro a hF
                  refine f_op hF 115 (.bool true) rfl rfl rfl (f_free rfl) (fun W hW => x_pick rfl true (hF.eval 100 rfl) rfl) ?_
                  clear hF; clear a; intro a hF
                  refine wpQuiet_nil ?_
                  intro w' h8
                  obtain ⟨u, e, hu⟩ := hF.last45 rfl rfl
                  clear hF
                  subst e
                  rw [hu, HL0.out, HDS.out]
                  clear hu HL0 HDS
                  simp only [List.take_succ_cons, List.take_zero, List.cons_append, List.nil_append]
                  go_wp2_with fail
                  go_ret
                  exact ⟨ret_bool HR.out.symm, h8.bl⟩
                subst hnm
                cases hE1 : eqB na1 na2 with
                | false =>
                  have HR := Lib.hid (HDa.out (fun e => eqB_no hE1 (by injection e)))
                  have E1 := Lib.hid hE1; clear hE1
                  go_wp2_with fail
                  clear c4' d4' p1 p2 p3 z1 z2 z3
                  refine region_q (C := He w bx by_ OX OY (Value.slice (some ⟨G1, O1, none⟩) as1.length ca) (Value.slice (some ⟨G2, O2, none⟩) as1.length ea) G1 (O1 + q * 3) G2 (O2 + q * 3) nm1 nm1 (Value.slice An na1.length cn) (Value.slice Av va1.length cv) (Value.slice Dn na2.length en) (Value.slice Dv va2.length ev)) (by kernel_rfl) (by kernel_rfl) H3 ?_
                  refine f_start 71 116 [(6, .pointer (some ⟨bx, 0, none⟩)), (7, .pointer (some ⟨by_, 0, none⟩)), (8, .int .i64 (q : Int))] ⟨rfl, rfl, rfl, fun j v hj => ?_⟩ ?_
                  · exact start3 hj rfl rfl rfl
                  intro a l0 ds hl0 hds hF
                  have HL0 := Lib.hid hl0; have HDS := Lib.hid hds; clear hl0 hds
                  refine f_op hF 71 (.pointer (some ⟨bx, 4, none⟩)) rfl rfl rfl (f_free rfl) (fun W hW => x_fieldN 4 (by decide) rfl (hF.eval 6 rfl)) ?_
                  clear hF; clear a; intro a hF
                  refine f_op hF 72 (Value.slice (some ⟨G1, O1, none⟩) as1.length ca) rfl rfl rfl (f_free rfl) (fun W hW => x_loadA rfl (hF.eval 71 rfl) hW.x4) ?_
                  clear hF; clear a; intro a hF
                  refine f_op hF 73 (.int .i64 (q : Int)) rfl rfl rfl (f_free rfl) (fun W hW => x_move rfl (hF.eval 8 rfl)) ?_
                  clear hF; clear a; intro a hF
                  refine f_op hF 74 (.pointer (some ⟨G1, O1 + q * 3, none⟩)) rfl rfl rfl (f_free rfl) (fun W hW => x_indexA rfl (hF.eval 72 rfl) (hF.eval 73 rfl) hqa) ?_
                  clear hF; clear a; intro a hF
                  refine f_op hF 75 (.pointer (some ⟨G1, O1 + q * 3, none⟩)) rfl rfl rfl (f_free rfl) (fun W hW => x_fieldA 0 (by decide) rfl (hF.eval 74 rfl)) ?_
                  clear hF; clear a; intro a hF
                  refine f_op hF 76 (.bool nm1) rfl rfl rfl (f_free rfl) (fun W hW => x_loadB rfl (hF.eval 75 rfl) hW.a0) ?_
                  clear hF; clear a; intro a hF
                  refine f_op hF 77 (.pointer (some ⟨by_, 4, none⟩)) rfl rfl rfl (f_free rfl) (fun W hW => x_fieldN 4 (by decide) rfl (hF.eval 7 rfl)) ?_
                  clear hF; clear a; intro a hF
                  refine f_op hF 78 (Value.slice (some ⟨G2, O2, none⟩) as1.length ea) rfl rfl rfl (f_free rfl) (fun W hW => x_loadA rfl (hF.eval 77 rfl) hW.y4) ?_
                  clear hF; clear a; intro a hF
                  refine f_op hF 79 (.int .i64 (q : Int)) rfl rfl rfl (f_free rfl) (fun W hW => x_move rfl (hF.eval 8 rfl)) ?_
                  clear hF; clear a; intro a hF
                  refine f_op hF 80 (.pointer (some ⟨G2, O2 + q * 3, none⟩)) rfl rfl rfl (f_free rfl) (fun W hW => x_indexA rfl (hF.eval 78 rfl) (hF.eval 79 rfl) hqa) ?_
                  clear hF; clear a; intro a hF
                  refine f_op hF 81 (.pointer (some ⟨G2, O2 + q * 3, none⟩)) rfl rfl rfl (f_free rfl) (fun W hW => x_fieldA 0 (by decide) rfl (hF.eval 80 rfl)) ?_
                  clear hF; clear a; intro a hF
                  refine f_op hF 82 (.bool nm1) rfl rfl rfl (f_free rfl) (fun W hW => x_loadB rfl (hF.eval 81 rfl) hW.b0) ?_
                  clear hF; clear a; intro a hF
                  refine f_op hF 83 (.bool false) rfl rfl rfl (f_free rfl) (fun W hW => x_neq rfl nm1 nm1 false (hF.eval 76 rfl) (hF.eval 82 rfl) (by simp)) ?_
                  clear hF; clear a; intro a hF
                  refine f_op hF 84 (.bool false) rfl rfl rfl (f_free rfl) (fun W hW => x_move rfl (hF.eval 83 rfl)) ?_
                  clear hF; clear a; intro a hF
                  refine f_op hF 85 (.pointer (some ⟨bx, 4, none⟩)) rfl rfl rfl (f_guard hF 13 84 false false true rfl (by kernel_rfl) rfl rfl rfl) (fun W hW => x_fieldN 4 (by decide) rfl (hF.eval 6 rfl)) ?_
                  clear hF; clear a; intro a hF
                  refine f_op hF 86 (Value.slice (some ⟨G1, O1, none⟩) as1.length ca) rfl rfl rfl (f_guard hF 13 84 false false true rfl (by kernel_rfl) rfl rfl rfl) (fun W hW => x_loadA rfl (hF.eval 85 rfl) hW.x4) ?_
                  clear hF; clear a; intro a hF
                  refine f_op hF 87 (.int .i64 (q : Int)) rfl rfl rfl (f_guard hF 13 84 false false true rfl (by kernel_rfl) rfl rfl rfl) (fun W hW => x_move rfl (hF.eval 8 rfl)) ?_
                  clear hF; clear a; intro a hF
                  refine f_op hF 88 (.pointer (some ⟨G1, O1 + q * 3, none⟩)) rfl rfl rfl (f_guard hF 13 84 false false true rfl (by kernel_rfl) rfl rfl rfl) (fun W hW => x_indexA rfl (hF.eval 86 rfl) (hF.eval 87 rfl) hqa) ?_
                  clear hF; clear a; intro a hF
                  refine f_op hF 89 (.pointer (some ⟨G1, O1 + q * 3 + 1, none⟩)) rfl rfl rfl (f_guard hF 13 84 false false true rfl (by kernel_rfl) rfl rfl rfl) (fun W hW => x_fieldA 1 (by decide) rfl (hF.eval 88 rfl)) ?_
                  clear hF; clear a; intro a hF
                  refine f_op hF 90 (Value.slice An na1.length cn) rfl rfl rfl (f_guard hF 13 84 false false true rfl (by kernel_rfl) rfl rfl rfl) (fun W hW => x_loadN rfl (hF.eval 89 rfl) hW.a1) ?_
                  clear hF; clear a; intro a hF
                  refine f_op hF 91 (.pointer (some ⟨by_, 4, none⟩)) rfl rfl rfl (f_guard hF 13 84 false false true rfl (by kernel_rfl) rfl rfl rfl) (fun W hW => x_fieldN 4 (by decide) rfl (hF.eval 7 rfl)) ?_
                  clear hF; clear a; intro a hF
                  refine f_op hF 92 (Value.slice (some ⟨G2, O2, none⟩) as1.length ea) rfl rfl rfl (f_guard hF 13 84 false false true rfl (by kernel_rfl) rfl rfl rfl) (fun W hW => x_loadA rfl (hF.eval 91 rfl) hW.y4) ?_
                  clear hF; clear a; intro a hF
                  refine f_op hF 93 (.int .i64 (q : Int)) rfl rfl rfl (f_guard hF 13 84 false false true rfl (by kernel_rfl) rfl rfl rfl) (fun W hW => x_move rfl (hF.eval 8 rfl)) ?_
                  clear hF; clear a; intro a hF
                  refine f_op hF 94 (.pointer (some ⟨G2, O2 + q * 3, none⟩)) rfl rfl rfl (f_guard hF 13 84 false false true rfl (by kernel_rfl) rfl rfl rfl) (fun W hW => x_indexA rfl (hF.eval 92 rfl) (hF.eval 93 rfl) hqa) ?_
                  clear hF; clear a; intro a hF
                  refine f_op hF 95 (.pointer (some ⟨G2, O2 + q * 3 + 1, none⟩)) rfl rfl rfl (f_guard hF 13 84 false false true rfl (by kernel_rfl) rfl rfl rfl) (fun W hW => x_fieldA 1 (by decide) rfl (hF.eval 94 rfl)) ?_
                  clear hF; clear a; intro a hF
                  refine f_op hF 96 (Value.slice Dn na2.length en) rfl rfl rfl (f_guard hF 13 84 false false true rfl (by kernel_rfl) rfl rfl rfl) (fun W hW => x_loadN rfl (hF.eval 95 rfl) hW.b1) ?_
                  clear hF; clear a; intro a hF
                  refine f_call hF 97 14 #[Value.slice An na1.length cn, Value.slice Dn na2.length en] (.bool false) rfl rfl rfl (f_guard hF 13 84 false false true rfl (by kernel_rfl) rfl rfl rfl) (fun W hW => x_call2 rfl rfl (hF.eval 90 rfl) (hF.eval 96 rfl)) (fun W hW => eq_he hL hW HN.out.1 HN.out.2 hB E1.out) ?_
                  clear hF; clear a; intro a hF
                  refine f_op hF 98 (.bool true) rfl rfl rfl (f_guard hF 13 84 false false true rfl (by kernel_rfl) rfl rfl rfl) (fun W hW => x_not rfl false true (hF.eval 97 rfl) rfl) ?_
                  clear hF; clear a; intro a hF
                  refine f_op hF 99 (.bool true) rfl rfl rfl (f_free rfl) (fun W hW => x_pick rfl false (hF.eval 84 rfl) (hF.eval 98 rfl)) ?_
                  clear hF; clear a; intro a hF
                  refine f_op hF 100 (.bool true) rfl rfl rfl (f_free rfl) (fun W hW => x_move rfl (hF.eval 99 rfl)) ?_
                  clear hF; clear a; intro a hF
                  refine f_skip hF 101 rfl rfl rfl (f_guard hF 29 100 false true false rfl (by kernel_rfl) rfl rfl rfl) ?_
                  clear hF; clear a; intro a hF
                  refine f_skip hF 102 rfl rfl rfl (f_guard hF 29 100 false true false rfl (by kernel_rfl) rfl rfl rfl) ?_
                  clear hF; clear a; intro a hF
                  refine f_skip hF 103 rfl rfl rfl (f_guard hF 29 100 false true false rfl (by kernel_rfl) rfl rfl rfl) ?_
                  clear hF; clear a; intro a hF
                  refine f_skip hF 104 rfl rfl rfl (f_guard hF 29 100 false true false rfl (by kernel_rfl) rfl rfl rfl) ?_
                  clear hF; clear a; intro a hF
                  refine f_skip hF 105 rfl rfl rfl (f_guard hF 29 100 false true false rfl (by kernel_rfl) rfl rfl rfl) ?_
                  clear hF; clear a; intro a hF
                  refine f_skip hF 106 rfl rfl rfl (f_guard hF 29 100 false true false rfl (by kernel_rfl) rfl rfl rfl) ?_
                  clear hF; clear a; intro a hF
                  refine f_skip hF 107 rfl rfl rfl (f_guard hF 29 100 false true false rfl (by kernel_rfl) rfl rfl rfl) ?_
                  clear hF; clear a; intro a hF
                  refine f_skip hF 108 rfl rfl rfl (f_guard hF 29 100 false true false rfl (by kernel_rfl) rfl rfl rfl) ?_
                  clear hF; clear a; intro a hF
                  refine f_skip hF 109 rfl rfl rfl (f_guard hF 29 100 false true false rfl (by kernel_rfl) rfl rfl rfl) ?_
                  clear hF; clear a; intro a hF
                  refine f_skip hF 110 rfl rfl rfl (f_guard hF 29 100 false true false rfl (by kernel_rfl) rfl rfl rfl) ?_
                  clear hF; clear a; intro a hF
                  refine f_skip hF 111 rfl rfl rfl (f_guard hF 29 100 false true false rfl (by kernel_rfl) rfl rfl rfl) ?_
                  clear hF; clear a; intro a hF
                  refine f_skip hF 112 rfl rfl rfl (f_guard hF 29 100 false true false rfl (by kernel_rfl) rfl rfl rfl) ?_
                  clear hF; clear a; intro a hF
                  refine f_skip hF 113 rfl rfl rfl (f_guard hF 29 100 false true false rfl (by kernel_rfl) rfl rfl rfl) ?_
                  clear hF; clear a; intro a hF
                  refine f_skip hF 114 rfl rfl rfl (f_guard hF 29 100 false true false rfl (by kernel_rfl) rfl rfl rfl) ?_
                  clear hF; clear a; intro a hF
                  refine f_op hF 115 (.bool true) rfl rfl rfl (f_free rfl) (fun W hW => x_pick rfl true (hF.eval 100 rfl) rfl) ?_
                  clear hF; clear a; intro a hF
                  refine wpQuiet_nil ?_
                  intro w' h8
                  obtain ⟨u, e, hu⟩ := hF.last45 rfl rfl
                  clear hF
                  subst e
                  rw [hu, HL0.out, HDS.out]
                  clear hu HL0 HDS
                  simp only [List.take_succ_cons, List.take_zero, List.cons_append, List.nil_append]
                  go_wp2_with fail
                  go_ret
                  exact ⟨ret_bool HR.out.symm, h8.bl⟩
                | true =>
                  have E1 := Lib.hid hE1; have HE1 := Lib.hid (eqB_iff.1 hE1); clear hE1
                  cases hE2 : eqB va1 va2 with
                  | false =>
                    have HR := Lib.hid (HDa.out (fun e => eqB_no hE2 (by injection e)))
                    have E2 := Lib.hid hE2; clear hE2
                    go_wp2_with fail
                    clear c4' d4' p1 p2 p3 z1 z2 z3
                    refine region_q (C := He w bx by_ OX OY (Value.slice (some ⟨G1, O1, none⟩) as1.length ca) (Value.slice (some ⟨G2, O2, none⟩) as1.length ea) G1 (O1 + q * 3) G2 (O2 + q * 3) nm1 nm1 (Value.slice An na1.length cn) (Value.slice Av va1.length cv) (Value.slice Dn na2.length en) (Value.slice Dv va2.length ev)) (by kernel_rfl) (by kernel_rfl) H3 ?_
                    refine f_start 71 116 [(6, .pointer (some ⟨bx, 0, none⟩)), (7, .pointer (some ⟨by_, 0, none⟩)), (8, .int .i64 (q : Int))] ⟨rfl, rfl, rfl, fun j v hj => ?_⟩ ?_
                    · exact start3 hj rfl rfl rfl
                    intro a l0 ds hl0 hds hF
                    have HL0 := Lib.hid hl0; have HDS := Lib.hid hds; clear hl0 hds
                    refine f_op hF 71 (.pointer (some ⟨bx, 4, none⟩)) rfl rfl rfl (f_free rfl) (fun W hW => x_fieldN 4 (by decide) rfl (hF.eval 6 rfl)) ?_
                    clear hF; clear a; intro a hF
                    refine f_op hF 72 (Value.slice (some ⟨G1, O1, none⟩) as1.length ca) rfl rfl rfl (f_free rfl) (fun W hW => x_loadA rfl (hF.eval 71 rfl) hW.x4) ?_
                    clear hF; clear a; intro a hF
                    refine f_op hF 73 (.int .i64 (q : Int)) rfl rfl rfl (f_free rfl) (fun W hW => x_move rfl (hF.eval 8 rfl)) ?_
                    clear hF; clear a; intro a hF
                    refine f_op hF 74 (.pointer (some ⟨G1, O1 + q * 3, none⟩)) rfl rfl rfl (f_free rfl) (fun W hW => x_indexA rfl (hF.eval 72 rfl) (hF.eval 73 rfl) hqa) ?_
                    clear hF; clear a; intro a hF
                    refine f_op hF 75 (.pointer (some ⟨G1, O1 + q * 3, none⟩)) rfl rfl rfl (f_free rfl) (fun W hW => x_fieldA 0 (by decide) rfl (hF.eval 74 rfl)) ?_
                    clear hF; clear a; intro a hF
                    refine f_op hF 76 (.bool nm1) rfl rfl rfl (f_free rfl) (fun W hW => x_loadB rfl (hF.eval 75 rfl) hW.a0) ?_
                    clear hF; clear a; intro a hF
                    refine f_op hF 77 (.pointer (some ⟨by_, 4, none⟩)) rfl rfl rfl (f_free rfl) (fun W hW => x_fieldN 4 (by decide) rfl (hF.eval 7 rfl)) ?_
                    clear hF; clear a; intro a hF
                    refine f_op hF 78 (Value.slice (some ⟨G2, O2, none⟩) as1.length ea) rfl rfl rfl (f_free rfl) (fun W hW => x_loadA rfl (hF.eval 77 rfl) hW.y4) ?_
                    clear hF; clear a; intro a hF
                    refine f_op hF 79 (.int .i64 (q : Int)) rfl rfl rfl (f_free rfl) (fun W hW => x_move rfl (hF.eval 8 rfl)) ?_
                    clear hF; clear a; intro a hF
                    refine f_op hF 80 (.pointer (some ⟨G2, O2 + q * 3, none⟩)) rfl rfl rfl (f_free rfl) (fun W hW => x_indexA rfl (hF.eval 78 rfl) (hF.eval 79 rfl) hqa) ?_
                    clear hF; clear a; intro a hF
                    refine f_op hF 81 (.pointer (some ⟨G2, O2 + q * 3, none⟩)) rfl rfl rfl (f_free rfl) (fun W hW => x_fieldA 0 (by decide) rfl (hF.eval 80 rfl)) ?_
                    clear hF; clear a; intro a hF
                    refine f_op hF 82 (.bool nm1) rfl rfl rfl (f_free rfl) (fun W hW => x_loadB rfl (hF.eval 81 rfl) hW.b0) ?_
                    clear hF; clear a; intro a hF
                    refine f_op hF 83 (.bool false) rfl rfl rfl (f_free rfl) (fun W hW => x_neq rfl nm1 nm1 false (hF.eval 76 rfl) (hF.eval 82 rfl) (by simp)) ?_
                    clear hF; clear a; intro a hF
                    refine f_op hF 84 (.bool false) rfl rfl rfl (f_free rfl) (fun W hW => x_move rfl (hF.eval 83 rfl)) ?_
                    clear hF; clear a; intro a hF
                    refine f_op hF 85 (.pointer (some ⟨bx, 4, none⟩)) rfl rfl rfl (f_guard hF 13 84 false false true rfl (by kernel_rfl) rfl rfl rfl) (fun W hW => x_fieldN 4 (by decide) rfl (hF.eval 6 rfl)) ?_
                    clear hF; clear a; intro a hF
                    refine f_op hF 86 (Value.slice (some ⟨G1, O1, none⟩) as1.length ca) rfl rfl rfl (f_guard hF 13 84 false false true rfl (by kernel_rfl) rfl rfl rfl) (fun W hW => x_loadA rfl (hF.eval 85 rfl) hW.x4) ?_
                    clear hF; clear a; intro a hF
                    refine f_op hF 87 (.int .i64 (q : Int)) rfl rfl rfl (f_guard hF 13 84 false false true rfl (by kernel_rfl) rfl rfl rfl) (fun W hW => x_move rfl (hF.eval 8 rfl)) ?_
                    clear hF; clear a; intro a hF
                    refine f_op hF 88 (.pointer (some ⟨G1, O1 + q * 3, none⟩)) rfl rfl rfl (f_guard hF 13 84 false false true rfl (by kernel_rfl) rfl rfl rfl) (fun W hW => x_indexA rfl (hF.eval 86 rfl) (hF.eval 87 rfl) hqa) ?_
                    clear hF; clear a; intro a hF
                    refine f_op hF 89 (.pointer (some ⟨G1, O1 + q * 3 + 1, none⟩)) rfl rfl rfl (f_guard hF 13 84 false false true rfl (by kernel_rfl) rfl rfl rfl) (fun W hW => x_fieldA 1 (by decide) rfl (hF.eval 88 rfl)) ?_
                    clear hF; clear a; intro a hF
                    refine f_op hF 90 (Value.slice An na1.length cn) rfl rfl rfl (f_guard hF 13 84 false false true rfl (by kernel_rfl) rfl rfl rfl) (fun W hW => x_loadN rfl (hF.eval 89 rfl) hW.a1) ?_
                    clear hF; clear a; intro a hF
                    refine f_op hF 91 (.pointer (some ⟨by_, 4, none⟩)) rfl rfl rfl (f_guard hF 13 84 false false true rfl (by kernel_rfl) rfl rfl rfl) (fun W hW => x_fieldN 4 (by decide) rfl (hF.eval 7 rfl)) ?_
                    clear hF; clear a; intro a hF
                    refine f_op hF 92 (Value.slice (some ⟨G2, O2, none⟩) as1.length ea) rfl rfl rfl (f_guard hF 13 84 false false true rfl (by kernel_rfl) rfl rfl rfl) (fun W hW => x_loadA rfl (hF.eval 91 rfl) hW.y4) ?_
                    clear hF; clear a; intro a hF
                    refine f_op hF 93 (.int .i64 (q : Int)) rfl rfl rfl (f_guard hF 13 84 false false true rfl (by kernel_rfl) rfl rfl rfl) (fun W hW => x_move rfl (hF.eval 8 rfl)) ?_
                    clear hF; clear a; intro a hF
                    refine f_op hF 94 (.pointer (some ⟨G2, O2 + q * 3, none⟩)) rfl rfl rfl (f_guard hF 13 84 false false true rfl (by kernel_rfl) rfl rfl rfl) (fun W hW => x_indexA rfl (hF.eval 92 rfl) (hF.eval 93 rfl) hqa) ?_
                    clear hF; clear a; intro a hF
                    refine f_op hF 95 (.pointer (some ⟨G2, O2 + q * 3 + 1, none⟩)) rfl rfl rfl (f_guard hF 13 84 false false true rfl (by kernel_rfl) rfl rfl rfl) (fun W hW => x_fieldA 1 (by decide) rfl (hF.eval 94 rfl)) ?_
                    clear hF; clear a; intro a hF
                    refine f_op hF 96 (Value.slice Dn na2.length en) rfl rfl rfl (f_guard hF 13 84 false false true rfl (by kernel_rfl) rfl rfl rfl) (fun W hW => x_loadN rfl (hF.eval 95 rfl) hW.b1) ?_
                    clear hF; clear a; intro a hF
                    refine f_call hF 97 14 #[Value.slice An na1.length cn, Value.slice Dn na2.length en] (.bool true) rfl rfl rfl (f_guard hF 13 84 false false true rfl (by kernel_rfl) rfl rfl rfl) (fun W hW => x_call2 rfl rfl (hF.eval 90 rfl) (hF.eval 96 rfl)) (fun W hW => eq_he hL hW HN.out.1 HN.out.2 hB E1.out) ?_
                    clear hF; clear a; intro a hF
                    refine f_op hF 98 (.bool false) rfl rfl rfl (f_guard hF 13 84 false false true rfl (by kernel_rfl) rfl rfl rfl) (fun W hW => x_not rfl true false (hF.eval 97 rfl) rfl) ?_
                    clear hF; clear a; intro a hF
                    refine f_op hF 99 (.bool false) rfl rfl rfl (f_free rfl) (fun W hW => x_pick rfl false (hF.eval 84 rfl) (hF.eval 98 rfl)) ?_
                    clear hF; clear a; intro a hF
                    refine f_op hF 100 (.bool false) rfl rfl rfl (f_free rfl) (fun W hW => x_move rfl (hF.eval 99 rfl)) ?_
                    clear hF; clear a; intro a hF
                    refine f_op hF 101 (.pointer (some ⟨bx, 4, none⟩)) rfl rfl rfl (f_guard hF 29 100 false false true rfl (by kernel_rfl) rfl rfl rfl) (fun W hW => x_fieldN 4 (by decide) rfl (hF.eval 6 rfl)) ?_
                    clear hF; clear a; intro a hF
                    refine f_op hF 102 (Value.slice (some ⟨G1, O1, none⟩) as1.length ca) rfl rfl rfl (f_guard hF 29 100 false false true rfl (by kernel_rfl) rfl rfl rfl) (fun W hW => x_loadA rfl (hF.eval 101 rfl) hW.x4) ?_
                    clear hF; clear a; intro a hF
                    refine f_op hF 103 (.int .i64 (q : Int)) rfl rfl rfl (f_guard hF 29 100 false false true rfl (by kernel_rfl) rfl rfl rfl) (fun W hW => x_move rfl (hF.eval 8 rfl)) ?_
                    clear hF; clear a; intro a hF
                    refine f_op hF 104 (.pointer (some ⟨G1, O1 + q * 3, none⟩)) rfl rfl rfl (f_guard hF 29 100 false false true rfl (by kernel_rfl) rfl rfl rfl) (fun W hW => x_indexA rfl (hF.eval 102 rfl) (hF.eval 103 rfl) hqa) ?_
                    clear hF; clear a; intro a hF
                    refine f_op hF 105 (.pointer (some ⟨G1, O1 + q * 3 + 2, none⟩)) rfl rfl rfl (f_guard hF 29 100 false false true rfl (by kernel_rfl) rfl rfl rfl) (fun W hW => x_fieldA 2 (by decide) rfl (hF.eval 104 rfl)) ?_
                    clear hF; clear a; intro a hF
                    refine f_op hF 106 (Value.slice Av va1.length cv) rfl rfl rfl (f_guard hF 29 100 false false true rfl (by kernel_rfl) rfl rfl rfl) (fun W hW => x_loadN rfl (hF.eval 105 rfl) hW.a2) ?_
                    clear hF; clear a; intro a hF
                    refine f_op hF 107 (.pointer (some ⟨by_, 4, none⟩)) rfl rfl rfl (f_guard hF 29 100 false false true rfl (by kernel_rfl) rfl rfl rfl) (fun W hW => x_fieldN 4 (by decide) rfl (hF.eval 7 rfl)) ?_
                    clear hF; clear a; intro a hF
                    refine f_op hF 108 (Value.slice (some ⟨G2, O2, none⟩) as1.length ea) rfl rfl rfl (f_guard hF 29 100 false false true rfl (by kernel_rfl) rfl rfl rfl) (fun W hW => x_loadA rfl (hF.eval 107 rfl) hW.y4) ?_
                    clear hF; clear a; intro a hF
                    refine f_op hF 109 (.int .i64 (q : Int)) rfl rfl rfl (f_guard hF 29 100 false false true rfl (by kernel_rfl) rfl rfl rfl) (fun W hW => x_move rfl (hF.eval 8 rfl)) ?_
                    clear hF; clear a; intro a hF
                    refine f_op hF 110 (.pointer (some ⟨G2, O2 + q * 3, none⟩)) rfl rfl rfl (f_guard hF 29 100 false false true rfl (by kernel_rfl) rfl rfl rfl) (fun W hW => x_indexA rfl (hF.eval 108 rfl) (hF.eval 109 rfl) hqa) ?_
                    clear hF; clear a; intro a hF
                    refine f_op hF 111 (.pointer (some ⟨G2, O2 + q * 3 + 2, none⟩)) rfl rfl rfl (f_guard hF 29 100 false false true rfl (by kernel_rfl) rfl rfl rfl) (fun W hW => x_fieldA 2 (by decide) rfl (hF.eval 110 rfl)) ?_
                    clear hF; clear a; intro a hF
                    refine f_op hF 112 (Value.slice Dv va2.length ev) rfl rfl rfl (f_guard hF 29 100 false false true rfl (by kernel_rfl) rfl rfl rfl) (fun W hW => x_loadN rfl (hF.eval 111 rfl) hW.b2) ?_
                    clear hF; clear a; intro a hF
                    refine f_call hF 113 14 #[Value.slice Av va1.length cv, Value.slice Dv va2.length ev] (.bool false) rfl rfl rfl (f_guard hF 29 100 false false true rfl (by kernel_rfl) rfl rfl rfl) (fun W hW => x_call2 rfl rfl (hF.eval 106 rfl) (hF.eval 112 rfl)) (fun W hW => eq_he hL hW HV.out.1 HV.out.2 hB E2.out) ?_
                    clear hF; clear a; intro a hF
                    refine f_op hF 114 (.bool true) rfl rfl rfl (f_guard hF 29 100 false false true rfl (by kernel_rfl) rfl rfl rfl) (fun W hW => x_not rfl false true (hF.eval 113 rfl) rfl) ?_
                    clear hF; clear a; intro a hF
                    refine f_op hF 115 (.bool true) rfl rfl rfl (f_free rfl) (fun W hW => x_pick rfl false (hF.eval 100 rfl) (hF.eval 114 rfl)) ?_
                    clear hF; clear a; intro a hF
                    refine wpQuiet_nil ?_
                    intro w' h8
                    obtain ⟨u, e, hu⟩ := hF.last45 rfl rfl
                    clear hF
                    subst e
                    rw [hu, HL0.out, HDS.out]
                    clear hu HL0 HDS
                    simp only [List.take_succ_cons, List.take_zero, List.cons_append, List.nil_append]
                    go_wp2_with fail
                    go_ret
                    exact ⟨ret_bool HR.out.symm, h8.bl⟩
                  | true =>
                    have E2 := Lib.hid hE2; have HE2 := Lib.hid (eqB_iff.1 hE2); clear hE2
                    go_wp2_with fail
                    clear c4' d4' p1 p2 p3 z1 z2 z3
                    refine region_q (C := He w bx by_ OX OY (Value.slice (some ⟨G1, O1, none⟩) as1.length ca) (Value.slice (some ⟨G2, O2, none⟩) as1.length ea) G1 (O1 + q * 3) G2 (O2 + q * 3) nm1 nm1 (Value.slice An na1.length cn) (Value.slice Av va1.length cv) (Value.slice Dn na2.length en) (Value.slice Dv va2.length ev)) (by kernel_rfl) (by kernel_rfl) H3 ?_
                    refine f_start 71 116 [(6, .pointer (some ⟨bx, 0, none⟩)), (7, .pointer (some ⟨by_, 0, none⟩)), (8, .int .i64 (q : Int))] ⟨rfl, rfl, rfl, fun j v hj => ?_⟩ ?_
                    · exact start3 hj rfl rfl rfl
                    intro a l0 ds hl0 hds hF
                    have HL0 := Lib.hid hl0; have HDS := Lib.hid hds; clear hl0 hds
                    refine f_op hF 71 (.pointer (some ⟨bx, 4, none⟩)) rfl rfl rfl (f_free rfl) (fun W hW => x_fieldN 4 (by decide) rfl (hF.eval 6 rfl)) ?_
                    clear hF; clear a; intro a hF
                    refine f_op hF 72 (Value.slice (some ⟨G1, O1, none⟩) as1.length ca) rfl rfl rfl (f_free rfl) (fun W hW => x_loadA rfl (hF.eval 71 rfl) hW.x4) ?_
                    clear hF; clear a; intro a hF
                    refine f_op hF 73 (.int .i64 (q : Int)) rfl rfl rfl (f_free rfl) (fun W hW => x_move rfl (hF.eval 8 rfl)) ?_
                    clear hF; clear a; intro a hF
                    refine f_op hF 74 (.pointer (some ⟨G1, O1 + q * 3, none⟩)) rfl rfl rfl (f_free rfl) (fun W hW => x_indexA rfl (hF.eval 72 rfl) (hF.eval 73 rfl) hqa) ?_
                    clear hF; clear a; intro a hF
                    refine f_op hF 75 (.pointer (some ⟨G1, O1 + q * 3, none⟩)) rfl rfl rfl (f_free rfl) (fun W hW => x_fieldA 0 (by decide) rfl (hF.eval 74 rfl)) ?_
                    clear hF; clear a; intro a hF
                    refine f_op hF 76 (.bool nm1) rfl rfl rfl (f_free rfl) (fun W hW => x_loadB rfl (hF.eval 75 rfl) hW.a0) ?_
                    clear hF; clear a; intro a hF
                    refine f_op hF 77 (.pointer (some ⟨by_, 4, none⟩)) rfl rfl rfl (f_free rfl) (fun W hW => x_fieldN 4 (by decide) rfl (hF.eval 7 rfl)) ?_
                    clear hF; clear a; intro a hF
                    refine f_op hF 78 (Value.slice (some ⟨G2, O2, none⟩) as1.length ea) rfl rfl rfl (f_free rfl) (fun W hW => x_loadA rfl (hF.eval 77 rfl) hW.y4) ?_
                    clear hF; clear a; intro a hF
                    refine f_op hF 79 (.int .i64 (q : Int)) rfl rfl rfl (f_free rfl) (fun W hW => x_move rfl (hF.eval 8 rfl)) ?_
                    clear hF; clear a; intro a hF
                    refine f_op hF 80 (.pointer (some ⟨G2, O2 + q * 3, none⟩)) rfl rfl rfl (f_free rfl) (fun W hW => x_indexA rfl (hF.eval 78 rfl) (hF.eval 79 rfl) hqa) ?_
                    clear hF; clear a; intro a hF
                    refine f_op hF 81 (.pointer (some ⟨G2, O2 + q * 3, none⟩)) rfl rfl rfl (f_free rfl) (fun W hW => x_fieldA 0 (by decide) rfl (hF.eval 80 rfl)) ?_
                    clear hF; clear a; intro a hF
                    refine f_op hF 82 (.bool nm1) rfl rfl rfl (f_free rfl) (fun W hW => x_loadB rfl (hF.eval 81 rfl) hW.b0) ?_
                    clear hF; clear a; intro a hF
                    refine f_op hF 83 (.bool false) rfl rfl rfl (f_free rfl) (fun W hW => x_neq rfl nm1 nm1 false (hF.eval 76 rfl) (hF.eval 82 rfl) (by simp)) ?_
                    clear hF; clear a; intro a hF
                    refine f_op hF 84 (.bool false) rfl rfl rfl (f_free rfl) (fun W hW => x_move rfl (hF.eval 83 rfl)) ?_
                    clear hF; clear a; intro a hF
                    refine f_op hF 85 (.pointer (some ⟨bx, 4, none⟩)) rfl rfl rfl (f_guard hF 13 84 false false true rfl (by kernel_rfl) rfl rfl rfl) (fun W hW => x_fieldN 4 (by decide) rfl (hF.eval 6 rfl)) ?_
                    clear hF; clear a; intro a hF
                    refine f_op hF 86 (Value.slice (some ⟨G1, O1, none⟩) as1.length ca) rfl rfl rfl (f_guard hF 13 84 false false true rfl (by kernel_rfl) rfl rfl rfl) (fun W hW => x_loadA rfl (hF.eval 85 rfl) hW.x4) ?_
                    clear hF; clear a; intro a hF
                    refine f_op hF 87 (.int .i64 (q : Int)) rfl rfl rfl (f_guard hF 13 84 false false true rfl (by kernel_rfl) rfl rfl rfl) (fun W hW => x_move rfl (hF.eval 8 rfl)) ?_
                    clear hF; clear a; intro a hF
                    refine f_op hF 88 (.pointer (some ⟨G1, O1 + q * 3, none⟩)) rfl rfl rfl (f_guard hF 13 84 false false true rfl (by kernel_rfl) rfl rfl rfl) (fun W hW => x_indexA rfl (hF.eval 86 rfl) (hF.eval 87 rfl) hqa) ?_
                    clear hF; clear a; intro a hF
                    refine f_op hF 89 (.pointer (some ⟨G1, O1 + q * 3 + 1, none⟩)) rfl rfl rfl (f_guard hF 13 84 false false true rfl (by kernel_rfl) rfl rfl rfl) (fun W hW => x_fieldA 1 (by decide) rfl (hF.eval 88 rfl)) ?_
                    clear hF; clear a; intro a hF
                    refine f_op hF 90 (Value.slice An na1.length cn) rfl rfl rfl (f_guard hF 13 84 false false true rfl (by kernel_rfl) rfl rfl rfl) (fun W hW => x_loadN rfl (hF.eval 89 rfl) hW.a1) ?_
                    clear hF; clear a; intro a hF
                    refine f_op hF 91 (.pointer (some ⟨by_, 4, none⟩)) rfl rfl rfl (f_guard hF 13 84 false false true rfl (by kernel_rfl) rfl rfl rfl) (fun W hW => x_fieldN 4 (by decide) rfl (hF.eval 7 rfl)) ?_
                    clear hF; clear a; intro a hF
                    refine f_op hF 92 (Value.slice (some ⟨G2, O2, none⟩) as1.length ea) rfl rfl rfl (f_guard hF 13 84 false false true rfl (by kernel_rfl) rfl rfl rfl) (fun W hW => x_loadA rfl (hF.eval 91 rfl) hW.y4) ?_
                    clear hF; clear a; intro a hF
                    refine f_op hF 93 (.int .i64 (q : Int)) rfl rfl rfl (f_guard hF 13 84 false false true rfl (by kernel_rfl) rfl rfl rfl) (fun W hW => x_move rfl (hF.eval 8 rfl)) ?_
                    clear hF; clear a; intro a hF
                    refine f_op hF 94 (.pointer (some ⟨G2, O2 + q * 3, none⟩)) rfl rfl rfl (f_guard hF 13 84 false false true rfl (by kernel_rfl) rfl rfl rfl) (fun W hW => x_indexA rfl (hF.eval 92 rfl) (hF.eval 93 rfl) hqa) ?_
                    clear hF; clear a; intro a hF
                    refine f_op hF 95 (.pointer (some ⟨G2, O2 + q * 3 + 1, none⟩)) rfl rfl rfl (f_guard hF 13 84 false false true rfl (by kernel_rfl) rfl rfl rfl) (fun W hW => x_fieldA 1 (by decide) rfl (hF.eval 94 rfl)) ?_
                    clear hF; clear a; intro a hF
                    refine f_op hF 96 (Value.slice Dn na2.length en) rfl rfl rfl (f_guard hF 13 84 false false true rfl (by kernel_rfl) rfl rfl rfl) (fun W hW => x_loadN rfl (hF.eval 95 rfl) hW.b1) ?_
                    clear hF; clear a; intro a hF
                    refine f_call hF 97 14 #[Value.slice An na1.length cn, Value.slice Dn na2.length en] (.bool true) rfl rfl rfl (f_guard hF 13 84 false false true rfl (by kernel_rfl) rfl rfl rfl) (fun W hW => x_call2 rfl rfl (hF.eval 90 rfl) (hF.eval 96 rfl)) (fun W hW => eq_he hL hW HN.out.1 HN.out.2 hB E1.out) ?_
                    clear hF; clear a; intro a hF
                    refine f_op hF 98 (.bool false) rfl rfl rfl (f_guard hF 13 84 false false true rfl (by kernel_rfl) rfl rfl rfl) (fun W hW => x_not rfl true false (hF.eval 97 rfl) rfl) ?_
                    clear hF; clear a; intro a hF
                    refine f_op hF 99 (.bool false) rfl rfl rfl (f_free rfl) (fun W hW => x_pick rfl false (hF.eval 84 rfl) (hF.eval 98 rfl)) ?_
                    clear hF; clear a; intro a hF
                    refine f_op hF 100 (.bool false) rfl rfl rfl (f_free rfl) (fun W hW => x_move rfl (hF.eval 99 rfl)) ?_
                    clear hF; clear a; intro a hF
                    refine f_op hF 101 (.pointer (some ⟨bx, 4, none⟩)) rfl rfl rfl (f_guard hF 29 100 false false true rfl (by kernel_rfl) rfl rfl rfl) (fun W hW => x_fieldN 4 (by decide) rfl (hF.eval 6 rfl)) ?_
                    clear hF; clear a; intro a hF
                    refine f_op hF 102 (Value.slice (some ⟨G1, O1, none⟩) as1.length ca) rfl rfl rfl (f_guard hF 29 100 false false true rfl (by kernel_rfl) rfl rfl rfl) (fun W hW => x_loadA rfl (hF.eval 101 rfl) hW.x4) ?_
                    clear hF; clear a; intro a hF
                    refine f_op hF 103 (.int .i64 (q : Int)) rfl rfl rfl (f_guard hF 29 100 false false true rfl (by kernel_rfl) rfl rfl rfl) (fun W hW => x_move rfl (hF.eval 8 rfl)) ?_
                    clear hF; clear a; intro a hF
                    refine f_op hF 104 (.pointer (some ⟨G1, O1 + q * 3, none⟩)) rfl rfl rfl (f_guard hF 29 100 false false true rfl (by kernel_rfl) rfl rfl rfl) (fun W hW => x_indexA rfl (hF.eval 102 rfl) (hF.eval 103 rfl) hqa) ?_
                    clear hF; clear a; intro a hF
                    refine f_op hF 105 (.pointer (some ⟨G1, O1 + q * 3 + 2, none⟩)) rfl rfl rfl (f_guard hF 29 100 false false true rfl (by kernel_rfl) rfl rfl rfl) (fun W hW => x_fieldA 2 (by decide) rfl (hF.eval 104 rfl)) ?_
                    clear hF; clear a; intro a hF
                    refine f_op hF 106 (Value.slice Av va1.length cv) rfl rfl rfl (f_guard hF 29 100 false false true rfl (by kernel_rfl) rfl rfl rfl) (fun W hW => x_loadN rfl (hF.eval 105 rfl) hW.a2) ?_
                    clear hF; clear a; intro a hF
                    refine f_op hF 107 (.pointer (some ⟨by_, 4, none⟩)) rfl rfl rfl (f_guard hF 29 100 false false true rfl (by kernel_rfl) rfl rfl rfl) (fun W hW => x_fieldN 4 (by decide) rfl (hF.eval 7 rfl)) ?_
                    clear hF; clear a; intro a hF
                    refine f_op hF 108 (Value.slice (some ⟨G2, O2, none⟩) as1.length ea) rfl rfl rfl (f_guard hF 29 100 false false true rfl (by kernel_rfl) rfl rfl rfl) (fun W hW => x_loadA rfl (hF.eval 107 rfl) hW.y4) ?_
                    clear hF; clear a; intro a hF
                    refine f_op hF 109 (.int .i64 (q : Int)) rfl rfl rfl (f_guard hF 29 100 false false true rfl (by kernel_rfl) rfl rfl rfl) (fun W hW => x_move rfl (hF.eval 8 rfl)) ?_
                    clear hF; clear a; intro a hF
                    refine f_op hF 110 (.pointer (some ⟨G2, O2 + q * 3, none⟩)) rfl rfl rfl (f_guard hF 29 100 false false true rfl (by kernel_rfl) rfl rfl rfl) (fun W hW => x_indexA rfl (hF.eval 108 rfl) (hF.eval 109 rfl) hqa) ?_
                    clear hF; clear a; intro a hF
                    refine f_op hF 111 (.pointer (some ⟨G2, O2 + q * 3 + 2, none⟩)) rfl rfl rfl (f_guard hF 29 100 false false true rfl (by kernel_rfl) rfl rfl rfl) (fun W hW => x_fieldA 2 (by decide) rfl (hF.eval 110 rfl)) ?_
                    clear hF; clear a; intro a hF
                    refine f_op hF 112 (Value.slice Dv va2.length ev) rfl rfl rfl (f_guard hF 29 100 false false true rfl (by kernel_rfl) rfl rfl rfl) (fun W hW => x_loadN rfl (hF.eval 111 rfl) hW.b2) ?_
                    clear hF; clear a; intro a hF
                    refine f_call hF 113 14 #[Value.slice Av va1.length cv, Value.slice Dv va2.length ev] (.bool true) rfl rfl rfl (f_guard hF 29 100 false false true rfl (by kernel_rfl) rfl rfl rfl) (fun W hW => x_call2 rfl rfl (hF.eval 106 rfl) (hF.eval 112 rfl)) (fun W hW => eq_he hL hW HV.out.1 HV.out.2 hB E2.out) ?_
                    clear hF; clear a; intro a hF
                    refine f_op hF 114 (.bool false) rfl rfl rfl (f_guard hF 29 100 false false true rfl (by kernel_rfl) rfl rfl rfl) (fun W hW => x_not rfl true false (hF.eval 113 rfl) rfl) ?_
                    clear hF; clear a; intro a hF
                    refine f_op hF 115 (.bool false) rfl rfl rfl (f_free rfl) (fun W hW => x_pick rfl false (hF.eval 100 rfl) (hF.eval 114 rfl)) ?_
                    clear hF; clear a; intro a hF
                    refine wpQuiet_nil ?_
                    intro w' h8
                    obtain ⟨u, e, hu⟩ := hF.last45 rfl rfl
                    clear hF
                    subst e
                    rw [hu, HL0.out, HDS.out]
                    clear hu HL0 HDS
                    simp only [List.take_succ_cons, List.take_zero, List.cons_append, List.nil_append]
                    have HBq := Lib.hid (show Below w.heap.size w w' ∧ w'.heap[bx]? = some OX ∧ w'.heap[by_]? = some OY from ⟨h8.bl, h8.hx, h8.hy⟩)
                    go_wp2_with fail
                    go_roundw
                    case rel => exact ⟨q + 1, by omega, by go_num, Lib.hid (HTk.out (by rw [HE1.out, HE2.out])), HBq⟩
                    case measure => exact meas hqa
              · have e : q = as1.length := by omega
                subst e
                have HEQ : Hid (Nd.mk k1 t1 s1 ks1 as1 = Nd.mk k1 t1 s1 ks2 as2) := Lib.hid (by rw [HKe.out, take_eq_len HLA.out hEa.out])
                go_wp2_with fail
                go_roundw
                case rel => exact ⟨k + 1, by omega, by go_num, Lib.hid (take_succ_eq hlt hlt2 hE.out (by rw [HLk.out, HMk.out, HEQ.out])), HB2⟩
                case measure => exact meas hlt
      · have e : k = l.length := by omega
        subst e
        go_wp2_with fail
        go_ret
        exact ⟨ret_bool (eqB_true (take_eq_len HH.out hE.out)).symm, hbl.out⟩
  · have hl' : ¬ (l.length : Int) = (m.length : Int) := by omega
    have hl2 : ((l.length : Int) != (m.length : Int)) = true := by simpa using hl'
    have HN : Hid (eqB l m = false) := Lib.hid (eqB_false (fun e => hl (by rw [e])))
    go_enter Tryz.func14, Tryz.ntmps14
    go_wp2_with fail
    go_ret
    exact ⟨ret_bool HN.out.symm, Below.refl _ _⟩
end Go.Proofs.YtdojbnngdlmbgaaGreatDoor.Tr
