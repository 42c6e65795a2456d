/-
  The contracts of package tree's Source and of what it calls.
-/
import Derived.Test.YtdojbnngdlmbgaaGreatDoorTrCount
import Derived.Test.YtdojbnngdlmbgaaGreatDoorTrWS
import Derived.Maps.AppendAt
import Derived.Deep.AppendLies
import Derived.RegionTactic
import Derived.OwnWalk
import Derived.Handy
import Derived.Laws.OwnMore
namespace Go.Proofs.YtdojbnngdlmbgaaGreatDoor.Tr
open Go.RowKit

/-- The builder in block b, one of those from B on, holds the bytes x. -/
def Bd (w : World) (B b : Nat) (x : List UInt8) : Prop := Lib.IsBuilderF 105 5 B b (Lib.byteCells x) w
theorem ownF_keep {w w' : World} {base : Nat} {e : TypeId} {size : Nat} {v : Value} {n : Nat} {xs : List Value} (h : w.ownsRowF base e size v n xs) (hk : ∀ k, k < w.heap.size → w'.heap[k]? = w.heap[k]?) : w'.ownsRowF base e size v n xs := by
  refine ⟨h.1, h.2.imp id ?_⟩
  rintro ⟨g, cap, cur, fz, h3, h4, h5, h6⟩
  have hg : g < w.heap.size := (Array.getElem?_eq_some_iff.1 h5).1
  exact ⟨g, cap, cur, fz, h3, h4, (hk g hg).trans h5, h6⟩
theorem batF_keep {w w' : World} {B b : Nat} {p : Value} {bs : List Value} {T e : TypeId} (h : Lib.BuilderAtF T e B b p bs w) (hk : ∀ k, k < w.heap.size → w'.heap[k]? = w.heap[k]?) : Lib.BuilderAtF T e B b p bs w' := by
  obtain ⟨h1, v, h2, h3, h4⟩ := h
  have hg : b < w.heap.size := (Array.getElem?_eq_some_iff.1 h2).1
  exact ⟨h1, v, (hk b hg).trans h2, ownF_keep h3 hk, h4⟩
theorem Bd.keep {w w' : World} {B b : Nat} {x : List UInt8} (h : Bd w B b x) (hb : Below w.heap.size w w') : Bd w' B b x := by
  rcases h with h | h
  · exact .inl (batF_keep h hb.block)
  · exact .inr (batF_keep h hb.block)
theorem Bd.lt {w : World} {B b : Nat} {x : List UInt8} (h : Bd w B b x) : b < w.heap.size := by
  rcases h with ⟨_, v, h2, _⟩ | ⟨_, v, h2, _⟩ <;> exact (Array.getElem?_eq_some_iff.1 h2).1
theorem Bd.le {w : World} {B b : Nat} {x : List UInt8} (h : Bd w B b x) : B ≤ b := by
  rcases h with ⟨h, _⟩ | ⟨h, _⟩ <;> exact h
/-- What writing to the builder in block b leaves alone. -/
structure Fr (B b : Nat) (w w' : World) : Prop where
  below : Below B w w'
  kept : Lib.OthersKept 5 (some b) w w'
theorem Fr.refl (B b : Nat) (w : World) : Fr B b w w := ⟨Below.refl _ _, Lib.OthersKept.refl _ _ _⟩
theorem Fr.trans {B b : Nat} {u v w : World} (h : Fr B b u v) (k : Fr B b v w) : Fr B b u w := ⟨h.below.trans k.below, h.kept.trans k.kept⟩
theorem Fr.alloc {B b : Nat} {u v : World} (h : Fr B b u v) (hB : B ≤ v.heap.size) (o : Obj) : Fr B b u (v.alloc o) := ⟨h.below.alloc hB o, h.kept.alloc o⟩
theorem heap_new (w : World) (o : Obj) : (w.alloc o).heap[w.heap.size]? = some o := heap_alloc_new w o
theorem Fr.box {B b : Nat} {w w' : World} {cs : Array Value} {t : TypeId} (h : Fr B b (w.alloc (.cells cs t)) w') (ht : t ≠ 5) (hb : b < w.heap.size) : w'.heap[w.heap.size]? = some (.cells cs t) :=
  h.kept _ _ (heap_new w _) (fun e => by have := Option.some.inj e; omega) (fun c fz e => ht (by injection e))
theorem cell_heap {w : World} {g : Nat} {cs : Array Value} {t : TypeId} {i : Nat} {v : Value} (h : w.heap[g]? = some (.cells cs t)) (hv : cs[i]? = some v) : w.cell? ⟨g, i, none⟩ = some v := by
  simp [World.cell?, h, hv]
theorem WS (B b : Nat) (x : List UInt8) (s : ByteArray) (w : World) (h : Bd w B b x) (hl : x.length + s.size ≤ 140737488355328) (hB : B ≤ w.heap.size) :
    Calls Tryz.prog 53 #[.pointer (some ⟨b, 0, none⟩), .string s] w fun e w' => e = .returned (.tuple #[.int .i64 s.size, .nilIface]) ∧ Bd w' B b (x ++ s.data.toList) ∧ Fr B b w w' :=
  (Tryz.Builder_WriteString B b _ s w h (by rw [Lib.byteCells_length]; exact hl) hB).mono fun e w' ⟨h1, h2, h3, h4⟩ => ⟨h1, .inr (by rw [Lib.byteCells_append, ← Lib.strCells_eq]; exact h2), h3, h4⟩

/-- What the function of number f does that writes the source of a list to a builder. -/
def WritesL (d : Nat) : Prop := ∀ (B b : Nat) (x : List UInt8) (v : Value) (l : List Nd) (w : World), LRd d w B v l → Bd w B b x → B ≤ w.heap.size → x.length + (src l).length ≤ 140737488355328 →
    Calls Tryz.prog 125 #[.pointer (some ⟨b, 0, none⟩), v] w fun e w' => e = .returned (.tuple #[]) ∧ Bd w' B b (x ++ src l) ∧ Fr B b w w'
def WritesN (d : Nat) : Prop := ∀ (B b : Nat) (x : List UInt8) (v : Value) (n : Nd) (w : World), NV d w B v n → Bd w B b x → B ≤ w.heap.size → x.length + (srcN n).length ≤ 140737488355328 →
    Calls Tryz.prog 142 #[.pointer (some ⟨b, 0, none⟩), v] w fun e w' => e = .returned (.tuple #[]) ∧ Bd w' B b (x ++ srcN n) ∧ Fr B b w w'
theorem src_take {l : List Nd} {k : Nat} (h : k < l.length) : src (l.take (k + 1)) = src (l.take k) ++ srcN l[k] := by
  rw [List.take_succ_eq_append_getElem h, src_append, src_cons, src_nil, List.append_nil]
theorem srcA_take {l : List Ar} {k : Nat} (h : k < l.length) : srcA (l.take (k + 1)) = srcA (l.take k) ++ srcG l[k] := by
  rw [List.take_succ_eq_append_getElem h, srcA_append, srcA_cons, srcA_nil, List.append_nil]
theorem src_take_len (l : List Nd) (k : Nat) : (src (l.take k)).length ≤ (src l).length := by
  have : src l = src (l.take k) ++ src (l.drop k) := by rw [← src_append, List.take_append_drop]
  rw [this, List.length_append]; omega
theorem srcA_take_len (l : List Ar) (k : Nat) : (srcA (l.take k)).length ≤ (srcA l).length := by
  have : srcA l = srcA (l.take k) ++ srcA (l.drop k) := by rw [← srcA_append, List.take_append_drop]
  rw [this, List.length_append]; omega

set_option maxHeartbeats 2000000 in
theorem writeNodes_step (d : Nat) (hN : WritesN d) : WritesL (d + 1) := by
  intro B b x v l w h hb hB hlen
  have hz := h.sz
  obtain ⟨A, c, rfl, hc1, hc2, hln, R⟩ := h.open
  have R' := Lib.hid R; clear R
  have HL := Lib.hid hlen; clear hlen
  have H0 := Lib.hid hb; clear hb
  go_enter Tryz.func125, Tryz.ntmps125
  go_wp2_with fail
  go_loopw [8] (fun i wr => ∃ k : Nat, k ≤ l.length ∧ i = .int .i64 k ∧ Hid (Bd wr B b (x ++ src (l.take k))) ∧ Hid (Fr B b w wr)) (fun i _ => l.length - (intOf i).toNat)
  case atStart => exact ⟨0, Nat.zero_le _, rfl, Lib.hid (by simpa [src_nil] using H0.out), Lib.hid (Fr.refl _ _ _)⟩
  case round =>
    obtain ⟨k, hk, rfl, hbd, hbl⟩ := hrel
    by_cases hlt : k < l.length
    · obtain ⟨g, o, rfl, hg, q⟩ := R'.out (by omega)
      obtain ⟨vk, va, x1, x2, x3, x4, x5, f1, f2, x6, x7⟩ := q k l[k] (List.getElem?_eq_getElem hlt)
      clear q
      have hcell : ∀ i, wr.cell? ⟨g, i, none⟩ = w.cell? ⟨g, i, none⟩ := fun i => hbl.out.below.cell hg
      rw [← hcell] at x1 x2 x3 x4 x5
      clear hcell
      obtain ⟨Ak, ck, rfl⟩ := x6.form
      obtain ⟨Aa, ca, rfl⟩ := ARd.form (d := d) x7
      have X67 : Hid (LRd d w B (.slice Ak l[k].kids.length ck) l[k].kids ∧ ARd d w B (.slice Aa l[k].args.length ca) l[k].args ∧ Fit l[k].kind ∧ Fit l[k].tag) := Lib.hid ⟨x6, x7, f1, f2⟩
      clear x6 x7 f1 f2
      have b1 : Fr B b w (wr.alloc (Obj.cells #[Value.int .i64 l[k].kind, Value.int .i64 l[k].tag, Value.string l[k].text, Value.slice Ak l[k].kids.length ck, Value.slice Aa l[k].args.length ca] 62)) := hbl.out.alloc (Nat.le_trans hB hbl.out.below.size) _
      have B1 := Lib.hid b1; clear b1
      have hlen1 : (x ++ src (l.take k)).length + (srcN l[k]).length ≤ 140737488355328 := by
        have h1 := HL.out
        have h2 := src_take_len l (k + 1)
        rw [src_take hlt, List.length_append] at h2
        rw [List.length_append]; omega
      have H1 := Lib.hid hlen1; clear hlen1
      go_wp2_with fail
      refine (hN B b _ _ l[k] _ ⟨_, _, rfl, Nat.le_trans (sz_mem (List.getElem_mem hlt)) hz, X67.out.2.2.1, X67.out.2.2.2, X67.out.1.below B1.out.below (Nat.le_refl _) (Nat.le_refl _), X67.out.2.1.below B1.out.below (Nat.le_refl _) (Nat.le_refl _)⟩ (hbd.out.keep ((Below.refl _ _).alloc (Nat.le_refl _) _)) (Nat.le_trans hB B1.out.below.size) H1.out).mono ?_
      rintro e w1 ⟨rfl, hbd1, hbl1⟩
      have hbd2 := Lib.hid hbd1; have hbl2 := Lib.hid hbl1; clear hbd1 hbl1
      go_wp2_with fail
      go_roundw
      case rel => exact ⟨k + 1, by omega, by go_num, Lib.hid (by rw [src_take hlt, ← List.append_assoc]; exact hbd2.out), Lib.hid (B1.out.trans hbl2.out)⟩
      case measure => simp [intOf]; omega
    · have e : k = l.length := by omega
      subst e
      go_wp2_with fail
      go_end0
      exact ⟨rfl, by have h := hbd.out; rwa [List.take_length] at h, hbl.out⟩

set_option maxHeartbeats 2000000 in
theorem tagName_any (t : Int) (w : World) : Calls Tryz.prog 154 #[.int .i64 t] w fun e w' => e = .returned (.string ⟨(tname t).toArray⟩) ∧ w = w' := by
  by_cases h1 : t = 1
  · subst h1
    go_enter Tryz.func154, Tryz.ntmps154
    go_wp2
    go_ret
    exact ⟨rfl, rfl⟩
  · by_cases h2 : t = 2
    · subst h2
      go_enter Tryz.func154, Tryz.ntmps154
      go_wp2
      go_ret
      exact ⟨rfl, rfl⟩
    · by_cases h3 : t = 3
      · subst h3
        go_enter Tryz.func154, Tryz.ntmps154
        go_wp2
        go_ret
        exact ⟨rfl, rfl⟩
      · have H : Hid (tname t = []) := Lib.hid (by unfold tname; rw [if_neg h1, if_neg h2, if_neg h3])
        have e1 : (t == 1) = false := by simpa using h1
        have e2 : (t == 2) = false := by simpa using h2
        have e3 : (t == 3) = false := by simpa using h3
        go_enter Tryz.func154, Tryz.ntmps154
        go_wp2
        go_ret
        exact ⟨by rw [H.out]; rfl, rfl⟩

/-- What writeCall does. -/
def WritesC (d : Nat) : Prop := ∀ (B b : Nat) (x : List UInt8) (o1 o2 : ByteArray) (v : Value) (n : Nd) (w : World), NV d w B v n → Bd w B b x → B ≤ w.heap.size → x.length + (o1.size + (src n.kids).length + (srcA n.args).length + o2.size) ≤ 140737488355328 →
    Calls Tryz.prog 150 #[.pointer (some ⟨b, 0, none⟩), .string o1, v, .string o2] w fun e w' => e = .returned (.tuple #[]) ∧ Bd w' B b (x ++ (o1.data.toList ++ src n.kids ++ srcA n.args ++ o2.data.toList)) ∧ Fr B b w w'
def WritesT (d : Nat) : Prop := ∀ (B b : Nat) (x : List UInt8) (v : Value) (n : Nd) (w : World), NV d w B v n → Bd w B b x → B ≤ w.heap.size → x.length + (tagged n.tag (src n.kids)).length ≤ 140737488355328 →
    Calls Tryz.prog 151 #[.pointer (some ⟨b, 0, none⟩), v] w fun e w' => e = .returned (.tuple #[]) ∧ Bd w' B b (x ++ tagged n.tag (src n.kids)) ∧ Fr B b w w'
theorem Bd.alloc {w : World} {B b : Nat} {x : List UInt8} (h : Bd w B b x) (o : Obj) : Bd (w.alloc o) B b x := h.keep ((Below.refl _ _).alloc (Nat.le_refl _) _)

set_option maxHeartbeats 4000000 in
theorem writeCall_step (d : Nat) (hL : WritesL d) : WritesC d := by
  intro B b x o1 o2 v n w h hb hB hlen
  obtain ⟨vk, va, rfl, hz, hf1, hf2, hk, ha⟩ := h
  obtain ⟨Ak, ck, rfl⟩ := hk.form
  obtain ⟨Aa, ca, rfl, ha1, ha2, han, R⟩ := ARd.open ha
  have hbw := hb.lt
  have R' := Lib.hid R; clear R
  have HL := Lib.hid hlen; clear hlen
  have HK := Lib.hid hk; clear hk ha
  have H0 := Lib.hid (hb.alloc (Obj.cells #[Value.int .i64 n.kind, Value.int .i64 n.tag, Value.string n.text, Value.slice Ak n.kids.length ck, Value.slice Aa n.args.length ca] 62))
  have F0 := Lib.hid ((Fr.refl B b w).alloc hB (Obj.cells #[Value.int .i64 n.kind, Value.int .i64 n.tag, Value.string n.text, Value.slice Ak n.kids.length ck, Value.slice Aa n.args.length ca] 62))
  clear hb
  go_enter Tryz.func150, Tryz.ntmps150
  go_wp2_with fail
  refine (WS B b x o1 _ H0.out (by have := HL.out; omega) (Nat.le_trans hB F0.out.below.size)).mono ?_
  rintro e w1 ⟨rfl, hb1, hf1'⟩
  have hx1 := hf1'.box (by decide) hbw
  have c3 : w1.cell? ⟨w.heap.size, 3, none⟩ = some (Value.slice Ak n.kids.length ck) := cell_heap hx1 rfl
  have X1 := Lib.hid hx1
  have H1 := Lib.hid hb1
  have F1 := Lib.hid (F0.out.trans hf1')
  clear hx1 hb1 hf1'
  go_wp2_with fail
  refine (hL B b _ _ n.kids w1 (HK.out.below F1.out.below (Nat.le_refl _) (Nat.le_refl _)) H1.out (Nat.le_trans hB F1.out.below.size) (by have := HL.out; rw [List.length_append]; have e : o1.data.toList.length = o1.size := rfl; omega)).mono ?_
  rintro e w2 ⟨rfl, hb2, hf2'⟩
  have hx2 := hf2'.kept _ _ X1.out (fun e => by have := Option.some.inj e; omega) (fun c fz e => by injection e with _ e2; exact absurd e2 (by decide))
  have c4 : w2.cell? ⟨w.heap.size, 4, none⟩ = some (Value.slice Aa n.args.length ca) := cell_heap hx2 rfl
  have H2 := Lib.hid hb2
  have F2 := Lib.hid (F1.out.trans hf2')
  clear hx2 hb2 hf2' c3
  go_wp2_with fail
  clear c4
  go_loopw [20] (fun i wr => ∃ k : Nat, k ≤ n.args.length ∧ i = .int .i64 k ∧ Hid (Bd wr B b (x ++ o1.data.toList ++ src n.kids ++ srcA (n.args.take k))) ∧ Hid (Fr B b w wr)) (fun i _ => n.args.length - (intOf i).toNat)
  case atStart => exact ⟨0, Nat.zero_le _, rfl, Lib.hid (by simpa [srcA_nil] using H2.out), F2⟩
  case round =>
    obtain ⟨k, hk, rfl, hbd, hbl⟩ := hrel
    by_cases hlt : k < n.args.length
    · obtain ⟨g, o, rfl, hg, q⟩ := R'.out (by omega)
      obtain ⟨vn, vv, y1, y2, y3, y4, y5⟩ := q k n.args[k] (List.getElem?_eq_getElem hlt)
      clear q
      obtain ⟨An, cn, rfl⟩ := y4.form
      obtain ⟨Av, cv, rfl⟩ := y5.form
      have hcell : ∀ i, wr.cell? ⟨g, i, none⟩ = w.cell? ⟨g, i, none⟩ := fun i => hbl.out.below.cell hg
      rw [← hcell] at y1 y2 y3
      clear hcell
      have Y45 := Lib.hid (And.intro y4 y5); clear y4 y5
      have hbr : b < wr.heap.size := hbd.out.lt
      have hBr : Hid (B ≤ wr.heap.size) := Lib.hid (Nat.le_trans hB hbl.out.below.size)
      have hsz := szA_mem (List.getElem_mem hlt)
      have hln : x.length + (o1.size + (src n.kids).length + ((srcA (n.args.take k)).length + (srcG n.args[k]).length)) ≤ 140737488355328 := by
        have h1 := HL.out
        have h2 := srcA_take_len n.args (k + 1)
        rw [srcA_take hlt, List.length_append] at h2
        omega
      rw [srcG_eq] at hln
      have HN := Lib.hid hln; clear hln hsz
      have eo : o1.data.toList.length = o1.size := rfl
      generalize hAr : n.args[k] = ar at *
      obtain ⟨nm, nam, val⟩ := ar
      simp only [Ar.named, Ar.name, Ar.value] at *
      have P0 := Lib.hid (hbl.out.alloc hBr.out (Obj.cells #[Value.bool nm, Value.slice An nam.length cn, Value.slice Av val.length cv] 59))
      have Q0 := Lib.hid (hbd.out.alloc (Obj.cells #[Value.bool nm, Value.slice An nam.length cn, Value.slice Av val.length cv] 59))
      go_wp2_with fail
      refine (WS B b _ ⟨#[124]⟩ _ Q0.out (by have h := HN.out; simp only [List.length_append, List.length_cons, List.length_nil] at h ⊢; change _ + 1 ≤ _; omega) (Nat.le_trans hB P0.out.below.size)).mono ?_
      rintro e w3 ⟨rfl, hb3, hf3⟩
      have hx3 := hf3.box (by decide) hbr
      have z0 : w3.cell? ⟨wr.heap.size, 0, none⟩ = some (Value.bool nm) := cell_heap hx3 rfl
      have z1 : w3.cell? ⟨wr.heap.size, 1, none⟩ = some (Value.slice An nam.length cn) := cell_heap hx3 rfl
      have z2 : w3.cell? ⟨wr.heap.size, 2, none⟩ = some (Value.slice Av val.length cv) := cell_heap hx3 rfl
      have X3 := Lib.hid hx3; have B3 := Lib.hid hb3; have F3 := Lib.hid (P0.out.trans hf3)
      clear hx3 hb3 hf3 y1 y2 y3
      cases nm with
      | false =>
        go_wp2_with fail
        refine (hL B b _ _ val w3 (Y45.out.2.below F3.out.below (Nat.le_refl _) (Nat.le_refl _)) B3.out (Nat.le_trans hB F3.out.below.size) (by have h := HN.out; simp only [List.length_append, List.length_cons, List.length_nil, Bool.false_eq_true, if_false] at h ⊢; change _ + 1 + _ ≤ _; omega)).mono ?_
        rintro e w4 ⟨rfl, hb4, hf4⟩
        have B4 := Lib.hid hb4; have F4 := Lib.hid (F3.out.trans hf4); clear hb4 hf4
        go_wp2_with fail
        go_roundw
        case rel => exact ⟨k + 1, by omega, by go_num, Lib.hid (by rw [srcA_take hlt, hAr, srcG_eq]; simpa [Ar.named, Ar.name, Ar.value] using B4.out), F4⟩
        case measure => simp [intOf]; omega
      | true =>
        go_wp2_with fail
        refine (hL B b _ _ nam w3 (Y45.out.1.below F3.out.below (Nat.le_refl _) (Nat.le_refl _)) B3.out (Nat.le_trans hB F3.out.below.size) (by have h := HN.out; simp only [List.length_append, List.length_cons, List.length_nil, if_true] at h ⊢; change _ + 1 + _ ≤ _; omega)).mono ?_
        rintro e w4 ⟨rfl, hb4, hf4⟩
        have hx4 := hf4.kept _ _ X3.out (fun e => by have := Option.some.inj e; omega) (fun c fz e => by injection e with _ e2; exact absurd e2 (by decide))
        have X4 := Lib.hid hx4
        have B4 := Lib.hid hb4; have F4 := Lib.hid (F3.out.trans hf4); clear hb4 hf4 hx4 z0 z1 z2
        go_wp2_with fail
        refine (WS B b _ ⟨#[61]⟩ _ B4.out (by have h := HN.out; simp only [List.length_append, List.length_cons, List.length_nil, if_true] at h ⊢; change _ + 1 + _ + 1 ≤ _; omega) (Nat.le_trans hB F4.out.below.size)).mono ?_
        rintro e w5 ⟨rfl, hb5, hf5⟩
        have hx5 := hf5.kept _ _ X4.out (fun e => by have := Option.some.inj e; omega) (fun c fz e => by injection e with _ e2; exact absurd e2 (by decide))
        have z2 : w5.cell? ⟨wr.heap.size, 2, none⟩ = some (Value.slice Av val.length cv) := cell_heap hx5 rfl
        have B5 := Lib.hid hb5; have F5 := Lib.hid (F4.out.trans hf5); clear hb5 hf5 hx5
        go_wp2_with fail
        refine (hL B b _ _ val w5 (Y45.out.2.below F5.out.below (Nat.le_refl _) (Nat.le_refl _)) B5.out (Nat.le_trans hB F5.out.below.size) (by have h := HN.out; simp only [List.length_append, List.length_cons, List.length_nil, if_true] at h ⊢; change _ + 1 + _ + 1 + _ ≤ _; omega)).mono ?_
        rintro e w6 ⟨rfl, hb6, hf6⟩
        have B6 := Lib.hid hb6; have F6 := Lib.hid (F5.out.trans hf6); clear hb6 hf6
        go_wp2_with fail
        go_roundw
        case rel => exact ⟨k + 1, by omega, by go_num, Lib.hid (by rw [srcA_take hlt, hAr, srcG_eq]; simpa [Ar.named, Ar.name, Ar.value] using B6.out), F6⟩
        case measure => simp [intOf]; omega
    · have e : k = n.args.length := by omega
      subst e
      go_wp2_with fail
      refine (WS B b _ o2 _ hbd.out (by have h := HL.out; rw [List.take_length]; simp only [List.length_append]; have eo : o1.data.toList.length = o1.size := rfl; omega) (Nat.le_trans hB hbl.out.below.size)).mono ?_
      rintro e w3 ⟨rfl, hb3, hf3⟩
      go_wp2_with fail
      go_end0
      exact ⟨rfl, by rw [List.take_length] at hb3; simpa using hb3, hbl.out.trans hf3⟩

end Go.Proofs.YtdojbnngdlmbgaaGreatDoor.Tr
