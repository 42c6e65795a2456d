/-
  The contracts of Plain, of package tree and of the reference, and the law TreePlain.
-/
import Derived.Test.YtfljcockbnpadaaTrKnown
namespace Go.Proofs.Ytfljcockbnpadaa.Tr
open Go.RowKit

def okN (n : Nd) : Bool := n.kind == 1 || n.kind == 3 || n.kind == 2
def ptx (n : Nd) : List UInt8 := if n.kind = 1 then n.text.data.toList else if n.kind = 3 then n.text.data.toList else []
def plOk (l : List Nd) : Bool := l.all okN
def plT (l : List Nd) : List UInt8 := l.flatMap ptx
/-- What Plain returns. -/
def plain (l : List Nd) : List UInt8 × Bool := if plOk l then (plT l, true) else ([], false)
theorem ptx_len (n : Nd) : (ptx n).length ≤ szN n := by
  rw [szN_eq]; have : n.text.data.toList.length = n.text.size := rfl
  unfold ptx; split
  · omega
  · split
    · omega
    · simp
theorem plT_len : ∀ l : List Nd, (plT l).length ≤ sz l
  | [] => by simp [plT]
  | n :: r => by
    have h1 := plT_len r; have h2 := ptx_len n
    unfold plT at h1 ⊢
    rw [List.flatMap_cons, List.length_append, sz_cons]; omega
theorem plT_take {l : List Nd} {k : Nat} (h : k < l.length) : plT (l.take (k + 1)) = plT (l.take k) ++ ptx l[k] := by
  unfold plT; rw [List.take_succ_eq_append_getElem h, List.flatMap_append, List.flatMap_cons, List.flatMap_nil, List.append_nil]
theorem plOk_take {l : List Nd} {k : Nat} (h : k < l.length) : plOk (l.take (k + 1)) = (plOk (l.take k) && okN l[k]) := by
  unfold plOk; rw [List.take_succ_eq_append_getElem h, List.all_append, List.all_cons, List.all_nil, Bool.and_true]
theorem plT_take_len (l : List Nd) (k : Nat) : (plT (l.take k)).length ≤ sz l := Nat.le_trans (plT_len _) (sz_take l k)
theorem plain_no {l : List Nd} {k : Nat} (h : k < l.length) (ho : okN l[k] = false) : plain l = ([], false) := by
  unfold plain plOk
  rw [if_neg]
  intro e
  rw [List.all_eq_true] at e
  rw [e l[k] (List.getElem_mem h)] at ho
  cases ho
theorem plain_yes {l : List Nd} (h : plOk l = true) : plain l = (plT l, true) := by unfold plain; rw [if_pos h]

set_option maxRecDepth 100000 in
set_option maxHeartbeats 4000000 in
theorem PlainR_any (d B : Nat) (v : Value) (l : List Nd) (w : World) (h : LRd (d + 1) w B v l) :
    Calls Try.prog 21 #[v] w fun e w' => ∃ X : ByteArray, e = .returned (.tuple #[.string X, .bool (plain l).2]) ∧ Hid (X.data.toList = (plain l).1) ∧ w' = w := by
  have hz := h.1
  obtain ⟨A, c, rfl, hc1, hc2, hln, R⟩ := h.open
  have R' := Lib.hid R; clear R h
  go_enter Try.func21, Try.ntmps21
  go_wp2_with fail
  go_loopw [4, 5] (fun sv i wr => ∃ (k : Nat) (S : ByteArray), k ≤ l.length ∧ i = .int .i64 k ∧ sv = .string S ∧ Hid (S.data.toList = plT (l.take k) ∧ plOk (l.take k) = true) ∧ wr = w) (fun _ i _ => l.length - (intOf i).toNat)
  case atStart => exact ⟨0, ⟨#[]⟩, Nat.zero_le _, rfl, rfl, Lib.hid ⟨by simp [plT], by simp [plOk]⟩, rfl⟩
  case round =>
    obtain ⟨k, S, hk, rfl, rfl, hS, rfl⟩ := hrel
    have hSs : S.size ≤ 16777216 := by rw [size_of hS.out.1]; exact Nat.le_trans (plT_take_len l k) hz
    by_cases hlt : k < l.length
    · obtain ⟨g, o, rfl, hg, q⟩ := R'.out (by omega)
      obtain ⟨vk, va, x1, x2, x3, x4, x5, f1, f2, x6, x7⟩ := q k l[k] (List.getElem?_eq_getElem hlt)
      clear q f1 f2 x4 x5 x6 x7 x2
      have hts : l[k].text.size ≤ 16777216 := by
        have h1 := sz_mem (List.getElem_mem hlt)
        rw [szN_eq] at h1; omega
      have HT := Lib.hid (plT_take hlt)
      have HO := Lib.hid (plOk_take hlt)
      have HN : Hid (okN l[k] = false → plain l = ([], false)) := Lib.hid (plain_no hlt)
      generalize l[k] = nd at *
      obtain ⟨kd, tg, tx, kids, args⟩ := nd
      simp only [Nd.kind, Nd.text] at x1 x3 hts
      by_cases h1 : kd = 1
      · subst h1
        go_wp2_with fail
        go_roundw
        case rel => exact ⟨k + 1, _, by omega, by go_num, rfl, Lib.hid ⟨by rw [HT.out, cat_list, hS.out.1]; rfl, by rw [HO.out, hS.out.2]; rfl⟩, trivial⟩
        case measure => exact meas hlt
      by_cases h3 : kd = 3
      · subst h3
        go_wp2_with fail
        go_roundw
        case rel => exact ⟨k + 1, _, by omega, by go_num, rfl, Lib.hid ⟨by rw [HT.out, cat_list, hS.out.1]; rfl, by rw [HO.out, hS.out.2]; rfl⟩, trivial⟩
        case measure => exact meas hlt
      by_cases h2 : kd = 2
      · subst h2
        go_wp2_with fail
        go_roundw
        case rel => exact ⟨k + 1, _, by omega, by go_num, rfl, Lib.hid ⟨by rw [HT.out, hS.out.1]; simp [ptx, Nd.kind], by rw [HO.out, hS.out.2]; rfl⟩, trivial⟩
        case measure => exact meas hlt
      have e1 : (kd == 1) = false := by simpa using h1
      have e2 : (kd == 2) = false := by simpa using h2
      have e3 : (kd == 3) = false := by simpa using h3
      have HP := Lib.hid (HN.out (by simp [okN, Nd.kind, h1, h2, h3]))
      go_wp2_with fail
      go_ret2
      exact ⟨⟨#[]⟩, by rw [HP.out]; rfl, Lib.hid (by rw [HP.out]), rfl⟩
    · have e : k = l.length := by omega
      subst e
      rw [List.take_length] at hS
      have HP := Lib.hid (plain_yes hS.out.2)
      go_wp2_with fail
      go_ret2
      exact ⟨S, by rw [HP.out]; rfl, Lib.hid (by rw [HP.out]; exact hS.out.1), rfl⟩

set_option maxRecDepth 100000 in
set_option maxHeartbeats 4000000 in
theorem Plain_any (d B : Nat) (v : Value) (l : List Nd) (w : World) (h : LRd (d + 1) w B v l) (hB : B ≤ w.heap.size) :
    Calls Try.prog 20 #[v] w fun e w' => ∃ X : ByteArray, e = .returned (.tuple #[.string X, .bool (plain l).2]) ∧ Hid (X.data.toList = (plain l).1) ∧ Below w.heap.size w w' := by
  have hz := h.1
  obtain ⟨A, c, rfl, hc1, hc2, hln, R⟩ := h.open
  have R' := Lib.hid R; clear R h
  have HB := Lib.hid (new_builder w w.heap.size (Nat.le_refl _))
  have B0 := Lib.hid ((Below.refl w.heap.size w).alloc (Nat.le_refl _) (.cells #[.pointer none, .slice none 0 0] 43))
  go_enter Try.func20, Try.ntmps20
  go_wp2_with fail
  go_loopw [9] (fun i wr => ∃ (k : Nat), k ≤ l.length ∧ i = .int .i64 k ∧ Hid (Bd wr w.heap.size w.heap.size (plT (l.take k)) ∧ plOk (l.take k) = true) ∧ Hid (Below w.heap.size w wr)) (fun i _ => l.length - (intOf i).toNat)
  case atStart => exact ⟨0, Nat.zero_le _, rfl, Lib.hid ⟨by simpa [plT] using HB.out, by simp [plOk]⟩, B0⟩
  case round =>
    obtain ⟨k, hk, rfl, hS, hbl⟩ := hrel
    have hps := Nat.le_trans (plT_take_len l k) hz
    by_cases hlt : k < l.length
    · obtain ⟨g, o, rfl, hg, q⟩ := R'.out (by omega)
      obtain ⟨vk, va, x1, x2, x3, x4, x5, f1, f2, x6, x7⟩ := q k l[k] (List.getElem?_eq_getElem hlt)
      obtain ⟨Ak, ck, rfl⟩ := x6.form
      obtain ⟨Aa, ca, rfl⟩ := ARd.form (d := d) x7
      clear q f1 f2 x6 x7
      have hcell : ∀ i, wr.cell? ⟨g, i, none⟩ = w.cell? ⟨g, i, none⟩ := fun i => hbl.out.cell (by show g < _; omega)
      rw [← hcell] at x1 x2 x3 x4 x5
      clear hcell
      have hts : l[k].text.size ≤ 16777216 := by
        have h1 := sz_mem (List.getElem_mem hlt)
        rw [szN_eq] at h1; omega
      have HT := Lib.hid (plT_take hlt)
      have HO := Lib.hid (plOk_take hlt)
      have HN : Hid (okN l[k] = false → plain l = ([], false)) := Lib.hid (plain_no hlt)
      generalize l[k] = nd at *
      obtain ⟨kd, tg, tx, kids, args⟩ := nd
      simp only [Nd.kind, Nd.tag, Nd.text, Nd.kids, Nd.args] at x1 x2 x3 x4 x5 hts
      have S1 := Lib.hid (hS.out.1.alloc (Obj.cells #[Value.int .i64 kd, Value.int .i64 tg, Value.string tx, Value.slice Ak kids.length ck, Value.slice Aa args.length ca] 30))
      have B1 := Lib.hid (hbl.out.alloc hbl.out.size (Obj.cells #[Value.int .i64 kd, Value.int .i64 tg, Value.string tx, Value.slice Ak kids.length ck, Value.slice Aa args.length ca] 30))
      by_cases h1 : kd = 1
      · subst h1
        go_wp2_with fail
        refine (WS w.heap.size w.heap.size _ tx _ S1.out (by omega) B1.out.size).mono ?_
        rintro e w2 ⟨rfl, hb2, hf2⟩
        have S2 := Lib.hid hb2; have B2 := Lib.hid (B1.out.trans hf2.below); clear hb2 hf2
        go_wp2_with fail
        go_roundw
        case rel => exact ⟨k + 1, by omega, by go_num, Lib.hid ⟨by rw [HT.out]; exact S2.out, by rw [HO.out, hS.out.2]; rfl⟩, B2⟩
        case measure => exact meas hlt
      by_cases h3 : kd = 3
      · subst h3
        go_wp2_with fail
        refine (WS w.heap.size w.heap.size _ tx _ S1.out (by omega) B1.out.size).mono ?_
        rintro e w2 ⟨rfl, hb2, hf2⟩
        have S2 := Lib.hid hb2; have B2 := Lib.hid (B1.out.trans hf2.below); clear hb2 hf2
        go_wp2_with fail
        go_roundw
        case rel => exact ⟨k + 1, by omega, by go_num, Lib.hid ⟨by rw [HT.out]; exact S2.out, by rw [HO.out, hS.out.2]; rfl⟩, B2⟩
        case measure => exact meas hlt
      by_cases h2 : kd = 2
      · subst h2
        go_wp2_with fail
        go_roundw
        case rel => exact ⟨k + 1, by omega, by go_num, Lib.hid ⟨by rw [HT.out]; simpa [ptx, Nd.kind] using S1.out, by rw [HO.out, hS.out.2]; rfl⟩, B1⟩
        case measure => exact meas hlt
      have e1 : (kd == 1) = false := by simpa using h1
      have e2 : (kd == 2) = false := by simpa using h2
      have e3 : (kd == 3) = false := by simpa using h3
      have HP := Lib.hid (HN.out (by simp [okN, Nd.kind, h1, h2, h3]))
      go_wp2_with fail
      go_ret2
      exact ⟨⟨#[]⟩, by rw [HP.out]; rfl, Lib.hid (by rw [HP.out]), B1.out⟩
    · have e : k = l.length := by omega
      subst e
      rw [List.take_length] at hS
      have HP := Lib.hid (plain_yes hS.out.2)
      go_wp2_with fail
      refine (Try.Builder_String_anyk w.heap.size w.heap.size _ wr hS.out.1 hbl.out.size).mono ?_
      rintro e w2 ⟨rfl, _, hb2, _⟩
      go_wp2_with fail
      go_ret2
      exact ⟨⟨(plT l).toArray⟩, by rw [HP.out]; rfl, Lib.hid (by rw [HP.out]), hbl.out.trans hb2⟩

set_option maxHeartbeats 4000000 in
theorem TreePlain_any (d B : Nat) (v : Value) (l : List Nd) (w : World) (h : LRd d w B v l) (hB : B ≤ w.heap.size) (_ : sz l ≤ 1048576) :
    Calls Try.prog 8 #[v] w fun e w' => e = .returned (.bool true) ∧ Below w.heap.size w w' := by
  cases d with
  | zero => exact h.elim
  | succ d =>
  obtain ⟨A, c, rfl⟩ := h.form
  have H0 := Lib.hid h; clear h
  go_enter Try.func8, Try.ntmps8
  go_wp2_with fail
  refine (large_any (d + 1) B _ l w H0.out hB).mono ?_
  rintro e w1 ⟨rfl, hb⟩
  have B1 := Lib.hid hb; clear hb
  cases big l with
  | true =>
    go_wp2_with fail
    refine (known_any w1).mono ?_
    rintro e w4 ⟨rfl, hb⟩
    have B4 := Lib.hid (B1.out.trans (hb.mono B1.out.size)); clear hb
    go_wp2_with fail
    go_ret
    exact ⟨rfl, B4.out⟩
  | false =>
    go_wp2_with fail
    refine (Plain_any d B _ l w1 (H0.out.below B1.out hB (Nat.le_refl _)) (Nat.le_trans hB B1.out.size)).mono ?_
    rintro e w2 ⟨X, rfl, hX, hb⟩
    have B2 := Lib.hid (B1.out.trans (hb.mono B1.out.size)); clear hb
    go_wp2_with fail
    refine (PlainR_any d B _ l w2 (H0.out.below B2.out hB (Nat.le_refl _))).mono ?_
    rintro e w3 ⟨Y, rfl, hY, rfl⟩
    obtain rfl : X = Y := ba_ext hX.out hY.out
    go_wp2_with fail
    refine (known_any w3).mono ?_
    rintro e w4 ⟨rfl, hb⟩
    have B4 := Lib.hid (B2.out.trans (hb.mono B2.out.size)); clear hb
    go_wp2_with fail
    go_ret
    exact ⟨rfl, B4.out⟩
end Go.Proofs.Ytfljcockbnpadaa.Tr
