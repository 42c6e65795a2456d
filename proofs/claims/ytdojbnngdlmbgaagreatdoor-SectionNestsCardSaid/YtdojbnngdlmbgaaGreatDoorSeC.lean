/-
  The contract of Sections.
  The list while the ends are laid: plain.
  The contract of Sections: the walk.
-/
import Derived.Lib.SplitLaws
import Derived.Test.YtdojbnngdlmbgaaGreatDoorSeB
namespace Go.Proofs.YtdojbnngdlmbgaaGreatDoor.Se
open Go.RowKit Go.Shelf Go.Proofs.YtdojbnngdlmbgaaGreatDoor.Tr
set_option linter.unusedVariables false
set_option linter.unusedSimpArgs false

def tot : List By → Nat
  | [] => 0
  | x :: r => x.length + 1 + tot r
theorem tot_lines : ∀ s : By, tot (lines s) = s.length + 1
  | [] => rfl
  | c :: s => by
    have ih := tot_lines s
    rw [lines_cons]
    split
    · rw [tot, ih]; simp; omega
    · cases hl : lines s with
      | nil => exact absurd hl (lines_ne s)
      | cons x r => rw [hl, tot] at ih; simp only [tot, List.length_cons]; omega
theorem hds_no {pl : List Bool} {n a : Nat} {x : By} {r : List By} (h : headOf x = none) : hds headOf pl n a (x :: r) = hds headOf pl n (a + x.length + 1) r := by
  rw [hds, h]; rfl
theorem hds_skip {pl : List Bool} {n a v : Nat} {x t : By} {r : List By} (h : headOf x = some (v, t)) (hc : ((pl.drop a).take x.length).contains false = true) : hds headOf pl n a (x :: r) = hds headOf pl n (a + x.length + 1) r := by
  rw [hds, h]; simp only [hc, if_true]; rfl
theorem hds_take {pl : List Bool} {n a v : Nat} {x t : By} {r : List By} (h : headOf x = some (v, t)) (hc : ((pl.drop a).take x.length).contains false = false) : hds headOf pl n a (x :: r) = ⟨v, t, a, min (a + x.length + 1) n⟩ :: hds headOf pl n (a + x.length + 1) r := by
  rw [hds, h]; simp only [hc]; rfl
def scOf (h : Hd) : Sc := ⟨h.lv, h.ti, h.fr, h.bo, 0⟩
/-- What strings.Split gives. -/
theorem Split_any (s : ByteArray) (w : World) (ht : Tk.Tb w) (hs : s.size ≤ 65536) :
    Calls Tryz.prog 42 #[.string s, .string ⟨#[10]⟩] w fun e w' => ∃ (g : Nat) (Ls : List ByteArray), e = .returned (.slice (some ⟨g, 0, none⟩) Ls.length Ls.length) ∧ Ls.map (·.data.toList) = lines s.data.toList ∧
      g < w'.heap.size ∧ (∀ i x, Ls[i]? = some x → w'.cell? ⟨g, i, none⟩ = some (.string x)) ∧ Below w.heap.size w w' := by
  obtain ⟨m, hm⟩ := ht.m
  refine (Tryz.strings_Split s ⟨#[10]⟩ m w (by omega) hm (by decide)).mono ?_
  rintro e w' ⟨rfl, rfl⟩
  refine ⟨w.heap.size, Lib.splitB ⟨#[10]⟩ 0 (Lib.countB s ⟨#[10]⟩) s, ?_, splitB_lines s, by simp, fun i x hx => ?_, (Below.refl _ _).alloc (Nat.le_refl _) _⟩
  · rw [Lib.splitB_all ⟨#[10]⟩ (by decide) 0 _ s rfl]
  · exact cell_heap (heap_alloc_new w _) (by rw [List.getElem?_toArray, List.getElem?_map, hx]; rfl)
theorem heading_none (s : ByteArray) (w : World) (hs : s.size ≤ 4294967281) (h : headOf s.data.toList = none) : Calls Tryz.prog 43 #[.string s] w fun e w' => e = .returned (.tuple #[.int .i64 0, .string ⟨#[]⟩, .bool false]) ∧ Below w.heap.size w w' := by
  have := heading_any s w hs
  rw [h] at this; exact this
theorem heading_some (s : ByteArray) (w : World) (hs : s.size ≤ 4294967281) {v : Nat} {t : By} (h : headOf s.data.toList = some (v, t)) : Calls Tryz.prog 43 #[.string s] w fun e w' => e = .returned (.tuple #[.int .i64 (v : Int), .string (bsl t), .bool true]) ∧ Below w.heap.size w w' := by
  have := heading_any s w hs
  rw [h] at this; exact this
theorem Con_any (g o n c : Nat) (pl : List Bool) (w : World) (hn : n ≤ pl.length) (hb : n ≤ 65536) (hc : ∀ j b, pl[j]? = some b → w.cell? ⟨g, o + j, none⟩ = some (.bool b)) :
    Calls Tryz.prog 44 #[.slice (some ⟨g, o, none⟩) n c, .bool false] w fun e w' => e = .returned (.bool ((pl.take n).contains false)) ∧ w' = w := by
  refine (Tryz.slices_Contains Value.bool (fun x y => x == y) (EqlAt.bool _ (by kernel_rfl)) g o n c pl false w hn (by omega) (fun j hj => ?_)).mono ?_
  · rw [hc j pl[j] (List.getElem?_eq_getElem hj), getElem!_pos pl j hj]
  · rintro e w' ⟨rfl, rfl⟩
    refine ⟨?_, rfl⟩
    rw [List.contains_eq_any_beq]
theorem scInfo2 : (Tryz.prog.info? 40).map (fun i => (i.zero, i.size, i.bytes)) = some (some (.agg #[.int .i64 0, .string ⟨#[]⟩, .int .i64 0, .int .i64 0, .int .i64 0]), 5, 48) := scInfo
end Go.Proofs.YtdojbnngdlmbgaaGreatDoor.Se

namespace Go.Proofs.YtdojbnngdlmbgaaGreatDoor.Se
open Go.RowKit Go.Shelf
set_option linter.unusedVariables false
set_option linter.unusedSimpArgs false

theorem secs_length (n : Nat) : ∀ X : List Hd, (secs n X).length = X.length
  | [] => rfl
  | x :: r => by rw [secs, List.length_cons, secs_length n r, List.length_cons]
def mid (n : Nat) (X : List Hd) (j : Nat) : List Sc := (secs n X).take j ++ (X.map scOf).drop j
theorem mid_zero (n : Nat) (X : List Hd) : mid n X 0 = X.map scOf := by simp [mid]
theorem mid_end (n : Nat) (X : List Hd) : mid n X X.length = secs n X := by
  unfold mid
  rw [List.take_of_length_le (by rw [secs_length]; exact Nat.le_refl _), List.drop_eq_nil_of_le (by simp), List.append_nil]
theorem mid_len (n : Nat) (X : List Hd) {j : Nat} (h : j ≤ X.length) : (mid n X j).length = X.length := by
  unfold mid
  rw [List.length_append, List.length_take, List.length_drop, secs_length, List.length_map]; omega
theorem mid_form (n : Nat) (X : List Hd) {j : Nat} (h : j < X.length) : mid n X j = (secs n X).take j ++ scOf X[j] :: (X.drop (j + 1)).map scOf := by
  unfold mid
  rw [List.drop_eq_getElem_cons (by rw [List.length_map]; exact h), List.getElem_map, List.map_drop]
theorem take_len (n : Nat) (X : List Hd) {j : Nat} (h : j < X.length) : ((secs n X).take j).length = j := by rw [List.length_take, secs_length]; omega
theorem mid_at (n : Nat) (X : List Hd) {j : Nat} (h : j < X.length) (hj : j < (mid n X j).length) : (mid n X j)[j] = scOf X[j] := by
  have e : (mid n X j)[j]? = some (scOf X[j]) := by
    rw [mid_form n X h, List.getElem?_append_right (by rw [take_len n X h]; exact Nat.le_refl _), take_len n X h, Nat.sub_self, List.getElem?_cons_zero]
  rw [List.getElem?_eq_getElem hj] at e
  exact Option.some.inj e
theorem mid_drop (n : Nat) (X : List Hd) {j : Nat} (h : j < X.length) : (mid n X j).drop (j + 1) = (X.drop (j + 1)).map scOf := by
  rw [mid_form n X h, List.drop_append, List.drop_eq_nil_of_le (by rw [take_len n X h]; omega), take_len n X h, List.nil_append, Nat.add_sub_cancel_left]; rfl
theorem endS_map (n lv : Nat) : ∀ L : List Hd, endS n lv (L.map scOf) = endOf n lv L
  | [] => rfl
  | x :: r => by
    have ih := endS_map n lv r
    rw [List.map_cons, endS_cons, ih]
    unfold endOf
    rw [List.find?_cons]
    by_cases h : x.lv ≤ lv
    · rw [if_pos (show (scOf x).lv ≤ lv from h), decide_eq_true h]; rfl
    · rw [if_neg (show ¬ (scOf x).lv ≤ lv from h), decide_eq_false h]
theorem secs_at (n : Nat) (X : List Hd) {j : Nat} (h : j < X.length) : (secs n X)[j]? = some ⟨X[j].lv, X[j].ti, X[j].fr, X[j].bo, endOf n X[j].lv (X.drop (j + 1))⟩ := by
  have h2 := List.getElem?_eq_getElem (l := secs n X) (i := j) (by rw [secs_length]; exact h)
  obtain ⟨y, hy, he⟩ := secs_get h2
  rw [List.getElem?_eq_getElem h] at hy
  cases hy
  rw [h2, he]
theorem mid_succ (n : Nat) (X : List Hd) {j : Nat} (h : j < X.length) : mid n X (j + 1) = (mid n X j).set j ⟨X[j].lv, X[j].ti, X[j].fr, X[j].bo, endOf n X[j].lv (X.drop (j + 1))⟩ := by
  rw [mid_form n X h, List.set_append_right _ _ (by rw [take_len n X h]; exact Nat.le_refl _), take_len n X h, Nat.sub_self]
  unfold mid
  rw [List.take_add_one, secs_at n X h, List.map_drop]
  simp
theorem flat_set : ∀ (l : List Sc) (j e : Nat) (x : Sc), l[j]? = some x → (l.flatMap encSc).set (j * 5 + 4) (.int .i64 (e : Int)) = (l.set j ⟨x.lv, x.ti, x.fr, x.bo, e⟩).flatMap encSc
  | [], _, _, _, h => by simp at h
  | a :: r, 0, e, x, h => by simp at h; subst h; rfl
  | a :: r, j + 1, e, x, h => by
    have ih := flat_set r j e x (by simpa using h)
    rw [List.set_cons_succ, List.flatMap_cons, List.flatMap_cons, ← ih, List.set_append_right _ _ (by rw [encSc_len]; omega), encSc_len]
    congr 2; omega
/-- The store of an end. -/
theorem flat_mid (n : Nat) (X : List Hd) {j : Nat} (h : j < X.length) : ((mid n X j).flatMap encSc).set (j * 5 + 4) (.int .i64 ((endOf n X[j].lv (X.drop (j + 1)) : Nat) : Int)) = (mid n X (j + 1)).flatMap encSc := by
  have hj : j < (mid n X j).length := by rw [mid_len n X (Nat.le_of_lt h)]; exact h
  rw [mid_succ n X h, flat_set _ j _ (scOf X[j]) (by rw [List.getElem?_eq_getElem hj, mid_at n X h hj])]
  rfl
end Go.Proofs.YtdojbnngdlmbgaaGreatDoor.Se

namespace Go.Proofs.YtdojbnngdlmbgaaGreatDoor.Se
open Go.RowKit Go.Shelf Go.Proofs.YtdojbnngdlmbgaaGreatDoor.Tr
set_option linter.unusedVariables false
set_option linter.unusedSimpArgs false

theorem len_tot : ∀ l : List By, l.length ≤ tot l
  | [] => Nat.le_refl _
  | x :: r => by have := len_tot r; simp only [tot, List.length_cons]; omega
theorem Con_at {g o m c a : Nat} {pl : List Bool} {w : World} {bb : Bool} (hn : a + m ≤ pl.length) (hb : m ≤ 65536) (hc : ∀ (i : Nat) (x : Bool), pl[i]? = some x → ∀ (j : Nat) (u : Value), (encO x)[j]? = some u → w.cell? ⟨g, o + i * 1 + j, none⟩ = some u) (hbb : ((pl.drop a).take m).contains false = bb) :
    Calls Tryz.prog 44 #[.slice (some ⟨g, o + a, none⟩) m c, .bool false] w fun e w' => e = .returned (.bool bb) ∧ w' = w := by
  have := Con_any g (o + a) m c (pl.drop a) w (by rw [List.length_drop]; omega) hb (fun j b hj => by
    rw [List.getElem?_drop] at hj
    have := hc (a + j) b hj 0 _ rfl
    rw [show o + a + j = o + (a + j) * 1 + 0 by omega]; exact this)
  rw [hbb] at this; exact this
set_option maxRecDepth 100000 in
set_option maxHeartbeats 4000000 in
theorem Sections_any (s : ByteArray) (w : World) (ht : Tk.Tb w) (hs : s.size ≤ 8192) :
    Calls Tryz.prog 16 #[.string s] w fun e w' => ∃ v, e = .returned (.tuple #[v, .int .i64 0]) ∧ OwnSc w' w.heap.size v (secs s.size (hds headOf (plainOf (Pa.tree (Pa.toks s.data.toList))) s.size 0 (lines s.data.toList))) ∧ Below w.heap.size w w' := by
  have hpl : (plainOf (Pa.tree (Pa.toks s.data.toList))).length = s.size := by rw [plainOf_len, Pa.src_parse]; exact size_list s
  have hsrc : (src (Pa.tree (Pa.toks s.data.toList))).length ≤ 65536 := by rw [Pa.src_parse, size_list]; omega
  have HP : Hid (Calls Tryz.prog 12 #[.string s] w fun e w' => ∃ v d, e = .returned (.tuple #[v, .int .i64 0]) ∧ LRx d w' (In w.heap.size w') v (Pa.tree (Pa.toks s.data.toList)) ∧ Below w.heap.size w w') := Lib.hid (Pa.Parse_any s w ht hs)
  generalize Pa.tree (Pa.toks s.data.toList) = T at hpl hsrc HP ⊢
  have HL := Lib.hid (tot_lines s.data.toList)
  rw [size_list] at HL
  have HLL : Hid (∀ w, Tk.Tb w → Calls Tryz.prog 42 #[.string s, .string ⟨#[10]⟩] w fun e w' => ∃ (g : Nat) (Ls : List ByteArray), e = .returned (.slice (some ⟨g, 0, none⟩) Ls.length Ls.length) ∧ Ls.map (·.data.toList) = lines s.data.toList ∧
      g < w'.heap.size ∧ (∀ i x, Ls[i]? = some x → w'.cell? ⟨g, i, none⟩ = some (.string x)) ∧ Below w.heap.size w w') := Lib.hid fun w ht => Split_any s w ht (by omega)
  generalize lines s.data.toList = LL at HL HLL ⊢
  go_enter Tryz.func16, Tryz.ntmps16
  go_wp2_with fail
  with_reducible refine (HP.out).mono ?_
  rintro e w1 ⟨v1, d, rfl, hr1, b1⟩
  have HR1 : Hid (LRd (d + 1) w1 w1.heap.size v1 T) := Lib.hid ((hr1.rd (fun g hg => hg.2.1)).deep1)
  have B1 := Lib.hid b1
  have T1 := Lib.hid (ht.below b1)
  clear HP hr1 b1 ht
  go_wp2_with fail
  with_reducible refine (plain_any d v1 T w1 HR1.out hsrc).mono ?_
  rintro e w2 ⟨v2, rfl, o2, b2⟩
  have P2 : Hid (Rd 1 encO w2 w2.heap.size v2 (plainOf T)) := Lib.hid (rd_own encO_len o2)
  have B2 := Lib.hid (B1.out.trans (b2.mono B1.out.size))
  have T2 := Lib.hid (T1.out.below b2)
  clear HR1 o2 b2 T1 B1
  go_wp2_with fail
  with_reducible refine (HLL.out w2 T2.out).mono ?_
  rintro e w0 ⟨gl, Ls, rfl, el, gl1, gl2, b3⟩
  have P0 : Hid (Rd 1 encO w0 w0.heap.size v2 (plainOf T)) := Lib.hid (P2.out.up b3)
  have B0 := Lib.hid (B2.out.trans (b3.mono B2.out.size))
  have GL := Lib.hid gl2
  have EL := Lib.hid el
  have hll : Ls.length = LL.length := by rw [← el, List.length_map]
  clear HLL P2 B2 T2 b3 gl2 el
  obtain ⟨A, c, rfl, hc1, hc2, RP⟩ := P0.out.ex
  unfold maxLen at hc2
  have RP' := Lib.hid RP
  clear RP P0
  rw [hpl] at hc1
  obtain ⟨n, hn⟩ : ∃ n, n = s.size := ⟨_, rfl⟩
  have hni : (s.size : Int) = (n : Int) := by omega
  rw [hpl, ← hn]
  rw [← hn] at HL hs hc1 hpl
  obtain ⟨pl, hplx⟩ : ∃ pl, pl = plainOf T := ⟨_, rfl⟩
  rw [← hplx] at hpl RP'
  have HPX := Lib.hid hplx
  have HNX := Lib.hid hn
  clear hplx
  obtain ⟨i0, hi0, hz0, hz1, hz2⟩ := info_parts scInfo
  have hll2 : Ls.length ≤ 8193 := by have := len_tot LL; have := HL.out; omega
  go_wp2_with fail
  go_loopw [7, 8, 29] (fun nv av iv wr => ∃ (i a : Nat) (X : List Hd), i ≤ Ls.length ∧ iv = .int .i64 (i : Int) ∧ av = .int .i64 (a : Int) ∧ X.length ≤ i ∧ a ≤ n + 1 ∧ Hid (a + tot (LL.drop i) = n + 1) ∧ Hid (hds headOf pl n 0 LL = X ++ hds headOf pl n a (LL.drop i)) ∧ Hid (OwnSc wr w0.heap.size nv (X.map scOf)) ∧ Hid (Below w0.heap.size w0 wr)) (fun _ _ iv _ => Ls.length - (intOf iv).toNat)
  case atStart => exact ⟨0, 0, [], Nat.zero_le _, rfl, rfl, Nat.le_refl _, Nat.zero_le _, Lib.hid (by rw [Nat.zero_add]; exact HL.out), Lib.hid rfl, Lib.hid ⟨by simp, .inl ⟨rfl, rfl⟩⟩, Lib.hid (Below.refl _ _)⟩
  case round =>
    obtain ⟨i, a, X, hi, rfl, rfl, hX, ha, hA, hD, hO, hB⟩ := hrel
    by_cases hlt : i < Ls.length
    · have hlti : (i : Int) < (Ls.length : Int) := by omega
      have hx := GL.out i Ls[i] (List.getElem?_eq_getElem hlt)
      have hl2 : i < LL.length := by omega
      have HX : Hid (LL.drop i = Ls[i].data.toList :: LL.drop (i + 1)) := Lib.hid (by
        have e1 : LL[i] = Ls[i].data.toList := by
          have := EL.out
          subst this
          rw [List.getElem_map]
        rw [List.drop_eq_getElem_cons hl2, e1])
      generalize Ls[i] = x at hx HX
      have hzx := size_list x
      obtain ⟨xl, hxl⟩ : ∃ xl, xl = x.size := ⟨_, rfl⟩
      have hxi : (x.size : Int) = (xl : Int) := by omega
      have hA2 : Hid (a + xl + 1 + tot (LL.drop (i + 1)) = n + 1) := Lib.hid (by have := hA.out; rw [HX.out, tot, hzx] at this; omega)
      have hle : a + xl ≤ n := by have := hA2.out; omega
      have hc : ∀ j, wr.cell? ⟨gl, j, none⟩ = w0.cell? ⟨gl, j, none⟩ := fun j => hB.out.cell (p := ⟨gl, j, none⟩) gl1
      rw [← hc] at hx
      clear hc
      rw [← hxl] at hzx
      have hXl : (X.map scOf).length ≤ 8193 := by rw [List.length_map]; omega
      cases hh : headOf x.data.toList with
      | none =>
        have HH : Hid (∀ w, Calls Tryz.prog 43 #[.string x] w fun e w' => e = .returned (.tuple #[.int .i64 0, .string ⟨#[]⟩, .bool false]) ∧ Below w.heap.size w w') := Lib.hid fun w => heading_none x w (by omega) hh
        have HD2 : Hid (hds headOf pl n 0 LL = X ++ hds headOf pl n (a + xl + 1) (LL.drop (i + 1))) := Lib.hid (by rw [hD.out, HX.out, hds_no hh, hzx])
        clear hh hzx
        go_wp2_with fail
        with_reducible refine (HH.out _).mono ?_
        rintro e w3 ⟨rfl, b3⟩
        have B3 := Lib.hid (hB.out.trans (b3.mono hB.out.size))
        have O3 : Hid (OwnSc w3 w0.heap.size u7 (X.map scOf)) := Lib.hid (row_below hO.out b3 (Nat.le_refl _))
        clear b3 HH hO hB
        go_wp2_with fail
        go_roundw
        case rel => exact ⟨i + 1, a + xl + 1, X, by omega, by go_num, by go_num, by omega, by omega, hA2, HD2, O3, B3⟩
        case measure => simp [intOf]; omega
      | some vt =>
        obtain ⟨v, t⟩ := vt
        have HH : Hid (∀ w, Calls Tryz.prog 43 #[.string x] w fun e w' => e = .returned (.tuple #[.int .i64 (v : Int), .string (bsl t), .bool true]) ∧ Below w.heap.size w w') := Lib.hid fun w => heading_some x w (by omega) hh
        have hx0 : 0 < xl := by
          rcases Nat.eq_zero_or_pos xl with h0 | h0
          · rw [List.eq_nil_of_length_eq_zero (hzx.trans h0), headOf_nil] at hh; cases hh
          · exact h0
        obtain ⟨gp, op, rfl, hgp, qp⟩ := RP'.out (by omega)
        have HQ : Hid (∀ W, Below w0.heap.size w0 W → ∀ (bb : Bool) (m cc : Nat), m = xl → ((pl.drop a).take xl).contains false = bb → Calls Tryz.prog 44 #[.slice (some ⟨gp, op + a, none⟩) m cc, .bool false] W fun e w' => e = .returned (.bool bb) ∧ w' = W) := Lib.hid fun W hW bb m cc hm hbb => by
          subst hm
          exact Con_at (by rw [hpl]; omega) (by omega) (fun i x hx j u hu => (hW.cell (p := ⟨gp, op + i * 1 + j, none⟩) hgp).trans (qp i x hx j u hu)) hbb
        have s1 : (0 : Int) ≤ (a : Int) := by omega
        have s2 : (a : Int) ≤ (a : Int) + (xl : Int) := by omega
        have s3 : (a : Int) + (xl : Int) ≤ (c : Int) := by omega
        have s4 : ((a : Int) + (xl : Int)).toNat = a + xl := by omega
        have s5 : ¬ c = a := by omega
        have s6 : a + xl - a = xl := by omega
        clear qp
        cases hbb : ((pl.drop a).take xl).contains false with
        | true =>
          have HD2 : Hid (hds headOf pl n 0 LL = X ++ hds headOf pl n (a + xl + 1) (LL.drop (i + 1))) := Lib.hid (by rw [hD.out, HX.out, hds_skip hh (by rw [hzx]; exact hbb), hzx])
          have HBB := Lib.hid hbb
          clear hh hzx hbb
          go_wp2_with fail
          with_reducible refine (HH.out _).mono ?_
          rintro e w3 ⟨rfl, b3⟩
          have B3 := Lib.hid (hB.out.trans (b3.mono hB.out.size))
          have O3 : Hid (OwnSc w3 w0.heap.size u7 (X.map scOf)) := Lib.hid (row_below hO.out b3 (Nat.le_refl _))
          clear b3 HH hO hB
          go_wp2_with fail
          with_reducible refine (HQ.out w3 B3.out true _ _ hxl.symm HBB.out).mono ?_
          rintro e w4 ⟨rfl, rfl⟩
          clear HQ
          go_wp2_with fail
          go_roundw
          case rel => exact ⟨i + 1, a + xl + 1, X, by omega, by go_num, by go_num, by omega, by omega, hA2, HD2, O3, B3⟩
          case measure => simp [intOf]; omega
        | false =>
          obtain ⟨bo, hbo⟩ : ∃ bo, bo = min (a + xl + 1) n := ⟨_, rfl⟩
          have HD2 : Hid (hds headOf pl n 0 LL = (X ++ [⟨v, t, a, bo⟩]) ++ hds headOf pl n (a + xl + 1) (LL.drop (i + 1))) := Lib.hid (by rw [hD.out, HX.out, hds_take hh (by rw [hzx]; exact hbb), hzx, hbo]; simp)
          have HBB := Lib.hid hbb
          have HM : ∀ (ts : Array TypeId) (t : TypeId) (w : World), (Builtin.min_ ts t #[.int .i64 ((a : Int) + (xl : Int) + 1), .int .i64 (n : Int)]).run Tryz.prog w = .ok (.int .i64 (bo : Int)) w := by
            intro ts t w
            rw [run_min_int2]
            congr 2
            split <;> omega
          have HBO := Lib.hid hbo
          have HXS : Hid ((X ++ [(⟨v, t, a, bo⟩ : Hd)]).map scOf = X.map scOf ++ [⟨v, t, a, bo, 0⟩]) := Lib.hid (by rw [List.map_append]; rfl)
          have hOo := hO.out
          generalize X.map scOf = L at HXS hXl hOo
          clear hh hzx hbb hbo hO
          go_wp2_with fail
          with_reducible refine (HH.out _).mono ?_
          rintro e w3 ⟨rfl, b3⟩
          have B3 := Lib.hid (hB.out.trans (b3.mono hB.out.size))
          have O3 : Hid (OwnSc w3 w0.heap.size u7 L) := Lib.hid (row_below hOo b3 (Nat.le_refl _))
          have hb3 : w0.heap.size ≤ w3.heap.size := B3.out.size
          clear b3 HH hOo hB
          go_wp2_with fail
          with_reducible refine (HQ.out w3 B3.out false _ _ hxl.symm HBB.out).mono ?_
          rintro e w4 ⟨rfl, rfl⟩
          clear HQ
          go_wp2_with (at_builtin; refine wpList_append_own _ rfl (.tmp 52) (.tmp 62) _ rfl w0.heap.size 40 i0 _ 5 48 Tryz.underlying33 hi0 hz0 hz1 hz2 rfl (by omega) u7 L.length (L.flatMap encSc) rfl (World.ownsRow.alloc O3.out _) ⟨w4.heap.size, 0, none⟩ 1 1 (encSc ⟨v, t, a, bo, 0⟩) rfl rfl (cells_new w4 (encSc ⟨v, t, a, bo, 0⟩) 40) (by simp [encSc, Value.oneCell']) (by simp only [maxLen]; omega) (by omega) (by simp; omega) ?_; intro v5 w5 ho5 hg5 _)
          have O5 : Hid (OwnSc w5 w0.heap.size v5 ((X ++ [(⟨v, t, a, bo⟩ : Hd)]).map scOf)) := Lib.hid (by rw [HXS.out]; exact snocSc ho5)
          have B5 := Lib.hid (B3.out.trans (((Below.refl _ _).alloc hb3 _).trans (below_own (World.ownsRow.alloc O3.out _) hg5 (by simp; omega))))
          clear ho5 hg5 O3 B3
          go_wp2
          go_roundw
          case rel => exact ⟨i + 1, a + xl + 1, X ++ [(⟨v, t, a, bo⟩ : Hd)], by omega, by go_num, by go_num, by rw [List.length_append, List.length_singleton]; omega, by omega, hA2, HD2, O5, B5⟩
          case measure => simp [intOf]; omega
    · have hie : i = Ls.length := by omega
      have hlti : ¬ (i : Int) < (Ls.length : Int) := by omega
      have HE : Hid (hds headOf pl n 0 LL = X) := Lib.hid (by rw [hD.out, List.drop_eq_nil_of_le (by omega), hds, List.append_nil])
      have hXn : X.length ≤ 8193 := by omega
      have hOo := hO.out
      have hBo := hB.out
      clear hA hD hO hB HL GL EL RP'
      rcases hOo.2 with ⟨e1, e2⟩ | ⟨g, cap, cur, e1, hgb, hrow, hc3, hc4, _⟩
      · subst e1
        have hX0 : X = [] := by
          cases X with
          | nil => rfl
          | cons x r => simp [encSc] at e2
        subst hX0
        go_wp2_with fail
        go_loopw [69] (fun iv wr2 => iv = .int .i64 0 ∧ Hid (wr2 = wr)) (fun _ _ => 0)
        case atStart => exact ⟨rfl, Lib.hid rfl⟩
        case round =>
          obtain ⟨rfl, hw⟩ := hrel
          go_wp2_with fail
          go_ret2
          refine ⟨.slice none 0 0, rfl, ?_, ?_⟩
          · rw [← HPX.out, ← HNX.out, HE.out]; exact ⟨by simp [secs], .inl ⟨rfl, rfl⟩⟩
          · rw [hw.out]; exact B0.out.trans (hBo.mono B0.out.size)
      · subst e1
        simp only [List.length_map] at hOo hc3 ⊢
        have HX0 : Hid (OwnSc wr w0.heap.size (.slice (some ⟨g, 0, none⟩) X.length cap) (mid n X 0)) := Lib.hid (by unfold OwnSc at hOo ⊢; rw [List.length_map] at hOo; rw [mid_zero, List.length_map]; exact hOo)
        clear hOo hrow
        have hzs : 0 ≤ X.length := Nat.zero_le _
        go_wp2_with fail
        go_loopw [69] (fun iv wr2 => ∃ j : Nat, j ≤ X.length ∧ iv = .int .i64 (j : Int) ∧ Hid (OwnSc wr2 w0.heap.size (.slice (some ⟨g, 0, none⟩) X.length cap) (mid n X j)) ∧ Hid (Below w0.heap.size w0 wr2)) (fun iv _ => X.length - (intOf iv).toNat)
        case atStart => exact ⟨0, Nat.zero_le _, rfl, HX0, Lib.hid hBo⟩
        case round =>
          obtain ⟨j, hj, rfl, ho, hb⟩ := hrel
          by_cases hlt : j < X.length
          · have hji : (j : Int) < (X.length : Int) := by omega
            have hml := mid_len n X hj
            have hjm : j < (mid n X j).length := by omega
            have hE := end_any (.slice (some ⟨g, 0, none⟩) X.length cap) (mid n X j) j n wr ho.out.rd (by omega) hjm (by omega)
            have e1 : (mid n X j)[j].lv = X[j].lv := by rw [mid_at n X hlt hjm]; rfl
            rw [e1, mid_drop n X hlt, endS_map] at hE
            have HF := Lib.hid (flat_mid n X hlt)
            have HA : Hid (((mid n X j).flatMap encSc)[j * 5 + 4]? = some (.int .i64 0)) := Lib.hid (flat_at encSc_len (mid n X j) j (scOf X[j]) (by rw [List.getElem?_eq_getElem hjm, mid_at n X hlt hjm]) 4 _ rfl)
            have HML : Hid ((mid n X (j + 1)).length = X.length) := Lib.hid (mid_len n X hlt)
            generalize endOf n X[j].lv (X.drop (j + 1)) = en at hE HF
            have HEN := Lib.hid hE
            clear hE e1 hjm
            go_wp2_with fail
            with_reducible refine (HEN.out).mono ?_
            rintro e w3 ⟨rfl, b3⟩
            have B3 := Lib.hid (hb.out.trans (b3.mono hb.out.size))
            have r3 : w3.ownsRow w0.heap.size 40 5 (.slice (some ⟨g, 0, none⟩) X.length cap) X.length ((mid n X j).flatMap encSc) := by
              have := row_below ho.out b3 (Nat.le_refl _)
              rw [hml] at this; exact this
            have c3 : w3.cell? ⟨g, j * 5 + 4, none⟩ = some (.int .i64 0) := by rw [World.ownsRow.cellAt r3 _ (by omega)]; exact HA.out
            have f3 := World.ownsRow.frozenAt r3 (j * 5 + 4)
            have R3 := Lib.hid r3
            clear HEN b3 ho hb r3
            go_wp2_with fail
            go_roundw
            case rel =>
              refine ⟨j + 1, by omega, by go_num, Lib.hid ?_, Lib.hid (B3.out.setCell hgb _)⟩
              have := (World.ownsRow.stored R3.out (j * 5 + 4) (.int .i64 (en : Int))).1
              rw [HF.out] at this
              unfold OwnSc; rw [HML.out]; exact this
            case measure => simp [intOf]; omega
          · have hji : ¬ (j : Int) < (X.length : Int) := by omega
            obtain rfl : j = X.length := by omega
            go_wp2_with fail
            go_ret2
            refine ⟨.slice (some ⟨g, 0, none⟩) X.length cap, rfl, ?_, ?_⟩
            · rw [← HPX.out, ← HNX.out, HE.out, ← mid_end n X]; exact row_base ho.out B0.out.size
            · exact B0.out.trans (hb.out.mono B0.out.size)
end Go.Proofs.YtdojbnngdlmbgaaGreatDoor.Se
