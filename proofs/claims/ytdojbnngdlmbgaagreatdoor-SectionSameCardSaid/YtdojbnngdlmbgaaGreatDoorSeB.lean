/-
  The contract of heading.
  The contract of end.
  The contract of slices.Repeat at one element.
  The contract of plainBytes.
-/
import Derived.Test.YtdojbnngdlmbgaaGreatDoorSeA
import Derived.Laws.CopyOwn
import Derived.Deep.RegionLaw
import Derived.Deep.OwnRows
import Derived.Test.YtdojbnngdlmbgaaGreatDoorPaF
namespace Go.Proofs.YtdojbnngdlmbgaaGreatDoor.Se
open Go.RowKit Go.Shelf
set_option linter.unusedVariables false
set_option linter.unusedSimpArgs false

def hdV (o : Option (Nat × List UInt8)) : Value := match o with
  | none => .tuple #[.int .i64 0, .string ⟨#[]⟩, .bool false]
  | some (v, t) => .tuple #[.int .i64 (v : Int), .string (bsl t), .bool true]
theorem tl_le (l cs : List UInt8) : (Lib.trimLeftS l cs).length ≤ l.length := by
  unfold Lib.trimLeftS
  exact List.IsSuffix.length_le (List.dropWhile_suffix _)
theorem tr_le (l cs : List UInt8) : (Lib.trimRightS l cs).length ≤ l.length := by
  unfold Lib.trimRightS
  rw [List.length_reverse]
  refine Nat.le_trans (List.IsSuffix.length_le (List.dropWhile_suffix _)) ?_
  rw [List.length_reverse]; exact Nat.le_refl _
/-- The form of a heading, by how many "=" there are at the ends. -/
def headC (l : By) (x1 x2 : Nat) : Option (Nat × By) :=
  let lv := min 6 (min (l.length - x1) (l.length - x2))
  if lv = 0 ∨ l.length - x1 = l.length then none else
  let t := Lib.trimS ((l.drop lv).take (l.length - lv - lv)) bl
  if t = [] then none else some (lv, t)
theorem headOf_c {x l : By} (h : Lib.trimRightS x bl = l) : headOf x = headC l (Lib.trimLeftS l [61]).length (Lib.trimRightS l [61]).length := by subst h; rfl
theorem empty_is (l : By) : (bsl l).toList.isEmpty = decide (l = []) := by
  rw [show (bsl l).toList = l from by simp [bsl]]; cases l <;> rfl
theorem empty_beq (l : By) : ((bsl l).toList == (⟨#[]⟩ : ByteArray).toList) = decide (l = []) := str_beq l []
set_option maxRecDepth 100000 in
set_option maxHeartbeats 4000000 in
/-- From the trimmed line on. -/
theorem heading_in (S L1 L2 : ByteArray) (l : By) (x1 x2 lv : Nat) (hS : S = bsl l) (z1 : L1.size = x1) (z2 : L2.size = x2) (a1 : x1 ≤ l.length) (a2 : x2 ≤ l.length) (hl : l.length ≤ 4294967281) (hlv : min 6 (min (l.length - x1) (l.length - x2)) = lv) (hsl : l.length - x1 ≠ l.length → 2 * lv < l.length)
    (s : ByteArray) (w : World)
    (H1 : Hid (∀ w, Calls Tryz.prog 89 #[.string s, .string ⟨#[32, 9]⟩] w fun e w' => e = .returned (.string S) ∧ Below w.heap.size w w'))
    (H2 : Hid (∀ w, Calls Tryz.prog 90 #[.string S, .string ⟨#[61]⟩] w fun e w' => e = .returned (.string L1) ∧ Below w.heap.size w w'))
    (H3 : Hid (∀ w, Calls Tryz.prog 89 #[.string S, .string ⟨#[61]⟩] w fun e w' => e = .returned (.string L2) ∧ Below w.heap.size w w'))
    (T : ByteArray) (hT : T = bsl (Lib.trimS ((l.drop lv).take (l.length - lv - lv)) bl))
    (H4 : Hid (∀ w, Calls Tryz.prog 47 #[.string (S.extract lv (l.length - lv)), .string ⟨#[32, 9]⟩] w fun e w' => e = .returned (.string T) ∧ Below w.heap.size w w')) :
    Calls Tryz.prog 43 #[.string s] w fun e w' => e = .returned (hdV (headC l x1 x2)) ∧ Below w.heap.size w w' := by
  have HSl := Lib.hid hsl
  have zS : S.size = l.length := by rw [hS, bsl_size]
  have HS := Lib.hid hS
  have HO : Hid (headC l x1 x2 = if lv = 0 ∨ l.length - x1 = l.length then none else if Lib.trimS ((l.drop lv).take (l.length - lv - lv)) bl = [] then none else some (lv, Lib.trimS ((l.drop lv).take (l.length - lv - lv)) bl)) := Lib.hid (by subst hlv; rfl)
  have i1 : (S.size : Int) = (l.length : Int) := by omega
  have i2 : (L1.size : Int) = (x1 : Int) := by omega
  have i3 : (L2.size : Int) = (x2 : Int) := by omega
  have m1 : min (min (6 : Int) ((l.length : Int) - (x1 : Int))) ((l.length : Int) - (x2 : Int)) = (lv : Int) := by omega
  have m2 : min (6 : Int) (min ((l.length : Int) - (x1 : Int)) ((l.length : Int) - (x2 : Int))) = (lv : Int) := by omega
  clear hS hsl z1 z2 zS
  go_enter Tryz.func43, Tryz.ntmps43
  go_wp2_with fail
  with_reducible refine (H1.out _).mono ?_
  rintro e w1 ⟨rfl, b1⟩
  have B1 := Lib.hid b1
  clear b1 H1
  go_wp2_with fail
  with_reducible refine (H2.out _).mono ?_
  rintro e w2 ⟨rfl, b2⟩
  have B2 := Lib.hid (B1.out.trans (b2.mono B1.out.size))
  clear b2 H2 B1
  go_wp2_with fail
  with_reducible refine (H3.out _).mono ?_
  rintro e w3 ⟨rfl, b3⟩
  have B3 := Lib.hid (B2.out.trans (b3.mono B2.out.size))
  clear b3 H3 B2
  have HM : ∀ (ts : Array TypeId) (t : TypeId) (w : World), (Builtin.min_ ts t #[.int .i64 6, .int .i64 ((l.length : Int) - (x1 : Int)), .int .i64 ((l.length : Int) - (x2 : Int))]).run Tryz.prog w = .ok (.int .i64 (lv : Int)) w := by
    intro ts t w
    rw [Go.run_min_int3]
    congr 2
    rw [← m1]
    by_cases q1 : (l.length : Int) - (x1 : Int) < 6
    · rw [if_pos q1]; split <;> omega
    · rw [if_neg q1]; split <;> omega
  by_cases h0 : lv = 0
  · have d0 : ((lv : Int) == 0) = true := by rw [beq_iff_eq]; omega
    have HN : Hid (headC l x1 x2 = none) := Lib.hid (by rw [HO.out, if_pos (.inl h0)])
    clear HO HSl h0 hlv m1 m2
    go_wp2
    go_ret3
    exact ⟨by rw [HN.out]; rfl, B3.out⟩
  have d0 : ((lv : Int) == 0) = false := by rw [beq_eq_false_iff_ne]; omega
  by_cases h1 : l.length - x1 = l.length
  · have d1 : (((l.length : Int) - (x1 : Int)) == (l.length : Int)) = true := by rw [beq_iff_eq]; omega
    have HN : Hid (headC l x1 x2 = none) := Lib.hid (by rw [HO.out, if_pos (.inr h1)])
    clear HO HSl h0 hlv m1 m2 h1
    go_wp2
    go_ret3
    exact ⟨by rw [HN.out]; rfl, B3.out⟩
  have d1 : (((l.length : Int) - (x1 : Int)) == (l.length : Int)) = false := by rw [beq_eq_false_iff_ne]; omega
  have g1 : 2 * lv < l.length := HSl.out h1
  have g2 : (0 : Int) ≤ (lv : Int) := by omega
  have g3 : (lv : Int) ≤ (l.length : Int) - (lv : Int) := by omega
  have g4 : (l.length : Int) - (lv : Int) ≤ (l.length : Int) := by omega
  have g5 : ((l.length : Int) - (lv : Int)).toNat = l.length - lv := by omega
  have HO2 : Hid (headC l x1 x2 = if Lib.trimS ((l.drop lv).take (l.length - lv - lv)) bl = [] then none else some (lv, Lib.trimS ((l.drop lv).take (l.length - lv - lv)) bl)) := Lib.hid (by rw [HO.out, if_neg (by rintro (q | q) <;> omega)])
  have HB : Hid (T.toList.isEmpty = decide (Lib.trimS ((l.drop lv).take (l.length - lv - lv)) bl = [])) := Lib.hid (by rw [hT, empty_is])
  have HT := Lib.hid hT
  clear HO HSl h0 hlv m1 m2 h1 hT
  go_wp2_with fail
  with_reducible refine (H4.out _).mono ?_
  rintro e w4 ⟨rfl, b4⟩
  have B4 := Lib.hid (B3.out.trans (b4.mono B3.out.size))
  clear b4 H4 B3
  by_cases hn : Lib.trimS ((l.drop lv).take (l.length - lv - lv)) bl = []
  · have e1 : T.toList.isEmpty = true := by rw [HB.out, hn]; rfl
    have HN : Hid (headC l x1 x2 = none) := Lib.hid (by rw [HO2.out, if_pos hn])
    clear HB HO2 hn HT
    go_wp2
    go_ret3
    exact ⟨by rw [HN.out]; rfl, B4.out⟩
  · have e1 : T.toList.isEmpty = false := by rw [HB.out]; exact decide_eq_false hn
    have HN : Hid (hdV (headC l x1 x2) = .tuple #[.int .i64 (lv : Int), .string T, .bool true]) := Lib.hid (by rw [HO2.out, if_neg hn, HT.out]; rfl)
    clear HB HO2 hn HT
    go_wp2
    go_ret3
    exact ⟨by rw [HN.out]; rfl, B4.out⟩
set_option maxHeartbeats 1000000
theorem dw_ge (p : UInt8 → Bool) (a : UInt8) (ha : p a = false) (v : By) : ∀ u : By, v.length + 1 ≤ ((u ++ a :: v).dropWhile p).length := by
  intro u
  induction u with
  | nil => rw [List.nil_append, List.dropWhile_cons, ha]; simp
  | cons b u ih =>
    rw [List.cons_append, List.dropWhile_cons]
    split
    · exact ih
    · simp only [List.length_cons, List.length_append]; omega
theorem ends_lt (l cs : By) (h : (Lib.trimLeftS l cs).length ≠ 0) : l.length < (Lib.trimLeftS l cs).length + (Lib.trimRightS l cs).length := by
  unfold Lib.trimLeftS Lib.trimRightS at *
  rw [List.length_reverse]
  have h1 := List.takeWhile_append_dropWhile (p := fun c => cs.contains c) (l := l)
  match hd : l.dropWhile (fun c => cs.contains c), h with
  | [], h => exact absurd rfl h
  | a :: r, h =>
    have ha : (fun c => cs.contains c) a = false := by
      have := List.head_dropWhile_not (fun c => cs.contains c) (l := l) (by rw [hd]; simp)
      rw [show (l.dropWhile (fun c => cs.contains c)).head (by rw [hd]; simp) = a from by simp only [hd, List.head_cons]] at this
      exact this
    have h2 := dw_ge (fun c => cs.contains c) a ha (l.takeWhile (fun c => cs.contains c)).reverse r.reverse
    have h3 : l.reverse = r.reverse ++ a :: (l.takeWhile (fun c => cs.contains c)).reverse := by
      have h5 : ∀ (t : By), t ++ a :: r = l → l.reverse = r.reverse ++ a :: t.reverse := by
        intro t e; rw [← e]; simp
      exact h5 _ (by rw [← hd]; exact h1)
    have h4 : l.length = (l.takeWhile (fun c => cs.contains c)).length + (r.length + 1) := by
      have := congrArg List.length h1
      rw [hd, List.length_append, List.length_cons] at this; omega
    rw [h3]
    rw [List.length_reverse] at h2
    simp only [List.length_cons]
    omega
theorem sub_bsl (l : By) (a b : Nat) : ((bsl l).extract a b).data.toList = (l.drop a).take (b - a) := by
  rw [ByteArray.data_extract, Array.toList_extract]; simp [bsl, List.extract]
/-- heading tells the level and the title. -/
theorem heading_any (s : ByteArray) (w : World) (hs : s.size ≤ 4294967281) : Calls Tryz.prog 43 #[.string s] w fun e w' => e = .returned (hdV (headOf s.data.toList)) ∧ Below w.heap.size w w' := by
  have hbl : ∀ (j : Nat) b, (⟨#[32, 9]⟩ : ByteArray).data.toList[j]? = some b → b.toNat < 128 := by
    intro j b h
    match j, h with
    | 0, h => cases h; decide
    | 1, h => cases h; decide
    | j + 2, h => cases h
  have h61 : ∀ (j : Nat) b, (⟨#[61]⟩ : ByteArray).data.toList[j]? = some b → b.toNat < 128 := by
    intro j b h
    match j, h with
    | 0, h => cases h; decide
    | j + 1, h => cases h
  have hz : s.data.toList.length = s.size := Array.length_toList
  have hl := tr_le s.data.toList bl
  have q1 := tl_le (Lib.trimRightS s.data.toList bl) [61]
  have q2 := tr_le (Lib.trimRightS s.data.toList bl) [61]
  rw [headOf_c rfl]
  refine heading_in (bsl (Lib.trimRightS s.data.toList bl)) (bsl (Lib.trimLeftS (Lib.trimRightS s.data.toList bl) [61])) (bsl (Lib.trimRightS (Lib.trimRightS s.data.toList bl) [61])) (Lib.trimRightS s.data.toList bl) _ _ _ rfl (bsl_size _) (bsl_size _) q1 q2 (by omega) rfl ?_ s w
    (Lib.hid fun w => TrimR_any s ⟨#[32, 9]⟩ w (by omega) (by decide) hbl)
    (Lib.hid fun w => TrimL_any (bsl _) ⟨#[61]⟩ w (by decide) h61)
    (Lib.hid fun w => TrimR_any (bsl _) ⟨#[61]⟩ w (by rw [bsl_size]; omega) (by decide) h61) _ rfl
    (Lib.hid fun w => ?_)
  · intro h
    have := ends_lt (Lib.trimRightS s.data.toList bl) [61] (by omega)
    omega
  · have := Trim_any ((bsl (Lib.trimRightS s.data.toList bl)).extract (min 6 (min ((Lib.trimRightS s.data.toList bl).length - (Lib.trimLeftS (Lib.trimRightS s.data.toList bl) [61]).length) ((Lib.trimRightS s.data.toList bl).length - (Lib.trimRightS (Lib.trimRightS s.data.toList bl) [61]).length))) ((Lib.trimRightS s.data.toList bl).length - (min 6 (min ((Lib.trimRightS s.data.toList bl).length - (Lib.trimLeftS (Lib.trimRightS s.data.toList bl) [61]).length) ((Lib.trimRightS s.data.toList bl).length - (Lib.trimRightS (Lib.trimRightS s.data.toList bl) [61]).length))))) ⟨#[32, 9]⟩ w (by rw [ByteArray.size_extract, bsl_size]; omega) (by decide) hbl
    rw [sub_bsl] at this
    exact this
end Go.Proofs.YtdojbnngdlmbgaaGreatDoor.Se

namespace Go.Proofs.YtdojbnngdlmbgaaGreatDoor.Se
open Go.RowKit Go.Shelf
set_option linter.unusedVariables false
set_option linter.unusedSimpArgs false

def endS (size lv : Nat) (l : List Sc) : Nat := match l.find? (fun x => decide (x.lv ≤ lv)) with
  | some x => x.fr
  | none => size
theorem endS_cons (size lv : Nat) (x : Sc) (l : List Sc) : endS size lv (x :: l) = if x.lv ≤ lv then x.fr else endS size lv l := by
  unfold endS
  rw [List.find?_cons]
  by_cases h : x.lv ≤ lv
  · rw [if_pos h, decide_eq_true h]
  · rw [if_neg h, decide_eq_false h]
theorem endS_drop (size lv : Nat) {l : List Sc} {j : Nat} (h : j < l.length) : endS size lv (l.drop j) = if l[j].lv ≤ lv then l[j].fr else endS size lv (l.drop (j + 1)) := by
  rw [List.drop_eq_getElem_cons h, endS_cons]
set_option maxRecDepth 100000 in
set_option maxHeartbeats 4000000 in
theorem end_any (v : Value) (l : List Sc) (k size : Nat) (w : World) (hr : Rd 5 encSc w w.heap.size v l) (hl : l.length ≤ 65536) (hk : k < l.length) (hs : size ≤ 65536) :
    Calls Tryz.prog 45 #[v, .int .i64 (k : Int), .int .i64 (size : Int)] w fun e w' => e = .returned (.int .i64 ((endS size l[k].lv (l.drop (k + 1)) : Nat) : Int)) ∧ Below w.heap.size w w' := by
  obtain ⟨A1, c1, rfl, l1, m1, r1⟩ := hr.ex
  unfold maxLen at m1
  clear hr
  obtain ⟨g, o, rfl, hg, q⟩ := r1 (by omega)
  have Q := Lib.hid q
  clear q r1
  have qk := Q.out k l[k] (List.getElem?_eq_getElem hk) 0 _ rfl
  obtain ⟨lv, hlv⟩ : ∃ lv, l[k].lv = lv := ⟨_, rfl⟩
  rw [hlv] at qk ⊢
  clear hlv
  simp only [Nat.add_zero] at qk
  have h1 : (k : Int) + 1 ≤ (l.length : Int) := by omega
  by_cases hn : l.length = k + 1
  · have HE : Hid (endS size lv (l.drop (k + 1)) = size) := Lib.hid (by rw [List.drop_eq_nil_of_le (by omega)]; rfl)
    generalize l.drop (k + 1) = L at HE ⊢
    have hz : l.length - (k + 1) = 0 := by omega
    have hz2 : ((l.length - (k + 1) : Nat) : Int) = 0 := by omega
    by_cases hc0 : c1 = k + 1
    · go_enter Tryz.func45, Tryz.ntmps45
      go_wp2
      go_loopw [14] (fun i wr => i = .int .i64 0 ∧ Hid (wr = w)) (fun _ _ => 0)
      case atStart => exact ⟨rfl, Lib.hid rfl⟩
      case round =>
        obtain ⟨rfl, hw⟩ := hrel
        go_wp2
        go_ret
        exact ⟨by rw [HE.out]; rfl, by rw [hw.out]; exact Below.refl _ _⟩
    · go_enter Tryz.func45, Tryz.ntmps45
      go_wp2
      go_loopw [14] (fun i wr => i = .int .i64 0 ∧ Hid (wr = w)) (fun _ _ => 0)
      case atStart => exact ⟨rfl, Lib.hid rfl⟩
      case round =>
        obtain ⟨rfl, hw⟩ := hrel
        go_wp2
        go_ret
        exact ⟨by rw [HE.out]; rfl, by rw [hw.out]; exact Below.refl _ _⟩
  have hc0 : ¬ c1 = k + 1 := by omega
  go_enter Tryz.func45, Tryz.ntmps45
  go_wp2
  go_loopw [14] (fun i wr => ∃ j : Nat, k + 1 + j ≤ l.length ∧ i = .int .i64 j ∧ Hid (Below w.heap.size w wr) ∧ Hid (endS size lv (l.drop (k + 1)) = endS size lv (l.drop (k + 1 + j)))) (fun i _ => l.length - (intOf i).toNat)
  case atStart => exact ⟨0, by omega, rfl, Lib.hid (Below.refl _ _), Lib.hid rfl⟩
  case round =>
    obtain ⟨j, hj, rfl, hb, hf⟩ := hrel
    by_cases hlt : k + 1 + j < l.length
    · have hki : (j : Int) < ((l.length - (k + 1) : Nat) : Int) := by omega
      have hki2 : j < l.length - (k + 1) := by omega
      have hx := List.getElem?_eq_getElem hlt
      have q1 := Q.out _ _ hx 0 _ rfl
      have q2 := Q.out _ _ hx 1 _ rfl
      have q3 := Q.out _ _ hx 2 _ rfl
      have q4 := Q.out _ _ hx 3 _ rfl
      have q5 := Q.out _ _ hx 4 _ rfl
      have HF := Lib.hid (endS_drop size lv hlt)
      generalize l[k + 1 + j] = p at q1 q2 q3 q4 q5 HF
      clear hx
      obtain ⟨pv, pt, pf, pb, po⟩ := p
      simp only [Nat.add_zero] at q1 q2 q3 q4 q5 HF
      rw [show o + (k + 1 + j) * 5 = o + (k + 1) * 5 + j * 5 by omega] at q1 q2 q3 q4 q5
      have hc : ∀ j, wr.cell? ⟨g, j, none⟩ = w.cell? ⟨g, j, none⟩ := fun j => hb.out.cell (p := ⟨g, j, none⟩) hg
      rw [← hc] at q1 q2 q3 q4 q5
      have qk2 := qk
      rw [← hc] at qk2
      clear hc
      have hgr : g < wr.heap.size := Nat.lt_of_lt_of_le hg hb.out.size
      by_cases he : pv ≤ lv
      · have hd : (pv : Int) ≤ (lv : Int) := by omega
        have HO : Hid (endS size lv (l.drop (k + 1)) = pf) := Lib.hid (by rw [hf.out, HF.out, if_pos he])
        go_wp2
        go_quiet (fail)
        go_wp2
        go_ret
        exact ⟨by rw [HO.out]; rfl, below_drewN (hb.out.trans ((Below.refl _ _).alloc hb.out.size _)) _⟩
      · have hd : ¬ (pv : Int) ≤ (lv : Int) := by omega
        have HO : Hid (endS size lv (l.drop (k + 1)) = endS size lv (l.drop (k + 1 + (j + 1)))) := Lib.hid (by rw [hf.out, HF.out, if_neg he]; rfl)
        go_wp2
        go_quiet (fail)
        go_wp2
        go_roundw
        case rel => exact ⟨j + 1, by omega, by go_num, Lib.hid (below_drewN (hb.out.trans ((Below.refl _ _).alloc hb.out.size _)) _), HO⟩
        case measure => simp [intOf]; omega
    · have HO : Hid (endS size lv (l.drop (k + 1)) = size) := Lib.hid (by rw [hf.out, List.drop_eq_nil_of_le (by omega)]; rfl)
      have hki : ¬ (j : Int) < ((l.length - (k + 1) : Nat) : Int) := by omega
      have hki2 : ¬ j < l.length - (k + 1) := by omega
      go_wp2
      go_ret
      exact ⟨by rw [HO.out]; rfl, hb.out⟩
end Go.Proofs.YtdojbnngdlmbgaaGreatDoor.Se

namespace Go.Proofs.YtdojbnngdlmbgaaGreatDoor.Se
open Go.RowKit Go.Shelf
set_option linter.unusedVariables false
set_option linter.unusedSimpArgs false

def rowB (b : Bool) (k n : Nat) : List Value := List.replicate n (.bool b) ++ List.replicate (k - n) (.bool false)
theorem rowB_len (b : Bool) {k n : Nat} (h : n ≤ k) : (rowB b k n).length = k := by unfold rowB; simp; omega
theorem splice_row (b : Bool) {k n m : Nat} (h : n + m ≤ k) : splice (rowB b k n) n (List.replicate m (.bool b)) = rowB b k (n + m) := by
  unfold splice rowB
  rw [List.take_left' (by simp), List.drop_append, List.drop_eq_nil_of_le (by simp), List.nil_append, List.drop_replicate, List.length_replicate, List.length_replicate, ← List.append_assoc, List.replicate_append_replicate]
  congr 2; omega
theorem rowB_at (b : Bool) {k n j : Nat} (h : j < n) : (rowB b k n)[j]? = some (.bool b) := by
  unfold rowB; rw [List.getElem?_append_left (by simpa using h), List.getElem?_replicate, if_pos h]
theorem rep_get {b : Bool} {m j : Nat} {v : Value} (h : (List.replicate m (Value.bool b))[j]? = some v) : j < m ∧ v = .bool b := by
  rw [List.getElem?_replicate] at h
  split at h
  · exact ⟨by assumption, by cases h; rfl⟩
  · cases h
theorem rep_one (b : Bool) (m : Nat) : ∀ v ∈ List.replicate m (Value.bool b), v.oneCell' = true := by
  intro v h; rw [(List.mem_replicate.1 h).2]; rfl
theorem add0 (g : Nat) : (⟨g, 0, none⟩ : Addr).add 0 = ⟨g, 0, none⟩ := by unfold Addr.add; split <;> simp_all
theorem addj (g j : Nat) : (⟨g, 0, none⟩ : Addr).add j = ⟨g, j, none⟩ := by unfold Addr.add; split <;> simp_all
theorem at_rowB {b : Bool} {k g : Nat} {w : World} {t : TypeId} (h : w.heap[g]? = some (.cells (rowB b k k).toArray t (0, 0))) : ∀ j u, (List.replicate k (Value.bool b))[j]? = some u → w.cell? ⟨g, j, none⟩ = some u := by
  intro j u hj
  obtain ⟨q1, rfl⟩ := rep_get hj
  exact cell_heap h (by rw [List.getElem?_toArray]; exact rowB_at b q1)
set_option maxRecDepth 100000 in
set_option maxHeartbeats 800000 in
theorem Rep_any (g0 k : Nat) (b : Bool) (w : World) (h : w.cell? ⟨g0, 0, none⟩ = some (.bool b)) (hg : g0 < w.heap.size) (hk : k ≤ 65536) :
    Calls Tryz.prog 87 #[.slice (some ⟨g0, 0, none⟩) 1 1, .int .i64 (k : Int)] w fun e w' => ∃ g', e = .returned (.slice (some ⟨g', 0, none⟩) k k) ∧ Hid (∀ j u, (List.replicate k (Value.bool b))[j]? = some u → w'.cell? ⟨g', j, none⟩ = some u) ∧ Below w.heap.size w w' := by
  have hM : Calls Tryz.prog 50 #[.int .u64 ((1 : Nat) : Int), .int .u64 (k : Int)] w fun e w' => e = .returned (.tuple #[.int .u64 0, .int .u64 (k : Int)]) ∧ w' = w := by
    refine (Tryz.bits_Mul 1 k (by omega) (by omega) w).mono ?_
    rintro e w' ⟨rfl, rfl⟩
    refine ⟨?_, rfl⟩
    rw [show (1 * k / 18446744073709551616 : Nat) = 0 by omega, show (1 * k % 18446744073709551616 : Nat) = k by omega]
    rfl
  have HM := Lib.hid hM
  clear hM
  have hmk0 : ∀ W : World, (Instr.makeSlice 89 (.int .i64 (k : Int)) (.int .i64 (k : Int))).run Tryz.prog W = .ok (.slice (some ⟨W.heap.size, 0, none⟩) k k) (W.alloc (.cells (rowB b k 0).toArray 4 (0, 0))) := by
    intro W
    rw [run_make_row' 89 4 (.bool false) 1 rfl (by kernel_rfl) rfl .i64 .i64 k (by omega) (by omega) W]
    congr 3
    apply Array.toList_inj.1
    rw [toList_madeCells_one]
    simp [rowB]
  obtain ⟨O, hO⟩ : ∃ O, Obj.cells (rowB b k 0).toArray 4 (0, 0) = O := ⟨_, rfl⟩
  have hmk := hmk0
  rw [hO] at hmk
  have HO := Lib.hid hO
  clear hmk0 hO
  go_enter Tryz.func87, Tryz.ntmps87
  go_wp2_with fail
  refine (HM.out).mono ?_
  rintro e w1 ⟨rfl, rfl⟩
  clear HM
  have row1 : Hid ((w1.alloc O).heap[w1.heap.size]? = some (.cells (rowB b k 0).toArray 4 (0, 0))) := Lib.hid (by rw [HO.out]; exact heap_alloc_new w1 O)
  have b1 : Hid (Below w1.heap.size w1 (w1.alloc O)) := Lib.hid ((Below.refl _ _).alloc (Nat.le_refl _) _)
  have HC : Hid ((w1.alloc O).cell? ⟨g0, 0, none⟩ = some (.bool b)) := Lib.hid ((b1.out.cell (p := ⟨g0, 0, none⟩) hg).trans h)
  obtain ⟨m, hm⟩ : ∃ m, m = Nat.min 1 k := ⟨_, rfl⟩
  have HMM := Lib.hid hm
  have hm1 : m ≤ 1 := by rw [hm]; exact Nat.min_le_left _ _
  have hmk2 : m ≤ k := by rw [hm]; exact Nat.min_le_right _ _
  have hm0 : Hid (m = 0 → k = 0) := Lib.hid (by intro h0; rw [hm] at h0; simp only [Nat.min_def] at h0; split at h0 <;> omega)
  obtain ⟨cs, hcs⟩ : ∃ cs, cs = List.replicate m (Value.bool b) := ⟨_, rfl⟩
  have hcl : cs.length = m := by rw [hcs]; simp
  have HCS := Lib.hid hcs
  clear hm hcs
  have P1 : Hid (∀ j v, cs[j]? = some v → (w1.alloc O).cell? ((⟨g0, 0, none⟩ : Addr).add j) = some v) := Lib.hid (fun j v hj => by
    rw [HCS.out] at hj
    obtain ⟨q1, rfl⟩ := rep_get hj
    rw [addj, show j = 0 by omega]
    exact HC.out)
  have P2 : Hid (0 + cs.length ≤ (rowB b k 0).length) := Lib.hid (by rw [rowB_len b (Nat.zero_le _), hcl]; omega)
  have P3 : Hid (∀ v ∈ cs, v.oneCell' = true) := Lib.hid (by rw [HCS.out]; exact rep_one b m)
  have P4 : Hid (cs.length = Nat.min 1 k) := Lib.hid (hcl.trans HMM.out)
  go_wp2_with (with_reducible show wpList _ _ _ (⟨some 33, _, _, _, _, _⟩ :: _) _ _; go_loud (refine wpList_copy_splice (o := ⟨some 33, _, _, _, _, _⟩) rfl (.tmp 31) (.tmp 32) 89 89 rfl 4 rfl (by kernel_rfl) (some ⟨w1.heap.size, 0, none⟩) (some ⟨g0, 0, none⟩) k k 1 1 rfl rfl w1.heap.size 0 (rowB b k 0) 4 row1.out cs P4.out (fun _ => ⟨rfl, _, rfl, P1.out⟩) P2.out P3.out w1.heap.size w1 b1.out (Nat.le_refl _) ?_; intro w2 hg2 hb2))
  have R2 : Hid (w2.heap[w1.heap.size]? = some (.cells (rowB b k m).toArray 4 (0, 0))) := Lib.hid (by
    have := hg2.out
    rw [HCS.out, splice_row b (by omega), Nat.zero_add] at this; exact this)
  have B2 := Lib.hid hb2
  clear hg2 hb2 P1 P2 P3 P4 HC b1 row1
  go_loopw [8] (fun i wr => ∃ n : Nat, n ≤ k ∧ i = .int .i64 (n : Int) ∧ Hid (Below w1.heap.size w1 wr) ∧ Hid (wr.heap[w1.heap.size]? = some (.cells (rowB b k n).toArray 4 (0, 0))) ∧ Hid (n = 0 → k = 0)) (fun i _ => k - (intOf i).toNat)
  case atStart => exact ⟨m, hmk2, rfl, B2, R2, hm0⟩
  case round =>
    obtain ⟨n, hn, rfl, hb, hr, hz⟩ := hrel
    by_cases hlt : n < k
    · have hlti : (n : Int) < (k : Int) := by omega
      have hn0 : n ≠ 0 := fun h0 => by have := hz.out h0; omega
      have hkn : ¬ k = n := by omega
      obtain ⟨q, hq⟩ : ∃ q, q = Nat.min n (k - n) := ⟨_, rfl⟩
      have HQ := Lib.hid hq
      have hq1 : q ≤ k - n := by rw [hq]; exact Nat.min_le_right _ _
      have hq0 : 0 < q := by rw [hq]; simp only [Nat.min_def]; split <;> omega
      have hqn : q ≤ n := by rw [hq]; exact Nat.min_le_left _ _
      clear hq
      obtain ⟨ds, hds⟩ : ∃ ds, ds = List.replicate q (Value.bool b) := ⟨_, rfl⟩
      have hdl : ds.length = q := by rw [hds]; simp
      have HDS := Lib.hid hds
      clear hds
      have P1 : Hid (∀ j v, ds[j]? = some v → wr.drew.cell? ((⟨w1.heap.size, 0, none⟩ : Addr).add j) = some v) := Lib.hid (fun j v hj => by
        rw [HDS.out] at hj
        obtain ⟨q1, rfl⟩ := rep_get hj
        rw [addj]
        exact cell_heap (w := wr) hr.out (by rw [List.getElem?_toArray]; exact rowB_at b (by omega)))
      have P2 : Hid (n + ds.length ≤ (rowB b k n).length) := Lib.hid (by rw [rowB_len b hn, hdl]; omega)
      have P3 : Hid (∀ v ∈ ds, v.oneCell' = true) := Lib.hid (by rw [HDS.out]; exact rep_one b q)
      have P4 : Hid (ds.length = Nat.min n (k - n)) := Lib.hid (hdl.trans HQ.out)
      have B1 : Hid (Below w1.heap.size w1 wr.drew) := Lib.hid hb.out.drew
      go_wp2_with fail
      go_region_law (refine step_copy_splice rfl (.tmp 41) (.tmp 44) 89 89 rfl 4 rfl (by kernel_rfl) (some ⟨w1.heap.size, n, none⟩) (some ⟨w1.heap.size, 0, none⟩) (k - n) (k - n) n k (by simp [Act.eval, Act.put]) (by simp [Act.eval, Act.put]) w1.heap.size n (rowB b k n) 4 hr.out ds P4.out (fun _ => ⟨rfl, _, rfl, P1.out⟩) P2.out P3.out w1.heap.size w1 B1.out (Nat.le_refl _) ?_; intro w4 hg4 hb4)
      have R4 : Hid (w4.heap[w1.heap.size]? = some (.cells (rowB b k (n + q)).toArray 4 (0, 0))) := Lib.hid (by
        have := hg4.out
        rw [HDS.out, splice_row b (by omega)] at this; exact this)
      have B4 := Lib.hid hb4
      clear hg4 hb4 P1 P2 P3 P4 B1
      have hwr : IntKind.i64.wrap ((n : Int) + (q : Int)) = ((n + q : Nat) : Int) := by rw [IntKind.wrap_i64]; omega
      simp [Act.put, goInt, hdl, hwr]
      go_wp2
      go_roundw
      case rel => exact ⟨n + q, by omega, by go_num, B4, R4, Lib.hid (by intro h0; omega)⟩
      case measure => simp [intOf]; omega
    · have hlti : ¬ (n : Int) < (k : Int) := by omega
      obtain rfl : n = k := by omega
      go_wp2_with fail
      go_ret
      exact ⟨w1.heap.size, rfl, Lib.hid (at_rowB hr.out), hb.out⟩
end Go.Proofs.YtdojbnngdlmbgaaGreatDoor.Se

namespace Go.Proofs.YtdojbnngdlmbgaaGreatDoor.Se
open Go.RowKit Go.Shelf Go.Proofs.YtdojbnngdlmbgaaGreatDoor.Tr
set_option linter.unusedVariables false
set_option linter.unusedSimpArgs false

def plN (n : Nd) : List Bool := List.replicate (srcN n).length (n.kind == 1)
def plainOf (l : List Nd) : List Bool := l.flatMap plN
theorem plN_len (n : Nd) : (plN n).length = (srcN n).length := by unfold plN; simp
theorem plainOf_len : ∀ l : List Nd, (plainOf l).length = (src l).length
  | [] => by simp [plainOf, src_nil]
  | n :: r => by
    have := plainOf_len r
    unfold plainOf at *
    rw [List.flatMap_cons, List.length_append, this, plN_len, src_cons, List.length_append]
theorem plainOf_take {l : List Nd} {k : Nat} (h : k < l.length) : plainOf (l.take (k + 1)) = plainOf (l.take k) ++ plN l[k] := by
  unfold plainOf
  rw [List.take_succ_eq_append_getElem h, List.flatMap_append]; simp
def OwnO (w : World) (base : Nat) (v : Value) (l : List Bool) : Prop := w.ownsRow base 4 1 v l.length (l.flatMap encO)
theorem OwnO.nil (w : World) (base : Nat) : OwnO w base (.slice none 0 0) [] := ⟨by simp, .inl ⟨rfl, rfl⟩⟩
theorem flatO (l : List Bool) : l.flatMap encO = l.map .bool := by
  induction l with
  | nil => rfl
  | cons b r ih => rw [List.flatMap_cons, ih]; rfl
theorem boolInfo : (Tryz.prog.info? 4).map (fun i => (i.zero, i.size, i.bytes)) = some (some (.bool false), 1, 1) := by kernel_rfl
theorem one_rd {d g : Nat} {W : World} {kd tg : Int} {tx : ByteArray} {kids : List Nd} {args : List Ar} {vk va : Value} {t : TypeId} (h : W.heap[g]? = some (.cells #[.int .i64 kd, .int .i64 tg, .string tx, vk, va] t (0, 0))) (f1 : Fit kd) (f2 : Fit tg)
    (x6 : LRd d W W.heap.size vk kids) (x7 : ARd d W W.heap.size va args) (hz : szN (.mk kd tg tx kids args) ≤ 16777216) : LRd (d + 1) W W.heap.size (.slice (some ⟨g, 0, none⟩) 1 1) [.mk kd tg tx kids args] := by
  refine ⟨by rw [sz_cons, sz_nil]; omega, some ⟨g, 0, none⟩, 1, rfl, Nat.le_refl _, by unfold maxLen; omega, fun _ => ⟨g, 0, rfl, (Array.getElem?_eq_some_iff.1 h).1, fun i hi n hn => ?_⟩⟩
  obtain rfl : i = 0 := by simp at hi; omega
  cases hn
  exact ⟨vk, va, cell_heap h rfl, cell_heap h rfl, cell_heap h rfl, cell_heap h rfl, cell_heap h rfl, f1, f2, x6, x7⟩
theorem snocO {w : World} {base : Nat} {v : Value} {l r : List Bool} (h : w.ownsRow base 4 1 v (l.length + r.length) (l.flatMap encO ++ r.flatMap encO)) : OwnO w base v (l ++ r) := by
  unfold OwnO; rw [List.length_append, List.flatMap_append]; exact h
theorem plN_flat (n : Nd) {q : Nat} (h : (srcN n).length = q) : (plN n).flatMap encO = List.replicate q (.bool (n.kind == 1)) := by
  subst h; rw [flatO]; unfold plN; rw [List.map_replicate]
set_option maxRecDepth 100000 in
set_option maxHeartbeats 2000000 in
theorem plain_any (d : Nat) (v : Value) (l : List Nd) (w : World) (h : LRd (d + 1) w w.heap.size v l) (hl : (src l).length ≤ 65536) :
    Calls Tryz.prog 41 #[v] w fun e w' => ∃ v', e = .returned v' ∧ OwnO w' w.heap.size v' (plainOf l) ∧ Below w.heap.size w w' := by
  have hz := h.1
  obtain ⟨A, c, rfl, hc1, hc2, hln, R⟩ := h.open
  have R' := Lib.hid R; clear R h
  obtain ⟨i0, hi0, hz0, hz1, hz2⟩ := info_parts boolInfo
  go_enter Tryz.func41, Tryz.ntmps41
  go_wp2_with fail
  go_loopw [3, 9] (fun nv i wr => ∃ k : Nat, k ≤ l.length ∧ i = .int .i64 k ∧ Hid (Below w.heap.size w wr) ∧ Hid (OwnO wr w.heap.size nv (plainOf (l.take k)))) (fun _ i _ => l.length - (intOf i).toNat)
  case atStart => exact ⟨0, Nat.zero_le _, rfl, Lib.hid (Below.refl _ _), Lib.hid (OwnO.nil _ _)⟩
  case round =>
    obtain ⟨k, hk, rfl, hb, ho⟩ := hrel
    by_cases hlt : k < l.length
    · obtain ⟨g, o, rfl, hg, q⟩ := R'.out (by omega)
      obtain ⟨vk, va, x1, x2, x3, x4, x5, f1, f2, x6, x7⟩ := q k l[k] (List.getElem?_eq_getElem hlt)
      have hki : (k : Int) < (l.length : Int) := by omega
      have hcell : ∀ i, wr.cell? ⟨g, i, none⟩ = w.cell? ⟨g, i, none⟩ := fun i => hb.out.cell (by show g < _; omega)
      rw [← hcell] at x1 x2 x3 x4 x5
      clear hcell q
      have hts := sz_mem (List.getElem_mem hlt)
      have HT : Hid (plainOf (l.take (k + 1)) = plainOf (l.take k) ++ plN l[k]) := Lib.hid (plainOf_take hlt)
      have hsl : (src (l.take k)).length + (srcN l[k]).length ≤ (src l).length := by
        have := src_take_len l (k + 1)
        rw [src_take hlt, List.length_append] at this; exact this
      rw [← plainOf_len] at hsl
      have HO := Lib.hid ho.out
      generalize plainOf (l.take k) = L at HT HO hsl
      generalize l[k] = nd at *
      obtain ⟨Ak, ck, rfl⟩ := x6.form
      obtain ⟨Aa, ca, rfl⟩ := ARd.form (d := d) x7
      obtain ⟨kd, tg, tx, kids, args⟩ := nd
      simp only [Nd.kind, Nd.tag, Nd.text, Nd.kids, Nd.args] at x1 x2 x3 x4 x5 f1 f2 x6 x7
      obtain ⟨q, hq⟩ : ∃ q, (srcN (.mk kd tg tx kids args)).length = q := ⟨_, rfl⟩
      rw [hq] at hsl
      obtain ⟨S, hS⟩ : ∃ S : ByteArray, S = ⟨(src [Nd.mk kd tg tx kids args]).toArray⟩ := ⟨_, rfl⟩
      have hSz : (S.size : Int) = (q : Int) := by
        rw [hS, ← hq]
        show (((src [Nd.mk kd tg tx kids args]).toArray.size : Nat) : Int) = _
        rw [List.size_toArray, src_cons, src_nil, List.append_nil]
      obtain ⟨O1, hO1⟩ : ∃ O1 : Obj, O1 = .cells #[.int .i64 kd, .int .i64 tg, .string tx, .slice Ak kids.length ck, .slice Aa args.length ca] 62 (0, 0) := ⟨_, rfl⟩
      have hB2 : Below w.heap.size w ((wr.alloc O1).alloc O1) := (hb.out.alloc hb.out.size _).alloc (Nat.le_trans hb.out.size (by simp)) _
      have HR : Hid (LRd (d + 1) ((wr.alloc O1).alloc O1) ((wr.alloc O1).alloc O1).heap.size (.slice (some ⟨wr.heap.size + 1, 0, none⟩) 1 1) [Nd.mk kd tg tx kids args]) := Lib.hid (by
        refine one_rd (t := 62) (vk := .slice Ak kids.length ck) (va := .slice Aa args.length ca) ?_ f1 f2 (x6.below hB2 (Nat.le_refl _) hB2.size) (ARd.below x7 hB2 (Nat.le_refl _) hB2.size) (by omega)
        have := heap_alloc_new (wr.alloc O1) O1
        rw [show (wr.alloc O1).heap.size = wr.heap.size + 1 by simp, hO1] at this
        rw [hO1]; exact this)
      have HK : Hid (((wr.alloc O1).alloc O1).cell? ⟨wr.heap.size, 0, none⟩ = some (.int .i64 kd)) := Lib.hid (by
        rw [World.cell?_of_block (show ((wr.alloc O1).alloc O1).heap[wr.heap.size]? = (wr.alloc O1).heap[wr.heap.size]? from ?_)]
        · exact cell_heap (by rw [heap_alloc_new, hO1]) rfl
        · exact heap_alloc_old (wr.alloc O1) O1 (by simp))
      have HB2 := Lib.hid hB2
      have HS := Lib.hid hS
      have HO1 := Lib.hid hO1
      clear hB2 hS x6 x7 f1 f2
      go_wp2_with fail
      have X := HR.out
      rw [HO1.out] at X
      have Y := HB2.out
      rw [HO1.out] at Y
      have Z := HK.out
      rw [HO1.out] at Z
      have Y2 : Hid (Below wr.heap.size wr ((wr.alloc O1).alloc O1)) := Lib.hid (((Below.refl _ _).alloc (Nat.le_refl _) _).alloc (by simp) _)
      have Y3 := Y2.out
      rw [HO1.out] at Y3
      with_reducible refine (Source_any (d + 1) _ _ _ _ X (Nat.le_refl _)).mono ?_
      rintro e w2 ⟨rfl, b2⟩
      have B2 := Lib.hid (Y.trans (b2.mono Y.size))
      have C2 := Lib.hid (Y3.trans (b2.mono Y3.size))
      have K2 : w2.cell? ⟨wr.heap.size, 0, none⟩ = some (.int .i64 kd) := (b2.cell (p := ⟨wr.heap.size, 0, none⟩) (by simp; omega)).trans Z
      clear X Y Z Y3 b2
      rw [← HS.out]
      clear HR HB2 HK HO1 Y2 HS
      go_wp2_with fail
      have N2 : (w2.alloc (.cells #[.bool (kd == 1)] 4 (0, 0))).cell? ⟨w2.heap.size, 0, none⟩ = some (.bool (kd == 1)) := cell_heap (heap_alloc_new w2 _) rfl
      have B3 : Hid (Below w2.heap.size w2 (w2.alloc (.cells #[.bool (kd == 1)] 4 (0, 0)))) := Lib.hid ((Below.refl _ _).alloc (Nat.le_refl _) _)
      with_reducible refine (Rep_any w2.heap.size q (kd == 1) _ N2 (by simp) (by omega)).mono ?_
      rintro e w3 ⟨g3, rfl, hn3, b3⟩
      have B4 := Lib.hid (B3.out.trans (b3.mono B3.out.size))
      clear b3 B3 N2
      have D3 := C2.out.trans (B4.out.mono C2.out.size)
      have RW : Hid (w3.ownsRow w.heap.size 4 1 u3 L.length (L.flatMap encO)) := Lib.hid (row_below HO.out D3 (Nat.le_refl _))
      have E3 : Hid (Below w.heap.size w w3) := Lib.hid (B2.out.trans (B4.out.mono B2.out.size))
      have hw3 : w.heap.size ≤ w3.heap.size := E3.out.size
      clear D3 C2 B4 K2 B2
      obtain ⟨ns, hns⟩ : ∃ ns, ns = List.replicate q (Value.bool (kd == 1)) := ⟨_, rfl⟩
      have hnl : ns.length = q * 1 := by rw [hns]; simp
      have H1 : Hid (∀ u ∈ ns, u.oneCell' = true) := Lib.hid (by rw [hns]; exact rep_one _ _)
      have H2 : Hid (∀ j u, ns[j]? = some u → w3.cell? ⟨g3, j, none⟩ = some u) := Lib.hid (by rw [hns]; exact hn3.out)
      have HN := Lib.hid hns
      clear hns hn3
      go_wp2_with (at_builtin; refine wpList_append_own _ rfl (.tmp 17) (.tmp 23) _ rfl w.heap.size 4 i0 _ 1 1 Tryz.underlying89 hi0 hz0 hz1 hz2 rfl (by omega) u3 L.length (L.flatMap encO) rfl RW.out ⟨g3, 0, none⟩ q q ns rfl hnl (fun j u hj => by rw [addj]; exact H2.out j u hj) H1.out (by simp only [maxLen]; omega) (by omega) hw3 ?_; intro v4 w4 ho4 hg4 _)
      have B5 := Lib.hid (E3.out.trans (below_own RW.out hg4 hw3))
      have O5 : Hid (OwnO w4 w.heap.size v4 (plainOf (l.take (k + 1)))) := Lib.hid (by
        rw [HT.out]
        refine snocO ?_
        rw [plN_len, hq, plN_flat _ hq]
        rw [HN.out] at ho4
        exact ho4)
      clear hg4 RW E3 H1 H2 HN
      go_wp2
      go_roundw
      case rel => exact ⟨k + 1, by omega, by go_num, B5, O5⟩
      case measure => simp [intOf]; omega
    · have HE : Hid (plainOf (l.take k) = plainOf l) := Lib.hid (by rw [List.take_of_length_le (by omega)])
      go_wp2_with fail
      go_ret
      exact ⟨u3, rfl, by rw [← HE.out]; exact ho.out, hb.out⟩
end Go.Proofs.YtdojbnngdlmbgaaGreatDoor.Se
