/-
  The contract of the reference's Bind.
-/
import Derived.Test.YtaallpfkgcndmaaDoorPmX
import Derived.Test.YtaallpfkgcndmaaDoorPmDec
import Derived.Test.YtaallpfkgcndmaaDoorPmRPut
namespace Go.Proofs.YtaallpfkgcndmaaDoor.Pm
open Go.RowKit Go.Shelf
set_option linter.unusedVariables false
set_option linter.unusedSimpArgs false

/-- What the first k arguments give. -/
def upto (l : List Val) (k : Nat) : List Bd := bind (puts dec tr 0 (l.take k))
theorem upto_yes {l : List Val} {k : Nat} (h : k < l.length) {n t : By} (e : l[k] = (true, n, t)) : upto l (k + 1) = put (tr n) (tr t) (upto l k) := by
  unfold upto
  rw [List.take_succ_eq_append_getElem h, puts_append, e]
  simp only [puts]
  rw [bind_snoc]
theorem upto_no {l : List Val} {k : Nat} (h : k < l.length) {n t : By} (e : l[k] = (false, n, t)) : upto l (k + 1) = put (dec (poss (l.take k) + 1)) t (upto l k) := by
  unfold upto
  rw [List.take_succ_eq_append_getElem h, puts_append, e]
  simp only [puts, Nat.zero_add]
  rw [bind_snoc]
theorem poss_yes {l : List Val} {k : Nat} (h : k < l.length) {n t : By} (e : l[k] = (true, n, t)) : poss (l.take (k + 1)) = poss (l.take k) := by
  rw [List.take_succ_eq_append_getElem h, poss_append, e]; rfl
theorem poss_no {l : List Val} {k : Nat} (h : k < l.length) {n t : By} (e : l[k] = (false, n, t)) : poss (l.take (k + 1)) = poss (l.take k) + 1 := by
  rw [List.take_succ_eq_append_getElem h, poss_append, e]; rfl
theorem upto_len (l : List Val) (k : Nat) : (upto l k).length ≤ l.length := by
  unfold upto
  refine Nat.le_trans (len_bind _) ?_
  rw [len_puts, List.length_take]; omega
theorem upto_all {l : List Val} {k : Nat} (h : l.length ≤ k) : upto l k = bind (puts dec tr 0 l) := by
  unfold upto; rw [List.take_of_length_le h]
/-- What Bind returns. -/
def BindP (w : World) (l : List Val) : Ending → World → Prop := fun e w' => ∃ v', e = .returned (.tuple #[v', .int .i64 (if 40 < l.length then 8 else 0)]) ∧ OwnB w' w.heap.size v' (if 40 < l.length then [] else bind (puts dec tr 0 l)) ∧ Below w.heap.size w w'
def F1 (ov sl : Value) (k : Nat) (p0 p1 p2 : Value) (s1 s2 s3 s4 : By) : Nat → Value → World → Prop
  | 0, v, _ => v = ov
  | 1, v, _ => v = sl
  | 2, v, _ => v = .int .i64 (k : Int)
  | 3, v, _ => v = p0
  | 4, v, _ => v = p1
  | 5, v, _ => v = .string (bsl s1)
  | 6, v, _ => v = .string (bsl s2)
  | 7, v, _ => v = sl
  | 8, v, _ => v = .int .i64 (k : Int)
  | 9, v, _ => v = p0
  | 10, v, _ => v = p2
  | 11, v, _ => v = .string (bsl s3)
  | _, v, _ => v = .string (bsl s4)
theorem F1.st {ov sl : Value} {k : Nat} {p0 p1 p2 : Value} {s1 s2 s3 s4 : By} : ∀ i v w w', F1 ov sl k p0 p1 p2 s1 s2 s3 s4 i v w → Bl w w' → F1 ov sl k p0 p1 p2 s1 s2 s3 s4 i v w' := by
  intro i v w w' h _
  unfold F1 at h ⊢
  split <;> simp only at h ⊢ <;> exact h
def F2 (ov sl : Value) (k q : Nat) (p0 p2 : Value) (s1 s2 : By) : Nat → Value → World → Prop
  | 0, v, _ => v = ov
  | 1, v, _ => v = .int .i64 (q : Int)
  | 2, v, _ => v = .string (bsl s1)
  | 3, v, _ => v = sl
  | 4, v, _ => v = .int .i64 (k : Int)
  | 5, v, _ => v = p0
  | 6, v, _ => v = p2
  | _, v, _ => v = .string (bsl s2)
theorem F2.st {ov sl : Value} {k q : Nat} {p0 p2 : Value} {s1 s2 : By} : ∀ i v w w', F2 ov sl k q p0 p2 s1 s2 i v w → Bl w w' → F2 ov sl k q p0 p2 s1 s2 i v w' := by
  intro i v w w' h _
  unfold F2 at h ⊢
  split <;> simp only at h ⊢ <;> exact h
set_option maxRecDepth 100000 in
set_option maxHeartbeats 8000000 in
theorem RBind_any (v : Value) (l : List Val) (w : World) (hr : RdV w w.heap.size v l) (hsm : Sm l) :
    Calls Tryd.prog 11 #[v] w (BindP w l) := by
  obtain ⟨A1, c1, rfl, l1, m1, r1⟩ := hr.ex
  unfold maxLen at m1
  clear hr
  have R1 := Lib.hid r1; clear r1
  obtain ⟨hln, hname, htext⟩ := hsm
  have HN := Lib.hid hname; have HT := Lib.hid htext; clear hname htext
  by_cases h40 : 40 < l.length
  · have d40 : (40 : Int) < (l.length : Int) := by omega
    have HI : Hid ((if 40 < l.length then (8 : Int) else 0) = 8) := Lib.hid (if_pos h40)
    have HJ : Hid ((if 40 < l.length then ([] : List Bd) else bind (puts dec tr 0 l)) = []) := Lib.hid (if_pos h40)
    clear h40
    go_enter Tryd.func11, Tryd.ntmps11
    go_wp2
    go_ret2
    exact ⟨.slice none 0 0, by rw [HI.out]; rfl, by rw [HJ.out]; exact OwnB.nil _ _, Below.refl _ _⟩
  · have d40 : ¬ (40 : Int) < (l.length : Int) := by omega
    have HI : Hid ((if 40 < l.length then (8 : Int) else 0) = 0) := Lib.hid (if_neg h40)
    have HJ : Hid ((if 40 < l.length then ([] : List Bd) else bind (puts dec tr 0 l)) = bind (puts dec tr 0 l)) := Lib.hid (if_neg h40)
    go_enter Tryd.func11, Tryd.ntmps11
    go_wp2
    go_loopw [4, 5, 6] (fun ov nv i wr => ∃ (k : Nat), k ≤ l.length ∧ i = .int .i64 k ∧ nv = .int .i64 (poss (l.take k) : Nat) ∧ Hid (Below w.heap.size w wr ∧ OwnB wr w.heap.size ov (upto l k))) (fun _ _ i _ => l.length - (intOf i).toNat)
    case atStart => exact ⟨0, Nat.zero_le _, rfl, rfl, Lib.hid ⟨Below.refl _ _, OwnB.nil _ _⟩⟩
    case round =>
      obtain ⟨k, hk, rfl, rfl, hS⟩ := hrel
      by_cases hlt : k < l.length
      · obtain ⟨g, o, rfl, hg, q⟩ := R1.out (by omega)
        have hki : (k : Int) < (l.length : Int) := by omega
        obtain ⟨pb, pn, pt, hp⟩ : ∃ pb pn pt, l[k] = (pb, pn, pt) := ⟨_, _, _, rfl⟩
        have q1 := q k l[k] (List.getElem?_eq_getElem hlt) 0 _ rfl
        have q2 := q k l[k] (List.getElem?_eq_getElem hlt) 1 _ rfl
        have q3 := q k l[k] (List.getElem?_eq_getElem hlt) 2 _ rfl
        have n1 := HN.out l[k] (List.getElem_mem hlt)
        have n2 := HT.out l[k] (List.getElem_mem hlt)
        rw [hp] at q1 q2 q3 n1 n2
        simp only [Nat.add_zero] at q1 q2 q3 n1 n2
        have hc : ∀ j, wr.cell? ⟨g, j, none⟩ = w.cell? ⟨g, j, none⟩ := fun j => hS.out.1.cell (p := ⟨g, j, none⟩) hg
        rw [← hc] at q1 q2 q3
        have hgr : g < wr.heap.size := Nat.lt_of_lt_of_le hg hS.out.1.size
        have Q := Lib.hid (And.intro q2 q3)
        have hpl := poss_le (l.take k)
        rw [List.length_take] at hpl
        clear hc q
        cases pb with
        | true =>
          have HU := Lib.hid (upto_yes hlt hp)
          have HQ := Lib.hid (poss_yes hlt hp)
          clear hp
          go_wp2_with fail
          clear q2 q3
          refine region_ki Bl (Below.refl _ _) [21, 22, 23, 24, 25, 26, 27, 28, 29, 30, 31, 32, 33] [21, 22, 23, 24, 25, 26, 27, 28, 29, 30, 31, 32, 33, 34, 4] [(0, .slice (some ⟨g, o, none⟩) l.length c1), (4, u4), (6, .int .i64 (k : Int))] (F1 u4 (.slice (some ⟨g, o, none⟩) l.length c1) k (.pointer (some ⟨g, o + k * 3, none⟩)) (.pointer (some ⟨g, o + k * 3 + 1, none⟩)) (.pointer (some ⟨g, o + k * 3 + 2, none⟩)) pn (tr pn) pt (tr pt)) (by kernel_rfl) (n := 13) (by kernel_rfl) (by kernel_rfl) (lk_ok (by intro p hp; simp only [List.mem_cons, List.not_mem_nil, or_false] at hp; rcases hp with rfl | rfl | rfl <;> rfl)) ?_
          intro l0 ds hl0 hds hTb
          have HL0 := Lib.hid hl0; have HDS := Lib.hid hds; clear hl0 hds
          refine ⟨?_, ?_⟩
          · intro i hi S a w' hI hd
            have c2 : w'.cell? ⟨g, o + k * 3 + 1, none⟩ = some (.string (bsl pn)) := (hI.bl.cell (p := ⟨g, o + k * 3 + 1, none⟩) hgr).trans Q.out.1
            have c3 : w'.cell? ⟨g, o + k * 3 + 2, none⟩ = some (.string (bsl pt)) := (hI.bl.cell (p := ⟨g, o + k * 3 + 2, none⟩) hgr).trans Q.out.2
            match i, hi with
            | 0, _ => exact head_value hI hTb Bl.tr F1.st 0 21 rfl rfl rfl rfl (x_move rfl (hI.lt.eval 4 rfl)) (Below.refl _ _) rfl
            | 1, _ => exact head_value hI hTb Bl.tr F1.st 1 22 rfl rfl rfl rfl (x_move rfl (hI.lt.eval 0 rfl)) (Below.refl _ _) rfl
            | 2, _ => exact head_value hI hTb Bl.tr F1.st 2 23 rfl rfl rfl rfl (x_move rfl (hI.lt.eval 6 rfl)) (Below.refl _ _) rfl
            | 3, _ => exact head_value hI hTb Bl.tr F1.st 3 24 rfl rfl rfl rfl (x_idxV rfl (hI.known 1 22 (hd 1 (by kernel_rfl)) rfl) (hI.known 2 23 (hd 2 (by kernel_rfl)) rfl) hlt) (Below.refl _ _) rfl
            | 4, _ => exact head_value hI hTb Bl.tr F1.st 4 25 rfl rfl rfl rfl (x_fldV 1 (by omega) rfl (hI.known 3 24 (hd 3 (by kernel_rfl)) rfl)) (Below.refl _ _) rfl
            | 5, _ => exact head_value hI hTb Bl.tr F1.st 5 26 rfl rfl rfl rfl (x_loadS rfl (hI.known 4 25 (hd 4 (by kernel_rfl)) rfl) c2) (Below.refl _ _) rfl
            | 6, _ => exact head_call hI hTb Bl.tr F1.st 6 27 rfl rfl rfl rfl (x_call1 14 (enters_of Tryd.func14 (by kernel_rfl) rfl) rfl rfl (show a.eval (.tmp 26) = .string (bsl pn) from hI.known 5 26 (hd 5 (by kernel_rfl)) rfl)) ((RTrim_any (bsl pn) w' (by rw [bsl_size]; omega)).mono fun e w4 ⟨h1, h2⟩ => ⟨_, h1, by rw [h2]; exact Below.refl _ _, rfl⟩)
            | 7, _ => exact head_value hI hTb Bl.tr F1.st 7 28 rfl rfl rfl rfl (x_move rfl (hI.lt.eval 0 rfl)) (Below.refl _ _) rfl
            | 8, _ => exact head_value hI hTb Bl.tr F1.st 8 29 rfl rfl rfl rfl (x_move rfl (hI.lt.eval 6 rfl)) (Below.refl _ _) rfl
            | 9, _ => exact head_value hI hTb Bl.tr F1.st 9 30 rfl rfl rfl rfl (x_idxV rfl (hI.known 7 28 (hd 7 (by kernel_rfl)) rfl) (hI.known 8 29 (hd 8 (by kernel_rfl)) rfl) hlt) (Below.refl _ _) rfl
            | 10, _ => exact head_value hI hTb Bl.tr F1.st 10 31 rfl rfl rfl rfl (x_fldV 2 (by omega) rfl (hI.known 9 30 (hd 9 (by kernel_rfl)) rfl)) (Below.refl _ _) rfl
            | 11, _ => exact head_value hI hTb Bl.tr F1.st 11 32 rfl rfl rfl rfl (x_loadS rfl (hI.known 10 31 (hd 10 (by kernel_rfl)) rfl) c3) (Below.refl _ _) rfl
            | 12, _ => exact head_call hI hTb Bl.tr F1.st 12 33 rfl rfl rfl rfl (x_call1 14 (enters_of Tryd.func14 (by kernel_rfl) rfl) rfl rfl (show a.eval (.tmp 32) = .string (bsl pt) from hI.known 11 32 (hd 11 (by kernel_rfl)) rfl)) ((RTrim_any (bsl pt) w' (by rw [bsl_size]; omega)).mono fun e w4 ⟨h1, h2⟩ => ⟨_, h1, by rw [h2]; exact Below.refl _ _, rfl⟩)
            | (n + 13), h => exact absurd h (by omega)
          · intro a w' hL hb hk9
            have k0 : a.eval (.tmp 21) = u4 := hk9 0 21 (by decide) rfl
            have k6 : a.eval (.tmp 27) = .string (bsl (tr pn)) := hk9 6 27 (by decide) rfl
            have k12 : a.eval (.tmp 33) = .string (bsl (tr pt)) := hk9 12 33 (by decide) rfl
            have b9 : Below wr.heap.size wr w' := ((Below.refl _ wr).drew).trans (Below.mono hb (Nat.le_refl _))
            have hn : l0.length = 47 := by rw [HL0.out]; rfl
            have o9 := hS.out.2.below b9 (Nat.le_refl _)
            have ul := upto_len l k
            refine any_call 13 34 rfl rfl rfl (by kernel_rfl) (x_call3 24 (enters_of Tryd.func24 (by kernel_rfl) rfl) rfl rfl k0 k6 k12) ((Put_any u4 (upto l k) (tr pn) (tr pt) w' o9.rd (by omega)).mono ?_)
            rintro e w5 ⟨v5, rfl, o5, b5⟩
            refine ⟨_, rfl, ?_⟩
            have hL2 := hL.put 34 v5 (by decide) (by omega)
            refine any_val 14 4 rfl rfl rfl (by kernel_rfl) (x_assign (v := v5) rfl (hL2.eval 34 rfl)) ?_
            refine wpAny_done (by kernel_rfl) ?_ _
            have hL3 := hL2.put 4 v5 (by decide) (by omega)
            have R5 : Hid (Below w.heap.size w w5 ∧ OwnB w5 w.heap.size v5 (upto l (k + 1))) := Lib.hid ⟨hS.out.1.trans ((b9.mono hS.out.1.size).trans (b5.mono (Nat.le_trans hS.out.1.size b9.size))), by rw [HU.out]; exact o5.base (Nat.le_trans hS.out.1.size b9.size)⟩
            generalize (a.put (some 34) v5).put (some 4) v5 = a2 at hL3 ⊢
            obtain ⟨u9, rfl, hu⟩ := hL3.lit
            have hu4 : u9 4 = v5 := hu 4 v5 rfl
            rw [HL0.out, HDS.out]
            simp only [setAll, List.set_cons_zero, List.set_cons_succ]
            rw [hu4]
            clear hk9 k0 k6 k12 hL hL2 hL3 hTb hn HL0 HDS o5 b5 o9 b9 hu hu4
            go_wp2_with fail
            go_roundw
            case rel => exact ⟨k + 1, by omega, by go_num, by rw [HQ.out], R5⟩
            case measure => simp [intOf]; omega
        | false =>
          have HU := Lib.hid (upto_no hlt hp)
          have HQ := Lib.hid (poss_no hlt hp)
          have nx : IntKind.i64.wrap ((poss (l.take k) : Nat) + 1 : Int) = ((poss (l.take k) + 1 : Nat) : Int) := by rw [IntWalk.i64_in _ (by omega)]; simp
          obtain ⟨pq, hpq⟩ : ∃ pq, poss (l.take k) + 1 = pq := ⟨_, rfl⟩
          rw [hpq] at HU HQ nx
          have hpq2 : pq < 100 := by omega
          clear hp hpq
          go_wp2_with fail
          clear q2 q3
          refine region_ki Bl (Below.refl _ _) [37, 38, 39, 40, 41, 42, 43, 44] [37, 38, 39, 40, 41, 42, 43, 44, 45, 4] [(0, .slice (some ⟨g, o, none⟩) l.length c1), (4, u4), (5, .int .i64 (pq : Int)), (6, .int .i64 (k : Int))] (F2 u4 (.slice (some ⟨g, o, none⟩) l.length c1) k pq (.pointer (some ⟨g, o + k * 3, none⟩)) (.pointer (some ⟨g, o + k * 3 + 2, none⟩)) (dec pq) pt) (by kernel_rfl) (n := 8) (by kernel_rfl) (by kernel_rfl) (lk_ok (by intro p hp; simp only [List.mem_cons, List.not_mem_nil, or_false] at hp; rcases hp with rfl | rfl | rfl | rfl <;> rfl)) ?_
          intro l0 ds hl0 hds hTb
          have HL0 := Lib.hid hl0; have HDS := Lib.hid hds; clear hl0 hds
          refine ⟨?_, ?_⟩
          · intro i hi S a w' hI hd
            have c3 : w'.cell? ⟨g, o + k * 3 + 2, none⟩ = some (.string (bsl pt)) := (hI.bl.cell (p := ⟨g, o + k * 3 + 2, none⟩) hgr).trans Q.out.2
            match i, hi with
            | 0, _ => exact head_value hI hTb Bl.tr F2.st 0 37 rfl rfl rfl rfl (x_move rfl (hI.lt.eval 4 rfl)) (Below.refl _ _) rfl
            | 1, _ => exact head_value hI hTb Bl.tr F2.st 1 38 rfl rfl rfl rfl (x_move rfl (hI.lt.eval 5 rfl)) (Below.refl _ _) rfl
            | 2, _ => exact head_call hI hTb Bl.tr F2.st 2 39 rfl rfl rfl rfl (x_call1 19 (enters_of Tryd.func19 (by kernel_rfl) rfl) rfl rfl (show a.eval (.tmp 38) = .int .i64 (pq : Int) from hI.known 1 38 (hd 1 (by kernel_rfl)) rfl)) ((Dec_any pq w' hpq2).mono fun e w4 ⟨h1, h2⟩ => ⟨_, h1, h2, rfl⟩)
            | 3, _ => exact head_value hI hTb Bl.tr F2.st 3 40 rfl rfl rfl rfl (x_move rfl (hI.lt.eval 0 rfl)) (Below.refl _ _) rfl
            | 4, _ => exact head_value hI hTb Bl.tr F2.st 4 41 rfl rfl rfl rfl (x_move rfl (hI.lt.eval 6 rfl)) (Below.refl _ _) rfl
            | 5, _ => exact head_value hI hTb Bl.tr F2.st 5 42 rfl rfl rfl rfl (x_idxV rfl (hI.known 3 40 (hd 3 (by kernel_rfl)) rfl) (hI.known 4 41 (hd 4 (by kernel_rfl)) rfl) hlt) (Below.refl _ _) rfl
            | 6, _ => exact head_value hI hTb Bl.tr F2.st 6 43 rfl rfl rfl rfl (x_fldV 2 (by omega) rfl (hI.known 5 42 (hd 5 (by kernel_rfl)) rfl)) (Below.refl _ _) rfl
            | 7, _ => exact head_value hI hTb Bl.tr F2.st 7 44 rfl rfl rfl rfl (x_loadS rfl (hI.known 6 43 (hd 6 (by kernel_rfl)) rfl) c3) (Below.refl _ _) rfl
            | (n + 8), h => exact absurd h (by omega)
          · intro a w' hL hb hk9
            have k0 : a.eval (.tmp 37) = u4 := hk9 0 37 (by decide) rfl
            have k2 : a.eval (.tmp 39) = .string (bsl (dec pq)) := hk9 2 39 (by decide) rfl
            have k7 : a.eval (.tmp 44) = .string (bsl pt) := hk9 7 44 (by decide) rfl
            have b9 : Below wr.heap.size wr w' := ((Below.refl _ wr).drew).trans (Below.mono hb (Nat.le_refl _))
            have hn : l0.length = 47 := by rw [HL0.out]; rfl
            have o9 := hS.out.2.below b9 (Nat.le_refl _)
            have ul := upto_len l k
            refine any_call 8 45 rfl rfl rfl (by kernel_rfl) (x_call3 24 (enters_of Tryd.func24 (by kernel_rfl) rfl) rfl rfl k0 k2 k7) ((Put_any u4 (upto l k) (dec pq) pt w' o9.rd (by omega)).mono ?_)
            rintro e w5 ⟨v5, rfl, o5, b5⟩
            refine ⟨_, rfl, ?_⟩
            have hL2 := hL.put 45 v5 (by decide) (by omega)
            refine any_val 9 4 rfl rfl rfl (by kernel_rfl) (x_assign (v := v5) rfl (hL2.eval 45 rfl)) ?_
            refine wpAny_done (by kernel_rfl) ?_ _
            have hL3 := hL2.put 4 v5 (by decide) (by omega)
            have R5 : Hid (Below w.heap.size w w5 ∧ OwnB w5 w.heap.size v5 (upto l (k + 1))) := Lib.hid ⟨hS.out.1.trans ((b9.mono hS.out.1.size).trans (b5.mono (Nat.le_trans hS.out.1.size b9.size))), by rw [HU.out]; exact o5.base (Nat.le_trans hS.out.1.size b9.size)⟩
            generalize (a.put (some 45) v5).put (some 4) v5 = a2 at hL3 ⊢
            obtain ⟨u9, rfl, hu⟩ := hL3.lit
            have hu4 : u9 4 = v5 := hu 4 v5 rfl
            rw [HL0.out, HDS.out]
            simp only [setAll, List.set_cons_zero, List.set_cons_succ]
            rw [hu4]
            clear hk9 k0 k2 k7 hL hL2 hL3 hTb hn HL0 HDS o5 b5 o9 b9 hu hu4
            go_wp2_with fail
            go_roundw
            case rel => exact ⟨k + 1, by omega, by go_num, by rw [HQ.out], R5⟩
            case measure => simp [intOf]; omega
      · have HE : Hid (upto l k = bind (puts dec tr 0 l)) := Lib.hid (upto_all (by omega))
        go_wp2
        go_ret2
        exact ⟨u4, by rw [HI.out]; rfl, by rw [HJ.out, ← HE.out]; exact hS.out.2, hS.out.1⟩
end Go.Proofs.YtaallpfkgcndmaaDoor.Pm
