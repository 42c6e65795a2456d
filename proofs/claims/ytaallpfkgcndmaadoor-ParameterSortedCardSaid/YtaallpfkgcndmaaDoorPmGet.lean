/-
  The contracts of Get and Names of package parameter.
-/
import Derived.Test.YtaallpfkgcndmaaDoorPmMem
namespace Go.Proofs.YtaallpfkgcndmaaDoor.Pm
open Go.RowKit Go.Shelf
set_option linter.unusedVariables false
set_option linter.unusedSimpArgs false

theorem find_some_drop {n : By} {l : List Bd} {k : Nat} (h : k < l.length) : find n (l.drop k) = if l[k].1 = n then some l[k].2 else find n (l.drop (k + 1)) := by
  rw [List.drop_eq_getElem_cons h]; rfl
def outG (o : Option By) : Value := .tuple #[.string (bsl (o.getD [])), .bool o.isSome]
theorem tr_len (l : By) : (tr l).length ≤ l.length := by
  rw [tr_eq]; unfold trL trR
  refine Nat.le_trans (List.IsSuffix.length_le (List.dropWhile_suffix _)) ?_
  rw [List.length_reverse]
  refine Nat.le_trans (List.IsSuffix.length_le (List.dropWhile_suffix _)) ?_
  rw [List.length_reverse]; exact Nat.le_refl _
theorem str_beq (a b : By) : ((bsl a).toList == (bsl b).toList) = decide (a = b) := by
  rw [bsl_toList, bsl_toList]
  by_cases h : a = b
  · simp [h]
  · simp [h]
set_option maxRecDepth 100000 in
set_option maxHeartbeats 2000000 in
theorem Get_any (v : Value) (l : List Bd) (a : ByteArray) (w : World) (hr : RdB w w.heap.size v l) (ha : a.size ≤ 4294967281) :
    Calls Tryd.prog 15 #[v, .string a] w fun e w' => e = .returned (outG (find (tr a.data.toList) l)) ∧ Below w.heap.size w w' := by
  obtain ⟨A1, c1, rfl, l1, m1, r1⟩ := hr.ex
  unfold maxLen at m1
  clear hr
  have HT0 := fun w => Trim_any a w ha
  obtain ⟨n, hn⟩ : ∃ n, tr a.data.toList = n := ⟨_, rfl⟩
  rw [hn] at HT0 ⊢
  have HT := Lib.hid HT0
  clear HT0 hn
  have R1 := Lib.hid r1; clear r1
  go_enter Tryd.func15, Tryd.ntmps15
  go_wp2_with fail
  refine (HT.out _).mono ?_
  rintro e w1 ⟨rfl, hb1⟩
  have HB := Lib.hid hb1
  clear hb1 HT
  go_wp2_with fail
  go_loopw [12] (fun i wr => ∃ k : Nat, k ≤ l.length ∧ i = .int .i64 k ∧ Hid (Below w.heap.size w wr) ∧ Hid (find n l = find n (l.drop k))) (fun i _ => l.length - (intOf i).toNat)
  case atStart => exact ⟨0, Nat.zero_le _, rfl, HB, Lib.hid rfl⟩
  case round =>
    obtain ⟨k, hk, rfl, hb, hf⟩ := hrel
    by_cases hlt : k < l.length
    · obtain ⟨g, o, rfl, hg, q⟩ := R1.out (by omega)
      have hki : (k : Int) < (l.length : Int) := by omega
      have q1 := q k l[k] (List.getElem?_eq_getElem hlt) 0 _ rfl
      have q2 := q k l[k] (List.getElem?_eq_getElem hlt) 1 _ rfl
      have HF := Lib.hid (find_some_drop (n := n) hlt)
      generalize l[k] = p at q1 q2 HF
      obtain ⟨pn, pt⟩ := p
      simp only [Nat.add_zero] at q1 q2
      have hc : ∀ j, wr.cell? ⟨g, j, none⟩ = w.cell? ⟨g, j, none⟩ := fun j => hb.out.cell (p := ⟨g, j, none⟩) hg
      rw [← hc] at q1 q2
      clear hc q
      have hcmp := str_beq pn n
      by_cases he : pn = n
      · have hd : decide (pn = n) = true := decide_eq_true he
        rw [hd] at hcmp
        have HO : Hid (find n l = some pt) := Lib.hid (by rw [hf.out, HF.out, if_pos he])
        clear he hd
        go_wp2
        go_ret2
        exact ⟨by rw [HO.out]; rfl, hb.out.trans ((Below.refl _ _).alloc hb.out.size _)⟩
      · have hd : decide (pn = n) = false := decide_eq_false he
        rw [hd] at hcmp
        have HO : Hid (find n l = find n (l.drop (k + 1))) := Lib.hid (by rw [hf.out, HF.out, if_neg he])
        clear he hd
        go_wp2
        go_roundw
        case rel => exact ⟨k + 1, by omega, by go_num, Lib.hid (hb.out.trans ((Below.refl _ _).alloc hb.out.size _)), HO⟩
        case measure => simp [intOf]; omega
    · have HO : Hid (find n l = none) := Lib.hid (by rw [hf.out, List.drop_eq_nil_of_le (by omega)]; rfl)
      go_wp2
      go_ret2
      exact ⟨by rw [HO.out]; rfl, hb.out⟩
set_option maxRecDepth 100000 in
set_option maxHeartbeats 2000000 in
theorem Names_any (v : Value) (l : List Bd) (w : World) (hr : RdB w w.heap.size v l) (hl : l.length ≤ 65536) :
    Calls Tryd.prog 13 #[v] w fun e w' => ∃ v', e = .returned v' ∧ OwnS w' w.heap.size v' (l.map Prod.fst) ∧ Below w.heap.size w w' := by
  obtain ⟨A1, c1, rfl, l1, m1, r1⟩ := hr.ex
  unfold maxLen at m1
  clear hr
  obtain ⟨i0, hi0, hz0, hz1, hz2⟩ := info_parts strInfo
  have R1 := Lib.hid r1; clear r1
  go_enter Tryd.func13, Tryd.ntmps13
  go_wp2
  go_loopw [3, 8] (fun nv i wr => ∃ k : Nat, k ≤ l.length ∧ i = .int .i64 k ∧ Hid (Below w.heap.size w wr) ∧ Hid (OwnS wr w.heap.size nv ((l.take k).map Prod.fst))) (fun _ i _ => l.length - (intOf i).toNat)
  case atStart => exact ⟨0, Nat.zero_le _, rfl, Lib.hid (Below.refl _ _), Lib.hid (OwnS.nil _ _)⟩
  case round =>
    obtain ⟨k, hk, rfl, hb, ho⟩ := hrel
    by_cases hlt : k < l.length
    · obtain ⟨g, o, rfl, hg, q⟩ := R1.out (by omega)
      have hki : (k : Int) < (l.length : Int) := by omega
      have q1 := q k l[k] (List.getElem?_eq_getElem hlt) 0 _ rfl
      have q2 := q k l[k] (List.getElem?_eq_getElem hlt) 1 _ rfl
      have HT : Hid ((l.take (k + 1)).map Prod.fst = (l.take k).map Prod.fst ++ [l[k].1]) := Lib.hid (by rw [List.take_succ_eq_append_getElem hlt, List.map_append]; rfl)
      generalize l[k] = p at q1 q2 HT
      obtain ⟨pn, pt⟩ := p
      simp only [Nat.add_zero] at q1 q2 HT
      have hc : ∀ j, wr.cell? ⟨g, j, none⟩ = w.cell? ⟨g, j, none⟩ := fun j => hb.out.cell (p := ⟨g, j, none⟩) hg
      rw [← hc] at q1 q2
      clear hc q
      have hln : ((l.take k).map Prod.fst).length ≤ 65536 := by rw [List.length_map, List.length_take]; omega
      have hs1 : w.heap.size ≤ wr.heap.size := hb.out.size
      have HO := Lib.hid ho.out
      generalize (l.take k).map Prod.fst = L at hln HO HT
      clear ho
      go_wp2_with (at_builtin; refine wpList_append_own _ rfl (.tmp 12) (.tmp 15) _ rfl w.heap.size 9 i0 _ 1 16 Tryd.underlying30 hi0 hz0 hz1 hz2 rfl (by omega) u3 L.length (L.flatMap encS) rfl (World.ownsRow.alloc (World.ownsRow.alloc HO.out _) _) ⟨wr.heap.size + 1, 0, none⟩ 1 1 [.string (bsl pn)] rfl rfl (by have := cells_new (wr.alloc (.cells #[.string (bsl pn), .string (bsl pt)] 33)) [.string (bsl pn)] 9; simpa using this) (by simp [Value.oneCell']) (by simp only [maxLen]; omega) (by omega) (by simp; omega) ?_; intro v2 w2 ho2 hg2 _)
      go_roundw
      case rel => exact ⟨k + 1, by omega, by go_num, Lib.hid (hb.out.trans (((Below.refl _ _).alloc hs1 _).trans ((((Below.refl _ _).alloc (by simp; omega) _)).trans (below_own (World.ownsRow.alloc (World.ownsRow.alloc HO.out _) _) hg2 (by simp; omega))))), Lib.hid (by rw [HT.out]; exact snocS ho2)⟩
      case measure => simp [intOf]; omega
    · have HE : Hid ((l.take k).map Prod.fst = l.map Prod.fst) := Lib.hid (by rw [List.take_of_length_le (by omega)])
      go_wp2
      go_ret
      exact ⟨u3, rfl, by rw [← HE.out]; exact ho.out, hb.out⟩
end Go.Proofs.YtaallpfkgcndmaaDoor.Pm
