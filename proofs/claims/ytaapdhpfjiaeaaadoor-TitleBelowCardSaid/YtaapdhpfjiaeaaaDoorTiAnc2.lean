/-
  Lists of titles in memory, and the contracts of Ancestors of package title and of the reference.
-/
import Derived.Test.YtaapdhpfjiaeaaaDoorTiAnc
import Derived.Test.YtaapdhpfjiaeaaaDoorTiRefV2
import Derived.Deep.RegionHeld3
import Derived.Deep.AppendLies
import Derived.RegionTactic
import Derived.OwnWalk
import Derived.Laws.OwnMore
import Derived.Laws.Rows
namespace Go.Proofs.YtaapdhpfjiaeaaaDoor.Ti
open Go.RowKit

abbrev Ttl := Int × List UInt8
/-- The cells of titles, two a title. -/
def cellsT (l : List Ttl) : List Value := l.flatMap fun x => [.int .i64 x.1, .string ⟨x.2.toArray⟩]
theorem cellsT_append (a b : List Ttl) : cellsT (a ++ b) = cellsT a ++ cellsT b := by simp [cellsT]
theorem title_info : (Tryd.prog.info? 24).map (fun i => (i.zero, i.size, i.bytes)) = some (some (.agg #[.int .i64 0, .string ⟨#[]⟩]), 2, 24) := by kernel_rfl
/-- A list of titles of the caller's own. -/
def OwnT (w : World) (base : Nat) (v : Value) (l : List Ttl) : Prop := w.ownsRow base 24 2 v l.length (cellsT l)
theorem OwnT.below {w w' : World} {base B : Nat} {v : Value} {l : List Ttl} (h : OwnT w base v l) (hb : Below B w w') (hB : w.heap.size ≤ B) : OwnT w' base v l := by
  refine ⟨h.1, ?_⟩
  rcases h.2 with h2 | ⟨g, cap, cur, h3, h4, h5, h6⟩
  · exact .inl h2
  · have hlt : g < w.heap.size := (Array.getElem?_eq_some_iff.1 h5).1
    exact .inr ⟨g, cap, cur, h3, h4, (hb.block g (by omega)).trans h5, h6⟩
theorem OwnT.lower {w : World} {base base' : Nat} {v : Value} {l : List Ttl} (h : OwnT w base v l) (hb : base' ≤ base) : OwnT w base' v l := by
  refine ⟨h.1, ?_⟩
  rcases h.2 with h2 | ⟨g, cap, cur, h3, h4, h5, h6⟩
  · exact .inl h2
  · exact .inr ⟨g, cap, cur, h3, by omega, h5, h6⟩
theorem ownT_snoc {w : World} {base : Nat} {v : Value} {l : List Ttl} {x : Ttl} {n : Nat} (h : w.ownsRow base 24 2 v (n + 1) (cellsT l ++ [.int .i64 x.1, .string ⟨x.2.toArray⟩])) (hn : n = l.length) : OwnT w base v (l ++ [x]) := by
  subst hn
  unfold OwnT; rw [cellsT_append, List.length_append]; exact h
theorem belowT_own {w w' : World} {base : Nat} {v : Value} {l : List Ttl} (ho : OwnT w base v l) (hg : w.grownBy w' v.ownBlock) (hb : base ≤ w.heap.size) : Below base w w' :=
  (Below.refl _ _).grown hg hb fun k hk => (World.ownsRow.lt ho k hk).1
/-- What Ancestors leaves. -/
def AncPost (w : World) (l : List Ttl) (e : Ending) (w' : World) : Prop := ∃ v, e = .returned v ∧ OwnT w' w.heap.size v l ∧ Below w.heap.size w w'
theorem ext_take (s : ByteArray) (k : Nat) : s.extract 0 k = ⟨(s.data.toList.take k).toArray⟩ := by rw [Lib.extract_eq]; simp

theorem Anc_bad (sp : Int) (s : ByteArray) (w : World) (ht : Tb w) (hs : s.size ≤ 65536) (hv : valid sp s.data.toList = false) :
    Calls Tryd.prog 21 #[.agg #[.int .i64 sp, .string s]] w (AncPost w (ancestors sp s.data.toList)) := by
  have HN : Hid (ancestors sp s.data.toList = []) := Lib.hid (by unfold ancestors; rw [hv]; rfl)
  have hml : s.size ≤ maxLen := by unfold maxLen; omega
  have HML := Lib.hid hml; clear hml
  have hbel : Below w.heap.size w (w.alloc (.cells #[.int .i64 sp, .string s] 24)) := (Below.refl _ w).alloc (Nat.le_refl _) _
  have HB := Lib.hid hbel; clear hbel
  go_enter Tryd.func21, Tryd.ntmps21
  go_wp2_with fail
  refine (Valid_any _ _ _ HML.out (ht.below HB.out)).mono ?_
  rintro e w1 ⟨rfl, hb1⟩
  rw [hv]
  go_wp2
  go_ret
  exact ⟨_, rfl, by rw [HN.out]; exact World.ownsRow_nil _ _ _ _, HB.out.trans (hb1.mono HB.out.size)⟩

set_option maxRecDepth 100000 in
set_option maxHeartbeats 3200000 in
theorem Anc_good (sp : Int) (s : ByteArray) (w : World) (ht : Tb w) (hs : s.size ≤ 65536) (hv : valid sp s.data.toList = true) :
    Calls Tryd.prog 21 #[.agg #[.int .i64 sp, .string s]] w (AncPost w (ancestors sp s.data.toList)) := by
  obtain ⟨i0, hi0, hz0, hz1, hz2⟩ := info_parts title_info
  have HN : Hid (ancestors sp s.data.toList = (ancK s.data.toList s.data.toList.length).map fun x => (sp, x)) := Lib.hid (by unfold ancestors; rw [if_pos hv])
  have hml : s.size ≤ maxLen := by unfold maxLen; omega
  have HML := Lib.hid hml; clear hml
  have hbel : Below w.heap.size w (w.alloc (.cells #[.int .i64 sp, .string s] 24)) := (Below.refl _ w).alloc (Nat.le_refl _) _
  have HB := Lib.hid hbel; clear hbel
  go_enter Tryd.func21, Tryd.ntmps21
  go_wp2_with fail
  refine (Valid_any _ _ _ HML.out (ht.below HB.out)).mono ?_
  rintro e w1 ⟨rfl, hb1⟩
  rw [hv]
  clear hv
  have hs1 := hb1.size
  simp at hs1
  have c0 : w1.cell? ⟨w.heap.size, 0, none⟩ = some (.int .i64 sp) := by rw [hb1.cell (p := ⟨w.heap.size, 0, none⟩) (by simp)]; simp
  have c1 : w1.cell? ⟨w.heap.size, 1, none⟩ = some (.string s) := by rw [hb1.cell (p := ⟨w.heap.size, 1, none⟩) (by simp)]; simp
  have HW : Hid (Below w.heap.size w w1) := Lib.hid (HB.out.trans (hb1.mono HB.out.size))
  clear hb1 HB
  have C0 := Lib.hid c0; have C1 := Lib.hid c1
  generalize hB : w.heap.size = B at C0 C1 HW hs1 c0 c1 ⊢
  go_wp2
  go_loopw [3, 11] (fun tk at_ wr => ∃ k : Nat, at_ = .int .i64 k ∧ k ≤ s.size ∧ Hid (OwnT wr w1.heap.size tk ((ancK s.data.toList k).map fun x => (sp, x))) ∧ Hid (Below w1.heap.size w1 wr)) (fun _ at_ _ => s.size - (intOf at_).toNat)
  case atStart => exact ⟨0, rfl, Nat.zero_le _, Lib.hid (World.ownsRow_nil _ _ _ _), Lib.hid (Below.refl _ _)⟩
  case round =>
    obtain ⟨k, rfl, hk, ho, hb⟩ := hrel
    have hz := hb.out.size
    have d0 : wr.cell? ⟨B, 0, none⟩ = some (.int .i64 sp) := (hb.out.cell (p := ⟨B, 0, none⟩) (by show B < _; omega)).trans C0.out
    have d1 : wr.cell? ⟨B, 1, none⟩ = some (.string s) := (hb.out.cell (p := ⟨B, 1, none⟩) (by show B < _; omega)).trans C1.out
    clear c0 c1
    by_cases hlt : k < s.size
    · have hlt' : (k : Int) < (s.size : Int) := by omega
      have hat : s.data.toList[k]? = some s[k] := Lib.data_getElem? s k hlt
      have hal := ancK_len s.data.toList k
      by_cases h47 : s[k] = 47
      · have hd : ((s[k].toNat : Int) == 47) = true := by rw [h47]; rfl
        have HA : Hid ((ancK s.data.toList (k + 1)).map (fun x => (sp, x)) = (ancK s.data.toList k).map (fun x => (sp, x)) ++ [(sp, s.data.toList.take k)]) := Lib.hid (by rw [ancK_yes (by rw [hat, h47]), List.map_append]; rfl)
        clear hat h47
        generalize hL : (ancK s.data.toList k).map (fun x => (sp, x)) = L at ho HA
        have hLl : L.length ≤ k := by rw [← hL, List.length_map]; exact hal
        clear hL hal
        have lB : B < wr.heap.size := by omega
        have hne : u3.ownBlock ≠ some B := fun e => by have := (World.ownsRow.lt ho.out B e).1; omega
        have HX : Hid (s.extract 0 k = ⟨(s.data.toList.take k).toArray⟩) := Lib.hid (ext_take s k)
        have hk' : k ≤ s.size := hk
        have hk'' : (k : Int) ≤ (s.size : Int) := by omega
        have ho' := ho.out
        unfold OwnT at ho'
        go_wp2
        go_region_held3 (fun w' => w'.cell? ⟨B, 0, none⟩ = some (.int .i64 sp) ∧ w'.cell? ⟨B, 1, none⟩ = some (.string s))
          (first
            | go_keep
            | (go_split_ands
               refine ⟨?_, ?_⟩
               · (rw [hgrow.cell_far _ (by simp; omega) (Ne.symm hne)]; assumption)
               · (rw [hgrow.cell_far _ (by simp; omega) (Ne.symm hne)]; assumption)))
          ((refine step_append_lies _ (by rfl) _ _ _ (by rfl) w1.heap.size 24 i0 _ 2 24 Tryd.underlying35 hi0 hz0 hz1 hz2 rfl (by omega) u3 L.length (cellsT L) (by rfl) ((World.ownsRow.alloc ho' _).drew)
              ⟨wr.heap.size, 0, none⟩ 1 1 [.int .i64 sp, .string (s.extract 0 k)] (by rfl) (by rfl) (World.news_of_block (cs := #[.int .i64 sp, .string (s.extract 0 k)]) (t := 24) (fr := (0, 0)) (heap_alloc_new wr _)) (by simp [Value.oneCell'])
              (by omega) (by simp only [maxLen]; omega) (by omega) (by simp; omega) (wr.heap.size + 1) (by simp) ?_; intro gg cap w2 hown1 hgrow hat hlt2))
        go_wp2
        go_roundw
        case rel => exact ⟨k + 1, by go_num, by omega, Lib.hid (by rw [HA.out]; rw [HX.out] at hown1; exact ownT_snoc (x := (sp, s.data.toList.take k)) hown1 rfl), Lib.hid (hb.out.trans (((Below.refl _ _).alloc hz _).drew.trans (belowT_own ((World.ownsRow.alloc ho' _).drew) hgrow (by simp; omega))))⟩
        case measure => simp [intOf]; omega
      · have hd : ((s[k].toNat : Int) == 47) = false := by
          rw [beq_eq_false_iff_ne]; intro e; exact h47 (UInt8.toNat_inj.1 (by show s[k].toNat = 47; omega))
        have HA : Hid (ancK s.data.toList (k + 1) = ancK s.data.toList k) := Lib.hid (ancK_no (by rw [hat]; simpa using h47))
        clear hat h47
        go_wp2
        go_roundw
        case rel => exact ⟨k + 1, by go_num, by omega, Lib.hid (by rw [HA.out]; exact ho.out), hb⟩
        case measure => simp [intOf]; omega
    · have hlt' : ¬ (k : Int) < (s.size : Int) := by omega
      have he : Hid (k = s.data.toList.length) := Lib.hid (by show k = s.size; omega)
      go_wp2
      go_ret
      exact ⟨_, rfl, by rw [HN.out, ← he.out, hB]; exact ho.out.lower (by omega), by rw [hB]; exact HW.out.trans (hb.out.mono (by omega))⟩
theorem Anc_any (sp : Int) (s : ByteArray) (w : World) (ht : Tb w) (hs : s.size ≤ 65536) :
    Calls Tryd.prog 21 #[.agg #[.int .i64 sp, .string s]] w (AncPost w (ancestors sp s.data.toList)) := by
  cases hv : valid sp s.data.toList
  · exact Anc_bad sp s w ht hs hv
  · exact Anc_good sp s w ht hs hv

theorem AncR_bad (sp : Int) (s : ByteArray) (w : World) (hs : s.size ≤ 65536) (hv : valid sp s.data.toList = false) :
    Calls Tryd.prog 23 #[.agg #[.int .i64 sp, .string s]] w (AncPost w (ancestors sp s.data.toList)) := by
  have HN : Hid (ancestors sp s.data.toList = []) := Lib.hid (by unfold ancestors; rw [hv]; rfl)
  have hml : s.size ≤ maxLen := by unfold maxLen; omega
  have HML := Lib.hid hml; clear hml
  have hbel : Below w.heap.size w (w.alloc (.cells #[.int .i64 sp, .string s] 24)) := (Below.refl _ w).alloc (Nat.le_refl _) _
  have HB := Lib.hid hbel; clear hbel
  go_enter Tryd.func23, Tryd.ntmps23
  go_wp2_with fail
  refine (RefValid_any _ _ _ HML.out).mono ?_
  rintro e w1 ⟨rfl, hb1⟩
  rw [hv]
  go_wp2
  go_ret
  exact ⟨_, rfl, by rw [HN.out]; exact World.ownsRow_nil _ _ _ _, HB.out.trans (hb1.mono HB.out.size)⟩

set_option maxRecDepth 100000 in
set_option maxHeartbeats 3200000 in
theorem AncR_good (sp : Int) (s : ByteArray) (w : World) (hs : s.size ≤ 65536) (hv : valid sp s.data.toList = true) :
    Calls Tryd.prog 23 #[.agg #[.int .i64 sp, .string s]] w (AncPost w (ancestors sp s.data.toList)) := by
  obtain ⟨i0, hi0, hz0, hz1, hz2⟩ := info_parts title_info
  have HN : Hid (ancestors sp s.data.toList = (ancK s.data.toList s.data.toList.length).map fun x => (sp, x)) := Lib.hid (by unfold ancestors; rw [if_pos hv])
  have hml : s.size ≤ maxLen := by unfold maxLen; omega
  have HML := Lib.hid hml; clear hml
  have hbel : Below w.heap.size w (w.alloc (.cells #[.int .i64 sp, .string s] 24)) := (Below.refl _ w).alloc (Nat.le_refl _) _
  have HB := Lib.hid hbel; clear hbel
  go_enter Tryd.func23, Tryd.ntmps23
  go_wp2_with fail
  refine (RefValid_any _ _ _ HML.out).mono ?_
  rintro e w1 ⟨rfl, hb1⟩
  rw [hv]
  clear hv
  have hs1 := hb1.size
  simp at hs1
  have c0 : w1.cell? ⟨w.heap.size, 0, none⟩ = some (.int .i64 sp) := by rw [hb1.cell (p := ⟨w.heap.size, 0, none⟩) (by simp)]; simp
  have c1 : w1.cell? ⟨w.heap.size, 1, none⟩ = some (.string s) := by rw [hb1.cell (p := ⟨w.heap.size, 1, none⟩) (by simp)]; simp
  have HW : Hid (Below w.heap.size w w1) := Lib.hid (HB.out.trans (hb1.mono HB.out.size))
  clear hb1 HB
  have C0 := Lib.hid c0; have C1 := Lib.hid c1
  generalize hB : w.heap.size = B at C0 C1 HW hs1 c0 c1 ⊢
  go_wp2
  go_loopw [3, 4] (fun tk at_ wr => ∃ k : Nat, at_ = .int .i64 k ∧ k ≤ s.size ∧ Hid (OwnT wr w1.heap.size tk ((ancK s.data.toList k).map fun x => (sp, x))) ∧ Hid (Below w1.heap.size w1 wr)) (fun _ at_ _ => s.size - (intOf at_).toNat)
  case atStart => exact ⟨0, rfl, Nat.zero_le _, Lib.hid (World.ownsRow_nil _ _ _ _), Lib.hid (Below.refl _ _)⟩
  case round =>
    obtain ⟨k, rfl, hk, ho, hb⟩ := hrel
    have hz := hb.out.size
    have d0 : wr.cell? ⟨B, 0, none⟩ = some (.int .i64 sp) := (hb.out.cell (p := ⟨B, 0, none⟩) (by show B < _; omega)).trans C0.out
    have d1 : wr.cell? ⟨B, 1, none⟩ = some (.string s) := (hb.out.cell (p := ⟨B, 1, none⟩) (by show B < _; omega)).trans C1.out
    clear c0 c1
    by_cases hlt : k < s.size
    · have hlt' : (k : Int) < (s.size : Int) := by omega
      have hat : s.data.toList[k]? = some s[k] := Lib.data_getElem? s k hlt
      have hal := ancK_len s.data.toList k
      by_cases h47 : s[k] = 47
      · have hd : ((s[k].toNat : Int) == 47) = true := by rw [h47]; rfl
        have HA : Hid ((ancK s.data.toList (k + 1)).map (fun x => (sp, x)) = (ancK s.data.toList k).map (fun x => (sp, x)) ++ [(sp, s.data.toList.take k)]) := Lib.hid (by rw [ancK_yes (by rw [hat, h47]), List.map_append]; rfl)
        clear hat h47
        generalize hL : (ancK s.data.toList k).map (fun x => (sp, x)) = L at ho HA
        have hLl : L.length ≤ k := by rw [← hL, List.length_map]; exact hal
        clear hL hal
        have lB : B < wr.heap.size := by omega
        have hne : u3.ownBlock ≠ some B := fun e => by have := (World.ownsRow.lt ho.out B e).1; omega
        have HX : Hid (s.extract 0 k = ⟨(s.data.toList.take k).toArray⟩) := Lib.hid (ext_take s k)
        have hk' : k ≤ s.size := hk
        have hk'' : (k : Int) ≤ (s.size : Int) := by omega
        have ho' := ho.out
        unfold OwnT at ho'
        go_wp2
        go_region_held3 (fun w' => w'.cell? ⟨B, 0, none⟩ = some (.int .i64 sp) ∧ w'.cell? ⟨B, 1, none⟩ = some (.string s))
          (first
            | go_keep
            | (go_split_ands
               refine ⟨?_, ?_⟩
               · (rw [hgrow.cell_far _ (by simp; omega) (Ne.symm hne)]; assumption)
               · (rw [hgrow.cell_far _ (by simp; omega) (Ne.symm hne)]; assumption)))
          ((refine step_append_lies _ (by rfl) _ _ _ (by rfl) w1.heap.size 24 i0 _ 2 24 Tryd.underlying35 hi0 hz0 hz1 hz2 rfl (by omega) u3 L.length (cellsT L) (by rfl) ((World.ownsRow.alloc ho' _).drew)
              ⟨wr.heap.size, 0, none⟩ 1 1 [.int .i64 sp, .string (s.extract 0 k)] (by rfl) (by rfl) (World.news_of_block (cs := #[.int .i64 sp, .string (s.extract 0 k)]) (t := 24) (fr := (0, 0)) (heap_alloc_new wr _)) (by simp [Value.oneCell'])
              (by omega) (by simp only [maxLen]; omega) (by omega) (by simp; omega) (wr.heap.size + 1) (by simp) ?_; intro gg cap w2 hown1 hgrow hat hlt2))
        go_wp2
        go_roundw
        case rel => exact ⟨k + 1, by go_num, by omega, Lib.hid (by rw [HA.out]; rw [HX.out] at hown1; exact ownT_snoc (x := (sp, s.data.toList.take k)) hown1 rfl), Lib.hid (hb.out.trans (((Below.refl _ _).alloc hz _).drew.trans (belowT_own ((World.ownsRow.alloc ho' _).drew) hgrow (by simp; omega))))⟩
        case measure => simp [intOf]; omega
      · have hd : ((s[k].toNat : Int) == 47) = false := by
          rw [beq_eq_false_iff_ne]; intro e; exact h47 (UInt8.toNat_inj.1 (by show s[k].toNat = 47; omega))
        have HA : Hid (ancK s.data.toList (k + 1) = ancK s.data.toList k) := Lib.hid (ancK_no (by rw [hat]; simpa using h47))
        clear hat h47
        go_wp2
        go_roundw
        case rel => exact ⟨k + 1, by go_num, by omega, Lib.hid (by rw [HA.out]; exact ho.out), hb⟩
        case measure => simp [intOf]; omega
    · have hlt' : ¬ (k : Int) < (s.size : Int) := by omega
      have he : Hid (k = s.data.toList.length) := Lib.hid (by show k = s.size; omega)
      go_wp2
      go_ret
      exact ⟨_, rfl, by rw [HN.out, ← he.out, hB]; exact ho.out.lower (by omega), by rw [hB]; exact HW.out.trans (hb.out.mono (by omega))⟩
theorem AncR_any (sp : Int) (s : ByteArray) (w : World) (hs : s.size ≤ 65536) :
    Calls Tryd.prog 23 #[.agg #[.int .i64 sp, .string s]] w (AncPost w (ancestors sp s.data.toList)) := by
  cases hv : valid sp s.data.toList
  · exact AncR_bad sp s w hs hv
  · exact AncR_good sp s w hs hv
end Go.Proofs.YtaapdhpfjiaeaaaDoor.Ti
