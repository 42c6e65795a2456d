/-
  The contract of Parse of package calendar.
-/
import Derived.Test.YtlkbdnjpcagopaaDoorCaForm
import Derived.Test.YtlkbdnjpcagopaaDoorCaLawDA
import Derived.Deep.RegionWith
import Derived.Deep.Cut
import Derived.Deep.CutRange
namespace Go.Proofs.YtlkbdnjpcagopaaDoor.Ca
open Go.RowKit
set_option linter.unusedVariables false
set_option linter.unusedSimpArgs false

theorem form_size {s : ByteArray} (h : form s.data.toList = true) : s.size = 10 ∨ s.size = 16 := by
  unfold form at h
  rw [Bool.and_eq_true, Bool.or_eq_true] at h
  have hl : s.data.toList.length = s.size := by simp
  rw [hl] at h
  rcases h.1 with e | e
  · exact .inl (by simpa using e)
  · exact .inr (by simpa using e)
theorem form_dig {l : List UInt8} (h : form l = true) (h16 : l.length ≤ 16) {i : Nat} (hi : i < l.length) (h48 : gb layB i = 48) : isD (gb l i) = true := by
  unfold form at h
  rw [Bool.and_eq_true] at h
  have := (allFit_iff layB l h16).1 h.2 i hi
  rw [h48] at this
  unfold fits at this; rwa [if_pos rfl] at this
theorem part_dig {l : List UInt8} (h : form l = true) (h16 : l.length ≤ 16) (a n : Nat) (hn : a + n ≤ l.length) (h48 : ∀ i, a ≤ i → i < a + n → gb layB i = 48) : ∀ c ∈ (l.drop a).take n, isD c = true := by
  intro c hc
  obtain ⟨j, hj, rfl⟩ := List.getElem_of_mem hc
  have hj2 : j < n := by rw [List.length_take] at hj; omega
  have e : ((l.drop a).take n)[j] = gb l (a + j) := by
    unfold gb; rw [List.getElem_take, List.getElem_drop, List.getD_eq_getElem?_getD, List.getElem?_eq_getElem (by omega)]; rfl
  rw [e]
  exact form_dig h h16 (by omega) (h48 _ (by omega) (by omega))
theorem l48a : ∀ i, 0 ≤ i → i < 0 + 4 → gb layB i = 48 := by
  intro i h1 h2
  have h : i = 0 ∨ i = 1 ∨ i = 2 ∨ i = 3 := by omega
  rcases h with rfl | rfl | rfl | rfl <;> rfl
theorem l48b : ∀ i, 5 ≤ i → i < 5 + 2 → gb layB i = 48 := by
  intro i h1 h2
  have h : i = 5 ∨ i = 6 := by omega
  rcases h with rfl | rfl <;> rfl
theorem l48c : ∀ i, 8 ≤ i → i < 8 + 2 → gb layB i = 48 := by
  intro i h1 h2
  have h : i = 8 ∨ i = 9 := by omega
  rcases h with rfl | rfl <;> rfl
theorem l48d : ∀ i, 11 ≤ i → i < 11 + 2 → gb layB i = 48 := by
  intro i h1 h2
  have h : i = 11 ∨ i = 12 := by omega
  rcases h with rfl | rfl <;> rfl
theorem l48e : ∀ i, 14 ≤ i → i < 14 + 2 → gb layB i = 48 := by
  intro i h1 h2
  have h : i = 14 ∨ i = 15 := by omega
  rcases h with rfl | rfl <;> rfl
theorem parse_code {l : List UInt8} (h : form l = true) (hh0 : 0 ≤ hh l) (hm0 : 0 ≤ mm l) : parse l = if 60 ≤ mm l then ⟨0, 2⟩ else minu (dv (l.take 4)) (dv ((l.drop 5).take 2)) (dv ((l.drop 8).take 2)) (hh l * 60 + mm l) := by
  unfold parse; rw [if_pos h]
  by_cases a : 60 ≤ mm l
  · rw [if_pos (by omega), if_pos a]
  · by_cases b : 23 < hh l
    · rw [if_pos (by omega), if_neg a, minu_no (by omega)]
    · rw [if_neg (by omega), if_neg a]
theorem parse_no {l : List UInt8} (h : form l = false) : parse l = ⟨0, 1⟩ := by unfold parse; rw [h]; rfl
theorem decimal_at (s : ByteArray) (w : World) (hs : s.size ≤ 4) (hd : ∀ c ∈ s.data.toList, isD c = true) (v : Int) (hv : dv s.data.toList = v) :
    Calls Tryd.prog 42 #[.string s] w fun e w' => e = .returned (.int .i64 v) ∧ w.alloc (.stringIter s s.size) = w' := by
  subst hv; exact decimal_any s w hs hd
theorem nmA (w : World) (a b c : Obj) (p q r : Int) : Nm3 (((((w.alloc a).alloc b).alloc c).alloc (.cells #[.int .i64 p, .int .i64 q, .int .i64 r] 23)).drew) (w.heap.size + 1 + 1 + 1) p q r := by
  have h := Nm3.new (((w.alloc a).alloc b).alloc c) p q r
  rw [World.size_alloc, World.size_alloc, World.size_alloc] at h
  exact h.below (below_drewN (Below.refl _ _) 1)
theorem nmB (w : World) (a b c : Obj) (p q r : Int) : Nm3 (((((w.alloc a).alloc b).alloc (.cells #[.int .i64 p, .int .i64 q, .int .i64 r] 23)).alloc c).drew) (w.heap.size + 1 + 1) p q r := by
  have h := Nm3.new ((w.alloc a).alloc b) p q r
  rw [World.size_alloc, World.size_alloc] at h
  exact (h.alloc c).below (below_drewN (Below.refl _ _) 1)
theorem nmC (w : World) (a b c : Obj) (p q r : Int) : Nm3 (((((w.alloc a).alloc (.cells #[.int .i64 p, .int .i64 q, .int .i64 r] 23)).alloc b).alloc c).drew) (w.heap.size + 1) p q r := by
  have h := Nm3.new (w.alloc a) p q r
  rw [World.size_alloc] at h
  exact ((h.alloc b).alloc c).below (below_drewN (Below.refl _ _) 1)
theorem nmD (w : World) (a b c : Obj) (p q r : Int) : Nm3 (((((w.alloc (.cells #[.int .i64 p, .int .i64 q, .int .i64 r] 23)).alloc a).alloc b).alloc c).drew) w.heap.size p q r :=
  ((((Nm3.new w p q r).alloc a).alloc b).alloc c).below (below_drewN (Below.refl _ _) 1)
set_option maxRecDepth 100000 in
set_option maxHeartbeats 4000000 in
theorem Parse_any (s : ByteArray) (w : World) (hsz : s.size ≤ 1000) (ht : Tb w) :
    Calls Tryd.prog 24 #[.string s] w fun e w' => e = .returned (.tuple #[.int .i64 (parse s.data.toList).n, .int .i64 (parse s.data.toList).e]) ∧ Below w.heap.size w w' := by
  have HC := Lib.hid (fun w => hasForm_any s w hsz)
  cases hf : form s.data.toList
  · rw [hf] at HC
    have HP := Lib.hid (parse_no hf)
    clear hf
    go_enter Tryd.func24, Tryd.ntmps24
    go_wp2_with fail
    (with_reducible refine (HC.out _).mono ?_)
    rintro e w1 ⟨rfl, hb⟩
    go_wp2
    go_ret2
    exact ⟨by rw [HP.out]; rfl, hb⟩
  · rw [hf] at HC
    have hl : s.data.toList.length = s.size := by simp
    have hsz2 := form_size hf
    have h16 : s.data.toList.length ≤ 16 := by omega
    have d1 := part_dig hf h16 0 4 (by omega) l48a
    have d2 := part_dig hf h16 5 2 (by omega) l48b
    have d3 := part_dig hf h16 8 2 (by omega) l48c
    rw [List.drop_zero] at d1
    have x1 : (s.extract 0 4).data.toList = s.data.toList.take 4 := by rw [Lib.extract_data]; rfl
    have x2 : (s.extract 5 7).data.toList = (s.data.toList.drop 5).take 2 := by rw [Lib.extract_data]
    have x3 : (s.extract 8 10).data.toList = (s.data.toList.drop 8).take 2 := by rw [Lib.extract_data]
    obtain ⟨Y, hY⟩ : ∃ Y, dv (s.data.toList.take 4) = Y := ⟨_, rfl⟩
    obtain ⟨M, hM⟩ : ∃ M, dv ((s.data.toList.drop 5).take 2) = M := ⟨_, rfl⟩
    obtain ⟨D, hD⟩ : ∃ D, dv ((s.data.toList.drop 8).take 2) = D := ⟨_, rfl⟩
    have H1 := Lib.hid (fun w => decimal_at (s.extract 0 4) w (by simp; omega) (by rw [x1]; exact d1) Y (by rw [x1]; exact hY))
    have H2 := Lib.hid (fun w => decimal_at (s.extract 5 7) w (by simp; omega) (by rw [x2]; exact d2) M (by rw [x2]; exact hM))
    have H3 := Lib.hid (fun w => decimal_at (s.extract 8 10) w (by simp; omega) (by rw [x3]; exact d3) D (by rw [x3]; exact hD))
    rcases hsz2 with e | e
    · have hh0 : hh s.data.toList = 0 := by unfold hh; rw [List.drop_eq_nil_of_le (by omega)]; rfl
      have hm0 : mm s.data.toList = 0 := by unfold mm; rw [List.drop_eq_nil_of_le (by omega)]; rfl
      have hp := parse_code hf (by omega) (by omega)
      rw [hh0, hm0, hY, hM, hD, if_neg (by omega)] at hp
      have HP := Lib.hid hp
      have HMN := Lib.hid (fun w ht => Minute_any Y M D 0 w ht)
      clear hp hh0 hm0 hf hl h16 d1 d2 d3 x1 x2 x3 hY hM hD
      go_enter Tryd.func24, Tryd.ntmps24
      go_wp2_with fail
      (with_reducible refine (HC.out _).mono ?_)
      rintro e' w1 ⟨rfl, hb⟩
      have HB := Lib.hid hb
      have hbs := hb.size
      clear hb
      go_upto_region 3 with fail
      go_cut [4] from 10 to 19 (fun s4 wx => ∃ g, s4 = .pointer (some ⟨g, 0, none⟩) ∧ Hid (Nm3 wx g Y M D ∧ Below w.heap.size w wx))
      case first =>
        go_region_with (first | (go_at_call 42; (with_reducible refine (H1.out _).mono ?_); rintro e' w' ⟨rfl, rfl⟩) | (go_at_call 42; (with_reducible refine (H2.out _).mono ?_); rintro e' w' ⟨rfl, rfl⟩) | (go_at_call 42; (with_reducible refine (H3.out _).mono ?_); rintro e' w' ⟨rfl, rfl⟩))
        all_goals
          go_wp2_with fail
          go_meet
          refine ⟨_, rfl, Lib.hid ⟨?_, ?_⟩⟩
          · first | exact nmA w1 _ _ _ _ _ _ | exact nmB w1 _ _ _ _ _ _ | exact nmC w1 _ _ _ _ _ _ | exact nmD w1 _ _ _ _ _ _
          · refine below_drewN ?_ 1
            exact (((HB.out.alloc hbs _).alloc (by rw [World.size_alloc]; omega) _).alloc (by rw [World.size_alloc, World.size_alloc]; omega) _).alloc (by rw [World.size_alloc, World.size_alloc, World.size_alloc]; omega) _
      case rest =>
      obtain ⟨g, rfl, HN⟩ := hcut
      obtain ⟨nm, hbc⟩ := HN.out
      clear HN
      have HBc := Lib.hid hbc
      have hbs2 := hbc.size
      clear hbc
      have q0 := nm.c0; have q1 := nm.c1; have q2 := nm.c2
      go_wp2_with fail
      (with_reducible refine (HMN.out _ (ht.below HBc.out)).mono ?_)
      rintro e2 w2 ⟨rfl, hb2⟩
      have HB2 := Lib.hid (HBc.out.trans (hb2.mono HBc.out.size))
      clear hb2
      go_wp2
      go_ret2
      exact ⟨by rw [HP.out]; rfl, HB2.out⟩
    · have d4 := part_dig hf h16 11 2 (by omega) l48d
      have d5 := part_dig hf h16 14 2 (by omega) l48e
      have x4 : (s.extract 11 13).data.toList = (s.data.toList.drop 11).take 2 := by rw [Lib.extract_data]
      have x5 : (s.extract 14 16).data.toList = (s.data.toList.drop 14).take 2 := by rw [Lib.extract_data]
      obtain ⟨h, hh⟩ : ∃ h, dv ((s.data.toList.drop 11).take 2) = h := ⟨_, rfl⟩
      obtain ⟨m, hm⟩ : ∃ m, dv ((s.data.toList.drop 14).take 2) = m := ⟨_, rfl⟩
      have H4 := Lib.hid (fun w => decimal_at (s.extract 11 13) w (by simp; omega) (by rw [x4]; exact d4) h (by rw [x4]; exact hh))
      have H5 := Lib.hid (fun w => decimal_at (s.extract 14 16) w (by simp; omega) (by rw [x5]; exact d5) m (by rw [x5]; exact hm))
      have b4 := dv_small d4 (by rw [List.length_take]; omega)
      have b5 := dv_small d5 (by rw [List.length_take]; omega)
      rw [hh] at b4
      rw [hm] at b5
      have hp := parse_code hf (by show 0 ≤ dv _; rw [hh]; omega) (by show 0 ≤ dv _; rw [hm]; omega)
      rw [show Ca.hh s.data.toList = h from hh, show mm s.data.toList = m from hm, hY, hM, hD] at hp
      have HMN := Lib.hid (fun w ht => Minute_any Y M D (h * 60 + m) w ht)
      obtain ⟨h0, h1⟩ := b4
      obtain ⟨m0, m1⟩ := b5
      clear hf hl h16 d1 d2 d3 d4 d5 x1 x2 x3 x4 x5 hY hM hD hh hm
      have HP := Lib.hid hp
      clear hp
      go_enter Tryd.func24, Tryd.ntmps24
      go_wp2_with fail
      (with_reducible refine (HC.out _).mono ?_)
      rintro e' w1 ⟨rfl, hb⟩
      have HB := Lib.hid hb
      have hbs := hb.size
      clear hb
      go_upto_region 3 with fail
      go_cut [4] from 10 to 19 (fun s4 wx => ∃ g, s4 = .pointer (some ⟨g, 0, none⟩) ∧ Hid (Nm3 wx g Y M D ∧ Below w.heap.size w wx))
      case first =>
        go_region_with (first | (go_at_call 42; (with_reducible refine (H1.out _).mono ?_); rintro e' w' ⟨rfl, rfl⟩) | (go_at_call 42; (with_reducible refine (H2.out _).mono ?_); rintro e' w' ⟨rfl, rfl⟩) | (go_at_call 42; (with_reducible refine (H3.out _).mono ?_); rintro e' w' ⟨rfl, rfl⟩))
        all_goals
          go_wp2_with fail
          go_meet
          refine ⟨_, rfl, Lib.hid ⟨?_, ?_⟩⟩
          · first | exact nmA w1 _ _ _ _ _ _ | exact nmB w1 _ _ _ _ _ _ | exact nmC w1 _ _ _ _ _ _ | exact nmD w1 _ _ _ _ _ _
          · refine below_drewN ?_ 1
            exact (((HB.out.alloc hbs _).alloc (by rw [World.size_alloc]; omega) _).alloc (by rw [World.size_alloc, World.size_alloc]; omega) _).alloc (by rw [World.size_alloc, World.size_alloc, World.size_alloc]; omega) _
      case rest =>
      obtain ⟨g, rfl, HN⟩ := hcut
      obtain ⟨nm, hbc⟩ := HN.out
      clear HN
      have HBc := Lib.hid hbc
      have hbs2 := hbc.size
      clear hbc
      go_upto_region 6 with fail
      go_cut [5, 6] from 23 to 28 (fun s5 s6 wx => s5 = .int .i64 h ∧ s6 = .int .i64 m ∧ Hid (Nm3 wx g Y M D ∧ Below w.heap.size w wx))
      case first =>
        go_region_with (first | (go_at_call 42; (with_reducible refine (H4.out _).mono ?_); rintro e' w' ⟨rfl, rfl⟩) | (go_at_call 42; (with_reducible refine (H5.out _).mono ?_); rintro e' w' ⟨rfl, rfl⟩))
        all_goals
          go_wp2_with fail
          go_meet
          refine ⟨rfl, rfl, Lib.hid ⟨?_, ?_⟩⟩
          · exact ((nm.alloc _).alloc _).below (below_drewN (Below.refl _ _) 1)
          · refine below_drewN ?_ 1
            exact (HBc.out.alloc hbs2 _).alloc (by rw [World.size_alloc]; omega) _
      case rest =>
      obtain ⟨rfl, rfl, HN⟩ := hcut
      obtain ⟨nm2, hbc2⟩ := HN.out
      clear HN nm
      have HBc2 := Lib.hid hbc2
      clear hbc2
      have q0 := nm2.c0; have q1 := nm2.c1; have q2 := nm2.c2
      by_cases h60 : 60 ≤ m
      · rw [if_pos h60] at HP
        go_wp2
        go_ret2
        exact ⟨by rw [HP.out]; rfl, HBc2.out⟩
      · rw [if_neg h60] at HP
        go_wp2_with fail
        (with_reducible refine (HMN.out _ (ht.below HBc2.out)).mono ?_)
        rintro e2 w2 ⟨rfl, hb2⟩
        have HB2 := Lib.hid (HBc2.out.trans (hb2.mono HBc2.out.size))
        clear hb2
        go_wp2
        go_ret2
        exact ⟨by rw [HP.out]; rfl, HB2.out⟩
end Go.Proofs.YtlkbdnjpcagopaaDoor.Ca
