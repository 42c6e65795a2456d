/-
  The law ParameterPlaces, for every list of texts and every integer.
-/
import Derived.Test.YtaallpfkgcndmaaDoorPmPlP
import Derived.Test.YtaallpfkgcndmaaDoorPmLawLA
namespace Go.Proofs.YtaallpfkgcndmaaDoor.Pm
open Go.RowKit Go.Shelf
set_option linter.unusedVariables false
set_option linter.unusedSimpArgs false

set_option maxRecDepth 100000 in
set_option maxHeartbeats 8000000 in
theorem ParameterPlaces_any (v : Value) (l : List By) (n : Int) (w : World) (hr : RdS w w.heap.size v l) :
    Calls Tryd.prog 7 #[v, .int .i64 n] w fun e w' => e = .returned (.bool true) ∧ Below w.heap.size w w' := by
  obtain ⟨A1, c1, rfl, l1, m1, r1⟩ := hr.ex
  unfold maxLen at m1
  clear hr
  have R1 := Lib.hid r1; clear r1
  go_enter Tryd.func7, Tryd.ntmps7
  go_wp2
  go_loopw [5, 6] (fun vv i wr => ∃ (k : Nat), k ≤ l.length ∧ k ≤ 40 ∧ i = .int .i64 k ∧ Hid (Below w.heap.size w wr ∧ OwnV wr w.heap.size vv (pos (l.take k)) ∧ ∀ t ∈ l.take k, t.length ≤ 200)) (fun _ i _ => l.length - (intOf i).toNat)
  case atStart => exact ⟨0, Nat.zero_le _, by omega, rfl, Lib.hid ⟨Below.refl _ _, World.ownsRow_nil _ _ _ _, by simp⟩⟩
  case round =>
    obtain ⟨k, hk, hk40, rfl, hS⟩ := hrel
    by_cases hlt : k < l.length
    · have d0 : decide ((k : Int) < (l.length : Int)) = true := decide_eq_true (by omega)
      by_cases h40 : k < 40
      · have d1 : decide ((k : Int) < 40) = true := decide_eq_true (by omega)
        obtain ⟨g, o, rfl, hg, q⟩ := R1.out (by omega)
        have hki : (k : Int) < (l.length : Int) := by omega
        have x1 := q k l[k] (List.getElem?_eq_getElem hlt) 0 _ rfl
        have HT : Hid (l.take (k + 1) = l.take k ++ [l[k]]) := Lib.hid (List.take_succ_eq_append_getElem hlt)
        generalize l[k] = t at x1 HT
        simp only [Nat.add_zero, Nat.mul_one] at x1
        have hc : wr.cell? ⟨g, o + k, none⟩ = w.cell? ⟨g, o + k, none⟩ := hS.out.1.cell (p := ⟨g, o + k, none⟩) hg
        rw [← hc] at x1
        have z1 : (bsl t).size = t.length := bsl_size _
        clear hc q
        by_cases h200 : 200 < t.length
        · have d2 : decide ((200 : Int) < ((bsl t).size : Int)) = true := decide_eq_true (by omega)
          have B0 := Lib.hid hS.out.1
          clear hS HT
          go_wp2_with fail
          with_reducible refine (known_any wr).mono ?_
          rintro e w2 ⟨rfl, b2⟩
          have B2 := Lib.hid (B0.out.trans (b2.mono B0.out.size))
          clear b2
          go_wp2
          go_ret
          exact ⟨rfl, B2.out⟩
        · have d2 : decide ((200 : Int) < ((bsl t).size : Int)) = false := decide_eq_false (by omega)
          have hs1 : w.heap.size ≤ wr.heap.size := hS.out.1.size
          have b1 : Below wr.heap.size wr (wr.alloc (.cells #[.bool false, .string ⟨#[120]⟩, .string (bsl t)] 40)) := (Below.refl _ _).alloc (Nat.le_refl _) _
          obtain ⟨v4, w4, r4, o4, b4⟩ := run_pushV (wr.alloc (.cells #[.bool false, .string ⟨#[120]⟩, .string (bsl t)] 40)) 22 _ _ (false, [120], t) w.heap.size wr.heap.size (row_below hS.out.2.1 b1 (Nat.le_refl _)) (heap_alloc_new wr _) (by rw [pos_len, List.length_take]; omega) (Nat.le_trans hs1 b1.size)
          have R4 := Lib.hid r4
          have H4 : Hid (Below w.heap.size w w4 ∧ OwnV w4 w.heap.size v4 (pos (l.take (k + 1))) ∧ ∀ t ∈ l.take (k + 1), t.length ≤ 200) := Lib.hid ⟨hS.out.1.trans ((b1.mono hs1).trans b4), by rw [HT.out, pos_snoc]; exact o4, fun x hx => by
            rw [HT.out] at hx
            rcases List.mem_append.1 hx with h | h
            · exact hS.out.2.2 x h
            · rw [List.mem_singleton] at h; subst h; omega⟩
          clear r4 o4 b4 b1 hS
          go_wp2_with (at_builtin; refine wpList_app rfl (.tmp 29) (.tmp 35) _ rfl rfl rfl R4.out ?_; clear R4)
          go_roundw
          case rel => exact ⟨k + 1, by omega, by omega, by go_num, H4⟩
          case measure => simp [intOf]; omega
      · have d1 : decide ((k : Int) < 40) = false := decide_eq_false (by omega)
        have hT2 : Hid ((pos (l.take k)).length = k) := Lib.hid (by rw [pos_len, List.length_take]; omega)
        have hsm : Sm (pos (l.take k)) := pos_sm (by rw [List.length_take]; omega) (fun t ht => Nat.le_trans (hS.out.2.2 t ht) (by omega))
        obtain ⟨bl1, bl2⟩ := bind_pos (l.take k) (by rw [List.length_take]; omega)
        have htk : (l.take k).length = k := by rw [List.length_take]; omega
        rw [htk] at bl1
        obtain ⟨Lb, hLb⟩ : ∃ Lb, bind (puts dec tr 0 (pos (l.take k))) = Lb := ⟨_, rfl⟩
        rw [hLb] at bl1 bl2
        have GA := Lib.hid (show (if 40 < (pos (l.take k)).length then (8 : Int) else 0) = 0 ∧ (if 40 < (pos (l.take k)).length then ([] : List Bd) else bind (puts dec tr 0 (pos (l.take k)))) = Lb from ⟨if_neg (by rw [hT2.out]; omega), by rw [if_neg (by rw [hT2.out]; omega)]; exact hLb⟩)
        have HF := Lib.hid bl2
        have hrd := OwnV.rd hS.out.2.1
        have HB := Lib.hid (Bind_any _ _ wr hrd hsm)
        obtain ⟨A5, c5, hv5, _, m5, _⟩ := hrd.ex
        rw [hT2.out] at hv5
        subst hv5
        unfold maxLen at m5
        have B1 := Lib.hid hS.out.1
        clear bl2 hsm hLb hrd hS htk
        go_wp2_with fail
        with_reducible refine HB.out.mono ?_
        rintro e w2 ⟨v2, rfl, o2, b2⟩
        rw [GA.out.1]
        rw [GA.out.2] at o2
        obtain ⟨A2, c2, hv2, _, m2, _⟩ := o2.rd.ex
        rw [bl1] at hv2
        have O2 := Lib.hid o2.rd
        have B2 := Lib.hid (B1.out.trans (b2.mono B1.out.size))
        clear o2 b2 HB B1
        subst hv2
        by_cases hk0 : k = 0
        · have z0 : ((k : Int) == 0) = true := by rw [beq_iff_eq]; omega
          clear hk0
          go_wp2_with fail
          with_reducible refine (known_any w2).mono ?_
          rintro e w3 ⟨rfl, b3⟩
          have B3 := Lib.hid (B2.out.trans (b3.mono B2.out.size))
          clear b3
          go_wp2
          go_ret
          exact ⟨rfl, B3.out⟩
        · have z0 : ((k : Int) == 0) = false := by rw [beq_eq_false_iff_ne]; omega
          obtain ⟨a0, a1⟩ := and_ffff n
          obtain ⟨b, hb⟩ : ∃ b, bits BinOp.and IntKind.i64 n 65535 = b := ⟨_, rfl⟩
          rw [hb] at a0 a1
          obtain ⟨j, hj, hjk⟩ : ∃ j : Nat, b.tmod (k : Int) = (j : Int) ∧ j < k := ⟨(b.tmod (k : Int)).toNat, by
            have := Int.tmod_nonneg (a := b) (k : Int) a0
            omega, by
            have h1 := Int.tmod_nonneg (a := b) (k : Int) a0
            have h2 := Int.tmod_lt_of_pos b (b := (k : Int)) (by omega)
            omega⟩
          have hkn : ¬ (k : Int) = 0 := by omega
          have hj1 : IntKind.i64.wrap ((j : Int) + 1) = (j : Int) + 1 := IntWalk.i64_in _ (by omega)
          have HD : Hid (∀ W, Calls Tryd.prog 19 #[.int .i64 ((j : Int) + 1)] W fun e w' => e = .returned (.string (bsl (dec (j + 1)))) ∧ Below W.heap.size W w') := Lib.hid (fun W => by
            have := Dec_any (j + 1) W (by omega)
            rwa [show ((j + 1 : Nat) : Int) = (j : Int) + 1 by omega] at this)
          have hz : (bsl (dec (j + 1))).size ≤ 2 := by rw [bsl_size]; exact dec_len2 (by omega)
          have HA := Lib.hid (asked (j + 1) (by omega))
          have HFj := Lib.hid (HF.out j (by rw [List.length_take]; omega))
          obtain ⟨g, o, rfl, hg, q⟩ := R1.out (by omega)
          have hjl : j < l.length := by omega
          have x1 := q j l[j] (List.getElem?_eq_getElem hjl) 0 _ rfl
          have hgt : (l.take k)[j]'(by rw [List.length_take]; omega) = l[j] := List.getElem_take ..
          rw [hgt] at HFj
          generalize l[j] = t at x1 HFj
          simp only [Nat.add_zero, Nat.mul_one] at x1
          have hcmp := str_beq t t
          rw [decide_eq_true rfl] at hcmp
          have hjki : (j : Int) < (l.length : Int) := by omega
          generalize hds : bsl (dec (j + 1)) = ds at HD hz HA
          have HO := Lib.hid (outG_some (show find (dec (j + 1)) Lb = some t from HFj.out))
          clear q hk0 hds hgt HFj HF
          go_wp2_with fail
          with_reducible refine (HD.out w2).mono ?_
          rintro e w3 ⟨rfl, b3⟩
          have hzz : ((⟨#[32]⟩ : ByteArray) ++ ds ++ ⟨#[10]⟩).size ≤ 4294967281 := by
            rw [ByteArray.size_append, ByteArray.size_append]
            have e1 : (⟨#[32]⟩ : ByteArray).size = 1 := rfl
            have e2 : (⟨#[10]⟩ : ByteArray).size = 1 := rfl
            omega
          have HG := Lib.hid (Get_any _ Lb _ w3 (O2.out.up b3) hzz)
          have B3 := Lib.hid (B2.out.trans (b3.mono B2.out.size))
          clear b3 B2 O2 HD hzz
          rw [HA.out, HO.out] at HG
          go_wp2_with fail
          with_reducible refine HG.out.mono ?_
          rintro e w4 ⟨rfl, b4⟩
          have B4 := Lib.hid (B3.out.trans (b4.mono B3.out.size))
          clear b4 B3 HG
          have x2 : w4.cell? ⟨g, o + j, none⟩ = some (.string (bsl t)) := (B4.out.cell (p := ⟨g, o + j, none⟩) hg).trans x1
          clear x1
          go_wp2_with fail
          with_reducible refine (known_any w4).mono ?_
          rintro e w5 ⟨rfl, b5⟩
          have B5 := Lib.hid (B4.out.trans (b5.mono B4.out.size))
          clear b5
          go_wp2
          go_ret
          exact ⟨rfl, B5.out⟩

    · have d0 : decide ((k : Int) < (l.length : Int)) = false := decide_eq_false (by omega)
      have hT2 : Hid ((pos (l.take k)).length = k) := Lib.hid (by rw [pos_len, List.length_take]; omega)
      have hsm : Sm (pos (l.take k)) := pos_sm (by rw [List.length_take]; omega) (fun t ht => Nat.le_trans (hS.out.2.2 t ht) (by omega))
      obtain ⟨bl1, bl2⟩ := bind_pos (l.take k) (by rw [List.length_take]; omega)
      have htk : (l.take k).length = k := by rw [List.length_take]; omega
      rw [htk] at bl1
      obtain ⟨Lb, hLb⟩ : ∃ Lb, bind (puts dec tr 0 (pos (l.take k))) = Lb := ⟨_, rfl⟩
      rw [hLb] at bl1 bl2
      have GA := Lib.hid (show (if 40 < (pos (l.take k)).length then (8 : Int) else 0) = 0 ∧ (if 40 < (pos (l.take k)).length then ([] : List Bd) else bind (puts dec tr 0 (pos (l.take k)))) = Lb from ⟨if_neg (by rw [hT2.out]; omega), by rw [if_neg (by rw [hT2.out]; omega)]; exact hLb⟩)
      have HF := Lib.hid bl2
      have hrd := OwnV.rd hS.out.2.1
      have HB := Lib.hid (Bind_any _ _ wr hrd hsm)
      obtain ⟨A5, c5, hv5, _, m5, _⟩ := hrd.ex
      rw [hT2.out] at hv5
      subst hv5
      unfold maxLen at m5
      have B1 := Lib.hid hS.out.1
      clear bl2 hsm hLb hrd hS htk
      go_wp2_with fail
      with_reducible refine HB.out.mono ?_
      rintro e w2 ⟨v2, rfl, o2, b2⟩
      rw [GA.out.1]
      rw [GA.out.2] at o2
      obtain ⟨A2, c2, hv2, _, m2, _⟩ := o2.rd.ex
      rw [bl1] at hv2
      have O2 := Lib.hid o2.rd
      have B2 := Lib.hid (B1.out.trans (b2.mono B1.out.size))
      clear o2 b2 HB B1
      subst hv2
      by_cases hk0 : k = 0
      · have z0 : ((k : Int) == 0) = true := by rw [beq_iff_eq]; omega
        clear hk0
        go_wp2_with fail
        with_reducible refine (known_any w2).mono ?_
        rintro e w3 ⟨rfl, b3⟩
        have B3 := Lib.hid (B2.out.trans (b3.mono B2.out.size))
        clear b3
        go_wp2
        go_ret
        exact ⟨rfl, B3.out⟩
      · have z0 : ((k : Int) == 0) = false := by rw [beq_eq_false_iff_ne]; omega
        obtain ⟨a0, a1⟩ := and_ffff n
        obtain ⟨b, hb⟩ : ∃ b, bits BinOp.and IntKind.i64 n 65535 = b := ⟨_, rfl⟩
        rw [hb] at a0 a1
        obtain ⟨j, hj, hjk⟩ : ∃ j : Nat, b.tmod (k : Int) = (j : Int) ∧ j < k := ⟨(b.tmod (k : Int)).toNat, by
          have := Int.tmod_nonneg (a := b) (k : Int) a0
          omega, by
          have h1 := Int.tmod_nonneg (a := b) (k : Int) a0
          have h2 := Int.tmod_lt_of_pos b (b := (k : Int)) (by omega)
          omega⟩
        have hkn : ¬ (k : Int) = 0 := by omega
        have hj1 : IntKind.i64.wrap ((j : Int) + 1) = (j : Int) + 1 := IntWalk.i64_in _ (by omega)
        have HD : Hid (∀ W, Calls Tryd.prog 19 #[.int .i64 ((j : Int) + 1)] W fun e w' => e = .returned (.string (bsl (dec (j + 1)))) ∧ Below W.heap.size W w') := Lib.hid (fun W => by
          have := Dec_any (j + 1) W (by omega)
          rwa [show ((j + 1 : Nat) : Int) = (j : Int) + 1 by omega] at this)
        have hz : (bsl (dec (j + 1))).size ≤ 2 := by rw [bsl_size]; exact dec_len2 (by omega)
        have HA := Lib.hid (asked (j + 1) (by omega))
        have HFj := Lib.hid (HF.out j (by rw [List.length_take]; omega))
        obtain ⟨g, o, rfl, hg, q⟩ := R1.out (by omega)
        have hjl : j < l.length := by omega
        have x1 := q j l[j] (List.getElem?_eq_getElem hjl) 0 _ rfl
        have hgt : (l.take k)[j]'(by rw [List.length_take]; omega) = l[j] := List.getElem_take ..
        rw [hgt] at HFj
        generalize l[j] = t at x1 HFj
        simp only [Nat.add_zero, Nat.mul_one] at x1
        have hcmp := str_beq t t
        rw [decide_eq_true rfl] at hcmp
        have hjki : (j : Int) < (l.length : Int) := by omega
        generalize hds : bsl (dec (j + 1)) = ds at HD hz HA
        have HO := Lib.hid (outG_some (show find (dec (j + 1)) Lb = some t from HFj.out))
        clear q hk0 hds hgt HFj HF
        go_wp2_with fail
        with_reducible refine (HD.out w2).mono ?_
        rintro e w3 ⟨rfl, b3⟩
        have hzz : ((⟨#[32]⟩ : ByteArray) ++ ds ++ ⟨#[10]⟩).size ≤ 4294967281 := by
          rw [ByteArray.size_append, ByteArray.size_append]
          have e1 : (⟨#[32]⟩ : ByteArray).size = 1 := rfl
          have e2 : (⟨#[10]⟩ : ByteArray).size = 1 := rfl
          omega
        have HG := Lib.hid (Get_any _ Lb _ w3 (O2.out.up b3) hzz)
        have B3 := Lib.hid (B2.out.trans (b3.mono B2.out.size))
        clear b3 B2 O2 HD hzz
        rw [HA.out, HO.out] at HG
        go_wp2_with fail
        with_reducible refine HG.out.mono ?_
        rintro e w4 ⟨rfl, b4⟩
        have B4 := Lib.hid (B3.out.trans (b4.mono B3.out.size))
        clear b4 B3 HG
        have x2 : w4.cell? ⟨g, o + j, none⟩ = some (.string (bsl t)) := (B4.out.cell (p := ⟨g, o + j, none⟩) hg).trans x1
        clear x1
        go_wp2_with fail
        with_reducible refine (known_any w4).mono ?_
        rintro e w5 ⟨rfl, b5⟩
        have B5 := Lib.hid (B4.out.trans (b5.mono B4.out.size))
        clear b5
        go_wp2
        go_ret
        exact ⟨rfl, B5.out⟩

end Go.Proofs.YtaallpfkgcndmaaDoor.Pm
