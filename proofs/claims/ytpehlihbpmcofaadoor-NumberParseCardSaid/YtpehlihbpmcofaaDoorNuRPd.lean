/-
  The contract of the reference's Parse.
-/
import Derived.Test.YtpehlihbpmcofaaDoorNuRPtn
import Derived.Test.YtpehlihbpmcofaaDoorNuRPtp
import Derived.Test.YtpehlihbpmcofaaDoorNuRPtm
import Derived.Test.YtpehlihbpmcofaaDoorNuRPb
namespace Go.Proofs.YtpehlihbpmcofaaDoor.Nu
open Go.RowKit
set_option linter.unusedVariables false
set_option linter.unusedSimpArgs false

theorem run1_le (l : List UInt8) {i : Nat} (h : i ≤ l.length) : run1 l i ≤ l.length := by
  unfold run1; have := tw_le (l.drop i); rw [List.length_drop] at this; omega
theorem tw_stop : ∀ (l : List UInt8) {c : UInt8} {r : List UInt8}, l.drop (l.takeWhile isD).length = c :: r → isD c = false
  | [], c, r, h => by simp at h
  | b :: l, c, r, h => by
    by_cases hb : isD b = true
    · rw [List.takeWhile_cons_of_pos hb, List.length_cons, List.drop_succ_cons] at h
      exact tw_stop l h
    · rw [List.takeWhile_cons_of_neg hb] at h
      simp at h
      rw [← h.1]; simpa using hb
theorem take_tw (l : List UInt8) : l.take (l.takeWhile isD).length = l.takeWhile isD := (List.prefix_iff_eq_take.1 (List.takeWhile_prefix isD)).symm
theorem val_9 {l : List UInt8} (h : l.all isD = true) (hl : l.length ≤ 9) : val l < 1000000000 := by
  have h1 := val_lt h
  have h3 : 10 ^ l.length ≤ 10 ^ 9 := Nat.pow_le_pow_right (by decide) hl
  have h4 : (10 : Nat) ^ 9 = 1000000000 := by decide
  omega
theorem get_lst (s : ByteArray) (k : Nat) (h : k < s.size) : s.data.toList.drop k = s[k] :: s.data.toList.drop (k + 1) := by
  rw [List.drop_eq_getElem_cons (by simpa using h)]
  simp [ByteArray.getElem_eq_getElem_data]
theorem u8_of {b : UInt8} {n : Nat} (h : b.toNat = n) (hn : n < 256) : b = UInt8.ofNat n := by
  apply UInt8.toNat_inj.1; rw [h]; simp; omega
theorem RPs_n (s : ByteArray) (w : World) (hs : s.size ≤ 100) (x : UInt8) (h0 : 0 < s.size) (hx : s[0]'h0 = x) (hx1 : x.toNat ≠ 43) (hx2 : x.toNat ≠ 45) :
    Calls Tryd.prog 36 #[.string s] w fun e w' => e = .returned (.tuple #[.agg #[.int .i64 (pbody false s.data.toList).n, .int .i64 (pbody false s.data.toList).d], .int .i64 (pbody false s.data.toList).e]) ∧ Below w.heap.size w w' := by
  have hl : s.data.toList.length = s.size := by simp
  have hI0 := run1_le s.data.toList (i := 0) (Nat.zero_le _)
  by_cases hall : run1 s.data.toList 0 = s.data.toList.length
  · by_cases h9 : 9 < s.size
    · exact RP_long_n s w hs x h0 hx hx1 hx2 hall h9
    · exact RP_all_n s w hs x h0 hx hx1 hx2 hall (by omega) (by omega)
  · obtain ⟨I, hI⟩ : ∃ I, run1 s.data.toList 0 = I := ⟨_, rfl⟩
    rw [hI] at hall hI0
    have h1 : I < s.size := by omega
    have hI2 : (s.data.toList.takeWhile isD).length = I := by rw [← hI, run1_zero]
    have hdr := get_lst s I h1
    have hstop : isD s[I] = false := tw_stop s.data.toList (by rw [hI2]; exact hdr)
    by_cases hy : s[I].toNat = 46
    · have hy46 : s[I] = 46 := u8_of hy (by decide)
      have hpt := pb_point false (l := s.data.toList) (r := s.data.toList.drop (I + 1)) (by rw [hI, hdr, hy46])
      rw [hI] at hpt
      have hrl : (s.data.toList.drop (I + 1)).length = s.size - (I + 1) := by rw [List.length_drop, hl]
      have hr1 : run1 s.data.toList (I + 1) = I + 1 + ((s.data.toList.drop (I + 1)).takeWhile isD).length := rfl
      have htl := tw_le (s.data.toList.drop (I + 1))
      obtain ⟨K, hK⟩ : ∃ K, run1 s.data.toList (I + 1) = K := ⟨_, rfl⟩
      by_cases hKs : K = s.size
      · rw [hKs] at hK
        have htw : ((s.data.toList.drop (I + 1)).takeWhile isD).length = (s.data.toList.drop (I + 1)).length := by omega
        by_cases hb : 9 < I
        · exact RP_pi_n s w hs x h0 hx hx1 hx2 I 0 hI s[I] h1 rfl hy hK hb (Lib.hid (by rw [hpt, if_neg (by omega)]))
        · by_cases hm : s.size = I + 1
          · exact RP_p0_n s w hs x h0 hx hx1 hx2 I 0 hI s[I] h1 rfl hy hK (by omega) hm (Lib.hid (by rw [hpt, if_neg (by omega)]))
          · obtain ⟨k, hk⟩ : ∃ k, s.size = I + 1 + k := ⟨s.size - (I + 1), by omega⟩
            by_cases hk9 : 9 < k
            · exact RP_p9_n s w hs x h0 hx hx1 hx2 I k hI s[I] h1 rfl hy hK (by omega) hk hk9 (Lib.hid (by rw [hpt, if_neg (by omega)]))
            · have hrk : (s.data.toList.drop (I + 1)).length = k := by omega
              rw [if_pos ⟨by omega, htw, by omega, by omega⟩, hrk] at hpt
              have a1 := tw_digits s.data.toList
              have a2 := tw_all htw
              have x1 : (s.extract 0 I).data.toList = s.data.toList.takeWhile isD := by rw [Lib.extract_data, List.drop_zero, Nat.sub_zero, ← hI2, take_tw]
              have x2 : (s.extract (I + 1) s.size).data.toList = s.data.toList.drop (I + 1) := Lib.extract_to_end s (I + 1)
              have CA := Lib.hid (fun w => value_any (s.extract 0 I) w (by simp; omega) (by rw [x1]; exact a1))
              have CB := Lib.hid (fun w => value_any (s.extract (I + 1) s.size) w (by simp; omega) (by rw [x2]; exact a2))
              rw [x1] at CA
              rw [x2] at CB
              exact RP_pt_n s w hs x h0 hx hx1 hx2 I k _ _ hI s[I] h1 rfl hy hK (by omega) hk (by omega) (by omega) (val_9 a1 (by omega)) (val_9 a2 (by omega)) CA CB (Lib.hid (by rw [hpt]; rfl))
      · have hne : ¬ ((s.data.toList.drop (I + 1)).takeWhile isD).length = (s.data.toList.drop (I + 1)).length := by omega
        exact RP_pk_n s w hs x h0 hx hx1 hx2 I K hI s[I] h1 rfl hy hK hKs (Lib.hid (by rw [hpt, if_neg (fun h => hne h.2.1)]))
    · have hc : s[I] ≠ 46 := fun e => hy (by rw [e]; rfl)
      exact RP_else_n s w hs x h0 hx hx1 hx2 I hI s[I] h1 rfl hy (Lib.hid (pb_else false (l := s.data.toList) (r := s.data.toList.drop (I + 1)) (c := s[I]) (by rw [hI]; exact hdr) hc hstop))
theorem RPs_p (s : ByteArray) (w : World) (hs : s.size ≤ 100) (x : UInt8) (h0 : 0 < s.size) (hx : s[0]'h0 = x) (hx1 : x.toNat = 43) (r : ByteArray) (hr : s.extract 1 s.size = r) (hrs : r.size + 1 = s.size) :
    Calls Tryd.prog 36 #[.string s] w fun e w' => e = .returned (.tuple #[.agg #[.int .i64 (pbody false r.data.toList).n, .int .i64 (pbody false r.data.toList).d], .int .i64 (pbody false r.data.toList).e]) ∧ Below w.heap.size w w' := by
  have hl : r.data.toList.length = r.size := by simp
  have hI0 := run1_le r.data.toList (i := 0) (Nat.zero_le _)
  by_cases hall : run1 r.data.toList 0 = r.data.toList.length
  · by_cases h9 : 9 < r.size
    · exact RP_long_p s w hs x h0 hx hx1 r hr hrs hall h9
    · by_cases hz : r.size = 0
      · exact RP_none_p s w hs x h0 hx hx1 r hr hrs hall hz
      · exact RP_all_p s w hs x h0 hx hx1 r hr hrs hall (by omega) (by omega)
  · obtain ⟨I, hI⟩ : ∃ I, run1 r.data.toList 0 = I := ⟨_, rfl⟩
    rw [hI] at hall hI0
    have h1 : I < r.size := by omega
    have hI2 : (r.data.toList.takeWhile isD).length = I := by rw [← hI, run1_zero]
    have hdr := get_lst r I h1
    have hstop : isD r[I] = false := tw_stop r.data.toList (by rw [hI2]; exact hdr)
    by_cases hy : r[I].toNat = 46
    · have hy46 : r[I] = 46 := u8_of hy (by decide)
      have hpt := pb_point false (l := r.data.toList) (r := r.data.toList.drop (I + 1)) (by rw [hI, hdr, hy46])
      rw [hI] at hpt
      have hrl : (r.data.toList.drop (I + 1)).length = r.size - (I + 1) := by rw [List.length_drop, hl]
      have hr1 : run1 r.data.toList (I + 1) = I + 1 + ((r.data.toList.drop (I + 1)).takeWhile isD).length := rfl
      have htl := tw_le (r.data.toList.drop (I + 1))
      obtain ⟨K, hK⟩ : ∃ K, run1 r.data.toList (I + 1) = K := ⟨_, rfl⟩
      by_cases hKs : K = r.size
      · rw [hKs] at hK
        have htw : ((r.data.toList.drop (I + 1)).takeWhile isD).length = (r.data.toList.drop (I + 1)).length := by omega
        by_cases hb : 9 < I
        · exact RP_pi_p s w hs x h0 hx hx1 r hr hrs I 0 hI r[I] h1 rfl hy hK hb (Lib.hid (by rw [hpt, if_neg (by omega)]))
        · by_cases hm : r.size = I + 1
          · exact RP_p0_p s w hs x h0 hx hx1 r hr hrs I 0 hI r[I] h1 rfl hy hK (by omega) hm (Lib.hid (by rw [hpt, if_neg (by omega)]))
          · obtain ⟨k, hk⟩ : ∃ k, r.size = I + 1 + k := ⟨r.size - (I + 1), by omega⟩
            by_cases hk9 : 9 < k
            · exact RP_p9_p s w hs x h0 hx hx1 r hr hrs I k hI r[I] h1 rfl hy hK (by omega) hk hk9 (Lib.hid (by rw [hpt, if_neg (by omega)]))
            · have hrk : (r.data.toList.drop (I + 1)).length = k := by omega
              rw [if_pos ⟨by omega, htw, by omega, by omega⟩, hrk] at hpt
              have a1 := tw_digits r.data.toList
              have a2 := tw_all htw
              have x1 : (r.extract 0 I).data.toList = r.data.toList.takeWhile isD := by rw [Lib.extract_data, List.drop_zero, Nat.sub_zero, ← hI2, take_tw]
              have x2 : (r.extract (I + 1) r.size).data.toList = r.data.toList.drop (I + 1) := Lib.extract_to_end r (I + 1)
              have CA := Lib.hid (fun w => value_any (r.extract 0 I) w (by simp; omega) (by rw [x1]; exact a1))
              have CB := Lib.hid (fun w => value_any (r.extract (I + 1) r.size) w (by simp; omega) (by rw [x2]; exact a2))
              rw [x1] at CA
              rw [x2] at CB
              exact RP_pt_p s w hs x h0 hx hx1 r hr hrs I k _ _ hI r[I] h1 rfl hy hK (by omega) hk (by omega) (by omega) (val_9 a1 (by omega)) (val_9 a2 (by omega)) CA CB (Lib.hid (by rw [hpt]; rfl))
      · have hne : ¬ ((r.data.toList.drop (I + 1)).takeWhile isD).length = (r.data.toList.drop (I + 1)).length := by omega
        exact RP_pk_p s w hs x h0 hx hx1 r hr hrs I K hI r[I] h1 rfl hy hK hKs (Lib.hid (by rw [hpt, if_neg (fun h => hne h.2.1)]))
    · have hc : r[I] ≠ 46 := fun e => hy (by rw [e]; rfl)
      exact RP_else_p s w hs x h0 hx hx1 r hr hrs I hI r[I] h1 rfl hy (Lib.hid (pb_else false (l := r.data.toList) (r := r.data.toList.drop (I + 1)) (c := r[I]) (by rw [hI]; exact hdr) hc hstop))
theorem RPs_m (s : ByteArray) (w : World) (hs : s.size ≤ 100) (x : UInt8) (h0 : 0 < s.size) (hx : s[0]'h0 = x) (hx1 : x.toNat = 45) (r : ByteArray) (hr : s.extract 1 s.size = r) (hrs : r.size + 1 = s.size) :
    Calls Tryd.prog 36 #[.string s] w fun e w' => e = .returned (.tuple #[.agg #[.int .i64 (pbody true r.data.toList).n, .int .i64 (pbody true r.data.toList).d], .int .i64 (pbody true r.data.toList).e]) ∧ Below w.heap.size w w' := by
  have hl : r.data.toList.length = r.size := by simp
  have hI0 := run1_le r.data.toList (i := 0) (Nat.zero_le _)
  by_cases hall : run1 r.data.toList 0 = r.data.toList.length
  · by_cases h9 : 9 < r.size
    · exact RP_long_m s w hs x h0 hx hx1 r hr hrs hall h9
    · by_cases hz : r.size = 0
      · exact RP_none_m s w hs x h0 hx hx1 r hr hrs hall hz
      · exact RP_all_m s w hs x h0 hx hx1 r hr hrs hall (by omega) (by omega)
  · obtain ⟨I, hI⟩ : ∃ I, run1 r.data.toList 0 = I := ⟨_, rfl⟩
    rw [hI] at hall hI0
    have h1 : I < r.size := by omega
    have hI2 : (r.data.toList.takeWhile isD).length = I := by rw [← hI, run1_zero]
    have hdr := get_lst r I h1
    have hstop : isD r[I] = false := tw_stop r.data.toList (by rw [hI2]; exact hdr)
    by_cases hy : r[I].toNat = 46
    · have hy46 : r[I] = 46 := u8_of hy (by decide)
      have hpt := pb_point true (l := r.data.toList) (r := r.data.toList.drop (I + 1)) (by rw [hI, hdr, hy46])
      rw [hI] at hpt
      have hrl : (r.data.toList.drop (I + 1)).length = r.size - (I + 1) := by rw [List.length_drop, hl]
      have hr1 : run1 r.data.toList (I + 1) = I + 1 + ((r.data.toList.drop (I + 1)).takeWhile isD).length := rfl
      have htl := tw_le (r.data.toList.drop (I + 1))
      obtain ⟨K, hK⟩ : ∃ K, run1 r.data.toList (I + 1) = K := ⟨_, rfl⟩
      by_cases hKs : K = r.size
      · rw [hKs] at hK
        have htw : ((r.data.toList.drop (I + 1)).takeWhile isD).length = (r.data.toList.drop (I + 1)).length := by omega
        by_cases hb : 9 < I
        · exact RP_pi_m s w hs x h0 hx hx1 r hr hrs I 0 hI r[I] h1 rfl hy hK hb (Lib.hid (by rw [hpt, if_neg (by omega)]))
        · by_cases hm : r.size = I + 1
          · exact RP_p0_m s w hs x h0 hx hx1 r hr hrs I 0 hI r[I] h1 rfl hy hK (by omega) hm (Lib.hid (by rw [hpt, if_neg (by omega)]))
          · obtain ⟨k, hk⟩ : ∃ k, r.size = I + 1 + k := ⟨r.size - (I + 1), by omega⟩
            by_cases hk9 : 9 < k
            · exact RP_p9_m s w hs x h0 hx hx1 r hr hrs I k hI r[I] h1 rfl hy hK (by omega) hk hk9 (Lib.hid (by rw [hpt, if_neg (by omega)]))
            · have hrk : (r.data.toList.drop (I + 1)).length = k := by omega
              rw [if_pos ⟨by omega, htw, by omega, by omega⟩, hrk] at hpt
              have a1 := tw_digits r.data.toList
              have a2 := tw_all htw
              have x1 : (r.extract 0 I).data.toList = r.data.toList.takeWhile isD := by rw [Lib.extract_data, List.drop_zero, Nat.sub_zero, ← hI2, take_tw]
              have x2 : (r.extract (I + 1) r.size).data.toList = r.data.toList.drop (I + 1) := Lib.extract_to_end r (I + 1)
              have CA := Lib.hid (fun w => value_any (r.extract 0 I) w (by simp; omega) (by rw [x1]; exact a1))
              have CB := Lib.hid (fun w => value_any (r.extract (I + 1) r.size) w (by simp; omega) (by rw [x2]; exact a2))
              rw [x1] at CA
              rw [x2] at CB
              exact RP_pt_m s w hs x h0 hx hx1 r hr hrs I k _ _ hI r[I] h1 rfl hy hK (by omega) hk (by omega) (by omega) (val_9 a1 (by omega)) (val_9 a2 (by omega)) CA CB (Lib.hid (by rw [hpt]; rfl))
      · have hne : ¬ ((r.data.toList.drop (I + 1)).takeWhile isD).length = (r.data.toList.drop (I + 1)).length := by omega
        exact RP_pk_m s w hs x h0 hx hx1 r hr hrs I K hI r[I] h1 rfl hy hK hKs (Lib.hid (by rw [hpt, if_neg (fun h => hne h.2.1)]))
    · have hc : r[I] ≠ 46 := fun e => hy (by rw [e]; rfl)
      exact RP_else_m s w hs x h0 hx hx1 r hr hrs I hI r[I] h1 rfl hy (Lib.hid (pb_else true (l := r.data.toList) (r := r.data.toList.drop (I + 1)) (c := r[I]) (by rw [hI]; exact hdr) hc hstop))
set_option maxRecDepth 100000 in
theorem RP_empty (s : ByteArray) (w : World) (h : s.size = 0) :
    Calls Tryd.prog 36 #[.string s] w fun e w' => e = .returned (.tuple #[.agg #[.int .i64 0, .int .i64 0], .int .i64 1]) ∧ Below w.heap.size w w' := by
  have hl : s.data.toList.length = 0 := by simpa using h
  have hr : run1 s.data.toList 0 = 0 := by have := run1_le s.data.toList (i := 0) (Nat.zero_le _); omega
  have CD := Lib.hid (fun w => digits_any s 0 w (by omega) (Nat.zero_le _))
  rw [hr] at CD
  have q0 : (s.size : Int) = 0 := by omega
  clear hl hr
  go_enter Tryd.func36, Tryd.ntmps36
  go_wp2_with fail
  refine (CD.out _).mono ?_
  rintro e w' ⟨rfl, rfl⟩
  go_wp2
  exact bodyPost_ret (v := .tuple #[.agg #[.int .i64 0, .int .i64 0], .int .i64 1]) (by simp [results, Tryd.results36, go_sem]) rfl ⟨rfl, (Below.refl _ _).alloc (Nat.le_refl _) _⟩
theorem RParse_any (s : ByteArray) (w : World) (hs : s.size ≤ 100) :
    Calls Tryd.prog 36 #[.string s] w fun e w' => e = .returned (.tuple #[.agg #[.int .i64 (parse s.data.toList).n, .int .i64 (parse s.data.toList).d], .int .i64 (parse s.data.toList).e]) ∧ Below w.heap.size w w' := by
  by_cases h0 : 0 < s.size
  · have hh : s.data.toList = s[0] :: s.data.toList.drop 1 := by have := get_lst s 0 h0; rwa [List.drop_zero] at this
    have hhd : s.data.toList.head? = some s[0] := by rw [hh]; rfl
    have hx : (s.extract 1 s.size).data.toList = s.data.toList.drop 1 := Lib.extract_to_end s 1
    have hrs : (s.extract 1 s.size).size + 1 = s.size := by simp; omega
    by_cases hm : s[0].toNat = 45
    · have e : parse s.data.toList = pbody true (s.extract 1 s.size).data.toList := by unfold parse; rw [if_pos (by rw [hhd, u8_of hm (by decide)]; rfl), hx]
      rw [e]; exact RPs_m s w hs s[0] h0 rfl hm _ rfl hrs
    · have n1 : ¬ s.data.toList.head? = some 45 := by rw [hhd]; intro h; exact hm (by rw [Option.some.inj h]; rfl)
      by_cases hp : s[0].toNat = 43
      · have e : parse s.data.toList = pbody false (s.extract 1 s.size).data.toList := by unfold parse; rw [if_neg n1, if_pos (by rw [hhd, u8_of hp (by decide)]; rfl), hx]
        rw [e]; exact RPs_p s w hs s[0] h0 rfl hp _ rfl hrs
      · have n2 : ¬ s.data.toList.head? = some 43 := by rw [hhd]; intro h; exact hp (by rw [Option.some.inj h]; rfl)
        have e : parse s.data.toList = pbody false s.data.toList := by unfold parse; rw [if_neg n1, if_neg n2]
        rw [e]; exact RPs_n s w hs s[0] h0 rfl hp hm
  · have hz : s.size = 0 := by omega
    have hn : s.data.toList = [] := by rw [← List.length_eq_zero_iff]; simpa using hz
    have e : parse s.data.toList = ⟨0, 0, 1⟩ := by
      rw [hn]
      show pbody false [] = _
      rw [pb_all false rfl, if_neg (by simp)]
    rw [e]; exact RP_empty s w hz
end Go.Proofs.YtpehlihbpmcofaaDoor.Nu
