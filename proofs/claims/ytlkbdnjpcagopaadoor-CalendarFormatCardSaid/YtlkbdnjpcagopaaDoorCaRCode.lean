/-
  The contracts of Decimal, two and Code of the calendar's reference.
-/
import Derived.Test.YtlkbdnjpcagopaaDoorCaVal
import Derived.Test.YtlkbdnjpcagopaaDoorCaLawDA
import Derived.Laws.BytesString
namespace Go.Proofs.YtlkbdnjpcagopaaDoor.Ca
open Go.RowKit
set_option linter.unusedVariables false
set_option linter.unusedSimpArgs false

theorem conv_one (W : World) (b : Nat) (n : Int) (h : W.cell? ⟨b, 0, none⟩ = some (.int .u8 n)) : (convert 53 9 (.slice (some ⟨b, 0, none⟩) 1 1)).run Tryd.prog W = .ok (.string ⟨#[UInt8.ofNat n.toNat]⟩) W := by
  have hl : (loadCells ⟨b, 0, none⟩ 1).run Tryd.prog W = .ok ([n].map (Value.int .u8)).toArray W := by
    simp [loadCells, go_sem, h]
  rw [run_convert_bytes_string W 53 9 5 _ 1 1 Tryd.underlying53 Tryd.underlying5 Tryd.underlying9, run_bytesToString W ⟨b, 0, none⟩ 1 1 [n] hl]
  rfl
theorem conv_dig (w : World) (u : Nat) : (convert 53 9 (.slice (some ⟨w.heap.size, 0, none⟩) 1 1)).run Tryd.prog (w.alloc (.cells #[.int .u8 (48 + (u : Int) % 10)] 5)) = .ok (.string ⟨#[UInt8.ofNat (48 + u % 10)]⟩) (w.alloc (.cells #[.int .u8 (48 + (u : Int) % 10)] 5)) := by
  rw [conv_one _ _ (48 + (u : Int) % 10) (by simp), show (48 + (u : Int) % 10).toNat = 48 + u % 10 by omega]
theorem cat_dig (l : List UInt8) (c : UInt8) : (⟨l.toArray⟩ : ByteArray) ++ ⟨#[c]⟩ = ⟨(l ++ [c]).toArray⟩ := by
  apply ByteArray.ext; apply Array.ext'; simp
theorem dec_len4 {u : Nat} (h : u < 10000) : (Lib.decDigits u).length ≤ 4 := by
  have := (itoa_len (n := (u : Int)) (by omega) (by omega)).2
  rwa [itoa_nat (by omega), Int.toNat_natCast] at this
set_option maxHeartbeats 1000000 in
theorem Dec_any : ∀ (u : Nat) (w : World), u < 10000 → Calls Tryd.prog 56 #[.int .i64 (u : Int)] w fun e w' => e = .returned (.string ⟨(Lib.decDigits u).toArray⟩) ∧ Below w.heap.size w w' := by
  intro u
  induction u using Nat.strongRecOn with
  | _ u ih =>
    intro w hu
    have hm : 0 ≤ (u : Int) % 10 ∧ (u : Int) % 10 ≤ 9 := by omega
    obtain ⟨m0, m1⟩ := hm
    by_cases h : u < 10
    · have hd : decide ((u : Int) < 10) = true := by rw [decide_eq_true_iff]; omega
      have HD := Lib.hid (dec_small h)
      have hcv := conv_dig w u
      have HM := Lib.hid (Nat.mod_eq_of_lt h)
      clear h ih
      go_enter Tryd.func56, Tryd.ntmps56
      go_wp2
      go_ret
      exact ⟨ret_str (by rw [HD.out]; simp [HM.out]), (Below.refl _ _).alloc (Nat.le_refl _) _⟩
    · have hd : decide ((u : Int) < 10) = false := by rw [decide_eq_false_iff_not]; omega
      have HD := Lib.hid (dec_big (x := u) (by omega))
      have hcv := conv_dig w u
      have IH := ih (u / 10) (by omega) (w.alloc (.cells #[.int .u8 (48 + (u : Int) % 10)] 5)) (by omega)
      rw [show ((u / 10 : Nat) : Int) = (u : Int) / 10 by omega] at IH
      have HI := Lib.hid IH
      have hl := dec_len4 (u := u / 10) (by omega)
      clear h ih IH
      go_enter Tryd.func56, Tryd.ntmps56
      go_wp2_with fail
      refine HI.out.mono ?_
      rintro e w1 ⟨rfl, hb⟩
      go_wp2
      go_ret
      exact ⟨ret_str (by rw [HD.out, ← cat_dig]; simp), below1 hb⟩
theorem RItoa_any (n : Int) (w : World) (h0 : 0 ≤ n) (h : n < 10000) : Calls Tryd.prog 56 #[.int .i64 n] w fun e w' => e = .returned (.string ⟨(Lib.itoa n).toArray⟩) ∧ Below w.heap.size w w' := by
  have HD := Dec_any n.toNat w (by omega)
  rw [show ((n.toNat : Nat) : Int) = n by omega, ← itoa_nat h0] at HD
  exact HD
theorem cat_zero (l : List UInt8) : (⟨#[48]⟩ : ByteArray) ++ ⟨l.toArray⟩ = ⟨(48 :: l).toArray⟩ := by
  apply ByteArray.ext; apply Array.ext'; simp
theorem Rtwo_any (n : Int) (w : World) (h0 : 0 ≤ n) (h : n < 100) : Calls Tryd.prog 57 #[.int .i64 n] w fun e w' => e = .returned (.string ⟨(two n).toArray⟩) ∧ Below w.heap.size w w' := by
  have HC := Lib.hid (fun w => RItoa_any n w h0 (by omega))
  have hl := (itoa_len (n := n) h0 (by omega)).2
  by_cases h10 : n < 10
  · have HT : Hid (two n = 48 :: Lib.itoa n) := Lib.hid (by unfold two; rw [if_pos h10])
    go_enter Tryd.func57, Tryd.ntmps57
    go_wp2_with fail
    (with_reducible refine (HC.out _).mono ?_)
    rintro e w1 ⟨rfl, hb⟩
    go_wp2
    go_ret
    exact ⟨ret_str (by rw [HT.out]; apply ByteArray.ext; apply Array.ext'; simp), hb⟩
  · have HT : Hid (two n = Lib.itoa n) := Lib.hid (by unfold two; rw [if_neg h10])
    go_enter Tryd.func57, Tryd.ntmps57
    go_wp2_with fail
    (with_reducible refine (HC.out _).mono ?_)
    rintro e w1 ⟨rfl, hb⟩
    go_wp2
    go_ret
    exact ⟨ret_str (by rw [HT.out]), hb⟩
/-- The slices that Code makes. -/
def mnV : List Value := [mname 1, mname 2, mname 3, mname 4, mname 5, mname 6, mname 7, mname 8, mname 9, mname 10, mname 11, mname 12].map fun l => .string ⟨l.toArray⟩
def wnV : List Value := [wname 1, wname 2, wname 3, wname 4, wname 5, wname 6, wname 7].map fun l => .string ⟨l.toArray⟩
theorem cell_heap' {w : World} {g : Nat} {cs : Array Value} {t : TypeId} {i : Nat} {v : Value} (h : w.heap[g]? = some (.cells cs t)) (hv : cs[i]? = some v) : w.cell? ⟨g, i, none⟩ = some v := by
  simp [World.cell?, h, hv]
/-- The world behind the two slices. -/
def W2 (w : World) : World := (w.alloc (.cells #[.string ⟨#[74, 97, 110, 117, 97, 114, 121]⟩, .string ⟨#[70, 101, 98, 114, 117, 97, 114, 121]⟩, .string ⟨#[77, 97, 114, 99, 104]⟩, .string ⟨#[65, 112, 114, 105, 108]⟩, .string ⟨#[77, 97, 121]⟩, .string ⟨#[74, 117, 110, 101]⟩, .string ⟨#[74, 117, 108, 121]⟩, .string ⟨#[65, 117, 103, 117, 115, 116]⟩, .string ⟨#[83, 101, 112, 116, 101, 109, 98, 101, 114]⟩, .string ⟨#[79, 99, 116, 111, 98, 101, 114]⟩, .string ⟨#[78, 111, 118, 101, 109, 98, 101, 114]⟩, .string ⟨#[68, 101, 99, 101, 109, 98, 101, 114]⟩] 9)).alloc (.cells #[.string ⟨#[77, 111, 110, 100, 97, 121]⟩, .string ⟨#[84, 117, 101, 115, 100, 97, 121]⟩, .string ⟨#[87, 101, 100, 110, 101, 115, 100, 97, 121]⟩, .string ⟨#[84, 104, 117, 114, 115, 100, 97, 121]⟩, .string ⟨#[70, 114, 105, 100, 97, 121]⟩, .string ⟨#[83, 97, 116, 117, 114, 100, 97, 121]⟩, .string ⟨#[83, 117, 110, 100, 97, 121]⟩] 9)
theorem W2.below (w : World) : Below w.heap.size w (W2 w) := ((Below.refl _ w).alloc (Nat.le_refl _) _).alloc (by rw [World.size_alloc]; omega) _
theorem W2.size (w : World) : (W2 w).heap.size = w.heap.size + 1 + 1 := by unfold W2; rw [World.size_alloc, World.size_alloc]
theorem W2.m (w : World) (i : Nat) (h : i < 12) : (W2 w).cell? ⟨w.heap.size, i, none⟩ = some (.string ⟨(mname (i + 1)).toArray⟩) := by
  have hh : (W2 w).heap[w.heap.size]? = some (.cells #[.string ⟨#[74, 97, 110, 117, 97, 114, 121]⟩, .string ⟨#[70, 101, 98, 114, 117, 97, 114, 121]⟩, .string ⟨#[77, 97, 114, 99, 104]⟩, .string ⟨#[65, 112, 114, 105, 108]⟩, .string ⟨#[77, 97, 121]⟩, .string ⟨#[74, 117, 110, 101]⟩, .string ⟨#[74, 117, 108, 121]⟩, .string ⟨#[65, 117, 103, 117, 115, 116]⟩, .string ⟨#[83, 101, 112, 116, 101, 109, 98, 101, 114]⟩, .string ⟨#[79, 99, 116, 111, 98, 101, 114]⟩, .string ⟨#[78, 111, 118, 101, 109, 98, 101, 114]⟩, .string ⟨#[68, 101, 99, 101, 109, 98, 101, 114]⟩] 9) := (Below.heap_alloc _ _ _ (by rw [World.size_alloc]; omega)).trans (World.alloc_heap_new _ _)
  refine cell_heap' hh ?_
  match i, h with
  | 0, _ | 1, _ | 2, _ | 3, _ | 4, _ | 5, _ | 6, _ | 7, _ | 8, _ | 9, _ | 10, _ | 11, _ => rfl
  | n + 12, h => omega
theorem W2.d (w : World) (i : Nat) (h : i < 7) : (W2 w).cell? ⟨w.heap.size + 1, i, none⟩ = some (.string ⟨(wname (i + 1)).toArray⟩) := by
  have hh : (W2 w).heap[w.heap.size + 1]? = some (.cells #[.string ⟨#[77, 111, 110, 100, 97, 121]⟩, .string ⟨#[84, 117, 101, 115, 100, 97, 121]⟩, .string ⟨#[87, 101, 100, 110, 101, 115, 100, 97, 121]⟩, .string ⟨#[84, 104, 117, 114, 115, 100, 97, 121]⟩, .string ⟨#[70, 114, 105, 100, 97, 121]⟩, .string ⟨#[83, 97, 116, 117, 114, 100, 97, 121]⟩, .string ⟨#[83, 117, 110, 100, 97, 121]⟩] 9) := by
    have := World.alloc_heap_new (w.alloc (.cells #[.string ⟨#[74, 97, 110, 117, 97, 114, 121]⟩, .string ⟨#[70, 101, 98, 114, 117, 97, 114, 121]⟩, .string ⟨#[77, 97, 114, 99, 104]⟩, .string ⟨#[65, 112, 114, 105, 108]⟩, .string ⟨#[77, 97, 121]⟩, .string ⟨#[74, 117, 110, 101]⟩, .string ⟨#[74, 117, 108, 121]⟩, .string ⟨#[65, 117, 103, 117, 115, 116]⟩, .string ⟨#[83, 101, 112, 116, 101, 109, 98, 101, 114]⟩, .string ⟨#[79, 99, 116, 111, 98, 101, 114]⟩, .string ⟨#[78, 111, 118, 101, 109, 98, 101, 114]⟩, .string ⟨#[68, 101, 99, 101, 109, 98, 101, 114]⟩] 9)) (.cells #[.string ⟨#[77, 111, 110, 100, 97, 121]⟩, .string ⟨#[84, 117, 101, 115, 100, 97, 121]⟩, .string ⟨#[87, 101, 100, 110, 101, 115, 100, 97, 121]⟩, .string ⟨#[84, 104, 117, 114, 115, 100, 97, 121]⟩, .string ⟨#[70, 114, 105, 100, 97, 121]⟩, .string ⟨#[83, 97, 116, 117, 114, 100, 97, 121]⟩, .string ⟨#[83, 117, 110, 100, 97, 121]⟩] 9)
    rwa [World.size_alloc] at this
  refine cell_heap' hh ?_
  match i, h with
  | 0, _ | 1, _ | 2, _ | 3, _ | 4, _ | 5, _ | 6, _ => rfl
  | n + 7, h => omega
/-- What the functions at the head of Code leave: the date in its block, the slices in theirs. -/
structure Hd (w w2 : World) (y m d : Int) : Prop where
  x : Nm3 w2 (w2.heap.size - 1) y m d
  b : Below w.heap.size w w2
set_option maxRecDepth 100000 in
set_option maxHeartbeats 2000000 in
theorem rval_89 {y m d c : Int} (hk : Ok y m d) (c1 : 0 ≤ c) (c2 : c < 1440) (w : World) :
    Calls Tryd.prog 49 #[.int .u8 89, .int .i64 (inst y m d c)] w fun e w' => e = .returned (.tuple #[.string ⟨(tx y m d c 89).toArray⟩, .bool true]) ∧ Below w.heap.size w w' := by
  have hy := hk.in_year
  have hl := yl_ge y
  have hm := ml_ge y m
  have HC := Lib.hid (fun w => RDateOf_yes hk c1 c2 w)
  have hr := inst_range hk c1 c2
  have HW := Lib.hid (fun w => RWeekday_yes ⟨hr.1, hr.2.1⟩ w)
  rw [hr.2.2.1] at HW
  have HK := Lib.hid hk
  obtain ⟨a1, a2, a3, a4, a5, a6⟩ := hk
  obtain ⟨n, hn⟩ : ∃ n, inst y m d c = n := ⟨_, rfl⟩
  rw [hn] at HC HW
  rw [hn]
  clear hn hr
  have hw : 1 ≤ wd (dn y m d) ∧ wd (dn y m d) ≤ 7 := by unfold wd; omega
  have HX : Hid (tx y m d c 89 = Lib.itoa (y)) := Lib.hid (by simp [tx])
  have HQ := Lib.hid (fun w => RItoa_any (y) w (by omega) (by omega))
  go_enter Tryd.func49, Tryd.ntmps49
  go_wp2_with fail
  (with_reducible refine (HC.out _).mono ?_)
  rintro e w1 ⟨rfl, hb⟩
  have hb' : Below (W2 w).heap.size (W2 w) w1 := hb
  have HB := Lib.hid ((W2.below w).trans (hb'.mono (W2.below w).size))
  have X := Nm3.new w1 y m d
  have HX1 := Lib.hid (HB.out.alloc HB.out.size (.cells #[.int .i64 y, .int .i64 m, .int .i64 d] 23))
  clear hb hb'
  go_wp2_with fail
  (with_reducible refine (HW.out _).mono ?_)
  rintro e w2 ⟨rfl, hb2⟩
  have HB2 := Lib.hid (HX1.out.trans (hb2.mono HX1.out.size))
  have X := X.below hb2
  have q0 := X.c0
  have q1 := X.c1
  have q2 := X.c2
  clear hb2
  go_wp2_with fail
  (with_reducible refine (HQ.out _).mono ?_)
  rintro e w3 ⟨rfl, hb3⟩
  have HB3 := Lib.hid (HB2.out.trans (hb3.mono HB2.out.size))
  clear hb3
  go_wp2
  go_ret2
  exact ⟨by rw [HX.out]; rfl, HB3.out⟩
set_option maxRecDepth 100000 in
set_option maxHeartbeats 2000000 in
theorem rval_110 {y m d c : Int} (hk : Ok y m d) (c1 : 0 ≤ c) (c2 : c < 1440) (w : World) :
    Calls Tryd.prog 49 #[.int .u8 110, .int .i64 (inst y m d c)] w fun e w' => e = .returned (.tuple #[.string ⟨(tx y m d c 110).toArray⟩, .bool true]) ∧ Below w.heap.size w w' := by
  have hy := hk.in_year
  have hl := yl_ge y
  have hm := ml_ge y m
  have HC := Lib.hid (fun w => RDateOf_yes hk c1 c2 w)
  have hr := inst_range hk c1 c2
  have HW := Lib.hid (fun w => RWeekday_yes ⟨hr.1, hr.2.1⟩ w)
  rw [hr.2.2.1] at HW
  have HK := Lib.hid hk
  obtain ⟨a1, a2, a3, a4, a5, a6⟩ := hk
  obtain ⟨n, hn⟩ : ∃ n, inst y m d c = n := ⟨_, rfl⟩
  rw [hn] at HC HW
  rw [hn]
  clear hn hr
  have hw : 1 ≤ wd (dn y m d) ∧ wd (dn y m d) ≤ 7 := by unfold wd; omega
  have HX : Hid (tx y m d c 110 = Lib.itoa (m)) := Lib.hid (by simp [tx])
  have HQ := Lib.hid (fun w => RItoa_any (m) w (by omega) (by omega))
  go_enter Tryd.func49, Tryd.ntmps49
  go_wp2_with fail
  (with_reducible refine (HC.out _).mono ?_)
  rintro e w1 ⟨rfl, hb⟩
  have hb' : Below (W2 w).heap.size (W2 w) w1 := hb
  have HB := Lib.hid ((W2.below w).trans (hb'.mono (W2.below w).size))
  have X := Nm3.new w1 y m d
  have HX1 := Lib.hid (HB.out.alloc HB.out.size (.cells #[.int .i64 y, .int .i64 m, .int .i64 d] 23))
  clear hb hb'
  go_wp2_with fail
  (with_reducible refine (HW.out _).mono ?_)
  rintro e w2 ⟨rfl, hb2⟩
  have HB2 := Lib.hid (HX1.out.trans (hb2.mono HX1.out.size))
  have X := X.below hb2
  have q0 := X.c0
  have q1 := X.c1
  have q2 := X.c2
  clear hb2
  go_wp2_with fail
  (with_reducible refine (HQ.out _).mono ?_)
  rintro e w3 ⟨rfl, hb3⟩
  have HB3 := Lib.hid (HB2.out.trans (hb3.mono HB2.out.size))
  clear hb3
  go_wp2
  go_ret2
  exact ⟨by rw [HX.out]; rfl, HB3.out⟩
set_option maxRecDepth 100000 in
set_option maxHeartbeats 2000000 in
theorem rval_106 {y m d c : Int} (hk : Ok y m d) (c1 : 0 ≤ c) (c2 : c < 1440) (w : World) :
    Calls Tryd.prog 49 #[.int .u8 106, .int .i64 (inst y m d c)] w fun e w' => e = .returned (.tuple #[.string ⟨(tx y m d c 106).toArray⟩, .bool true]) ∧ Below w.heap.size w w' := by
  have hy := hk.in_year
  have hl := yl_ge y
  have hm := ml_ge y m
  have HC := Lib.hid (fun w => RDateOf_yes hk c1 c2 w)
  have hr := inst_range hk c1 c2
  have HW := Lib.hid (fun w => RWeekday_yes ⟨hr.1, hr.2.1⟩ w)
  rw [hr.2.2.1] at HW
  have HK := Lib.hid hk
  obtain ⟨a1, a2, a3, a4, a5, a6⟩ := hk
  obtain ⟨n, hn⟩ : ∃ n, inst y m d c = n := ⟨_, rfl⟩
  rw [hn] at HC HW
  rw [hn]
  clear hn hr
  have hw : 1 ≤ wd (dn y m d) ∧ wd (dn y m d) ≤ 7 := by unfold wd; omega
  have HX : Hid (tx y m d c 106 = Lib.itoa (d)) := Lib.hid (by simp [tx])
  have HQ := Lib.hid (fun w => RItoa_any (d) w (by omega) (by omega))
  go_enter Tryd.func49, Tryd.ntmps49
  go_wp2_with fail
  (with_reducible refine (HC.out _).mono ?_)
  rintro e w1 ⟨rfl, hb⟩
  have hb' : Below (W2 w).heap.size (W2 w) w1 := hb
  have HB := Lib.hid ((W2.below w).trans (hb'.mono (W2.below w).size))
  have X := Nm3.new w1 y m d
  have HX1 := Lib.hid (HB.out.alloc HB.out.size (.cells #[.int .i64 y, .int .i64 m, .int .i64 d] 23))
  clear hb hb'
  go_wp2_with fail
  (with_reducible refine (HW.out _).mono ?_)
  rintro e w2 ⟨rfl, hb2⟩
  have HB2 := Lib.hid (HX1.out.trans (hb2.mono HX1.out.size))
  have X := X.below hb2
  have q0 := X.c0
  have q1 := X.c1
  have q2 := X.c2
  clear hb2
  go_wp2_with fail
  (with_reducible refine (HQ.out _).mono ?_)
  rintro e w3 ⟨rfl, hb3⟩
  have HB3 := Lib.hid (HB2.out.trans (hb3.mono HB2.out.size))
  clear hb3
  go_wp2
  go_ret2
  exact ⟨by rw [HX.out]; rfl, HB3.out⟩
set_option maxRecDepth 100000 in
set_option maxHeartbeats 2000000 in
theorem rval_78 {y m d c : Int} (hk : Ok y m d) (c1 : 0 ≤ c) (c2 : c < 1440) (w : World) :
    Calls Tryd.prog 49 #[.int .u8 78, .int .i64 (inst y m d c)] w fun e w' => e = .returned (.tuple #[.string ⟨(tx y m d c 78).toArray⟩, .bool true]) ∧ Below w.heap.size w w' := by
  have hy := hk.in_year
  have hl := yl_ge y
  have hm := ml_ge y m
  have HC := Lib.hid (fun w => RDateOf_yes hk c1 c2 w)
  have hr := inst_range hk c1 c2
  have HW := Lib.hid (fun w => RWeekday_yes ⟨hr.1, hr.2.1⟩ w)
  rw [hr.2.2.1] at HW
  have HK := Lib.hid hk
  obtain ⟨a1, a2, a3, a4, a5, a6⟩ := hk
  obtain ⟨n, hn⟩ : ∃ n, inst y m d c = n := ⟨_, rfl⟩
  rw [hn] at HC HW
  rw [hn]
  clear hn hr
  have hw : 1 ≤ wd (dn y m d) ∧ wd (dn y m d) ≤ 7 := by unfold wd; omega
  have HX : Hid (tx y m d c 78 = Lib.itoa (wd (dn y m d))) := Lib.hid (by simp [tx])
  have HQ := Lib.hid (fun w => RItoa_any (wd (dn y m d)) w (by omega) (by omega))
  go_enter Tryd.func49, Tryd.ntmps49
  go_wp2_with fail
  (with_reducible refine (HC.out _).mono ?_)
  rintro e w1 ⟨rfl, hb⟩
  have hb' : Below (W2 w).heap.size (W2 w) w1 := hb
  have HB := Lib.hid ((W2.below w).trans (hb'.mono (W2.below w).size))
  have X := Nm3.new w1 y m d
  have HX1 := Lib.hid (HB.out.alloc HB.out.size (.cells #[.int .i64 y, .int .i64 m, .int .i64 d] 23))
  clear hb hb'
  go_wp2_with fail
  (with_reducible refine (HW.out _).mono ?_)
  rintro e w2 ⟨rfl, hb2⟩
  have HB2 := Lib.hid (HX1.out.trans (hb2.mono HX1.out.size))
  have X := X.below hb2
  have q0 := X.c0
  have q1 := X.c1
  have q2 := X.c2
  clear hb2
  go_wp2_with fail
  (with_reducible refine (HQ.out _).mono ?_)
  rintro e w3 ⟨rfl, hb3⟩
  have HB3 := Lib.hid (HB2.out.trans (hb3.mono HB2.out.size))
  clear hb3
  go_wp2
  go_ret2
  exact ⟨by rw [HX.out]; rfl, HB3.out⟩
set_option maxRecDepth 100000 in
set_option maxHeartbeats 2000000 in
theorem rval_71 {y m d c : Int} (hk : Ok y m d) (c1 : 0 ≤ c) (c2 : c < 1440) (w : World) :
    Calls Tryd.prog 49 #[.int .u8 71, .int .i64 (inst y m d c)] w fun e w' => e = .returned (.tuple #[.string ⟨(tx y m d c 71).toArray⟩, .bool true]) ∧ Below w.heap.size w w' := by
  have hy := hk.in_year
  have hl := yl_ge y
  have hm := ml_ge y m
  have HC := Lib.hid (fun w => RDateOf_yes hk c1 c2 w)
  have hr := inst_range hk c1 c2
  have HW := Lib.hid (fun w => RWeekday_yes ⟨hr.1, hr.2.1⟩ w)
  rw [hr.2.2.1] at HW
  have HK := Lib.hid hk
  obtain ⟨a1, a2, a3, a4, a5, a6⟩ := hk
  obtain ⟨n, hn⟩ : ∃ n, inst y m d c = n := ⟨_, rfl⟩
  rw [hn] at HC HW
  rw [hn]
  clear hn hr
  have hw : 1 ≤ wd (dn y m d) ∧ wd (dn y m d) ≤ 7 := by unfold wd; omega
  have HX : Hid (tx y m d c 71 = Lib.itoa (c / 60)) := Lib.hid (by simp [tx])
  have HQ := Lib.hid (fun w => RItoa_any (c / 60) w (by omega) (by omega))
  go_enter Tryd.func49, Tryd.ntmps49
  go_wp2_with fail
  (with_reducible refine (HC.out _).mono ?_)
  rintro e w1 ⟨rfl, hb⟩
  have hb' : Below (W2 w).heap.size (W2 w) w1 := hb
  have HB := Lib.hid ((W2.below w).trans (hb'.mono (W2.below w).size))
  have X := Nm3.new w1 y m d
  have HX1 := Lib.hid (HB.out.alloc HB.out.size (.cells #[.int .i64 y, .int .i64 m, .int .i64 d] 23))
  clear hb hb'
  go_wp2_with fail
  (with_reducible refine (HW.out _).mono ?_)
  rintro e w2 ⟨rfl, hb2⟩
  have HB2 := Lib.hid (HX1.out.trans (hb2.mono HX1.out.size))
  have X := X.below hb2
  have q0 := X.c0
  have q1 := X.c1
  have q2 := X.c2
  clear hb2
  go_wp2_with fail
  (with_reducible refine (HQ.out _).mono ?_)
  rintro e w3 ⟨rfl, hb3⟩
  have HB3 := Lib.hid (HB2.out.trans (hb3.mono HB2.out.size))
  clear hb3
  go_wp2
  go_ret2
  exact ⟨by rw [HX.out]; rfl, HB3.out⟩
set_option maxRecDepth 100000 in
set_option maxHeartbeats 2000000 in
theorem rval_109 {y m d c : Int} (hk : Ok y m d) (c1 : 0 ≤ c) (c2 : c < 1440) (w : World) :
    Calls Tryd.prog 49 #[.int .u8 109, .int .i64 (inst y m d c)] w fun e w' => e = .returned (.tuple #[.string ⟨(tx y m d c 109).toArray⟩, .bool true]) ∧ Below w.heap.size w w' := by
  have hy := hk.in_year
  have hl := yl_ge y
  have hm := ml_ge y m
  have HC := Lib.hid (fun w => RDateOf_yes hk c1 c2 w)
  have hr := inst_range hk c1 c2
  have HW := Lib.hid (fun w => RWeekday_yes ⟨hr.1, hr.2.1⟩ w)
  rw [hr.2.2.1] at HW
  have HK := Lib.hid hk
  obtain ⟨a1, a2, a3, a4, a5, a6⟩ := hk
  obtain ⟨n, hn⟩ : ∃ n, inst y m d c = n := ⟨_, rfl⟩
  rw [hn] at HC HW
  rw [hn]
  clear hn hr
  have hw : 1 ≤ wd (dn y m d) ∧ wd (dn y m d) ≤ 7 := by unfold wd; omega
  have HX : Hid (tx y m d c 109 = two (m)) := Lib.hid (by simp [tx])
  have HQ := Lib.hid (fun w => Rtwo_any (m) w (by omega) (by omega))
  go_enter Tryd.func49, Tryd.ntmps49
  go_wp2_with fail
  (with_reducible refine (HC.out _).mono ?_)
  rintro e w1 ⟨rfl, hb⟩
  have hb' : Below (W2 w).heap.size (W2 w) w1 := hb
  have HB := Lib.hid ((W2.below w).trans (hb'.mono (W2.below w).size))
  have X := Nm3.new w1 y m d
  have HX1 := Lib.hid (HB.out.alloc HB.out.size (.cells #[.int .i64 y, .int .i64 m, .int .i64 d] 23))
  clear hb hb'
  go_wp2_with fail
  (with_reducible refine (HW.out _).mono ?_)
  rintro e w2 ⟨rfl, hb2⟩
  have HB2 := Lib.hid (HX1.out.trans (hb2.mono HX1.out.size))
  have X := X.below hb2
  have q0 := X.c0
  have q1 := X.c1
  have q2 := X.c2
  clear hb2
  go_wp2_with fail
  (with_reducible refine (HQ.out _).mono ?_)
  rintro e w3 ⟨rfl, hb3⟩
  have HB3 := Lib.hid (HB2.out.trans (hb3.mono HB2.out.size))
  clear hb3
  go_wp2
  go_ret2
  exact ⟨by rw [HX.out]; rfl, HB3.out⟩
set_option maxRecDepth 100000 in
set_option maxHeartbeats 2000000 in
theorem rval_100 {y m d c : Int} (hk : Ok y m d) (c1 : 0 ≤ c) (c2 : c < 1440) (w : World) :
    Calls Tryd.prog 49 #[.int .u8 100, .int .i64 (inst y m d c)] w fun e w' => e = .returned (.tuple #[.string ⟨(tx y m d c 100).toArray⟩, .bool true]) ∧ Below w.heap.size w w' := by
  have hy := hk.in_year
  have hl := yl_ge y
  have hm := ml_ge y m
  have HC := Lib.hid (fun w => RDateOf_yes hk c1 c2 w)
  have hr := inst_range hk c1 c2
  have HW := Lib.hid (fun w => RWeekday_yes ⟨hr.1, hr.2.1⟩ w)
  rw [hr.2.2.1] at HW
  have HK := Lib.hid hk
  obtain ⟨a1, a2, a3, a4, a5, a6⟩ := hk
  obtain ⟨n, hn⟩ : ∃ n, inst y m d c = n := ⟨_, rfl⟩
  rw [hn] at HC HW
  rw [hn]
  clear hn hr
  have hw : 1 ≤ wd (dn y m d) ∧ wd (dn y m d) ≤ 7 := by unfold wd; omega
  have HX : Hid (tx y m d c 100 = two (d)) := Lib.hid (by simp [tx])
  have HQ := Lib.hid (fun w => Rtwo_any (d) w (by omega) (by omega))
  go_enter Tryd.func49, Tryd.ntmps49
  go_wp2_with fail
  (with_reducible refine (HC.out _).mono ?_)
  rintro e w1 ⟨rfl, hb⟩
  have hb' : Below (W2 w).heap.size (W2 w) w1 := hb
  have HB := Lib.hid ((W2.below w).trans (hb'.mono (W2.below w).size))
  have X := Nm3.new w1 y m d
  have HX1 := Lib.hid (HB.out.alloc HB.out.size (.cells #[.int .i64 y, .int .i64 m, .int .i64 d] 23))
  clear hb hb'
  go_wp2_with fail
  (with_reducible refine (HW.out _).mono ?_)
  rintro e w2 ⟨rfl, hb2⟩
  have HB2 := Lib.hid (HX1.out.trans (hb2.mono HX1.out.size))
  have X := X.below hb2
  have q0 := X.c0
  have q1 := X.c1
  have q2 := X.c2
  clear hb2
  go_wp2_with fail
  (with_reducible refine (HQ.out _).mono ?_)
  rintro e w3 ⟨rfl, hb3⟩
  have HB3 := Lib.hid (HB2.out.trans (hb3.mono HB2.out.size))
  clear hb3
  go_wp2
  go_ret2
  exact ⟨by rw [HX.out]; rfl, HB3.out⟩
set_option maxRecDepth 100000 in
set_option maxHeartbeats 2000000 in
theorem rval_72 {y m d c : Int} (hk : Ok y m d) (c1 : 0 ≤ c) (c2 : c < 1440) (w : World) :
    Calls Tryd.prog 49 #[.int .u8 72, .int .i64 (inst y m d c)] w fun e w' => e = .returned (.tuple #[.string ⟨(tx y m d c 72).toArray⟩, .bool true]) ∧ Below w.heap.size w w' := by
  have hy := hk.in_year
  have hl := yl_ge y
  have hm := ml_ge y m
  have HC := Lib.hid (fun w => RDateOf_yes hk c1 c2 w)
  have hr := inst_range hk c1 c2
  have HW := Lib.hid (fun w => RWeekday_yes ⟨hr.1, hr.2.1⟩ w)
  rw [hr.2.2.1] at HW
  have HK := Lib.hid hk
  obtain ⟨a1, a2, a3, a4, a5, a6⟩ := hk
  obtain ⟨n, hn⟩ : ∃ n, inst y m d c = n := ⟨_, rfl⟩
  rw [hn] at HC HW
  rw [hn]
  clear hn hr
  have hw : 1 ≤ wd (dn y m d) ∧ wd (dn y m d) ≤ 7 := by unfold wd; omega
  have HX : Hid (tx y m d c 72 = two (c / 60)) := Lib.hid (by simp [tx])
  have HQ := Lib.hid (fun w => Rtwo_any (c / 60) w (by omega) (by omega))
  go_enter Tryd.func49, Tryd.ntmps49
  go_wp2_with fail
  (with_reducible refine (HC.out _).mono ?_)
  rintro e w1 ⟨rfl, hb⟩
  have hb' : Below (W2 w).heap.size (W2 w) w1 := hb
  have HB := Lib.hid ((W2.below w).trans (hb'.mono (W2.below w).size))
  have X := Nm3.new w1 y m d
  have HX1 := Lib.hid (HB.out.alloc HB.out.size (.cells #[.int .i64 y, .int .i64 m, .int .i64 d] 23))
  clear hb hb'
  go_wp2_with fail
  (with_reducible refine (HW.out _).mono ?_)
  rintro e w2 ⟨rfl, hb2⟩
  have HB2 := Lib.hid (HX1.out.trans (hb2.mono HX1.out.size))
  have X := X.below hb2
  have q0 := X.c0
  have q1 := X.c1
  have q2 := X.c2
  clear hb2
  go_wp2_with fail
  (with_reducible refine (HQ.out _).mono ?_)
  rintro e w3 ⟨rfl, hb3⟩
  have HB3 := Lib.hid (HB2.out.trans (hb3.mono HB2.out.size))
  clear hb3
  go_wp2
  go_ret2
  exact ⟨by rw [HX.out]; rfl, HB3.out⟩
set_option maxRecDepth 100000 in
set_option maxHeartbeats 2000000 in
theorem rval_105 {y m d c : Int} (hk : Ok y m d) (c1 : 0 ≤ c) (c2 : c < 1440) (w : World) :
    Calls Tryd.prog 49 #[.int .u8 105, .int .i64 (inst y m d c)] w fun e w' => e = .returned (.tuple #[.string ⟨(tx y m d c 105).toArray⟩, .bool true]) ∧ Below w.heap.size w w' := by
  have hy := hk.in_year
  have hl := yl_ge y
  have hm := ml_ge y m
  have HC := Lib.hid (fun w => RDateOf_yes hk c1 c2 w)
  have hr := inst_range hk c1 c2
  have HW := Lib.hid (fun w => RWeekday_yes ⟨hr.1, hr.2.1⟩ w)
  rw [hr.2.2.1] at HW
  have HK := Lib.hid hk
  obtain ⟨a1, a2, a3, a4, a5, a6⟩ := hk
  obtain ⟨n, hn⟩ : ∃ n, inst y m d c = n := ⟨_, rfl⟩
  rw [hn] at HC HW
  rw [hn]
  clear hn hr
  have hw : 1 ≤ wd (dn y m d) ∧ wd (dn y m d) ≤ 7 := by unfold wd; omega
  have HX : Hid (tx y m d c 105 = two (c % 60)) := Lib.hid (by simp [tx])
  have HQ := Lib.hid (fun w => Rtwo_any (c % 60) w (by omega) (by omega))
  go_enter Tryd.func49, Tryd.ntmps49
  go_wp2_with fail
  (with_reducible refine (HC.out _).mono ?_)
  rintro e w1 ⟨rfl, hb⟩
  have hb' : Below (W2 w).heap.size (W2 w) w1 := hb
  have HB := Lib.hid ((W2.below w).trans (hb'.mono (W2.below w).size))
  have X := Nm3.new w1 y m d
  have HX1 := Lib.hid (HB.out.alloc HB.out.size (.cells #[.int .i64 y, .int .i64 m, .int .i64 d] 23))
  clear hb hb'
  go_wp2_with fail
  (with_reducible refine (HW.out _).mono ?_)
  rintro e w2 ⟨rfl, hb2⟩
  have HB2 := Lib.hid (HX1.out.trans (hb2.mono HX1.out.size))
  have X := X.below hb2
  have q0 := X.c0
  have q1 := X.c1
  have q2 := X.c2
  clear hb2
  go_wp2_with fail
  (with_reducible refine (HQ.out _).mono ?_)
  rintro e w3 ⟨rfl, hb3⟩
  have HB3 := Lib.hid (HB2.out.trans (hb3.mono HB2.out.size))
  clear hb3
  go_wp2
  go_ret2
  exact ⟨by rw [HX.out]; rfl, HB3.out⟩
set_option maxRecDepth 100000 in
set_option maxHeartbeats 2000000 in
theorem rval_122 {y m d c : Int} (hk : Ok y m d) (c1 : 0 ≤ c) (c2 : c < 1440) (w : World) :
    Calls Tryd.prog 49 #[.int .u8 122, .int .i64 (inst y m d c)] w fun e w' => e = .returned (.tuple #[.string ⟨(tx y m d c 122).toArray⟩, .bool true]) ∧ Below w.heap.size w w' := by
  have hy := hk.in_year
  have hl := yl_ge y
  have hm := ml_ge y m
  have HC := Lib.hid (fun w => RDateOf_yes hk c1 c2 w)
  have hr := inst_range hk c1 c2
  have HW := Lib.hid (fun w => RWeekday_yes ⟨hr.1, hr.2.1⟩ w)
  rw [hr.2.2.1] at HW
  have HK := Lib.hid hk
  obtain ⟨a1, a2, a3, a4, a5, a6⟩ := hk
  obtain ⟨n, hn⟩ : ∃ n, inst y m d c = n := ⟨_, rfl⟩
  rw [hn] at HC HW
  rw [hn]
  clear hn hr
  have hw : 1 ≤ wd (dn y m d) ∧ wd (dn y m d) ≤ 7 := by unfold wd; omega
  have HX : Hid (tx y m d c 122 = Lib.itoa (d - 1 + cum y m)) := Lib.hid (by rw [show d - 1 + cum y m = cum y m + d - 1 by omega]; simp [tx])
  have HQ := Lib.hid (fun w => RItoa_any (d - 1 + cum y m) w (by omega) (by omega))
  have HP := Lib.hid (fun w => before_any HK.out w)
  go_enter Tryd.func49, Tryd.ntmps49
  go_wp2_with fail
  (with_reducible refine (HC.out _).mono ?_)
  rintro e w1 ⟨rfl, hb⟩
  have hb' : Below (W2 w).heap.size (W2 w) w1 := hb
  have HB := Lib.hid ((W2.below w).trans (hb'.mono (W2.below w).size))
  have X := Nm3.new w1 y m d
  have HX1 := Lib.hid (HB.out.alloc HB.out.size (.cells #[.int .i64 y, .int .i64 m, .int .i64 d] 23))
  clear hb hb'
  go_wp2_with fail
  (with_reducible refine (HW.out _).mono ?_)
  rintro e w2 ⟨rfl, hb2⟩
  have HB2 := Lib.hid (HX1.out.trans (hb2.mono HX1.out.size))
  have X := X.below hb2
  have q0 := X.c0
  have q1 := X.c1
  have q2 := X.c2
  clear hb2
  go_wp2_with fail
  (with_reducible refine (HP.out _).mono ?_)
  rintro e w3 ⟨rfl, hb3⟩
  have HB3 := Lib.hid (HB2.out.trans (hb3.mono HB2.out.size))
  clear hb3
  go_wp2_with fail
  (with_reducible refine (HQ.out _).mono ?_)
  rintro e w4 ⟨rfl, hb4⟩
  have HB4 := Lib.hid (HB3.out.trans (hb4.mono HB3.out.size))
  clear hb4
  go_wp2
  go_ret2
  exact ⟨by rw [HX.out]; rfl, HB4.out⟩
set_option maxRecDepth 100000 in
set_option maxHeartbeats 2000000 in
theorem rval_70 {y m d c : Int} (hk : Ok y m d) (c1 : 0 ≤ c) (c2 : c < 1440) (w : World) :
    Calls Tryd.prog 49 #[.int .u8 70, .int .i64 (inst y m d c)] w fun e w' => e = .returned (.tuple #[.string ⟨(tx y m d c 70).toArray⟩, .bool true]) ∧ Below w.heap.size w w' := by
  have hy := hk.in_year
  have hl := yl_ge y
  have hm := ml_ge y m
  have HC := Lib.hid (fun w => RDateOf_yes hk c1 c2 w)
  have hr := inst_range hk c1 c2
  have HW := Lib.hid (fun w => RWeekday_yes ⟨hr.1, hr.2.1⟩ w)
  rw [hr.2.2.1] at HW
  have HK := Lib.hid hk
  obtain ⟨a1, a2, a3, a4, a5, a6⟩ := hk
  obtain ⟨n, hn⟩ : ∃ n, inst y m d c = n := ⟨_, rfl⟩
  rw [hn] at HC HW
  rw [hn]
  clear hn hr
  have hw : 1 ≤ wd (dn y m d) ∧ wd (dn y m d) ≤ 7 := by unfold wd; omega
  have HX : Hid (tx y m d c 70 = mname (m)) := Lib.hid (by simp [tx])
  obtain ⟨S, hS⟩ : ∃ S : ByteArray, ⟨(mname (m)).toArray⟩ = S := ⟨_, rfl⟩
  have hz : 3 ≤ S.size := by rw [← hS]; show 3 ≤ (mname (m)).toArray.size; simp; exact mname_len.1
  have hz2 : S.size ≤ 9 := by rw [← hS]; show (mname (m)).toArray.size ≤ 9; simp; exact mname_len.2
  have HR : Hid (S = ⟨(mname (m)).toArray⟩) := Lib.hid hS.symm
  obtain ⟨i, hi, hie⟩ : ∃ i : Nat, i < 12 ∧ m = (i : Int) + 1 := ⟨(m - 1).toNat, by omega, by omega⟩
  have hcell := W2.m w i hi
  rw [← hie, hS] at hcell
  have hw12 : (i : Int) < 12 := by omega
  have HCL := Lib.hid hcell
  clear hS hcell
  subst hie
  go_enter Tryd.func49, Tryd.ntmps49
  go_wp2_with fail
  (with_reducible refine (HC.out _).mono ?_)
  rintro e w1 ⟨rfl, hb⟩
  have hb' : Below (W2 w).heap.size (W2 w) w1 := hb
  have HB := Lib.hid ((W2.below w).trans (hb'.mono (W2.below w).size))
  have cl := (hb'.cell (p := ⟨w.heap.size, i, none⟩) (by show w.heap.size < (W2 w).heap.size; rw [W2.size w]; omega)).trans HCL.out
  have X := Nm3.new w1 y (↑i + 1) d
  have HX1 := Lib.hid (HB.out.alloc HB.out.size (.cells #[.int .i64 y, .int .i64 (↑i + 1), .int .i64 d] 23))
  have hs1 : w.heap.size + 1 < w1.heap.size := by have := hb'.size; rw [W2.size w] at this; omega
  have cl := (((Below.refl _ w1).alloc (Nat.le_refl _) (.cells #[.int .i64 y, .int .i64 (↑i + 1), .int .i64 d] 23)).cell (p := ⟨w.heap.size, i, none⟩) (by show w.heap.size < w1.heap.size; omega)).trans cl
  clear hb hb'
  go_wp2_with fail
  (with_reducible refine (HW.out _).mono ?_)
  rintro e w2 ⟨rfl, hb2⟩
  have HB2 := Lib.hid (HX1.out.trans (hb2.mono HX1.out.size))
  have X := X.below hb2
  have q0 := X.c0
  have q1 := X.c1
  have q2 := X.c2
  have cl := (hb2.cell (p := ⟨w.heap.size, i, none⟩) (by show w.heap.size < (w1.alloc _).heap.size; rw [World.size_alloc]; omega)).trans cl
  clear hb2
  go_wp2
  go_ret2
  exact ⟨by rw [HX.out, ← HR.out]; rfl, HB2.out⟩
set_option maxRecDepth 100000 in
set_option maxHeartbeats 2000000 in
theorem rval_77 {y m d c : Int} (hk : Ok y m d) (c1 : 0 ≤ c) (c2 : c < 1440) (w : World) :
    Calls Tryd.prog 49 #[.int .u8 77, .int .i64 (inst y m d c)] w fun e w' => e = .returned (.tuple #[.string ⟨(tx y m d c 77).toArray⟩, .bool true]) ∧ Below w.heap.size w w' := by
  have hy := hk.in_year
  have hl := yl_ge y
  have hm := ml_ge y m
  have HC := Lib.hid (fun w => RDateOf_yes hk c1 c2 w)
  have hr := inst_range hk c1 c2
  have HW := Lib.hid (fun w => RWeekday_yes ⟨hr.1, hr.2.1⟩ w)
  rw [hr.2.2.1] at HW
  have HK := Lib.hid hk
  obtain ⟨a1, a2, a3, a4, a5, a6⟩ := hk
  obtain ⟨n, hn⟩ : ∃ n, inst y m d c = n := ⟨_, rfl⟩
  rw [hn] at HC HW
  rw [hn]
  clear hn hr
  have hw : 1 ≤ wd (dn y m d) ∧ wd (dn y m d) ≤ 7 := by unfold wd; omega
  have HX : Hid (tx y m d c 77 = (mname (m)).take 3) := Lib.hid (by simp [tx])
  obtain ⟨S, hS⟩ : ∃ S : ByteArray, ⟨(mname (m)).toArray⟩ = S := ⟨_, rfl⟩
  have hz : 3 ≤ S.size := by rw [← hS]; show 3 ≤ (mname (m)).toArray.size; simp; exact mname_len.1
  have hz2 : S.size ≤ 9 := by rw [← hS]; show (mname (m)).toArray.size ≤ 9; simp; exact mname_len.2
  have HR : Hid (S.extract 0 3 = ⟨((mname (m)).take 3).toArray⟩) := Lib.hid (ext_arr (by rw [Lib.extract_data, ← hS]; simp))
  obtain ⟨i, hi, hie⟩ : ∃ i : Nat, i < 12 ∧ m = (i : Int) + 1 := ⟨(m - 1).toNat, by omega, by omega⟩
  have hcell := W2.m w i hi
  rw [← hie, hS] at hcell
  have hw12 : (i : Int) < 12 := by omega
  have HCL := Lib.hid hcell
  clear hS hcell
  subst hie
  go_enter Tryd.func49, Tryd.ntmps49
  go_wp2_with fail
  (with_reducible refine (HC.out _).mono ?_)
  rintro e w1 ⟨rfl, hb⟩
  have hb' : Below (W2 w).heap.size (W2 w) w1 := hb
  have HB := Lib.hid ((W2.below w).trans (hb'.mono (W2.below w).size))
  have cl := (hb'.cell (p := ⟨w.heap.size, i, none⟩) (by show w.heap.size < (W2 w).heap.size; rw [W2.size w]; omega)).trans HCL.out
  have X := Nm3.new w1 y (↑i + 1) d
  have HX1 := Lib.hid (HB.out.alloc HB.out.size (.cells #[.int .i64 y, .int .i64 (↑i + 1), .int .i64 d] 23))
  have hs1 : w.heap.size + 1 < w1.heap.size := by have := hb'.size; rw [W2.size w] at this; omega
  have cl := (((Below.refl _ w1).alloc (Nat.le_refl _) (.cells #[.int .i64 y, .int .i64 (↑i + 1), .int .i64 d] 23)).cell (p := ⟨w.heap.size, i, none⟩) (by show w.heap.size < w1.heap.size; omega)).trans cl
  clear hb hb'
  go_wp2_with fail
  (with_reducible refine (HW.out _).mono ?_)
  rintro e w2 ⟨rfl, hb2⟩
  have HB2 := Lib.hid (HX1.out.trans (hb2.mono HX1.out.size))
  have X := X.below hb2
  have q0 := X.c0
  have q1 := X.c1
  have q2 := X.c2
  have cl := (hb2.cell (p := ⟨w.heap.size, i, none⟩) (by show w.heap.size < (w1.alloc _).heap.size; rw [World.size_alloc]; omega)).trans cl
  clear hb2
  go_wp2
  go_ret2
  exact ⟨by rw [HX.out, ← HR.out]; rfl, HB2.out⟩
set_option maxRecDepth 100000 in
set_option maxHeartbeats 2000000 in
theorem rval_108 {y m d c : Int} (hk : Ok y m d) (c1 : 0 ≤ c) (c2 : c < 1440) (w : World) :
    Calls Tryd.prog 49 #[.int .u8 108, .int .i64 (inst y m d c)] w fun e w' => e = .returned (.tuple #[.string ⟨(tx y m d c 108).toArray⟩, .bool true]) ∧ Below w.heap.size w w' := by
  have hy := hk.in_year
  have hl := yl_ge y
  have hm := ml_ge y m
  have HC := Lib.hid (fun w => RDateOf_yes hk c1 c2 w)
  have hr := inst_range hk c1 c2
  have HW := Lib.hid (fun w => RWeekday_yes ⟨hr.1, hr.2.1⟩ w)
  rw [hr.2.2.1] at HW
  have HK := Lib.hid hk
  obtain ⟨a1, a2, a3, a4, a5, a6⟩ := hk
  obtain ⟨n, hn⟩ : ∃ n, inst y m d c = n := ⟨_, rfl⟩
  rw [hn] at HC HW
  rw [hn]
  clear hn hr
  have hw : 1 ≤ wd (dn y m d) ∧ wd (dn y m d) ≤ 7 := by unfold wd; omega
  have HX : Hid (tx y m d c 108 = wname (wd (dn y m d))) := Lib.hid (by simp [tx])
  obtain ⟨S, hS⟩ : ∃ S : ByteArray, ⟨(wname (wd (dn y m d))).toArray⟩ = S := ⟨_, rfl⟩
  have hz : 3 ≤ S.size := by rw [← hS]; show 3 ≤ (wname (wd (dn y m d))).toArray.size; simp; exact wname_len.1
  have hz2 : S.size ≤ 9 := by rw [← hS]; show (wname (wd (dn y m d))).toArray.size ≤ 9; simp; exact wname_len.2
  have HR : Hid (S = ⟨(wname (wd (dn y m d))).toArray⟩) := Lib.hid hS.symm
  obtain ⟨i, hi, hie⟩ : ∃ i : Nat, i < 7 ∧ wd (dn y m d) = (i : Int) + 1 := ⟨(wd (dn y m d) - 1).toNat, by omega, by omega⟩
  have hcell := W2.d w i hi
  rw [← hie, hS] at hcell
  have hw7 : (i : Int) < 7 := by omega
  rw [hie] at HW hw
  have HCL := Lib.hid hcell
  clear hS hcell
  clear hie
  go_enter Tryd.func49, Tryd.ntmps49
  go_wp2_with fail
  (with_reducible refine (HC.out _).mono ?_)
  rintro e w1 ⟨rfl, hb⟩
  have hb' : Below (W2 w).heap.size (W2 w) w1 := hb
  have HB := Lib.hid ((W2.below w).trans (hb'.mono (W2.below w).size))
  have cl := (hb'.cell (p := ⟨w.heap.size + 1, i, none⟩) (by show w.heap.size + 1 < (W2 w).heap.size; rw [W2.size w]; omega)).trans HCL.out
  have X := Nm3.new w1 y m d
  have HX1 := Lib.hid (HB.out.alloc HB.out.size (.cells #[.int .i64 y, .int .i64 m, .int .i64 d] 23))
  have hs1 : w.heap.size + 1 < w1.heap.size := by have := hb'.size; rw [W2.size w] at this; omega
  have cl := (((Below.refl _ w1).alloc (Nat.le_refl _) (.cells #[.int .i64 y, .int .i64 m, .int .i64 d] 23)).cell (p := ⟨w.heap.size + 1, i, none⟩) (by show w.heap.size + 1 < w1.heap.size; omega)).trans cl
  clear hb hb'
  go_wp2_with fail
  (with_reducible refine (HW.out _).mono ?_)
  rintro e w2 ⟨rfl, hb2⟩
  have HB2 := Lib.hid (HX1.out.trans (hb2.mono HX1.out.size))
  have X := X.below hb2
  have q0 := X.c0
  have q1 := X.c1
  have q2 := X.c2
  have cl := (hb2.cell (p := ⟨w.heap.size + 1, i, none⟩) (by show w.heap.size + 1 < (w1.alloc _).heap.size; rw [World.size_alloc]; omega)).trans cl
  clear hb2
  go_wp2
  go_ret2
  exact ⟨by rw [HX.out, ← HR.out]; rfl, HB2.out⟩
set_option maxRecDepth 100000 in
set_option maxHeartbeats 2000000 in
theorem rval_68 {y m d c : Int} (hk : Ok y m d) (c1 : 0 ≤ c) (c2 : c < 1440) (w : World) :
    Calls Tryd.prog 49 #[.int .u8 68, .int .i64 (inst y m d c)] w fun e w' => e = .returned (.tuple #[.string ⟨(tx y m d c 68).toArray⟩, .bool true]) ∧ Below w.heap.size w w' := by
  have hy := hk.in_year
  have hl := yl_ge y
  have hm := ml_ge y m
  have HC := Lib.hid (fun w => RDateOf_yes hk c1 c2 w)
  have hr := inst_range hk c1 c2
  have HW := Lib.hid (fun w => RWeekday_yes ⟨hr.1, hr.2.1⟩ w)
  rw [hr.2.2.1] at HW
  have HK := Lib.hid hk
  obtain ⟨a1, a2, a3, a4, a5, a6⟩ := hk
  obtain ⟨n, hn⟩ : ∃ n, inst y m d c = n := ⟨_, rfl⟩
  rw [hn] at HC HW
  rw [hn]
  clear hn hr
  have hw : 1 ≤ wd (dn y m d) ∧ wd (dn y m d) ≤ 7 := by unfold wd; omega
  have HX : Hid (tx y m d c 68 = (wname (wd (dn y m d))).take 3) := Lib.hid (by simp [tx])
  obtain ⟨S, hS⟩ : ∃ S : ByteArray, ⟨(wname (wd (dn y m d))).toArray⟩ = S := ⟨_, rfl⟩
  have hz : 3 ≤ S.size := by rw [← hS]; show 3 ≤ (wname (wd (dn y m d))).toArray.size; simp; exact wname_len.1
  have hz2 : S.size ≤ 9 := by rw [← hS]; show (wname (wd (dn y m d))).toArray.size ≤ 9; simp; exact wname_len.2
  have HR : Hid (S.extract 0 3 = ⟨((wname (wd (dn y m d))).take 3).toArray⟩) := Lib.hid (ext_arr (by rw [Lib.extract_data, ← hS]; simp))
  obtain ⟨i, hi, hie⟩ : ∃ i : Nat, i < 7 ∧ wd (dn y m d) = (i : Int) + 1 := ⟨(wd (dn y m d) - 1).toNat, by omega, by omega⟩
  have hcell := W2.d w i hi
  rw [← hie, hS] at hcell
  have hw7 : (i : Int) < 7 := by omega
  rw [hie] at HW hw
  have HCL := Lib.hid hcell
  clear hS hcell
  clear hie
  go_enter Tryd.func49, Tryd.ntmps49
  go_wp2_with fail
  (with_reducible refine (HC.out _).mono ?_)
  rintro e w1 ⟨rfl, hb⟩
  have hb' : Below (W2 w).heap.size (W2 w) w1 := hb
  have HB := Lib.hid ((W2.below w).trans (hb'.mono (W2.below w).size))
  have cl := (hb'.cell (p := ⟨w.heap.size + 1, i, none⟩) (by show w.heap.size + 1 < (W2 w).heap.size; rw [W2.size w]; omega)).trans HCL.out
  have X := Nm3.new w1 y m d
  have HX1 := Lib.hid (HB.out.alloc HB.out.size (.cells #[.int .i64 y, .int .i64 m, .int .i64 d] 23))
  have hs1 : w.heap.size + 1 < w1.heap.size := by have := hb'.size; rw [W2.size w] at this; omega
  have cl := (((Below.refl _ w1).alloc (Nat.le_refl _) (.cells #[.int .i64 y, .int .i64 m, .int .i64 d] 23)).cell (p := ⟨w.heap.size + 1, i, none⟩) (by show w.heap.size + 1 < w1.heap.size; omega)).trans cl
  clear hb hb'
  go_wp2_with fail
  (with_reducible refine (HW.out _).mono ?_)
  rintro e w2 ⟨rfl, hb2⟩
  have HB2 := Lib.hid (HX1.out.trans (hb2.mono HX1.out.size))
  have X := X.below hb2
  have q0 := X.c0
  have q1 := X.c1
  have q2 := X.c2
  have cl := (hb2.cell (p := ⟨w.heap.size + 1, i, none⟩) (by show w.heap.size + 1 < (w1.alloc _).heap.size; rw [World.size_alloc]; omega)).trans cl
  clear hb2
  go_wp2
  go_ret2
  exact ⟨by rw [HX.out, ← HR.out]; rfl, HB2.out⟩
theorem rvalue_code {y m d c : Int} (hk : Ok y m d) (c1 : 0 ≤ c) (c2 : c < 1440) {b : UInt8} (hb : isCode b = true) (w : World) :
    Calls Tryd.prog 49 #[.int .u8 (b.toNat : Int), .int .i64 (inst y m d c)] w fun e w' => e = .returned (.tuple #[.string ⟨(tx y m d c b).toArray⟩, .bool true]) ∧ Below w.heap.size w w' := by
  rcases isCode_cases hb with rfl | rfl | rfl | rfl | rfl | rfl | rfl | rfl | rfl | rfl | rfl | rfl | rfl | rfl
  · exact rval_89 hk c1 c2 w
  · exact rval_110 hk c1 c2 w
  · exact rval_106 hk c1 c2 w
  · exact rval_122 hk c1 c2 w
  · exact rval_78 hk c1 c2 w
  · exact rval_71 hk c1 c2 w
  · exact rval_109 hk c1 c2 w
  · exact rval_100 hk c1 c2 w
  · exact rval_72 hk c1 c2 w
  · exact rval_105 hk c1 c2 w
  · exact rval_70 hk c1 c2 w
  · exact rval_77 hk c1 c2 w
  · exact rval_108 hk c1 c2 w
  · exact rval_68 hk c1 c2 w
set_option maxRecDepth 100000 in
set_option maxHeartbeats 2000000 in
theorem rvalue_none {y m d c : Int} (hk : Ok y m d) (c1 : 0 ≤ c) (c2 : c < 1440) {b : UInt8} (hb : isCode b = false) (w : World) :
    Calls Tryd.prog 49 #[.int .u8 (b.toNat : Int), .int .i64 (inst y m d c)] w fun e w' => e = .returned (.tuple #[.string ⟨#[]⟩, .bool false]) ∧ Below w.heap.size w w' := by
  have hn' : ∀ x : UInt8, isCode x = true → b ≠ x := fun x hx e => by rw [e, hx] at hb; cases hb
  have e89 : ((b.toNat : Int) == 89) = false := u8_ne (hn' 89 rfl)
  have e110 : ((b.toNat : Int) == 110) = false := u8_ne (hn' 110 rfl)
  have e106 : ((b.toNat : Int) == 106) = false := u8_ne (hn' 106 rfl)
  have e122 : ((b.toNat : Int) == 122) = false := u8_ne (hn' 122 rfl)
  have e78 : ((b.toNat : Int) == 78) = false := u8_ne (hn' 78 rfl)
  have e71 : ((b.toNat : Int) == 71) = false := u8_ne (hn' 71 rfl)
  have e109 : ((b.toNat : Int) == 109) = false := u8_ne (hn' 109 rfl)
  have e100 : ((b.toNat : Int) == 100) = false := u8_ne (hn' 100 rfl)
  have e72 : ((b.toNat : Int) == 72) = false := u8_ne (hn' 72 rfl)
  have e105 : ((b.toNat : Int) == 105) = false := u8_ne (hn' 105 rfl)
  have e70 : ((b.toNat : Int) == 70) = false := u8_ne (hn' 70 rfl)
  have e77 : ((b.toNat : Int) == 77) = false := u8_ne (hn' 77 rfl)
  have e108 : ((b.toNat : Int) == 108) = false := u8_ne (hn' 108 rfl)
  have e68 : ((b.toNat : Int) == 68) = false := u8_ne (hn' 68 rfl)
  have HC := Lib.hid (fun w => RDateOf_yes hk c1 c2 w)
  have hr := inst_range hk c1 c2
  have HW := Lib.hid (fun w => RWeekday_yes ⟨hr.1, hr.2.1⟩ w)
  obtain ⟨n, hn⟩ : ∃ n, inst y m d c = n := ⟨_, rfl⟩
  rw [hn] at HC HW
  rw [hn]
  clear hn hr hn' hb hk
  go_enter Tryd.func49, Tryd.ntmps49
  go_wp2_with fail
  (with_reducible refine (HC.out _).mono ?_)
  rintro e w1 ⟨rfl, hb⟩
  have hb' : Below (W2 w).heap.size (W2 w) w1 := hb
  have HB := Lib.hid ((W2.below w).trans (hb'.mono (W2.below w).size))
  have HX1 := Lib.hid (HB.out.alloc HB.out.size (.cells #[.int .i64 y, .int .i64 m, .int .i64 d] 23))
  clear hb hb'
  go_wp2_with fail
  (with_reducible refine (HW.out _).mono ?_)
  rintro e w2 ⟨rfl, hb2⟩
  have HB2 := Lib.hid (HX1.out.trans (hb2.mono HX1.out.size))
  clear hb2
  go_wp2
  go_ret2
  exact ⟨rfl, HB2.out⟩
end Go.Proofs.YtlkbdnjpcagopaaDoor.Ca
