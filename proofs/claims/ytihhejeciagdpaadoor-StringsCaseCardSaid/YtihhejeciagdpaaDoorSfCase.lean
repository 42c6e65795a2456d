/-
  The contracts of Lower, Upper, First, Trim of package strfunc and of the reference.
-/
import Derived.Test.YtihhejeciagdpaaDoorSfKnown
import Derived.Test.YtihhejeciagdpaaDoorSfCsPl
import Derived.Laws.IdiomStrings
import Derived.Deep.RegionHeld
namespace Go.Proofs.YtihhejeciagdpaaDoor.Sf
open Go.RowKit Go.Shelf
set_option linter.unusedVariables false

theorem bny {w W W' : World} (h : Below w.heap.size w W) (k : Below W.heap.size W W') : Below w.heap.size w W' := h.trans (k.mono h.size)
/-! ### A row of bytes -/
structure RB (w : World) (b : Nat) (l : List UInt8) : Prop where
  lt : b < w.heap.size
  at_ : ∀ (j : Nat) x, l[j]? = some x → w.cell? ⟨b, j, none⟩ = some (.int .u8 (x.toNat : Int)) ∧ w.frozen? ⟨b, j, none⟩ = false
theorem RB.set {w : World} {b : Nat} {l : List UInt8} (h : RB w b l) {j : Nat} (hj : j < l.length) (y : UInt8) : RB (w.setCell ⟨b, j, none⟩ (.int .u8 (y.toNat : Int))) b (l.set j y) := by
  refine ⟨by rw [World.size_setCell]; exact h.lt, fun i x hi => ?_⟩
  have hil : i < l.length := by
    have := (List.getElem?_eq_some_iff.1 hi).1
    rwa [List.length_set] at this
  have h0 := h.at_ i l[i] (List.getElem?_eq_getElem hil)
  refine ⟨?_, by rw [World.frozen?_setCell]; exact h0.2⟩
  by_cases hij : i = j
  · subst hij
    rw [List.getElem?_set_self hil] at hi
    obtain rfl : y = x := Option.some.inj hi
    exact World.cell?_setCell_same' _ _ _ (by rw [h0.1]; rfl)
  · rw [List.getElem?_set_ne (fun e => hij e.symm)] at hi
    rw [World.cell?_setCell_other (h := fun e => hij (by cases e; rfl))]
    exact (h.at_ i x hi).1
theorem RB.of_block {w w' : World} {b : Nat} {l : List UInt8} (h : RB w b l) (hb : w'.heap[b]? = w.heap[b]?) (hs : w.heap.size ≤ w'.heap.size) : RB w' b l :=
  ⟨Nat.lt_of_lt_of_le h.lt hs, fun j x hj => ⟨(World.cell?_of_block (a := ⟨b, j, none⟩) hb).trans (h.at_ j x hj).1, (World.frozen?_of_block (a := ⟨b, j, none⟩) hb).trans (h.at_ j x hj).2⟩⟩
/-- []byte(s) -/
theorem conv_to (s : ByteArray) (w : World) : ∃ C W1, (convert 9 45 (.string s)).run Tryd.prog w = .ok (.slice (some ⟨w.heap.size, 0, none⟩) s.size C) W1 ∧ RB W1 w.heap.size s.data.toList ∧ Below w.heap.size w W1 := by
  have h := run_bytes_of_string (P := Tryd.prog) w 9 45 5 s Tryd.underlying9 Tryd.underlying45 Tryd.underlying5
  refine ⟨_, _, h, ⟨?_, fun j x hj => ?_⟩, ?_⟩
  · show w.heap.size < (w.heap.push _).size
    rw [Array.size_push]; omega
  · have hjl := (List.getElem?_eq_some_iff.1 hj).1
    have hjs : j < s.data.size := by rw [← Array.length_toList]; exact hjl
    refine ⟨?_, ?_⟩
    · refine (World.cell?_alloc_mark w.drew _ _ _ j).trans ?_
      rw [bytesRow_at s _ j hjs]
      rw [List.getElem?_eq_getElem hjl] at hj
      have : s.data[j] = x := by rw [← Array.getElem_toList]; exact Option.some.inj hj
      rw [this]
    · refine (World.frozen?_alloc_mark w.drew _ _ _ _ j).trans ?_
      have : j < (bytesRow s (grownCap w s.size 0 5)).size := by
        unfold bytesRow
        rw [Array.size_append, Array.size_map]; omega
      rw [decide_eq_false (by omega)]; rfl
  · exact (Below.refl _ w).drew.alloc (Nat.le_refl _) _
/-- string(b) -/
theorem conv_back {w : World} {b : Nat} {l : List UInt8} (h : RB w b l) (C : Nat) : (convert 45 9 (.slice (some ⟨b, 0, none⟩) l.length C)).run Tryd.prog w = .ok (.string ⟨l.toArray⟩) w :=
  run_convert_bytes_back (P := Tryd.prog) w 45 9 5 ⟨b, 0, none⟩ C l Tryd.underlying45 Tryd.underlying5 Tryd.underlying9 (fun j hj => by
    have := (h.at_ j l[j] (List.getElem?_eq_getElem hj)).1
    rw [Addr.add_lit, Nat.zero_add]; exact this)
/-! ### Letters -/
theorem toSmall_any (c : UInt8) (w : World) : Calls Tryd.prog 18 #[.int .u8 (c.toNat : Int)] w fun e w' => e = .returned (.int .u8 ((sm c).toNat : Int)) ∧ w' = w := by
  have hc := c.toNat_lt
  by_cases h1 : 65 ≤ c.toNat
  · have d1 : decide ((65 : Int) ≤ (c.toNat : Int)) = true := decide_eq_true (by omega)
    by_cases h2 : c.toNat ≤ 90
    · have d2 : decide ((c.toNat : Int) ≤ 90) = true := decide_eq_true (by omega)
      have HS := Lib.hid (sm_yes ⟨h1, h2⟩)
      go_enter Tryd.func18, Tryd.ntmps18
      go_wp2
      go_ret
      exact ⟨ret_int (by rw [HS.out]; omega), rfl⟩
    · have d2 : decide ((c.toNat : Int) ≤ 90) = false := decide_eq_false (by omega)
      have HS := Lib.hid (sm_no (c := c) (by omega))
      go_enter Tryd.func18, Tryd.ntmps18
      go_wp2
      go_ret
      exact ⟨ret_int (by rw [HS.out]), rfl⟩
  · have d1 : decide ((65 : Int) ≤ (c.toNat : Int)) = false := decide_eq_false (by omega)
    have HS := Lib.hid (sm_no (c := c) (by omega))
    go_enter Tryd.func18, Tryd.ntmps18
    go_wp2
    go_ret
    exact ⟨ret_int (by rw [HS.out]), rfl⟩
theorem toCapital_any (c : UInt8) (w : World) : Calls Tryd.prog 20 #[.int .u8 (c.toNat : Int)] w fun e w' => e = .returned (.int .u8 ((cp c).toNat : Int)) ∧ w' = w := by
  have hc := c.toNat_lt
  by_cases h1 : 97 ≤ c.toNat
  · have d1 : decide ((97 : Int) ≤ (c.toNat : Int)) = true := decide_eq_true (by omega)
    by_cases h2 : c.toNat ≤ 122
    · have d2 : decide ((c.toNat : Int) ≤ 122) = true := decide_eq_true (by omega)
      have HS := Lib.hid (cp_yes ⟨h1, h2⟩)
      go_enter Tryd.func20, Tryd.ntmps20
      go_wp2
      go_ret
      exact ⟨ret_int (by rw [HS.out]; omega), rfl⟩
    · have d2 : decide ((c.toNat : Int) ≤ 122) = false := decide_eq_false (by omega)
      have HS := Lib.hid (cp_no (c := c) (by omega))
      go_enter Tryd.func20, Tryd.ntmps20
      go_wp2
      go_ret
      exact ⟨ret_int (by rw [HS.out]), rfl⟩
  · have d1 : decide ((97 : Int) ≤ (c.toNat : Int)) = false := decide_eq_false (by omega)
    have HS := Lib.hid (cp_no (c := c) (by omega))
    go_enter Tryd.func20, Tryd.ntmps20
    go_wp2
    go_ret
    exact ⟨ret_int (by rw [HS.out]), rfl⟩
def bsl (l : List UInt8) : ByteArray := ⟨l.toArray⟩
set_option maxRecDepth 100000 in
set_option maxHeartbeats 4000000 in
theorem mapBytes_any (fi : Nat) (g : UInt8 → UInt8) (eg : ∀ args w, (callFunc fi args).run Tryd.prog w = .ok (.enter fi args) w) (hg : ∀ (c : UInt8) (w : World), Calls Tryd.prog fi #[.int .u8 (c.toNat : Int)] w fun e w' => e = .returned (.int .u8 ((g c).toNat : Int)) ∧ w' = w)
    (s : ByteArray) (w : World) (hs : s.size ≤ 4294967281) : Calls Tryd.prog 17 #[.string s, .func (.func fi) #[] #[]] w fun e w' => e = .returned (.string (bsl (s.data.toList.map g))) ∧ Below w.heap.size w w' := by
  have HG := Lib.hid hg
  clear hg
  obtain ⟨C, W1, hconv, hrb, hb1⟩ := conv_to s w
  have hsz := size_list s
  have HZ := Lib.hid hsz
  clear hsz
  have HR0 : Hid (RB W1 w.heap.size (cs g 0 s.data.toList)) := Lib.hid (by rw [cs_zero]; exact hrb)
  have HB1 := Lib.hid hb1
  clear hrb hb1
  go_enter Tryd.func17, Tryd.ntmps17
  go_wp2_with fail
  clear hconv
  go_loopw [12] (fun iv wr => ∃ i : Nat, iv = .int .i64 i ∧ i ≤ s.size ∧ Hid (RB wr w.heap.size (cs g i s.data.toList)) ∧ Hid (Below w.heap.size w wr)) (fun i _ => s.size - (intOf i).toNat)
  case atStart => exact ⟨0, by go_num, Nat.zero_le _, HR0, HB1⟩
  case round =>
    obtain ⟨i, rfl, hi, HR, HB⟩ := hrel
    by_cases hlt : i < s.size
    · have hd : decide ((i : Int) < (s.size : Int)) = true := decide_eq_true (by omega)
      have hltI : (i : Int) < (s.size : Int) := by omega
      have hil : i < s.data.toList.length := by rw [HZ.out]; exact hlt
      obtain ⟨hcell, hfz⟩ := HR.out.at_ i _ (cs_get g hil)
      have hst := HR.out.set (j := i) (by rw [cs_len]; exact hil) (g s.data.toList[i])
      rw [cs_set g hil] at hst
      obtain ⟨c, hc⟩ : ∃ c, s.data.toList[i] = c := ⟨_, rfl⟩
      rw [hc] at hcell hst
      have HST := Lib.hid hst
      have hbs := HB.out.size
      clear hst hc
      go_wp2_with fail
      refine (HG.out c _).mono ?_
      rintro e w3 ⟨rfl, rfl⟩
      go_wp2_with fail
      go_roundw
      case rel => exact ⟨i + 1, by go_num, by omega, HST, Lib.hid (HB.out.setCell (p := ⟨w.heap.size, i, none⟩) (Nat.le_refl _) _)⟩
      case measure => simp [intOf]; omega
    · have hd : decide ((i : Int) < (s.size : Int)) = false := decide_eq_false (by omega)
      obtain rfl : i = s.size := by omega
      have hcv := conv_back HR.out C
      rw [cs_len, cs_all g (by rw [HZ.out]; exact Nat.le_refl _), HZ.out] at hcv
      go_wp2_with fail
      go_ret
      exact ⟨rfl, HB.out⟩
theorem Lower_any (s : ByteArray) (w : World) (hs : s.size ≤ 4294967281) : Calls Tryd.prog 6 #[.string s] w fun e w' => e = .returned (.string (bsl (s.data.toList.map sm))) ∧ Below w.heap.size w w' := by
  have HM := Lib.hid (fun w => mapBytes_any 18 sm (enters_of Tryd.func18 (by kernel_rfl) rfl) toSmall_any s w hs)
  go_enter Tryd.func6, Tryd.ntmps6
  go_wp2_with fail
  refine (HM.out _).mono ?_
  rintro e w1 ⟨rfl, hb1⟩
  go_wp2
  go_ret
  exact ⟨rfl, hb1⟩
theorem Upper_any (s : ByteArray) (w : World) (hs : s.size ≤ 4294967281) : Calls Tryd.prog 8 #[.string s] w fun e w' => e = .returned (.string (bsl (s.data.toList.map cp))) ∧ Below w.heap.size w w' := by
  have HM := Lib.hid (fun w => mapBytes_any 20 cp (enters_of Tryd.func20 (by kernel_rfl) rfl) toCapital_any s w hs)
  go_enter Tryd.func8, Tryd.ntmps8
  go_wp2_with fail
  refine (HM.out _).mono ?_
  rintro e w1 ⟨rfl, hb1⟩
  go_wp2
  go_ret
  exact ⟨rfl, hb1⟩
end Go.Proofs.YtihhejeciagdpaaDoor.Sf
