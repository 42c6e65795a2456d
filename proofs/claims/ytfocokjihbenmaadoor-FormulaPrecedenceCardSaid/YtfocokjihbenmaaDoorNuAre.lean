/-
  The contracts of areDigits and isDecimal, for strings of any bytes.
-/
import Derived.Test.YtfocokjihbenmaaDoorNuText
import Derived.Test.YtfocokjihbenmaaDoorNuDec
import Derived.BigQuiet
import Derived.Laws.RangeAny
import Derived.Lib.DecodeN
import Derived.Lib.OthersKept
namespace Go.Proofs.YtfocokjihbenmaaDoor.Nu
open Go.RowKit

theorem iterPos_of {W : World} {k p : Nat} {s : ByteArray} (h : W.heap[k]? = some (.stringIter s p)) : W.iterPos k = p := by simp [World.iterPos, h]
theorem below_iterAt {w W : World} (h : Below w.heap.size w W) (s : ByteArray) (pos : Nat) : Below w.heap.size w (W.iterAt w.heap.size s pos) :=
  ⟨h.os, h.tape, h.output, by show w.heap.size ≤ (W.heap.setIfInBounds _ _).size; rw [Array.size_setIfInBounds]; exact h.size, fun k hk => by
    show (W.heap.setIfInBounds w.heap.size (.stringIter s pos))[k]? = _
    rw [Array.getElem?_setIfInBounds_ne (by omega)]; exact h.block k hk⟩
theorem isD_all {l : List UInt8} {p : Nat} {x : UInt8} (h : (l.take p).all isD = true) (hx : l[p]? = some x) (hd : isD x = true) : (l.take (p + 1)).all isD = true := by
  rw [List.take_add_one, hx, List.all_append, h]
  simp [hd]
theorem isD_not {l : List UInt8} {p : Nat} {x : UInt8} (hx : l[p]? = some x) (hd : isD x = false) : l.all isD = false := by
  rw [Bool.eq_false_iff]
  intro h
  have := List.all_eq_true.1 h x (List.mem_of_getElem? hx)
  rw [hd] at this
  cases this
theorem adB_len {l : List UInt8} (h : ¬ (1 ≤ l.length ∧ l.length ≤ 9)) : adB l = false := by unfold adB; rw [decide_eq_false h]; rfl
theorem adB_in {l : List UInt8} (h : 1 ≤ l.length ∧ l.length ≤ 9) : adB l = l.all isD := by unfold adB; rw [decide_eq_true h]; rfl
set_option maxRecDepth 100000 in
set_option maxHeartbeats 2000000 in
theorem areDigits_any (s : ByteArray) (w : World) : Calls Tryd.prog 80 #[.string s] w fun e w' => e = .returned (.bool (adB s.data.toList)) ∧ Below w.heap.size w w' := by
  have hsz := Lib.size_eq s
  by_cases h1 : s.size < 1
  · have HA := Lib.hid (adB_len (l := s.data.toList) (by omega))
    have h1' : decide ((s.size : Int) < 1) = true := decide_eq_true (by omega)
    clear hsz h1
    go_enter Tryd.func80, Tryd.ntmps80
    go_wp2
    go_ret
    exact ⟨by rw [HA.out]; rfl, Below.refl _ _⟩
  · have h1' : decide ((s.size : Int) < 1) = false := decide_eq_false (by omega)
    by_cases h2 : 9 < s.size
    · have HA := Lib.hid (adB_len (l := s.data.toList) (by omega))
      have h2' : decide ((9 : Int) < (s.size : Int)) = true := decide_eq_true (by omega)
      clear hsz h1 h2
      go_enter Tryd.func80, Tryd.ntmps80
      go_wp2
      go_ret
      exact ⟨by rw [HA.out]; rfl, Below.refl _ _⟩
    · have h2' : decide ((9 : Int) < (s.size : Int)) = false := decide_eq_false (by omega)
      have HA := Lib.hid (adB_in (l := s.data.toList) (by omega))
      have HZ := Lib.hid hsz
      clear hsz h1 h2
      go_enter Tryd.func80, Tryd.ntmps80
      go_wp2
      go_loopw [4] (fun _ wr => ∃ pos : Nat, pos ≤ s.size ∧ Hid (wr.heap[w.heap.size]? = some (.stringIter s pos)) ∧ Hid (Below w.heap.size w wr) ∧ Hid ((s.data.toList.take pos).all isD = true)) (fun _ wr => s.size - wr.iterPos w.heap.size)
      case atStart => exact ⟨0, Nat.zero_le _, Lib.hid (World.iter_heap w s 0), Lib.hid ((Below.refl _ _).alloc (Nat.le_refl _) _), Lib.hid rfl⟩
      case round =>
        obtain ⟨pos, hp, HT, HB, HN⟩ := hrel
        have HP := Lib.hid (iterPos_of HT.out)
        by_cases hlt : pos < s.size
        · obtain ⟨x, hx⟩ : ∃ x : UInt8, s[pos]'hlt = x := ⟨_, rfl⟩
          have hxl : s.data.toList[pos]? = some x := by rw [← hx]; exact Lib.data_getElem? s pos hlt
          by_cases h128 : x.toNat < 128
          · have hnx := fun ty => Lib.run_next_ascii_at (P := Tryd.prog) wr w.heap.size s pos ty HT.out hlt (by rw [hx]; exact h128)
            rw [hx] at hnx
            have HB2 := Lib.hid (below_iterAt HB.out s (pos + 1))
            have HT2 := Lib.hid (Lib.iterAt_heap wr w.heap.size s pos (pos + 1) HT.out)
            by_cases hd : isD x = true
            · have hd2 : 48 ≤ x.toNat ∧ x.toNat ≤ 57 := of_decide_eq_true hd
              have d1 : decide ((x.toNat : Int) < 48) = false := decide_eq_false (by omega)
              have d2 : decide ((57 : Int) < (x.toNat : Int)) = false := decide_eq_false (by omega)
              have HN2 := Lib.hid (isD_all HN.out hxl hd)
              clear hxl hx hd hd2
              go_wp2
              go_roundw
              case rel => exact ⟨pos + 1, by omega, HT2, HB2, HN2⟩
              case measure => rw [iterPos_of HT2.out, HP.out]; omega
            · have hd2 : ¬ (48 ≤ x.toNat ∧ x.toNat ≤ 57) := fun hh => hd (decide_eq_true hh)
              have HN2 := Lib.hid (isD_not hxl (Bool.eq_false_iff.2 hd))
              clear hxl hx hd
              by_cases hl : x.toNat < 48
              · have d1 : decide ((x.toNat : Int) < 48) = true := decide_eq_true (by omega)
                clear hd2 hl
                go_wp2
                go_ret
                exact ⟨by rw [HA.out, HN2.out]; rfl, HB2.out⟩
              · have d1 : decide ((x.toNat : Int) < 48) = false := decide_eq_false (by omega)
                have d2 : decide ((57 : Int) < (x.toNat : Int)) = true := decide_eq_true (by omega)
                clear hd2 hl
                go_wp2
                go_ret
                exact ⟨by rw [HA.out, HN2.out]; rfl, HB2.out⟩
          · have hnx := fun ty => Lib.run_next_any_at (P := Tryd.prog) wr w.heap.size s pos ty HT.out hlt
            have hh := (decode_high s pos hlt (by rw [hx]; omega)).1
            obtain ⟨D, hD⟩ : ∃ D, D = Utf8.decode s pos := ⟨_, rfl⟩
            rw [← hD] at hnx hh
            have HB2 := Lib.hid (below_iterAt HB.out s (pos + D.2))
            have HN2 := Lib.hid (isD_not hxl (decide_eq_false (by omega : ¬ (48 ≤ x.toNat ∧ x.toNat ≤ 57))))
            have d1 : decide ((D.1 : Int) < 48) = false := decide_eq_false (by omega)
            have d2 : decide ((57 : Int) < (D.1 : Int)) = true := decide_eq_true (by omega)
            clear hxl hx hD hh h128
            go_wp2
            go_ret
            exact ⟨by rw [HA.out, HN2.out]; rfl, HB2.out⟩
        · obtain rfl : pos = s.size := by omega
          have hnx := fun ty => Lib.run_next_end_at (P := Tryd.prog) wr w.heap.size s s.size ty HT.out hlt
          go_wp2
          go_ret
          have hN : s.data.toList.all isD = true := by
            have := HN.out
            rwa [List.take_of_length_le (by rw [← HZ.out]; exact Nat.le_refl _)] at this
          exact ⟨by rw [HA.out, hN]; rfl, HB.out⟩
theorem emp_yes {s : ByteArray} (h : s.data.toList.isEmpty = true) : s.toList.isEmpty = true := by rw [Lib.toList_data]; exact h
theorem emp_no {s : ByteArray} (h : s.data.toList.isEmpty = false) : s.toList.isEmpty = false := by rw [Lib.toList_data]; exact h
set_option maxRecDepth 100000 in
set_option maxHeartbeats 2000000 in
theorem isDecimal_any (a b : ByteArray) (pt : Bool) (w : World) : Calls Tryd.prog 51 #[.string a, .string b, .bool pt] w fun e w' => e = .returned (.bool (idB a.data.toList b.data.toList pt)) ∧ Below w.heap.size w w' := by
  cases pt
  · have HI : Hid (idB a.data.toList b.data.toList false = adB a.data.toList) := Lib.hid rfl
    go_enter Tryd.func51, Tryd.ntmps51
    go_wp2_with fail
    refine (areDigits_any a w).mono ?_
    rintro e w1 ⟨rfl, hb⟩
    go_wp2_with fail
    go_ret
    exact ⟨by rw [HI.out]; rfl, hb⟩
  · cases he : a.data.toList.isEmpty
    · have h0 := emp_no he
      cases hd : adB a.data.toList
      · have HI : Hid (idB a.data.toList b.data.toList true = false) := Lib.hid (by unfold idB; rw [he, hd]; rfl)
        have HA := Lib.hid (areDigits_any a w)
        rw [hd] at HA
        clear hd he
        go_enter Tryd.func51, Tryd.ntmps51
        go_wp2_with fail
        refine HA.out.mono ?_
        rintro e w1 ⟨rfl, hb⟩
        go_wp2_with fail
        go_ret
        exact ⟨by rw [HI.out]; rfl, hb⟩
      · have HI : Hid (idB a.data.toList b.data.toList true = adB b.data.toList) := Lib.hid (by unfold idB; rw [he, hd]; simp)
        have HA := Lib.hid (areDigits_any a w)
        rw [hd] at HA
        clear hd he
        go_enter Tryd.func51, Tryd.ntmps51
        go_wp2_with fail
        refine HA.out.mono ?_
        rintro e w1 ⟨rfl, hb⟩
        have HB := Lib.hid hb
        clear hb HA
        go_wp2_with fail
        refine (areDigits_any b w1).mono ?_
        rintro e w2 ⟨rfl, hb⟩
        have HB2 := Lib.hid (HB.out.trans (hb.mono HB.out.size))
        clear hb
        go_wp2_with fail
        go_ret
        exact ⟨by rw [HI.out]; rfl, HB2.out⟩
    · have h0 := emp_yes he
      have HI : Hid (idB a.data.toList b.data.toList true = adB b.data.toList) := Lib.hid (by unfold idB; rw [he]; simp)
      clear he
      go_enter Tryd.func51, Tryd.ntmps51
      go_wp2_with fail
      refine (areDigits_any b w).mono ?_
      rintro e w1 ⟨rfl, hb⟩
      go_wp2_with fail
      go_ret
      exact ⟨by rw [HI.out]; rfl, hb⟩
end Go.Proofs.YtfocokjihbenmaaDoor.Nu
