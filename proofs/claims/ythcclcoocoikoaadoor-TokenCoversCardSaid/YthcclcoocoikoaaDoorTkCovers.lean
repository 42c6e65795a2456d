/-
  The law TokenCovers, for every text.
-/
import Derived.Test.YthcclcoocoikoaaDoorTkText
namespace Go.Proofs.YthcclcoocoikoaaDoor.Tk
open Go.RowKit

theorem take_more {s : List UInt8} {a t : Nat} (h : a ≤ t) : s.take a ++ (s.drop a).take (t - a) = s.take t := by
  rw [← List.take_add, show a + (t - a) = t from by omega]
theorem str_all (s : ByteArray) : (⟨(s.data.toList.take s.size).toArray⟩ : ByteArray) = s := by
  have : s.data.toList.take s.size = s.data.toList := List.take_of_length_le (Nat.le_refl _)
  rw [this]
theorem str_app (a b : List UInt8) : (⟨a.toArray⟩ : ByteArray) ++ ⟨b.toArray⟩ = ⟨(a ++ b).toArray⟩ := by
  apply ByteArray.ext; apply Array.ext'; rw [ByteArray.data_append, Array.toList_append]
theorem textOf_nat {s : List UInt8} {a t : Nat} (h : a ≤ t) (ht : t ≤ s.length) : textOf s a t = (s.drop a).take (t - a) := by
  rw [textOf_good (by omega)]; rfl

theorem chain_range {n : Nat} : ∀ {a : Nat} {l : List Tok}, Chain n a l → ∀ x ∈ l, a ≤ x.2.1 ∧ x.2.1 < x.2.2 ∧ x.2.2 ≤ n
  | _, [], _, _, hx => by cases hx
  | a, (k, f, t) :: r, h, x, hx => by
    obtain ⟨h1, h2, h3, _, _, h6⟩ := h
    rcases List.mem_cons.1 hx with rfl | hx
    · exact ⟨by simp only; omega, by simp only; omega, h3⟩
    · have := chain_range h6 x hx
      exact ⟨by omega, this.2⟩
/-- The tokens of a text lie within it, and none is empty. -/
theorem scan_range (s : List UInt8) (m text i : Nat) (h1 : s.length - i ≤ m) (h2 : text ≤ i) (h3 : i ≤ s.length) : ∀ x ∈ scanL s text i, x.2.1 < x.2.2 ∧ x.2.2 ≤ s.length :=
  fun x hx => (chain_range (scan_chain s m text i h1 h2 h3) x hx).2

theorem covers_long (s : ByteArray) (w : World) (ht : Tb w) (h : 1500 < s.size) :
    Calls Tryd.prog 4 #[.string s] w fun e w' => e = .returned (.bool true) ∧ Below w.heap.size w w' := by
  have h1 : (1500 : Int) < (s.size : Int) := by omega
  go_enter Tryd.func4, Tryd.ntmps4
  go_wp2_with fail
  refine (known_any _ ht).mono ?_
  rintro e w1 ⟨rfl, hb⟩
  go_wp2
  go_ret
  exact ⟨rfl, hb⟩

set_option maxHeartbeats 2000000 in
theorem covers_short (s : ByteArray) (w : World) (ht : Tb w) (h : s.size ≤ 1500) :
    Calls Tryd.prog 4 #[.string s] w fun e w' => e = .returned (.bool true) ∧ Below w.heap.size w w' := by
  have h1 : ¬ (1500 : Int) < (s.size : Int) := by omega
  have hch := scan_chain s.data.toList _ 0 0 (Nat.le_refl _) (Nat.le_refl _) (Nat.zero_le _)
  have hsl : Hid (s.data.toList.length = s.size) := Lib.hid rfl
  go_enter Tryd.func4, Tryd.ntmps4
  go_wp2_with fail
  refine (Scan_any _ _ ht (by omega)).mono ?_
  rintro e w1 ⟨v1, rfl, ho1, hb1⟩
  generalize scanL s.data.toList 0 0 = T at hch ho1
  obtain ⟨A, c, rfl, l1, m1, r1⟩ := ho1.rd.ex
  unfold maxLen at m1
  have R1 := Lib.hid r1; have HC := Lib.hid hch; have HB := Lib.hid hb1
  have ht1 : Hid (Tb w1) := Lib.hid (ht.below hb1)
  clear r1 hch hb1 ho1
  go_wp2
  go_loopw [5, 6, 7] (fun at_ al i wr => ∃ (k a : Nat), i = .int .i64 k ∧ at_ = .int .i64 a ∧ al = .string ⟨(s.data.toList.take a).toArray⟩ ∧ k ≤ T.length ∧ a ≤ s.size ∧ Hid (Chain s.data.toList.length a (T.drop k)) ∧ Hid (Below w1.heap.size w1 wr)) (fun _ _ i _ => T.length - (intOf i).toNat)
  case atStart => exact ⟨0, 0, rfl, rfl, rfl, Nat.zero_le _, Nat.zero_le _, by simpa using HC, Lib.hid (Below.refl _ _)⟩
  case round =>
    obtain ⟨k, a, rfl, rfl, rfl, hk, ha, hc, hb⟩ := hrel
    by_cases hlt : k < T.length
    · have hki : (k : Int) < (T.length : Int) := by omega
      obtain ⟨g, rfl, hg, q⟩ := R1.out (by omega)
      obtain ⟨x1, x2, x3⟩ := q k T[k] (List.getElem?_eq_getElem hlt)
      clear q
      have hcc := hc.out
      rw [List.drop_eq_getElem_cons hlt] at hcc
      obtain ⟨kd, f, t, hx⟩ : ∃ kd f t, T[k] = (kd, f, t) := ⟨_, _, _, rfl⟩
      rw [hx] at x1 x2 x3 hcc
      obtain ⟨rfl, c1, c2, c3, c4, c5⟩ := hcc
      rw [hsl.out] at c2
      clear hx
      simp only at x1 x2 x3
      rw [← hb.out.cell hg] at x1 x2 x3
      have hz := hb.out.size
      have C5 := Lib.hid c5; clear c5
      have n1 : ¬ (t : Int) ≤ (f : Int) := by omega
      have n1' : ¬ t ≤ f := by omega
      have n2 : ¬ (s.size : Int) < (t : Int) := by omega
      have n2' : ¬ s.size < t := by omega
      have n3 : ¬ (kd : Int) < 1 := by omega
      have n3' : ¬ kd < 1 := by omega
      have n4 : ¬ (12 : Int) < (kd : Int) := by omega
      have n4' : ¬ 12 < kd := by omega
      have HT : Hid (textOf s.data.toList f t = (s.data.toList.drop f).take (t - f)) := Lib.hid (textOf_nat (by omega) (by rw [hsl.out]; omega))
      have HA : Hid (s.data.toList.take f ++ (s.data.toList.drop f).take (t - f) = s.data.toList.take t) := Lib.hid (take_more (by omega))
      go_wp2_with fail
      refine (Text_any s _ _ _ _).mono ?_
      rintro e w2 ⟨rfl, hb2⟩
      rw [HT.out]
      go_wp2
      go_roundw
      case rel => exact ⟨k + 1, t, by go_num, rfl, by rw [str_app, HA.out], by omega, by omega, C5, Lib.hid (hb.out.trans (hb2.mono hb.out.size))⟩
      case measure => simp [intOf]; omega
    · have hcc := hc.out
      rw [List.drop_of_length_le (by omega), hsl.out] at hcc
      obtain rfl : a = s.size := hcc
      have HS : Hid ((⟨(s.data.toList.take s.size).toArray⟩ : ByteArray) = s) := Lib.hid (str_all s)
      rw [HS.out]
      go_wp2_with fail
      refine (known_any _ (ht1.out.below hb.out)).mono ?_
      rintro e w2 ⟨rfl, hb2⟩
      go_wp2
      go_ret
      exact ⟨rfl, HB.out.trans ((hb.out.mono HB.out.size).trans (hb2.mono (Nat.le_trans HB.out.size hb.out.size)))⟩
theorem covers_any (s : ByteArray) (w : World) (_hs : s.size ≤ maxLen) (ht : Tb w) :
    Calls Tryd.prog 4 #[.string s] w fun e w' => e = .returned (.bool true) ∧ Below w.heap.size w w' := by
  by_cases h : 1500 < s.size
  · exact covers_long s w ht h
  · exact covers_short s w ht (by omega)
end Go.Proofs.YthcclcoocoikoaaDoor.Tk
