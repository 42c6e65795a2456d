/-
  Plain Lean for package strfunc: replacements, as the program writes them and as the reference does.
-/
import Derived.Test.YtihhejeciagdpaaSfOcc
namespace Go.Proofs.Ytihhejeciagdpaa.Sf

/-- s from byte f on, with u in the place of the occurrences l. -/
def rl (s t u : ByteArray) : List Nat → Nat → List UInt8
  | [], f => (s.extract f s.size).data.toList
  | a :: l, f => (s.extract f a).data.toList ++ (u.data.toList ++ rl s t u l (a + t.size))
theorem ext_len {s : ByteArray} {a b : Nat} (h : b ≤ s.size) : (s.extract a b).data.toList.length = b - a := by
  rw [size_list, ByteArray.size_extract, Nat.min_eq_left h]
theorem rl_len {s t u : ByteArray} : ∀ {l : List Nat} {f : Nat}, Ok s t l f → ((rl s t u l f).length : Int) = (s.size : Int) - f + (l.length : Int) * ((u.size : Int) - t.size)
  | [], f, h => by
    have h' : f ≤ s.size := h
    rw [rl, ext_len (Nat.le_refl _), List.length_nil]; omega
  | a :: l, f, h => by
    have ih := rl_len (u := u) h.2.2.2.2
    have h1 := h.1
    have h2 := h.2.2.1
    rw [rl, List.length_append, List.length_append, ext_len (by omega), size_list, List.length_cons, Int.natCast_add l.length, Int.add_mul]
    omega
theorem Ok.take {s t : ByteArray} : ∀ {l : List Nat} {f : Nat} (_ : Ok s t l f) (n : Nat), Ok s t (l.take n) f
  | [], f, h, n => by rw [List.take_nil]; exact h
  | a :: l, f, h, 0 => h.le
  | a :: l, f, h, n + 1 => ⟨h.1, h.2.1, h.2.2.1, h.2.2.2.1, Ok.take h.2.2.2.2 n⟩
theorem Ok.drop {s t : ByteArray} {a : Nat} {l : List Nat} {f : Nat} (h : Ok s t (a :: l) f) : Ok s t l (a + t.size) := h.2.2.2.2
theorem ext_app {s : ByteArray} {a b c : Nat} (h : a ≤ b) (h2 : b ≤ c) : (s.extract a b).data.toList ++ (s.extract b c).data.toList = (s.extract a c).data.toList := by
  rw [ext_list, ext_list, ext_list, show c - a = (b - a) + (c - b) from by omega, List.take_add]
  congr 2
  rw [List.drop_drop]; congr 1; omega
/-- What stands between an occurrence and its end. -/
theorem Ok.mid {s t : ByteArray} {a : Nat} {l : List Nat} {f : Nat} (h : Ok s t (a :: l) f) : (s.extract f a).data.toList ++ (t.data.toList ++ (s.extract (a + t.size) s.size).data.toList) = (s.extract f s.size).data.toList := by
  have h1 := h.1
  have h2 := h.2.2.1
  have h3 : t.data.toList = (s.extract a (a + t.size)).data.toList := by rw [h.2.2.2.1]
  rw [h3, ext_app (by omega) h2, ext_app h1 (by omega)]
/-- Replaced by itself. -/
theorem rl_same {s t : ByteArray} : ∀ {l : List Nat} {f : Nat}, Ok s t l f → rl s t t l f = (s.extract f s.size).data.toList
  | [], f, _ => rfl
  | a :: l, f, h => by rw [rl, rl_same h.drop, h.mid]

/-! ### As the program writes it -/
def sepw (t u : ByteArray) (n i : Nat) : List UInt8 := if n < i then t.data.toList else if 0 < i then u.data.toList else []
def wr (t u : ByteArray) (n : Nat) (l : List (ByteArray × Nat)) : List UInt8 := l.flatMap (fun x => sepw t u n x.2 ++ x.1.data.toList)
theorem wr_snoc (t u : ByteArray) (n : Nat) (l : List (ByteArray × Nat)) (x : ByteArray × Nat) : wr t u n (l ++ [x]) = wr t u n l ++ (sepw t u n x.2 ++ x.1.data.toList) := by simp [wr]
theorem wr_cons (t u : ByteArray) (n : Nat) (b : ByteArray) (l : List ByteArray) (i : Nat) : wr t u n ((b :: l).zipIdx i) = sepw t u n i ++ (b.data.toList ++ wr t u n (l.zipIdx (i + 1))) := by simp [wr]
theorem wr_nil (t u : ByteArray) (n : Nat) (i : Nat) : wr t u n (([] : List ByteArray).zipIdx i) = [] := rfl
theorem wr_tail {s t u : ByteArray} {n : Nat} : ∀ {l : List Nat} {f i : Nat}, Ok s t l f → n < i → wr t u n ((dv s t l f).zipIdx i) = t.data.toList ++ (s.extract f s.size).data.toList
  | [], f, i, h, hi => by rw [dv, wr_cons, wr_nil, List.append_nil, sepw, if_pos hi]
  | a :: l, f, i, h, hi => by rw [dv, wr_cons, wr_tail h.drop (by omega), sepw, if_pos hi, h.mid]
theorem wr_mid {s t u : ByteArray} {n : Nat} : ∀ {l : List Nat} {f i : Nat}, Ok s t l f → i ≤ n → wr t u n ((dv s t l f).zipIdx i) = sepw t u n i ++ rl s t u (l.take (n - i)) f
  | [], f, i, h, hi => by rw [dv, wr_cons, wr_nil, List.append_nil, List.take_nil]; rfl
  | a :: l, f, i, h, hi => by
    rw [dv, wr_cons]
    by_cases h1 : i = n
    · subst h1
      rw [wr_tail h.drop (by omega), Nat.sub_self, List.take_zero, h.mid]; rfl
    · rw [wr_mid h.drop (by omega), show n - i = (n - (i + 1)) + 1 from by omega, List.take_succ_cons, rl]
      congr 3
      rw [sepw, if_neg (by omega), if_pos (by omega)]
theorem wr_all (s t u : ByteArray) (n : Nat) : wr t u n ((parts s t).zipIdx) = rl s t u ((occ s t).take n) 0 := by
  have := wr_mid (u := u) (n := n) (occ_ok s t) (i := 0) (Nat.zero_le _)
  rw [Nat.sub_zero] at this
  exact this
theorem rl_min (s t u : ByteArray) (n : Nat) : rl s t u ((occ s t).take (min (occ s t).length n)) 0 = rl s t u ((occ s t).take n) 0 := by
  rcases Nat.le_total n (occ s t).length with h | h
  · rw [Nat.min_eq_right h]
  · rw [Nat.min_eq_left h, List.take_of_length_le h, List.take_length]
/-- How many are replaced. -/
def tm (s t : ByteArray) (m : Int) : Nat := if m < 0 then (occ s t).length else min (occ s t).length m.toNat
def rpb (s t u : ByteArray) (m : Int) : ByteArray := ⟨(rl s t u ((occ s t).take (tm s t m)) 0).toArray⟩
theorem tm_le (s t : ByteArray) (m : Int) : tm s t m ≤ (occ s t).length := by unfold tm; split <;> omega
theorem rpb_size (s t u : ByteArray) (m : Int) : ((rpb s t u m).size : Int) = (s.size : Int) + (tm s t m : Int) * ((u.size : Int) - t.size) := by
  have h := rl_len (u := u) ((occ_ok s t).take (tm s t m))
  rw [List.length_take, Nat.min_eq_left (tm_le s t m)] at h
  rw [← size_list]
  show ((rl s t u ((occ s t).take (tm s t m)) 0).length : Int) = _
  rw [h]; omega
theorem rpb_same (s t : ByteArray) (m : Int) : rpb s t t m = s := by
  apply bs_inj
  show rl s t t _ 0 = _
  rw [rl_same ((occ_ok s t).take _), ext_tail]; rfl
theorem rpb_none (s t u : ByteArray) : rpb s t u 0 = s := by
  apply bs_inj
  show rl s t u ((occ s t).take (tm s t 0)) 0 = _
  rw [show tm s t 0 = 0 from by unfold tm; simp, List.take_zero, rl, ext_tail]; rfl
end Go.Proofs.Ytihhejeciagdpaa.Sf
