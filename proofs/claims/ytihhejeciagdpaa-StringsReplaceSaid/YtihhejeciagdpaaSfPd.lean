/-
  Plain Lean for package strfunc: padding, texts of bytes below 128, parts joined again.
-/
import Derived.Test.YtihhejeciagdpaaSfRep
import Derived.Lib.DecodeN
namespace Go.Proofs.Ytihhejeciagdpaa.Sf

theorem ag_lt {s : ByteArray} {k : Nat} (h : k < rc s) : ag s k < ag s (k + 1) := by
  have h' : k < (sts s).length := h
  by_cases h1 : k + 1 < (sts s).length
  · rw [ag_get h', ag_get h1]
    exact List.pairwise_iff_getElem.1 (sfrom_sorted s 0) k (k + 1) h' h1 (by omega)
  · rw [ag_end (i := k + 1) (by unfold rc; omega), ag_get h']
    exact (mem_sfrom s 0 _ (List.getElem_mem h')).2
/-- The k-th rune. -/
def rn (s : ByteArray) (k : Nat) : ByteArray := s.extract (ag s k) (ag s (k + 1))
theorem rn_pos {s : ByteArray} {k : Nat} (h : k < rc s) : 1 ≤ (rn s k).data.toList.length := by
  unfold rn
  rw [ext_len (ag_le s _)]
  have := ag_lt h
  omega
theorem sl_succ (s : ByteArray) (n : Nat) : (sl s 0 n).data.toList ++ (rn s n).data.toList = (sl s 0 (n + 1)).data.toList := by
  unfold sl rn
  rw [Nat.zero_add, Nat.zero_add, ag_zero, ext_app (Nat.zero_le _) (ag_mono s (Nat.le_succ n))]
theorem ext_all (s : ByteArray) : (s.extract 0 s.size).data.toList = s.data.toList := by rw [ext_tail]; rfl
theorem sl_all (s : ByteArray) : (sl s 0 (rc s)).data.toList = s.data.toList := by
  unfold sl
  rw [ag_zero, Nat.zero_add, ag_end (Nat.le_refl _), ext_all]
theorem sl_none (s : ByteArray) : (sl s 0 0).data.toList = [] := by
  unfold sl
  rw [Nat.zero_add, ag_zero, ext_list]; simp
def rep (a : Nat) (l : List UInt8) : List UInt8 := (List.replicate a l).flatten
theorem rep_succ (a : Nat) (l : List UInt8) : rep (a + 1) l = rep a l ++ l := by
  unfold rep; rw [List.replicate_succ', List.flatten_append]; simp
theorem rep_len (a : Nat) (l : List UInt8) : (rep a l).length = a * l.length := by
  induction a with
  | zero => simp [rep]
  | succ a ih => rw [rep_succ, List.length_append, ih, Nat.succ_mul]
/-- The first n runes of a text that is repeated. -/
def pdl (s : ByteArray) (n : Nat) : List UInt8 := rep (n / rc s) s.data.toList ++ (sl s 0 (n % rc s)).data.toList
theorem pdl_zero (s : ByteArray) : pdl s 0 = [] := by
  unfold pdl
  rw [Nat.zero_div, Nat.zero_mod, sl_none]; rfl
theorem pdl_succ {s : ByteArray} (h : 0 < rc s) (n : Nat) : pdl s (n + 1) = pdl s n ++ (rn s (n % rc s)).data.toList := by
  unfold pdl
  have hm := Nat.mod_lt n h
  have hd := Nat.div_add_mod n (rc s)
  by_cases h1 : n % rc s + 1 = rc s
  · have e : n + 1 = rc s * (n / rc s + 1) := by rw [Nat.mul_add, Nat.mul_one]; omega
    have e1 : (n + 1) / rc s = n / rc s + 1 := by rw [e]; exact Nat.mul_div_cancel_left _ h
    have e2 : (n + 1) % rc s = 0 := by rw [e]; exact Nat.mul_mod_right _ _
    rw [e1, e2, sl_none, List.append_nil, rep_succ, List.append_assoc, sl_succ, h1, sl_all]
  · have e : n + 1 = (n % rc s + 1) + rc s * (n / rc s) := by omega
    have e1 : (n + 1) / rc s = n / rc s := by
      rw [e, Nat.add_mul_div_left _ _ h, Nat.div_eq_of_lt (by omega)]
      omega
    have e2 : (n + 1) % rc s = n % rc s + 1 := by
      rw [e, Nat.add_mul_mod_self_left, Nat.mod_eq_of_lt (by omega)]
    rw [e1, e2, List.append_assoc, sl_succ]
theorem pdl_mono {s : ByteArray} (h : 0 < rc s) {n m : Nat} (hnm : n ≤ m) : (pdl s n).length ≤ (pdl s m).length := by
  induction m with
  | zero => rw [Nat.le_zero.1 hnm]; exact Nat.le_refl _
  | succ m ih =>
    by_cases h1 : n = m + 1
    · rw [h1]; exact Nat.le_refl _
    · rw [pdl_succ h, List.length_append]; have := ih (by omega); omega
theorem pdl_ge {s : ByteArray} (h : 0 < rc s) (n : Nat) : n ≤ (pdl s n).length := by
  induction n with
  | zero => exact Nat.zero_le _
  | succ n ih =>
    rw [pdl_succ h, List.length_append]
    have := rn_pos (Nat.mod_lt n h)
    omega
theorem pdl_len (s : ByteArray) (n : Nat) : (pdl s n).length = n / rc s * s.size + (sl s 0 (n % rc s)).size := by
  unfold pdl
  rw [List.length_append, rep_len, size_list, size_list]
theorem rc_pos {s : ByteArray} (h : s.size ≠ 0) : 0 < rc s := by
  unfold rc sts
  rw [sfrom_step (by omega)]; simp
/-- How many runes are lacking. -/
def lack (s f : ByteArray) (n : Int) : Nat := if f.size = 0 then 0 else (max n (rc s) - rc s).toNat
/-- What is put before or behind s. -/
def pads (s f : ByteArray) (n : Int) : Option ByteArray := if 32768 < s.size + (pdl f (lack s f n)).length then none else some ⟨(pdl f (lack s f n)).toArray⟩

/-! ### Bytes below 128 -/
def Pl (s : ByteArray) : Prop := ∀ (i : Nat) (h : i < s.size), s[i] < 128
theorem pl_wd {s : ByteArray} (h : Pl s) {p : Nat} (hp : p < s.size) : wd s p = 1 := by
  unfold wd
  have h1 := h p hp
  have h2 : (s.get! p).toNat < 128 := by
    have e : s.get! p = s[p] := by
      rw [← Lib.getD_get!', List.getD, List.getElem?_eq_getElem (by rw [size_list]; exact hp)]; rfl
    rw [e]; exact h1
  rw [Lib.decode_at, show ∀ n a b c d, a < 128 → Lib.decodeN n a b c d = (a, 1) from fun n a b c d h => by simp [Lib.decodeN, h]]
  exact h2
theorem pl_sfrom {s : ByteArray} (h : Pl s) (p : Nat) : sfrom s p = List.range' p (s.size - p) := by
  refine sfrom_ind s (fun p => sfrom s p = List.range' p (s.size - p)) (fun p hp => ?_) (fun p hp ih => ?_) p
  · rw [sfrom_end hp, show s.size - p = 0 from by omega]; rfl
  · rw [pl_wd h hp] at ih
    rw [sfrom_step hp, pl_wd h hp, ih, show s.size - p = (s.size - (p + 1)) + 1 from by omega, List.range'_succ]
theorem pl_sts {s : ByteArray} (h : Pl s) : sts s = List.range s.size := by unfold sts; rw [pl_sfrom h, List.range_eq_range']; rfl
theorem pl_rc {s : ByteArray} (h : Pl s) : rc s = s.size := by unfold rc; rw [pl_sts h, List.length_range]
theorem pl_ag {s : ByteArray} (h : Pl s) (i : Nat) : ag s i = min i s.size := by
  by_cases hi : i < s.size
  · have : i < (sts s).length := by rw [pl_sts h, List.length_range]; exact hi
    rw [ag_get this, Nat.min_eq_left (Nat.le_of_lt hi)]
    simp [pl_sts h]
  · rw [ag_end (by rw [pl_rc h]; omega), Nat.min_eq_right (by omega)]
theorem pl_iff {s : ByteArray} : Pl s ↔ ∀ b, b ∈ s.data.toList → b < 128 := by
  constructor
  · intro h b hb
    obtain ⟨i, hi, rfl⟩ := List.mem_iff_getElem.1 hb
    have hi' : i < s.size := by rw [← size_list]; exact hi
    exact h i hi'
  · intro h i hi
    apply h
    have hi' : i < s.data.toList.length := by rw [size_list]; exact hi
    exact List.mem_iff_getElem.2 ⟨i, hi', rfl⟩
theorem pl_of {a b : ByteArray} (ha : Pl a) (h : ∀ x, x ∈ b.data.toList → x ∈ a.data.toList) : Pl b := pl_iff.2 (fun x hx => pl_iff.1 ha x (h x hx))
theorem pl_app {a b : ByteArray} (ha : Pl a) (hb : Pl b) : Pl (a ++ b) := pl_iff.2 (fun x hx => by
  rw [ByteArray.data_append, Array.toList_append, List.mem_append] at hx
  exact hx.elim (pl_iff.1 ha x) (pl_iff.1 hb x))
theorem pl_pdl {f : ByteArray} (h : Pl f) (n : Nat) : ∀ b, b ∈ pdl f n → b < 128 := by
  intro b hb
  unfold pdl rep at hb
  rcases List.mem_append.1 hb with hb | hb
  · obtain ⟨l, hl, hb⟩ := List.mem_flatten.1 hb
    rw [(List.mem_replicate.1 hl).2] at hb
    exact pl_iff.1 h b hb
  · unfold sl at hb
    rw [ext_list] at hb
    exact pl_iff.1 h b (List.mem_of_mem_drop (List.mem_of_mem_take hb))
theorem pl_pdl_len {f : ByteArray} (h : Pl f) (hf : f.size ≠ 0) (n : Nat) : (pdl f n).length = n := by
  rw [pdl_len, pl_rc h]
  unfold sl
  rw [ByteArray.size_extract, pl_ag h, pl_ag h]
  have := Nat.mod_lt n (Nat.pos_of_ne_zero hf)
  have := Nat.div_add_mod n f.size
  rw [Nat.mul_comm] at this
  omega

/-! ### Found within -/
theorem app_list (a b : ByteArray) : (a ++ b).data.toList = a.data.toList ++ b.data.toList := by rw [ByteArray.data_append, Array.toList_append]
theorem within (a b c : ByteArray) : hasP (a ++ b ++ c) b a.size = true := by
  rw [hasP_iff (by simp [ByteArray.size_append]; omega)]
  refine ⟨by simp [ByteArray.size_append], bs_inj ?_⟩
  rw [ext_list, app_list, app_list, Nat.add_sub_cancel_left, ← size_list a, ← size_list b, List.append_assoc, List.drop_left, List.take_left]
theorem oc_some {s t : ByteArray} (ht : t.size ≠ 0) : ∀ {l : List Nat} {e a : Nat}, a ∈ l → hasP s t a = true → e ≤ a → l.Pairwise (· < ·) → oc s t l e ≠ []
  | b :: l, e, a, hm, hp, he, hs => by
    by_cases h : (t.size ≠ 0 ∧ e ≤ b) ∧ hasP s t b = true
    · rw [oc_yes h]; exact fun h => by cases h
    · rw [oc_no h]
      rcases List.mem_cons.1 hm with rfl | hm
      · exact absurd ⟨⟨ht, he⟩, hp⟩ h
      · exact oc_some ht hm hp he (List.pairwise_cons.1 hs).2
theorem occ_pos {s t : ByteArray} (ht : t.size ≠ 0) {a : Nat} (ha : a ∈ sts s) (hp : hasP s t a = true) : (occ s t).length ≠ 0 := by
  intro h
  exact oc_some ht ha hp (Nat.zero_le _) (sfrom_sorted s 0) (List.length_eq_zero_iff.1 h)
theorem occ_emp {s t : ByteArray} (ht : t.size = 0) : occ s t = [] := oc_none ht _ _

/-! ### Parts joined again -/
theorem part_pos {s t : ByteArray} {k : Nat} (h : k ≤ (occ s t).length) : part s t (k : Int) = s.extract (pb t (occ s t) 0 k) (pe s (occ s t) k) := by
  unfold part
  simp only [show ¬ ((k : Int) < 0) from by omega, if_false, Int.toNat_natCast]
  rw [List.getD, show (parts s t)[k]? = _ from dv_get s t (occ s t) 0 k h]; rfl
theorem part_neg {s t : ByteArray} {k : Nat} (h : k ≤ (occ s t).length) : part s t (-1 - (k : Int)) = part s t (((occ s t).length - k : Nat) : Int) := by
  unfold part
  have h1 : (-1 - (k : Int)) < 0 := by omega
  have h2 : ¬ ((((occ s t).length - k : Nat) : Int) < 0) := by omega
  simp only [h1, h2, if_true, if_false]
  rw [show -1 - (k : Int) + (((occ s t).length + 1 : Nat) : Int) = (((occ s t).length - k : Nat) : Int) from by omega, if_neg h2]
theorem part_out {s t : ByteArray} {k : Nat} (h : (occ s t).length < k) : part s t (k : Int) = ByteArray.empty := by
  unfold part
  simp only [show ¬ ((k : Int) < 0) from by omega, if_false, Int.toNat_natCast]
  rw [List.getD, List.getElem?_eq_none (by rw [parts_len]; omega)]; rfl
/-- The text up to the end of part k. -/
def upto (s t : ByteArray) (k : Nat) : ByteArray := s.extract 0 (pe s (occ s t) k)
/-- The text from the beginning of part k on. -/
def onw (s t : ByteArray) (k : Nat) : ByteArray := s.extract (pb t (occ s t) 0 k) s.size
theorem upto_zero (s t : ByteArray) : part s t 0 = upto s t 0 := by
  have := part_pos (s := s) (t := t) (k := 0) (Nat.zero_le _)
  exact this
theorem upto_succ {s t : ByteArray} {k : Nat} (h : k < (occ s t).length) : upto s t k ++ t ++ part s t ((k + 1 : Nat) : Int) = upto s t (k + 1) := by
  have h1 := (occ_ok s t).next h
  have h2 := (occ_ok s t).pb_le (k := k + 1) (by omega)
  rw [part_pos (by omega)]
  apply bs_inj
  rw [app_list, app_list]
  unfold upto
  have h3 : t.data.toList = (s.extract (pe s (occ s t) k) (pe s (occ s t) k + t.size)).data.toList := by rw [h1.2.2]
  rw [h3, h1.1, ext_app (Nat.zero_le _) (by omega), ext_app (Nat.zero_le _) (by omega)]
theorem upto_end (s t : ByteArray) : upto s t (occ s t).length = s := by
  unfold upto pe
  rw [getD_out (Nat.le_refl _)]
  exact bs_inj (ext_all s)
theorem onw_end (s t : ByteArray) : part s t (-1) = onw s t (occ s t).length := by
  have := part_neg (s := s) (t := t) (k := 0) (Nat.zero_le _)
  rw [show (-1 - ((0 : Nat) : Int)) = -1 from rfl, Nat.sub_zero, part_pos (Nat.le_refl _)] at this
  rw [this]
  unfold onw pe
  rw [getD_out (Nat.le_refl _)]
theorem onw_pred {s t : ByteArray} {k : Nat} (h : k < (occ s t).length) : part s t (-1 - ((k + 1 : Nat) : Int)) ++ t ++ onw s t ((occ s t).length - k) = onw s t ((occ s t).length - (k + 1)) := by
  obtain ⟨j, hj⟩ : ∃ j, (occ s t).length - (k + 1) = j := ⟨_, rfl⟩
  have hk : (occ s t).length - k = j + 1 := by omega
  have h1 := (occ_ok s t).next (k := j) (by omega)
  have h2 := (occ_ok s t).pb_le (k := j) (by omega)
  have h3 := (occ_ok s t).pb_le (k := j + 1) (by omega)
  rw [part_neg (by omega), hj, hk, part_pos (by omega)]
  apply bs_inj
  rw [app_list, app_list]
  unfold onw
  have h4 : t.data.toList = (s.extract (pe s (occ s t) j) (pe s (occ s t) j + t.size)).data.toList := by rw [h1.2.2]
  rw [h4, h1.1, ext_app h2.1 (by omega), ext_app (by omega) (by omega)]
theorem onw_zero (s t : ByteArray) : onw s t 0 = s := by
  unfold onw pb
  exact bs_inj (ext_all s)
end Go.Proofs.Ytihhejeciagdpaa.Sf
