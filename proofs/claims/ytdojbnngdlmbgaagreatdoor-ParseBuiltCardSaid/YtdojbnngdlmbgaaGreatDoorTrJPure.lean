/-
  Joined trees as plain data: successive texts are one, no text is empty.
-/
import Derived.Test.YtdojbnngdlmbgaaGreatDoorTrPure
namespace Go.Proofs.YtdojbnngdlmbgaaGreatDoor.Tr

/-- A text node. -/
def txN (s : ByteArray) : Nd := .mk 1 0 s [] []
/-- A text in front of a joined list. -/
def addT (s : ByteArray) (l : List Nd) : List Nd :=
  if s.size = 0 then l else match l with
    | [] => [txN s]
    | n :: r => if n.kind = 1 then txN (s ++ n.text) :: r else txN s :: n :: r
mutual
def join : List Nd → List Nd
  | [] => []
  | n :: r => joinN n (join r)
def joinN : Nd → List Nd → List Nd
  | .mk k t s kids args, l => if k = 1 then addT s l else .mk k t s (join kids) (joinA args) :: l
def joinA : List Ar → List Ar
  | [] => []
  | a :: r => joinG a :: joinA r
def joinG : Ar → Ar
  | .mk b n v => .mk b (join n) (join v)
end
theorem join_nil : join [] = [] := by simp [join]
theorem join_cons (n : Nd) (r : List Nd) : join (n :: r) = joinN n (join r) := by simp [join]
theorem joinA_nil : joinA [] = [] := by simp [joinA]
theorem joinA_cons (n : Ar) (r : List Ar) : joinA (n :: r) = joinG n :: joinA r := by simp [joinA]
theorem srcN_tx (s : ByteArray) : srcN (txN s) = s.data.toList := by simp [txN, srcN, ntext]
theorem cat2 (a b : ByteArray) : (a ++ b).data.toList = a.data.toList ++ b.data.toList := by rw [ByteArray.data_append, Array.toList_append]
theorem empty_list {s : ByteArray} (h : s.size = 0) : s.data.toList = [] := List.length_eq_zero_iff.1 h
theorem src_addT (s : ByteArray) (l : List Nd) : src (addT s l) = s.data.toList ++ src l := by
  unfold addT
  split
  · rename_i h; rw [empty_list h, List.nil_append]
  · split
    · rw [src_cons, srcN_tx]
    · rename_i n r
      split
      · rename_i h
        rw [src_cons, src_cons, srcN_tx, cat2, List.append_assoc, srcN_eq, ntext, if_pos h]
      · rw [src_cons, srcN_tx]
mutual
theorem src_join : ∀ l : List Nd, src (join l) = src l
  | [] => by rw [join_nil]
  | n :: r => by rw [join_cons, src_joinN n, src_join r, src_cons]
theorem src_joinN : ∀ (n : Nd) (l : List Nd), src (joinN n l) = srcN n ++ src l
  | .mk k t s kids args, l => by
    rw [joinN]
    split
    · rename_i h; rw [src_addT, srcN, ntext, if_pos h]
    · rw [src_cons, srcN, srcN, src_join kids, srcA_join args]
theorem srcA_join : ∀ l : List Ar, srcA (joinA l) = srcA l
  | [] => by rw [joinA_nil]
  | a :: r => by rw [joinA_cons, srcA_cons, srcA_cons, srcG_join a, srcA_join r]
theorem srcG_join : ∀ a : Ar, srcG (joinG a) = srcG a
  | .mk b n v => by rw [joinG, srcG, srcG, src_join n, src_join v]
end
/-- What a joined list is: no text is empty, none is behind another. -/
def headT : List Nd → Bool
  | [] => false
  | n :: _ => n.kind == 1
mutual
def Jn : List Nd → Prop
  | [] => True
  | n :: r => JnN n ∧ (n.kind = 1 → headT r = false) ∧ Jn r
def JnN : Nd → Prop
  | .mk k t s kids args => (k = 1 → s.size ≠ 0 ∧ t = 0 ∧ kids = [] ∧ args = []) ∧ Jn kids ∧ JnA args
def JnA : List Ar → Prop
  | [] => True
  | a :: r => JnG a ∧ JnA r
def JnG : Ar → Prop
  | .mk _ n v => Jn n ∧ Jn v
end
theorem Jn_nil : Jn [] := by simp [Jn]
theorem Jn_cons {n : Nd} {r : List Nd} : Jn (n :: r) ↔ JnN n ∧ (n.kind = 1 → headT r = false) ∧ Jn r := by simp [Jn]
theorem JnN_tx {s : ByteArray} (h : s.size ≠ 0) : JnN (txN s) := by simp [txN, JnN, Jn, JnA, h]
theorem Jn_addT {s : ByteArray} {l : List Nd} (h : Jn l) : Jn (addT s l) := by
  unfold addT
  split
  · exact h
  · rename_i hs
    split
    · exact Jn_cons.2 ⟨JnN_tx hs, fun _ => rfl, Jn_nil⟩
    · rename_i n r
      obtain ⟨h1, h2, h3⟩ := Jn_cons.1 h
      split
      · rename_i hk
        refine Jn_cons.2 ⟨JnN_tx (by rw [ByteArray.size_append]; omega), fun _ => h2 hk, h3⟩
      · rename_i hk
        exact Jn_cons.2 ⟨JnN_tx hs, fun _ => by simpa [headT] using hk, h⟩
mutual
theorem Jn_join : ∀ l : List Nd, Jn (join l)
  | [] => by rw [join_nil]; exact Jn_nil
  | n :: r => by rw [join_cons]; exact Jn_joinN n (Jn_join r)
theorem Jn_joinN : ∀ (n : Nd) {l : List Nd}, Jn l → Jn (joinN n l)
  | .mk k t s kids args, l, h => by
    rw [joinN]
    split
    · exact Jn_addT h
    · rename_i hk
      refine Jn_cons.2 ⟨?_, fun e => absurd e hk, h⟩
      rw [JnN]
      exact ⟨fun e => absurd e hk, Jn_join kids, JnA_join args⟩
theorem JnA_join : ∀ l : List Ar, JnA (joinA l)
  | [] => by rw [joinA_nil]; simp [JnA]
  | a :: r => by rw [joinA_cons, JnA]; exact ⟨JnG_join a, JnA_join r⟩
theorem JnG_join : ∀ a : Ar, JnG (joinG a)
  | .mk b n v => by rw [joinG, JnG]; exact ⟨Jn_join n, Jn_join v⟩
end
theorem addT_joined {s : ByteArray} {l : List Nd} (hs : s.size ≠ 0) (h : headT l = false) : addT s l = txN s :: l := by
  unfold addT
  rw [if_neg hs]
  cases l with
  | nil => rfl
  | cons n r =>
    have : ¬ n.kind = 1 := by simpa [headT] using h
    simp [this]
mutual
theorem join_id : ∀ {l : List Nd}, Jn l → join l = l
  | [], _ => join_nil
  | n :: r, h => by
    obtain ⟨h1, h2, h3⟩ := Jn_cons.1 h
    rw [join_cons, join_id h3]
    exact joinN_id h1 h2
theorem joinN_id : ∀ {n : Nd} {l : List Nd}, JnN n → (n.kind = 1 → headT l = false) → joinN n l = n :: l
  | .mk k t s kids args, l, h1, h2 => by
    rw [JnN] at h1
    rw [joinN]
    split
    · rename_i hk
      obtain ⟨a, b, c, d⟩ := h1.1 hk
      rw [addT_joined a (h2 hk), txN, hk, b, c, d]
    · rw [join_id h1.2.1, joinA_id h1.2.2]
theorem joinA_id : ∀ {l : List Ar}, JnA l → joinA l = l
  | [], _ => joinA_nil
  | a :: r, h => by
    rw [JnA] at h
    rw [joinA_cons, joinG_id h.1, joinA_id h.2]
theorem joinG_id : ∀ {a : Ar}, JnG a → joinG a = a
  | .mk b n v, h => by
    rw [JnG] at h
    rw [joinG, join_id h.1, join_id h.2]
end
/-- Joining it again changes nothing. -/
theorem join_join (l : List Nd) : join (join l) = join l := join_id (Jn_join l)
/-! Joined from left to right: what is there, and a text that waits. -/
def flP (out : List Nd) (x : List UInt8) : List Nd := if x.isEmpty then out else out ++ [txN ⟨x.toArray⟩]
def jb (n : Nd) : Nd := .mk n.kind n.tag n.text (join n.kids) (joinA n.args)
def stJ (p : List Nd × List UInt8) (n : Nd) : List Nd × List UInt8 := if n.kind = 1 then (p.1, p.2 ++ n.text.data.toList) else (flP p.1 p.2 ++ [jb n], [])
def foJ (l : List Nd) : List Nd × List UInt8 := l.foldl stJ ([], [])
theorem ba_sizeJ {s : ByteArray} : s.size = s.data.toList.length := rfl
theorem addT_addT (s t : ByteArray) (l : List Nd) : addT s (addT t l) = addT (s ++ t) l := by
  unfold addT
  by_cases ht : t.size = 0
  · have e : s ++ t = s := by
      apply ByteArray.ext
      rw [ByteArray.data_append]
      have : t.data = #[] := by apply Array.ext'; exact empty_list ht
      rw [this]; simp
    rw [if_pos ht, e]
  · have hst : ¬ (s ++ t).size = 0 := by rw [ByteArray.size_append]; omega
    rw [if_neg ht, if_neg hst]
    by_cases hs : s.size = 0
    · rw [if_pos hs]
      have e : s ++ t = t := by
        apply ByteArray.ext
        rw [ByteArray.data_append]
        have : s.data = #[] := by apply Array.ext'; exact empty_list hs
        rw [this]; simp
      rw [e]
    · rw [if_neg hs]
      cases l with
      | nil => simp [txN, Nd.kind, Nd.text]
      | cons n r =>
        obtain ⟨k, tg, tx, kids, args⟩ := n
        by_cases hk : k = 1
        · subst hk; simp [txN, Nd.kind, Nd.text, ByteArray.append_assoc]
        · simp [hk, txN, Nd.kind, Nd.text]
theorem joinN_eq (n : Nd) (l : List Nd) : joinN n l = if n.kind = 1 then addT n.text l else jb n :: l := by
  cases n with | mk k t s kids args => rw [joinN]; rfl
theorem flP_addT (out : List Nd) (x : List UInt8) : flP out x = out ++ addT ⟨x.toArray⟩ [] := by
  unfold flP addT
  cases x with
  | nil => simp [ByteArray.size]
  | cons c x => simp [ByteArray.size]
theorem foldJ : ∀ (l : List Nd) (out : List Nd) (x : List UInt8), flP (l.foldl stJ (out, x)).1 (l.foldl stJ (out, x)).2 = out ++ addT ⟨x.toArray⟩ (join l)
  | [], out, x => by rw [join_nil]; exact flP_addT out x
  | n :: r, out, x => by
    rw [List.foldl_cons, join_cons, joinN_eq]
    by_cases hk : n.kind = 1
    · rw [if_pos hk]
      have e : stJ (out, x) n = (out, x ++ n.text.data.toList) := by simp [stJ, hk]
      rw [e, foldJ r, addT_addT]
      congr 2
    · rw [if_neg hk]
      have e : stJ (out, x) n = (flP out x ++ [jb n], []) := by simp [stJ, hk]
      rw [e, foldJ r, flP_addT]
      have h1 : addT ⟨([] : List UInt8).toArray⟩ (join r) = join r := by unfold addT; simp [ByteArray.size]
      have h2 : (jb n).kind ≠ 1 := hk
      rw [h1]
      unfold addT
      by_cases hx : (⟨x.toArray⟩ : ByteArray).size = 0
      · simp [hx]
      · simp [hx, h2]
theorem foJ_join (l : List Nd) : flP (foJ l).1 (foJ l).2 = join l := by
  have := foldJ l [] []
  unfold foJ
  rw [this]
  unfold addT
  simp [ByteArray.size]
theorem foJ_take {l : List Nd} {k : Nat} (h : k < l.length) : foJ (l.take (k + 1)) = stJ (foJ (l.take k)) l[k] := by
  unfold foJ
  rw [List.take_succ_eq_append_getElem h, List.foldl_append]; rfl
theorem flP_len (out : List Nd) (x : List UInt8) : (flP out x).length ≤ out.length + x.length := by
  unfold flP
  cases x with
  | nil => simp
  | cons c x => simp
theorem foldJ_len : ∀ (l : List Nd) (out : List Nd) (x : List UInt8), (l.foldl stJ (out, x)).1.length + (l.foldl stJ (out, x)).2.length ≤ out.length + x.length + sz l
  | [], out, x => by simp
  | n :: r, out, x => by
    rw [List.foldl_cons, sz_cons, szN_eq]
    by_cases hk : n.kind = 1
    · have e : stJ (out, x) n = (out, x ++ n.text.data.toList) := by simp [stJ, hk]
      rw [e]
      have := foldJ_len r out (x ++ n.text.data.toList)
      rw [List.length_append] at this
      have h2 : n.text.data.toList.length = n.text.size := rfl
      omega
    · have e : stJ (out, x) n = (flP out x ++ [jb n], []) := by simp [stJ, hk]
      rw [e]
      have := foldJ_len r (flP out x ++ [jb n]) []
      have h2 := flP_len out x
      simp only [List.length_append, List.length_cons, List.length_nil] at this
      omega
theorem sz_takeJ (l : List Nd) (k : Nat) : sz (l.take k) ≤ sz l := by
  have h : sz l = sz (l.take k) + sz (l.drop k) := by rw [← sz_append, List.take_append_drop]
  omega
theorem foJ_len (l : List Nd) (k : Nat) : (foJ (l.take k)).1.length + (foJ (l.take k)).2.length ≤ sz l := by
  have h1 := foldJ_len (l.take k) [] []
  have h2 := sz_takeJ l k
  unfold foJ
  simp only [List.length_nil] at h1
  omega
end Go.Proofs.YtdojbnngdlmbgaaGreatDoor.Tr
