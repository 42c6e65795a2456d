/-
  The form of a heading, and which bytes are plain: plain.
  The lines of a text as strings.Split gives them: plain.
  Slices of sections, strings and bools in memory; strings as lists of bytes.
-/
import Derived.Lib.SlTrimSet
import Derived.Test.YtdojbnngdlmbgaaGreatDoorSeNest
import Derived.Lib.Split
import Derived.Shelf.Strings.SlTrimAscii
import Derived.Test.YtdojbnngdlmbgaaGreatDoorShelf
import Derived.Test.YtdojbnngdlmbgaaGreatDoorChecked
import Derived.WalkKit
import Derived.WalkSpells
import Derived.WalkLawsBesides
import Derived.Outline
import Derived.Lib.Hide
import Derived.IntWalk
import Derived.WalkSmall
import Derived.Laws.IdiomStrings
import Derived.Deep.QuietTactic
import Derived.BigQuiet
import Derived.OwnWalk
import Derived.Laws.OwnMore
import Derived.Laws.Rows
namespace Go.Proofs.YtdojbnngdlmbgaaGreatDoor.Se
set_option linter.unusedVariables false

def bl : List UInt8 := [32, 9]
/-- The level and the title of a line in the form of a heading. -/
def headOf (x : List UInt8) : Option (Nat × List UInt8) :=
  let l := Lib.trimRightS x bl
  let left := l.length - (Lib.trimLeftS l [61]).length
  let right := l.length - (Lib.trimRightS l [61]).length
  let lv := min 6 (min left right)
  if lv = 0 ∨ left = l.length then none else
  let t := Lib.trimS ((l.drop lv).take (l.length - lv - lv)) bl
  if t = [] then none else some (lv, t)
theorem headOf_nil : headOf [] = none := by decide
theorem drop_ge {α : Type} (p : α → Bool) {c : α} (h : p c = false) (b : List α) : ∀ a : List α, b.length + 1 ≤ ((a ++ c :: b).dropWhile p).length
  | [] => by rw [List.nil_append, List.dropWhile_cons_of_neg (by simp [h])]; simp
  | x :: a => by
    rw [List.cons_append, List.dropWhile_cons]
    by_cases hx : p x = true
    · rw [if_pos hx]; exact drop_ge p h b a
    · rw [if_neg hx]; simp; omega
theorem dropWhile_hd {α : Type} (p : α → Bool) : ∀ {l : List α} {c : α} {d : List α}, l.dropWhile p = c :: d → p c = false
  | [], _, _, h => by simp at h
  | x :: l, c, d, h => by
    rw [List.dropWhile_cons] at h
    by_cases hx : p x = true
    · rw [if_pos hx] at h; exact dropWhile_hd p h
    · rw [if_neg hx] at h; simp at h; rw [← h.1]; simpa using hx
/-- What a line begins with and what it ends with do not meet, if the line has another byte. -/
theorem ends_le {α : Type} (p : α → Bool) (l : List α) (h : l.dropWhile p ≠ []) : (l.length - (l.dropWhile p).length) + (l.length - (l.reverse.dropWhile p).length) < l.length := by
  obtain ⟨c, d, hd⟩ := List.exists_cons_of_ne_nil h
  have hc := dropWhile_hd p hd
  have e : l.reverse = d.reverse ++ c :: (l.takeWhile p).reverse := by
    have := List.takeWhile_append_dropWhile (p := p) (l := l)
    rw [hd] at this
    conv => lhs; rw [← this]
    simp
  have h2 := drop_ge p hc (l.takeWhile p).reverse d.reverse
  rw [← e, List.length_reverse] at h2
  have h3 : (l.takeWhile p).length + (l.dropWhile p).length = l.length := by
    rw [← List.length_append, List.takeWhile_append_dropWhile]
  have h4 : 0 < (l.dropWhile p).length := by rw [hd]; simp
  have h5 : (l.reverse.dropWhile p).length ≤ l.length := by
    have := (List.dropWhile_sublist p (l := l.reverse)).length_le
    simpa using this
  omega
/-- The slice of a heading's title lies within the line. -/
theorem head_slice (l : List UInt8) (h : l.length - (Lib.trimLeftS l [61]).length ≠ l.length) :
    2 * min 6 (min (l.length - (Lib.trimLeftS l [61]).length) (l.length - (Lib.trimRightS l [61]).length)) < l.length := by
  have hne : l.dropWhile (([61] : List UInt8).contains ·) ≠ [] := by
    intro h2
    apply h
    unfold Lib.trimLeftS
    rw [h2]
    simp
  have := ends_le (([61] : List UInt8).contains ·) l hne
  unfold Lib.trimLeftS Lib.trimRightS
  rw [List.length_reverse]
  omega
/-- The bytes of a list of nodes: a node's size, and whether it is a text. -/
def plainL : List (Bool × Nat) → List Bool
  | [] => []
  | (b, n) :: r => List.replicate n b ++ plainL r
theorem plainL_len : ∀ l : List (Bool × Nat), (plainL l).length = (l.map (·.2)).sum
  | [] => rfl
  | (b, n) :: r => by simp [plainL, plainL_len r]
theorem plainL_all {l : List (Bool × Nat)} (h : ∀ x ∈ l, x.1 = true ∨ x.2 = 0) : ∀ b ∈ plainL l, b = true := by
  induction l with
  | nil => intro b hb; simp [plainL] at hb
  | cons x r ih =>
    obtain ⟨c, n⟩ := x
    intro b hb
    rw [plainL] at hb
    rcases List.mem_append.1 hb with hb | hb
    · rcases h (c, n) (List.mem_cons_self ..) with h1 | h1
      · rw [List.eq_of_mem_replicate hb]; exact h1
      · rw [show n = 0 from h1] at hb; simp at hb
    · exact ih (fun y hy => h y (List.mem_cons_of_mem _ hy)) b hb
end Go.Proofs.YtdojbnngdlmbgaaGreatDoor.Se

namespace Go.Proofs.YtdojbnngdlmbgaaGreatDoor.Se
open Go.Lib
set_option linter.unusedVariables false

theorem lf_cut : ∀ s : List UInt8, (10 : UInt8) ∈ s → ∃ x u, s = x ++ 10 :: u ∧ (10 : UInt8) ∉ x
  | [], h => by simp at h
  | c :: s, h => by
    by_cases hc : c = 10
    · exact ⟨[], s, by rw [hc]; rfl, by simp⟩
    · obtain ⟨x, u, h1, h2⟩ := lf_cut s (by rcases List.mem_cons.1 h with h | h; exact absurd h.symm hc; exact h)
      exact ⟨c :: x, u, by rw [h1]; rfl, by simp; exact ⟨fun h => hc h.symm, h2⟩⟩
theorem index_no : ∀ s : List UInt8, (10 : UInt8) ∉ s → index s [10] = -1
  | [], _ => rfl
  | c :: s, h => by
    simp at h
    unfold index
    have : List.isPrefixOf [10] (c :: s) = false := by simp [List.isPrefixOf]; exact h.1
    rw [this, index_no s h.2]
    rfl
theorem index_yes : ∀ x u : List UInt8, (10 : UInt8) ∉ x → index (x ++ 10 :: u) [10] = (x.length : Int)
  | [], u, _ => by simp [index, List.isPrefixOf]
  | c :: x, u, h => by
    simp at h
    rw [List.cons_append]
    unfold index
    have : List.isPrefixOf [10] (c :: (x ++ 10 :: u)) = false := by simp [List.isPrefixOf]; exact h.1
    rw [this, index_yes x u h.2]
    simp
theorem lines_cons (c : UInt8) (s : List UInt8) : lines (c :: s) = if c = 10 then [] :: lines s else match lines s with
    | [] => [[c]]
    | x :: r => (c :: x) :: r := by rw [lines]; rfl
theorem lines_no : ∀ s : List UInt8, (10 : UInt8) ∉ s → lines s = [s]
  | [], _ => rfl
  | c :: s, h => by
    simp at h
    rw [lines_cons, if_neg (fun e => h.1 e.symm), lines_no s h.2]
theorem lines_yes : ∀ x u : List UInt8, (10 : UInt8) ∉ x → lines (x ++ 10 :: u) = x :: lines u
  | [], u, _ => by simp [lines]
  | c :: x, u, h => by
    simp at h
    rw [List.cons_append, lines_cons, if_neg (fun e => h.1 e.symm), lines_yes x u h.2]
theorem splitK_lines : ∀ (n : Nat) (s : List UInt8), s.count 10 ≤ n → splitK [10] 0 n s = lines s
  | 0, s, h => by
    have : (10 : UInt8) ∉ s := List.count_eq_zero.1 (by omega)
    rw [lines_no s this]; rfl
  | n + 1, s, h => by
    unfold splitK
    by_cases hm : (10 : UInt8) ∈ s
    · obtain ⟨x, u, rfl, hx⟩ := lf_cut s hm
      rw [index_yes x u hx, lines_yes x u hx, if_neg (by rw [beq_iff_eq]; omega)]
      have hc : (x ++ 10 :: u).count 10 = u.count 10 + 1 := by
        rw [List.count_append, List.count_eq_zero.2 hx, List.count_cons_self, Nat.zero_add]
      have e1 : (x ++ 10 :: u).take ((x.length : Int).toNat + 0) = x := by simp
      have e2 : (x ++ 10 :: u).drop ((x.length : Int).toNat + [(10 : UInt8)].length) = u := by
        rw [show (x.length : Int).toNat + [(10 : UInt8)].length = x.length + 1 by simp, ← List.drop_drop, List.drop_left]; rfl
      rw [e1, e2, splitK_lines n u (by omega)]
    · rw [index_no s hm, lines_no s hm]; rfl
theorem count_lf : ∀ (n : Nat) (s : List UInt8), s.length ≤ n → count s [10] = s.count 10
  | n, s, h => by
    by_cases hm : (10 : UInt8) ∈ s
    · obtain ⟨x, u, rfl, hx⟩ := lf_cut s hm
      have e2 : (x ++ 10 :: u).drop (x.length + [(10 : UInt8)].length) = u := by
        rw [show x.length + [(10 : UInt8)].length = x.length + 1 by simp, ← List.drop_drop, List.drop_left]; rfl
      rw [count_hit (by simp) (index_yes x u hx), e2, List.count_append, List.count_eq_zero.2 hx, List.count_cons_self]
      cases n with
      | zero => simp at h
      | succ n =>
        rw [count_lf n u (by simp at h; omega)]
        omega
    · rw [count_miss (index_no s hm), List.count_eq_zero.2 hm]
/-- What strings.Split yields at line feeds. -/
theorem split_lines (s : List UInt8) : split s [10] = lines s := splitK_lines _ s (by rw [count_lf _ s (Nat.le_refl _)]; exact Nat.le_refl _)
theorem splitB_lines (s : ByteArray) : (splitB ⟨#[10]⟩ 0 (countB s ⟨#[10]⟩) s).map (·.data.toList) = lines s.data.toList := by
  rw [splitB_data]
  exact split_lines s.data.toList
end Go.Proofs.YtdojbnngdlmbgaaGreatDoor.Se

namespace Go.Proofs.YtdojbnngdlmbgaaGreatDoor.Se
open Go.RowKit Go.Shelf
set_option linter.unusedVariables false
set_option linter.unusedSimpArgs false

abbrev By := List UInt8
theorem ret_int {k : IntKind} {a b : Int} (h : a = b) : Ending.returned (.int k a) = .returned (.int k b) := by rw [h]
theorem ret_bool {a b : Bool} (h : a = b) : Ending.returned (.bool a) = .returned (.bool b) := by rw [h]
theorem ret_str {a b : ByteArray} (h : a = b) : Ending.returned (.string a) = .returned (.string b) := by rw [h]
theorem bs_inj {a b : ByteArray} (h : a.data.toList = b.data.toList) : a = b := by
  cases a; cases b; congr 1; exact Array.toList_inj.1 h
theorem ext_list (s : ByteArray) (a b : Nat) : (s.extract a b).data.toList = (s.data.toList.drop a).take (b - a) := by
  simp [ByteArray.data_extract, Array.toList_extract, List.extract]
theorem ext_tail (s : ByteArray) (a : Nat) : (s.extract a s.size).data.toList = s.data.toList.drop a := by
  rw [ext_list]
  apply List.take_of_length_le
  simp [← ByteArray.size_data]
theorem size_list (s : ByteArray) : s.data.toList.length = s.size := by simp
def bsl (l : List UInt8) : ByteArray := ⟨l.toArray⟩
structure Rd {α : Type} (k : Nat) (enc : α → List Value) (w : World) (B : Nat) (v : Value) (l : List α) : Prop where
  ex : ∃ A c, v = .slice A l.length c ∧ l.length ≤ c ∧ c ≤ maxLen ∧ (0 < l.length → ∃ g o, A = some ⟨g, o, none⟩ ∧ g < B ∧ ∀ (i : Nat) (x : α), l[i]? = some x → ∀ (j : Nat) (u : Value), (enc x)[j]? = some u → w.cell? ⟨g, o + i * k + j, none⟩ = some u)
theorem Rd.keep {α : Type} {k : Nat} {enc : α → List Value} {w w' : World} {B : Nat} {v : Value} {l : List α} (h : Rd k enc w B v l) (hk : ∀ p : Addr, p.block < B → w'.cell? p = w.cell? p) : Rd k enc w' B v l := by
  obtain ⟨A, c, h1, h2, h3, h4⟩ := h.ex
  refine ⟨A, c, h1, h2, h3, fun hn => ?_⟩
  obtain ⟨g, o, h5, h6, h7⟩ := h4 hn
  exact ⟨g, o, h5, h6, fun i x hx j u hu => (hk _ h6).trans (h7 i x hx j u hu)⟩
theorem Rd.below {α : Type} {k : Nat} {enc : α → List Value} {w w' : World} {B B' : Nat} {v : Value} {l : List α} (h : Rd k enc w B v l) (hb : Below B' w w') (hB : B ≤ B') : Rd k enc w' B v l := h.keep fun _ hp => hb.cell (by omega)
theorem Rd.more {α : Type} {k : Nat} {enc : α → List Value} {w : World} {B B' : Nat} {v : Value} {l : List α} (h : Rd k enc w B v l) (hB : B ≤ B') : Rd k enc w B' v l := by
  obtain ⟨A, c, h1, h2, h3, h4⟩ := h.ex
  exact ⟨A, c, h1, h2, h3, fun hn => by
    obtain ⟨g, o, h5, h6, h7⟩ := h4 hn
    exact ⟨g, o, h5, by omega, h7⟩⟩
theorem Rd.up {α : Type} {k : Nat} {enc : α → List Value} {w w' : World} {v : Value} {l : List α} (h : Rd k enc w w.heap.size v l) (hb : Below w.heap.size w w') : Rd k enc w' w'.heap.size v l := (h.below hb (Nat.le_refl _)).more hb.size
theorem flat_at {α : Type} {k : Nat} {enc : α → List Value} (hk : ∀ x, (enc x).length = k) : ∀ (l : List α) (i : Nat) (x : α), l[i]? = some x → ∀ (j : Nat) (u : Value), (enc x)[j]? = some u → (l.flatMap enc)[i * k + j]? = some u
  | [], i, x, h, _, _, _ => by simp at h
  | a :: r, 0, x, h, j, u, hu => by
    simp at h; subst h
    have hj : j < k := by rw [← hk a]; exact (List.getElem?_eq_some_iff.1 hu).1
    rw [List.flatMap_cons, List.getElem?_append_left (by rw [hk]; omega)]
    simpa using hu
  | a :: r, i + 1, x, h, j, u, hu => by
    have ih := flat_at hk r i x (by simpa using h) j u hu
    rw [List.flatMap_cons, show (i + 1) * k + j = k + (i * k + j) by rw [Nat.succ_mul]; omega, List.getElem?_append_right (by rw [hk]; omega), hk]
    simpa using ih
theorem rd_own {α : Type} {k : Nat} {enc : α → List Value} (hk : ∀ x, (enc x).length = k) {w : World} {base : Nat} {e : TypeId} {v : Value} {l : List α} (h : w.ownsRow base e k v l.length (l.flatMap enc)) : Rd k enc w w.heap.size v l := by
  rcases h.2 with ⟨h1, h2⟩ | ⟨g, cap, cur, h3, h4, h5, h6, h7, h8, h9⟩
  · exact ⟨none, 0, by rw [h1, h2], by omega, by simp [maxLen], fun hn => by omega⟩
  · refine ⟨some ⟨g, 0, none⟩, cap, h3, h6, h7, fun hn => ⟨g, 0, rfl, (Array.getElem?_eq_some_iff.1 h5).1, fun i x hx j u hu => ?_⟩⟩
    have hu2 := flat_at hk l i x hx j u hu
    rw [Nat.zero_add, cell_of_row _ _ _ _ _ _ h5]
    rw [← h9, List.getElem?_take] at hu2
    split at hu2
    · simpa using hu2
    · cases hu2
theorem row_below {w w' : World} {base e k B : Nat} {v : Value} {m : Nat} {xs : List Value} (h : w.ownsRow base e k v m xs) (hb : Below B w w') (hB : w.heap.size ≤ B) : w'.ownsRow base e k v m xs := by
  refine ⟨h.1, ?_⟩
  rcases h.2 with h2 | ⟨g, cap, cur, h3, h4, h5, h6⟩
  · exact .inl h2
  · have hlt : g < w.heap.size := (Array.getElem?_eq_some_iff.1 h5).1
    exact .inr ⟨g, cap, cur, h3, h4, (hb.block g (by omega)).trans h5, h6⟩
theorem below_own {w w' : World} {base e k : Nat} {v : Value} {m : Nat} {xs : List Value} (ho : w.ownsRow base e k v m xs) (hg : w.grownBy w' v.ownBlock) (hb : base ≤ w.heap.size) : Below base w w' :=
  (Below.refl _ _).grown hg hb fun j hj => (World.ownsRow.lt ho j hj).1
theorem cells_new (w : World) (xs : List Value) (t : TypeId) : ∀ j u, xs[j]? = some u → (w.alloc (.cells xs.toArray t)).cell? ((⟨w.heap.size, 0, none⟩ : Addr).add j) = some u := by
  intro j u h
  have hadd : (⟨w.heap.size, 0, none⟩ : Addr).add j = ⟨w.heap.size, j, none⟩ := by unfold Addr.add; split <;> simp_all
  rw [hadd, cell_of_row _ _ j xs.toArray t (0, 0) (heap_alloc_new w _)]
  simpa using h
theorem str_eq (s : ByteArray) : bsl s.data.toList = s := rfl
theorem bsl_list (n : By) : (bsl n).data.toList = n := rfl
theorem bsl_toList (n : By) : (bsl n).toList = n := by rw [Lib.toList_data]; rfl
theorem bsl_size (l : By) : (bsl l).size = l.length := by rw [← size_list]; rfl
theorem bsl_inj {a b : By} (h : bsl a = bsl b) : a = b := congrArg (fun s : ByteArray => s.data.toList) h
theorem str_beq (a b : By) : ((bsl a).toList == (bsl b).toList) = decide (a = b) := by
  rw [bsl_toList, bsl_toList]
  by_cases h : a = b
  · simp [h]
  · simp [h]
theorem row_base {w : World} {base base' e k : Nat} {v : Value} {m : Nat} {xs : List Value} (h : w.ownsRow base e k v m xs) (hb : base' ≤ base) : w.ownsRow base' e k v m xs := by
  refine ⟨h.1, ?_⟩
  rcases h.2 with h2 | ⟨g, cap, cur, h3, h4, h5⟩
  · exact .inl h2
  · exact .inr ⟨g, cap, cur, h3, Nat.le_trans hb h4, h5⟩
theorem cell_heap {w : World} {g : Nat} {cs : Array Value} {t : TypeId} {i : Nat} {v : Value} (h : w.heap[g]? = some (.cells cs t)) (hv : cs[i]? = some v) : w.cell? ⟨g, i, none⟩ = some v := by
  simp [World.cell?, h, hv]
theorem rd_lit {α : Type} {k : Nat} {enc : α → List Value} (hk : ∀ x, (enc x).length = k) {w : World} {b : Nat} {cs : Array Value} {t : TypeId} {l : List α} (h : w.heap[b]? = some (.cells cs t)) (hc : cs.toList = l.flatMap enc) (hl : l.length ≤ 1000) : Rd k enc w w.heap.size (.slice (some ⟨b, 0, none⟩) l.length l.length) l := by
  refine ⟨some ⟨b, 0, none⟩, l.length, rfl, Nat.le_refl _, by simp only [maxLen]; omega, fun _ => ⟨b, 0, rfl, (Array.getElem?_eq_some_iff.1 h).1, fun i x hx j u hu => ?_⟩⟩
  have hu2 := flat_at hk l i x hx j u hu
  rw [Nat.zero_add]
  refine cell_heap h ?_
  rw [← hc] at hu2
  simpa using hu2
def encSc (x : Sc) : List Value := [.int .i64 (x.lv : Int), .string (bsl x.ti), .int .i64 (x.fr : Int), .int .i64 (x.bo : Int), .int .i64 (x.to : Int)]
def encS (n : By) : List Value := [.string (bsl n)]
def encO (b : Bool) : List Value := [.bool b]
theorem encSc_len (x : Sc) : (encSc x).length = 5 := rfl
theorem encS_len (x : By) : (encS x).length = 1 := rfl
theorem encO_len (x : Bool) : (encO x).length = 1 := rfl
def OwnSc (w : World) (base : Nat) (v : Value) (l : List Sc) : Prop := w.ownsRow base 40 5 v l.length (l.flatMap encSc)
theorem OwnSc.rd {w : World} {base : Nat} {v : Value} {l : List Sc} (h : OwnSc w base v l) : Rd 5 encSc w w.heap.size v l := rd_own encSc_len h
theorem flatSc_len (l : List Sc) : (l.flatMap encSc).length = l.length * 5 := by
  induction l with
  | nil => rfl
  | cons a r ih => rw [List.flatMap_cons, List.length_append, ih, encSc_len, List.length_cons]; omega
theorem scInfo : (Tryz.prog.info? 40).map (fun i => (i.zero, i.size, i.bytes)) = some (some (.agg #[.int .i64 0, .string ⟨#[]⟩, .int .i64 0, .int .i64 0, .int .i64 0]), 5, 48) := by kernel_rfl
theorem snocSc {w : World} {base : Nat} {v : Value} {l : List Sc} {p : Sc} (h : w.ownsRow base 40 5 v (l.length + 1) (l.flatMap encSc ++ encSc p)) : OwnSc w base v (l ++ [p]) := by
  unfold OwnSc; rw [List.length_append, List.flatMap_append]; simpa using h
/-! ### Cut at ASCII bytes -/
theorem TrimR_any (s cs : ByteArray) (w : World) (hs : s.size ≤ 9223372036854775807) (hc : cs.size < 4294967281) (ha : ∀ (j : Nat) b, cs.data.toList[j]? = some b → b.toNat < 128) : Calls Tryz.prog 89 #[.string s, .string cs] w fun e w' => e = .returned (.string (bsl (Lib.trimRightS s.data.toList cs.data.toList))) ∧ Below w.heap.size w w' :=
  Any.strings_TrimRight_laid Tryz.lays162 (by kernel_rfl) s cs w hs hc ha
theorem TrimL_any (s cs : ByteArray) (w : World) (hc : cs.size < 4294967281) (ha : ∀ (j : Nat) b, cs.data.toList[j]? = some b → b.toNat < 128) : Calls Tryz.prog 90 #[.string s, .string cs] w fun e w' => e = .returned (.string (bsl (Lib.trimLeftS s.data.toList cs.data.toList))) ∧ Below w.heap.size w w' :=
  Any.strings_TrimLeft_laid Tryz.lays161 (by kernel_rfl) s cs w hc ha
theorem Trim_any (s cs : ByteArray) (w : World) (hs : s.size ≤ 9223372036854775807) (hc : cs.size < 4294967281) (ha : ∀ (j : Nat) b, cs.data.toList[j]? = some b → b.toNat < 128) : Calls Tryz.prog 47 #[.string s, .string cs] w fun e w' => e = .returned (.string (bsl (Lib.trimS s.data.toList cs.data.toList))) ∧ Below w.heap.size w w' :=
  Any.strings_Trim_laid Tryz.lays160 (by kernel_rfl) s cs w hs hc ha
end Go.Proofs.YtdojbnngdlmbgaaGreatDoor.Se
