/-
  The law ParseOpen, for every text and every integer.
-/
import Derived.Test.YtikfmafhblkcpaaDoorPaText
import Derived.Lib.SmallJoins
namespace Go.Proofs.YtikfmafhblkcpaaDoor.Pa
open Go.RowKit Go.Proofs.YtikfmafhblkcpaaDoor.Tr
set_option linter.unusedVariables false

theorem append_list (a b : ByteArray) : (a ++ b).data.toList = a.data.toList ++ b.data.toList := by simp
theorem asc_open : Asc ⟨#[123, 125, 91, 93, 60]⟩ := asc_all (by decide)
theorem run_mild {l : List UInt8} (h : ∀ c ∈ l, Mild c) : Tk.run 123 l = 0 := by
  cases l with
  | nil => rfl
  | cons c r =>
    have := (h c (List.mem_cons_self)).2.1
    unfold Tk.run
    rw [List.takeWhile_cons_of_neg (by simpa using this)]
    rfl
theorem mild_app {p l : List UInt8} (h : ∀ c ∈ l, Mild c) : ∀ j (hj : j < (p ++ l).length), p.length ≤ j → Mild (p ++ l)[j] := by
  intro j hj hp
  rw [List.getElem_append_right hp]
  exact h _ (List.getElem_mem _)
theorem run_rep {l : List UInt8} (h : ∀ c ∈ l, Mild c) (k : Nat) : Tk.run 123 (List.replicate k 123 ++ l) = k := by
  induction k with
  | zero => exact run_mild h
  | succ k ih =>
    rw [List.replicate_succ, List.cons_append]
    unfold Tk.run at ih ⊢
    rw [List.takeWhile_cons_of_pos (by decide), List.length_cons, ih]
theorem tree_curly {l : List UInt8} (h : ∀ c ∈ l, Mild c) (k : Nat) (hk : 2 ≤ k) : tree (toks (List.replicate k 123 ++ l)) = [tx (List.replicate k 123 ++ l)] := by
  have hm : Tk.mark (List.replicate k 123 ++ l) = (3, k) := by
    have hr := run_rep h k
    obtain ⟨m, rfl⟩ : ∃ m, k = m + 1 := ⟨k - 1, by omega⟩
    rw [List.replicate_succ, List.cons_append] at hr ⊢
    rw [Tk.m123]
    unfold Tk.braces
    rw [hr, if_neg (by omega)]
  rw [tree_open (i0 := (List.replicate k (123 : UInt8)).length) (mild_app h) (by rw [hm]; show k ≠ 0; omega) (by rw [hm, List.length_replicate]; exact Nat.le_refl _) (by rw [hm]; exact .inl rfl), if_neg]
  obtain ⟨m, rfl⟩ : ∃ m, k = m + 1 := ⟨k - 1, by omega⟩
  rw [List.replicate_succ, List.cons_append]
  exact List.cons_ne_nil _ _
theorem tree_square {l : List UInt8} (h : ∀ c ∈ l, Mild c) : tree (toks ([91, 91] ++ l)) = [tx ([91, 91] ++ l)] := by
  have hm : Tk.mark ([91, 91] ++ l) = (5, 2) := rfl
  rw [tree_open (i0 := ([91, 91] : List UInt8).length) (mild_app h) (by rw [hm]; decide) (by rw [hm]; decide) (by rw [hm]; exact .inr rfl), if_neg]
  exact List.cons_ne_nil _ _
theorem and_three (n : Int) : 0 ≤ bits .and .i64 n 3 ∧ bits .and .i64 n 3 ≤ 3 := by
  have h2 : (BitVec.ofInt 64 3).toNat = 3 := by decide
  have h3 : (BitVec.ofInt 64 n).toNat &&& 3 ≤ 3 := Nat.and_le_right
  have e : bits .and .i64 n 3 = IntKind.i64.wrap ((BitVec.ofInt 64 n &&& BitVec.ofInt 64 3).toNat : Int) := rfl
  rw [e, BitVec.toNat_and, h2, IntKind.wrap_i64]
  omega
/-- The text that the law makes, and its tree. -/
def opn (b : Int) : ByteArray := if b = 0 then ⟨#[123, 123]⟩ else if b = 1 then ⟨#[123, 123, 123]⟩ else if b = 2 then ⟨#[91, 91]⟩ else ⟨#[123, 123, 123, 123, 123]⟩
theorem opn_size (b : Int) : (opn b).size ≤ 5 := by
  unfold opn
  repeat' split
  all_goals decide
theorem tx_bytes (s : ByteArray) (l : List UInt8) (h : s.data.toList = l) : [tx l] = [.mk 1 0 s [] []] := by subst h; rfl
theorem opn_tree {s : ByteArray} (h : ∀ c ∈ s.data.toList, Mild c) (b : Int) : tree (toks (opn b ++ s).data.toList) = [.mk 1 0 (opn b ++ s) [] []] := by
  have key : tree (toks ((opn b).data.toList ++ s.data.toList)) = [tx ((opn b).data.toList ++ s.data.toList)] := by
    unfold opn
    split
    · exact tree_curly h 2 (by decide)
    · split
      · exact tree_curly h 3 (by decide)
      · split
        · exact tree_square h
        · exact tree_curly h 5 (by decide)
  rw [append_list, key]
  exact tx_bytes _ _ (append_list _ _)
set_option maxRecDepth 100000 in
set_option maxHeartbeats 4000000 in
theorem ParseOpen_any (s : ByteArray) (n : Int) (w : World) (ht : Tk.Tb w) : Calls Tryd.prog 11 #[.string s, .int .i64 n] w fun e w' => e = .returned (.bool true) ∧ Below w.heap.size w w' := by
  have HT := Lib.hid ht
  clear ht
  by_cases h : 300 < s.size
  · have h1 : (300 : Int) < (s.size : Int) := by omega
    go_enter Tryd.func11, Tryd.ntmps11
    go_wp2_with fail
    refine (known_any w HT.out).mono ?_
    rintro e w1 ⟨rfl, hb⟩
    go_wp2_with fail
    go_ret
    exact ⟨rfl, hb⟩
  · have h1 : ¬ (300 : Int) < (s.size : Int) := by omega
    have HC := Lib.hid (ContainsAny_any s ⟨#[123, 125, 91, 93, 60]⟩ w asc_open (by decide) (by decide) (by omega))
    cases hin : Lib.containsAny s.data.toList (⟨#[123, 125, 91, 93, 60]⟩ : ByteArray).data.toList
    · have HM := Lib.hid (mild_no hin (by decide))
      rw [hin] at HC
      clear hin
      go_enter Tryd.func11, Tryd.ntmps11
      go_wp2_with fail
      refine HC.out.mono ?_
      rintro e w1 ⟨rfl, hb1⟩
      have B1 := Lib.hid hb1
      clear hb1 HC
      obtain ⟨k0, k3⟩ := and_three n
      have hm : ∃ b, bits BinOp.and IntKind.i64 n 3 = b := ⟨_, rfl⟩
      obtain ⟨b, hb⟩ := hm
      rw [hb] at k0 k3
      have hT : Hid (tree (toks (opn b ++ s).data.toList) = [.mk 1 0 (opn b ++ s) [] []]) := Lib.hid (opn_tree HM.out b)
      have hz : (opn b ++ s).size ≤ 305 := by have := opn_size b; rw [ByteArray.size_append]; omega
      obtain ⟨t, ht⟩ : ∃ t, t = opn b ++ s := ⟨_, rfl⟩
      have hk : b = 0 ∨ b = 1 ∨ b = 2 ∨ b = 3 := by omega
      clear k0 k3 HM
      rcases hk with rfl | rfl | rfl | rfl
      · go_wp2_with fail
        have B2 := Lib.hid (B1.out.alloc B1.out.size (.cells #[.string ⟨#[123, 123]⟩, .string ⟨#[123, 123, 123]⟩, .string ⟨#[91, 91]⟩, .string ⟨#[123, 123, 123, 123, 123]⟩] 9))
        refine (Parse_any _ _ (HT.out.below B2.out) (Nat.le_trans hz (by decide))).mono ?_
        rintro e w2 ⟨v, d, rfl, l2, b2⟩
        replace l2 := Eq.mp (congrArg (LRx d w2 _ v) hT.out) l2
        obtain ⟨A, c, hv⟩ := l2.form
        subst hv
        have B3 := Lib.hid (B2.out.trans (b2.mono B2.out.size))
        have L2 := Lib.hid (LRx.lx l2)
        clear l2 b2 hT
        go_wp2_with fail
        refine (word_any _ w2).mono ?_
        rintro e w3 ⟨rfl, e3⟩
        have b3 : Below w2.heap.size w2 w3 := by rw [← e3]; exact (Below.refl _ _).alloc (Nat.le_refl _) _
        have LA : LX w3 (fun g => g < w3.heap.size) (.slice (some ⟨w2.heap.size, 0, none⟩) 1 1) [.mk 1 0 (opn 0 ++ s) [] []] := by rw [← e3]; exact LX.word w2 _ (Nat.le_trans hz (by decide))
        have L3 := Lib.hid (And.intro (L2.out.on b3) LA)
        have B4 := Lib.hid (B3.out.trans (b3.mono B3.out.size))
        clear e3 b3 LA L2
        go_wp2_with fail
        refine (equal_same L3.out.1 L3.out.2).mono ?_
        rintro e w4 ⟨rfl, b4⟩
        have B5 := Lib.hid (B4.out.trans (b4.mono B4.out.size))
        clear b4 L3
        go_wp2_with fail
        refine (known_any w4 (HT.out.below B5.out)).mono ?_
        rintro e w5 ⟨rfl, b5⟩
        have B6 := Lib.hid (B5.out.trans (b5.mono B5.out.size))
        clear b5
        go_wp2_with fail
        go_ret
        exact ⟨rfl, B6.out⟩
      · go_wp2_with fail
        have B2 := Lib.hid (B1.out.alloc B1.out.size (.cells #[.string ⟨#[123, 123]⟩, .string ⟨#[123, 123, 123]⟩, .string ⟨#[91, 91]⟩, .string ⟨#[123, 123, 123, 123, 123]⟩] 9))
        refine (Parse_any _ _ (HT.out.below B2.out) (Nat.le_trans hz (by decide))).mono ?_
        rintro e w2 ⟨v, d, rfl, l2, b2⟩
        replace l2 := Eq.mp (congrArg (LRx d w2 _ v) hT.out) l2
        obtain ⟨A, c, hv⟩ := l2.form
        subst hv
        have B3 := Lib.hid (B2.out.trans (b2.mono B2.out.size))
        have L2 := Lib.hid (LRx.lx l2)
        clear l2 b2 hT
        go_wp2_with fail
        refine (word_any _ w2).mono ?_
        rintro e w3 ⟨rfl, e3⟩
        have b3 : Below w2.heap.size w2 w3 := by rw [← e3]; exact (Below.refl _ _).alloc (Nat.le_refl _) _
        have LA : LX w3 (fun g => g < w3.heap.size) (.slice (some ⟨w2.heap.size, 0, none⟩) 1 1) [.mk 1 0 (opn 1 ++ s) [] []] := by rw [← e3]; exact LX.word w2 _ (Nat.le_trans hz (by decide))
        have L3 := Lib.hid (And.intro (L2.out.on b3) LA)
        have B4 := Lib.hid (B3.out.trans (b3.mono B3.out.size))
        clear e3 b3 LA L2
        go_wp2_with fail
        refine (equal_same L3.out.1 L3.out.2).mono ?_
        rintro e w4 ⟨rfl, b4⟩
        have B5 := Lib.hid (B4.out.trans (b4.mono B4.out.size))
        clear b4 L3
        go_wp2_with fail
        refine (known_any w4 (HT.out.below B5.out)).mono ?_
        rintro e w5 ⟨rfl, b5⟩
        have B6 := Lib.hid (B5.out.trans (b5.mono B5.out.size))
        clear b5
        go_wp2_with fail
        go_ret
        exact ⟨rfl, B6.out⟩
      · go_wp2_with fail
        have B2 := Lib.hid (B1.out.alloc B1.out.size (.cells #[.string ⟨#[123, 123]⟩, .string ⟨#[123, 123, 123]⟩, .string ⟨#[91, 91]⟩, .string ⟨#[123, 123, 123, 123, 123]⟩] 9))
        refine (Parse_any _ _ (HT.out.below B2.out) (Nat.le_trans hz (by decide))).mono ?_
        rintro e w2 ⟨v, d, rfl, l2, b2⟩
        replace l2 := Eq.mp (congrArg (LRx d w2 _ v) hT.out) l2
        obtain ⟨A, c, hv⟩ := l2.form
        subst hv
        have B3 := Lib.hid (B2.out.trans (b2.mono B2.out.size))
        have L2 := Lib.hid (LRx.lx l2)
        clear l2 b2 hT
        go_wp2_with fail
        refine (word_any _ w2).mono ?_
        rintro e w3 ⟨rfl, e3⟩
        have b3 : Below w2.heap.size w2 w3 := by rw [← e3]; exact (Below.refl _ _).alloc (Nat.le_refl _) _
        have LA : LX w3 (fun g => g < w3.heap.size) (.slice (some ⟨w2.heap.size, 0, none⟩) 1 1) [.mk 1 0 (opn 2 ++ s) [] []] := by rw [← e3]; exact LX.word w2 _ (Nat.le_trans hz (by decide))
        have L3 := Lib.hid (And.intro (L2.out.on b3) LA)
        have B4 := Lib.hid (B3.out.trans (b3.mono B3.out.size))
        clear e3 b3 LA L2
        go_wp2_with fail
        refine (equal_same L3.out.1 L3.out.2).mono ?_
        rintro e w4 ⟨rfl, b4⟩
        have B5 := Lib.hid (B4.out.trans (b4.mono B4.out.size))
        clear b4 L3
        go_wp2_with fail
        refine (known_any w4 (HT.out.below B5.out)).mono ?_
        rintro e w5 ⟨rfl, b5⟩
        have B6 := Lib.hid (B5.out.trans (b5.mono B5.out.size))
        clear b5
        go_wp2_with fail
        go_ret
        exact ⟨rfl, B6.out⟩
      · go_wp2_with fail
        have B2 := Lib.hid (B1.out.alloc B1.out.size (.cells #[.string ⟨#[123, 123]⟩, .string ⟨#[123, 123, 123]⟩, .string ⟨#[91, 91]⟩, .string ⟨#[123, 123, 123, 123, 123]⟩] 9))
        refine (Parse_any _ _ (HT.out.below B2.out) (Nat.le_trans hz (by decide))).mono ?_
        rintro e w2 ⟨v, d, rfl, l2, b2⟩
        replace l2 := Eq.mp (congrArg (LRx d w2 _ v) hT.out) l2
        obtain ⟨A, c, hv⟩ := l2.form
        subst hv
        have B3 := Lib.hid (B2.out.trans (b2.mono B2.out.size))
        have L2 := Lib.hid (LRx.lx l2)
        clear l2 b2 hT
        go_wp2_with fail
        refine (word_any _ w2).mono ?_
        rintro e w3 ⟨rfl, e3⟩
        have b3 : Below w2.heap.size w2 w3 := by rw [← e3]; exact (Below.refl _ _).alloc (Nat.le_refl _) _
        have LA : LX w3 (fun g => g < w3.heap.size) (.slice (some ⟨w2.heap.size, 0, none⟩) 1 1) [.mk 1 0 (opn 3 ++ s) [] []] := by rw [← e3]; exact LX.word w2 _ (Nat.le_trans hz (by decide))
        have L3 := Lib.hid (And.intro (L2.out.on b3) LA)
        have B4 := Lib.hid (B3.out.trans (b3.mono B3.out.size))
        clear e3 b3 LA L2
        go_wp2_with fail
        refine (equal_same L3.out.1 L3.out.2).mono ?_
        rintro e w4 ⟨rfl, b4⟩
        have B5 := Lib.hid (B4.out.trans (b4.mono B4.out.size))
        clear b4 L3
        go_wp2_with fail
        refine (known_any w4 (HT.out.below B5.out)).mono ?_
        rintro e w5 ⟨rfl, b5⟩
        have B6 := Lib.hid (B5.out.trans (b5.mono B5.out.size))
        clear b5
        go_wp2_with fail
        go_ret
        exact ⟨rfl, B6.out⟩
    · rw [hin] at HC
      clear hin
      go_enter Tryd.func11, Tryd.ntmps11
      go_wp2_with fail
      refine HC.out.mono ?_
      rintro e w1 ⟨rfl, hb1⟩
      have B1 := Lib.hid hb1
      clear hb1 HC
      go_wp2_with fail
      refine (known_any w1 (HT.out.below B1.out)).mono ?_
      rintro e w2 ⟨rfl, hb⟩
      have B2 := Lib.hid (B1.out.trans (hb.mono B1.out.size))
      clear hb
      go_wp2_with fail
      go_ret
      exact ⟨rfl, B2.out⟩
end Go.Proofs.YtikfmafhblkcpaaDoor.Pa
