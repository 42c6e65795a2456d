/-
  The law ParseTags, for every text and number.
-/
import Derived.Test.YtdogoblnblkogaaDoorPaF
import Derived.Test.YtdogoblnblkogaaDoorPaTg
import Derived.Test.YtdogoblnblkogaaDoorTkRTag
import Derived.Test.YtdogoblnblkogaaDoorTkRScan
namespace Go.Proofs.YtdogoblnblkogaaDoor.Pa
open Go.RowKit Go.Proofs.YtdogoblnblkogaaDoor.Tr
set_option linter.unusedVariables false

theorem no_byte {l : List UInt8} {c : UInt8} (h : ¬ 0 ≤ Lib.indexByte l c) : ∀ x ∈ l, x ≠ c := fun x hx e => by
  subst e
  have := Lib.contains_iff_indexByte l x
  rw [decide_eq_false h] at this
  exact Bool.false_ne_true (this.symm.trans (List.contains_iff_mem.2 hx))
theorem and_three' (n : Int) : 0 ≤ bits .and .i64 n 3 ∧ bits .and .i64 n 3 ≤ 3 := by
  have h2 : (BitVec.ofInt 64 3).toNat = 3 := by decide
  have h3 : (BitVec.ofInt 64 n).toNat &&& 3 ≤ 3 := Nat.and_le_right
  have e : bits .and .i64 n 3 = IntKind.i64.wrap ((BitVec.ofInt 64 n &&& BitVec.ofInt 64 3).toNat : Int) := rfl
  rw [e, BitVec.toNat_and, h2, IntKind.wrap_i64]
  omega
theorem cat_list (a b : ByteArray) : (a ++ b).data.toList = a.data.toList ++ b.data.toList := by simp
/-- How many of the first k tokens open an element. -/
def opT (l : List Tk.Tok) (k : Nat) : Nat := ((l.take k).filter (fun x => opn? x.1)).length
theorem opT_le (l : List Tk.Tok) (k : Nat) : opT l k ≤ l.length := Nat.le_trans (List.length_filter_le _ _) (by rw [List.length_take]; omega)
theorem opT_yes {l : List Tk.Tok} {k : Nat} (h : k < l.length) (hk : l[k].1 = 3 ∨ l[k].1 = 5) : opT l (k + 1) = opT l k + 1 := by
  unfold opT
  rw [List.take_succ_eq_append_getElem h, List.filter_append, List.length_append]
  have : opn? l[k].1 = true := by unfold opn?; rcases hk with q | q <;> rw [q] <;> rfl
  simp [this]
theorem opT_no {l : List Tk.Tok} {k : Nat} (h : k < l.length) (h3 : l[k].1 ≠ 3) (h5 : l[k].1 ≠ 5) : opT l (k + 1) = opT l k := by
  unfold opT
  rw [List.take_succ_eq_append_getElem h, List.filter_append, List.length_append]
  have : opn? l[k].1 = false := by unfold opn?; rw [Bool.or_eq_false_iff, beq_eq_false_iff_ne, beq_eq_false_iff_ne]; exact ⟨h3, h5⟩
  simp [this]
theorem opT_all (s : List UInt8) : opT (Tk.scanL s 0 0) (Tk.scanL s 0 0).length = opens (toks s) := by
  unfold opT opens toks
  rw [List.take_length, List.filter_map, List.length_map]
  rfl
theorem tk_len (s : List UInt8) : (Tk.scanL s 0 0).length ≤ s.length := by
  have hch := Tk.scan_chain s _ 0 0 (Nat.le_refl _) (Nat.le_refl _) (Nat.zero_le _)
  have key : ∀ (l : List Tk.Tok) (a n : Nat), Tk.Chain n a l → a + l.length ≤ n := fun l => by
    induction l with
    | nil => intro a n h; exact Nat.le_of_eq h
    | cons x r ih =>
      intro a n h
      obtain ⟨h1, h2, h3, h4, h5, h6⟩ := h
      have := ih _ _ h6
      rw [List.length_cons]; omega
  have := key _ _ _ hch
  omega
set_option maxRecDepth 100000 in
set_option maxHeartbeats 4000000 in
theorem ParseTags_any (s : ByteArray) (n : Int) (w : World) (ht : Tk.Tb w) : Calls Tryd.prog 6 #[.string s, .int .i64 n] w fun e w' => e = .returned (.bool true) ∧ Below w.heap.size w w' := by
  have HT := Lib.hid ht
  clear ht
  by_cases h : 300 < s.size
  · have h1 : (300 : Int) < (s.size : Int) := by omega
    go_enter Tryd.func6, Tryd.ntmps6
    go_wp2_with fail
    refine (known_any w HT.out).mono ?_
    rintro e w1 ⟨rfl, hb⟩
    go_wp2_with fail
    go_ret
    exact ⟨rfl, hb⟩
  have h1 : ¬ (300 : Int) < (s.size : Int) := by omega
  have HC := Lib.hid (Tryd.strings_Contains_one s 60 w)
  by_cases hin : 0 ≤ Lib.indexByte s.data.toList 60
  · rw [decide_eq_true hin] at HC
    clear hin
    go_enter Tryd.func6, Tryd.ntmps6
    go_wp2_with fail
    refine HC.out.mono ?_
    rintro e w1 ⟨rfl, rfl⟩
    clear HC
    go_wp2_with fail
    refine (known_any w1 HT.out).mono ?_
    rintro e w2 ⟨rfl, hb⟩
    go_wp2_with fail
    go_ret
    exact ⟨rfl, hb⟩
  have HN := Lib.hid (no_byte hin)
  rw [decide_eq_false hin] at HC
  clear hin
  have HL := Lib.hid (tk_len s.data.toList)
  have HO := Lib.hid (opT_all s.data.toList)
  have HS := Lib.hid (Tk.ScanR_any s w (by omega))
  have hsl : s.data.toList.length = s.size := rfl
  go_enter Tryd.func6, Tryd.ntmps6
  go_wp2_with fail
  refine HC.out.mono ?_
  rintro e w0 ⟨rfl, rfl⟩
  clear HC
  go_wp2_with fail
  refine HS.out.mono ?_
  rintro e w1 ⟨v1, rfl, ho1, hb1⟩
  clear HS
  have hlen := HL.out
  generalize Tk.scanL s.data.toList 0 0 = T at ho1 hlen HO
  obtain ⟨A, c, rfl, l1, m1⟩ := own_form ho1
  have R1 := Lib.hid ho1
  have HB := Lib.hid hb1
  clear ho1 hb1 HL
  go_wp2
  go_loopw [5, 8] (fun op i wr => ∃ k : Nat, i = .int .i64 k ∧ op = .int .i64 (opT T k : Nat) ∧ k ≤ T.length ∧ wr = w1) (fun _ i _ => T.length - (intOf i).toNat)
  case atStart => exact ⟨0, rfl, rfl, Nat.zero_le _, rfl⟩
  case round =>
    obtain ⟨k, rfl, rfl, hk, rfl⟩ := hrel
    by_cases hlt : k < T.length
    · have hki : (k : Int) < (T.length : Int) := by omega
      obtain ⟨g, c', e1, hg, q1, q2, x1, x2, x3⟩ := Own.tok R1.out hlt
      cases e1
      have hop := opT_le T k
      by_cases k3 : T[k].1 = 3
      · have e3 := Lib.hid (opT_yes hlt (.inl k3))
        rw [k3] at x1
        go_wp2
        go_roundw
        case rel => exact ⟨k + 1, by go_num, by rw [e3.out]; go_num, by omega, trivial⟩
        case measure => simp [intOf]; omega
      · by_cases k5 : T[k].1 = 5
        · have e3 := Lib.hid (opT_yes hlt (.inr k5))
          rw [k5] at x1
          go_wp2
          go_roundw
          case rel => exact ⟨k + 1, by go_num, by rw [e3.out]; go_num, by omega, trivial⟩
          case measure => simp [intOf]; omega
        · have e3 := Lib.hid (opT_no hlt k3 k5)
          have i3 : (((T[k].1 : Nat) : Int) == 3) = false := by rw [beq_eq_false_iff_ne]; omega
          have i5 : (((T[k].1 : Nat) : Int) == 5) = false := by rw [beq_eq_false_iff_ne]; omega
          go_wp2
          go_roundw
          case rel => exact ⟨k + 1, by go_num, by rw [e3.out], by omega, trivial⟩
          case measure => simp [intOf]; omega
    · obtain rfl : k = T.length := by omega
      rw [HO.out]
      by_cases h20 : 20 ≤ opens (toks s.data.toList)
      · have i20 : (20 : Int) ≤ (opens (toks s.data.toList) : Nat) := by omega
        go_wp2_with fail
        refine (known_any wr (HT.out.below HB.out)).mono ?_
        rintro e w2 ⟨rfl, hb⟩
        go_wp2_with fail
        go_ret
        exact ⟨rfl, HB.out.trans (hb.mono HB.out.size)⟩
      · have i20 : ¬ (20 : Int) ≤ (opens (toks s.data.toList) : Nat) := by omega
        have HP := Lib.hid (Parse_any s wr (HT.out.below HB.out) (by omega))
        have htree := Lib.hid (fun (t : Nat) (h1 : 1 ≤ t) (h3 : t ≤ 3) => tree_tag HN.out h1 h3 (by omega))
        obtain ⟨k0, k3⟩ := and_three' n
        obtain ⟨b, hb⟩ : ∃ b, bits BinOp.and IntKind.i64 n 3 = b := ⟨_, rfl⟩
        rw [hb] at k0 k3
        obtain ⟨t, t1, t3, hbt⟩ : ∃ t : Nat, 1 ≤ t ∧ t ≤ 3 ∧ (1 + b % 3 : Int) = (t : Int) := by
          have hk : b = 0 ∨ b = 1 ∨ b = 2 ∨ b = 3 := by omega
          rcases hk with rfl | rfl | rfl | rfl
          · exact ⟨1, by omega, by omega, by decide⟩
          · exact ⟨2, by omega, by omega, by decide⟩
          · exact ⟨3, by omega, by omega, by decide⟩
          · exact ⟨1, by omega, by omega, by decide⟩
        go_wp2_with fail
        refine HP.out.mono ?_
        rintro e w2 ⟨v2, d2, rfl, l2, b2⟩
        clear HP
        obtain ⟨A2, c2, hv⟩ := l2.form
        subst hv
        have B2 := Lib.hid (HB.out.trans (b2.mono HB.out.size))
        have L2 := Lib.hid (LRx.lx l2)
        clear l2 b2
        go_wp2_with fail
        refine (Tk.TagText_any t false w2 t1 t3).mono ?_
        rintro e w3 ⟨rfl, b3⟩
        have B3 := Lib.hid (B2.out.trans (b3.mono B2.out.size))
        have L3 := Lib.hid (L2.out.on b3)
        clear b3 L2 B2
        have hoz : (⟨(Tk.tagL t false).toArray⟩ : ByteArray).size ≤ 20 ∧ (⟨(Tk.tagL t true).toArray⟩ : ByteArray).size ≤ 20 := by
          have h : t = 1 ∨ t = 2 ∨ t = 3 := by omega
          rcases h with rfl | rfl | rfl <;> decide
        obtain ⟨O, hO⟩ : ∃ O : ByteArray, ⟨(Tk.tagL t false).toArray⟩ = O := ⟨_, rfl⟩
        obtain ⟨P, hP⟩ : ∃ O : ByteArray, ⟨(Tk.tagL t true).toArray⟩ = O := ⟨_, rfl⟩
        rw [hO, hP] at hoz
        rw [hO]
        obtain ⟨hoz, hpz⟩ := hoz
        have hO := Lib.hid hO
        have hP := Lib.hid hP
        have hT : Hid (((O ++ s) ++ P).data.toList = Tk.tO t ++ (s.data.toList ++ Tk.tE t)) := Lib.hid (by rw [cat_list, cat_list, ← hO.out, ← hP.out, List.append_assoc]; rfl)
        go_wp2_with fail
        refine (Tk.TagText_any t true w3 t1 t3).mono ?_
        rintro e w4 ⟨rfl, b4⟩
        have B4 := Lib.hid (B3.out.trans (b4.mono B3.out.size))
        have L4 := Lib.hid (L3.out.on b4)
        rw [hP.out]
        clear b4 L3 B3 hO hP
        have hz : ((O ++ s) ++ P).size ≤ 8192 := by rw [ByteArray.size_append, ByteArray.size_append]; omega
        go_wp2_with fail
        refine (Parse_any _ w4 (HT.out.below B4.out) hz).mono ?_
        rintro e w5 ⟨v5, d5, rfl, l5, b5⟩
        replace l5 := Eq.mp (congrArg (fun q => LRx d5 w5 (In w4.heap.size w5) v5 (tree (toks q))) hT.out) l5
        rw [htree.out t t1 t3] at l5
        obtain ⟨A5, c5, hv⟩ := l5.form
        subst hv
        have B5 := Lib.hid (B4.out.trans (b5.mono B4.out.size))
        have L5 := Lib.hid (L4.out.on b5)
        have M5 := Lib.hid (LRx.lx l5)
        clear l5 b5 L4 B4 hT htree
        generalize tree (toks s.data.toList) = L at *
        obtain ⟨OB, hOB⟩ : ∃ O, Obj.cells #[Value.int .i64 6, .int .i64 (t : Int), .string ⟨#[]⟩, .slice A2 L.length c2, .slice none 0 0] 32 = O := ⟨_, rfl⟩
        have b6 : Below w5.heap.size w5 (w5.alloc OB) := (Below.refl _ _).alloc (Nat.le_refl _) _
        have hsz := M5.out.sz
        have NN := Lib.hid (LX.lit (w := w5.alloc OB) (X := fun g => g < (w5.alloc OB).heap.size) (b := w5.heap.size) (k := 6) (t := (t : Int)) (s := ⟨#[]⟩) (by rw [hOB]; exact heap_alloc_new w5 OB) (by simp) (by unfold Fit; omega) (fit_nat (by omega)) (L5.out.on b6) (AX.nil _ _) (by rw [sz_cons, sz_nil] at hsz; exact hsz))
        have MM := Lib.hid (M5.out.on b6)
        have B6 := Lib.hid (B5.out.trans (b6.mono B5.out.size))
        clear b6 hsz L5 M5 B5
        go_wp2_with fail
        refine (equal_same MM.out NN.out).mono ?_
        rintro e w7 ⟨rfl, b7⟩
        have B7 := Lib.hid (B6.out.trans (b7.mono B6.out.size))
        clear b7 MM NN B6
        go_wp2_with fail
        refine (known_any w7 (HT.out.below B7.out)).mono ?_
        rintro e w8 ⟨rfl, b8⟩
        have B8 := Lib.hid (B7.out.trans (b8.mono B7.out.size))
        clear b8
        go_wp2_with fail
        go_ret
        exact ⟨rfl, B8.out⟩
end Go.Proofs.YtdogoblnblkogaaDoor.Pa
