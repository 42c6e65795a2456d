/-
  The contracts of pick, Text, Lead and Replace of package section; where sections lie.
  Replace of package section with a section's own text.
  SectionSame.
-/
import Derived.Test.YtdojbnngdlmbgaaGreatDoorSeC
import Derived.Test.YtdojbnngdlmbgaaGreatDoorSeF2
import Derived.Test.YtdojbnngdlmbgaaGreatDoorSeDk
namespace Go.Proofs.YtdojbnngdlmbgaaGreatDoor.Se
open Go.RowKit Go.Shelf Go.Proofs.YtdojbnngdlmbgaaGreatDoor.Tr
set_option linter.unusedVariables false
set_option linter.unusedSimpArgs false

def hdL (s : ByteArray) : List Hd := hds headOf (plainOf (Pa.tree (Pa.toks s.data.toList))) s.size 0 (lines s.data.toList)
def secL (s : ByteArray) : List Sc := secs s.size (hdL s)
theorem hdL_fine (s : ByteArray) : Fine s.size 0 (hdL s) := hds_fine headOf headOf_nil _ s.size _ s.data.toList 0 rfl (by rw [Nat.zero_add, size_list])
theorem secL_len (s : ByteArray) : (secL s).length = (hdL s).length := secs_length _ _
theorem secL_in {s : ByteArray} {k : Nat} {x : Sc} (h : (secL s)[k]? = some x) : x.fr < s.size ∧ x.fr ≤ x.bo ∧ x.bo ≤ x.to ∧ x.to ≤ s.size :=
  (secs_in (hdL_fine s) x (List.mem_of_getElem? h)).2
theorem fine_drop {size : Nat} : ∀ {l : List Hd} {a k : Nat} {y : Hd}, Fine size a l → l[k]? = some y → ∃ b, y.fr + 1 ≤ b ∧ Fine size b (l.drop (k + 1))
  | [], _, _, _, _, h => by simp at h
  | x :: r, a, 0, y, hf, h => by
    have : x = y := by simpa using h
    subst this
    exact ⟨_, Nat.le_max_right _ _, hf.2.2.2.2⟩
  | x :: r, a, k + 1, y, hf, h => by
    have := fine_drop hf.2.2.2.2 (by simpa using h)
    simpa using this
theorem secL_lt {s : ByteArray} {k : Nat} {x : Sc} (h : (secL s)[k]? = some x) : x.fr < x.to := by
  obtain ⟨y, hy, rfl⟩ := secs_get h
  obtain ⟨b, hb, hf⟩ := fine_drop (hdL_fine s) hy
  have h1 := (endOf_le y.lv hf).2
  have h2 := (secL_in h).1
  simp only at h2 ⊢
  omega
theorem secL_lf {s : ByteArray} {k : Nat} {x : Sc} (h : (secL s)[k]? = some x) : x.to = s.size ∨ s.data.toList[x.to - 1]? = some 10 := by
  have hlt := secL_lt h
  obtain ⟨y, hy, rfl⟩ := secs_get h
  rcases endOf_at s.size y.lv ((hdL s).drop (k + 1)) with e | ⟨z, hz, e⟩
  · exact .inl e
  · have := hds_lf headOf (plainOf (Pa.tree (Pa.toks s.data.toList))) s.size (lines s.data.toList) [] s.data.toList rfl (.inl rfl) z (List.mem_of_mem_drop hz)
    rw [List.nil_append] at this
    simp only at hlt ⊢
    rw [← e] at hlt ⊢
    rcases this with h0 | h1
    · omega
    · exact .inr h1
def agS (x : Sc) : Value := .agg #[.int .i64 (x.lv : Int), .string (bsl x.ti), .int .i64 (x.fr : Int), .int .i64 (x.bo : Int), .int .i64 (x.to : Int)]
theorem bcell {W w1 : World} (hb : Below W.heap.size W w1) : (∀ b o, b < W.heap.size → w1.cell? ⟨b, o, none⟩ = W.cell? ⟨b, o, none⟩) ∧ (∀ b o, b < W.heap.size → w1.frozen? ⟨b, o, none⟩ = W.frozen? ⟨b, o, none⟩) :=
  ⟨fun b o h => hb.cell (p := ⟨b, o, none⟩) h, fun b o h => hb.frozen (p := ⟨b, o, none⟩) h⟩
theorem bxa {w w1 : World} {o : Obj} (hb : Below (w.alloc o).heap.size (w.alloc o) w1) : Below w.heap.size w w1 := ((Below.refl _ w).alloc (Nat.le_refl _) o).trans (hb.mono (by simp))
theorem bl_set5 {w W : World} (h : Below w.heap.size w W) (a b c d e : Value) : Below w.heap.size w (((((W.setCell ⟨w.heap.size, 0, none⟩ a).setCell ⟨w.heap.size, 1, none⟩ b).setCell ⟨w.heap.size, 2, none⟩ c).setCell ⟨w.heap.size, 3, none⟩ d).setCell ⟨w.heap.size, 4, none⟩ e) :=
  ((((h.setCell (p := ⟨w.heap.size, 0, none⟩) (Nat.le_refl _) a).setCell (p := ⟨w.heap.size, 1, none⟩) (Nat.le_refl _) b).setCell (p := ⟨w.heap.size, 2, none⟩) (Nat.le_refl _) c).setCell (p := ⟨w.heap.size, 3, none⟩) (Nat.le_refl _) d).setCell (p := ⟨w.heap.size, 4, none⟩) (Nat.le_refl _) e
set_option maxRecDepth 100000 in
set_option maxHeartbeats 4000000 in
theorem pick_yes (s : ByteArray) (k : Nat) (x : Sc) (hx : (secL s)[k]? = some x) (w : World) (ht : Tk.Tb w) (hs : s.size ≤ 8192) :
    Calls Tryz.prog 46 #[.string s, .int .i64 (k : Int)] w fun e w' => e = .returned (.tuple #[agS x, .int .i64 0]) ∧ Below w.heap.size w w' := by
  have HS := Lib.hid (fun (W : World) (hW : Below w.heap.size w W) => Sections_any s W (ht.below hW) hs)
  rw [show secs s.size (hds headOf (plainOf (Pa.tree (Pa.toks s.data.toList))) s.size 0 (lines s.data.toList)) = secL s from rfl] at HS
  generalize secL s = L at hx HS
  have hk : k < L.length := (List.getElem?_eq_some_iff.1 hx).1
  have hki : (k : Int) < (L.length : Int) := by omega
  have hk0 : ¬ (k : Int) < 0 := by omega
  unfold agS
  obtain ⟨lv, ti, fr, bo, tz⟩ := x
  clear ht
  go_enter Tryz.func46, Tryz.ntmps46
  go_wp2_with fail
  (with_reducible refine (HS.out _ ((Below.refl _ w).alloc (Nat.le_refl _) _)).mono ?_)
  rintro e w1 ⟨v, rfl, o, b⟩
  obtain ⟨A, c, rfl, hc1, hc2, hcl⟩ := o.rd.ex
  unfold maxLen at hc2
  obtain ⟨g, f, rfl, hg, q⟩ := hcl (by omega)
  have q1 := q k _ hx 0 _ rfl
  have q2 := q k _ hx 1 _ rfl
  have q3 := q k _ hx 2 _ rfl
  have q4 := q k _ hx 3 _ rfl
  have q5 := q k _ hx 4 _ rfl
  simp only [Nat.add_zero] at q1 q2 q3 q4 q5
  obtain ⟨hc, hf⟩ := bcell b
  have hz : w.heap.size < w1.heap.size := by have := b.size; simp at this; omega
  have HB := Lib.hid (bxa b)
  clear hcl q o b hx
  go_wp2
  exact bodyPost_ret (v := .tuple #[.agg #[.int .i64 (lv : Int), .string (bsl ti), .int .i64 (fr : Int), .int .i64 (bo : Int), .int .i64 (tz : Int)], .int .i64 0]) (by simp [results, Tryz.results46, go_sem, hc, hz]) rfl ⟨rfl, bl_set5 HB.out _ _ _ _ _⟩
set_option maxRecDepth 100000 in
theorem Text_yes (s : ByteArray) (k : Nat) (x : Sc) (hx : (secL s)[k]? = some x) (w : World) (ht : Tk.Tb w) (hs : s.size ≤ 8192) :
    Calls Tryz.prog 18 #[.string s, .int .i64 (k : Int)] w fun e w' => e = .returned (.tuple #[.string (s.extract x.fr x.to), .int .i64 0]) ∧ Below w.heap.size w w' := by
  have HP := Lib.hid (pick_yes s k x hx w ht hs)
  obtain ⟨h1, h2, h3, h4⟩ := secL_in hx
  unfold agS at HP
  clear hx
  obtain ⟨lv, ti, fr, bo, tz⟩ := x
  simp only at h1 h2 h3 h4 ⊢
  go_enter Tryz.func18, Tryz.ntmps18
  go_wp2_with fail
  (with_reducible refine HP.out.mono ?_)
  rintro e w1 ⟨rfl, b⟩
  have HB := Lib.hid b
  clear b
  go_wp2
  go_ret2
  exact ⟨rfl, HB.out.alloc HB.out.size _⟩
/-- How long the lead is. -/
def ldL (s : ByteArray) : Nat := leadLen s.size (hdL s)
theorem ext_all (s : ByteArray) : s.extract 0 s.size = s := bs_inj (by rw [ext_tail]; rfl)
set_option maxRecDepth 100000 in
theorem Lead_any (s : ByteArray) (w : World) (ht : Tk.Tb w) (hs : s.size ≤ 8192) :
    Calls Tryz.prog 17 #[.string s] w fun e w' => e = .returned (.tuple #[.string (s.extract 0 (ldL s)), .int .i64 0]) ∧ Below w.heap.size w w' := by
  have HS := Lib.hid (Sections_any s w ht hs)
  rw [show secs s.size (hds headOf (plainOf (Pa.tree (Pa.toks s.data.toList))) s.size 0 (lines s.data.toList)) = secL s from rfl] at HS
  by_cases h0 : (secL s).length = 0
  · have e : ldL s = s.size := by
      rw [secL_len] at h0
      unfold ldL
      rw [List.length_eq_zero_iff.1 h0]; rfl
    rw [e, ext_all]
    have he : (((secL s).length : Int) == 0) = true := by rw [beq_iff_eq]; omega
    generalize secL s = L at h0 he HS
    go_enter Tryz.func17, Tryz.ntmps17
    go_wp2_with fail
    (with_reducible refine HS.out.mono ?_)
    rintro e w1 ⟨v, rfl, o, b⟩
    obtain ⟨A, c, rfl, hc1, hc2, hcl⟩ := o.rd.ex
    have HB := Lib.hid b
    clear hcl o b
    go_wp2
    go_ret2
    exact ⟨rfl, HB.out⟩
  · obtain ⟨x, hx⟩ : ∃ x, (secL s)[0]? = some x := ⟨_, List.getElem?_eq_getElem (by omega)⟩
    have e : ldL s = x.fr := by
      obtain ⟨y, hy, rfl⟩ := secs_get hx
      unfold ldL
      cases hl : hdL s with
      | nil => rw [hl] at hy; simp at hy
      | cons z r => rw [hl] at hy; simp at hy; subst hy; rfl
    have hlt := (secL_in hx).1
    rw [e]
    have he : (((secL s).length : Int) == 0) = false := by rw [beq_eq_false_iff_ne]; omega
    have hpos : (0 : Int) < ((secL s).length : Int) := by omega
    generalize secL s = L at h0 he hpos hx HS
    obtain ⟨lv, ti, fr, bo, tz⟩ := x
    simp only at hlt ⊢
    go_enter Tryz.func17, Tryz.ntmps17
    go_wp2_with fail
    (with_reducible refine HS.out.mono ?_)
    rintro e w1 ⟨v, rfl, o, b⟩
    obtain ⟨A, c, rfl, hc1, hc2, hcl⟩ := o.rd.ex
    unfold maxLen at hc2
    obtain ⟨g, f, rfl, hg, q⟩ := hcl (by omega)
    have q1 := q 0 _ hx 0 _ rfl
    have q2 := q 0 _ hx 1 _ rfl
    have q3 := q 0 _ hx 2 _ rfl
    have q4 := q 0 _ hx 3 _ rfl
    have q5 := q 0 _ hx 4 _ rfl
    simp only [Nat.add_zero, Nat.zero_mul] at q1 q2 q3 q4 q5
    have HB := Lib.hid b
    clear hcl q o b hx
    go_wp2
    go_ret2
    exact ⟨rfl, HB.out⟩
/-- A section's own text in its place. -/
theorem own_text {s : ByteArray} {f t : Nat} (h1 : f ≤ t) (h2 : t ≤ s.size) : s.extract 0 f ++ s.extract f t ++ s.extract t s.size = s := by
  apply bs_inj
  rw [ByteArray.data_append, Array.toList_append, ByteArray.data_append, Array.toList_append, ext_list, ext_list, ext_tail, List.drop_zero, Nat.sub_zero]
  exact same_text s.data.toList f t h1 (by rw [size_list]; exact h2)
end Go.Proofs.YtdojbnngdlmbgaaGreatDoor.Se

namespace Go.Proofs.YtdojbnngdlmbgaaGreatDoor.Se
open Go.RowKit Go.Shelf Go.Proofs.YtdojbnngdlmbgaaGreatDoor.Tr
set_option linter.unusedVariables false
set_option linter.unusedSimpArgs false

theorem em_beq (s : ByteArray) : (s.toList == (⟨#[]⟩ : ByteArray).toList) = decide (s.size = 0) := by
  have hz := Lib.size_eq s
  rw [Lib.toList_data, Lib.toList_data]
  by_cases h : s.size = 0
  · have : s.data.toList = [] := by rw [← List.length_eq_zero_iff]; omega
    rw [this, decide_eq_true h]; rfl
  · have : s.data.toList ≠ [] := fun e => h (by rw [e] at hz; simpa using hz)
    rw [decide_eq_false h]
    exact beq_eq_false_iff_ne.2 this
theorem em_emp (s : ByteArray) : s.toList.isEmpty = decide (s.size = 0) := by
  have hz := Lib.size_eq s
  rw [Lib.toList_data]
  by_cases h : s.size = 0
  · have : s.data.toList = [] := by rw [← List.length_eq_zero_iff]; omega
    rw [this, decide_eq_true h]; rfl
  · have : s.data.toList ≠ [] := fun e => h (by rw [e] at hz; simpa using hz)
    rw [decide_eq_false h, List.isEmpty_eq_false_iff]
    exact this
theorem em_app2 (a c : ByteArray) : a ++ (⟨#[]⟩ : ByteArray) ++ c = a ++ c := by
  rw [show (⟨#[]⟩ : ByteArray) = ByteArray.empty from rfl, ByteArray.append_empty]
theorem ext_two {s : ByteArray} {t : Nat} (h : t ≤ s.size) : s.extract 0 t ++ s.extract t s.size = s := by
  apply bs_inj
  rw [ByteArray.data_append, Array.toList_append, ext_list, ext_tail, List.drop_zero, Nat.sub_zero, List.take_append_drop]
theorem em_app (a b c : ByteArray) : a ++ b ++ (⟨#[]⟩ : ByteArray) ++ c = a ++ b ++ c := by
  rw [show (⟨#[]⟩ : ByteArray) = ByteArray.empty from rfl, ByteArray.append_empty]
theorem suffix_lf {l : List UInt8} (h : l.getLast? = some 10) : Lib.hasSuffix l [10] = true := by
  obtain ⟨a, rfl⟩ := List.getLast?_eq_some_iff.1 h
  unfold Lib.hasSuffix
  simp
set_option maxRecDepth 100000 in
set_option maxHeartbeats 4000000 in
theorem Replace_same (s : ByteArray) (k : Nat) (x : Sc) (hx : (secL s)[k]? = some x) (w : World) (ht : Tk.Tb w) (hs : s.size ≤ 8192) :
    Calls Tryz.prog 21 #[.string s, .int .i64 (k : Int), .string (s.extract x.fr x.to)] w fun e w' => e = .returned (.tuple #[.string s, .int .i64 0]) ∧ Below w.heap.size w w' := by
  have HP := Lib.hid (pick_yes s k x hx w ht hs)
  obtain ⟨h1, h2, h3, h4⟩ := secL_in hx
  have hlt := secL_lt hx
  have hlf := secL_lf hx
  have HO := Lib.hid (own_text (s := s) (f := x.fr) (t := x.to) (by omega) h4)
  unfold agS at HP
  clear hx
  obtain ⟨lv, ti, fr, bo, tz⟩ := x
  simp only at h1 h2 h3 h4 hlt hlf HO ⊢
  have zT : (s.extract fr tz).size = tz - fr := by rw [ByteArray.size_extract]; omega
  have HSf := Lib.hid (fun w => Tryz.strings_HasSuffix (s.extract fr tz) ⟨#[10]⟩ w (by omega))
  have eT := em_emp (s.extract fr tz)
  have eT2 := em_beq (s.extract fr tz)
  rw [decide_eq_false (by omega)] at eT eT2
  have zB : (s.extract 0 fr).size = fr := by rw [ByteArray.size_extract]; omega
  have zA : (s.extract tz s.size).size = s.size - tz := by rw [ByteArray.size_extract]; omega
  have hno : Lib.hasSuffix (s.extract fr tz).data.toList [10] = false → tz = s.size := by
    intro hf
    rcases text_lf (s := s.data.toList) (f := fr) (t := tz) hlt (by rw [size_list]; exact h4) (by rw [size_list]; exact hlf) with e | e
    · rw [size_list] at e; exact e
    · rw [ext_list, suffix_lf e] at hf; cases hf
  cases hb : Lib.hasSuffix (s.extract fr tz).data.toList [10] with
  | true =>
    rw [show (⟨#[10]⟩ : ByteArray).data.toList = [10] from rfl, hb] at HSf
    clear hno hlf hb h1 h2 h3
    go_enter Tryz.func21, Tryz.ntmps21
    go_wp2_with fail
    (with_reducible refine HP.out.mono ?_)
    rintro e w1 ⟨rfl, b⟩
    have HB := Lib.hid (b.alloc b.size (.cells #[.int .i64 (lv : Int), .string (bsl ti), .int .i64 (fr : Int), .int .i64 (bo : Int), .int .i64 (tz : Int)] 40))
    clear b HP
    go_wp2_with fail
    go_quiet (fail)
    go_wp2_with fail
    (with_reducible refine (HSf.out _).mono ?_)
    rintro e w2 ⟨rfl, rfl⟩
    go_wp2
    go_ret2
    refine ⟨?_, ?_⟩
    · show Ending.returned (.tuple #[.string (s.extract 0 (max fr tz) ++ ⟨#[]⟩ ++ s.extract tz s.size), .int .i64 0]) = _
      rw [em_app2, Nat.max_eq_right (by omega), ext_two (by omega)]
    · exact HB.out.trans ((below_drewN (Below.refl _ _) _).mono HB.out.size)
  | false =>
    obtain rfl : tz = s.size := hno hb
    rw [show (⟨#[10]⟩ : ByteArray).data.toList = [10] from rfl, hb] at HSf
    clear hno hlf hb h1 h2 h3
    go_enter Tryz.func21, Tryz.ntmps21
    go_wp2_with fail
    (with_reducible refine HP.out.mono ?_)
    rintro e w1 ⟨rfl, b⟩
    have HB := Lib.hid (b.alloc b.size (.cells #[.int .i64 (lv : Int), .string (bsl ti), .int .i64 (fr : Int), .int .i64 (bo : Int), .int .i64 (s.size : Int)] 40))
    clear b HP
    go_wp2_with fail
    go_quiet (fail)
    go_wp2_with fail
    (with_reducible refine (HSf.out _).mono ?_)
    rintro e w2 ⟨rfl, rfl⟩
    go_wp2
    go_ret2
    refine ⟨?_, ?_⟩
    · show Ending.returned (.tuple #[.string (s ++ ⟨#[]⟩), .int .i64 0]) = _
      rw [show (⟨#[]⟩ : ByteArray) = ByteArray.empty from rfl, ByteArray.append_empty]
    · exact HB.out.trans ((below_drewN (Below.refl _ _) _).mono HB.out.size)
end Go.Proofs.YtdojbnngdlmbgaaGreatDoor.Se

namespace Go.Proofs.YtdojbnngdlmbgaaGreatDoor.Se
open Go.RowKit Go.Shelf Go.Proofs.YtdojbnngdlmbgaaGreatDoor.Tr
set_option linter.unusedVariables false
set_option linter.unusedSimpArgs false

theorem i64_and16 (n : Int) : bits .and .i64 n 65535 = n % 65536 := by
  have h7 : (BitVec.ofInt 64 65535).toNat = 2 ^ 16 - 1 := by decide
  have key : (BitVec.ofInt 64 n &&& BitVec.ofInt 64 65535).toNat = (n % ((2 ^ 64 : Nat) : Int)).toNat % 2 ^ 16 := by
    rw [BitVec.toNat_and, BitVec.toNat_ofInt, h7, Nat.and_two_pow_sub_one_eq_mod]
  show IntKind.i64.wrap ((BitVec.ofInt 64 n &&& BitVec.ofInt 64 65535).toNat : Nat) = n % 65536
  rw [key, IntKind.wrap_i64]
  omega
theorem Text_2 (w0 : World) (A : Option Addr) (n c b : Nat) (hs : Sl w0 A n c) (W : World) (h : Tp w0 A n c b W) :
    Calls Tryz.prog 10 #[.pointer (some ⟨b, 0, none⟩), .int .i64 2] W (TxP w0 A n c b 8192) :=
  (Text_any w0 A n c b hs 2 (by omega) W h).mono fun e W' ⟨x, h1, h2, h3⟩ => ⟨x, Nat.le_trans h1 (by decide), h2, h3⟩
theorem Sections_L (s : ByteArray) (w : World) (ht : Tk.Tb w) (hs : s.size ≤ 8192) :
    Calls Tryz.prog 16 #[.string s] w fun e w' => ∃ A c, e = .returned (.tuple #[.slice A (secL s).length c, .int .i64 0]) ∧ Rd 5 encSc w' w'.heap.size (.slice A (secL s).length c) (secL s) ∧ (secL s).length ≤ c ∧ c ≤ 9223372036854775807 ∧ Below w.heap.size w w' := by
  refine (Sections_any s w ht hs).mono ?_
  rintro e w' ⟨v, rfl, o, b⟩
  have hr : Rd 5 encSc w' w'.heap.size v (secL s) := o.rd
  obtain ⟨A, c, rfl, h1, h2, h3⟩ := hr.ex
  exact ⟨A, c, rfl, hr, h1, by unfold maxLen at h2; omega, b⟩
set_option maxRecDepth 100000 in
set_option maxHeartbeats 4000000 in
theorem SectionSame_any (A : Option Addr) (n c : Nat) (i : Int) (w : World) (hs : Sl w A n c) (hT : Tk.Tb w) :
    Calls Tryz.prog 6 #[.slice A n c, .int .i64 i] w fun e w' => e = .returned (.bool true) ∧ Below w.heap.size w w' := by
  have HK := Lib.hid (fun (W : World) (hW : Below w.heap.size w W) => known_any W (hT.below hW))
  have HTb := Lib.hid (fun (W : World) (hW : Below w.heap.size w W) => hT.below hW)
  have HS := Lib.hid hs
  have hle := hs.le
  have hmx := hs.mx
  unfold maxLen at hmx
  have hand := i64_and16 i
  obtain ⟨m, hm⟩ : ∃ m : Nat, i % 65536 = (m : Int) := ⟨(i % 65536).toNat, by omega⟩
  rw [hm] at hand
  have hmz : m < 65536 := by omega
  clear hs hT hm
  go_enter Tryz.func6, Tryz.ntmps6
  go_wp2_with fail
  (with_reducible refine (New_any A n c w).mono ?_)
  rintro e w1 ⟨rfl, ht1⟩
  have HT2 := Lib.hid (Text_2 w A n c w.heap.size HS.out w1 ht1)
  unfold TxP at HT2
  clear ht1
  go_wp2_with fail
  (with_reducible refine HT2.out.mono ?_)
  rintro e w2 ⟨s, hsz, rfl, ht2⟩
  have B2 := Lib.hid ht2.bl
  clear ht2 HT2
  go_wp2_with fail
  (with_reducible refine (Sections_L s w2 (HTb.out _ B2.out) hsz).mono ?_)
  rintro e w3 ⟨A3, c3, rfl, hr3, hc3, hm3, b3⟩
  have B3 := Lib.hid (B2.out.trans (b3.mono B2.out.size))
  clear b3 hr3
  obtain ⟨L, hL⟩ : ∃ L, (secL s).length = L := ⟨_, rfl⟩
  rw [hL] at hc3 ⊢
  have HLn := Lib.hid hL
  clear hL
  by_cases h1 : 1500 < s.size
  · have d1 : (1500 : Int) < (s.size : Int) := by omega
    go_wp2_with fail
    (with_reducible refine (HK.out _ B3.out).mono ?_)
    rintro e w4 ⟨rfl, b4⟩
    have B4 := Lib.hid (B3.out.trans (b4.mono B3.out.size))
    clear b4
    go_wp2
    go_ret
    exact ⟨rfl, B4.out⟩
  have d1 : ¬ (1500 : Int) < (s.size : Int) := by omega
  by_cases h0 : L = 0
  · have d0 : ((L : Int) == 0) = true := by rw [beq_iff_eq]; omega
    go_wp2_with fail
    (with_reducible refine (HK.out _ B3.out).mono ?_)
    rintro e w4 ⟨rfl, b4⟩
    have B4 := Lib.hid (B3.out.trans (b4.mono B3.out.size))
    clear b4
    go_wp2
    go_ret
    exact ⟨rfl, B4.out⟩
  have d0 : ((L : Int) == 0) = false := by rw [beq_eq_false_iff_ne]; omega
  have hL0 : 0 < L := by omega
  obtain ⟨k, hk⟩ : ∃ k, m % L = k := ⟨_, rfl⟩
  have hkL : k < L := by have := Nat.mod_lt m hL0; omega
  have hrem : (m : Int).tmod (L : Int) = (k : Int) := by rw [← hk]; rfl
  have hnz : ¬ ((L : Int) = 0) := by omega
  clear hk
  obtain ⟨x, hx⟩ : ∃ x, (secL s)[k]? = some x := ⟨_, List.getElem?_eq_getElem (by rw [HLn.out]; exact hkL)⟩
  have HX := Lib.hid hx
  have hss : (s.toList == s.toList) = true := by simp
  have HT4 := Lib.hid (fun (W : World) (hW : Below w.heap.size w W) => Text_yes s k x hx W (HTb.out W hW) hsz)
  have HR4 := Lib.hid (fun (W : World) (hW : Below w.heap.size w W) => Replace_same s k x hx W (HTb.out W hW) hsz)
  clear hx
  go_wp2_with fail
  (with_reducible refine (HT4.out _ B3.out).mono ?_)
  rintro e w4 ⟨rfl, b4⟩
  have B4 := Lib.hid (B3.out.trans (b4.mono B3.out.size))
  clear b4 B3
  go_wp2_with fail
  (with_reducible refine (HR4.out _ B4.out).mono ?_)
  rintro e w5 ⟨rfl, b5⟩
  have B5 := Lib.hid (B4.out.trans (b5.mono B4.out.size))
  clear b5 B4
  go_wp2_with fail
  (with_reducible refine (HK.out _ B5.out).mono ?_)
  rintro e w6 ⟨rfl, b6⟩
  have B6 := Lib.hid (B5.out.trans (b6.mono B5.out.size))
  clear b6 B5
  go_wp2
  go_ret
  exact ⟨rfl, B6.out⟩
end Go.Proofs.YtdojbnngdlmbgaaGreatDoor.Se
