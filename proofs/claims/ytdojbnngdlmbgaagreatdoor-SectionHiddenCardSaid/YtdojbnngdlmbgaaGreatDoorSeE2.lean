/-
  Headings by their numbers of "=": plain, by the kernel.
  Texts whose tree holds no text of its own have no sections: plain.
  SectionHidden.
-/
import Derived.Test.YtdojbnngdlmbgaaGreatDoorSeC
import Derived.Test.YtdojbnngdlmbgaaGreatDoorPaG
import Derived.Test.YtdojbnngdlmbgaaGreatDoorSeDk
namespace Go.Proofs.YtdojbnngdlmbgaaGreatDoor.Se
set_option linter.unusedVariables false

def nmS : Nat → By | 0 => [120] | 1 => [97, 32, 98] | 2 => [49] | _ => [120, 61, 121]
def blS : Nat → By | 0 => [] | 1 => [32] | 2 => [9] | _ => [32, 32]
def hdT (A B i j : Nat) : By := (((((List.replicate A 61 ++ blS j) ++ nmS i) ++ blS j) ++ List.replicate B 61) ++ blS j) ++ [10]
def hdW (A B i j : Nat) : By := (((List.replicate (A - min A (min B 6)) 61 ++ blS j) ++ nmS i) ++ blS j) ++ List.replicate (B - min A (min B 6)) 61
def scB (a b : Sc) : Bool := a.lv == b.lv && a.ti == b.ti && a.fr == b.fr && a.bo == b.bo && a.to == b.to
theorem scB_eq {a b : Sc} (h : scB a b = true) : a = b := by
  obtain ⟨a1, a2, a3, a4, a5⟩ := a
  obtain ⟨b1, b2, b3, b4, b5⟩ := b
  unfold scB at h
  simp at h
  obtain ⟨⟨⟨⟨rfl, rfl⟩, rfl⟩, rfl⟩, rfl⟩ := h
  rfl
def headings (s : By) : List Sc := secs s.length (hds headOf (plainOf (Pa.tree (Pa.toks s))) s.length 0 (lines s))
def okH (A B i j : Nat) : Bool := match headings (hdT A B i j) with
  | [x] => scB x ⟨min A (min B 6), Lib.trimS (hdW A B i j) bl, 0, (hdT A B i j).length, (hdT A B i j).length⟩
  | _ => false
theorem allH : ((List.range 8).all fun a => (List.range 8).all fun b => (List.range 4).all fun i => (List.range 4).all fun j => okH (a + 1) (b + 1) i j) = true := by kernel_rfl
theorem heads (a b i j : Nat) (ha : a < 8) (hb : b < 8) (hi : i < 4) (hj : j < 4) : headings (hdT (a + 1) (b + 1) i j) = [⟨min (a + 1) (min (b + 1) 6), Lib.trimS (hdW (a + 1) (b + 1) i j) bl, 0, (hdT (a + 1) (b + 1) i j).length, (hdT (a + 1) (b + 1) i j).length⟩] := by
  have h := allH
  rw [List.all_eq_true] at h
  have h1 := h a (List.mem_range.2 ha)
  rw [List.all_eq_true] at h1
  have h2 := h1 b (List.mem_range.2 hb)
  rw [List.all_eq_true] at h2
  have h3 := h2 i (List.mem_range.2 hi)
  rw [List.all_eq_true] at h3
  have h4 := h3 j (List.mem_range.2 hj)
  clear h h1 h2 h3
  unfold okH at h4
  split at h4
  · rename_i x hx
    rw [hx, scB_eq h4]
  · cases h4
end Go.Proofs.YtdojbnngdlmbgaaGreatDoor.Se

namespace Go.Proofs.YtdojbnngdlmbgaaGreatDoor.Se
open Go.Proofs.YtdojbnngdlmbgaaGreatDoor.Tr Go.Proofs.YtdojbnngdlmbgaaGreatDoor.Pa
set_option linter.unusedVariables false

def NoT (l : List Nd) : Prop := ∀ n ∈ l, n.kind ≠ 1
theorem plainOf_no {l : List Nd} (h : NoT l) : plainOf l = List.replicate (src l).length false := by
  induction l with
  | nil => simp [plainOf, src_nil]
  | cons n r ih =>
    have h1 := ih (fun x hx => h x (List.mem_cons_of_mem _ hx))
    have h2 : (n.kind == 1) = false := by simpa using h n List.mem_cons_self
    unfold plainOf at *
    rw [List.flatMap_cons, h1, src_cons, List.length_append, plN, h2, List.replicate_append_replicate]
theorem hds_no_plain (n : Nat) : ∀ (l : List By) (a : Nat), a + tot l = n + 1 → hds headOf (List.replicate n false) n a l = []
  | [], _, _ => rfl
  | x :: r, a, h => by
    rw [tot] at h
    have ih := hds_no_plain n r (a + x.length + 1) (by omega)
    cases hh : headOf x with
    | none => rw [hds_no hh, ih]
    | some vt =>
      obtain ⟨v, t⟩ := vt
      have hx : 0 < x.length := by
        rcases Nat.eq_zero_or_pos x.length with h0 | h0
        · rw [List.eq_nil_of_length_eq_zero h0, headOf_nil] at hh; cases hh
        · exact h0
      rw [hds_skip hh, ih]
      rw [List.drop_replicate, List.take_replicate, List.contains_iff_mem]
      exact List.mem_replicate.2 ⟨by omega, rfl⟩
theorem headings_no {s : By} (h : NoT (tree (toks s))) : headings s = [] := by
  unfold headings
  rw [plainOf_no h, src_parse, hds_no_plain s.length (lines s) 0 (by rw [Nat.zero_add, tot_lines])]
  rfl
theorem tree_nine (S : By) (t : Int) : tree [(9, S, t)] = [.mk 2 0 ⟨S.toArray⟩ [] []] := by
  show join [Nd.mk 2 0 ⟨S.toArray⟩ [] []] = _
  rw [join_cons, join_nil, joinN, if_neg (by decide), join_nil, joinA_nil]
/-! ### A comment -/
theorem index_end : ∀ s : By, (62 : UInt8) ∉ s → Lib.index (s ++ [45, 45, 62]) [45, 45, 62] = (s.length : Int)
  | [], _ => by decide
  | c :: s, h => by
    have ih := index_end s (fun q => h (List.mem_cons_of_mem _ q))
    have hp : List.isPrefixOf [45, 45, 62] (c :: (s ++ [45, 45, 62])) = false := by
      match s, h with
      | [], _ => simp [List.isPrefixOf]
      | [d], _ => simp [List.isPrefixOf]
      | d :: e :: r, h =>
        have : e ≠ 62 := fun q => h (by rw [q]; simp)
        simp [List.isPrefixOf]
        intro _ _ q
        exact absurd q.symm this
    rw [List.cons_append, Lib.index, hp, ih]
    simp
theorem tree_comment {s : By} (h : (62 : UInt8) ∉ s) : NoT (tree (toks ([60, 33, 45, 45] ++ (s ++ [45, 45, 62])))) := by
  have hu : Tk.upTo ([60, 33, 45, 45] ++ (s ++ [45, 45, 62])) Tk.cO Tk.cE = s.length + 7 := by
    unfold Tk.upTo
    rw [show ([60, 33, 45, 45] ++ (s ++ [45, 45, 62]) : By).drop Tk.cO.length = s ++ [45, 45, 62] from rfl, show Tk.cE = [45, 45, 62] from rfl, index_end s h, if_neg (by omega), show Tk.cO.length = 4 from rfl]
    simp; omega
  have hm : Tk.mark ([60, 33, 45, 45] ++ (s ++ [45, 45, 62])) = (9, s.length + 7) := by
    show Tk.angle ([60, 33, 45, 45] ++ (s ++ [45, 45, 62])) = _
    unfold Tk.angle
    rw [if_pos (by rfl), hu, if_neg (by omega)]
  have hl : ([60, 33, 45, 45] ++ (s ++ [45, 45, 62]) : By).length = s.length + 7 := by simp
  have ht : toks ([60, 33, 45, 45] ++ (s ++ [45, 45, 62])) = [tk ([60, 33, 45, 45] ++ (s ++ [45, 45, 62])) (9, 0, s.length + 7)] := by
    unfold toks
    rw [Tk.scan_yes (by rw [hl]; omega) (by rw [List.drop_zero, hm]; show ¬ s.length + 7 = 0; omega), List.drop_zero, hm]
    simp only [Nat.zero_add]
    rw [Tk.scan_end (by rw [hl]; omega), hl]
    simp [Tk.gap]
  rw [ht]
  unfold tk
  rw [tree_nine]
  intro n hn
  rw [List.mem_singleton.1 hn]
  exact (show (2 : Int) ≠ 1 by decide)
/-! ### A call -/
theorem mark_one {c : UInt8} {r : By} (h : Mild c) : (Tk.mark (c :: r)).2 ≤ 1 := by
  obtain ⟨h1, h2, h3, h4, h5⟩ := h
  unfold Tk.mark
  simp only
  rw [if_neg h1, if_neg h2, if_neg h3, if_neg h4, if_neg h5]
  split
  · exact Nat.le_refl _
  · split
    · exact Nat.le_refl _
    · split
      · exact Nat.le_refl _
      · exact Nat.zero_le _
theorem scan_call {p : By} {i0 : Nat} (h : ∀ j (hj : j < p.length), i0 ≤ j → Mild p[j]) : ∀ (n text i : Nat), p.length - i ≤ n → i0 ≤ i → i ≤ p.length →
    ∃ mid, Tk.scanL (p ++ [125, 125]) text i = mid ++ [(4, p.length, p.length + 2)] ∧ ∀ x ∈ mid, Kd x.1 := by
  have hl : (p ++ [125, 125] : By).length = p.length + 2 := by simp
  have stop : ∀ text, ∃ mid, Tk.scanL (p ++ [125, 125]) text p.length = mid ++ [(4, p.length, p.length + 2)] ∧ ∀ x ∈ mid, Kd x.1 := by
    intro text
    have hm : Tk.mark ((p ++ [125, 125]).drop p.length) = (4, 2) := by rw [List.drop_left]; rfl
    refine ⟨Tk.gap text p.length, ?_, gap_kd _ _⟩
    rw [Tk.scan_yes (by omega) (by rw [hm]; decide), hm, Tk.scan_end (by rw [hl]; show ¬ p.length + 2 < p.length + 2; omega), hl]
    simp [Tk.gap]
  intro n
  induction n with
  | zero =>
    intro text i hn h0 hi
    obtain rfl : i = p.length := by omega
    exact stop text
  | succ n ih =>
    intro text i hn h0 hi
    by_cases hlt : i < p.length
    · have hd : (p ++ [125, 125] : By).drop i = p[i] :: (p ++ [125, 125]).drop (i + 1) := by
        rw [List.drop_eq_getElem_cons (by omega), List.getElem_append_left hlt]
      have hM := h i hlt h0
      by_cases hz : (Tk.mark ((p ++ [125, 125]).drop i)).2 = 0
      · rw [Tk.scan_no (by omega) hz]; exact ih text (i + 1) (by omega) (by omega) (by omega)
      · have h1 : (Tk.mark ((p ++ [125, 125]).drop i)).2 = 1 := by
          have := mark_one (r := (p ++ [125, 125]).drop (i + 1)) hM
          rw [← hd] at this; omega
        obtain ⟨mid, e1, e2⟩ := ih (i + 1) (i + 1) (by omega) (by omega) (by omega)
        refine ⟨Tk.gap text i ++ ((Tk.mark ((p ++ [125, 125]).drop i)).1, i, i + 1) :: mid, ?_, fun x hx => ?_⟩
        · rw [Tk.scan_yes (by omega) hz, h1, e1]; simp
        · rw [List.mem_append, List.mem_cons] at hx
          rcases hx with hx | rfl | hx
          · exact gap_kd _ _ x hx
          · rw [hd] at hz ⊢; exact mark_mild hM hz
          · exact e2 x hx
    · obtain rfl : i = p.length := by omega
      exact stop text
theorem take_in {e : El} {k : Nat} {s : By} {t : Int} (h : e.kind = 3) (hk : Kd k) : ∃ e', take [e, root] k s t = [e', root] ∧ e'.kind = 3 ∧ e'.op = e.op := by
  have hadd : ∃ e', Pa.addT [e, root] s = [e', root] ∧ e'.kind = 3 ∧ e'.op = e.op := by
    refine ⟨addE e [Pa.tx s], rfl, ?_, ?_⟩ <;> (unfold addE; split <;> first | exact h | rfl)
  rcases hk with rfl | rfl | rfl | rfl
  · exact hadd
  · exact hadd
  · refine ⟨{ e with args := e.args ++ [.mk false [] []] }, ?_, h, rfl⟩
    show bar [e, root] s = _
    exact if_pos h
  · show ∃ e', equal [e, root] s = [e', root] ∧ _
    cases hn : lastNamed e.args
    · exact ⟨{ e with args := nameA e.args }, if_neg (by rw [hn]; exact Bool.false_ne_true), h, rfl⟩
    · rw [show equal [e, root] s = Pa.addT [e, root] s from if_pos hn]
      exact hadd
theorem takes_in : ∀ (l : List (Nat × By × Int)) {e : El}, e.kind = 3 → (∀ x ∈ l, Kd x.1) → ∃ e', takes l [e, root] = [e', root] ∧ e'.kind = 3 ∧ e'.op = e.op
  | [], e, h, _ => ⟨e, rfl, h, rfl⟩
  | x :: l, e, h, hk => by
    obtain ⟨e1, a1, a2, a3⟩ := take_in (s := x.2.1) (t := x.2.2) h (hk x List.mem_cons_self)
    obtain ⟨e2, b1, b2, b3⟩ := takes_in l a2 (fun y hy => hk y (List.mem_cons_of_mem _ hy))
    refine ⟨e2, ?_, b2, b3.trans a3⟩
    show takes l (take [e, root] x.1 x.2.1 x.2.2) = _
    rw [a1, b1]
theorem close_in {e : El} {t : Int} (h : e.kind = 3) (ho : e.op = [123, 123]) : take [e, root] 4 [125, 125] t = [{ root with nodes := [Pa.tx [], .mk 4 0 ⟨#[]⟩ e.nodes e.args, Pa.tx []] }] := by
  obtain ⟨k, o, tg, ns, ars⟩ := e
  simp only at h ho
  subst h ho
  rfl
theorem tree_call {q : By} (h : ∀ c ∈ q, Mild c) : NoT (tree (toks ([123, 123] ++ q ++ [125, 125]))) := by
  have hm : Tk.mark ([123, 123] ++ q ++ [125, 125]) = (3, 2) := by
    have hr : Tk.run 123 ([123, 123] ++ q ++ [125, 125]) = 2 := by
      unfold Tk.run
      cases q with
      | nil => rfl
      | cons c r =>
        have hc := (h c List.mem_cons_self).2.1
        simp [hc]
    show Tk.braces 123 3 ([123, 123] ++ q ++ [125, 125]) = _
    unfold Tk.braces
    rw [hr, if_neg (by omega)]
  have hl : ([123, 123] ++ q : By).length = q.length + 2 := by simp
  obtain ⟨mid, e1, e2⟩ := scan_call (p := [123, 123] ++ q) (i0 := 2) (fun j hj h2 => by
    rw [List.getElem_append_right (by simpa using h2)]
    exact h _ (List.getElem_mem _)) _ 2 2 (Nat.le_refl _) (Nat.le_refl _) (by omega)
  have et : toks ([123, 123] ++ q ++ [125, 125]) = tk ([123, 123] ++ q ++ [125, 125]) (3, 0, 2) :: (mid.map (tk ([123, 123] ++ q ++ [125, 125])) ++ [tk ([123, 123] ++ q ++ [125, 125]) (4, ([123, 123] ++ q).length, ([123, 123] ++ q).length + 2)]) := by
    unfold toks
    rw [Tk.scan_yes (by simp) (by rw [List.drop_zero, hm]; decide), List.drop_zero, hm]
    simp only [Nat.zero_add]
    rw [e1]
    simp [Tk.gap]
  have k0 : (tk ([123, 123] ++ q ++ [125, 125]) (3, 0, 2)) = (3, [123, 123], (tk ([123, 123] ++ q ++ [125, 125]) (3, 0, 2)).2.2) := rfl
  have k9 : (tk ([123, 123] ++ q ++ [125, 125]) (4, ([123, 123] ++ q).length, ([123, 123] ++ q).length + 2)) = (4, [125, 125], (tk ([123, 123] ++ q ++ [125, 125]) (4, ([123, 123] ++ q).length, ([123, 123] ++ q).length + 2)).2.2) := by
    unfold tk
    simp
  generalize (tk ([123, 123] ++ q ++ [125, 125]) (3, 0, 2)).2.2 = t0 at k0
  generalize (tk ([123, 123] ++ q ++ [125, 125]) (4, ([123, 123] ++ q).length, ([123, 123] ++ q).length + 2)).2.2 = t9 at k9
  rw [k0, k9] at et
  obtain ⟨e, a1, a2, a3⟩ := takes_in (mid.map (tk ([123, 123] ++ q ++ [125, 125]))) (e := ⟨3, [123, 123], 0, [], []⟩) rfl (fun x hx => by
    obtain ⟨y, hy, rfl⟩ := List.mem_map.1 hx
    exact e2 y hy)
  have ht : takes (toks ([123, 123] ++ q ++ [125, 125])) [root] = [{ root with nodes := [Pa.tx [], .mk 4 0 ⟨#[]⟩ e.nodes e.args, Pa.tx []] }] := by
    rw [et]
    show takes (mid.map (tk ([123, 123] ++ q ++ [125, 125])) ++ [(4, [125, 125], t9)]) [⟨3, [123, 123], 0, [], []⟩, root] = _
    unfold takes at a1 ⊢
    rw [List.foldl_append, a1]
    exact close_in (t := t9) a2 a3
  unfold tree
  rw [ht]
  intro n hn
  have : join [Pa.tx [], Nd.mk 4 0 ⟨#[]⟩ e.nodes e.args, Pa.tx []] = [Nd.mk 4 0 ⟨#[]⟩ (join e.nodes) (joinA e.args)] := by
    rw [join_cons, join_cons, join_cons, join_nil]
    rfl
  rw [show join (nodesOf (flats (([{ root with nodes := [Pa.tx [], .mk 4 0 ⟨#[]⟩ e.nodes e.args, Pa.tx []] }] : List El).length - 1) [{ root with nodes := [Pa.tx [], .mk 4 0 ⟨#[]⟩ e.nodes e.args, Pa.tx []] }])) = join [Pa.tx [], Nd.mk 4 0 ⟨#[]⟩ e.nodes e.args, Pa.tx []] from rfl, this] at hn
  rw [List.mem_singleton.1 hn]
  exact (show (4 : Int) ≠ 1 by decide)
end Go.Proofs.YtdojbnngdlmbgaaGreatDoor.Se

namespace Go.Proofs.YtdojbnngdlmbgaaGreatDoor.Se
open Go.RowKit Go.Shelf Go.Proofs.YtdojbnngdlmbgaaGreatDoor.Tr Go.Proofs.YtdojbnngdlmbgaaGreatDoor.Pa
set_option linter.unusedVariables false
set_option linter.unusedSimpArgs false

theorem any_none {c : By} : ∀ {l : By}, Lib.indexAny l c < 0 → ∀ x ∈ l, ¬ x ∈ c
  | [], _, x, hx => by cases hx
  | a :: l, h, x, hx => by
    have hg := Lib.indexAny_ge c l
    rw [Lib.indexAny] at h
    by_cases ha : c.contains a = true
    · rw [if_pos ha] at h; omega
    · rw [if_neg ha] at h
      have hl : Lib.indexAny l c < 0 := by
        by_cases h1 : Lib.indexAny l c = -1
        · omega
        · rw [if_neg (fun e => h1 (beq_iff_eq.1 e))] at h; omega
      rcases List.mem_cons.1 hx with rfl | hx
      · exact fun hm => ha (List.contains_iff_mem.2 hm)
      · exact any_none hl x hx
theorem has_no {l c : By} (h : Lib.containsAny l c = false) {x : UInt8} (hx : x ∈ c) : ∀ y ∈ l, y ≠ x := by
  have h1 : Lib.indexAny l c < 0 := by have := of_decide_eq_false h; omega
  intro y hy q
  subst q
  exact any_none h1 _ hy hx
theorem asc_all {s : ByteArray} (h : ∀ b ∈ s.data.toList, b.toNat < 128) : Asc s := fun j b hj => h b (List.mem_of_getElem? hj)
theorem tree_tagged {s : By} (h : ∀ c ∈ s, Mild c) : NoT (tree (toks (Tk.tO 1 ++ (s ++ Tk.tE 1)))) := by
  have ho : opens (toks s) = 0 := by
    unfold opens
    rw [List.length_eq_zero_iff, List.filter_eq_nil_iff]
    intro x hx
    unfold toks at hx
    obtain ⟨y, hy, rfl⟩ := List.mem_map.1 hx
    have := scan_mild (s := s) (i0 := 0) (fun j hj _ => h _ (List.getElem_mem hj)) s.length 0 0 (Nat.le_refl _) (by omega) y hy
    show ¬ opn? y.1 = true
    unfold opn?
    rcases this with q | q | q | q <;> (rw [q]; decide)
  rw [tree_tag (fun c hc => (h c hc).1) (by decide) (by decide) (by omega)]
  intro n hn
  rw [List.mem_singleton.1 hn]
  exact (show (6 : Int) ≠ 1 by decide)
theorem mild_a : ∀ c ∈ ([120, 124, 10] : By), Mild c := by unfold Mild; decide
theorem mild_b : ∀ c ∈ ([10] : By), Mild c := by unfold Mild; decide
theorem app_size {s : ByteArray} (hs : s.size ≤ 500) (a b : ByteArray) (ha : a.size ≤ 20) (hb : b.size ≤ 20) : (a ++ s ++ b).size ≤ 8192 := by
  rw [ByteArray.size_append, ByteArray.size_append]; omega
theorem app_list (a b : ByteArray) : (a ++ b).data.toList = a.data.toList ++ b.data.toList := by simp
/-- A text without sections. -/
theorem Sections_nil (s : ByteArray) (w : World) (ht : Tk.Tb w) (hs : s.size ≤ 8192) {t : By} (h : s.data.toList = t) (hn : NoT (tree (toks t))) :
    Calls Tryz.prog 16 #[.string s] w fun e w' => ∃ A c, e = .returned (.tuple #[.slice A 0 c, .int .i64 0]) ∧ Below w.heap.size w w' := by
  subst h
  refine (Sections_any s w ht hs).mono ?_
  rintro e w' ⟨v, rfl, o, b⟩
  have hh := headings_no hn
  unfold headings at hh
  rw [size_list] at hh
  rw [hh] at o
  obtain ⟨A, c, e1, _⟩ := o.rd.ex
  exact ⟨A, c, by rw [e1]; rfl, b⟩
set_option maxRecDepth 100000 in
set_option maxHeartbeats 4000000 in
theorem SectionHidden_any (s : ByteArray) (w : World) (ht : Tk.Tb w) : Calls Tryz.prog 7 #[.string s] w fun e w' => e = .returned (.bool true) ∧ Below w.heap.size w w' := by
  have HT := Lib.hid ht
  clear ht
  by_cases h : 500 < s.size
  · have h1 : decide ((500 : Int) < (s.size : Int)) = true := decide_eq_true (by omega)
    have HK := Lib.hid (known_any w HT.out)
    clear h
    go_enter Tryz.func7, Tryz.ntmps7
    go_wp2_with fail
    with_reducible refine (HK.out).mono ?_
    rintro e w1 ⟨rfl, hb⟩
    go_wp2_with fail
    go_ret
    exact ⟨rfl, hb⟩
  have h1 : decide ((500 : Int) < (s.size : Int)) = false := decide_eq_false (by omega)
  have HC := Lib.hid (Pa.ContainsAny_any s ⟨#[123, 125, 91, 93, 60, 62]⟩ w (asc_all (by decide)) (by decide) (by decide) (by omega))
  cases hin : Lib.containsAny s.data.toList (⟨#[123, 125, 91, 93, 60, 62]⟩ : ByteArray).data.toList with
  | true =>
    rw [hin] at HC
    clear hin h
    go_enter Tryz.func7, Tryz.ntmps7
    go_wp2_with fail
    with_reducible refine (HC.out).mono ?_
    rintro e w1 ⟨rfl, hb1⟩
    have HK := Lib.hid (known_any w1 (HT.out.below hb1))
    go_wp2_with fail
    with_reducible refine (HK.out).mono ?_
    rintro e w2 ⟨rfl, hb2⟩
    go_wp2_with fail
    go_ret
    exact ⟨rfl, hb1.trans (hb2.mono hb1.size)⟩
  | false =>
    have hm : ∀ c ∈ s.data.toList, Mild c := fun c hc => ⟨has_no hin (x := 60) (by decide) c hc, has_no hin (x := 123) (by decide) c hc, has_no hin (x := 125) (by decide) c hc, has_no hin (x := 91) (by decide) c hc, has_no hin (x := 93) (by decide) c hc⟩
    have hg : (62 : UInt8) ∉ s.data.toList := fun q => has_no hin (x := 62) (by decide) _ q rfl
    obtain ⟨X1, hX1⟩ : ∃ X : ByteArray, X = (⟨#[60, 33, 45, 45]⟩ : ByteArray) ++ s ++ ⟨#[45, 45, 62]⟩ := ⟨_, rfl⟩
    have q1 : NoT (tree (toks X1.data.toList)) := by
      rw [hX1]
      rw [app_list, app_list, List.append_assoc]; exact tree_comment hg
    have z1 : X1.size ≤ 8192 := by rw [hX1]; exact app_size (by omega) _ _ (by show 4 ≤ 20; omega) (by show 3 ≤ 20; omega)
    have H1 := Lib.hid (fun w ht => Sections_nil X1 w ht z1 rfl q1)
    clear q1 z1
    subst hX1
    obtain ⟨X2, hX2⟩ : ∃ X : ByteArray, X = (⟨#[123, 123, 120, 124, 10]⟩ : ByteArray) ++ s ++ ⟨#[10, 125, 125]⟩ := ⟨_, rfl⟩
    have q2 : NoT (tree (toks X2.data.toList)) := by
      rw [hX2]
      rw [app_list, app_list]
      have e : ((⟨#[123, 123, 120, 124, 10]⟩ : ByteArray).data.toList ++ s.data.toList ++ (⟨#[10, 125, 125]⟩ : ByteArray).data.toList) = [123, 123] ++ ([120, 124, 10] ++ (s.data.toList ++ [10])) ++ [125, 125] := by simp
      rw [e]
      refine tree_call fun c hc => ?_
      rw [List.mem_append, List.mem_append] at hc
      rcases hc with hc | hc | hc
      · exact mild_a c hc
      · exact hm c hc
      · exact mild_b c hc
    have z2 : X2.size ≤ 8192 := by rw [hX2]; exact app_size (by omega) _ _ (by show 5 ≤ 20; omega) (by show 3 ≤ 20; omega)
    have H2 := Lib.hid (fun w ht => Sections_nil X2 w ht z2 rfl q2)
    clear q2 z2
    subst hX2
    obtain ⟨X3, hX3⟩ : ∃ X : ByteArray, X = (⟨#[60, 110, 111, 105, 110, 99, 108, 117, 100, 101, 62]⟩ : ByteArray) ++ s ++ ⟨#[60, 47, 110, 111, 105, 110, 99, 108, 117, 100, 101, 62]⟩ := ⟨_, rfl⟩
    have q3 : NoT (tree (toks X3.data.toList)) := by
      rw [hX3]
      rw [app_list, app_list, List.append_assoc]; exact tree_tagged hm
    have z3 : X3.size ≤ 8192 := by rw [hX3]; exact app_size (by omega) _ _ (by show 11 ≤ 20; omega) (by show 12 ≤ 20; omega)
    have H3 := Lib.hid (fun w ht => Sections_nil X3 w ht z3 rfl q3)
    clear q3 z3
    subst hX3
    rw [hin] at HC
    clear hin hm hg
    have hz : s.size ≤ 500 := by omega
    clear h
    go_enter Tryz.func7, Tryz.ntmps7
    go_wp2_with fail
    with_reducible refine (HC.out).mono ?_
    rintro e w1 ⟨rfl, hb1⟩
    have B1 := Lib.hid hb1
    clear hb1 HC
    go_wp2_with fail
    with_reducible refine (H1.out w1 (HT.out.below B1.out)).mono ?_
    rintro e w2 ⟨A1, c1, rfl, b2⟩
    have B2 := Lib.hid (B1.out.trans (b2.mono B1.out.size))
    clear b2 B1 H1
    go_wp2_with fail
    with_reducible refine (H2.out w2 (HT.out.below B2.out)).mono ?_
    rintro e w3 ⟨A2, c2, rfl, b3⟩
    have B3 := Lib.hid (B2.out.trans (b3.mono B2.out.size))
    clear b3 B2 H2
    go_wp2_with fail
    with_reducible refine (H3.out w3 (HT.out.below B3.out)).mono ?_
    rintro e w4 ⟨A3, c3, rfl, b4⟩
    have B4 := Lib.hid (B3.out.trans (b4.mono B3.out.size))
    have HK := Lib.hid (known_any w4 (HT.out.below B4.out))
    clear b4 B3 H3
    go_wp2_with fail
    with_reducible refine (HK.out).mono ?_
    rintro e w5 ⟨rfl, b5⟩
    have B5 := Lib.hid (B4.out.trans (b5.mono B4.out.size))
    clear b5 B4 HK
    go_wp2_with fail
    go_ret
    exact ⟨rfl, B5.out⟩
end Go.Proofs.YtdojbnngdlmbgaaGreatDoor.Se
