/-
  The contract of Format of package calendar.
-/
import Derived.Test.YtlkbdnjpcagopaaDoorCaUnit
namespace Go.Proofs.YtlkbdnjpcagopaaDoor.Ca
open Go.RowKit Go.Shelf Rf
attribute [local go_sem] Oper.semAt_some
set_option linter.unusedVariables false

/-- All blocks of cells stay. -/
def Kc (W W' : World) : Prop := ∀ (k : Nat) cs t fz, W.heap[k]? = some (Obj.cells cs t fz) → W'.heap[k]? = some (Obj.cells cs t fz)
theorem Kc.of {W W' : World} (h : Below W.heap.size W W') : Kc W W' := fun k _ _ _ hk => (h.block k (Array.getElem?_eq_some_iff.1 hk).1).trans hk
theorem Kc.grown {W W' : World} {row : Option Nat} (hg : W.grownBy W' row) (hr : ∀ r, row = some r → ∃ o : Obj, W.heap[r]? = some o ∧ o.isCells = false) : Kc W W' := fun k cs t fz hk => by
  refine (hg.block k (Array.getElem?_eq_some_iff.1 hk).1 ?_).trans hk
  intro e
  obtain ⟨o, ho, hc⟩ := hr k e.symm
  rw [hk] at ho; cases ho; cases hc
theorem ownF_kc {w w' : World} {base : Nat} {e : TypeId} {size : Nat} {v : Value} {n : Nat} {xs : List Value} (h : w.ownsRowF base e size v n xs) (hk : Kc w w') : w'.ownsRowF base e size v n xs := by
  refine ⟨h.1, h.2.imp id ?_⟩
  rintro ⟨g, cap, cur, fz, h3, h4, h5, h6⟩
  exact ⟨g, cap, cur, fz, h3, h4, hk _ _ _ _ h5, h6⟩
theorem batF_kc {w w' : World} {B b : Nat} {p : Value} {bs : List Value} {T e : TypeId} (h : Lib.BuilderAtF T e B b p bs w) (hk : Kc w w') : Lib.BuilderAtF T e B b p bs w' := by
  obtain ⟨h1, v, h2, h3, h4⟩ := h
  exact ⟨h1, v, hk _ _ _ _ h2, ownF_kc h3 hk, h4⟩
/-- The builder in block b, one of those from B on, holds the bytes x. -/
def Bd (w : World) (B b : Nat) (x : List UInt8) : Prop := Lib.IsBuilderF 55 5 B b (Lib.byteCells x) w
theorem Bd.kc {w w' : World} {B b : Nat} {x : List UInt8} (h : Bd w B b x) (hk : Kc w w') : Bd w' B b x := h.imp (fun h => batF_kc h hk) (fun h => batF_kc h hk)
theorem Bd.block {w : World} {B b : Nat} {x : List UInt8} (h : Bd w B b x) : ∃ cs t fz, w.heap[b]? = some (.cells cs t fz) := by
  rcases h with ⟨_, v, h2, _⟩ | ⟨_, v, h2, _⟩ <;> exact ⟨_, _, _, h2⟩
theorem keeps_of {W W' : World} (h : Below W.heap.size W W') : KeepsOthers W W' := ⟨h.size, fun k _ hk _ => (h.block k (Array.getElem?_eq_some_iff.1 hk).1).trans hk⟩
/-- What writing to the builder in block b leaves alone. -/
structure Fr (B b : Nat) (w w' : World) : Prop where
  below : Below B w w'
  kept : Lib.OthersKept 5 (some b) w w'
theorem Fr.keeps {B b : Nat} {W W' : World} (h : Fr B b W W') (hb : ∃ cs t fz, W.heap[b]? = some (.cells cs t fz)) : KeepsOthers W W' := ⟨h.below.size, fun k o hk ho => by
  refine h.kept _ _ hk (fun e => ?_) (fun c fz e => by rw [e] at ho; cases ho)
  obtain ⟨cs, t, fz, hc⟩ := hb
  have := Option.some.inj e
  subst this
  rw [hk] at hc; cases hc; cases ho⟩
theorem Fr.cells {B b : Nat} {W W' : World} (h : Fr B b W W') {k : Nat} {cs : Array Value} {t : TypeId} (hk : W.heap[k]? = some (.cells cs t)) (hne : k ≠ b) (ht : t ≠ 5) : W'.heap[k]? = some (.cells cs t) :=
  h.kept _ _ hk (fun e => hne (by have := Option.some.inj e; omega)) (fun c fz e => ht (by injection e))
theorem cell_heap {w : World} {g : Nat} {cs : Array Value} {t : TypeId} {i : Nat} {v : Value} (h : w.heap[g]? = some (.cells cs t)) (hv : cs[i]? = some v) : w.cell? ⟨g, i, none⟩ = some v := by
  simp [World.cell?, h, hv]
theorem WStr (B b : Nat) (x : List UInt8) (s : ByteArray) (w : World) (h : Bd w B b x) (hl : x.length + s.size ≤ 140737488355328) (hB : B ≤ w.heap.size) :
    Calls Tryd.prog 47 #[.pointer (some ⟨b, 0, none⟩), .string s] w fun e w' => e = .returned (.tuple #[.int .i64 s.size, .nilIface]) ∧ Bd w' B b (x ++ s.data.toList) ∧ Fr B b w w' :=
  (Tryd.Builder_WriteStringk B b _ s w h (by rw [Lib.byteCells_length]; exact hl) hB).mono fun e w' ⟨h1, h2, h3, h4⟩ => ⟨h1, .inr (by rw [Lib.byteCells_append, ← Lib.strCells_eq]; exact h2), h3, h4⟩
theorem WByte (B b : Nat) (x : List UInt8) (c : UInt8) (w : World) (h : Bd w B b x) (hl : x.length + 1 ≤ 140737488355328) (hB : B ≤ w.heap.size) :
    Calls Tryd.prog 46 #[.pointer (some ⟨b, 0, none⟩), .int .u8 (c.toNat : Int)] w fun e w' => e = .returned .nilIface ∧ Bd w' B b (x ++ [c]) ∧ Fr B b w w' :=
  (Tryd.Builder_WriteBytek B b _ (c.toNat : Int) w h (by rw [Lib.byteCells_length]; exact hl) hB).mono fun e w' ⟨h1, h2, h3, h4⟩ => ⟨h1, .inr (by rw [Lib.byteCells_append]; exact h2), h3, h4⟩
theorem WGet (B b : Nat) (x : List UInt8) (w : World) (h : Bd w B b x) (hB : B ≤ w.heap.size) :
    Calls Tryd.prog 48 #[.pointer (some ⟨b, 0, none⟩)] w fun e w' => e = .returned (.string ⟨x.toArray⟩) ∧ Bd w' B b x ∧ Fr B b w w' :=
  (Tryd.Builder_String_anyk B b x w h hB).mono fun e w' ⟨h1, h2, h3, h4⟩ => ⟨h1, h2, h3, h4⟩

theorem itoa_le {n : Int} (h1 : 0 ≤ n) (h2 : n < 10000) : (Lib.itoa n).length ≤ 9 := by have := itoa_len h1 h2; omega
theorem two_le {n : Int} (h1 : 0 ≤ n) (h2 : n < 100) : (two n).length ≤ 9 := by rw [two_is h1 h2]; simp
theorem tx_len {y m d c : Int} (hk : Ok y m d) (c1 : 0 ≤ c) (c2 : c < 1440) (b : UInt8) : (tx y m d c b).length ≤ 9 := by
  have hy := hk.in_year
  have hl := yl_ge y
  have hm := ml_ge y m
  obtain ⟨a1, a2, a3, a4, a5, a6⟩ := hk
  have hw : 1 ≤ wd (dn y m d) ∧ wd (dn y m d) ≤ 7 := by unfold wd; omega
  have t1 := List.length_take_le 3 (mname m)
  have t2 := List.length_take_le 3 (wname (wd (dn y m d)))
  by_cases hb : isCode b = true
  · rcases isCode_cases hb with rfl | rfl | rfl | rfl | rfl | rfl | rfl | rfl | rfl | rfl | rfl | rfl | rfl | rfl
    all_goals
      first
        | (simp [tx]; done)
        | (simp [tx]; exact itoa_le (by omega) (by omega))
        | (simp [tx]; exact two_le (by omega) (by omega))
        | (simp [tx]; exact mname_len.2)
        | (simp [tx]; exact wname_len.2)
        | (simp [tx]; omega)
  · have hn : ∀ x : UInt8, isCode x = true → b ≠ x := fun x hx e => hb (by rw [e]; exact hx)
    unfold tx
    rw [if_neg (hn _ rfl), if_neg (hn _ rfl), if_neg (hn _ rfl), if_neg (hn _ rfl), if_neg (hn _ rfl), if_neg (hn _ rfl), if_neg (hn _ rfl), if_neg (hn _ rfl), if_neg (hn _ rfl), if_neg (hn _ rfl), if_neg (hn _ rfl), if_neg (hn _ rfl), if_neg (hn _ rfl), if_neg (hn _ rfl)]
    simp
theorem out_len {y m d c : Int} (hk : Ok y m d) (c1 : 0 ≤ c) (c2 : c < 1440) (x : Sy) : (out y m d c x).length ≤ 9 := by
  unfold out; split
  · simp
  · exact tx_len hk c1 c2 _
theorem outs_len {y m d c : Int} (hk : Ok y m d) (c1 : 0 ≤ c) (c2 : c < 1440) : ∀ l : List Sy, (l.flatMap (out y m d c)).length ≤ 9 * l.length
  | [] => by simp
  | x :: l => by
    have a := out_len hk c1 c2 x
    have b := outs_len hk c1 c2 l
    rw [List.flatMap_cons, List.length_append, List.length_cons]; omega
theorem syms_len : ∀ (n : Nat) (l : List UInt8), l.length ≤ n → (syms l).length ≤ l.length
  | _, [], _ => by simp [syms]
  | _, [c], _ => by simp [syms]
  | 0, c :: x :: r, h => by simp at h
  | n + 1, c :: x :: r, h => by
    rw [List.length_cons, List.length_cons] at h
    have h1 := syms_len n r (by omega)
    have h2 := syms_len n (x :: r) (by rw [List.length_cons]; omega)
    rw [List.length_cons] at h2
    unfold syms; split
    · rw [List.length_cons, List.length_cons, List.length_cons]; omega
    · rw [List.length_cons, List.length_cons, List.length_cons]; omega
theorem three (w : World) (a b c : Obj) : (((w.alloc a).alloc b).alloc c).heap[w.heap.size]? = some a ∧ (((w.alloc a).alloc b).alloc c).heap[w.heap.size + 1]? = some b ∧ (((w.alloc a).alloc b).alloc c).heap[w.heap.size + 2]? = some c := by
  have h1 : (w.alloc a).heap.size = w.heap.size + 1 := World.size_alloc _ _
  have h2 : ((w.alloc a).alloc b).heap.size = w.heap.size + 2 := by rw [World.size_alloc, h1]
  have n1 := World.alloc_heap_new w a
  have n2 := World.alloc_heap_new (w.alloc a) b
  have n3 := World.alloc_heap_new ((w.alloc a).alloc b) c
  rw [h1] at n2; rw [h2] at n3
  exact ⟨(Below.heap_alloc _ _ _ (by omega)).trans ((Below.heap_alloc _ _ _ (by omega)).trans n1), (Below.heap_alloc _ _ _ (by omega)).trans n2, n3⟩
set_option maxRecDepth 100000 in
set_option maxHeartbeats 2000000 in
theorem Format_yes {y m d c : Int} (hk : Ok y m d) (c1 : 0 ≤ c) (c2 : c < 1440) (s : ByteArray) (w : World) (hs : s.size ≤ 400) (ht : Tb w) :
    Calls Tryd.prog 26 #[.string s, .int .i64 (inst y m d c)] w fun e w' => e = .returned (.tuple #[.string ⟨(fmt y m d c s.data.toList).toArray⟩, .int .i64 0]) ∧ Below w.heap.size w w' := by
  have hr := inst_range hk c1 c2
  have HC := Lib.hid (fun w => isInst ⟨hr.1, hr.2.1⟩ w)
  have HM := Lib.hid (fun w ht => momentOf_any hk c1 c2 w ht)
  obtain ⟨n, hn⟩ : ∃ n, inst y m d c = n := ⟨_, rfl⟩
  rw [hn] at HC HM
  rw [hn]
  clear hn hr
  have HK := Lib.hid hk
  clear hk
  refine (callsIn_wide (n := 3)).1 ?_
  refine callsIn_of_wp_marks Tryd.func26 rfl trivial ?_ rfl
  simp only [Tryd.ntmps26, List.size_toArray, List.length_cons, List.length_nil, Nat.reduceAdd, Nat.reduceSub, Array.replicate_succ, Array.replicate_zero, List.push_toArray, List.append_toArray, List.nil_append, List.cons_append]
  gi_wp2
  refine ⟨trivial, (callsIn_wide.2 (HC.out _)).mono ?_⟩
  rintro e w' ⟨rfl, rfl⟩
  gi_wp2
  refine ⟨trivial, (callsIn_wide.2 (HM.out _ ht)).mono ?_⟩
  rintro e w1 ⟨rfl, hb⟩
  unfold mom
  gi_wp2
  refine ⟨trivial, (callsIn_wide.2 (symbols_any _ _)).mono ?_⟩
  rintro e w' ⟨rfl, rfl⟩
  gi_wp2
  obtain ⟨W0, hW0⟩ : ∃ W0, (((w1.alloc (.cells #[.int .i64 y, .int .i64 m, .int .i64 d, .int .i64 (cum y m + d - 1), .int .i64 (wd (dn y m d)), .int .i64 c] 48)).alloc (.cells #[.pointer none, .slice none 0 0] 55)).alloc (.cells #[.string s] 9)) = W0 := ⟨_, rfl⟩
  have hBw : Below w.heap.size w W0 := by rw [← hW0]; exact ((hb.alloc hb.size _).alloc (by rw [World.size_alloc]; have := hb.size; omega) _).alloc (by rw [World.size_alloc, World.size_alloc]; have := hb.size; omega) _
  have hz0 : W0.heap.size = w1.heap.size + 3 := by rw [← hW0]; simp
  have hp0 : W0.cell? ⟨w1.heap.size + 2, 0, none⟩ = some (.string s) := by rw [← hW0]; exact cell_heap (three _ _ _ _).2.2 rfl
  have hm0 : W0.heap[w1.heap.size]? = some (.cells #[.int .i64 y, .int .i64 m, .int .i64 d, .int .i64 (cum y m + d - 1), .int .i64 (wd (dn y m d)), .int .i64 c] 48) := by rw [← hW0]; exact (three _ _ _ _).1
  have hd0 : Bd W0 w.heap.size (w1.heap.size + 1) [] := by
    refine .inl ⟨by have := hb.size; omega, .slice none 0 0, ?_, World.ownsRowF_of (World.ownsRow_nil _ _ _ _), by simp [Value.ownBlock]⟩
    rw [← hW0]; exact (three _ _ _ _).2.1
  have hT0 : Tb W0 := ht.below hBw
  have hw1 := hb.size
  rw [show w1.heap.size + 1 + 1 = w1.heap.size + 2 from rfl]
  have HW0 := Lib.hid hW0
  rw [hW0]
  clear hW0 hb
  refine wpIn_rangeFunc_ownF rfl (by omega) (gf := 52) (lb := #[.pointer (some ⟨w1.heap.size + 2, 0, none⟩)]) rfl trivial (enters_of Tryd.func52 (by kernel_rfl) rfl)
    (sym_seq s (w1.heap.size + 2) _ (by omega) (by omega) hp0) (fun h k => Kq.t h k) (Kq.b (by omega)) (Below.refl _ _) (fun _ => rfl)
    (fun pre W => (W.heap[w1.heap.size]? = some (.cells #[.int .i64 y, .int .i64 m, .int .i64 d, .int .i64 (cum y m + d - 1), .int .i64 (wd (dn y m d)), .int .i64 c] 48) ∧ Bd W w.heap.size (w1.heap.size + 1) (pre.flatMap (out y m d c)) ∧ (∃ o, W.heap[w1.heap.size + 2]? = some o ∧ ∃ cs t, o = .cells cs t ∧ t ≠ 5)) ∧ Below w.heap.size w W)
    (fun c pre W => False)
    (OwnFrom.and (Own.from (fun s A B row hs hg hr => ⟨Kc.grown hg hr _ _ _ _ hs.1, hs.2.1.kc (Kc.grown hg hr), by obtain ⟨o, h1, cs, t, rfl, h3⟩ := hs.2.2; exact ⟨_, Kc.grown hg hr _ _ _ _ h1, _, _, rfl, h3⟩⟩) _) (ownFrom_below (Nat.le_refl _) (by omega)))
    (fun c => fun _ _ _ _ hs _ _ => hs)
    ⟨⟨hm0, hd0, ?pat⟩, hBw⟩
    (fun x => { tmps := #[.string s, .int .i64 n, undef, undef, .string ⟨#[]⟩, .int .i64 0, .pointer (some ⟨w1.heap.size, 0, none⟩), .pointer (some ⟨w1.heap.size + 1, 0, none⟩), .int .u8 (x.1.toNat : Int), .bool x.2, undef, undef,
      .int .i64 n, .bool true, .bool false, .string s, .int .i64 (s.size : Int), .bool (decide ((400 : Int) < (s.size : Int))), .int .i64 n,
      .agg #[.int .i64 y, .int .i64 m, .int .i64 d, .int .i64 (cum y m + d - 1), .int .i64 (wd (dn y m d)), .int .i64 c], .string s,
      .func (.func 52) #[] #[.pointer (some ⟨w1.heap.size + 2, 0, none⟩)], .int .u8 (x.1.toNat : Int), .bool x.2, undef, undef, undef, undef, undef, undef, undef, undef, undef, undef, undef, undef, undef, undef, undef, undef], defers := [] }) ?assign ?body ?done ?stop
  case pat =>
    refine ⟨.cells #[.string s] 9, ?_, _, _, rfl, by decide⟩
    rw [← HW0.out]; exact (three _ _ _ _).2.2
  case assign =>
    intro l x W K hK
    gi_wp2
    exact hK
  case body =>
    rintro l pre ⟨x, lit⟩ W ⟨⟨hm, hbd, hpat⟩, hB⟩ hlen
    have hfo : (pre ++ [(x, lit)]).flatMap (out y m d c) = pre.flatMap (out y m d c) ++ out y m d c (x, lit) := by rw [List.flatMap_append]; simp
    have HF := Lib.hid hfo
    have hq := outs_len HK.out c1 c2 pre
    have hq2 := syms_len _ s.data.toList (Nat.le_refl _)
    have hq3 : s.data.toList.length = s.size := by simp
    have hql : (pre.flatMap (out y m d c)).length ≤ 9 * 400 := by omega
    obtain ⟨acc, hacc⟩ : ∃ acc, pre.flatMap (out y m d c) = acc := ⟨_, rfl⟩
    rw [hacc] at hbd HF hql
    clear hfo hacc hq hq2 hq3 hlen
    have m0 := cell_heap (i := 0) hm rfl
    have m1 := cell_heap (i := 1) hm rfl
    have m2 := cell_heap (i := 2) hm rfl
    have m3 := cell_heap (i := 3) hm rfl
    have m4 := cell_heap (i := 4) hm rfl
    have m5 := cell_heap (i := 5) hm rfl
    have hTW := ht.below hB
    have HM := Lib.hid hm
    have HP := Lib.hid hpat
    have HBd := Lib.hid hbd
    have HB := Lib.hid hB
    have HTW := Lib.hid hTW
    have hsz := hB.size
    clear hm hpat hbd hB hTW
    -- what a round leaves when it has written
    have hend : ∀ (W1 W2 : World) (t : List UInt8), Below W.heap.size W W1 → Bd W2 w.heap.size (w1.heap.size + 1) (acc ++ t) → Fr w.heap.size (w1.heap.size + 1) W1 W2 → out y m d c (x, lit) = t →
        ownPostK (Kq (w1.heap.size + 2)) (fun pre W => (W.heap[w1.heap.size]? = some (.cells #[.int .i64 y, .int .i64 m, .int .i64 d, .int .i64 (cum y m + d - 1), .int .i64 (wd (dn y m d)), .int .i64 c] 48) ∧ Bd W w.heap.size (w1.heap.size + 1) (pre.flatMap (out y m d c)) ∧ (∃ o, W.heap[w1.heap.size + 2]? = some o ∧ ∃ cs t, o = .cells cs t ∧ t ≠ 5)) ∧ Below w.heap.size w W) (fun c pre W => False) (pre ++ [(x, lit)]) W .normal ⟨#[], []⟩ W2 := by
      intro W1 W2 t hb1 hd2 hf2 ho
      have hk1 := Kc.of hb1
      obtain ⟨o, hp1, cs, tt, rfl, hp3⟩ := HP.out
      have hp4 := hk1 _ _ _ _ hp1
      have hp5 := hf2.cells hp4 (by omega) hp3
      have hm4 := hk1 _ _ _ _ HM.out
      have hm5 := hf2.cells hm4 (by omega) (by decide)
      refine ⟨(keeps_of hb1).trans (hf2.keeps ((HBd.out.kc hk1).block)), ?_, ⟨hm5, by rw [HF.out, ho]; exact hd2, ⟨_, hp5, _, _, rfl, hp3⟩⟩, (HB.out.trans (hb1.mono hsz)).trans hf2.below⟩
      show W2.heap[w1.heap.size + 2]? = W.heap[w1.heap.size + 2]?
      rw [hp5, hp1]
    have HEND := Lib.hid hend
    clear hend
    by_cases hcode : isCode x = true
    · have HV := Lib.hid (fun w ht => value_code HK.out c1 c2 hcode w ht)
      have htl := tx_len HK.out c1 c2 x
      have HO : Hid (out y m d c (x, lit) = if lit = true then [x] else tx y m d c x) := Lib.hid (by unfold out; rw [hcode]; cases lit <;> simp)
      unfold mom at HV
      cases lit
      · have HO2 : Hid (out y m d c (x, false) = tx y m d c x) := Lib.hid (by rw [HO.out]; simp)
        gi_wp2
        refine ⟨trivial, (CallsIn.inRound l (callsIn_wide.2 (HV.out W HTW.out))).mono ?_⟩
        rintro e W1 ⟨rfl, hb1⟩
        have hd1 := HBd.out.kc (Kc.of hb1)
        have hs1 := hb1.size
        gi_wp2
        refine ⟨trivial, (CallsIn.inRound l (callsIn_wide.2 (WStr _ _ acc ⟨(tx y m d c x).toArray⟩ W1 hd1 (by show acc.length + (tx y m d c x).toArray.size ≤ _; simp; omega) (by omega)))).mono ?_⟩
        rintro e W2 ⟨rfl, hd2, hf2⟩
        gi_wp2
        exact HEND.out W1 W2 (tx y m d c x) hb1 hd2 hf2 HO2.out
      · have HO2 : Hid (out y m d c (x, true) = [x]) := Lib.hid (by rw [HO.out]; simp)
        gi_wp2
        refine ⟨trivial, (CallsIn.inRound l (callsIn_wide.2 (HV.out W HTW.out))).mono ?_⟩
        rintro e W1 ⟨rfl, hb1⟩
        have hd1 := HBd.out.kc (Kc.of hb1)
        have hs1 := hb1.size
        gi_wp2
        refine ⟨trivial, (CallsIn.inRound l (callsIn_wide.2 (WByte _ _ acc x W1 hd1 (by omega) (by omega)))).mono ?_⟩
        rintro e W2 ⟨rfl, hd2, hf2⟩
        gi_wp2
        exact HEND.out W1 W2 [x] hb1 hd2 hf2 HO2.out
    · have hc2 : isCode x = false := by simpa using hcode
      have HV := Lib.hid (fun w => value_none (y := y) (m := m) (d := d) (c := c) hc2 w)
      have HO : Hid (out y m d c (x, lit) = [x]) := Lib.hid (by unfold out; rw [hc2]; simp)
      unfold mom at HV
      cases lit
      all_goals
        gi_wp2
        refine ⟨trivial, (CallsIn.inRound l (callsIn_wide.2 (HV.out W))).mono ?_⟩
        rintro e W1 ⟨rfl, hb1⟩
        have hd1 := HBd.out.kc (Kc.of hb1)
        have hs1 := hb1.size
        gi_wp2
        refine ⟨trivial, (CallsIn.inRound l (callsIn_wide.2 (WByte _ _ acc x W1 hd1 (by omega) (by omega)))).mono ?_⟩
        rintro e W2 ⟨rfl, hd2, hf2⟩
        gi_wp2
        exact HEND.out W1 W2 [x] hb1 hd2 hf2 HO.out
  case done =>
    rintro D ys W hD hS ⟨⟨hm, hbd, hpat⟩, hB⟩ hK
    subst hS
    have hsz := hB.size
    have HF : Hid ((syms s.data.toList).flatMap (out y m d c) = fmt y m d c s.data.toList) := Lib.hid rfl
    rw [HF.out] at hbd
    have HB := Lib.hid hB
    have HBd := Lib.hid hbd
    clear hm hpat hB hbd
    gi_wp2
    refine ⟨trivial, (callsIn_wide.2 (WGet _ _ _ W HBd.out hsz)).mono ?_⟩
    rintro e W2 ⟨rfl, hd2, hf2⟩
    have hK2 : W2.heap[D]? = some (.deferred (some [])) := (hf2.keeps HBd.out.block).same _ _ hK rfl
    have HB2 := Lib.hid (HB.out.trans hf2.below)
    clear hd2
    gi_wp2
    refine ⟨by simp, .inl ⟨_, _, rfl, run_takeDeferred hK2, ?_⟩⟩
    refine ⟨_, results_tmp2 rfl _ _ _, rfl, ?_⟩
    exact HB2.out.trans (belowK_b (w := w) (Nat.le_refl _) W2 D _ _ (by omega) hK2 rfl rfl)
  case stop =>
    rintro D c pre W _ _ h _
    exact h.elim
end Go.Proofs.YtlkbdnjpcagopaaDoor.Ca
