/-
  The contract of the reference's Source.
-/
import Derived.Test.YtlceaadaeednpaaTrRSrc
namespace Go.Proofs.Ytlceaadaeednpaa.Tr
open Go.RowKit

theorem ba_ext {X K : ByteArray} {x : List UInt8} (h : X.data.toList = x) (k : K.data.toList = x) : X = K := by
  cases X; cases K; simp only at h k; congr 1; exact Array.ext' (h.trans k.symm)
/-- What stands while a region of Source runs. -/
structure Hs (b : Nat) (t : Int) (vk va : Value) (w : World) (W : World) : Prop where
  k1 : W.cell? ⟨b, 1, none⟩ = some (.int .i64 t)
  k3 : W.cell? ⟨b, 3, none⟩ = some vk
  k4 : W.cell? ⟨b, 4, none⟩ = some va
  bl : Below w.heap.size w W
  lt : b < W.heap.size
theorem Hs.drew {b : Nat} {t : Int} {vk va : Value} {w W : World} (h : Hs b t vk va w W) : Hs b t vk va w W.drew := ⟨h.k1, h.k3, h.k4, h.bl.drew, h.lt⟩
theorem Hs.below {b : Nat} {t : Int} {vk va : Value} {w W W' : World} (h : Hs b t vk va w W) (hb : Below W.heap.size W W') : Hs b t vk va w W' :=
  ⟨(hb.cell h.lt).trans h.k1, (hb.cell h.lt).trans h.k3, (hb.cell h.lt).trans h.k4, h.bl.trans (hb.mono h.bl.size), Nat.lt_of_lt_of_le h.lt hb.size⟩
theorem src_hs {d : Nat} (hL : SrcL d) {b B : Nat} {t : Int} {vk va : Value} {l : List Nd} {w W : World} {K : ByteArray} (h : Hs b t vk va w W) (hl : LRd d w B vk l) (hB : B ≤ w.heap.size) (hK : K.data.toList = src l) :
    Calls Try.prog 13 #[vk] W fun e w' => e = .returned (.string K) ∧ Hs b t vk va w w' :=
  (hL B vk l W (hl.below h.bl hB (Nat.le_refl _)) (Nat.le_trans hB h.bl.size)).mono fun e w' ⟨X, he, hX, hb⟩ => ⟨by rw [he, ba_ext hX.out hK], h.below hb⟩
theorem args_hs {d : Nat} (hA : SrcA d) {b B : Nat} {t : Int} {vk va : Value} {l : List Ar} {w W : World} {K : ByteArray} (h : Hs b t vk va w W) (hl : ARd d w B va l) (hB : B ≤ w.heap.size) (hK : K.data.toList = srcA l) :
    Calls Try.prog 25 #[va] W fun e w' => e = .returned (.string K) ∧ Hs b t vk va w w' :=
  (hA B va l W (hl.below h.bl hB (Nat.le_refl _)) (Nat.le_trans hB h.bl.size)).mono fun e w' ⟨X, he, hX, hb⟩ => ⟨by rw [he, ba_ext hX.out hK], h.below hb⟩
theorem tag_hs {b : Nat} {t : Int} {vk va : Value} {w W : World} {K : ByteArray} (c : Bool) (h : Hs b t vk va w W) (h1 : 1 ≤ t) (h3 : t ≤ 3) (hK : K.data.toList = (if c then [60, 47] else [60]) ++ tname t ++ [62]) :
    Calls Try.prog 26 #[.int .i64 t, .bool c] W fun e w' => e = .returned (.string K) ∧ Hs b t vk va w w' :=
  (TagText_any t W c h1 h3).mono fun e w' ⟨X, he, hX, hb⟩ => ⟨by rw [he, ba_ext hX.out hK], h.below hb⟩
theorem tname_ne {t : Int} (h1 : 1 ≤ t) (h3 : t ≤ 3) : tname t ≠ [] := by
  have : t = 1 ∨ t = 2 ∨ t = 3 := by omega
  rcases this with rfl | rfl | rfl <;> simp [tname]
theorem tname_no {t : Int} (h : ¬ (1 ≤ t ∧ t ≤ 3)) : tname t = [] := by
  unfold tname; rw [if_neg (by omega), if_neg (by omega), if_neg (by omega)]

theorem meas {n k : Nat} (h : k < n) : n - (intOf (.int .i64 ((k : Int) + 1))).toNat < n - (intOf (.int .i64 (k : Int))).toNat := by simp [intOf]; omega
set_option maxRecDepth 100000 in
set_option maxHeartbeats 8000000 in
theorem Source_step (d : Nat) (hL : SrcL d) (hA : SrcA d) : SrcL (d + 1) := by
  intro B v l w h hB
  have hz := h.1
  have hsl := src_len l
  obtain ⟨A, c, rfl, hc1, hc2, hln, R⟩ := h.open
  have R' := Lib.hid R; clear R h
  have HL := Lib.hid (Nat.le_trans hsl (Nat.mul_le_mul_left 27 hz)); clear hz hsl
  go_enter Try.func13, Try.ntmps13
  go_wp2_with fail
  go_loopw [3, 4] (fun sv i wr => ∃ (k : Nat) (S : ByteArray), k ≤ l.length ∧ i = .int .i64 k ∧ sv = .string S ∧ Hid (S.data.toList = src (l.take k)) ∧ Hid (Below w.heap.size w wr)) (fun _ i _ => l.length - (intOf i).toNat)
  case atStart => exact ⟨0, ⟨#[]⟩, Nat.zero_le _, rfl, rfl, Lib.hid (by simp [src_nil]), Lib.hid (Below.refl _ _)⟩
  case round =>
    obtain ⟨k, S, hk, rfl, rfl, hS, hbl⟩ := hrel
    have hSs : S.size ≤ 452984832 := by rw [size_of hS.out]; exact Nat.le_trans (src_take_len l k) HL.out
    by_cases hlt : k < l.length
    · obtain ⟨g, o, rfl, hg, q⟩ := R'.out (by omega)
      obtain ⟨vk, va, x1, x2, x3, x4, x5, f1, f2, x6, x7⟩ := q k l[k] (List.getElem?_eq_getElem hlt)
      clear q
      have hcell : ∀ i, wr.cell? ⟨g, i, none⟩ = w.cell? ⟨g, i, none⟩ := fun i => hbl.out.cell (by show g < _; omega)
      rw [← hcell] at x1 x2 x3 x4 x5
      clear hcell
      have hsg : (srcN l[k]).length ≤ 452984832 := by
        have h1 := src_take_len l (k + 1)
        rw [src_take hlt, List.length_append] at h1
        have h2 := HL.out
        omega
      have HT := Lib.hid (src_take hlt)
      rw [srcN_eq] at hsg HT
      have hsk := src_len l[k].kids
      have hsa := srcA_len l[k].args
      have hs1 := x6.sz
      have hs2 := x7.1
      clear f1 f2
      generalize l[k] = nd at *
      obtain ⟨kd, tg, tx, kids, args⟩ := nd
      simp only [Nd.kind, Nd.tag, Nd.text, Nd.kids, Nd.args] at x1 x2 x3 x6 x7 hsg HT hsk hsa hs1 hs2
      obtain ⟨Ak, ck, rfl⟩ := x6.form
      obtain ⟨Aa, ca, rfl⟩ := ARd.form (d := d) x7
      have HV := Lib.hid (And.intro x6 (show ARd d w B (Value.slice Aa args.length ca) args from x7)); clear x6 x7
      have B1 := Lib.hid (hbl.out.alloc hbl.out.size (Obj.cells #[Value.int .i64 kd, Value.int .i64 tg, Value.string tx, Value.slice Ak kids.length ck, Value.slice Aa args.length ca] 31))
      have Hs0 : Hid (Hs wr.heap.size tg (Value.slice Ak kids.length ck) (Value.slice Aa args.length ca) w (wr.alloc (Obj.cells #[Value.int .i64 kd, Value.int .i64 tg, Value.string tx, Value.slice Ak kids.length ck, Value.slice Aa args.length ca] 31))) :=
        Lib.hid ⟨cell_heap (heap_new _ _) rfl, cell_heap (heap_new _ _) rfl, cell_heap (heap_new _ _) rfl, B1.out, by simp⟩
      obtain ⟨K, hK⟩ : ∃ K : ByteArray, K.data.toList = src kids := ⟨⟨(src kids).toArray⟩, rfl⟩
      obtain ⟨G, hG⟩ : ∃ K : ByteArray, K.data.toList = srcA args := ⟨⟨(srcA args).toArray⟩, rfl⟩
      have hKs : K.size ≤ 452984832 := by rw [size_of hK]; omega
      have hGs : G.size ≤ 452984832 := by rw [size_of hG]; omega
      have HK := Lib.hid hK; have HG := Lib.hid hG; clear hK hG hsk hsa hs1 hs2
      by_cases h1 : kd = 1
      · rw [ntext, if_pos h1] at hsg HT
        have hts : tx.size ≤ 452984832 := hsg
        subst h1
        clear hsg
        go_wp2_with fail
        go_roundw
        case rel => exact ⟨k + 1, _, by omega, by go_num, rfl, Lib.hid (by rw [HT.out, cat_list, hS.out]), B1⟩
        case measure => exact meas hlt
      by_cases h2 : kd = 2
      · rw [ntext, if_neg h1, if_pos h2] at hsg HT
        have hts : tx.size ≤ 452984832 := hsg
        subst h2
        clear hsg h1
        go_wp2_with fail
        go_roundw
        case rel => exact ⟨k + 1, _, by omega, by go_num, rfl, Lib.hid (by rw [HT.out, cat_list, hS.out]), B1⟩
        case measure => exact meas hlt
      by_cases h3 : kd = 3
      · rw [ntext, if_neg h1, if_neg h2, if_pos h3] at hsg HT
        have hts : tx.size ≤ 452984832 := by
          simp only [List.length_append] at hsg
          have : tx.size = tx.data.toList.length := rfl
          omega
        subst h3
        clear hsg h1 h2
        go_wp2_with fail
        go_roundw
        case rel => exact ⟨k + 1, _, by omega, by go_num, rfl, Lib.hid (by rw [HT.out]; simp only [cat_list]; rw [hS.out]; simp [nowikiL, nowikiR]), B1⟩
        case measure => exact meas hlt
      by_cases h4 : kd = 4
      · rw [ntext, if_neg h1, if_neg h2, if_neg h3, if_pos h4] at HT
        subst h4
        clear hsg h1 h2 h3
        have rc1 : ∀ w, (Op.stringOp .add S ⟨#[123, 123]⟩).run Try.prog w = .ok (.string (S ++ ⟨#[123, 123]⟩)) w := fun w => run_string_add_sum w _ _ (by change _ + 2 ≤ _; omega)
        have rc2 : ∀ w, (Op.stringOp .add (S ++ ⟨#[123, 123]⟩) K).run Try.prog w = .ok (.string (S ++ ⟨#[123, 123]⟩ ++ K)) w := fun w => run_string_add_sum w _ _ (by rw [ByteArray.size_append]; change _ + 2 + _ ≤ _; omega)
        have rc3 : ∀ w, (Op.stringOp .add (S ++ ⟨#[123, 123]⟩ ++ K) G).run Try.prog w = .ok (.string (S ++ ⟨#[123, 123]⟩ ++ K ++ G)) w := fun w => run_string_add_sum w _ _ (by rw [ByteArray.size_append, ByteArray.size_append]; change _ + 2 + _ + _ ≤ _; omega)
        have rc4 : ∀ w, (Op.stringOp .add (S ++ ⟨#[123, 123]⟩ ++ K ++ G) ⟨#[125, 125]⟩).run Try.prog w = .ok (.string (S ++ ⟨#[123, 123]⟩ ++ K ++ G ++ ⟨#[125, 125]⟩)) w := fun w => run_string_add_sum w _ _ (by rw [ByteArray.size_append, ByteArray.size_append, ByteArray.size_append]; change _ + 2 + _ + _ + 2 ≤ _; omega)
        go_wp2_with fail
        have H3 := Hs0.out.drew
        generalize hb0 : wr.heap.size = b at H3 ⊢
        generalize (wr.alloc (Obj.cells #[Value.int .i64 4, Value.int .i64 tg, Value.string tx, Value.slice Ak kids.length ck, Value.slice Aa args.length ca] 31)) = W0 at H3 ⊢
        clear Hs0 B1 hb0
        go_region_held3 (fun W => W.cell? ⟨b, 3, none⟩ = some (Value.slice Ak kids.length ck) ∧ W.cell? ⟨b, 4, none⟩ = some (Value.slice Aa args.length ca) ∧ Hs b tg (Value.slice Ak kids.length ck) (Value.slice Aa args.length ca) w W)
          (first | exact ⟨H3.k3, H3.k4, H3⟩ | (rename_i h8; exact ⟨h8.k3, h8.k4, h8⟩))
          (first
            | (go_at_call 13; refine (src_hs hL (b := b) (t := tg) (va := Value.slice Aa args.length ca) (w := w) ?_ HV.out.1 hB HK.out).mono ?_; (assumption); rintro e w' ⟨rfl, _⟩)
            | (go_at_call 25; refine (args_hs hA (b := b) (t := tg) (vk := Value.slice Ak kids.length ck) (w := w) ?_ HV.out.2 hB HG.out).mono ?_; (assumption); rintro e w' ⟨rfl, _⟩))
        have h8 : Hs b tg (Value.slice Ak kids.length ck) (Value.slice Aa args.length ca) w w' := by assumption
        go_wp2_with fail
        go_roundw
        case rel => exact ⟨k + 1, _, by omega, by go_num, rfl, Lib.hid (by rw [HT.out]; simp only [cat_list]; rw [hS.out, HK.out, HG.out]; simp), Lib.hid h8.bl⟩
        case measure => exact meas hlt
      by_cases h5 : kd = 5
      · rw [ntext, if_neg h1, if_neg h2, if_neg h3, if_neg h4, if_pos h5] at HT
        subst h5
        clear hsg h1 h2 h3 h4
        have rc1 : ∀ w, (Op.stringOp .add S ⟨#[123, 123, 123]⟩).run Try.prog w = .ok (.string (S ++ ⟨#[123, 123, 123]⟩)) w := fun w => run_string_add_sum w _ _ (by change _ + 3 ≤ _; omega)
        have rc2 : ∀ w, (Op.stringOp .add (S ++ ⟨#[123, 123, 123]⟩) K).run Try.prog w = .ok (.string (S ++ ⟨#[123, 123, 123]⟩ ++ K)) w := fun w => run_string_add_sum w _ _ (by rw [ByteArray.size_append]; change _ + 3 + _ ≤ _; omega)
        have rc3 : ∀ w, (Op.stringOp .add (S ++ ⟨#[123, 123, 123]⟩ ++ K) G).run Try.prog w = .ok (.string (S ++ ⟨#[123, 123, 123]⟩ ++ K ++ G)) w := fun w => run_string_add_sum w _ _ (by rw [ByteArray.size_append, ByteArray.size_append]; change _ + 3 + _ + _ ≤ _; omega)
        have rc4 : ∀ w, (Op.stringOp .add (S ++ ⟨#[123, 123, 123]⟩ ++ K ++ G) ⟨#[125, 125, 125]⟩).run Try.prog w = .ok (.string (S ++ ⟨#[123, 123, 123]⟩ ++ K ++ G ++ ⟨#[125, 125, 125]⟩)) w := fun w => run_string_add_sum w _ _ (by rw [ByteArray.size_append, ByteArray.size_append, ByteArray.size_append]; change _ + 3 + _ + _ + 3 ≤ _; omega)
        go_wp2_with fail
        have H3 := Hs0.out.drew
        generalize hb0 : wr.heap.size = b at H3 ⊢
        generalize (wr.alloc (Obj.cells #[Value.int .i64 5, Value.int .i64 tg, Value.string tx, Value.slice Ak kids.length ck, Value.slice Aa args.length ca] 31)) = W0 at H3 ⊢
        clear Hs0 B1 hb0
        go_region_held3 (fun W => W.cell? ⟨b, 3, none⟩ = some (Value.slice Ak kids.length ck) ∧ W.cell? ⟨b, 4, none⟩ = some (Value.slice Aa args.length ca) ∧ Hs b tg (Value.slice Ak kids.length ck) (Value.slice Aa args.length ca) w W)
          (first | exact ⟨H3.k3, H3.k4, H3⟩ | (rename_i h8; exact ⟨h8.k3, h8.k4, h8⟩))
          (first
            | (go_at_call 13; refine (src_hs hL (b := b) (t := tg) (va := Value.slice Aa args.length ca) (w := w) ?_ HV.out.1 hB HK.out).mono ?_; (assumption); rintro e w' ⟨rfl, _⟩)
            | (go_at_call 25; refine (args_hs hA (b := b) (t := tg) (vk := Value.slice Ak kids.length ck) (w := w) ?_ HV.out.2 hB HG.out).mono ?_; (assumption); rintro e w' ⟨rfl, _⟩))
        have h8 : Hs b tg (Value.slice Ak kids.length ck) (Value.slice Aa args.length ca) w w' := by assumption
        go_wp2_with fail
        go_roundw
        case rel => exact ⟨k + 1, _, by omega, by go_num, rfl, Lib.hid (by rw [HT.out]; simp only [cat_list]; rw [hS.out, HK.out, HG.out]; simp), Lib.hid h8.bl⟩
        case measure => exact meas hlt
      by_cases h6 : kd = 6
      · rw [ntext, if_neg h1, if_neg h2, if_neg h3, if_neg h4, if_neg h5, if_pos h6] at HT
        subst h6
        clear hsg h1 h2 h3 h4 h5
        by_cases ht : 1 ≤ tg ∧ tg ≤ 3
        · obtain ⟨t1, t3⟩ := ht
          rw [tagged, if_neg (tname_ne t1 t3)] at HT
          obtain ⟨U, hU⟩ : ∃ K : ByteArray, K.data.toList = (if false then [60, 47] else [60]) ++ tname tg ++ [62] := ⟨⟨_⟩, rfl⟩
          obtain ⟨V, hV⟩ : ∃ K : ByteArray, K.data.toList = (if true then [60, 47] else [60]) ++ tname tg ++ [62] := ⟨⟨_⟩, rfl⟩
          have htl := tname_len tg
          have hUs : U.size ≤ 30 := by rw [size_of hU]; simp; omega
          have hVs : V.size ≤ 30 := by rw [size_of hV]; simp; omega
          have HU := Lib.hid hU; have HW := Lib.hid hV; clear hU hV htl
          have rc1 : ∀ w, (Op.stringOp .add S U).run Try.prog w = .ok (.string (S ++ U)) w := fun w => run_string_add_sum w _ _ (by omega)
          have rc2 : ∀ w, (Op.stringOp .add (S ++ U) K).run Try.prog w = .ok (.string (S ++ U ++ K)) w := fun w => run_string_add_sum w _ _ (by rw [ByteArray.size_append]; omega)
          have rc3 : ∀ w, (Op.stringOp .add (S ++ U ++ K) V).run Try.prog w = .ok (.string (S ++ U ++ K ++ V)) w := fun w => run_string_add_sum w _ _ (by rw [ByteArray.size_append, ByteArray.size_append]; omega)
          go_wp2_with fail
          have H3 := Hs0.out.drew
          generalize hb0 : wr.heap.size = b at H3 ⊢
          generalize (wr.alloc (Obj.cells #[Value.int .i64 6, Value.int .i64 tg, Value.string tx, Value.slice Ak kids.length ck, Value.slice Aa args.length ca] 31)) = W0 at H3 ⊢
          clear Hs0 B1 hb0
          go_region_held3 (fun W => W.cell? ⟨b, 1, none⟩ = some (Value.int .i64 tg) ∧ W.cell? ⟨b, 3, none⟩ = some (Value.slice Ak kids.length ck) ∧ Hs b tg (Value.slice Ak kids.length ck) (Value.slice Aa args.length ca) w W)
            (first | exact ⟨H3.k1, H3.k3, H3⟩ | (rename_i h8; exact ⟨h8.k1, h8.k3, h8⟩))
            (first
              | (go_at_call 13; refine (src_hs hL (b := b) (t := tg) (va := Value.slice Aa args.length ca) (w := w) ?_ HV.out.1 hB HK.out).mono ?_; (assumption); rintro e w' ⟨rfl, _⟩)
              | (go_at_call_of 26 (Value.bool false); refine (tag_hs false (b := b) (vk := Value.slice Ak kids.length ck) (va := Value.slice Aa args.length ca) (w := w) ?_ t1 t3 HU.out).mono ?_; (assumption); rintro e w' ⟨rfl, _⟩)
              | (go_at_call_of 26 (Value.bool true); refine (tag_hs true (b := b) (vk := Value.slice Ak kids.length ck) (va := Value.slice Aa args.length ca) (w := w) ?_ t1 t3 HW.out).mono ?_; (assumption); rintro e w' ⟨rfl, _⟩))
          have h8 : Hs b tg (Value.slice Ak kids.length ck) (Value.slice Aa args.length ca) w w' := by assumption
          go_wp2_with fail
          go_roundw
          case rel => exact ⟨k + 1, _, by omega, by go_num, rfl, Lib.hid (by rw [HT.out]; simp only [cat_list]; rw [hS.out, HK.out, HU.out, HW.out]; simp), Lib.hid h8.bl⟩
          case measure => exact meas hlt
        · rw [tagged, if_pos (tname_no ht)] at HT
          by_cases t1 : 1 ≤ tg
          · have t3 : ¬ tg ≤ 3 := fun h => ht ⟨t1, h⟩
            go_wp2_with fail
            go_roundw
            case rel => exact ⟨k + 1, _, by omega, by go_num, rfl, Lib.hid (by rw [HT.out, hS.out, List.append_nil]), B1⟩
            case measure => exact meas hlt
          · go_wp2_with fail
            go_roundw
            case rel => exact ⟨k + 1, _, by omega, by go_num, rfl, Lib.hid (by rw [HT.out, hS.out, List.append_nil]), B1⟩
            case measure => exact meas hlt
      rw [ntext, if_neg h1, if_neg h2, if_neg h3, if_neg h4, if_neg h5, if_neg h6] at HT
      have e1 : (kd == 1) = false := by simpa using h1
      have e2 : (kd == 2) = false := by simpa using h2
      have e3 : (kd == 3) = false := by simpa using h3
      have e4 : (kd == 4) = false := by simpa using h4
      have e5 : (kd == 5) = false := by simpa using h5
      have e6 : (kd == 6) = false := by simpa using h6
      clear hsg
      go_wp2_with fail
      go_roundw
      case rel => exact ⟨k + 1, _, by omega, by go_num, rfl, Lib.hid (by rw [HT.out, hS.out, List.append_nil]), B1⟩
      case measure => exact meas hlt
    · have e : k = l.length := by omega
      subst e
      rw [List.take_length] at hS
      go_wp2_with fail
      go_ret
      exact ⟨S, rfl, hS, hbl.out⟩

theorem srcs : ∀ d, SrcL d
  | 0 => fun _ _ _ _ h => h.elim
  | d + 1 => Source_step d (srcs d) (args_step d (srcs d))
end Go.Proofs.Ytlceaadaeednpaa.Tr
