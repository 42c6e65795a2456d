/-
  SectionNests.
-/
import Derived.Test.YtdojbnngdlmbgaaGreatDoorSeG
import Derived.BigQuiet
namespace Go.Proofs.YtdojbnngdlmbgaaGreatDoor.Se
open Go.RowKit Go.Shelf Go.Proofs.YtdojbnngdlmbgaaGreatDoor.Tr
set_option linter.unusedVariables false
set_option linter.unusedSimpArgs false

theorem secL_nest {s : ByteArray} {k i : Nat} {y x : Sc} (hk : (secL s)[k]? = some y) (hi : (secL s)[i]? = some x) (hki : k < i) (h : x.fr < y.to) : y.lv < x.lv ∧ x.to ≤ y.to :=
  secs_nest (hdL_fine s) hk hi hki h
theorem secL_step {s : ByteArray} {i e : Nat} {x : Sc} (hi : (secL s)[i]? = some x) (he : At s.size ((hdL s).drop i) e) : At s.size ((hdL s).drop (i + 1)) (if x.fr = e then x.to else e) := by
  obtain ⟨y, hy, rfl⟩ := secs_get hi
  have hlt : i < (hdL s).length := (List.getElem?_eq_some_iff.1 hy).1
  have hyy : (hdL s)[i] = y := (List.getElem?_eq_some_iff.1 hy).2
  obtain ⟨b, _, hf⟩ := Fine.drop (hdL_fine s) i
  rw [List.drop_eq_getElem_cons hlt, hyy] at he hf
  exact step_at hf he
theorem ext_join {s : ByteArray} {a b c : Nat} (h1 : a ≤ b) (h2 : b ≤ c) : s.extract a b ++ s.extract b c = s.extract a c := by
  rw [ByteArray.extract_append_extract, Nat.min_eq_left h1, Nat.max_eq_right h2]
theorem rd_at5 {w : World} {g f n c : Nat} {l : List Sc} (h : Rd 5 encSc w w.heap.size (.slice (some ⟨g, f, none⟩) n c) l) {k : Nat} {x : Sc} (hx : l[k]? = some x) :
    w.cell? ⟨g, f + k * 5, none⟩ = some (.int .i64 (x.lv : Int)) ∧ w.cell? ⟨g, f + k * 5 + 2, none⟩ = some (.int .i64 (x.fr : Int)) ∧ w.cell? ⟨g, f + k * 5 + 3, none⟩ = some (.int .i64 (x.bo : Int)) ∧ w.cell? ⟨g, f + k * 5 + 4, none⟩ = some (.int .i64 (x.to : Int)) := by
  obtain ⟨A, c', h1, _, _, h4⟩ := h.ex
  have hl : k < l.length := (List.getElem?_eq_some_iff.1 hx).1
  obtain ⟨g', o, h5, _, q⟩ := h4 (by omega)
  injection h1 with h7
  rw [h5] at h7
  injection h7 with h7
  injection h7 with h8 h9
  subst h8 h9
  exact ⟨q k x hx 0 _ rfl, q k x hx 2 _ rfl, q k x hx 3 _ rfl, q k x hx 4 _ rfl⟩
set_option maxRecDepth 100000 in
set_option maxHeartbeats 8000000 in
theorem SectionNests_any (A : Option Addr) (n c : Nat) (w : World) (hs : Sl w A n c) (hT : Tk.Tb w) :
    Calls Tryz.prog 4 #[.slice A n c] w fun e w' => e = .returned (.bool true) ∧ Below w.heap.size w w' := by
  have HK := Lib.hid (fun (W : World) (hW : Below w.heap.size w W) => known_any W (hT.below hW))
  have HTb := Lib.hid (fun (W : World) (hW : Below w.heap.size w W) => hT.below hW)
  have HS := Lib.hid hs
  have hle := hs.le
  have hmx := hs.mx
  unfold maxLen at hmx
  clear hs hT
  go_enter Tryz.func4, Tryz.ntmps4
  go_wp2_with fail
  (with_reducible refine (New_any A n c w).mono ?_)
  rintro e w1 ⟨rfl, ht1⟩
  have HT2 := Lib.hid (Text_2 w A n c w.heap.size HS.out w1 ht1)
  unfold TxP at HT2
  clear ht1
  go_wp2_with fail
  (with_reducible refine HT2.out.mono ?_)
  rintro e w2 ⟨s, hsz, rfl, ht2⟩
  have B2 := Lib.hid ht2.bl
  clear ht2 HT2
  by_cases h1 : 1500 < s.size
  · have d1 : (1500 : Int) < (s.size : Int) := by omega
    go_wp2_with fail
    (with_reducible refine (HK.out _ B2.out).mono ?_)
    rintro e w4 ⟨rfl, b4⟩
    have B4 := Lib.hid (B2.out.trans (b4.mono B2.out.size))
    clear b4
    go_wp2
    go_ret
    exact ⟨rfl, B4.out⟩
  have d1 : ¬ (1500 : Int) < (s.size : Int) := by omega
  go_wp2_with fail
  (with_reducible refine (Sections_L s w2 (HTb.out _ B2.out) hsz).mono ?_)
  rintro e w3 ⟨A3, c3, rfl, hr3, hc3, hm3, b3⟩
  have B3 := Lib.hid (B2.out.trans (b3.mono B2.out.size))
  have R3 := Lib.hid hr3
  clear b3 hr3
  obtain ⟨L, hL⟩ : ∃ L, (secL s).length = L := ⟨_, rfl⟩
  rw [hL] at hc3 R3 ⊢
  have HLn := Lib.hid hL
  have HLd := Lib.hid (Lead_any s w3 (HTb.out _ B3.out) hsz)
  obtain ⟨e0, he0⟩ : ∃ e0, ldL s = e0 := ⟨_, rfl⟩
  have HA0 : Hid (At s.size ((hdL s).drop 0) e0) := Lib.hid (by rw [← he0]; exact lead_at _ _)
  have HE0 : e0 ≤ s.size := by
    rcases HA0.out with e | ⟨z, hz, e⟩
    · omega
    · obtain ⟨j, hj⟩ := List.getElem?_of_mem (List.mem_of_mem_drop hz)
      have : (secL s)[j]? = some ⟨z.lv, z.ti, z.fr, z.bo, endOf s.size z.lv ((hdL s).drop (j + 1))⟩ := by
        have hjl := (List.getElem?_eq_some_iff.1 hj).1
        have := secs_at s.size (hdL s) hjl
        rw [(List.getElem?_eq_some_iff.1 hj).2] at this
        exact this
      have := (secL_in this).1
      simp only at this
      omega
  rw [he0] at HLd
  obtain ⟨a0, ha0⟩ : ∃ a0, s.extract 0 e0 = a0 := ⟨_, rfl⟩
  rw [ha0] at HLd
  have ha0z : a0.size = e0 := by rw [← ha0, ByteArray.size_extract]; omega
  have HAl0 := Lib.hid ha0
  clear hL he0 ha0
  go_wp2_with fail
  (with_reducible refine HLd.out.mono ?_)
  rintro e w4 ⟨rfl, b4⟩
  have B4 := Lib.hid (B3.out.trans (b4.mono B3.out.size))
  have R4 := Lib.hid (R3.out.up b4)
  clear b4 R3 B3 HLd
  go_wp2_with fail
  go_loopw [6, 8, 9] (fun av ev iv wr => ∃ (i e : Nat) (al : ByteArray), av = .string al ∧ ev = .int .i64 (e : Int) ∧ iv = .int .i64 (i : Int) ∧ i ≤ L ∧ e ≤ s.size ∧ al.size ≤ 1500 ∧ Hid (s.extract 0 e = al) ∧ Hid (At s.size ((hdL s).drop i) e) ∧ Hid (Below w.heap.size w wr) ∧ Hid (Rd 5 encSc wr wr.heap.size (.slice A3 L c3) (secL s))) (fun _ _ i _ => L - (intOf i).toNat)
  case atStart => exact ⟨0, e0, a0, rfl, by first | rfl | rw [ha0z], by go_num, Nat.zero_le _, HE0, by omega, HAl0, HA0, B4, R4⟩
  case round =>
    obtain ⟨i, e, al, rfl, rfl, rfl, hiL, heS, haz, HAl, HAt, HB, HR⟩ := hrel
    by_cases hlt : i < L
    · have hli : (i : Int) < (L : Int) := by omega
      obtain ⟨x, hx⟩ : ∃ x, (secL s)[i]? = some x := ⟨_, List.getElem?_eq_getElem (by rw [HLn.out]; exact hlt)⟩
      obtain ⟨x1, x2, x3, x4⟩ := secL_in hx
      have HX := Lib.hid hx
      have HSt := Lib.hid (secL_step hx HAt.out)
      have HTx := Lib.hid (Text_yes s i x hx wr (HTb.out _ HB.out) hsz)
      obtain ⟨g, f, hA3, hgl⟩ : ∃ g f, A3 = some ⟨g, f, none⟩ ∧ g < wr.heap.size := by
        obtain ⟨A', c', hv, _, _, h3⟩ := HR.out.ex
        obtain ⟨g, f, e5, hg, _⟩ := h3 (by rw [HLn.out]; omega)
        injection hv with e1
        exact ⟨g, f, e1.trans e5, hg⟩
      subst hA3
      obtain ⟨xt, hxt⟩ : ∃ xt, s.extract x.fr x.to = xt := ⟨_, rfl⟩
      rw [hxt] at HTx
      have hxz : xt.size ≤ 1500 := by rw [← hxt, ByteArray.size_extract]; omega
      have HXt := Lib.hid hxt
      clear hx hxt HAt
      go_wp2_with fail
      (with_reducible refine HTx.out.mono ?_)
      rintro e w5 ⟨rfl, b5⟩
      have HB5 := Lib.hid (HB.out.trans (b5.mono HB.out.size))
      have HR5 := Lib.hid (HR.out.up b5)
      have hg5 : g < w5.heap.size := Nat.lt_of_lt_of_le hgl b5.size
      clear b5 HB HR HTx
      obtain ⟨c0, c2, c3x, c4⟩ := rd_at5 HR5.out HX.out
      obtain ⟨lv, ti, fr, bo, tz⟩ := x
      simp only at x1 x2 x3 x4 HXt HSt c0 c2 c3x c4
      have k1 : decide ((bo : Int) < (fr : Int)) = false := decide_eq_false (by omega)
      have k2 : decide ((tz : Int) < (bo : Int)) = false := decide_eq_false (by omega)
      have k3 : decide ((s.size : Int) < (tz : Int)) = false := decide_eq_false (by omega)
      go_wp2_with fail
      go_quiet (fail)
      by_cases hfe : fr = e
      · subst hfe
        have hfb : ((fr : Int) == (fr : Int)) = true := by simp
        have HAl2 : Hid (s.extract 0 tz = al ++ xt) := Lib.hid (by rw [← HAl.out, ← HXt.out]; exact (ext_join (Nat.zero_le _) (by omega)).symm)
        have HAt2 : Hid (At s.size ((hdL s).drop (i + 1)) tz) := Lib.hid (by have := HSt.out; rwa [if_pos rfl] at this)
        have haz2 : (al ++ xt).size ≤ 1500 := by rw [← HAl2.out, ByteArray.size_extract]; omega
        clear HAl HSt HXt
        go_wp2_with fail
        go_quiet (fail)
        go_wp2_with fail
        go_loopw [12] (fun kv wq => ∃ (k : Nat), k ≤ i ∧ kv = .int .i64 (k : Int) ∧ Hid (Below w.heap.size w wq) ∧ Hid (Rd 5 encSc wq wq.heap.size (.slice (some ⟨g, f, none⟩) L c3) (secL s))) (fun kv _ => i - (intOf kv).toNat)
        case atStart => exact ⟨0, Nat.zero_le _, by go_num, Lib.hid (by first | exact HB5.out | exact below_drewN HB5.out _ | exact below_drewN (below_drewN HB5.out _) _), Lib.hid (by first | exact HR5.out | exact HR5.out.up (below_drewN (Below.refl _ _) _) | exact (HR5.out.up (below_drewN (Below.refl _ _) _)).up (below_drewN (Below.refl _ _) _))⟩
        case round =>
          obtain ⟨k, hki, rfl, HBq, HRq⟩ := hrel
          by_cases hlk : k < i
          · have hlki : (k : Int) < (i : Int) := by omega
            have hkL : (k : Int) < (L : Int) := by omega
            obtain ⟨y, hy⟩ : ∃ y, (secL s)[k]? = some y := ⟨_, List.getElem?_eq_getElem (by rw [HLn.out]; omega)⟩
            have HN := Lib.hid (fun h => secL_nest hy HX.out hlk h)
            obtain ⟨e0, e2, e3, e4⟩ := rd_at5 HRq.out HX.out
            obtain ⟨f0, f2, f3, f4⟩ := rd_at5 HRq.out hy
            obtain ⟨lv2, ti2, fr2, bo2, tz2⟩ := y
            simp only at HN e0 e2 e3 e4 f0 f2 f3 f4
            have hk2 : k + 1 ≤ i := by omega
            clear hy c0 c2 c3x c4
            by_cases hin : fr < tz2
            · have b1 : decide ((fr : Int) < (tz2 : Int)) = true := decide_eq_true (by omega)
              have b2 : tz ≤ tz2 := (HN.out hin).2
              have b3 : lv2 < lv := (HN.out hin).1
              have b4 : decide (tz2 < tz) = false := decide_eq_false (by omega)
              have b5 : decide (lv ≤ lv2) = false := decide_eq_false (by omega)
              have b6 : decide ((tz2 : Int) < (tz : Int)) = false := decide_eq_false (by omega)
              have b7 : decide ((lv : Int) ≤ (lv2 : Int)) = false := decide_eq_false (by omega)
              go_wp2_with fail
              go_quiet (fail)
              go_wp2_with fail
              go_roundw
              case rel => exact ⟨k + 1, hk2, by go_num, Lib.hid (below_drewN HBq.out _), Lib.hid (HRq.out.up (below_drewN (Below.refl _ _) _))⟩
              case measure => simp [intOf]; omega
            · have b1 : decide ((fr : Int) < (tz2 : Int)) = false := decide_eq_false (by omega)
              go_wp2_with fail
              go_quiet (fail)
              go_wp2_with fail
              go_roundw
              case rel => exact ⟨k + 1, hk2, by go_num, Lib.hid (below_drewN HBq.out _), Lib.hid (HRq.out.up (below_drewN (Below.refl _ _) _))⟩
              case measure => simp [intOf]; omega
          · have hlki : ¬ (k : Int) < (i : Int) := by omega
            have hi2 : i + 1 ≤ L := by omega
            go_wp2_with fail
            go_roundw
            case rel => exact ⟨i + 1, tz, al ++ xt, rfl, rfl, by go_num, hi2, x4, haz2, HAl2, HAt2, HBq, HRq⟩
            case measure => simp [intOf]; omega
      · have hfb : ((fr : Int) == (e : Int)) = false := by rw [beq_eq_false_iff_ne]; omega
        have HAt2 : Hid (At s.size ((hdL s).drop (i + 1)) e) := Lib.hid (by have := HSt.out; rwa [if_neg hfe] at this)
        clear HSt HXt
        go_wp2_with fail
        go_loopw [12] (fun kv wq => ∃ (k : Nat), k ≤ i ∧ kv = .int .i64 (k : Int) ∧ Hid (Below w.heap.size w wq) ∧ Hid (Rd 5 encSc wq wq.heap.size (.slice (some ⟨g, f, none⟩) L c3) (secL s))) (fun kv _ => i - (intOf kv).toNat)
        case atStart => exact ⟨0, Nat.zero_le _, by go_num, Lib.hid (by first | exact HB5.out | exact below_drewN HB5.out _ | exact below_drewN (below_drewN HB5.out _) _), Lib.hid (by first | exact HR5.out | exact HR5.out.up (below_drewN (Below.refl _ _) _) | exact (HR5.out.up (below_drewN (Below.refl _ _) _)).up (below_drewN (Below.refl _ _) _))⟩
        case round =>
          obtain ⟨k, hki, rfl, HBq, HRq⟩ := hrel
          by_cases hlk : k < i
          · have hlki : (k : Int) < (i : Int) := by omega
            have hkL : (k : Int) < (L : Int) := by omega
            obtain ⟨y, hy⟩ : ∃ y, (secL s)[k]? = some y := ⟨_, List.getElem?_eq_getElem (by rw [HLn.out]; omega)⟩
            have HN := Lib.hid (fun h => secL_nest hy HX.out hlk h)
            obtain ⟨e0, e2, e3, e4⟩ := rd_at5 HRq.out HX.out
            obtain ⟨f0, f2, f3, f4⟩ := rd_at5 HRq.out hy
            obtain ⟨lv2, ti2, fr2, bo2, tz2⟩ := y
            simp only at HN e0 e2 e3 e4 f0 f2 f3 f4
            have hk2 : k + 1 ≤ i := by omega
            clear hy c0 c2 c3x c4
            by_cases hin : fr < tz2
            · have b1 : decide ((fr : Int) < (tz2 : Int)) = true := decide_eq_true (by omega)
              have b2 : tz ≤ tz2 := (HN.out hin).2
              have b3 : lv2 < lv := (HN.out hin).1
              have b4 : decide (tz2 < tz) = false := decide_eq_false (by omega)
              have b5 : decide (lv ≤ lv2) = false := decide_eq_false (by omega)
              have b6 : decide ((tz2 : Int) < (tz : Int)) = false := decide_eq_false (by omega)
              have b7 : decide ((lv : Int) ≤ (lv2 : Int)) = false := decide_eq_false (by omega)
              go_wp2_with fail
              go_quiet (fail)
              go_wp2_with fail
              go_roundw
              case rel => exact ⟨k + 1, hk2, by go_num, Lib.hid (below_drewN HBq.out _), Lib.hid (HRq.out.up (below_drewN (Below.refl _ _) _))⟩
              case measure => simp [intOf]; omega
            · have b1 : decide ((fr : Int) < (tz2 : Int)) = false := decide_eq_false (by omega)
              go_wp2_with fail
              go_quiet (fail)
              go_wp2_with fail
              go_roundw
              case rel => exact ⟨k + 1, hk2, by go_num, Lib.hid (below_drewN HBq.out _), Lib.hid (HRq.out.up (below_drewN (Below.refl _ _) _))⟩
              case measure => simp [intOf]; omega
          · have hlki : ¬ (k : Int) < (i : Int) := by omega
            have hi2 : i + 1 ≤ L := by omega
            go_wp2_with fail
            go_roundw
            case rel => exact ⟨i + 1, e, al, rfl, rfl, by go_num, hi2, heS, haz, HAl, HAt2, HBq, HRq⟩
            case measure => simp [intOf]; omega
    · have hli : ¬ (i : Int) < (L : Int) := by omega
      have heq : e = s.size := at_nil (by
        have := HAt.out
        rwa [List.drop_eq_nil_of_le (by rw [← secL_len, HLn.out]; omega)] at this)
      have hal : (al.toList == s.toList) = true := by rw [← HAl.out, heq, ext_all]; exact beq_self_eq_true _
      clear heq
      go_wp2_with fail
      (with_reducible refine (HK.out _ HB.out).mono ?_)
      rintro e w6 ⟨rfl, b6⟩
      have B6 := Lib.hid (HB.out.trans (b6.mono HB.out.size))
      clear b6
      go_wp2
      go_ret
      exact ⟨rfl, B6.out⟩
end Go.Proofs.YtdojbnngdlmbgaaGreatDoor.Se
