/-
  The contract of Parse of package number.
-/
import Derived.Test.YtfocokjihbenmaaDoorNuCut
import Derived.Test.YtfocokjihbenmaaDoorNuAre
import Derived.Test.YtfocokjihbenmaaDoorNuMake
import Derived.Test.YtfocokjihbenmaaDoorNuDec
namespace Go.Proofs.YtfocokjihbenmaaDoor.Nu
open Go.RowKit
theorem power_q (k : Nat) (w : World) (h : k ≤ 9) : Calls Tryd.prog 53 #[.int .i64 (k : Int)] w fun e w' => e = .returned (.int .i64 (pw k)) ∧ w' = w :=
  (power_any k w h).mono fun _ _ ⟨he, hw⟩ => ⟨he, hw.symm⟩
set_option linter.unusedVariables false

theorem mk_list (l : List UInt8) : (⟨l.toArray⟩ : ByteArray).data.toList = l := rfl
theorem cat_list (a b : ByteArray) : (a ++ b).data.toList = a.data.toList ++ b.data.toList := by simp
theorem below_iter {w W : World} {B : Nat} (h : Below B w W) (k : Nat) (hk : B ≤ k) (s : ByteArray) (pos : Nat) : Below B w (W.iterAt k s pos) :=
  ⟨h.os, h.tape, h.output, by rw [Lib.iterAt_size]; exact h.size, fun j hj => by
    show (W.heap.setIfInBounds k (.stringIter s pos))[j]? = _
    rw [Array.getElem?_setIfInBounds_ne (by omega)]; exact h.block j hj⟩
theorem step_64 {v y : Nat} (hv : v < 100000000000000000) (hy : y ≤ 9) : IntKind.i64.wrap (10 * (v : Int)) = 10 * (v : Int) ∧ IntKind.i64.wrap (10 * (v : Int) + (y : Int)) = ((10 * v + y : Nat) : Int) ∧ IntKind.i64.wrap (y : Int) = (y : Int) := by
  refine ⟨IntWalk.i64_in _ (by omega), ?_, IntWalk.i64_in _ (by omega)⟩
  rw [IntWalk.i64_in _ (by omega)]
  omega
theorem step_32 {x : UInt8} {y : Nat} (hx : isD x = true) (hy : x.toNat - 48 = y) : IntKind.i32.wrap ((x.toNat : Int) - 48) = (y : Int) ∧ y ≤ 9 ∧ x.toNat < 128 := by
  have h : 48 ≤ x.toNat ∧ x.toNat ≤ 57 := of_decide_eq_true hx
  refine ⟨?_, by omega, by omega⟩
  rw [IntWalk.i32_in _ (by omega)]
  omega
theorem digit_at {l : List UInt8} {p : Nat} {x : UInt8} (h : l.all isD = true) (hx : l[p]? = some x) : isD x = true := List.all_eq_true.1 h x (List.mem_of_getElem? hx)
set_option maxRecDepth 100000 in
set_option maxHeartbeats 4000000 in
theorem Parse_PN (s r : ByteArray) (w : World) (ht : Tb w) (hs : s.size ≤ 1000) (hr : r.size ≤ 1000) (hp : Lib.hasPrefix s.data.toList [45] = true) (er : r.data.toList = Lib.trimPrefix s.data.toList [45]) :
    Calls Tryd.prog 29 #[.string s] w fun e w' => e = .returned (.tuple #[.agg #[.int .i64 (pbody true r.data.toList).n, .int .i64 (pbody true r.data.toList).d], .int .i64 (pbody true r.data.toList).e]) ∧ Below w.heap.size w w' := by
  have HW : Hid (Below w.heap.size w (w.alloc (.cells #[.int .i64 0, .int .i64 0] 23))) := Lib.hid ((Below.refl _ _).alloc (Nat.le_refl _) _)
  have HT := Lib.hid (ht.below HW.out)
  have h1 := Tryd.strings_CutPrefix s ⟨#[45]⟩ (w.alloc (.cells #[.int .i64 0, .int .i64 0] 23))
  have e1 : (⟨(Lib.trimPrefix s.data.toList (⟨#[45]⟩ : ByteArray).data.toList).toArray⟩ : ByteArray) = r := by
    show (⟨(Lib.trimPrefix s.data.toList [45]).toArray⟩ : ByteArray) = r
    rw [← er]
  have e2 : Lib.hasPrefix s.data.toList (⟨#[45]⟩ : ByteArray).data.toList = true := hp
  rw [e1, e2] at h1
  have H1 := Lib.hid h1
  clear h1 e1 e2 hp er
  obtain ⟨m, hm⟩ := HT.out.ml
  have h3 := Tryd.strings_Cut r ⟨#[46]⟩ m (w.alloc (.cells #[.int .i64 0, .int .i64 0] 23)) (by omega) hm
  have e3 : Lib.cut r.data.toList (⟨#[46]⟩ : ByteArray).data.toList = cut r.data.toList := cut_lib _
  rw [e3] at h3
  clear hm e3
  have hpb : pbody true r.data.toList = if idB (cut r.data.toList).1 (cut r.data.toList).2.1 (cut r.data.toList).2.2 then fit (-(val ((cut r.data.toList).1 ++ (cut r.data.toList).2.1) : Int)) (pw (cut r.data.toList).2.1.length) else ⟨0, 0, 1⟩ := rfl
  have hok := id_ok (l := r.data.toList)
  obtain ⟨a, ea⟩ : ∃ a : ByteArray, (⟨(cut r.data.toList).1.toArray⟩ : ByteArray) = a := ⟨_, rfl⟩
  obtain ⟨b, eb⟩ : ∃ b : ByteArray, (⟨(cut r.data.toList).2.1.toArray⟩ : ByteArray) = b := ⟨_, rfl⟩
  obtain ⟨pt, ep⟩ : ∃ pt : Bool, (cut r.data.toList).2.2 = pt := ⟨_, rfl⟩
  have la : (cut r.data.toList).1 = a.data.toList := by rw [← ea]
  have lb : (cut r.data.toList).2.1 = b.data.toList := by rw [← eb]
  rw [ea, eb, ep] at h3
  rw [la, lb, ep] at hpb hok
  have H3 := Lib.hid h3
  clear h3 ea eb ep la lb
  generalize hR : pbody true r.data.toList = R at *
  clear hR
  cases hI : idB a.data.toList b.data.toList pt
  · rw [hI] at hpb
    have HR : Hid (R = ⟨0, 0, 1⟩) := Lib.hid hpb
    have h4 := fun w => isDecimal_any a b pt w
    rw [hI] at h4
    have H4 := Lib.hid h4
    clear h4 hpb hok hI
    go_enter Tryd.func29, Tryd.ntmps29
    go_wp2_with fail
    refine H1.out.mono ?_
    rintro e w' ⟨rfl, rfl⟩
    clear H1
    go_wp2_with fail
    refine H3.out.mono ?_
    rintro e w2 ⟨rfl, n2, e2⟩
    have B2 : Hid (Below (w.alloc (.cells #[.int .i64 0, .int .i64 0] 23)).heap.size (w.alloc (.cells #[.int .i64 0, .int .i64 0] 23)) w2) := Lib.hid (by rw [e2]; exact below_drewN (Below.refl _ _) n2)
    clear H3 e2
    go_wp2_with fail
    refine (H4.out w2).mono ?_
    rintro e w3 ⟨rfl, hb⟩
    have B3 := Lib.hid (B2.out.trans (hb.mono B2.out.size))
    clear hb H4
    have b3 := B3.out
    obtain ⟨hc, hf⟩ := bcell b3
    have z0 := size1 b3
    have HB := Lib.hid (below1 b3)
    clear b3
    go_wp2
    exact bodyPost_ret (v := .tuple #[.agg #[.int .i64 0, .int .i64 0], .int .i64 1]) (by simp [results, Tryd.results29, go_sem, hc]) rfl ⟨by rw [HR.out], below_two HB.out _ _⟩
  · rw [hI, if_pos rfl] at hpb
    obtain ⟨hall, hla, hlb⟩ := hok hI
    rw [← cat_list] at hall hpb
    have hsa := Lib.size_eq a
    have hsb := Lib.size_eq b
    obtain ⟨t, et⟩ : ∃ t, a ++ b = t := ⟨_, rfl⟩
    have hts : t.size = a.size + b.size := by rw [← et]; exact ByteArray.size_append
    have htl := Lib.size_eq t
    rw [et] at hall hpb
    have hv := val_18 hall (by omega)
    obtain ⟨p1, p2⟩ := pw_bd (k := b.size) (by omega)
    rw [← hsb] at hpb
    have ht18 : t.size ≤ 18 := by omega
    have hb9 : b.size ≤ 9 := by omega
    have HR := Lib.hid hpb
    have HA := Lib.hid hall
    have HTL := Lib.hid htl
    have HV := Lib.hid hv
    have HP1 := Lib.hid (And.intro p1 p2)
    have h4 := fun w => isDecimal_any a b pt w
    rw [hI] at h4
    have H4 := Lib.hid h4
    have HF := Lib.hid (fun w => fit_any (-(val t.data.toList : Int)) (pw b.size) w (by omega) (by omega) (by omega))
    have HPW := Lib.hid (fun w => power_q b.size w hb9)
    have hs1 : ∀ W, (Op.stringOp .add a b).run Tryd.prog W = .ok (.string t) W := fun W => by rw [← et]; exact run_string_add_sum (P := Tryd.prog) W a b (by omega)
    have HTS := Lib.hid ht18
    clear h4 hpb hok hI hall hla hlb hsa hsb hts htl hv p1 p2 et hb9 ht18
    go_enter Tryd.func29, Tryd.ntmps29
    go_wp2_with fail
    refine H1.out.mono ?_
    rintro e w' ⟨rfl, rfl⟩
    clear H1
    go_wp2_with fail
    refine H3.out.mono ?_
    rintro e w2 ⟨rfl, n2, e2⟩
    have B2 : Hid (Below (w.alloc (.cells #[.int .i64 0, .int .i64 0] 23)).heap.size (w.alloc (.cells #[.int .i64 0, .int .i64 0] 23)) w2) := Lib.hid (by rw [e2]; exact below_drewN (Below.refl _ _) n2)
    clear H3 e2
    go_wp2_with fail
    refine (H4.out w2).mono ?_
    rintro e w3 ⟨rfl, hb⟩
    have B3 := Lib.hid (B2.out.trans (hb.mono B2.out.size))
    clear hb H4
    go_wp2
    go_loopw [9, 11] (fun u _ wr => ∃ pos v : Nat, pos ≤ t.size ∧ u = .int .i64 (v : Int) ∧ Hid (v = val (t.data.toList.take pos)) ∧ Hid (wr.heap[w3.heap.size]? = some (.stringIter t pos)) ∧ Hid (Below (w.alloc (.cells #[.int .i64 0, .int .i64 0] 23)).heap.size (w.alloc (.cells #[.int .i64 0, .int .i64 0] 23)) wr)) (fun _ _ wr => t.size - wr.iterPos w3.heap.size)
    case atStart => exact ⟨0, 0, Nat.zero_le _, rfl, Lib.hid rfl, Lib.hid (World.iter_heap w3 t 0), Lib.hid (B3.out.alloc B3.out.size _)⟩
    case round =>
      obtain ⟨pos, v, hp, hu, HVP, HI, HB⟩ := hrel
      subst hu
      have HP := Lib.hid (iterPos_of HI.out)
      by_cases hlt : pos < t.size
      · obtain ⟨x, hx⟩ : ∃ x : UInt8, t[pos]'hlt = x := ⟨_, rfl⟩
        have hxl : t.data.toList[pos]? = some x := by rw [← hx]; exact Lib.data_getElem? t pos hlt
        obtain ⟨y, hy⟩ : ∃ y, x.toNat - 48 = y := ⟨_, rfl⟩
        obtain ⟨f1, f2, f3⟩ := step_32 (digit_at HA.out hxl) hy
        have hv2 : v < 100000000000000000 := by rw [HVP.out]; exact val_take_lt HA.out (by have := HTS.out; omega)
        obtain ⟨g1, g2, g3⟩ := step_64 hv2 f2
        have HV2 : Hid (10 * v + y = val (t.data.toList.take (pos + 1))) := Lib.hid (by rw [val_step hxl, HVP.out, hy])
        have hnx := fun ty => Lib.run_next_ascii_at (P := Tryd.prog) wr w3.heap.size t pos ty HI.out hlt (by rw [hx]; exact f3)
        rw [hx] at hnx
        have HB2 := Lib.hid (below_iter HB.out w3.heap.size B3.out.size t (pos + 1))
        have HI2 := Lib.hid (Lib.iterAt_heap wr w3.heap.size t pos (pos + 1) HI.out)
        clear hxl hx hy f2 f3 hv2 HVP
        go_wp2
        go_roundw
        case rel => exact ⟨pos + 1, 10 * v + y, by omega, rfl, HV2, HI2, HB2⟩
        case measure => rw [iterPos_of HI2.out, HP.out]; omega
      · obtain rfl : pos = t.size := by omega
        have hnx := fun ty => Lib.run_next_end_at (P := Tryd.prog) wr w3.heap.size t t.size ty HI.out hlt
        have hv3 : v = val t.data.toList := by rw [HVP.out, List.take_of_length_le (by rw [← HTL.out]; exact Nat.le_refl _)]
        have hv4 : v < 1000000000000000000 := by rw [hv3]; exact HV.out
        have HF2 := HF
        rw [← hv3] at HF2
        have hR2 := HR.out
        rw [← hv3] at hR2
        have HR2 := Lib.hid hR2
        have g4 : IntKind.i64.wrap (-(v : Int)) = -(v : Int) := IntWalk.i64_in _ (by omega)
        clear hv3 hR2 HF HR HVP HV hv4
        go_wp2_with fail
        refine (HPW.out _).mono ?_
        rintro e w' ⟨rfl, rfl⟩
        go_wp2_with fail
        refine (HF2.out _).mono ?_
        rintro e w5 ⟨rfl, hb⟩
        have b5 := HB.out.trans (hb.mono HB.out.size)
        clear hb
        obtain ⟨hc, hf⟩ := bcell b5
        have z0 := size1 b5
        have HB5 := Lib.hid (below1 b5)
        clear b5
        go_wp2
        exact bodyPost_ret (v := .tuple #[.agg #[.int .i64 (fit (-(v : Int)) (pw b.size)).n, .int .i64 (fit (-(v : Int)) (pw b.size)).d], .int .i64 (fit (-(v : Int)) (pw b.size)).e]) (by simp [results, Tryd.results29, go_sem, hc]) rfl ⟨by rw [HR2.out], below_two HB5.out _ _⟩
set_option maxRecDepth 100000 in
set_option maxHeartbeats 4000000 in
theorem Parse_PP (s r : ByteArray) (w : World) (ht : Tb w) (hs : s.size ≤ 1000) (hr : r.size ≤ 1000) (hp : Lib.hasPrefix s.data.toList [45] = false) (er : r.data.toList = Lib.trimPrefix s.data.toList [43]) :
    Calls Tryd.prog 29 #[.string s] w fun e w' => e = .returned (.tuple #[.agg #[.int .i64 (pbody false r.data.toList).n, .int .i64 (pbody false r.data.toList).d], .int .i64 (pbody false r.data.toList).e]) ∧ Below w.heap.size w w' := by
  have HW : Hid (Below w.heap.size w (w.alloc (.cells #[.int .i64 0, .int .i64 0] 23))) := Lib.hid ((Below.refl _ _).alloc (Nat.le_refl _) _)
  have HT := Lib.hid (ht.below HW.out)
  have h1 := Tryd.strings_CutPrefix s ⟨#[45]⟩ (w.alloc (.cells #[.int .i64 0, .int .i64 0] 23))
  have h2 := Tryd.strings_TrimPrefix s ⟨#[43]⟩ (w.alloc (.cells #[.int .i64 0, .int .i64 0] 23))
  have e1 : (⟨(Lib.trimPrefix s.data.toList (⟨#[43]⟩ : ByteArray).data.toList).toArray⟩ : ByteArray) = r := by
    show (⟨(Lib.trimPrefix s.data.toList [43]).toArray⟩ : ByteArray) = r
    rw [← er]
  have e2 : Lib.hasPrefix s.data.toList (⟨#[45]⟩ : ByteArray).data.toList = false := hp
  rw [e1] at h2
  rw [e2] at h1
  generalize (⟨(Lib.trimPrefix s.data.toList (⟨#[45]⟩ : ByteArray).data.toList).toArray⟩ : ByteArray) = junk at h1
  have H1 := Lib.hid h1
  have H2 := Lib.hid h2
  clear h1 h2 e1 e2 hp er
  obtain ⟨m, hm⟩ := HT.out.ml
  have h3 := Tryd.strings_Cut r ⟨#[46]⟩ m (w.alloc (.cells #[.int .i64 0, .int .i64 0] 23)) (by omega) hm
  have e3 : Lib.cut r.data.toList (⟨#[46]⟩ : ByteArray).data.toList = cut r.data.toList := cut_lib _
  rw [e3] at h3
  clear hm e3
  have hpb : pbody false r.data.toList = if idB (cut r.data.toList).1 (cut r.data.toList).2.1 (cut r.data.toList).2.2 then fit (val ((cut r.data.toList).1 ++ (cut r.data.toList).2.1) : Int) (pw (cut r.data.toList).2.1.length) else ⟨0, 0, 1⟩ := rfl
  have hok := id_ok (l := r.data.toList)
  obtain ⟨a, ea⟩ : ∃ a : ByteArray, (⟨(cut r.data.toList).1.toArray⟩ : ByteArray) = a := ⟨_, rfl⟩
  obtain ⟨b, eb⟩ : ∃ b : ByteArray, (⟨(cut r.data.toList).2.1.toArray⟩ : ByteArray) = b := ⟨_, rfl⟩
  obtain ⟨pt, ep⟩ : ∃ pt : Bool, (cut r.data.toList).2.2 = pt := ⟨_, rfl⟩
  have la : (cut r.data.toList).1 = a.data.toList := by rw [← ea]
  have lb : (cut r.data.toList).2.1 = b.data.toList := by rw [← eb]
  rw [ea, eb, ep] at h3
  rw [la, lb, ep] at hpb hok
  have H3 := Lib.hid h3
  clear h3 ea eb ep la lb
  generalize hR : pbody false r.data.toList = R at *
  clear hR
  cases hI : idB a.data.toList b.data.toList pt
  · rw [hI] at hpb
    have HR : Hid (R = ⟨0, 0, 1⟩) := Lib.hid hpb
    have h4 := fun w => isDecimal_any a b pt w
    rw [hI] at h4
    have H4 := Lib.hid h4
    clear h4 hpb hok hI
    go_enter Tryd.func29, Tryd.ntmps29
    go_wp2_with fail
    refine H1.out.mono ?_
    rintro e w' ⟨rfl, rfl⟩
    clear H1
    go_wp2_with fail
    refine H2.out.mono ?_
    rintro e w' ⟨rfl, rfl⟩
    clear H2
    go_wp2_with fail
    refine H3.out.mono ?_
    rintro e w2 ⟨rfl, n2, e2⟩
    have B2 : Hid (Below (w.alloc (.cells #[.int .i64 0, .int .i64 0] 23)).heap.size (w.alloc (.cells #[.int .i64 0, .int .i64 0] 23)) w2) := Lib.hid (by rw [e2]; exact below_drewN (Below.refl _ _) n2)
    clear H3 e2
    go_wp2_with fail
    refine (H4.out w2).mono ?_
    rintro e w3 ⟨rfl, hb⟩
    have B3 := Lib.hid (B2.out.trans (hb.mono B2.out.size))
    clear hb H4
    have b3 := B3.out
    obtain ⟨hc, hf⟩ := bcell b3
    have z0 := size1 b3
    have HB := Lib.hid (below1 b3)
    clear b3
    go_wp2
    exact bodyPost_ret (v := .tuple #[.agg #[.int .i64 0, .int .i64 0], .int .i64 1]) (by simp [results, Tryd.results29, go_sem, hc]) rfl ⟨by rw [HR.out], below_two HB.out _ _⟩
  · rw [hI, if_pos rfl] at hpb
    obtain ⟨hall, hla, hlb⟩ := hok hI
    rw [← cat_list] at hall hpb
    have hsa := Lib.size_eq a
    have hsb := Lib.size_eq b
    obtain ⟨t, et⟩ : ∃ t, a ++ b = t := ⟨_, rfl⟩
    have hts : t.size = a.size + b.size := by rw [← et]; exact ByteArray.size_append
    have htl := Lib.size_eq t
    rw [et] at hall hpb
    have hv := val_18 hall (by omega)
    obtain ⟨p1, p2⟩ := pw_bd (k := b.size) (by omega)
    rw [← hsb] at hpb
    have ht18 : t.size ≤ 18 := by omega
    have hb9 : b.size ≤ 9 := by omega
    have HR := Lib.hid hpb
    have HA := Lib.hid hall
    have HTL := Lib.hid htl
    have HV := Lib.hid hv
    have HP1 := Lib.hid (And.intro p1 p2)
    have h4 := fun w => isDecimal_any a b pt w
    rw [hI] at h4
    have H4 := Lib.hid h4
    have HF := Lib.hid (fun w => fit_any (val t.data.toList : Int) (pw b.size) w (by omega) (by omega) (by omega))
    have HPW := Lib.hid (fun w => power_q b.size w hb9)
    have hs1 : ∀ W, (Op.stringOp .add a b).run Tryd.prog W = .ok (.string t) W := fun W => by rw [← et]; exact run_string_add_sum (P := Tryd.prog) W a b (by omega)
    have HTS := Lib.hid ht18
    clear h4 hpb hok hI hall hla hlb hsa hsb hts htl hv p1 p2 et hb9 ht18
    go_enter Tryd.func29, Tryd.ntmps29
    go_wp2_with fail
    refine H1.out.mono ?_
    rintro e w' ⟨rfl, rfl⟩
    clear H1
    go_wp2_with fail
    refine H2.out.mono ?_
    rintro e w' ⟨rfl, rfl⟩
    clear H2
    go_wp2_with fail
    refine H3.out.mono ?_
    rintro e w2 ⟨rfl, n2, e2⟩
    have B2 : Hid (Below (w.alloc (.cells #[.int .i64 0, .int .i64 0] 23)).heap.size (w.alloc (.cells #[.int .i64 0, .int .i64 0] 23)) w2) := Lib.hid (by rw [e2]; exact below_drewN (Below.refl _ _) n2)
    clear H3 e2
    go_wp2_with fail
    refine (H4.out w2).mono ?_
    rintro e w3 ⟨rfl, hb⟩
    have B3 := Lib.hid (B2.out.trans (hb.mono B2.out.size))
    clear hb H4
    go_wp2
    go_loopw [9, 11] (fun u _ wr => ∃ pos v : Nat, pos ≤ t.size ∧ u = .int .i64 (v : Int) ∧ Hid (v = val (t.data.toList.take pos)) ∧ Hid (wr.heap[w3.heap.size]? = some (.stringIter t pos)) ∧ Hid (Below (w.alloc (.cells #[.int .i64 0, .int .i64 0] 23)).heap.size (w.alloc (.cells #[.int .i64 0, .int .i64 0] 23)) wr)) (fun _ _ wr => t.size - wr.iterPos w3.heap.size)
    case atStart => exact ⟨0, 0, Nat.zero_le _, rfl, Lib.hid rfl, Lib.hid (World.iter_heap w3 t 0), Lib.hid (B3.out.alloc B3.out.size _)⟩
    case round =>
      obtain ⟨pos, v, hp, hu, HVP, HI, HB⟩ := hrel
      subst hu
      have HP := Lib.hid (iterPos_of HI.out)
      by_cases hlt : pos < t.size
      · obtain ⟨x, hx⟩ : ∃ x : UInt8, t[pos]'hlt = x := ⟨_, rfl⟩
        have hxl : t.data.toList[pos]? = some x := by rw [← hx]; exact Lib.data_getElem? t pos hlt
        obtain ⟨y, hy⟩ : ∃ y, x.toNat - 48 = y := ⟨_, rfl⟩
        obtain ⟨f1, f2, f3⟩ := step_32 (digit_at HA.out hxl) hy
        have hv2 : v < 100000000000000000 := by rw [HVP.out]; exact val_take_lt HA.out (by have := HTS.out; omega)
        obtain ⟨g1, g2, g3⟩ := step_64 hv2 f2
        have HV2 : Hid (10 * v + y = val (t.data.toList.take (pos + 1))) := Lib.hid (by rw [val_step hxl, HVP.out, hy])
        have hnx := fun ty => Lib.run_next_ascii_at (P := Tryd.prog) wr w3.heap.size t pos ty HI.out hlt (by rw [hx]; exact f3)
        rw [hx] at hnx
        have HB2 := Lib.hid (below_iter HB.out w3.heap.size B3.out.size t (pos + 1))
        have HI2 := Lib.hid (Lib.iterAt_heap wr w3.heap.size t pos (pos + 1) HI.out)
        clear hxl hx hy f2 f3 hv2 HVP
        go_wp2
        go_roundw
        case rel => exact ⟨pos + 1, 10 * v + y, by omega, rfl, HV2, HI2, HB2⟩
        case measure => rw [iterPos_of HI2.out, HP.out]; omega
      · obtain rfl : pos = t.size := by omega
        have hnx := fun ty => Lib.run_next_end_at (P := Tryd.prog) wr w3.heap.size t t.size ty HI.out hlt
        have hv3 : v = val t.data.toList := by rw [HVP.out, List.take_of_length_le (by rw [← HTL.out]; exact Nat.le_refl _)]
        have hv4 : v < 1000000000000000000 := by rw [hv3]; exact HV.out
        have HF2 := HF
        rw [← hv3] at HF2
        have hR2 := HR.out
        rw [← hv3] at hR2
        have HR2 := Lib.hid hR2
        clear hv3 hR2 HF HR HVP HV hv4
        go_wp2_with fail
        refine (HPW.out _).mono ?_
        rintro e w' ⟨rfl, rfl⟩
        go_wp2_with fail
        refine (HF2.out _).mono ?_
        rintro e w5 ⟨rfl, hb⟩
        have b5 := HB.out.trans (hb.mono HB.out.size)
        clear hb
        obtain ⟨hc, hf⟩ := bcell b5
        have z0 := size1 b5
        have HB5 := Lib.hid (below1 b5)
        clear b5
        go_wp2
        exact bodyPost_ret (v := .tuple #[.agg #[.int .i64 (fit (v : Int) (pw b.size)).n, .int .i64 (fit (v : Int) (pw b.size)).d], .int .i64 (fit (v : Int) (pw b.size)).e]) (by simp [results, Tryd.results29, go_sem, hc]) rfl ⟨by rw [HR2.out], below_two HB5.out _ _⟩
theorem Parse_any (s : ByteArray) (w : World) (ht : Tb w) (hs : s.size ≤ 1000) :
    Calls Tryd.prog 29 #[.string s] w fun e w' => e = .returned (.tuple #[.agg #[.int .i64 (parse s.data.toList).n, .int .i64 (parse s.data.toList).d], .int .i64 (parse s.data.toList).e]) ∧ Below w.heap.size w w' := by
  have hsz := Lib.size_eq s
  have hl : ∀ c : UInt8, (Lib.trimPrefix s.data.toList [c]).length ≤ s.data.toList.length := fun c => by
    unfold Lib.trimPrefix
    split
    · rw [List.length_drop]; omega
    · exact Nat.le_refl _
  cases hp : Lib.hasPrefix s.data.toList [45]
  · rw [parse_pos hp]
    exact Parse_PP s ⟨(Lib.trimPrefix s.data.toList [43]).toArray⟩ w ht hs (by rw [Lib.size_eq]; have := hl 43; show (Lib.trimPrefix s.data.toList [43]).length ≤ 1000; omega) hp rfl
  · rw [parse_neg hp]
    exact Parse_PN s ⟨(Lib.trimPrefix s.data.toList [45]).toArray⟩ w ht hs (by rw [Lib.size_eq]; have := hl 45; show (Lib.trimPrefix s.data.toList [45]).length ≤ 1000; omega) hp rfl
end Go.Proofs.YtfocokjihbenmaaDoor.Nu
