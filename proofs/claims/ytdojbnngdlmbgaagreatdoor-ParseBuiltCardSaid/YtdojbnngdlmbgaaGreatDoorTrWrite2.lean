/-
  The contracts of writeTag, writeNode and package tree's Source.
-/
import Derived.Test.YtdojbnngdlmbgaaGreatDoorTrWrite
namespace Go.Proofs.YtdojbnngdlmbgaaGreatDoor.Tr
open Go.RowKit

theorem Fr.box2 {B b : Nat} {w w' : World} {k : Nat} {cs : Array Value} {t : TypeId} (h : Fr B b w w') (hx : w.heap[k]? = some (.cells cs t)) (ht : t ≠ 5) (hb : b < k) : w'.heap[k]? = some (.cells cs t) :=
  h.kept _ _ hx (fun e => by have := Option.some.inj e; omega) (fun c fz e => ht (by injection e))

theorem cat_list (a b : ByteArray) : (a ++ b).data.toList = a.data.toList ++ b.data.toList := by rw [ByteArray.data_append, Array.toList_append]

def S1 (T : List UInt8) : ByteArray := (⟨#[60]⟩ : ByteArray) ++ (⟨T.toArray⟩ : ByteArray) ++ (⟨#[62]⟩ : ByteArray)
def S2 (T : List UInt8) : ByteArray := (⟨#[60, 47]⟩ : ByteArray) ++ (⟨T.toArray⟩ : ByteArray) ++ (⟨#[62]⟩ : ByteArray)
theorem S1_list (T : List UInt8) : (S1 T).data.toList = [60] ++ T ++ [62] := by unfold S1; rw [cat_list, cat_list]
theorem S2_list (T : List UInt8) : (S2 T).data.toList = [60, 47] ++ T ++ [62] := by unfold S2; rw [cat_list, cat_list]
theorem S1_size (T : List UInt8) : (S1 T).size = 2 + T.length := by
  have h : (S1 T).size = (S1 T).data.toList.length := rfl
  rw [h, S1_list]; simp; omega
theorem S2_size (T : List UInt8) : (S2 T).size = 3 + T.length := by
  have h : (S2 T).size = (S2 T).data.toList.length := rfl
  rw [h, S2_list]; simp; omega
set_option maxHeartbeats 4000000 in
theorem writeTag_step (d : Nat) (hL : WritesL d) : WritesT d := by
  intro B b x v n w h hb hB hlen
  obtain ⟨vk, va, rfl, hz, hf1, hf2, hk, ha⟩ := h
  obtain ⟨Ak, ck, rfl⟩ := hk.form
  have hbw := hb.lt
  have HL := Lib.hid hlen; clear hlen
  have HK := Lib.hid hk; clear hk ha
  have H0 := Lib.hid (hb.alloc (Obj.cells #[Value.int .i64 n.kind, Value.int .i64 n.tag, Value.string n.text, Value.slice Ak n.kids.length ck, va] 62))
  have F0 := Lib.hid ((Fr.refl B b w).alloc hB (Obj.cells #[Value.int .i64 n.kind, Value.int .i64 n.tag, Value.string n.text, Value.slice Ak n.kids.length ck, va] 62))
  clear hb
  by_cases ht : tname n.tag = []
  · have E : Hid (tagged n.tag (src n.kids) = []) := Lib.hid (by unfold tagged; rw [if_pos ht])
    have e0 : (tname n.tag).isEmpty = true := by rw [ht]; rfl
    have e1 : (⟨(tname n.tag).toArray⟩ : ByteArray) = ⟨#[]⟩ := by rw [ht]
    go_enter Tryz.func151, Tryz.ntmps151
    go_wp2_with fail
    refine (tagName_any n.tag _).mono ?_
    rintro e w1 ⟨rfl, rfl⟩
    rw [e1]
    go_wp2_with fail
    refine bodyPost_ret (results_none rfl _ _ _) rfl ?_
    exact ⟨rfl, by rw [E.out, List.append_nil]; exact H0.out, F0.out⟩
  · have E : Hid (tagged n.tag (src n.kids) = [60] ++ tname n.tag ++ [62] ++ src n.kids ++ [60, 47] ++ tname n.tag ++ [62]) := Lib.hid (by unfold tagged; rw [if_neg ht])
    have e0 : (tname n.tag).isEmpty = false := by cases h : tname n.tag with | nil => exact absurd h ht | cons a r => rfl
    have hlen := HL.out
    rw [E.out] at hlen
    simp only [List.length_append, List.length_cons, List.length_nil] at hlen
    have HN := Lib.hid hlen; clear hlen ht
    generalize hT : tname n.tag = T at *
    have hTl : T.length ≤ 11 := by rw [← hT]; exact tname_len _
    go_enter Tryz.func151, Tryz.ntmps151
    go_wp2_with fail
    refine (tagName_any n.tag _).mono ?_
    rintro e w1 ⟨rfl, rfl⟩
    rw [hT]
    go_wp2_with fail
    rw [show (⟨#[60]⟩ : ByteArray) ++ (⟨T.toArray⟩ : ByteArray) ++ (⟨#[62]⟩ : ByteArray) = S1 T from rfl]
    refine (WS B b x (S1 T) _ H0.out (by have := HN.out; rw [S1_size]; omega) (Nat.le_trans hB F0.out.below.size)).mono ?_
    rintro e w1 ⟨rfl, hb1, hf1'⟩
    have hx1 := hf1'.box (by decide) hbw
    have c3 : w1.cell? ⟨w.heap.size, 3, none⟩ = some (Value.slice Ak n.kids.length ck) := cell_heap hx1 rfl
    have H1 := Lib.hid hb1
    have F1 := Lib.hid (F0.out.trans hf1')
    clear hx1 hb1 hf1'
    go_wp2_with fail
    refine (hL B b _ _ n.kids w1 (HK.out.below F1.out.below (Nat.le_refl _) (Nat.le_refl _)) H1.out (Nat.le_trans hB F1.out.below.size) (by have := HN.out; simp only [List.length_append, S1_list, List.length_cons, List.length_nil]; omega)).mono ?_
    rintro e w2 ⟨rfl, hb2, hf2'⟩
    have H2 := Lib.hid hb2
    have F2 := Lib.hid (F1.out.trans hf2')
    clear hb2 hf2' c3
    go_wp2_with fail
    rw [show (⟨#[60, 47]⟩ : ByteArray) ++ (⟨T.toArray⟩ : ByteArray) ++ (⟨#[62]⟩ : ByteArray) = S2 T from rfl]
    refine (WS B b _ (S2 T) _ H2.out (by have := HN.out; rw [S2_size]; simp only [List.length_append, S1_list, List.length_cons, List.length_nil]; omega) (Nat.le_trans hB F2.out.below.size)).mono ?_
    rintro e w3 ⟨rfl, hb3, hf3⟩
    go_wp2_with fail
    go_end0
    exact ⟨rfl, by rw [E.out]; rw [S1_list, S2_list] at hb3; simpa using hb3, F2.out.trans hf3⟩

set_option maxHeartbeats 4000000 in
theorem writeNode_step (d : Nat) (hC : WritesC d) (hT : WritesT d) : WritesN d := by
  intro B b x v n w h hb hB hlen
  have HV := Lib.hid h
  obtain ⟨vk, va, rfl, hz, hf1, hf2, hk, ha⟩ := h
  clear hk ha hz
  have hbw := hb.lt
  rw [srcN_eq] at hlen ⊢
  have H0 := Lib.hid (hb.alloc (Obj.cells #[Value.int .i64 n.kind, Value.int .i64 n.tag, Value.string n.text, vk, va] 62))
  have F0 := Lib.hid ((Fr.refl B b w).alloc hB (Obj.cells #[Value.int .i64 n.kind, Value.int .i64 n.tag, Value.string n.text, vk, va] 62))
  have V0 := Lib.hid (HV.out.below F0.out.below (Nat.le_refl _) (Nat.le_refl _))
  clear hb HV
  by_cases h1 : n.kind = 1
  · rw [ntext, if_pos h1] at hlen ⊢
    have HL := Lib.hid hlen; clear hlen
    generalize n.kind = K at *
    subst h1
    go_enter Tryz.func142, Tryz.ntmps142
    go_wp2_with fail
    refine (WS B b x n.text _ H0.out HL.out (Nat.le_trans hB F0.out.below.size)).mono ?_
    rintro e w1 ⟨rfl, hb1, hf1'⟩
    go_wp2_with fail
    go_end0
    exact ⟨rfl, hb1, F0.out.trans hf1'⟩
  by_cases h2 : n.kind = 2
  · rw [ntext, if_neg h1, if_pos h2] at hlen ⊢
    have HL := Lib.hid hlen; clear hlen h1
    generalize n.kind = K at *
    subst h2
    go_enter Tryz.func142, Tryz.ntmps142
    go_wp2_with fail
    refine (WS B b x n.text _ H0.out HL.out (Nat.le_trans hB F0.out.below.size)).mono ?_
    rintro e w1 ⟨rfl, hb1, hf1'⟩
    go_wp2_with fail
    go_end0
    exact ⟨rfl, hb1, F0.out.trans hf1'⟩
  by_cases h3 : n.kind = 3
  · rw [ntext, if_neg h1, if_neg h2, if_pos h3] at hlen ⊢
    simp only [nowikiL, nowikiR, List.length_append, List.length_cons, List.length_nil] at hlen
    have HL := Lib.hid hlen; clear hlen h1 h2
    generalize n.kind = K at *
    subst h3
    go_enter Tryz.func142, Tryz.ntmps142
    go_wp2_with fail
    refine (WS B b x ⟨nowikiL.toArray⟩ _ H0.out (by have := HL.out; change _ + 8 ≤ _; omega) (Nat.le_trans hB F0.out.below.size)).mono ?_
    rintro e w1 ⟨rfl, hb1, hf1'⟩
    have hx1 := hf1'.box (by decide) hbw
    have c2 : w1.cell? ⟨w.heap.size, 2, none⟩ = some (Value.string n.text) := cell_heap hx1 rfl
    have H1 := Lib.hid hb1
    have F1 := Lib.hid (F0.out.trans hf1')
    clear hx1 hb1 hf1'
    go_wp2_with fail
    refine (WS B b _ n.text _ H1.out (by have := HL.out; simp only [nowikiL, List.length_append, List.length_cons, List.length_nil]; change _ + n.text.data.toList.length ≤ _; omega) (Nat.le_trans hB F1.out.below.size)).mono ?_
    rintro e w2 ⟨rfl, hb2, hf2'⟩
    have H2 := Lib.hid hb2
    have F2 := Lib.hid (F1.out.trans hf2')
    clear hb2 hf2' c2
    go_wp2_with fail
    refine (WS B b _ ⟨nowikiR.toArray⟩ _ H2.out (by have := HL.out; simp only [nowikiL, List.length_append, List.length_cons, List.length_nil]; change _ + 9 ≤ _; omega) (Nat.le_trans hB F2.out.below.size)).mono ?_
    rintro e w3 ⟨rfl, hb3, hf3⟩
    go_wp2_with fail
    go_end0
    exact ⟨rfl, by simpa using hb3, F2.out.trans hf3⟩
  by_cases h4 : n.kind = 4
  · rw [ntext, if_neg h1, if_neg h2, if_neg h3, if_pos h4] at hlen ⊢
    simp only [List.length_append, List.length_cons, List.length_nil] at hlen
    have HL := Lib.hid hlen; clear hlen h1 h2 h3
    have V1 := V0
    rw [h4] at V1 H0 F0
    rw [h4]
    go_enter Tryz.func142, Tryz.ntmps142
    go_wp2_with fail
    refine (hC B b x ⟨#[123, 123]⟩ ⟨#[125, 125]⟩ _ n _ V1.out H0.out (Nat.le_trans hB F0.out.below.size) (by have := HL.out; change _ + (2 + _ + _ + 2) ≤ _; omega)).mono ?_
    rintro e w3 ⟨rfl, hb3, hf3⟩
    go_wp2_with fail
    go_end0
    exact ⟨rfl, hb3, F0.out.trans hf3⟩
  by_cases h5 : n.kind = 5
  · rw [ntext, if_neg h1, if_neg h2, if_neg h3, if_neg h4, if_pos h5] at hlen ⊢
    simp only [List.length_append, List.length_cons, List.length_nil] at hlen
    have HL := Lib.hid hlen; clear hlen h1 h2 h3 h4
    have V1 := V0
    rw [h5] at V1 H0 F0
    rw [h5]
    go_enter Tryz.func142, Tryz.ntmps142
    go_wp2_with fail
    refine (hC B b x ⟨#[123, 123, 123]⟩ ⟨#[125, 125, 125]⟩ _ n _ V1.out H0.out (Nat.le_trans hB F0.out.below.size) (by have := HL.out; change _ + (3 + _ + _ + 3) ≤ _; omega)).mono ?_
    rintro e w3 ⟨rfl, hb3, hf3⟩
    go_wp2_with fail
    go_end0
    exact ⟨rfl, hb3, F0.out.trans hf3⟩
  by_cases h6 : n.kind = 6
  · rw [ntext, if_neg h1, if_neg h2, if_neg h3, if_neg h4, if_neg h5, if_pos h6] at hlen ⊢
    have HL := Lib.hid hlen; clear hlen h1 h2 h3 h4 h5
    have V1 := V0
    rw [h6] at V1 H0 F0
    rw [h6]
    go_enter Tryz.func142, Tryz.ntmps142
    go_wp2_with fail
    refine (hT B b x _ n _ V1.out H0.out (Nat.le_trans hB F0.out.below.size) HL.out).mono ?_
    rintro e w3 ⟨rfl, hb3, hf3⟩
    go_wp2_with fail
    go_end0
    exact ⟨rfl, hb3, F0.out.trans hf3⟩
  rw [ntext, if_neg h1, if_neg h2, if_neg h3, if_neg h4, if_neg h5, if_neg h6] at hlen ⊢
  have e1 : (n.kind == 1) = false := by simpa using h1
  have e2 : (n.kind == 2) = false := by simpa using h2
  have e3 : (n.kind == 3) = false := by simpa using h3
  have e4 : (n.kind == 4) = false := by simpa using h4
  have e5 : (n.kind == 5) = false := by simpa using h5
  have e6 : (n.kind == 6) = false := by simpa using h6
  go_enter Tryz.func142, Tryz.ntmps142
  go_wp2_with fail
  go_end0
  exact ⟨rfl, by rw [List.append_nil]; exact H0.out, F0.out⟩

theorem writes : ∀ d, WritesL d
  | 0 => fun _ _ _ _ _ _ h => h.elim
  | d + 1 => writeNodes_step d (writeNode_step d (writeCall_step d (writes d)) (writeTag_step d (writes d)))

theorem new_builder (w : World) (B : Nat) (hB : B ≤ w.heap.size) : Bd (w.alloc (.cells #[.pointer none, .slice none 0 0] 105)) B w.heap.size [] := by
  refine .inl ⟨hB, .slice none 0 0, heap_new _ _, ?_, by simp [Value.ownBlock]⟩
  exact World.ownsRowF_of ⟨rfl, .inl ⟨rfl, rfl⟩⟩

set_option maxHeartbeats 4000000 in
theorem Source_any (d : Nat) (B : Nat) (v : Value) (l : List Nd) (w : World) (h : LRd d w B v l) (hB : B ≤ w.heap.size) :
    Calls Tryz.prog 86 #[v] w fun e w' => e = .returned (.string ⟨(src l).toArray⟩) ∧ Below w.heap.size w w' := by
  obtain ⟨A, c, rfl⟩ := h.form
  have hs := src_len l
  have hz := h.sz
  have HH := Lib.hid ((h.more hB).below (B' := w.heap.size) ((Below.refl w.heap.size w).alloc (Nat.le_refl _) (.cells #[.pointer none, .slice none 0 0] 105)) (Nat.le_refl _) (Nat.le_refl _))
  have HB := Lib.hid (new_builder w w.heap.size (Nat.le_refl _))
  have B0 := Lib.hid ((Below.refl w.heap.size w).alloc (Nat.le_refl _) (.cells #[.pointer none, .slice none 0 0] 105))
  clear h
  go_enter Tryz.func86, Tryz.ntmps86
  go_wp2_with fail
  refine (writes d w.heap.size w.heap.size [] _ l _ HH.out HB.out B0.out.size (by simp only [List.length_nil]; omega)).mono ?_
  rintro e w1 ⟨rfl, hb1, hf1⟩
  have H1 := Lib.hid hb1; have F1 := Lib.hid (B0.out.trans hf1.below); clear hb1 hf1
  go_wp2_with fail
  refine (Tryz.Builder_String_anyk w.heap.size w.heap.size _ w1 H1.out F1.out.size).mono ?_
  rintro e w2 ⟨rfl, _, hb2, _⟩
  go_wp2_with fail
  go_ret
  exact ⟨rfl, F1.out.trans hb2⟩

end Go.Proofs.YtdojbnngdlmbgaaGreatDoor.Tr
