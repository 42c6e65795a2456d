/-
  The contract of split.
-/
import Derived.Test.YtfocokjihbenmaaDoorFoTok2
import Derived.Shelf.Strings.SlTrimAscii
import Derived.Laws.OwnMore
import Derived.Laws.AppendOwn
import Derived.Maps.AppendAt
import Derived.OwnWalk
namespace Go.Proofs.YtfocokjihbenmaaDoor.Fo
open Go.RowKit Go.Shelf Go.Proofs.YtfocokjihbenmaaDoor.Nu
set_option linter.unusedVariables false
set_option linter.unusedSimpArgs false

theorem trim_any (s : ByteArray) (w : World) : Calls Tryd.prog 26 #[.string s, .string ⟨#[9, 10, 32]⟩] w fun e w' => e = .returned (.string ⟨(trimB s.data.toList).toArray⟩) ∧ Below w.heap.size w w' := by
  have h := Any.strings_TrimLeft_laid Tryd.lays161 (by kernel_rfl) s ⟨#[9, 10, 32]⟩ w (by decide) (ascii_of_all (by decide))
  exact h
theorem infoString : (Tryd.prog.info? 9).map (fun i => (i.zero, i.size, i.bytes)) = some (some (.string ⟨#[]⟩), 1, 16) := by kernel_rfl
theorem info_parts {x : Option TypeInfo} {z : Option Value} {s b : Nat} (h : x.map (fun i => (i.zero, i.size, i.bytes)) = some (z, s, b)) : ∃ i, x = some i ∧ i.zero = z ∧ i.size = s ∧ i.bytes = b := by
  cases x with
  | none => cases h
  | some i => simp at h; exact ⟨i, rfl, h.1, h.2.1, h.2.2⟩
def strs (l : List Tok) : List Value := l.map sv
theorem one_new (w : World) (u : Value) (t : TypeId) : ∀ j x, [u][j]? = some x → (w.alloc (.cells #[u] t)).cell? ((⟨w.heap.size, 0, none⟩ : Addr).add j) = some x := fun j x hj => by
  cases j with
  | zero =>
    simp at hj; subst hj
    simp [Addr.add]
  | succ j => simp at hj
theorem own_form {w : World} {base : Nat} {t : TypeId} {size : Nat} {v : Value} {n : Nat} {xs : List Value} (h : w.ownsRow base t size v n xs) : ∃ A c, v = .slice A n c := by
  rcases h.2 with ⟨rfl, rfl⟩ | ⟨g, cap, cur, rfl, _⟩
  · exact ⟨_, _, rfl⟩
  · exact ⟨_, _, rfl⟩
/-- The tokens of a row that the call owns, as the parser reads them. -/
theorem own_TS {w : World} {base : Nat} {t : TypeId} {v : Value} {l : List Tok} (h : w.ownsRow base t 1 v l.length (strs l)) (hb : 0 < w.heap.size) : ∃ bt, bt < w.heap.size ∧ TS bt w v l := by
  obtain ⟨h1, h2⟩ := h
  rcases h2 with ⟨rfl, h0⟩ | ⟨g, cap, cur, rfl, h3, h4, h5, h6, h7, h8⟩
  · exact ⟨0, hb, none, 0, by rw [h0], by omega, by omega, fun h => absurd h (by omega)⟩
  · refine ⟨g, (Array.getElem?_eq_some_iff.1 h4).1, some ⟨g, 0, none⟩, cap, rfl, h5, by simpa [maxLen] using h6, fun _ => ⟨0, rfl, fun j u hj => ?_⟩⟩
    unfold World.cell?
    rw [show (⟨g, 0 + j, none⟩ : Addr).block = g from rfl, h4]
    have hlt := (List.getElem?_eq_some_iff.1 hj).1
    have : (cur.toList.take (l.length * 1))[j]? = (strs l)[j]? := by rw [h8]
    rw [List.getElem?_take, if_pos (by omega)] at this
    simp only [strs, List.getElem?_map, hj, Option.map_some] at this
    simpa using this
theorem own_below {w w' : World} {base : Nat} {e : TypeId} {size : Nat} {v : Value} {n : Nat} {xs : List Value} (h : w.ownsRow base e size v n xs) (hb : Below w.heap.size w w') : w'.ownsRow base e size v n xs := by
  obtain ⟨h1, h2⟩ := h
  refine ⟨h1, ?_⟩
  rcases h2 with h | ⟨g, cap, cur, hv, h3, h4, h5⟩
  · exact .inl h
  · exact .inr ⟨g, cap, cur, hv, h3, (hb.block g (Array.getElem?_eq_some_iff.1 h4).1).trans h4, h5⟩
/-- What split leaves. -/
def Sp (w : World) (s : List UInt8) (e : Ending) (w' : World) : Prop := Below w.heap.size w w' ∧ match splitL s with
  | none => e = .returned (.tuple #[.slice none 0 0, .bool false])
  | some l => ∃ v, e = .returned (.tuple #[v, .bool true]) ∧ w'.ownsRow w.heap.size 9 1 v l.length (strs l)
set_option maxRecDepth 100000 in
set_option maxHeartbeats 4000000 in
theorem split_any (s : ByteArray) (hs : s.size ≤ 400) (w : World) : Calls Tryd.prog 14 #[.string s] w (Sp w s.data.toList) := by
  obtain ⟨i0, hi, hz0, hz1, hz2⟩ := info_parts infoString
  have hbk : ∀ n : Nat, n ≤ 4294967282 → n * 16 ≤ 140737488355328 := fun n h => by omega
  have HBK := Lib.hid hbk; clear hbk
  have hsz : s.data.toList.length = s.size := rfl
  have h1 := trimB_le s.data.toList
  have HT := Lib.hid (trim_any s)
  have HL : Hid (splitL s.data.toList = toks (trimB s.data.toList)) := Lib.hid rfl
  generalize trimB s.data.toList = L0 at h1 HT HL
  have HS : Hid (L0.length ≤ 400) := Lib.hid (by omega)
  clear h1 hsz
  go_enter Tryd.func14, Tryd.ntmps14
  go_wp2_with fail
  refine (HT.out _).mono ?_
  rintro e w1 ⟨rfl, hb⟩
  have HB := Lib.hid hb
  clear hb
  go_wp2_with fail
  go_loopw [0, 4] (fun x v wr => ∃ (X : ByteArray) (acc : List Tok), x = .string X ∧ Hid (acc.length + X.data.toList.length ≤ L0.length) ∧ Hid (wr.ownsRow w.heap.size 9 1 v acc.length (strs acc)) ∧ Hid (Below w.heap.size w wr) ∧ Hid (splitL s.data.toList = (toks X.data.toList).map (acc ++ ·)))
    (fun x _ _ => match x with | .string X => X.data.toList.length | _ => 0)
  case atStart => exact ⟨⟨L0.toArray⟩, [], rfl, Lib.hid (by simp), Lib.hid (World.ownsRow_nil _ _ _ _), HB, Lib.hid (by rw [HL.out]; simp)⟩
  case round =>
    obtain ⟨X, acc, rfl, hle, hown, hbel, heq⟩ := hrel
    have hXs : X.data.toList.length = X.size := rfl
    have hX4 : acc.length + X.size ≤ 400 := by have := hle.out; have := HS.out; omega
    obtain ⟨VA, VC, hv⟩ := own_form hown.out
    subst hv
    by_cases h0 : X.size = 0
    · have e0 : X = ⟨#[]⟩ := bs_list X [] (List.length_eq_zero_iff.1 (by omega))
      subst e0
      have HF : Hid (splitL s.data.toList = some acc) := Lib.hid (by rw [heq.out]; simp [toks_nil])
      go_wp2_with fail
      go_ret2
      unfold Sp
      rw [HF.out]
      exact ⟨hbel.out, _, rfl, hown.out⟩
    · have hne : X.data.toList ≠ [] := fun e => h0 (by rw [← hXs, e]; rfl)
      have q1 : X.toList.isEmpty = false := by
        rw [ByteArray.toList_eq]
        cases hq : X.data.toList with
        | nil => exact absurd hq hne
        | cons c r => rfl
      have q2 : (X.toList == []) = false := ne_lit _ _ hne
      have HK := Lib.hid (tokenLength_any X (by omega) (by omega))
      have hnl := (tokLen_le X.data.toList).1
      have HNE := Lib.hid hne
      by_cases hn0 : tokLen X.data.toList = 0
      · rw [hn0] at HK
        have HF : Hid (splitL s.data.toList = none) := Lib.hid (by rw [heq.out, toks_none hne hn0]; rfl)
        clear hne hnl hn0 heq
        go_wp2_with fail
        refine (HK.out _).mono ?_
        rintro e w2 ⟨rfl, rfl⟩
        go_wp2_with fail
        go_ret2
        unfold Sp
        rw [HF.out]
        exact ⟨hbel.out, rfl⟩
      · have HF : Hid (splitL s.data.toList = (toks (trimB (X.data.toList.drop (tokLen X.data.toList)))).map ((acc ++ [X.data.toList.take (tokLen X.data.toList)]) ++ ·)) := Lib.hid (by
          rw [heq.out, toks_cons hne hn0]
          simp [Option.map_map, Function.comp_def])
        have hle2 : Hid ((acc ++ [X.data.toList.take (tokLen X.data.toList)]).length + (trimB (X.data.toList.drop (tokLen X.data.toList))).length ≤ L0.length) := Lib.hid (by
          have h1 := trimB_le (X.data.toList.drop (tokLen X.data.toList))
          have h2 := hle.out
          rw [List.length_drop] at h1
          simp only [List.length_append, List.length_cons, List.length_nil]
          omega)
        have e1 : (X.extract 0 (tokLen X.data.toList)).data.toList = X.data.toList.take (tokLen X.data.toList) := by simp
        have e2 : (X.extract (tokLen X.data.toList) X.size).data.toList = X.data.toList.drop (tokLen X.data.toList) := Lib.extract_to_end X _
        have HX1 : Hid (X.extract 0 (tokLen X.data.toList) = bs (X.data.toList.take (tokLen X.data.toList))) := Lib.hid (bs_list _ _ e1)
        have HT2 := Lib.hid (trim_any (X.extract (tokLen X.data.toList) X.size))
        rw [e2] at HT2
        have hm : Hid ((trimB (X.data.toList.drop (tokLen X.data.toList))).length < X.data.toList.length) := Lib.hid (by
          have h1 := trimB_le (X.data.toList.drop (tokLen X.data.toList))
          rw [List.length_drop] at h1; omega)
        generalize trimB (X.data.toList.drop (tokLen X.data.toList)) = R at HF hle2 HT2 hm
        generalize X.data.toList.take (tokLen X.data.toList) = tk at HF hle2 HX1
        generalize tokLen X.data.toList = n at HK hnl hn0 HX1 HT2
        have hn1 : n ≤ X.size := by omega
        have hn2 : ((n : Int) == 0) = false := by simpa using hn0
        clear hne hnl heq e1 e2
        go_wp2_with fail
        refine (HK.out _).mono ?_
        rintro e w2 ⟨rfl, rfl⟩
        have hbs := hbel.out.size
        go_wp2_with (at_builtin; refine wpList_append_own _ rfl _ _ 36 rfl w.heap.size 9 i0 (.string ⟨#[]⟩) 1 16 Tryd.underlying36 hi hz0 hz1 hz2 rfl (by decide) _ _ _ rfl (hown.out.alloc _) ⟨w2.heap.size, 0, none⟩ 1 1 [.string (X.extract 0 n)] rfl rfl (one_new _ _ _) (by simp [Value.oneCell']) (by unfold maxLen; omega) (HBK.out _ (by omega)) (by simp; omega) ?_)
        intro v' w3 hown' hgrow _
        have hb3 : Below w.heap.size w w3 := (hbel.out.alloc (by omega) _).grown hgrow (by simp; omega) (fun k e => (hown.out.lt k e).1)
        have HO : Hid (w3.ownsRow w.heap.size 9 1 v' (acc ++ [tk]).length (strs (acc ++ [tk]))) := Lib.hid (by
          have h := hown'
          rw [HX1.out] at h
          simpa [strs, sv, bs] using h)
        have HB3 := Lib.hid hb3
        obtain ⟨VA2, VC2, hv2⟩ := own_form hown'
        subst hv2
        clear hown' hgrow hb3
        go_wp2_with fail
        refine (HT2.out _).mono ?_
        rintro e w4 ⟨rfl, hb4⟩
        have HO4 := Lib.hid (own_below HO.out hb4)
        have HB4 := Lib.hid (HB3.out.trans (hb4.mono HB3.out.size))
        clear hb4
        go_wp2_with fail
        go_roundw
        case rel => exact ⟨⟨R.toArray⟩, acc ++ [tk], rfl, Lib.hid (by have := hle2.out; simpa using this), HO4, HB4, Lib.hid (by rw [HF.out])⟩
        case measure =>
          have := hm.out
          simpa using this
end Go.Proofs.YtfocokjihbenmaaDoor.Fo
