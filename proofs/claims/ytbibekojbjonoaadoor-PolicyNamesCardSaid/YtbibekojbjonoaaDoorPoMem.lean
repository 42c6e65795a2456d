/-
  Slices of strings, groups, rules and guards in memory; the tables of the package.
-/
import Derived.Shelf.Strings.SlTrimAscii
import Derived.Test.YtbibekojbjonoaaDoorShelf
import Derived.Test.YtbibekojbjonoaaDoorChecked
import Derived.Test.YtbibekojbjonoaaDoorPoErr
import Derived.Test.YtbibekojbjonoaaDoorTiParse
import Derived.WalkKit
import Derived.WalkSpells
import Derived.WalkLawsBesides
import Derived.Outline
import Derived.Lib.Hide
import Derived.IntWalk
import Derived.WalkSmall
import Derived.Laws.IdiomStrings
import Derived.Deep.QuietTactic
import Derived.BigQuiet
import Derived.OwnWalk
import Derived.Laws.OwnMore
import Derived.Laws.Rows
namespace Go.Proofs.YtbibekojbjonoaaDoor.Po
open Go.RowKit Go.Shelf
set_option linter.unusedVariables false
set_option linter.unusedSimpArgs false

theorem ret_int {k : IntKind} {a b : Int} (h : a = b) : Ending.returned (.int k a) = .returned (.int k b) := by rw [h]
theorem ret_bool {a b : Bool} (h : a = b) : Ending.returned (.bool a) = .returned (.bool b) := by rw [h]
theorem ret_str {a b : ByteArray} (h : a = b) : Ending.returned (.string a) = .returned (.string b) := by rw [h]
theorem bs_inj {a b : ByteArray} (h : a.data.toList = b.data.toList) : a = b := by
  cases a; cases b; congr 1; exact Array.toList_inj.1 h
theorem ext_list (s : ByteArray) (a b : Nat) : (s.extract a b).data.toList = (s.data.toList.drop a).take (b - a) := by
  simp [ByteArray.data_extract, Array.toList_extract, List.extract]
theorem ext_tail (s : ByteArray) (a : Nat) : (s.extract a s.size).data.toList = s.data.toList.drop a := by
  rw [ext_list]
  apply List.take_of_length_le
  simp [← ByteArray.size_data]
theorem size_list (s : ByteArray) : s.data.toList.length = s.size := by simp
def bsl (l : List UInt8) : ByteArray := ⟨l.toArray⟩
structure Rd {α : Type} (k : Nat) (enc : α → List Value) (w : World) (B : Nat) (v : Value) (l : List α) : Prop where
  ex : ∃ A c, v = .slice A l.length c ∧ l.length ≤ c ∧ c ≤ maxLen ∧ (0 < l.length → ∃ g o, A = some ⟨g, o, none⟩ ∧ g < B ∧ ∀ (i : Nat) (x : α), l[i]? = some x → ∀ (j : Nat) (u : Value), (enc x)[j]? = some u → w.cell? ⟨g, o + i * k + j, none⟩ = some u)
theorem Rd.keep {α : Type} {k : Nat} {enc : α → List Value} {w w' : World} {B : Nat} {v : Value} {l : List α} (h : Rd k enc w B v l) (hk : ∀ p : Addr, p.block < B → w'.cell? p = w.cell? p) : Rd k enc w' B v l := by
  obtain ⟨A, c, h1, h2, h3, h4⟩ := h.ex
  refine ⟨A, c, h1, h2, h3, fun hn => ?_⟩
  obtain ⟨g, o, h5, h6, h7⟩ := h4 hn
  exact ⟨g, o, h5, h6, fun i x hx j u hu => (hk _ h6).trans (h7 i x hx j u hu)⟩
theorem Rd.below {α : Type} {k : Nat} {enc : α → List Value} {w w' : World} {B B' : Nat} {v : Value} {l : List α} (h : Rd k enc w B v l) (hb : Below B' w w') (hB : B ≤ B') : Rd k enc w' B v l := h.keep fun _ hp => hb.cell (by omega)
theorem Rd.more {α : Type} {k : Nat} {enc : α → List Value} {w : World} {B B' : Nat} {v : Value} {l : List α} (h : Rd k enc w B v l) (hB : B ≤ B') : Rd k enc w B' v l := by
  obtain ⟨A, c, h1, h2, h3, h4⟩ := h.ex
  exact ⟨A, c, h1, h2, h3, fun hn => by
    obtain ⟨g, o, h5, h6, h7⟩ := h4 hn
    exact ⟨g, o, h5, by omega, h7⟩⟩
theorem Rd.up {α : Type} {k : Nat} {enc : α → List Value} {w w' : World} {v : Value} {l : List α} (h : Rd k enc w w.heap.size v l) (hb : Below w.heap.size w w') : Rd k enc w' w'.heap.size v l := (h.below hb (Nat.le_refl _)).more hb.size
theorem flat_at {α : Type} {k : Nat} {enc : α → List Value} (hk : ∀ x, (enc x).length = k) : ∀ (l : List α) (i : Nat) (x : α), l[i]? = some x → ∀ (j : Nat) (u : Value), (enc x)[j]? = some u → (l.flatMap enc)[i * k + j]? = some u
  | [], i, x, h, _, _, _ => by simp at h
  | a :: r, 0, x, h, j, u, hu => by
    simp at h; subst h
    have hj : j < k := by rw [← hk a]; exact (List.getElem?_eq_some_iff.1 hu).1
    rw [List.flatMap_cons, List.getElem?_append_left (by rw [hk]; omega)]
    simpa using hu
  | a :: r, i + 1, x, h, j, u, hu => by
    have ih := flat_at hk r i x (by simpa using h) j u hu
    rw [List.flatMap_cons, show (i + 1) * k + j = k + (i * k + j) by rw [Nat.succ_mul]; omega, List.getElem?_append_right (by rw [hk]; omega), hk]
    simpa using ih
theorem rd_own {α : Type} {k : Nat} {enc : α → List Value} (hk : ∀ x, (enc x).length = k) {w : World} {base : Nat} {e : TypeId} {v : Value} {l : List α} (h : w.ownsRow base e k v l.length (l.flatMap enc)) : Rd k enc w w.heap.size v l := by
  rcases h.2 with ⟨h1, h2⟩ | ⟨g, cap, cur, h3, h4, h5, h6, h7, h8, h9⟩
  · exact ⟨none, 0, by rw [h1, h2], by omega, by simp [maxLen], fun hn => by omega⟩
  · refine ⟨some ⟨g, 0, none⟩, cap, h3, h6, h7, fun hn => ⟨g, 0, rfl, (Array.getElem?_eq_some_iff.1 h5).1, fun i x hx j u hu => ?_⟩⟩
    have hu2 := flat_at hk l i x hx j u hu
    rw [Nat.zero_add, cell_of_row _ _ _ _ _ _ h5]
    rw [← h9, List.getElem?_take] at hu2
    split at hu2
    · simpa using hu2
    · cases hu2
theorem row_below {w w' : World} {base e k B : Nat} {v : Value} {m : Nat} {xs : List Value} (h : w.ownsRow base e k v m xs) (hb : Below B w w') (hB : w.heap.size ≤ B) : w'.ownsRow base e k v m xs := by
  refine ⟨h.1, ?_⟩
  rcases h.2 with h2 | ⟨g, cap, cur, h3, h4, h5, h6⟩
  · exact .inl h2
  · have hlt : g < w.heap.size := (Array.getElem?_eq_some_iff.1 h5).1
    exact .inr ⟨g, cap, cur, h3, h4, (hb.block g (by omega)).trans h5, h6⟩
theorem below_own {w w' : World} {base e k : Nat} {v : Value} {m : Nat} {xs : List Value} (ho : w.ownsRow base e k v m xs) (hg : w.grownBy w' v.ownBlock) (hb : base ≤ w.heap.size) : Below base w w' :=
  (Below.refl _ _).grown hg hb fun j hj => (World.ownsRow.lt ho j hj).1
theorem cells_new (w : World) (xs : List Value) (t : TypeId) : ∀ j u, xs[j]? = some u → (w.alloc (.cells xs.toArray t)).cell? ((⟨w.heap.size, 0, none⟩ : Addr).add j) = some u := by
  intro j u h
  have hadd : (⟨w.heap.size, 0, none⟩ : Addr).add j = ⟨w.heap.size, j, none⟩ := by unfold Addr.add; split <;> simp_all
  rw [hadd, cell_of_row _ _ j xs.toArray t (0, 0) (heap_alloc_new w _)]
  simpa using h
theorem str_eq (s : ByteArray) : bsl s.data.toList = s := rfl
theorem bsl_list (n : By) : (bsl n).data.toList = n := rfl
theorem bsl_toList (n : By) : (bsl n).toList = n := by rw [Lib.toList_data]; rfl
theorem bsl_size (l : By) : (bsl l).size = l.length := by rw [← size_list]; rfl
theorem bsl_inj {a b : By} (h : bsl a = bsl b) : a = b := congrArg (fun s : ByteArray => s.data.toList) h
theorem str_beq (a b : By) : ((bsl a).toList == (bsl b).toList) = decide (a = b) := by
  rw [bsl_toList, bsl_toList]
  by_cases h : a = b
  · simp [h]
  · simp [h]
theorem row_base {w : World} {base base' e k : Nat} {v : Value} {m : Nat} {xs : List Value} (h : w.ownsRow base e k v m xs) (hb : base' ≤ base) : w.ownsRow base' e k v m xs := by
  refine ⟨h.1, ?_⟩
  rcases h.2 with h2 | ⟨g, cap, cur, h3, h4, h5⟩
  · exact .inl h2
  · exact .inr ⟨g, cap, cur, h3, Nat.le_trans hb h4, h5⟩
theorem cell_heap {w : World} {g : Nat} {cs : Array Value} {t : TypeId} {i : Nat} {v : Value} (h : w.heap[g]? = some (.cells cs t)) (hv : cs[i]? = some v) : w.cell? ⟨g, i, none⟩ = some v := by
  simp [World.cell?, h, hv]
theorem rd_lit {α : Type} {k : Nat} {enc : α → List Value} (hk : ∀ x, (enc x).length = k) {w : World} {b : Nat} {cs : Array Value} {t : TypeId} {l : List α} (h : w.heap[b]? = some (.cells cs t)) (hc : cs.toList = l.flatMap enc) (hl : l.length ≤ 1000) : Rd k enc w w.heap.size (.slice (some ⟨b, 0, none⟩) l.length l.length) l := by
  refine ⟨some ⟨b, 0, none⟩, l.length, rfl, Nat.le_refl _, by simp only [maxLen]; omega, fun _ => ⟨b, 0, rfl, (Array.getElem?_eq_some_iff.1 h).1, fun i x hx j u hu => ?_⟩⟩
  have hu2 := flat_at hk l i x hx j u hu
  rw [Nat.zero_add]
  refine cell_heap h ?_
  rw [← hc] at hu2
  simpa using hu2
def encS (n : By) : List Value := [.string (bsl n)]
def encR (r : Rul) : List Value := [.bool r.al, .int .i64 r.ri, .string (bsl r.gr), .int .i64 r.kd, .int .i64 r.sp, .string (bsl r.tn)]
def encD (d : Gud) : List Value := [.bool d.st, .string (bsl d.gr), .int .i64 d.sp, .string (bsl d.tn), .string (bsl d.se)]
/-- A group as it lies in its row: its name, and the slice of its members. -/
abbrev Gv := By × Value
def encG (p : Gv) : List Value := [.string (bsl p.1), p.2]
theorem encS_len (x : By) : (encS x).length = 1 := rfl
theorem encR_len (x : Rul) : (encR x).length = 6 := rfl
theorem encD_len (x : Gud) : (encD x).length = 5 := rfl
theorem encG_len (x : Gv) : (encG x).length = 2 := rfl
abbrev RdS := Rd 1 encS
abbrev RdR := Rd 6 encR
abbrev RdD := Rd 5 encD
/-- The groups of a row read as plain groups. -/
def Sub (w : World) (B : Nat) (L : List Gv) (l : List Grp) : Prop :=
  L.length = l.length ∧ ∀ (i : Nat) (p : Gv) (g : Grp), L[i]? = some p → l[i]? = some g → p.1 = g.nm ∧ RdS w B p.2 g.ms
theorem Sub.keep {w w' : World} {B : Nat} {L : List Gv} {l : List Grp} (h : Sub w B L l) (hk : ∀ p : Addr, p.block < B → w'.cell? p = w.cell? p) : Sub w' B L l :=
  ⟨h.1, fun i p g hp hg => ⟨(h.2 i p g hp hg).1, (h.2 i p g hp hg).2.keep hk⟩⟩
theorem Sub.below {w w' : World} {B B' : Nat} {L : List Gv} {l : List Grp} (h : Sub w B L l) (hb : Below B' w w') (hB : B ≤ B') : Sub w' B L l := h.keep fun _ hp => hb.cell (by omega)
theorem Sub.more {w : World} {B B' : Nat} {L : List Gv} {l : List Grp} (h : Sub w B L l) (hB : B ≤ B') : Sub w B' L l :=
  ⟨h.1, fun i p g hp hg => ⟨(h.2 i p g hp hg).1, (h.2 i p g hp hg).2.more hB⟩⟩
theorem Sub.nil (w : World) (B : Nat) : Sub w B [] [] := ⟨rfl, fun i p g hp => by simp at hp⟩
theorem Sub.snoc {w : World} {B : Nat} {L : List Gv} {l : List Grp} (h : Sub w B L l) {v : Value} {g : Grp} (hv : RdS w B v g.ms) : Sub w B (L ++ [(g.nm, v)]) (l ++ [g]) := by
  refine ⟨by rw [List.length_append, List.length_append, h.1]; rfl, fun i p q hp hq => ?_⟩
  by_cases hi : i < L.length
  · rw [List.getElem?_append_left hi] at hp
    rw [List.getElem?_append_left (by rw [← h.1]; exact hi)] at hq
    exact h.2 i p q hp hq
  · rw [List.getElem?_append_right (by omega)] at hp
    rw [List.getElem?_append_right (by rw [← h.1]; omega), ← h.1] at hq
    have h0 : i - L.length = 0 := by
      have := (List.getElem?_eq_some_iff.1 hp).1
      simp at this; omega
    rw [h0] at hp hq
    simp at hp hq
    subst hp; subst hq
    exact ⟨rfl, hv⟩
/-- The slice v reads as the list l of groups. -/
def RdG (w : World) (B : Nat) (v : Value) (l : List Grp) : Prop := ∃ L, Rd 2 encG w B v L ∧ Sub w B L l
theorem RdG.keep {w w' : World} {B : Nat} {v : Value} {l : List Grp} (h : RdG w B v l) (hk : ∀ p : Addr, p.block < B → w'.cell? p = w.cell? p) : RdG w' B v l := by
  obtain ⟨L, h1, h2⟩ := h; exact ⟨L, h1.keep hk, h2.keep hk⟩
theorem RdG.below {w w' : World} {B B' : Nat} {v : Value} {l : List Grp} (h : RdG w B v l) (hb : Below B' w w') (hB : B ≤ B') : RdG w' B v l := h.keep fun _ hp => hb.cell (by omega)
theorem RdG.more {w : World} {B B' : Nat} {v : Value} {l : List Grp} (h : RdG w B v l) (hB : B ≤ B') : RdG w B' v l := by
  obtain ⟨L, h1, h2⟩ := h; exact ⟨L, h1.more hB, h2.more hB⟩
theorem RdG.up {w w' : World} {v : Value} {l : List Grp} (h : RdG w w.heap.size v l) (hb : Below w.heap.size w w') : RdG w' w'.heap.size v l := (h.below hb (Nat.le_refl _)).more hb.size
/-- The length and the elements of a slice of groups. -/
theorem RdG.ex {w : World} {B : Nat} {v : Value} {l : List Grp} (h : RdG w B v l) : ∃ A c, v = .slice A l.length c ∧ l.length ≤ c ∧ c ≤ maxLen ∧ (0 < l.length → ∃ g o, A = some ⟨g, o, none⟩ ∧ g < B ∧ ∀ (i : Nat) (x : Grp), l[i]? = some x → ∃ m, w.cell? ⟨g, o + i * 2, none⟩ = some (.string (bsl x.nm)) ∧ w.cell? ⟨g, o + i * 2 + 1, none⟩ = some m ∧ RdS w B m x.ms) := by
  obtain ⟨L, h1, h2, h3⟩ := h
  obtain ⟨A, c, e1, e2, e3, e4⟩ := h1.ex
  rw [h2] at e1 e2
  refine ⟨A, c, e1, e2, e3, fun hn => ?_⟩
  obtain ⟨g, o, e5, e6, e7⟩ := e4 (by omega)
  refine ⟨g, o, e5, e6, fun i x hx => ?_⟩
  have hi : i < L.length := by rw [h2]; exact (List.getElem?_eq_some_iff.1 hx).1
  have hL : L[i]? = some L[i] := List.getElem?_eq_getElem hi
  obtain ⟨k1, k2⟩ := h3 i _ _ hL hx
  refine ⟨L[i].2, ?_, e7 i _ hL 1 _ rfl, k2⟩
  have := e7 i _ hL 0 _ rfl
  rw [k1] at this
  exact this
/-- Three slices that read as a policy. -/
structure RdP (w : World) (B : Nat) (g r d : Value) (P : Pol) : Prop where
  gs : RdG w B g P.gs
  rs : RdR w B r P.rs
  ds : RdD w B d P.ds
theorem RdP.keep {w w' : World} {B : Nat} {g r d : Value} {P : Pol} (h : RdP w B g r d P) (hk : ∀ p : Addr, p.block < B → w'.cell? p = w.cell? p) : RdP w' B g r d P := ⟨h.gs.keep hk, h.rs.keep hk, h.ds.keep hk⟩
theorem RdP.below {w w' : World} {B B' : Nat} {g r d : Value} {P : Pol} (h : RdP w B g r d P) (hb : Below B' w w') (hB : B ≤ B') : RdP w' B g r d P := h.keep fun _ hp => hb.cell (by omega)
theorem RdP.more {w : World} {B B' : Nat} {g r d : Value} {P : Pol} (h : RdP w B g r d P) (hB : B ≤ B') : RdP w B' g r d P := ⟨h.gs.more hB, h.rs.more hB, h.ds.more hB⟩
theorem RdP.up {w w' : World} {g r d : Value} {P : Pol} (h : RdP w w.heap.size g r d P) (hb : Below w.heap.size w w') : RdP w' w'.heap.size g r d P := (h.below hb (Nat.le_refl _)).more hb.size
theorem rd_nil {α : Type} {k : Nat} {enc : α → List Value} (w : World) (B : Nat) : Rd k enc w B (.slice none 0 0) ([] : List α) := ⟨none, 0, rfl, Nat.le_refl _, by simp [maxLen], fun h => by simp at h⟩
theorem rdG_nil (w : World) (B : Nat) : RdG w B (.slice none 0 0) [] := ⟨[], rd_nil w B, Sub.nil w B⟩
theorem RdP.nil (w : World) (B : Nat) : RdP w B (.slice none 0 0) (.slice none 0 0) (.slice none 0 0) Pol.none := ⟨rdG_nil w B, rd_nil w B, rd_nil w B⟩
theorem polInfo : (Tryd.prog.info? 29).map (fun i => (i.zero, i.size)) = some (some (.agg #[.slice none 0 0, .slice none 0 0, .slice none 0 0]), 3) := by kernel_rfl
theorem grpInfo : (Tryd.prog.info? 58).map (fun i => (i.zero, i.size, i.bytes)) = some (some (.agg #[.string ⟨#[]⟩, .slice none 0 0]), 2, 40) := by kernel_rfl
theorem rulInfo : (Tryd.prog.info? 48).map (fun i => (i.zero, i.size, i.bytes)) = some (some (.agg #[.bool false, .int .i64 0, .string ⟨#[]⟩, .int .i64 0, .int .i64 0, .string ⟨#[]⟩]), 6, 64) := by kernel_rfl
theorem gudInfo : (Tryd.prog.info? 36).map (fun i => (i.zero, i.size, i.bytes)) = some (some (.agg #[.bool false, .string ⟨#[]⟩, .int .i64 0, .string ⟨#[]⟩, .string ⟨#[]⟩]), 5, 64) := by kernel_rfl
theorem strInfo : (Tryd.prog.info? 9).map (fun i => (i.zero, i.size, i.bytes)) = some (some (.string ⟨#[]⟩), 1, 16) := by kernel_rfl
/-! ### The tables -/
def rightCells : Array Value := #[.string (bsl []), .string (bsl (rName 1)), .string (bsl (rName 2)), .string (bsl (rName 3)), .string (bsl (rName 4)), .string (bsl (rName 5))]
def spaceCells : Array Value := #[.string (bsl (sName 0)), .string (bsl (sName 1)), .string (bsl (sName 2)), .string (bsl (sName 3)), .string (bsl (sName 4)), .string (bsl (sName 5))]
structure Tb (w : World) : Prop where
  ti : Ti.Tb w
  rn : ∃ t fr, w.heap[0]? = some (.cells rightCells t fr)
  ss : ∃ t fr, w.heap[1]? = some (.cells spaceCells t fr)
  lt : 0 < w.heap.size ∧ 1 < w.heap.size
theorem Tb.below {w w' : World} (h : Tb w) (hb : Below w.heap.size w w') : Tb w' := by
  have hl := h.lt
  refine ⟨h.ti.below hb, ?_, ?_, by have := hb.size; exact ⟨by omega, by omega⟩⟩
  · obtain ⟨t, fr, ht⟩ := h.rn
    exact ⟨t, fr, (hb.block _ (by omega)).trans ht⟩
  · obtain ⟨t, fr, ht⟩ := h.ss
    exact ⟨t, fr, (hb.block _ (by omega)).trans ht⟩
theorem Tb.drewN {w : World} (h : Tb w) (n : Nat) : Tb (w.drewN n) := ⟨h.ti.drewN n, h.rn, h.ss, h.lt⟩
theorem Tb.below' {B : Nat} {w w' : World} (h : Tb w) (hb : Below B w w') (hB : w.heap.size ≤ B) : Tb w' := h.below (hb.mono hB)
/-! ### Cut at ASCII bytes -/
theorem Trim_any (s cs : ByteArray) (w : World) (hs : s.size ≤ 9223372036854775807) (hc : cs.size < 4294967281) (ha : ∀ (j : Nat) b, cs.data.toList[j]? = some b → b.toNat < 128) : Calls Tryd.prog 33 #[.string s, .string cs] w fun e w' => e = .returned (.string (bsl (Lib.trimS s.data.toList cs.data.toList))) ∧ Below w.heap.size w w' :=
  Any.strings_Trim_laid Tryd.lays160 (by kernel_rfl) s cs w hs hc ha
theorem TrimB_any (s : ByteArray) (w : World) (hs : s.size ≤ 4294967281) : Calls Tryd.prog 33 #[.string s, .string ⟨#[9, 32]⟩] w fun e w' => e = .returned (.string (bsl (tr s.data.toList))) ∧ Below w.heap.size w w' :=
  Trim_any s ⟨#[9, 32]⟩ w (by omega) (by decide) (by
    intro j b hb
    match j, hb with
    | 0, hb => simp at hb; subst hb; decide
    | 1, hb => simp at hb; subst hb; decide
    | n + 2, hb => simp at hb)
end Go.Proofs.YtbibekojbjonoaaDoor.Po
