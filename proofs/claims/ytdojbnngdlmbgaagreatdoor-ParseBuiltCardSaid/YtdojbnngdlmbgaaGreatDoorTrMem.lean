/-
  What it means that a slice in memory reads as a list of nodes, and that this stays.
-/
import Derived.Test.YtdojbnngdlmbgaaGreatDoorTrPure
import Derived.Deep.Slices
namespace Go.Proofs.YtdojbnngdlmbgaaGreatDoor.Tr
open Go.RowKit

/-- An int that fits. -/
def Fit (k : Int) : Prop := -9223372036854775808 ≤ k ∧ k ≤ 9223372036854775807
/-- The slice v has n elements, whose cells lie as 'at' says: block, first offset, index. -/
def Sl (B : Nat) (v : Value) (n : Nat) (At : Nat → Nat → Nat → Prop) : Prop :=
  ∃ A c, v = .slice A n c ∧ n ≤ c ∧ c ≤ maxLen ∧ (0 < n → ∃ g o, A = some ⟨g, o, none⟩ ∧ g < B ∧ ∀ i, i < n → At g o i)
/-- The cells of an argument, from p on in block g. -/
def ArAt (R : Value → List Nd → Prop) (w : World) (g p : Nat) (a : Ar) : Prop :=
  ∃ vn vv, w.cell? ⟨g, p, none⟩ = some (.bool a.named) ∧ w.cell? ⟨g, p + 1, none⟩ = some vn ∧ w.cell? ⟨g, p + 2, none⟩ = some vv ∧ R vn a.name ∧ R vv a.value
def ARd' (R : Value → List Nd → Prop) (w : World) (B : Nat) (v : Value) (l : List Ar) : Prop :=
  szA l ≤ 16777216 ∧ Sl B v l.length fun g o i => ∀ a, l[i]? = some a → ArAt R w g (o + i * 3) a
def NdAt (R : Value → List Nd → Prop) (w : World) (B g p : Nat) (n : Nd) : Prop :=
  ∃ vk va, w.cell? ⟨g, p, none⟩ = some (.int .i64 n.kind) ∧ w.cell? ⟨g, p + 1, none⟩ = some (.int .i64 n.tag) ∧ w.cell? ⟨g, p + 2, none⟩ = some (.string n.text) ∧
    w.cell? ⟨g, p + 3, none⟩ = some vk ∧ w.cell? ⟨g, p + 4, none⟩ = some va ∧ Fit n.kind ∧ Fit n.tag ∧ R vk n.kids ∧ ARd' R w B va n.args
/-- The slice v reads as the list l, in blocks below B, at most d levels deep. -/
def LRd : Nat → World → Nat → Value → List Nd → Prop
  | 0, _, _, _, _ => False
  | d + 1, w, B, v, l => sz l ≤ 16777216 ∧ Sl B v l.length fun g o i => ∀ n, l[i]? = some n → NdAt (LRd d w B) w B g (o + i * 5) n
def ARd (d : Nat) (w : World) (B : Nat) (v : Value) (l : List Ar) : Prop := ARd' (LRd d w B) w B v l
/-- The value v is the node n. -/
def NV (d : Nat) (w : World) (B : Nat) (v : Value) (n : Nd) : Prop :=
  ∃ vk va, v = .agg #[.int .i64 n.kind, .int .i64 n.tag, .string n.text, vk, va] ∧ szN n ≤ 16777216 ∧ Fit n.kind ∧ Fit n.tag ∧ LRd d w B vk n.kids ∧ ARd d w B va n.args
def AV (d : Nat) (w : World) (B : Nat) (v : Value) (a : Ar) : Prop :=
  ∃ vn vv, v = .agg #[.bool a.named, vn, vv] ∧ szG a ≤ 16777216 ∧ LRd d w B vn a.name ∧ LRd d w B vv a.value

theorem Sl.imp {B B' : Nat} {v : Value} {n : Nat} {P Q : Nat → Nat → Nat → Prop} (h : Sl B v n P) (hB : B ≤ B') (hi : ∀ g o i, g < B → i < n → P g o i → Q g o i) : Sl B' v n Q := by
  obtain ⟨A, c, h1, h2, h3, h4⟩ := h
  refine ⟨A, c, h1, h2, h3, fun hn => ?_⟩
  obtain ⟨g, o, h5, h6, h7⟩ := h4 hn
  exact ⟨g, o, h5, by omega, fun i hi' => hi g o i h6 hi' (h7 i hi')⟩
theorem ARd'.imp {R R' : Value → List Nd → Prop} {w w' : World} {B B' : Nat} {v : Value} {l : List Ar} (h : ARd' R w B v l) (hB : B ≤ B') (hR : ∀ v l, R v l → R' v l) (hk : ∀ p : Addr, p.block < B → w'.cell? p = w.cell? p) : ARd' R' w' B' v l :=
  ⟨h.1, h.2.imp hB fun g o i hg hi hp a ha => by
    obtain ⟨vn, vv, a1, a2, a3, a4, a5⟩ := hp a ha
    exact ⟨vn, vv, (hk _ hg).trans a1, (hk _ hg).trans a2, (hk _ hg).trans a3, hR _ _ a4, hR _ _ a5⟩⟩
theorem LRd.imp : ∀ {d : Nat} {w w' : World} {B B' : Nat} {v : Value} {l : List Nd}, LRd d w B v l → B ≤ B' → (∀ p : Addr, p.block < B → w'.cell? p = w.cell? p) → LRd d w' B' v l
  | 0, _, _, _, _, _, _, h, _, _ => h.elim
  | d + 1, w, w', B, B', v, l, h, hB, hk => ⟨h.1, h.2.imp hB fun g o i hg hi hp n hn => by
    obtain ⟨vk, va, a1, a2, a3, a4, a5, f1, f2, a6, a7⟩ := hp n hn
    exact ⟨vk, va, (hk _ hg).trans a1, (hk _ hg).trans a2, (hk _ hg).trans a3, (hk _ hg).trans a4, (hk _ hg).trans a5, f1, f2, a6.imp hB hk, a7.imp hB (fun v l h => LRd.imp h hB hk) hk⟩⟩
theorem LRd.below {d : Nat} {w w' : World} {B B' C : Nat} {v : Value} {l : List Nd} (h : LRd d w B v l) (hb : Below C w w') (hC : B ≤ C) (hB : B ≤ B') : LRd d w' B' v l :=
  h.imp hB fun _ hp => hb.cell (by omega)
theorem ARd.below {d : Nat} {w w' : World} {B B' C : Nat} {v : Value} {l : List Ar} (h : ARd d w B v l) (hb : Below C w w') (hC : B ≤ C) (hB : B ≤ B') : ARd d w' B' v l :=
  ARd'.imp h hB (fun _ _ h => h.below hb hC hB) fun _ hp => hb.cell (by omega)
theorem NV.below {d : Nat} {w w' : World} {B B' C : Nat} {v : Value} {l : Nd} (h : NV d w B v l) (hb : Below C w w') (hC : B ≤ C) (hB : B ≤ B') : NV d w' B' v l := by
  obtain ⟨vk, va, h1, h2, h3, h4, h5, h6⟩ := h
  exact ⟨vk, va, h1, h2, h3, h4, h5.below hb hC hB, h6.below hb hC hB⟩
theorem AV.below {d : Nat} {w w' : World} {B B' C : Nat} {v : Value} {l : Ar} (h : AV d w B v l) (hb : Below C w w') (hC : B ≤ C) (hB : B ≤ B') : AV d w' B' v l := by
  obtain ⟨vk, va, h1, h2, h3, h4⟩ := h
  exact ⟨vk, va, h1, h2, h3.below hb hC hB, h4.below hb hC hB⟩
theorem LRd.sz {d : Nat} {w : World} {B : Nat} {v : Value} {l : List Nd} (h : LRd d w B v l) : sz l ≤ 16777216 := by
  cases d with
  | zero => exact h.elim
  | succ d => exact h.1
theorem LRd.more {d : Nat} {w : World} {B B' : Nat} {v : Value} {l : List Nd} (h : LRd d w B v l) (hB : B ≤ B') : LRd d w B' v l := h.imp hB fun _ _ => rfl
theorem ARd.more {d : Nat} {w : World} {B B' : Nat} {v : Value} {l : List Ar} (h : ARd d w B v l) (hB : B ≤ B') : ARd d w B' v l := ARd'.imp h hB (fun _ _ h => h.more hB) fun _ _ => rfl
theorem ARd'.up {R R' : Value → List Nd → Prop} {w : World} {B : Nat} {v : Value} {l : List Ar} (h : ARd' R w B v l) (hR : ∀ v l, R v l → R' v l) : ARd' R' w B v l := h.imp (Nat.le_refl _) hR fun _ _ => rfl
theorem LRd.deep1 : ∀ {d : Nat} {w : World} {B : Nat} {v : Value} {l : List Nd}, LRd d w B v l → LRd (d + 1) w B v l
  | 0, _, _, _, _, h => h.elim
  | d + 1, w, B, v, l, h => ⟨h.1, h.2.imp (Nat.le_refl _) fun g o i hg hi hp n hn => by
    obtain ⟨vk, va, a1, a2, a3, a4, a5, f1, f2, a6, a7⟩ := hp n hn
    exact ⟨vk, va, a1, a2, a3, a4, a5, f1, f2, a6.deep1, a7.up fun _ _ h => LRd.deep1 h⟩⟩
theorem LRd.deep {d d' : Nat} {w : World} {B : Nat} {v : Value} {l : List Nd} (h : LRd d w B v l) (hd : d ≤ d') : LRd d' w B v l := by
  induction hd with
  | refl => exact h
  | step _ ih => exact ih.deep1
theorem ARd.deep {d d' : Nat} {w : World} {B : Nat} {v : Value} {l : List Ar} (h : ARd d w B v l) (hd : d ≤ d') : ARd d' w B v l := ARd'.up h fun _ _ h => h.deep hd

theorem slice_eq {A A' : Option Addr} {n n' c c' : Nat} (h : Value.slice A n c = .slice A' n' c') : A = A' ∧ n = n' ∧ c = c' := by cases h; exact ⟨rfl, rfl, rfl⟩
/-- What a walk over such a slice needs. -/
theorem LRd.open {d : Nat} {w : World} {B : Nat} {v : Value} {l : List Nd} (h : LRd (d + 1) w B v l) :
    ∃ A c, v = .slice A l.length c ∧ l.length ≤ c ∧ c ≤ 9223372036854775807 ∧ l.length ≤ 16777216 ∧ (0 < l.length → ∃ g o, A = some ⟨g, o, none⟩ ∧ g < B ∧ ∀ i n, l[i]? = some n → NdAt (LRd d w B) w B g (o + i * 5) n) := by
  obtain ⟨hs, A, c, h1, h2, h3, h4⟩ := h
  refine ⟨A, c, h1, h2, by simpa [maxLen] using h3, Nat.le_trans (sz_len l) hs, fun hn => ?_⟩
  obtain ⟨g, o, h5, h6, h7⟩ := h4 hn
  exact ⟨g, o, h5, h6, fun i n hi => h7 i (by exact (List.getElem?_eq_some_iff.1 hi).1) n hi⟩
theorem ARd.open {d : Nat} {w : World} {B : Nat} {v : Value} {l : List Ar} (h : ARd d w B v l) :
    ∃ A c, v = .slice A l.length c ∧ l.length ≤ c ∧ c ≤ 9223372036854775807 ∧ l.length ≤ 16777216 ∧ (0 < l.length → ∃ g o, A = some ⟨g, o, none⟩ ∧ g < B ∧ ∀ i n, l[i]? = some n → ArAt (LRd d w B) w g (o + i * 3) n) := by
  obtain ⟨hs, A, c, h1, h2, h3, h4⟩ := h
  refine ⟨A, c, h1, h2, by simpa [maxLen] using h3, Nat.le_trans (szA_len l) hs, fun hn => ?_⟩
  obtain ⟨g, o, h5, h6, h7⟩ := h4 hn
  exact ⟨g, o, h5, h6, fun i n hi => h7 i (by exact (List.getElem?_eq_some_iff.1 hi).1) n hi⟩
theorem LRd.form {d : Nat} {w : World} {B : Nat} {v : Value} {l : List Nd} (h : LRd d w B v l) : ∃ A c, v = .slice A l.length c := by
  cases d with
  | zero => exact h.elim
  | succ d => obtain ⟨_, A, c, h1, _⟩ := h; exact ⟨A, c, h1⟩
theorem ARd.form {d : Nat} {w : World} {B : Nat} {v : Value} {l : List Ar} (h : ARd d w B v l) : ∃ A c, v = .slice A l.length c := by
  obtain ⟨_, A, c, h1, _⟩ := h; exact ⟨A, c, h1⟩
end Go.Proofs.YtdojbnngdlmbgaaGreatDoor.Tr
