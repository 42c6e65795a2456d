/-
  What it means that a slice reads as a list of nodes whose memory lies in given blocks.
-/
import Derived.Test.YtdojbnngdlmbgaaGreatDoorTrApp
import Derived.Test.YtdojbnngdlmbgaaGreatDoorTrJPure
namespace Go.Proofs.YtdojbnngdlmbgaaGreatDoor.Tr
open Go.RowKit

def SlX (X : Nat → Prop) (v : Value) (n : Nat) (At : Nat → Nat → Nat → Prop) : Prop :=
  ∃ A c, v = .slice A n c ∧ n ≤ c ∧ c ≤ maxLen ∧ (0 < n → ∃ g o, A = some ⟨g, o, none⟩ ∧ X g ∧ ∀ i, i < n → At g o i)
def ARx' (R : Value → List Nd → Prop) (w : World) (X : Nat → Prop) (v : Value) (l : List Ar) : Prop :=
  szA l ≤ 16777216 ∧ SlX X v l.length fun g o i => ∀ a, l[i]? = some a → ArAt R w g (o + i * 3) a
def NdX (R : Value → List Nd → Prop) (w : World) (X : Nat → Prop) (g p : Nat) (n : Nd) : Prop :=
  ∃ vk va, w.cell? ⟨g, p, none⟩ = some (.int .i64 n.kind) ∧ w.cell? ⟨g, p + 1, none⟩ = some (.int .i64 n.tag) ∧ w.cell? ⟨g, p + 2, none⟩ = some (.string n.text) ∧
    w.cell? ⟨g, p + 3, none⟩ = some vk ∧ w.cell? ⟨g, p + 4, none⟩ = some va ∧ Fit n.kind ∧ Fit n.tag ∧ R vk n.kids ∧ ARx' R w X va n.args
/-- The slice v reads as the list l, in the blocks X, at most d levels deep. -/
def LRx : Nat → World → (Nat → Prop) → Value → List Nd → Prop
  | 0, _, _, _, _ => False
  | d + 1, w, X, v, l => sz l ≤ 16777216 ∧ SlX X v l.length fun g o i => ∀ n, l[i]? = some n → NdX (LRx d w X) w X g (o + i * 5) n
def ARx (d : Nat) (w : World) (X : Nat → Prop) (v : Value) (l : List Ar) : Prop := ARx' (LRx d w X) w X v l

theorem SlX.imp {X X' : Nat → Prop} {v : Value} {n : Nat} {P Q : Nat → Nat → Nat → Prop} (h : SlX X v n P) (hX : ∀ g, X g → X' g) (hi : ∀ g o i, X g → i < n → P g o i → Q g o i) : SlX X' v n Q := by
  obtain ⟨A, c, h1, h2, h3, h4⟩ := h
  refine ⟨A, c, h1, h2, h3, fun hn => ?_⟩
  obtain ⟨g, o, h5, h6, h7⟩ := h4 hn
  exact ⟨g, o, h5, hX g h6, fun i hi' => hi g o i h6 hi' (h7 i hi')⟩
theorem ARx'.imp {R R' : Value → List Nd → Prop} {w w' : World} {X X' : Nat → Prop} {v : Value} {l : List Ar} (h : ARx' R w X v l) (hX : ∀ g, X g → X' g) (hR : ∀ v l, R v l → R' v l) (hk : ∀ p : Addr, X p.block → w'.cell? p = w.cell? p) : ARx' R' w' X' v l :=
  ⟨h.1, h.2.imp hX fun g o i hg hi hp a ha => by
    obtain ⟨vn, vv, a1, a2, a3, a4, a5⟩ := hp a ha
    exact ⟨vn, vv, (hk ⟨g, _, none⟩ hg).trans a1, (hk ⟨g, _, none⟩ hg).trans a2, (hk ⟨g, _, none⟩ hg).trans a3, hR _ _ a4, hR _ _ a5⟩⟩
theorem LRx.imp : ∀ {d : Nat} {w w' : World} {X X' : Nat → Prop} {v : Value} {l : List Nd}, LRx d w X v l → (∀ g, X g → X' g) → (∀ p : Addr, X p.block → w'.cell? p = w.cell? p) → LRx d w' X' v l
  | 0, _, _, _, _, _, _, h, _, _ => h.elim
  | d + 1, w, w', X, X', v, l, h, hX, hk => ⟨h.1, h.2.imp hX fun g o i hg hi hp n hn => by
    obtain ⟨vk, va, a1, a2, a3, a4, a5, f1, f2, a6, a7⟩ := hp n hn
    exact ⟨vk, va, (hk ⟨g, _, none⟩ hg).trans a1, (hk ⟨g, _, none⟩ hg).trans a2, (hk ⟨g, _, none⟩ hg).trans a3, (hk ⟨g, _, none⟩ hg).trans a4, (hk ⟨g, _, none⟩ hg).trans a5, f1, f2, a6.imp hX hk, a7.imp hX (fun v l h => LRx.imp h hX hk) hk⟩⟩
theorem ARx.imp {d : Nat} {w w' : World} {X X' : Nat → Prop} {v : Value} {l : List Ar} (h : ARx d w X v l) (hX : ∀ g, X g → X' g) (hk : ∀ p : Addr, X p.block → w'.cell? p = w.cell? p) : ARx d w' X' v l :=
  ARx'.imp h hX (fun _ _ h => h.imp hX hk) hk
theorem SlX.sl {X : Nat → Prop} {B : Nat} {v : Value} {n : Nat} {P Q : Nat → Nat → Nat → Prop} (h : SlX X v n P) (hX : ∀ g, X g → g < B) (hi : ∀ g o i, P g o i → Q g o i) : Sl B v n Q := by
  obtain ⟨A, c, h1, h2, h3, h4⟩ := h
  refine ⟨A, c, h1, h2, h3, fun hn => ?_⟩
  obtain ⟨g, o, h5, h6, h7⟩ := h4 hn
  exact ⟨g, o, h5, hX g h6, fun i hi' => hi g o i (h7 i hi')⟩
theorem ARx'.rd {R R' : Value → List Nd → Prop} {w : World} {X : Nat → Prop} {B : Nat} {v : Value} {l : List Ar} (h : ARx' R w X v l) (hX : ∀ g, X g → g < B) (hR : ∀ v l, R v l → R' v l) : ARd' R' w B v l :=
  ⟨h.1, h.2.sl hX fun g o i hp a ha => by
    obtain ⟨vn, vv, a1, a2, a3, a4, a5⟩ := hp a ha
    exact ⟨vn, vv, a1, a2, a3, hR _ _ a4, hR _ _ a5⟩⟩
/-- What lies in the blocks X lies below B. -/
theorem LRx.rd : ∀ {d : Nat} {w : World} {X : Nat → Prop} {B : Nat} {v : Value} {l : List Nd}, LRx d w X v l → (∀ g, X g → g < B) → LRd d w B v l
  | 0, _, _, _, _, _, h, _ => h.elim
  | d + 1, w, X, B, v, l, h, hX => ⟨h.1, h.2.sl hX fun g o i hp n hn => by
    obtain ⟨vk, va, a1, a2, a3, a4, a5, f1, f2, a6, a7⟩ := hp n hn
    exact ⟨vk, va, a1, a2, a3, a4, a5, f1, f2, a6.rd hX, a7.rd hX fun _ _ h => LRx.rd h hX⟩⟩
theorem ARx.rd {d : Nat} {w : World} {X : Nat → Prop} {B : Nat} {v : Value} {l : List Ar} (h : ARx d w X v l) (hX : ∀ g, X g → g < B) : ARd d w B v l := ARx'.rd h hX fun _ _ h => h.rd hX
theorem LRx.form {d : Nat} {w : World} {X : Nat → Prop} {v : Value} {l : List Nd} (h : LRx d w X v l) : ∃ A c, v = .slice A l.length c := by
  cases d with
  | zero => exact h.elim
  | succ d => obtain ⟨_, A, c, h1, _⟩ := h; exact ⟨A, c, h1⟩
theorem ARx.form {d : Nat} {w : World} {X : Nat → Prop} {v : Value} {l : List Ar} (h : ARx d w X v l) : ∃ A c, v = .slice A l.length c := by
  obtain ⟨_, A, c, h1, _⟩ := h; exact ⟨A, c, h1⟩
theorem LRx.one {d : Nat} {w : World} {X : Nat → Prop} {v : Value} {l : List Nd} (h : LRx d w X v l) : v.oneCell' = true := by obtain ⟨A, c, rfl⟩ := h.form; rfl
theorem ARx.one {d : Nat} {w : World} {X : Nat → Prop} {v : Value} {l : List Ar} (h : ARx d w X v l) : v.oneCell' = true := by obtain ⟨A, c, rfl⟩ := ARx.form h; rfl
theorem LRx.sz {d : Nat} {w : World} {X : Nat → Prop} {v : Value} {l : List Nd} (h : LRx d w X v l) : sz l ≤ 16777216 := by
  cases d with
  | zero => exact h.elim
  | succ d => exact h.1
theorem LRx_nil (d : Nat) (w : World) (X : Nat → Prop) (c : Nat) (A : Option Addr) (hc : c ≤ maxLen) : LRx (d + 1) w X (.slice A 0 c) [] := ⟨by simp [Tr.sz_nil], A, c, rfl, Nat.zero_le _, hc, fun h => absurd h (by simp)⟩
theorem ARx_nil (d : Nat) (w : World) (X : Nat → Prop) (c : Nat) (A : Option Addr) (hc : c ≤ maxLen) : ARx d w X (.slice A 0 c) [] := ⟨by simp [szA_nil], A, c, rfl, Nat.zero_le _, hc, fun h => absurd h (by simp)⟩
/-- A row that the call owns, whose cells are those of a list. -/
theorem own_rx {d : Nat} {w : World} {base : Nat} {X : Nat → Prop} {e : TypeId} {v : Value} {xs : List Value} {l : List Nd} (h : w.ownsRow base e 5 v l.length xs) (hc : Cells (LRx d w X) (ARx d w X) xs l) (hz : sz l ≤ 16777216) (hX : ∀ g, v.ownBlock = some g → X g) : LRx (d + 1) w X v l := by
  rcases h.2 with ⟨rfl, h0⟩ | ⟨g, cap, cur, rfl, _, hg, h1, h2, _, h3⟩
  · have : l = [] := List.length_eq_zero_iff.1 h0
    subst this
    exact LRx_nil d w X 0 none (Nat.zero_le _)
  · refine ⟨hz, some ⟨g, 0, none⟩, cap, rfl, h1, h2, fun _ => ⟨g, 0, rfl, hX g rfl, fun i _ n hn => ?_⟩⟩
    obtain ⟨vk, va, a0, a1, a2, a3, a4, a5⟩ := hc.get i n hn
    have q := fun {j : Nat} {u : Value} (hj : xs[j]? = some u) => cell_row hg h3 hj
    exact ⟨vk, va, q a0, q a1, q a2, q a3, q a4, a5⟩
theorem own_rxA {d : Nat} {w : World} {base : Nat} {X : Nat → Prop} {e : TypeId} {v : Value} {xs : List Value} {l : List Ar} (h : w.ownsRow base e 3 v l.length xs) (hc : CellsA (LRx d w X) xs l) (hz : szA l ≤ 16777216) (hX : ∀ g, v.ownBlock = some g → X g) : ARx d w X v l := by
  rcases h.2 with ⟨rfl, h0⟩ | ⟨g, cap, cur, rfl, _, hg, h1, h2, _, h3⟩
  · have : l = [] := List.length_eq_zero_iff.1 h0
    subst this
    exact ARx_nil d w X 0 none (Nat.zero_le _)
  · refine ⟨hz, some ⟨g, 0, none⟩, cap, rfl, h1, h2, fun _ => ⟨g, 0, rfl, hX g rfl, fun i _ n hn => ?_⟩⟩
    obtain ⟨vk, va, a0, a1, a2, a5⟩ := hc.get i n hn
    have q := fun {j : Nat} {u : Value} (hj : xs[j]? = some u) => cell_row hg h3 hj
    exact ⟨vk, va, q a0, q a1, q a2, a5⟩
/-- No row of bytes. -/
def NB (w : World) (g : Nat) : Prop := ∀ c fz, w.heap[g]? ≠ some (.cells c 5 fz)
theorem NB.same {w w' : World} {g : Nat} (h : NB w g) (e : w'.heap[g]? = w.heap[g]?) : NB w' g := fun c fz => by rw [e]; exact h c fz
theorem NB.cells {w : World} {g : Nat} {c : Array Value} {t : TypeId} {fz : Nat × Nat} (h : w.heap[g]? = some (.cells c t fz)) (ht : t ≠ 5) : NB w g := fun c' fz' e => by
  rw [h] at e
  injection e with e
  injection e with _ e _
  exact ht e
/-- The blocks from a on, but for rows of bytes. -/
def In (a : Nat) (w : World) : Nat → Prop := fun g => a ≤ g ∧ g < w.heap.size ∧ NB w g
/-- The same without one that is a row. -/
def Out (a : Nat) (w : World) (r : Option Nat) : Nat → Prop := fun g => a ≤ g ∧ g < w.heap.size ∧ some g ≠ r ∧ NB w g
theorem heap_set {w : World} {b j : Nat} {cs : Array Value} {t : TypeId} {v : Value} (h : w.heap[b]? = some (.cells cs t)) : (w.setCell ⟨b, j, none⟩ v).heap[b]? = some (.cells (cs.setIfInBounds j v) t) := by
  simp [World.setCell, Array.getElem?_modify, h]
theorem heap_set_ne {w : World} {b c j : Nat} {v : Value} (h : b ≠ c) : (w.setCell ⟨b, j, none⟩ v).heap[c]? = w.heap[c]? := by
  simp [World.setCell, Array.getElem?_modify, h]
theorem cell_set_ne {w : World} {b j : Nat} {v : Value} {p : Addr} (h : p.block ≠ b) : (w.setCell ⟨b, j, none⟩ v).cell? p = w.cell? p := by
  refine World.cell?_of_block ?_
  exact heap_set_ne (fun e => h e.symm)
mutual
theorem sz_join : ∀ l : List Nd, sz (join l) ≤ sz l
  | [] => by rw [join_nil]; exact Nat.le_refl _
  | n :: r => by rw [join_cons, sz_cons]; exact Nat.le_trans (sz_joinN n _) (Nat.add_le_add_left (sz_join r) _)
theorem sz_joinN : ∀ (n : Nd) (l : List Nd), sz (joinN n l) ≤ szN n + sz l
  | .mk k t s kids args, l => by
    rw [joinN, szN]
    split
    · unfold addT
      split
      · omega
      · split
        · simp only [sz_cons, sz_nil, txN, szN, szA_nil]; omega
        · rename_i n r
          split
          · simp only [sz_cons, sz_nil, txN, szN, szA_nil, ByteArray.size_append]; rw [szN_eq]; omega
          · simp only [sz_cons, sz_nil, txN, szN, szA_nil]; omega
    · have h1 := sz_join kids
      have h2 := szA_join args
      rw [sz_cons, szN]; omega
theorem szA_join : ∀ l : List Ar, szA (joinA l) ≤ szA l
  | [] => by rw [joinA_nil]; exact Nat.le_refl _
  | a :: r => by rw [joinA_cons, szA_cons, szA_cons]; exact Nat.add_le_add (szG_join a) (szA_join r)
theorem szG_join : ∀ a : Ar, szG (joinG a) ≤ szG a
  | .mk b n v => by have h1 := sz_join n; have h2 := sz_join v; rw [joinG, szG, szG]; omega
end
theorem joinA_append : ∀ a b : List Ar, joinA (a ++ b) = joinA a ++ joinA b
  | [], b => by rw [joinA_nil]; rfl
  | x :: a, b => by rw [List.cons_append, joinA_cons, joinA_cons, joinA_append a b]; rfl
theorem joinA_len : ∀ a : List Ar, (joinA a).length = a.length
  | [] => by rw [joinA_nil]
  | x :: a => by rw [joinA_cons, List.length_cons, List.length_cons, joinA_len a]
theorem joinA_take {l : List Ar} {k : Nat} (h : k < l.length) : joinA (l.take (k + 1)) = joinA (l.take k) ++ [joinG l[k]] := by
  rw [List.take_succ_eq_append_getElem h, joinA_append, joinA_cons, joinA_nil]
theorem CellsA.snoc {R : Value → List Nd → Prop} {xs : List Value} {l : List Ar} (h : CellsA R xs l) {b : Bool} {vn vv : Value} {n v : List Nd} (hn : R vn n) (hv : R vv v) : CellsA R (xs ++ [.bool b, vn, vv]) (l ++ [.mk b n v]) := CellsA.append h ⟨rfl, hn, hv, trivial⟩
end Go.Proofs.YtdojbnngdlmbgaaGreatDoor.Tr
