/-
  The contracts of the laws' known and large.
-/
import Derived.Test.YtdojbnngdlmbgaaGreatDoorTrCnt
namespace Go.Proofs.YtdojbnngdlmbgaaGreatDoor.Tr
open Go.RowKit

theorem LRd_nil (d : Nat) (w : World) (B c : Nat) (A : Option Addr) (hc : c ≤ maxLen) : LRd (d + 1) w B (.slice A 0 c) [] :=
  ⟨by rw [sz_nil]; omega, A, c, rfl, Nat.zero_le _, hc, fun h => absurd h (by simp)⟩
theorem ARd_nil (d : Nat) (w : World) (B c : Nat) (A : Option Addr) (hc : c ≤ maxLen) : ARd d w B (.slice A 0 c) [] :=
  ⟨by rw [szA_nil]; omega, A, c, rfl, Nat.zero_le _, hc, fun h => absurd h (by simp)⟩
theorem LRd_one {d : Nat} {w : World} {B g : Nat} {n : Nd} {vk va : Value} {t : TypeId} (hz : sz [n] ≤ 16777216) (hg : g < B) (h : w.heap[g]? = some (.cells #[.int .i64 n.kind, .int .i64 n.tag, .string n.text, vk, va] t)) (f1 : Fit n.kind) (f2 : Fit n.tag)
    (hk : LRd d w B vk n.kids) (ha : ARd d w B va n.args) : LRd (d + 1) w B (.slice (some ⟨g, 0, none⟩) 1 1) [n] := by
  refine ⟨hz, some ⟨g, 0, none⟩, 1, rfl, Nat.le_refl _, by decide, fun _ => ⟨g, 0, rfl, hg, fun i hi m hm => ?_⟩⟩
  obtain rfl : i = 0 := by simpa using hi
  obtain rfl : n = m := by simpa using hm
  exact ⟨vk, va, cell_heap h rfl, cell_heap h rfl, cell_heap h rfl, cell_heap h rfl, cell_heap h rfl, f1, f2, hk, ha⟩
theorem ARd_one {d : Nat} {w : World} {B g : Nat} {a : Ar} {vk va : Value} {t : TypeId} (hz : szA [a] ≤ 16777216) (hg : g < B) (h : w.heap[g]? = some (.cells #[.bool a.named, vk, va] t))
    (hk : LRd d w B vk a.name) (ha : LRd d w B va a.value) : ARd d w B (.slice (some ⟨g, 0, none⟩) 1 1) [a] := by
  refine ⟨hz, some ⟨g, 0, none⟩, 1, rfl, Nat.le_refl _, by decide, fun _ => ⟨g, 0, rfl, hg, fun i hi m hm => ?_⟩⟩
  obtain rfl : i = 0 := by simpa using hi
  obtain rfl : a = m := by simpa using hm
  exact ⟨vk, va, cell_heap h rfl, cell_heap h rfl, cell_heap h rfl, hk, ha⟩
def tx (s : List UInt8) : Nd := .mk 1 0 ⟨s.toArray⟩ [] []
/-- The tree that 'known' builds. -/
def knT : List Nd := [.mk 4 0 ⟨#[]⟩ [tx [97]] [.mk true [tx [107]] [tx [118]]]]
theorem knT_src : src knT = [123, 123, 97, 124, 107, 61, 118, 125, 125] := by simp [knT, src, srcN, srcA, srcG, ntext, tx]
theorem knT_cnt : cnt knT = 4 := by simp [knT, cnt, cntN, cntA, cntG, tx, hasK, hasA]
theorem knT_dep : dep knT = 2 := by simp [knT, dep, depM, depN, depA, depG, tx, hasK, hasA]
theorem maxLen0 : 0 ≤ maxLen := Nat.zero_le _
theorem fit_small {k : Int} (h1 : 0 ≤ k) (h2 : k ≤ 100) : Fit k := ⟨by omega, by omega⟩
theorem tx_rd {w : World} {B g : Nat} {s : List UInt8} {t : TypeId} (hs : s.length ≤ 10) (hg : g < B) (h : w.heap[g]? = some (.cells #[.int .i64 1, .int .i64 0, .string ⟨s.toArray⟩, .slice none 0 0, .slice none 0 0] t)) : LRd 2 w B (.slice (some ⟨g, 0, none⟩) 1 1) [tx s] :=
  LRd_one (n := tx s) (by simp [sz, szN, tx, szA, ByteArray.size]; omega) hg h (fit_small (k := 1) (by decide) (by decide)) (fit_small (k := 0) (by decide) (by decide)) (LRd_nil 0 _ _ _ _ maxLen0) (ARd_nil 1 _ _ _ _ maxLen0)
theorem knT_rd (w : World) (o1 o2 o3 o4 o5 : Obj)
    (h1 : o1 = .cells #[.int .i64 1, .int .i64 0, .string ⟨#[97]⟩, .slice none 0 0, .slice none 0 0] 62)
    (h2 : o2 = .cells #[.int .i64 1, .int .i64 0, .string ⟨#[107]⟩, .slice none 0 0, .slice none 0 0] 62)
    (h3 : o3 = .cells #[.int .i64 1, .int .i64 0, .string ⟨#[118]⟩, .slice none 0 0, .slice none 0 0] 62)
    (h4 : o4 = .cells #[.bool true, .slice (some ⟨w.heap.size + 1, 0, none⟩) 1 1, .slice (some ⟨w.heap.size + 1 + 1, 0, none⟩) 1 1] 59)
    (h5 : o5 = .cells #[.int .i64 4, .int .i64 0, .string ⟨#[]⟩, .slice (some ⟨w.heap.size, 0, none⟩) 1 1, .slice (some ⟨w.heap.size + 1 + 1 + 1, 0, none⟩) 1 1] 62) :
    LRd 3 (((((w.alloc o1).alloc o2).alloc o3).alloc o4).alloc o5) (((((w.alloc o1).alloc o2).alloc o3).alloc o4).alloc o5).heap.size (.slice (some ⟨w.heap.size + 1 + 1 + 1 + 1, 0, none⟩) 1 1) knT ∧ Below w.heap.size w (((((w.alloc o1).alloc o2).alloc o3).alloc o4).alloc o5) := by
  have e5 : (((((w.alloc o1).alloc o2).alloc o3).alloc o4).alloc o5).heap[w.heap.size + 1 + 1 + 1 + 1]? = some o5 := by
    have := heap_new ((((w.alloc o1).alloc o2).alloc o3).alloc o4) o5
    simpa using this
  have e4 : (((((w.alloc o1).alloc o2).alloc o3).alloc o4).alloc o5).heap[w.heap.size + 1 + 1 + 1]? = some o4 := by
    have := heap_new (((w.alloc o1).alloc o2).alloc o3) o4
    rw [Below.heap_alloc _ _ _ (by simp)]
    simpa using this
  have e3 : (((((w.alloc o1).alloc o2).alloc o3).alloc o4).alloc o5).heap[w.heap.size + 1 + 1]? = some o3 := by
    have := heap_new ((w.alloc o1).alloc o2) o3
    rw [Below.heap_alloc _ _ _ (by simp), Below.heap_alloc _ _ _ (by simp)]
    simpa using this
  have e2 : (((((w.alloc o1).alloc o2).alloc o3).alloc o4).alloc o5).heap[w.heap.size + 1]? = some o2 := by
    have := heap_new (w.alloc o1) o2
    rw [Below.heap_alloc _ _ _ (by simp), Below.heap_alloc _ _ _ (by simp), Below.heap_alloc _ _ _ (by simp)]
    simpa using this
  have e1 : (((((w.alloc o1).alloc o2).alloc o3).alloc o4).alloc o5).heap[w.heap.size]? = some o1 := by
    have := heap_new w o1
    rw [Below.heap_alloc _ _ _ (by simp; omega), Below.heap_alloc _ _ _ (by simp; omega), Below.heap_alloc _ _ _ (by simp; omega), Below.heap_alloc _ _ _ (by simp)]
    exact this
  have hs : (((((w.alloc o1).alloc o2).alloc o3).alloc o4).alloc o5).heap.size = w.heap.size + 5 := by simp
  have hbl : Below w.heap.size w (((((w.alloc o1).alloc o2).alloc o3).alloc o4).alloc o5) := (((((Below.refl _ _).alloc (Nat.le_refl _) _).alloc (by simp) _).alloc (by simp; omega) _).alloc (by simp; omega) _).alloc (by simp; omega) _
  refine ⟨?_, hbl⟩
  rw [hs]
  generalize (((((w.alloc o1).alloc o2).alloc o3).alloc o4).alloc o5) = Z at *
  subst h1 h2 h3 h4 h5
  refine LRd_one (n := .mk 4 0 ⟨#[]⟩ [tx [97]] [.mk true [tx [107]] [tx [118]]]) (by simp [sz, szN, szA, szG, tx, ByteArray.size]) (by omega) e5 (fit_small (by decide) (by decide)) (fit_small (by decide) (by decide)) (tx_rd (s := [97]) (by decide) (by omega) e1) ?_
  exact ARd_one (a := .mk true [tx [107]] [tx [118]]) (by simp [sz, szN, szA, szG, tx, ByteArray.size]) (by omega) e4 (tx_rd (s := [107]) (by decide) (by omega) e2) (tx_rd (s := [118]) (by decide) (by omega) e3)

/-- Whether a list is too large for the laws. -/
def big (l : List Nd) : Bool := decide (400 < cntR l) || decide (4000 < (src l).length)
end Go.Proofs.YtdojbnngdlmbgaaGreatDoor.Tr
