/-
  What the iterator of package tree's lists promises: the lists directly below the nodes, in order.
-/
import Derived.Test.YtlceaadaeednpaaTrEq2
import Derived.Test.YtlceaadaeednpaaTrRange
import Derived.Shelf.Abstract
import Derived.Shelf.RegionOpen
import Derived.OwnWalkIn
import Derived.TacticsInMore
import Derived.LoopNIn
import Derived.LoopIn
namespace Go.Proofs.Ytlceaadaeednpaa.Tr
open Go.RowKit Go.Shelf Rf
attribute [local go_sem] Oper.semAt_some

set_option maxHeartbeats 2000000 in
theorem hasKids_any (kd tg : Int) (tx : ByteArray) (vk va : Value) (w : World) : Calls Try.prog 33 #[.agg #[.int .i64 kd, .int .i64 tg, .string tx, vk, va]] w fun e w' =>
    e = .returned (.bool (hasK kd)) ∧ w' = w.alloc (.cells #[.int .i64 kd, .int .i64 tg, .string tx, vk, va] 31) := by
  by_cases h1 : kd = 1
  · subst h1
    go_enter Try.func33, Try.ntmps33
    go_wp2
    go_ret
    exact ⟨rfl, rfl⟩
  have e1 : (kd != 1) = true := by simpa using h1
  by_cases h2 : kd = 2
  · subst h2
    go_enter Try.func33, Try.ntmps33
    go_wp2
    go_ret
    exact ⟨rfl, rfl⟩
  have e2 : (kd != 2) = true := by simpa using h2
  by_cases h3 : kd = 3
  · subst h3
    go_enter Try.func33, Try.ntmps33
    go_wp2
    go_ret
    exact ⟨rfl, rfl⟩
  have e3 : (kd != 3) = true := by simpa using h3
  have H : Hid (hasK kd = true) := Lib.hid (by simp [hasK, h1, h2, h3])
  go_enter Try.func33, Try.ntmps33
  go_wp2
  go_ret
  exact ⟨ret_bool (by rw [H.out]), rfl⟩

set_option maxHeartbeats 2000000 in
theorem hasArgs_any (kd tg : Int) (tx : ByteArray) (A1 A2 : Option Addr) (m1 m2 c1 c2 : Nat) (w : World) : Calls Try.prog 34 #[.agg #[.int .i64 kd, .int .i64 tg, .string tx, .slice A1 m1 c1, .slice A2 m2 c2]] w fun e w' =>
    e = .returned (.bool (hasA kd)) ∧ w' = (w.alloc (.cells #[.int .i64 kd, .int .i64 tg, .string tx, .slice A1 m1 c1, .slice A2 m2 c2] 31)).alloc (.cells #[.int .i64 kd, .int .i64 tg, .string tx, .slice A1 m1 c1, .slice A2 m2 c2] 31) := by
  by_cases h6 : kd = 6
  · subst h6
    go_enter Try.func34, Try.ntmps34
    go_wp2_with fail
    refine (hasKids_any 6 _ _ _ _ _).mono ?_
    rintro e w1 ⟨rfl, rfl⟩
    rw [show hasK 6 = true from rfl]
    go_wp2_with fail
    go_ret
    exact ⟨rfl, rfl⟩
  have e6 : (kd != 6) = true := by simpa using h6
  have H : Hid (hasA kd = hasK kd) := Lib.hid (by unfold hasA; rw [e6, Bool.and_true])
  go_enter Try.func34, Try.ntmps34
  go_wp2_with fail
  refine (hasKids_any kd _ _ _ _ _).mono ?_
  rintro e w1 ⟨rfl, rfl⟩
  cases hk : hasK kd with
  | false =>
    have HK := Lib.hid hk; clear hk
    go_wp2_with fail
    go_ret
    exact ⟨ret_bool (by rw [H.out, HK.out]), rfl⟩
  | true =>
    have HK := Lib.hid hk; clear hk
    go_wp2_with fail
    go_ret
    exact ⟨ret_bool (by rw [H.out, HK.out]), rfl⟩

theorem lists_any (v : Value) (A : Option Addr) (n c : Nat) (hv : v = .slice A n c) (w : World) :
    Calls Try.prog 27 #[v] w fun e w' => e = .returned (.func (.func 32) #[] #[.pointer (some ⟨w.heap.size, 0, none⟩)]) ∧ w' = w.alloc (.cells #[v] 22) := by
  subst hv
  go_enter Try.func27, Try.ntmps27
  go_wp2
  go_ret
  exact ⟨rfl, rfl⟩
/-- A list in memory, with what it reads as. -/
abbrev Ls (d : Nat) (w : World) (B : Nat) := { p : Value × List Nd // LRd d w B p.1 p.2 }
def encL {d : Nat} {w : World} {B : Nat} (x : Ls d w B) : Array Value := #[x.1.1]
def lst {d : Nat} {w : World} {B : Nat} (xs : List (Ls d w B)) : List (List Nd) := xs.map (·.1.2)
end Go.Proofs.Ytlceaadaeednpaa.Tr
