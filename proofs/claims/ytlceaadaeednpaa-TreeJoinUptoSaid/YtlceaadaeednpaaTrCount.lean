/-
  The contract of the reference's Count.
-/
import Derived.Test.YtlceaadaeednpaaChecked
import Derived.Test.YtlceaadaeednpaaTrMem
import Derived.WalkKit
import Derived.WalkSpells
import Derived.WalkLawsBesides
import Derived.Outline
import Derived.Deep.QuietTactic
import Derived.BigQuiet
import Derived.Deep.RegionWith
import Derived.Lib.Hide
import Derived.IntWalk
namespace Go.Proofs.Ytlceaadaeednpaa.Tr
open Go.RowKit

theorem ret_int {k : IntKind} {a b : Int} (h : a = b) : Ending.returned (.int k a) = .returned (.int k b) := by rw [h]
theorem ret_bool {a b : Bool} (h : a = b) : Ending.returned (.bool a) = .returned (.bool b) := by rw [h]
theorem ret_str {a b : ByteArray} (h : a = b) : Ending.returned (.string a) = .returned (.string b) := by rw [h]
theorem below_drewN {B : Nat} {a w : World} (h : Below B a w) (n : Nat) : Below B a (w.drewN n) := ⟨h.os, h.tape, h.output, h.size, h.block⟩
theorem LRd.drewN {d : Nat} {w : World} {B : Nat} {v : Value} {l : List Nd} (h : LRd d w B v l) (n : Nat) : LRd d (w.drewN n) B v l := h.imp (Nat.le_refl _) fun _ _ => rfl
theorem cntR_take {l : List Nd} {k : Nat} (h : k < l.length) : cntR (l.take (k + 1)) = cntR (l.take k) + cntRN l[k] := by
  rw [List.take_succ_eq_append_getElem h, cntR_append, cntR_cons, cntR_nil]; omega
theorem cntRA_take {l : List Ar} {k : Nat} (h : k < l.length) : cntRA (l.take (k + 1)) = cntRA (l.take k) + cntRG l[k] := by
  rw [List.take_succ_eq_append_getElem h, cntRA_append, cntRA_cons, cntRA_nil]; omega
theorem sz_take (l : List Nd) (k : Nat) : sz (l.take k) ≤ sz l := by
  have : l = l.take k ++ l.drop k := (List.take_append_drop k l).symm
  rw [this, sz_append]; simp only [← this]; omega
theorem szA_take (l : List Ar) (k : Nat) : szA (l.take k) ≤ szA l := by
  have : l = l.take k ++ l.drop k := (List.take_append_drop k l).symm
  rw [this, szA_append]; simp only [← this]; omega
/-- The number that the reference's Count has reached after k nodes: their own count as roots is in 'len'. -/
def cR (l : List Nd) (k : Nat) : Nat := l.length + (cntR (l.take k) - k)
theorem cntR_ge (l : List Nd) : l.length ≤ cntR l := by
  induction l with
  | nil => simp
  | cons n r ih => rw [cntR_cons, cntRN_eq, List.length_cons]; omega
theorem cR_succ {l : List Nd} {k : Nat} (h : k < l.length) : cR l (k + 1) = cR l k + cntR l[k].kids + cntRA l[k].args := by
  have h1 := cntR_ge (l.take k)
  rw [List.length_take_of_le (by omega)] at h1
  unfold cR; rw [cntR_take h, cntRN_eq]; omega
theorem cR_end (l : List Nd) : cR l l.length = cntR l := by
  have h1 := cntR_ge l
  unfold cR; rw [List.take_length]; omega
theorem cR_le (l : List Nd) (k : Nat) : cR l k ≤ 2 * sz l := by
  have h1 := sz_len l; have h2 := cntR_le (l.take k); have h3 := sz_take l k
  unfold cR; omega

set_option maxHeartbeats 2000000 in
theorem Count_any : ∀ (d : Nat) (B : Nat) (v : Value) (l : List Nd) (w : World), LRd d w B v l →
    Calls Try.prog 12 #[v] w fun e w' => e = .returned (.int .i64 (cntR l : Nat)) ∧ ∃ n, w' = w.drewN n := by
  intro d
  induction d with
  | zero => intro B v l w h; exact h.elim
  | succ d ih =>
    intro B v l w h
    have hz := h.sz
    obtain ⟨A, c, rfl, hc1, hc2, hln, R⟩ := h.open
    have R' := Lib.hid R; clear R
    go_enter Try.func12, Try.ntmps12
    go_wp2_with fail
    go_loopw [3, 4] (fun cv i wr => ∃ (k nq : Nat), k ≤ l.length ∧ i = .int .i64 k ∧ cv = .int .i64 (cR l k : Nat) ∧ Hid (wr = w.drewN nq)) (fun _ i _ => l.length - (intOf i).toNat)
    case atStart => exact ⟨0, 0, Nat.zero_le _, rfl, by simp [cR, cntR_nil], Lib.hid rfl⟩
    case round =>
      obtain ⟨k, m0, hk, rfl, rfl, hw⟩ := hrel
      by_cases hlt : k < l.length
      · obtain ⟨g, o, rfl, hg, q⟩ := R'.out (by omega)
        obtain ⟨vk, va, x1, x2, x3, x4, x5, _, _, x6, x7⟩ := q k l[k] (List.getElem?_eq_getElem hlt)
        clear q
        have hcell : ∀ p, wr.cell? p = w.cell? p := fun p => by rw [hw.out]; rfl
        rw [← hcell] at x4 x5
        clear hcell x1 x2 x3
        have x6' : LRd d wr B vk l[k].kids := by rw [hw.out]; exact x6.drewN m0
        have X6 := Lib.hid x6'; clear x6 x6'
        have hT := cR_succ hlt
        have hT2 := cR_le l (k + 1)
        have b1 : ((cR l k : Nat) : Int) + ((cntR l[k].kids : Nat) : Int) ≤ 9223372036854775807 := by omega
        have b2 : 0 ≤ ((cR l k : Nat) : Int) + ((cntR l[k].kids : Nat) : Int) := by omega
        have Aszle := Lib.hid x7.1
        obtain ⟨A2, c2, rfl, hd1, hd2, hln2, R2⟩ := ARd.open (d := d) x7
        clear x7
        have X5 := Lib.hid (show w.cell? ⟨g, o + k * 5 + 4, none⟩ = some (Value.slice A2 l[k].args.length c2) by rw [← x5, hw.out]; rfl)
        have BT := Lib.hid (show cR l k + cntR l[k].kids ≤ 33554432 by omega)
        have HT := Lib.hid hT; have HT2 := Lib.hid hT2; clear hT hT2
        have R2' := Lib.hid R2; clear R2
        go_wp2_with fail
        refine (ih B _ _ _ X6.out).mono ?_
        rintro e w1 ⟨rfl, n1, rfl⟩
        go_wp2_with fail
        go_loopw [3, 5] (fun cv j wr' => ∃ (q nq : Nat), q ≤ l[k].args.length ∧ j = .int .i64 q ∧ cv = .int .i64 ((cR l k + cntR l[k].kids + cntRA (l[k].args.take q) : Nat)) ∧ Hid (wr' = w.drewN nq)) (fun _ j _ => l[k].args.length - (intOf j).toNat)
        case atStart => exact ⟨0, m0 + n1, Nat.zero_le _, rfl, by simp [cntRA_nil], Lib.hid (by rw [hw.out, World.drewN_drewN])⟩
        case round =>
          obtain ⟨q, m1, hq, rfl, rfl, hw1⟩ := hrel
          have HC := Lib.hid (show ∀ p, wr.cell? p = w.cell? p from fun p => by rw [hw1.out]; rfl)
          have z5 : wr.cell? ⟨g, o + k * 5 + 4, none⟩ = some (Value.slice A2 l[k].args.length c2) := by rw [HC.out]; exact X5.out
          by_cases hq2 : q < l[k].args.length
          · obtain ⟨g2, o2, rfl, hg2, q2⟩ := R2'.out (by omega)
            obtain ⟨vn, vv, y1, y2, y3, y4, y5⟩ := q2 q l[k].args[q] (List.getElem?_eq_getElem hq2)
            clear q2
            rw [← HC.out] at y2 y3
            clear y1
            have Y4 := Lib.hid (show LRd d wr B vn l[k].args[q].name by rw [hw1.out]; exact y4.drewN m1)
            have Y5 := Lib.hid (show LRd d wr B vv l[k].args[q].value by rw [hw1.out]; exact y5.drewN m1)
            clear y4 y5
            have hA := cntRA_take hq2
            rw [cntRG_eq] at hA
            have hA2 := cntRA_le (l[k].args.take (q + 1))
            have hA3 := szA_take l[k].args (q + 1)
            have hA4 := Aszle.out
            have e1 : ((cR l k + cntR l[k].kids + cntRA (l[k].args.take (q + 1)) : Nat) : Int) = ((cR l k + cntR l[k].kids + cntRA (l[k].args.take q) : Nat) : Int) + ((cntR l[k].args[q].name : Nat) : Int) + ((cntR l[k].args[q].value : Nat) : Int) := by omega
            have b3 : ((cR l k + cntR l[k].kids + cntRA (l[k].args.take q) : Nat) : Int) + ((cntR l[k].args[q].name : Nat) : Int) ≤ 9223372036854775807 := by have := BT.out; omega
            have b4 : ((cR l k + cntR l[k].kids + cntRA (l[k].args.take q) : Nat) : Int) + ((cntR l[k].args[q].name : Nat) : Int) + ((cntR l[k].args[q].value : Nat) : Int) ≤ 9223372036854775807 := by have := BT.out; omega
            have E1 := Lib.hid e1
            clear hA hA2 hA3 hA4 e1
            generalize cntRA (l[k].args.take q) = QQ at *
            go_wp2_with fail
            go_quiet (first | (go_at_call_of 12 vn; exact Calls.quiet_of (ih B _ _ _ (LRd.drewN Y4.out _))) | (go_at_call_of 12 vv; exact Calls.quiet_of (ih B _ _ _ (LRd.drewN Y5.out _))))
            go_wp2_with fail
            go_roundw
            case rel => exact ⟨q + 1, m1 + nq, by omega, by go_num, by rw [E1.out]; go_num, Lib.hid (by rw [hw1.out, World.drewN_drewN])⟩
            case measure => simp [intOf]; omega
          · have e : q = l[k].args.length := by omega
            subst e
            rw [List.take_length] at *
            have HT' := HT.out
            go_wp2_with fail
            go_roundw
            case rel => exact ⟨k + 1, m1, by omega, by go_num, by rw [HT'], hw1⟩
            case measure => simp [intOf]; omega
      · have e : k = l.length := by omega
        go_wp2_with fail
        go_ret
        exact ⟨ret_int (by rw [e, cR_end]), m0, hw.out⟩
end Go.Proofs.Ytlceaadaeednpaa.Tr
