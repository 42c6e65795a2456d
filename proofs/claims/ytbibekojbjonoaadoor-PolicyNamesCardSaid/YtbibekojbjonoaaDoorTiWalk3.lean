/-
  The contract of validBytes of package title, for every argument that is not too long.
-/
import Derived.Test.YtbibekojbjonoaaDoorTiWalk2
import Derived.Test.YtbibekojbjonoaaDoorTiPure2
namespace Go.Proofs.YtbibekojbjonoaaDoor.Ti
open Go.RowKit

set_option maxHeartbeats 1000000 in
theorem validBytes_any (s : ByteArray) (w : World) (hs : s.size < 4294967281) (ht : Tb w) :
    Calls Tryd.prog 44 #[.string s] w fun e w' => e = .returned (.bool (vbytes s.data.toList)) ∧ w = w' := by
  obtain ⟨m, hm⟩ := ht.m
  go_enter Tryd.func44, Tryd.ntmps44
  go_wp2
  go_loop [7] (fun i => ∃ (k : Nat), k ≤ s.size ∧ i = .int .i64 k ∧ Hid ((s.data.toList.take k).all (fun c => !bad c) = true)) (fun i => s.size - (intOf i).toNat)
  case atStart => exact ⟨0, Nat.zero_le _, rfl, Lib.hid rfl⟩
  case round =>
    obtain ⟨k, hk, rfl, hr⟩ := hrel
    by_cases hlt : k < s.size
    · by_cases h1 : s[k].toNat < 32
      · have hd : decide ((s[k].toNat : Int) < 32) = true := by simp; omega
        have hb : vbytes s.data.toList = false := vbytes_bad (k := k) (hk := hlt) (by simp [bad, h1])
        have HB := Lib.hid hb; clear hb
        go_wp2
        go_ret
        exact ⟨ret_bool (by rw [HB.out]), rfl⟩
      · have hd : decide ((s[k].toNat : Int) < 32) = false := by simp; omega
        by_cases h2 : s[k].toNat = 127
        · have hd2 : ((s[k].toNat : Int) == 127) = true := by rw [beq_iff_eq]; omega
          have hb : vbytes s.data.toList = false := vbytes_bad (k := k) (hk := hlt) (by simp [bad, h2])
          have HB := Lib.hid hb; clear hb h2
          go_wp2
          go_ret
          exact ⟨ret_bool (by rw [HB.out]), rfl⟩
        · have hd2 : ((s[k].toNat : Int) == 127) = false := by rw [beq_eq_false_iff_ne]; omega
          by_cases h3 : 0 ≤ Lib.indexByte [60, 62, 91, 93, 123, 125, 124, 35, 95] s[k]
          · have hb : vbytes s.data.toList = false := vbytes_bad (k := k) (hk := hlt) (by simp [bad, h3])
            have HB := Lib.hid hb; clear hb
            go_wp2_with fail
            refine (Tryd.strings_IndexByte _ _ _).mono ?_
            rintro e w' ⟨rfl, rfl⟩
            go_wp2
            go_ret
            exact ⟨ret_bool (by rw [HB.out]), rfl⟩
          · have hb : bad s[k] = false := by simp [bad, h1, h2, h3]
            have HB := Lib.hid hb; clear hb
            go_wp2_with fail
            refine (Tryd.strings_IndexByte _ _ _).mono ?_
            rintro e w' ⟨rfl, rfl⟩
            go_wp2
            go_round
            case rel => exact ⟨k + 1, by omega, by go_num, Lib.hid (all_step hr.out HB.out)⟩
            case measure => simp [intOf]; omega
    · have hfin : vbytes s.data.toList = !Lib.contains s.data.toList [32, 32] := by
        have := hr.out
        rw [List.take_of_length_le (by simp; omega)] at this
        exact vbytes_all this
      have HF := Lib.hid hfin; clear hfin
      go_wp2_with fail
      refine (Tryd.strings_Contains _ _ m _ hs hm).mono ?_
      rintro e w1 ⟨rfl, rfl⟩
      go_wp2
      go_ret
      exact ⟨ret_bool (by rw [HF.out]), rfl⟩
end Go.Proofs.YtbibekojbjonoaaDoor.Ti
