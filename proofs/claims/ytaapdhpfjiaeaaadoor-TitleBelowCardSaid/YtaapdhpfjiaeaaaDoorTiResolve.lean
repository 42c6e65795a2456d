/-
  The contracts of the reference's Skip and of both Resolves.
-/
import Derived.Test.YtaapdhpfjiaeaaaDoorShelf2
import Derived.Test.YtaapdhpfjiaeaaaDoorTiRefF
import Derived.Test.YtaapdhpfjiaeaaaDoorTiLawPA
namespace Go.Proofs.YtaapdhpfjiaeaaaDoor.Ti
open Go.RowKit

/-- How many blanks and underscores stand at the beginning. -/
def lead : List UInt8 → Nat
  | [] => 0
  | b :: l => if b = 32 ∨ b = 95 then lead l + 1 else 0
theorem lead_le : ∀ l, lead l ≤ l.length
  | [] => Nat.le_refl _
  | b :: l => by unfold lead; split <;> simp [lead_le l]
theorem lead_in : ∀ (l : List UInt8) (j : Nat) (b : UInt8), j < lead l → l[j]? = some b → b = 32 ∨ b = 95
  | [], j, b, h, _ => absurd h (Nat.not_lt_zero _)
  | c :: l, j, b, h, hb => by
    unfold lead at h
    split at h
    · rename_i hc
      cases j with
      | zero => simp at hb; exact hb ▸ hc
      | succ j => exact lead_in l j b (by omega) (by simpa using hb)
    · omega
theorem lead_at : ∀ (l : List UInt8) (b : UInt8), l[lead l]? = some b → ¬ (b = 32 ∨ b = 95)
  | [], b, h => by simp at h
  | c :: l, b, h => by
    unfold lead at h
    split at h
    · exact lead_at l b (by simpa using h)
    · rename_i hc
      simp at h; exact h ▸ hc
theorem trim_lead (l : List UInt8) : Lib.trimLeftS l [32, 95] = l.drop (lead l) :=
  Lib.trimLeftS_drop l [32, 95] (lead l) (lead_le l) (fun j b h hb => by have := lead_in l j b h hb; rcases this with rfl | rfl <;> rfl)
    (fun b hb => by
      have := lead_at l b hb
      simp only [not_or] at this
      simp [this.1, this.2])

theorem Skip_any (s : ByteArray) (w : World) (hs : s.size ≤ maxLen) :
    Calls Tryd.prog 49 #[.string s, .bool false] w fun e w' => e = .returned (.int .i64 (lead s.data.toList : Int)) ∧ ∃ n, w' = w.drewN n := by
  unfold maxLen at hs
  have hle : lead s.data.toList ≤ s.size := lead_le s.data.toList
  have hin := Lib.hid (lead_in s.data.toList)
  have hat := Lib.hid (lead_at s.data.toList)
  obtain ⟨L, HL⟩ : ∃ L, L = lead s.data.toList := ⟨_, rfl⟩
  rw [← HL] at hle hin hat ⊢
  clear HL
  go_enter Tryd.func49, Tryd.ntmps49
  go_wp2
  go_loopw [5] (fun i wr => ∃ (k nq : Nat), k ≤ L ∧ i = .int .i64 k ∧ Hid (wr = w.drewN nq)) (fun i _ => s.size - (intOf i).toNat)
  case atStart => exact ⟨0, 0, Nat.zero_le _, rfl, Lib.hid rfl⟩
  case round =>
    obtain ⟨k, m0, hk, rfl, hw⟩ := hrel
    by_cases hlt : k < s.size
    · have hg : s.data.toList[k]? = some s[k] := by simp [hlt]; rfl
      by_cases h1 : s[k] = 32
      · have hd : (((s[k]).toNat : Int) == 32) = true := by rw [h1]; rfl
        have hkL : k + 1 ≤ L := by
          apply Nat.lt_of_le_of_ne hk; rintro rfl; exact hat.out _ hg (.inl h1)
        clear hg h1
        go_wp2
        go_roundw
        case rel => exact ⟨k + 1, m0, by omega, by go_num, hw⟩
        case measure => simp [intOf]; omega
      · by_cases h2 : s[k] = 95
        · have hd : (((s[k]).toNat : Int) == 32) = false := by rw [h2]; rfl
          have hd2 : (((s[k]).toNat : Int) == 95) = true := by rw [h2]; rfl
          have hkL : k + 1 ≤ L := by
            apply Nat.lt_of_le_of_ne hk; rintro rfl; exact hat.out _ hg (.inr h2)
          clear hg h1 h2
          go_wp2
          go_roundw
          case rel => exact ⟨k + 1, m0, by omega, by go_num, hw⟩
          case measure => simp [intOf]; omega
        · have hd : (((s[k]).toNat : Int) == 32) = false := by rw [beq_eq_false_iff_ne]; intro e; exact h1 (UInt8.toNat_inj.1 (show _ = _ from Int.ofNat_inj.1 e))
          have hd2 : (((s[k]).toNat : Int) == 95) = false := by rw [beq_eq_false_iff_ne]; intro e; exact h2 (UInt8.toNat_inj.1 (show _ = _ from Int.ofNat_inj.1 e))
          have hkL : k = L := by
            rcases Nat.lt_or_eq_of_le hk with h3 | h3
            · rcases hin.out _ _ h3 hg with h4 | h4
              · exact absurd h4 h1
              · exact absurd h4 h2
            · exact h3
          clear hg h1 h2
          subst hkL
          go_wp2
          go_ret
          exact ⟨rfl, m0, hw.out⟩
    · have hkL : k = L := by omega
      subst hkL
      go_wp2
      go_ret
      exact ⟨rfl, m0, hw.out⟩

/-- The text that Resolve reads. -/
def target (sp : Int) (b l : List UInt8) : List UInt8 := if Lib.hasPrefix (Lib.trimLeftS l [32, 95]) [47] then format sp b ++ Lib.trimLeftS l [32, 95] else l
theorem TrimLeft_is (s tr : ByteArray) (h : tr = ⟨(Lib.trimLeftS s.data.toList [32, 95]).toArray⟩) (w : World) :
    Calls Tryd.prog 47 #[.string s, .string ⟨#[32, 95]⟩] w fun e w' => e = .returned (.string tr) ∧ Below w.heap.size w w' :=
  h ▸ Tryd.strings_TrimLeft_ascii s ⟨#[32, 95]⟩ w (by decide) (ascii_of_all (by decide))
theorem HasPrefix_is (tr : ByteArray) (b : Bool) (h : Lib.hasPrefix tr.data.toList [47] = b) (w : World) :
    Calls Tryd.prog 48 #[.string tr, .string ⟨#[47]⟩] w fun e w' => e = .returned (.bool b) ∧ w' = w :=
  h ▸ Tryd.strings_HasPrefix tr ⟨#[47]⟩ w
theorem Format_is (sp : Int) (b fm : ByteArray) (h : fm = ⟨(format sp b.data.toList).toArray⟩) (w : World) (hs : b.size ≤ maxLen) (ht : Tb w) :
    Calls Tryd.prog 17 #[.agg #[.int .i64 sp, .string b]] w fun e w' => e = .returned (.string fm) ∧ Below w.heap.size w w' :=
  h ▸ Format_any sp b w hs ht
theorem Parse_is {s : ByteArray} {k er : Nat} {nm : List UInt8} (h : parse s.data.toList = ((k, nm), er)) (w : World) (hs : s.size < 4294967281) (ht : Tb w) :
    Calls Tryd.prog 13 #[.string s] w fun e w' => e = .returned (.tuple #[.agg #[.int .i64 (k : Int), .string ⟨nm.toArray⟩], .int .i64 (er : Int)]) ∧ Below w.heap.size w w' := by
  have := Parse_any s w hs ht
  rw [h] at this
  exact this


/-- A title's cells in one block, the cells of a result behind it, and the world before. -/
structure Res (w : World) (sp : Int) (b : ByteArray) (W : World) : Prop where
  a0 : W.cell? ⟨w.heap.size, 0, none⟩ = some (.int .i64 sp)
  a1 : W.cell? ⟨w.heap.size, 1, none⟩ = some (.string b)
  r0 : W.cell? ⟨w.heap.size + 1, 0, none⟩ = some (.int .i64 0)
  r1 : W.cell? ⟨w.heap.size + 1, 1, none⟩ = some (.string ⟨#[]⟩)
  f0 : W.frozen? ⟨w.heap.size + 1, 0, none⟩ = false
  f1 : W.frozen? ⟨w.heap.size + 1, 1, none⟩ = false
  bl : Below w.heap.size w W
theorem Res.below {w W W' : World} {sp : Int} {b : ByteArray} (h : Res w sp b W) (hb : Below W.heap.size W W') : Res w sp b W' :=
  ⟨(hb.cell (p := ⟨_, 0, none⟩) (lt_of_cell' h.a0)).trans h.a0, (hb.cell (p := ⟨_, 1, none⟩) (lt_of_cell' h.a1)).trans h.a1,
   (hb.cell (p := ⟨_, 0, none⟩) (lt_of_cell' h.r0)).trans h.r0, (hb.cell (p := ⟨_, 1, none⟩) (lt_of_cell' h.r1)).trans h.r1,
   (hb.frozen (p := ⟨_, 0, none⟩) (lt_of_cell' h.r0)).trans h.f0, (hb.frozen (p := ⟨_, 1, none⟩) (lt_of_cell' h.r1)).trans h.f1, h.bl.trans (hb.mono h.bl.size)⟩
theorem Res.drew {w W : World} {sp : Int} {b : ByteArray} (h : Res w sp b W) : Res w sp b W.drew := ⟨h.a0, h.a1, h.r0, h.r1, h.f0, h.f1, h.bl.drew⟩
theorem res_new (w : World) (sp : Int) (b : ByteArray) (t t' : TypeId) : Res w sp b ((w.alloc (.cells #[.int .i64 sp, .string b] t)).alloc (.cells #[.int .i64 0, .string ⟨#[]⟩] t')) := by
  have e : (w.alloc (.cells #[.int .i64 sp, .string b] t)).heap.size = w.heap.size + 1 := by simp
  have k := two_new w sp b t
  have c : Below (w.alloc (.cells #[.int .i64 sp, .string b] t)).heap.size (w.alloc (.cells #[.int .i64 sp, .string b] t)) ((w.alloc (.cells #[.int .i64 sp, .string b] t)).alloc (.cells #[.int .i64 0, .string ⟨#[]⟩] t')) := (Below.refl _ _).alloc (Nat.le_refl _) _
  have k' := k.below c
  obtain ⟨x0, x1, x2, x3⟩ := keep2 (Below.refl ((w.alloc (.cells #[.int .i64 sp, .string b] t)).heap.size + 1) ((w.alloc (.cells #[.int .i64 sp, .string b] t)).alloc (.cells #[.int .i64 0, .string ⟨#[]⟩] t')))
  rw [e] at x0 x1 x2 x3
  exact ⟨k'.a0, k'.a1, x0, x1, x2, x3, k'.bl⟩
theorem Res.set {w W : World} {sp : Int} {b : ByteArray} (h : Res w sp b W) (p q : Value) :
    ((W.setCell ⟨w.heap.size + 1, 0, none⟩ p).setCell ⟨w.heap.size + 1, 1, none⟩ q).cell? ⟨w.heap.size + 1, 0, none⟩ = some p ∧
    ((W.setCell ⟨w.heap.size + 1, 0, none⟩ p).setCell ⟨w.heap.size + 1, 1, none⟩ q).cell? ⟨w.heap.size + 1, 1, none⟩ = some q ∧
    Below w.heap.size w ((W.setCell ⟨w.heap.size + 1, 0, none⟩ p).setCell ⟨w.heap.size + 1, 1, none⟩ q) :=
  ⟨(set2 h.r0 h.r1).1, (set2 h.r0 h.r1).2, (h.bl.setCell (p := ⟨w.heap.size + 1, 0, none⟩) (by simp) _).setCell (p := ⟨w.heap.size + 1, 1, none⟩) (by simp) _⟩

set_option maxHeartbeats 1000000 in
theorem Resolve_any (sp : Int) (b s : ByteArray) (w : World) (hb : b.size ≤ maxLen) (hs : s.size ≤ 300) (ht : Tb w) {k er : Nat} {nm : List UInt8} (hp : parse (target sp b.data.toList s.data.toList) = ((k, nm), er)) :
    Calls Tryd.prog 24 #[.agg #[.int .i64 sp, .string b], .string s] w fun e w' => e = .returned (.tuple #[.agg #[.int .i64 (k : Int), .string ⟨nm.toArray⟩], .int .i64 (er : Int)]) ∧ Below w.heap.size w w' := by
  obtain ⟨tr, htr⟩ : ∃ tr : ByteArray, tr = ⟨(Lib.trimLeftS s.data.toList [32, 95]).toArray⟩ := ⟨_, rfl⟩
  obtain ⟨fm, hfm⟩ : ∃ fm : ByteArray, fm = ⟨(format sp b.data.toList).toArray⟩ := ⟨_, rfl⟩
  have htl : tr.data.toList = Lib.trimLeftS s.data.toList [32, 95] := by rw [htr]
  have hfl : fm.data.toList = format sp b.data.toList := by rw [hfm]
  have h1 : fm.size ≤ 109 := by rw [hfm]; exact format_len _ _
  have h2 : tr.size ≤ 300 := by
    rw [htr]; show (Lib.trimLeftS _ _).length ≤ 300
    rw [trim_lead]; simp; omega
  unfold target at hp
  rw [← htl, ← hfl] at hp
  have HT := Lib.hid htr; clear htr
  have HF := Lib.hid hfm; clear hfm htl hfl
  have R0 := res_new w sp b 24 24
  have t0 := ht.below R0.bl
  cases hpre : Lib.hasPrefix tr.data.toList [47]
  · rw [hpre, if_neg (by decide)] at hp
    have HP := Lib.hid hp; clear hp
    have HQ := Lib.hid hpre; clear hpre
    go_enter Tryd.func24, Tryd.ntmps24
    go_wp2_with fail
    refine (TrimLeft_is _ _ HT.out _).mono ?_
    rintro e w1 ⟨rfl, hb1⟩
    go_wp2_with fail
    refine (HasPrefix_is _ _ HQ.out _).mono ?_
    rintro e w2 ⟨rfl, rfl⟩
    have t1 := t0.below hb1
    have R1 := R0.below hb1
    go_wp2_with fail
    refine (Parse_is HP.out _ (by omega) t1).mono ?_
    rintro e w3 ⟨rfl, hb3⟩
    obtain ⟨a0, a1, r0, r1, f0, f1, bl⟩ := R1.below hb3
    obtain ⟨q0, q1, hB⟩ := (R1.below hb3).set (.int .i64 (k : Int)) (.string ⟨nm.toArray⟩)
    have HQ0 := Lib.hid q0; have HQ1 := Lib.hid q1; have HB := Lib.hid hB; clear q0 q1 hB R0 R1 hb1 hb3 a0 a1
    go_wp2
    refine bodyPost_ret (v := .tuple #[.agg #[.int .i64 (k : Int), .string ⟨nm.toArray⟩], .int .i64 (er : Int)]) ?_ rfl ⟨rfl, HB.out⟩
    simp [results, Tryd.results24, go_sem, HQ0.out, HQ1.out]
  · rw [hpre, if_pos rfl] at hp
    have hp2 : parse (fm ++ tr).data.toList = ((k, nm), er) := by rw [← hp]; simp
    have HP := Lib.hid hp2; clear hp hp2
    have HQ := Lib.hid hpre; clear hpre
    have h3 : fm.size + tr.size ≤ 9223372036854775807 := by omega
    have h4 : ¬ 9223372036854775807 < fm.size + tr.size := by omega
    go_enter Tryd.func24, Tryd.ntmps24
    go_wp2_with fail
    refine (TrimLeft_is _ _ HT.out _).mono ?_
    rintro e w1 ⟨rfl, hb1⟩
    go_wp2_with fail
    refine (HasPrefix_is _ _ HQ.out _).mono ?_
    rintro e w2 ⟨rfl, rfl⟩
    have t1 := t0.below hb1
    have R1 := R0.below hb1
    have d0 := R1.a0
    have d1 := R1.a1
    go_wp2_with fail
    refine (Format_is _ _ _ HF.out _ hb t1).mono ?_
    rintro e w3 ⟨rfl, hb3⟩
    have t3 := t1.below hb3
    clear d0 d1
    go_wp2_with fail
    refine (Parse_is HP.out _ (by simp; omega) t3).mono ?_
    rintro e w4 ⟨rfl, hb4⟩
    obtain ⟨a0, a1, r0, r1, f0, f1, bl⟩ := (R1.below hb3).below hb4
    obtain ⟨q0, q1, hB⟩ := ((R1.below hb3).below hb4).set (.int .i64 (k : Int)) (.string ⟨nm.toArray⟩)
    have HQ0 := Lib.hid q0; have HQ1 := Lib.hid q1; have HB := Lib.hid hB; clear q0 q1 hB R0 R1 hb1 hb3 hb4 a0 a1
    go_wp2
    refine bodyPost_ret (v := .tuple #[.agg #[.int .i64 (k : Int), .string ⟨nm.toArray⟩], .int .i64 (er : Int)]) ?_ rfl ⟨rfl, HB.out⟩
    simp [results, Tryd.results24, go_sem, HQ0.out, HQ1.out]
end Go.Proofs.YtaapdhpfjiaeaaaDoor.Ti
