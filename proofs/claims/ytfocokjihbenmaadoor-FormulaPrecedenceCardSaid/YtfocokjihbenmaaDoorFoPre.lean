/-
  The contract of applyPrefix at every operator, and of apply at every operator.
-/
import Derived.Test.YtfocokjihbenmaaDoorFoApp2
import Derived.Test.YtfocokjihbenmaaDoorFoApp3
import Derived.Test.YtfocokjihbenmaaDoorFoWf
import Derived.Deep.RegionWith
namespace Go.Proofs.YtfocokjihbenmaaDoor.Fo
open Go.RowKit Go.Proofs.YtfocokjihbenmaaDoor.Nu
set_option linter.unusedVariables false
set_option linter.unusedSimpArgs false

set_option maxRecDepth 100000 in
set_option maxHeartbeats 2000000 in
theorem pre_minus (a p : Int) (ha : I64 a) (w : World) : Calls Tryd.prog 30 #[.string ⟨#[45]⟩, .agg #[.int .i64 a, .int .i64 p]] w fun e w' => e = .returned (res (sub 0 1 a p)) ∧ Below w.heap.size w w' := by
  have HS : Hid (∀ W, Calls Tryd.prog 54 #[.agg #[.int .i64 0, .int .i64 1], .agg #[.int .i64 a, .int .i64 p]] W fun e w' => e = .returned (res (sub 0 1 a p)) ∧ Below W.heap.size W w') := Lib.hid fun W => Sub_any 0 1 a p W ha
  generalize sub 0 1 a p = r at HS ⊢
  unfold res at HS
  go_enter Tryd.func30, Tryd.ntmps30
  go_wp2_with fail
  go_region_with (first
    | (go_at_call 54; refine (HS.out _).mono ?_; rintro e w2 ⟨rfl, hb2⟩; obtain ⟨hc2, hf2⟩ := bcell hb2; have z2 : w.heap.size + 1 < w2.heap.size := (Nat.lt_of_lt_of_le z1 hb2.size))
    | (go_at_call 55; refine (integer_any 0 _).mono ?_; rintro e w1 ⟨rfl, hb⟩; obtain ⟨hc, hf⟩ := bcell hb; have z1 : w.heap.size + 1 < w1.heap.size := (by have := hb.size; simp at this; omega)))
  all_goals
    have b1 : Below w.heap.size w w1 := by
      first
        | exact below2 hb
        | exact ((((Below.refl _ w).alloc (Nat.le_refl _) _).alloc (by simp) _).drew).trans (hb.mono (by simp; omega))
    have b2 : Below w.heap.size w w2 := by
      first
        | exact b1.trans (hb2.mono b1.size)
        | exact b1.drew.trans (hb2.mono b1.size)
    have HB := Lib.hid b2
    clear b1 b2 hb hb2
    go_wp2
    first
      | exact bodyPost_ret (v := res r) (by simp [results, Tryd.results30, go_sem, hc2, hc, z1, res]) rfl ⟨rfl, two2 HB.out _ _⟩
      | exact bodyPost_ret (v := res r) (by simp [results, Tryd.results30, go_sem, hc2, hc, z1, res]) rfl ⟨rfl, (two2 HB.out _ _).drew⟩
theorem prefix_any (o : Tok) (ho : o ∈ uns ∨ o = [40]) (r : R3) (hr : Ok r.n r.d) (he : r.e = 0) (w : World) :
    Calls Tryd.prog 30 #[.string ⟨o.toArray⟩, .agg #[.int .i64 r.n, .int .i64 r.d]] w fun e w' => e = .returned (res (ap1 o r)) ∧ Below w.heap.size w w' := by
  have hi : I64 r.n := ⟨by have := hr.n1; omega, by have := hr.n2; omega⟩
  obtain ⟨a, p, e⟩ := r
  simp only at he
  subst he
  have : o = [45] ∨ o = [43] ∨ o = [110, 111, 116] ∨ o = [102, 108, 111, 111, 114] ∨ o = [40] := by
    rcases ho with h | h
    · simp only [uns, List.mem_cons, List.not_mem_nil, or_false] at h
      rcases h with h | h | h | h <;> simp [h]
    · exact .inr (.inr (.inr (.inr h)))
  rcases this with rfl | rfl | rfl | rfl | rfl
  · exact pre_minus a p hi w
  · exact pre_plus ⟨#[43]⟩ (.inl rfl) a p w
  · exact pre_not a p w
  · exact pre_floor a p w
  · exact pre_plus ⟨#[40]⟩ (.inr rfl) a p w
theorem apply_any (o : Tok) (ho : o ∈ allB) (r s : R3) (hs : Ok s.n s.d) (he : r.e = 0) (he2 : s.e = 0) (w : World) :
    Calls Tryd.prog 31 #[.string ⟨o.toArray⟩, .agg #[.int .i64 r.n, .int .i64 r.d], .agg #[.int .i64 s.n, .int .i64 s.d]] w fun e w' => e = .returned (res (ap2 o r s)) ∧ Below w.heap.size w w' := by
  have hi : I64 s.n := ⟨by have := hs.n1; omega, by have := hs.n2; omega⟩
  obtain ⟨a, p, e⟩ := r
  obtain ⟨b, q, e2⟩ := s
  simp only at he he2
  subst he he2
  simp only [allB, List.mem_cons, List.not_mem_nil, or_false] at ho
  rcases ho with rfl | rfl | rfl | rfl | rfl | rfl | rfl | rfl | rfl | rfl | rfl | rfl | rfl | rfl | rfl
  · exact ap_add a p b q w
  · exact ap_sub a p b q hi w
  · exact ap_mul a p b q w
  · exact ap_div a p b q w
  · exact ap_mod a p b q w
  · exact ap_rnd a p b q w
  · exact ap_pow a p b q w
  · exact ap_and a p b q w
  · exact ap_or a p b q w
  · exact ap_eq a p b q w
  · exact ap_ne a p b q w
  · exact ap_lt a p b q w
  · exact ap_gt a p b q w
  · exact ap_le a p b q w
  · exact ap_ge a p b q w
end Go.Proofs.YtfocokjihbenmaaDoor.Fo
