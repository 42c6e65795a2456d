/-
  The law on blanks and parentheses around a formula (P8.1, P8.3).
-/
import Derived.Test.YtfocokjihbenmaaDoorFoTape
import Derived.Test.YtfocokjihbenmaaDoorFoLaw
namespace Go.Proofs.YtfocokjihbenmaaDoor.Fo
open Go.RowKit Go.Proofs.YtfocokjihbenmaaDoor.Nu
set_option linter.unusedVariables false
set_option linter.unusedSimpArgs false

theorem Built_3 (w0 : World) (A : Option Addr) (n c b : Nat) (hs : Sl w0 A n c) (W : World) (h : Tp w0 A n c b W) :
    Calls Tryd.prog 11 #[.pointer (some ⟨b, 0, none⟩), .int .i64 3] W fun e W' => Bt w0 A n c b 3 e W' := built_any w0 A n c b hs 3 (by decide) W h
theorem EvB (s : ByteArray) (L : List UInt8) (h : s.data.toList = L) (n d x : Int) (hv : ev L = ⟨n, d, x⟩) (w : World) (ht : Tb w) : Calls Tryd.prog 8 #[.string s] w fun e w' => e = .returned (.tuple #[.agg #[.int .i64 n, .int .i64 d], .int .i64 x]) ∧ Below w.heap.size w w' := by
  have h2 := Eval_any s w ht
  rw [h, hv] at h2
  exact h2
set_option maxRecDepth 100000 in
set_option maxHeartbeats 4000000 in
theorem FormulaBlanks_any (A : Option Addr) (n c : Nat) (w : World) (hs : Sl w A n c) (ht : Tb w) : Calls Tryd.prog 4 #[.slice A n c] w fun e w' => e = .returned (.bool true) ∧ Below w.heap.size w w' := by
  have HS := Lib.hid hs
  have HT := Lib.hid ht
  clear hs ht
  go_enter Tryd.func4, Tryd.ntmps4
  go_wp2_with fail
  (with_reducible refine (New_any A n c _).mono ?_)
  rintro e w1 ⟨rfl, ht1⟩
  have H1 := Lib.hid ht1; clear ht1
  go_wp2_with fail
  (with_reducible refine (Built_3 w A n c w.heap.size HS.out _ H1.out).mono ?_)
  rintro e w2 ⟨ps, u, hu, hf, rfl, ht2⟩
  have hl : u.length ≤ 281 := hu ▸ Nat.le_trans hf.len (nB_le 3 (by decide))
  have hx := hf.txt (by decide) (by decide)
  have hb := hx.blanks
  have hp := hx.paren
  rw [hu] at hb hp
  obtain ⟨x, y, z, hV⟩ : ∃ x y z, ev u = ⟨x, y, z⟩ := ⟨_, _, _, rfl⟩
  rw [hV] at hb hp
  have HV := Lib.hid hV
  have HVb := Lib.hid hb
  have HVp := Lib.hid hp
  have HB2 := Lib.hid ht2.bl
  clear hV hb hp hx hf hu ht2 H1 HS
  go_wp2_with fail
  (with_reducible refine (EvB _ u (by simp) x y z HV.out _ (HT.out.below HB2.out)).mono ?_)
  rintro e w3 ⟨rfl, hb3⟩
  have HB3 := Lib.hid (HB2.out.trans (hb3.mono HB2.out.size)); clear hb3
  have HA3 := Lib.hid (HB3.out.alloc HB3.out.size (nb1 x y))
  go_wp2_with fail
  refine (EvB _ ([32, 10] ++ u ++ [9, 32]) (by simp) x y z HVb.out _ (HT.out.below HA3.out)).mono ?_
  rintro e w4 ⟨rfl, hb4⟩
  have p4 : w4.heap[w3.heap.size]? = some (nb1 x y) := (hb4.block _ (by simp)).trans (nhh _ _)
  have HB4 := Lib.hid (HA3.out.trans (hb4.mono HA3.out.size))
  have z4 := lth p4
  have HP4 := Lib.hid p4
  clear hb4 p4
  have HA4 := Lib.hid (HB4.out.alloc HB4.out.size (nb1 x y))
  go_wp2_with fail
  refine (EvB _ ([40] ++ u ++ [41]) (by simp) x y z HVp.out _ (HT.out.below HA4.out)).mono ?_
  rintro e w5 ⟨rfl, hb5⟩
  have q5 : w5.heap[w4.heap.size]? = some (nb1 x y) := (hb5.block _ (by simp)).trans (nhh _ _)
  have p5 : w5.heap[w3.heap.size]? = some (nb1 x y) := (hb5.block _ (by simp; omega)).trans ((Below.heap_alloc _ _ _ z4).trans HP4.out)
  have HB5 := Lib.hid (HA4.out.trans (hb5.mono HA4.out.size))
  have z5 := lth p5
  have z6 := lth q5
  obtain ⟨p50, p51⟩ := cc2 p5
  obtain ⟨q50, q51⟩ := cc2 q5
  have he : eqN x y x y = true := by simp [eqN]
  have HA5 := Lib.hid (HB5.out.alloc HB5.out.size (nb1 x y))
  have HK := Lib.hid (known_any (w5.alloc (nb1 x y)) (HT.out.below HA5.out))
  clear hb5 q5 p5
  unfold nb1 at HK
  have eqr := eq_num
  go_wp2_with fail
  refine HK.out.mono ?_
  rintro e w6 ⟨rfl, hb6⟩
  go_wp2
  go_ret
  exact ⟨rfl, HA5.out.trans (hb6.mono HA5.out.size)⟩
end Go.Proofs.YtfocokjihbenmaaDoor.Fo
