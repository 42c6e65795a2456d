/-
  The contract of the reference's token: the kinds that push, add or name.
-/
import Derived.Test.YtdojbnngdlmbgaaGreatDoorPaR2
import Derived.Test.YtdojbnngdlmbgaaGreatDoorTkText
import Derived.Test.YtdojbnngdlmbgaaGreatDoorTkR
namespace Go.Proofs.YtdojbnngdlmbgaaGreatDoor.Pa
open Go.RowKit Go.Proofs.YtdojbnngdlmbgaaGreatDoor.Tr
set_option linter.unusedVariables false

section
variable {gp : Nat} {w w' : World} {st : List Rl}
set_option maxRecDepth 100000 in
set_option maxHeartbeats 4000000 in
theorem token_easy (h : SP gp w st) {P L : Nat} (hG : Gst P L st) (s : ByteArray) (k : Nat) (f t : Int) (x : List UInt8) (hx : Tk.textOf s.data.toList f t = x) (hxl : x.length ≤ 8192) (hP : P ≤ 7800000) (hL : L ≤ 1900) (hk : k = 1 ∨ k = 2 ∨ k = 3 ∨ k = 5 ∨ k = 8 ∨ k = 9 ∨ k = 11) : Calls Tryz.prog 37 #[.pointer (some ⟨gp, 0, none⟩), .string s, .agg #[.int .i64 (k : Int), .int .i64 f, .int .i64 t]] w fun y w' => y = .returned (.tuple #[]) ∧ SP gp w' (takeR st k x (Tk.tagOf k x 3 1 : Nat)) ∧ Fq gp w w' := by
  have hne := hG.rt.ne
  have hpz := hG.pz
  have hln := hG.ln
  have h0 : 0 < st.length := List.length_pos_iff.2 hne
  obtain ⟨O, hO⟩ : ∃ O, Obj.cells #[Value.int .i64 (k : Int), .int .i64 f, .int .i64 t] 72 = O := ⟨_, rfl⟩
  obtain ⟨w1, hw1⟩ : ∃ w1, w.alloc O = w1 := ⟨_, rfl⟩
  have b1 : Below w.heap.size w w1 := by rw [← hw1]; exact (Below.refl _ _).alloc (Nat.le_refl _) _
  have h1 : w1.heap[w.heap.size]? = some O := by rw [← hw1]; exact heap_alloc_new w O
  rw [← hO] at h1
  have lt1 := (Array.getElem?_eq_some_iff.1 h1).1
  obtain ⟨X, hX⟩ : ∃ X : ByteArray, (⟨x.toArray⟩ : ByteArray) = X := ⟨_, rfl⟩
  have hXd : X.data.toList = x := by rw [← hX]
  have hXs : X.size = x.length := by rw [← hX]; simp [ByteArray.size]
  have TX := Tk.TextR_any s k f t w1
  rw [hx, hX] at TX
  replace TX := Lib.hid TX
  have z0 : w1.cell? ⟨w.heap.size, 0, none⟩ = some (.int .i64 (k : Int)) := cell_heap h1 rfl
  have z1 : w1.cell? ⟨w.heap.size, 1, none⟩ = some (.int .i64 f) := cell_heap h1 rfl
  have z2 : w1.cell? ⟨w.heap.size, 2, none⟩ = some (.int .i64 t) := cell_heap h1 rfl
  have H := Lib.hid (And.intro h (And.intro hG (And.intro b1 (And.intro h1 (And.intro lt1 hXd)))))
  have HB := Lib.hid (And.intro hpz (And.intro hln (And.intro h0 (And.intro hXs hxl))))
  clear h hG b1 h1 lt1 hXd hpz hln h0 hX hXs hxl
  go_enter Tryz.func37, Tryz.ntmps37
  go_wp2_with fail
  refine TX.out.mono ?_
  rintro y w2 ⟨rfl, b2⟩
  obtain ⟨h, hG, b1, h1, lt1, hXd⟩ := H.out
  obtain ⟨hpz, hln, h0, hXs, hxl⟩ := HB.out
  have h2 := (b2.block _ lt1).trans h1
  have e0 : w2.cell? ⟨w.heap.size, 0, none⟩ = some (.int .i64 (k : Int)) := cell_heap h2 rfl
  have e1 : w2.cell? ⟨w.heap.size, 1, none⟩ = some (.int .i64 f) := cell_heap h2 rfl
  have e2 : w2.cell? ⟨w.heap.size, 2, none⟩ = some (.int .i64 t) := cell_heap h2 rfl
  obtain ⟨S2, F2⟩ := h.keep (b1.trans (b2.mono (Nat.le_of_lt lt1)))
  have X1 := Lib.hid hXd
  clear z0 z1 z2
  rcases hk with rfl | rfl | rfl | rfl | rfl | rfl | rfl
  · have R := Lib.hid (text_r S2 hne X (by omega) (by omega))
    have F := Lib.hid F2
    clear S2 F2 h hG b1 h1 lt1 hXd hpz hln h0 hXs hxl h2 b2
    go_wp2_with fail
    refine R.out.mono ?_
    rintro y w3 ⟨rfl, s3, f3⟩
    have Q := Lib.hid (And.intro s3 (F.out.trans f3))
    clear s3 f3
    go_wp2_with fail
    go_end0
    refine ⟨rfl, ?_, Q.out.2⟩
    have := Q.out.1
    rw [X1.out] at this
    exact this
  · have R := Lib.hid (text_r S2 hne X (by omega) (by omega))
    have F := Lib.hid F2
    clear S2 F2 h hG b1 h1 lt1 hXd hpz hln h0 hXs hxl h2 b2
    go_wp2_with fail
    refine R.out.mono ?_
    rintro y w3 ⟨rfl, s3, f3⟩
    have Q := Lib.hid (And.intro s3 (F.out.trans f3))
    clear s3 f3
    go_wp2_with fail
    go_end0
    refine ⟨rfl, ?_, Q.out.2⟩
    have := Q.out.1
    rw [X1.out] at this
    exact this
  · have R := opening_r S2 h0 (v := .agg #[.int .i64 3, .int .i64 0, .int .i64 (X.size : Int), .slice none 0 0, .slice none 0 0]) (e := ⟨3, 0, X.size, [], []⟩) ⟨_, _, rfl, LX.nil _ _, AX.nil _ _⟩ X (by omega) (by omega)
    rw [hXd] at R
    have HX := Lib.hid (show takeR st 3 x (Tk.tagOf ((3 : Nat) : Int) x 3 1 : Nat) = pushR st ⟨3, 0, X.size, [], []⟩ x by rw [hXs]; rfl)
    replace R := Lib.hid R
    have F := Lib.hid F2
    clear S2 F2 h hG b1 h1 lt1 hXd hpz hln h0 hXs hxl h2 b2
    go_wp2_with fail
    refine R.out.mono ?_
    rintro y w3 ⟨rfl, s3, f3⟩
    have Q := Lib.hid (And.intro s3 (F.out.trans f3))
    clear s3 f3
    go_wp2_with fail
    go_end0
    exact ⟨rfl, by rw [HX.out]; exact Q.out.1, Q.out.2⟩
  · have R := opening_r S2 h0 (v := .agg #[.int .i64 1, .int .i64 0, .int .i64 0, .slice none 0 0, .slice none 0 0]) (e := ⟨1, 0, 0, [], []⟩) ⟨_, _, rfl, LX.nil _ _, AX.nil _ _⟩ X (by omega) (by omega)
    rw [hXd] at R
    replace R := Lib.hid R
    have F := Lib.hid F2
    clear S2 F2 h hG b1 h1 lt1 hXd hpz hln h0 hXs hxl h2 b2
    go_wp2_with fail
    refine R.out.mono ?_
    rintro y w3 ⟨rfl, s3, f3⟩
    have Q := Lib.hid (And.intro s3 (F.out.trans f3))
    clear s3 f3
    go_wp2_with fail
    go_end0
    exact ⟨rfl, Q.out.1, Q.out.2⟩
  · obtain ⟨e, r, rfl⟩ : ∃ e r, st = e :: r := ⟨_, _, (List.cons_head_tail hne).symm⟩
    have R := Lib.hid (equal_r S2 (by omega) (by simp only [List.length_cons] at hln; omega))
    have F := Lib.hid F2
    clear S2 F2 h hG b1 h1 lt1 hXd hpz hln h0 hXs hxl h2 b2 hne
    go_wp2_with fail
    refine R.out.mono ?_
    rintro y w3 ⟨rfl, s3, f3⟩
    have Q := Lib.hid (And.intro s3 (F.out.trans f3))
    clear s3 f3
    go_wp2_with fail
    go_end0
    exact ⟨rfl, Q.out.1, Q.out.2⟩
  · have R := Lib.hid (node_r S2 hne (nv := .agg #[.int .i64 2, .int .i64 0, .string X, .slice none 0 0, .slice none 0 0]) (n := .mk 2 0 X [] []) ⟨_, _, rfl, LX.nil _ _, AX.nil _ _, by show Fit 2; unfold Fit; omega, by show Fit 0; unfold Fit; omega⟩ (by
      have : szN (.mk 2 0 X [] []) = 1 + X.size := by rw [szN_eq]; simp [Nd.text, Nd.kids, Nd.args, sz_nil, szA_nil]
      omega) (by omega))
    have HX := Lib.hid (show takeR st 9 x (Tk.tagOf ((9 : Nat) : Int) x 3 1 : Nat) = nodeR st (.mk 2 0 X [] []) by rw [← hXd]; rfl)
    have F := Lib.hid F2
    clear S2 F2 h hG b1 h1 lt1 hXd hpz hln h0 hXs hxl h2 b2
    go_wp2_with fail
    refine R.out.mono ?_
    rintro y w3 ⟨rfl, s3, f3⟩
    have Q := Lib.hid (And.intro s3 (F.out.trans f3))
    clear s3 f3
    go_wp2_with fail
    go_end0
    exact ⟨rfl, by rw [HX.out]; exact Q.out.1, Q.out.2⟩
  · have TG := Tk.TagR_any s (11 : Nat) f t w2
    rw [hx] at TG
    replace TG := Lib.hid TG
    have HH := Lib.hid (And.intro S2 (And.intro F2 (And.intro hXd (And.intro hpz (And.intro hln (And.intro h0 (And.intro hXs hxl)))))))
    clear S2 F2 h hG b1 h1 lt1 hXd hpz hln h0 hXs hxl h2 b2
    go_wp2_with fail
    refine TG.out.mono ?_
    rintro y w3 ⟨rfl, b3⟩
    obtain ⟨S2, F2, hXd, hpz, hln, h0, hXs, hxl⟩ := HH.out
    obtain ⟨S3, F3⟩ := S2.keep b3
    have R := opening_r S3 h0 (v := .agg #[.int .i64 2, .int .i64 (Tk.tagOf (11 : Nat) x 3 1 : Nat), .int .i64 0, .slice none 0 0, .slice none 0 0]) (e := ⟨2, (Tk.tagOf (11 : Nat) x 3 1 : Nat), 0, [], []⟩) ⟨_, _, rfl, LX.nil _ _, AX.nil _ _⟩ X (by omega) (by omega)
    rw [hXd] at R
    replace R := Lib.hid R
    have F := Lib.hid (F2.trans F3)
    clear S2 F2 S3 F3 hXd hpz hln h0 hXs hxl b3
    go_wp2_with fail
    refine R.out.mono ?_
    rintro y w4 ⟨rfl, s3, f3⟩
    have Q := Lib.hid (And.intro s3 (F.out.trans f3))
    clear s3 f3
    go_wp2_with fail
    go_end0
    exact ⟨rfl, Q.out.1, Q.out.2⟩
end
end Go.Proofs.YtdojbnngdlmbgaaGreatDoor.Pa
