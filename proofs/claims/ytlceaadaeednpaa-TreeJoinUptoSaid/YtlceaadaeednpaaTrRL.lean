/-
  The contract of the reference's Join.
-/
import Derived.Test.YtlceaadaeednpaaTrR11
namespace Go.Proofs.Ytlceaadaeednpaa.Tr
open Go.RowKit
set_option linter.unusedVariables false

theorem start3j {a : Act} {i1 i2 i3 : Nat} {v1 v2 v3 : Value} {j : Nat} {v : Value} (h : lk [(i1, v1), (i2, v2), (i3, v3)] j = some v) (h1 : a.tmps.getD i1 undef = v1) (h2 : a.tmps.getD i2 undef = v2) (h3 : a.tmps.getD i3 undef = v3) : a.tmps.getD j undef = v := by
  simp only [lk] at h
  split at h
  · rename_i e; rw [← Nat.eq_of_beq_eq_true e, h1]; exact Option.some.inj h
  · split at h
    · rename_i e; rw [← Nat.eq_of_beq_eq_true e, h2]; exact Option.some.inj h
    · split at h
      · rename_i e; rw [← Nat.eq_of_beq_eq_true e, h3]; exact Option.some.inj h
      · cases h
theorem start1 {a : Act} {i1 : Nat} {v1 : Value} {j : Nat} {v : Value} (h : lk [(i1, v1)] j = some v) (h1 : a.tmps.getD i1 undef = v1) : a.tmps.getD j undef = v := by
  simp only [lk] at h
  split at h
  · rename_i e; rw [← Nat.eq_of_beq_eq_true e, h1]; exact Option.some.inj h
  · cases h
theorem ba_dl (a : ByteArray) : a.toList = a.data.toList := by rw [ByteArray.toList_eq]
theorem eq_tr : ∀ x y z : World, y = x → z = y → z = x := fun _ _ _ h k => k.trans h
structure Rj (d : Nat) (w : World) (v : Value) (out : List Nd) (wr : World) : Prop where
  bl : Below w.heap.size w wr
  row : RowN d w.heap.size wr v out
theorem Rj.below {d : Nat} {w : World} {v : Value} {out : List Nd} {wr w' : World} (h : Rj d w v out wr) (hb : Below wr.heap.size wr w') : Rj d w v out w' := ⟨h.bl.trans (hb.mono h.bl.size), h.row.below hb⟩
theorem Rj.app {d : Nat} {w : World} {v : Value} {out : List Nd} {W : World} (ty : TypeId) (h : Rj d w v out W) (hl : out.length ≤ 33554432) {b : Nat} {k t : Int} {s : ByteArray} {vk va : Value} {n : List Nd} {x : List Ar} (hb : W.heap[b]? = some (.cells #[.int .i64 k, .int .i64 t, .string s, vk, va] 31)) (f1 : Fit k) (f2 : Fit t) (hn : LRx d W (Out w.heap.size W v.ownBlock) vk n) (hx : ARx d W (Out w.heap.size W v.ownBlock) va x) :
    ∃ A c w', (Builtin.append_ #[22, 22] ty #[v, .slice (some ⟨b, 0, none⟩) 1 1]).run Try.prog W = .ok (.slice A (out.length + 1) c) w' ∧ Rj d w (.slice A (out.length + 1) c) (out ++ [.mk k t s n x]) w' := by
  obtain ⟨g, cap, w', r1, G, r2⟩ := h.row.app ty hl h.bl.size hb f1 f2 hn hx
  exact ⟨_, cap, w', r1, ⟨h.bl.grown G.gr h.bl.size (fun q e => by obtain ⟨ys, o, _⟩ := h.row; exact (own_lt o q e).1), r2⟩⟩
set_option maxRecDepth 100000 in
set_option maxHeartbeats 16000000 in
theorem RJoin_step (d : Nat) (hJ : JnL 10 d) : JnL 10 (d + 1) := by
  intro B v l w h hB
  have hz := h.1
  obtain ⟨A, c, rfl, ha1, ha2, hln, R⟩ := h.open
  have R' := Lib.hid R; clear R h
  go_enter Try.func10, Try.ntmps10
  go_wp2_with fail
  go_loopw [3, 4] (fun v i wr => ∃ k : Nat, k ≤ l.length ∧ i = .int .i64 k ∧ Hid (Rj (d + 1) w v (foR (l.take k)) wr)) (fun _ i _ => l.length - (intOf i).toNat)
  case atStart => exact ⟨0, Nat.zero_le _, rfl, Lib.hid ⟨Below.refl _ _, RowN.nil _ _ _⟩⟩
  case round =>
    obtain ⟨k, hk, rfl, hS⟩ := hrel
    have hlen := foR_len l k
    by_cases hlt : k < l.length
    · obtain ⟨g, o, rfl, hg, q⟩ := R'.out (by omega)
      obtain ⟨vk, va, x1, x2, x3, x4, x5, f1, f2, x6, x7⟩ := q k l[k] (List.getElem?_eq_getElem hlt)
      have RA := Lib.hid (ARd.open (d := d) x7)
      have hza := x7.1
      obtain ⟨Ak, ck, rfl⟩ := x6.form
      obtain ⟨Aa, ca, rfl⟩ := ARd.form (d := d) x7
      have hcell : ∀ i, wr.cell? ⟨g, i, none⟩ = w.cell? ⟨g, i, none⟩ := fun i => hS.out.bl.cell (by show g < _; omega)
      rw [← hcell] at x1 x2 x3 x4 x5
      clear q hcell x7
      have hts : l[k].text.size ≤ 16777216 := by
        have h1 := sz_mem (List.getElem_mem hlt)
        rw [szN_eq] at h1; omega
      have HO := Lib.hid (foR_other hlt); have HE := Lib.hid (foR_empty hlt); have HN := Lib.hid (foR_new hlt)
      have HM : Hid (∀ {out : List Nd} {x : List UInt8}, l[k].kind = 1 → x ≠ [] → foJ (l.take k) = (out, x) → foR (l.take (k + 1)) = out ++ [txN ⟨(x ++ l[k].text.data.toList).toArray⟩]) := Lib.hid (fun a b c => foR_more hlt a b c)
      have HC := Lib.hid (foR_cases (l.take k))
      have X6 := Lib.hid x6; clear x6
      generalize l[k] = nd at *
      obtain ⟨kd, tg, tx, ks, rs⟩ := nd
      simp only [Nd.kind, Nd.tag, Nd.text, Nd.kids, Nd.args] at x1 x2 x3 x4 x5 hts f1 f2 X6 HO HE HN HM hza RA
      generalize hfo : foR (l.take k) = fo at *
      clear hfo
      obtain ⟨A3, c3, rfl, hl1, hl2⟩ := hS.out.row.form
      by_cases h1 : kd = 1
      · subst h1
        by_cases he : tx.size = 0
        · have et : tx = ⟨#[]⟩ := by apply ByteArray.ext; apply Array.ext'; exact empty_list he
          subst et
          have HS2 := Lib.hid (hS.out.below ((Below.refl wr.heap.size wr).alloc (Nat.le_refl _) (Obj.cells #[Value.int .i64 1, Value.int .i64 tg, Value.string ⟨#[]⟩, Value.slice Ak ks.length ck, Value.slice Aa rs.length ca] 31)))
          go_wp2_with fail
          go_roundw
          case rel => exact ⟨k + 1, by omega, by go_num, Lib.hid (by rw [HE.out rfl rfl]; exact HS2.out)⟩
          case measure => exact meas hlt
        · have hs3 : ¬ tx.toList = [] := fun e => he (by have h5 : tx.data.toList = [] := (by rw [← e]; exact (ba_dl tx).symm); rw [ba_sizeJ, h5]; rfl)
          have hs4 : tx.toList.isEmpty = false := by simpa using hs3
          have hs5 : (tx.toList == []) = false := by simpa using hs3
          have HS2 := Lib.hid (hS.out.below ((Below.refl wr.heap.size wr).alloc (Nat.le_refl _) (Obj.cells #[Value.int .i64 1, Value.int .i64 tg, Value.string tx, Value.slice Ak ks.length ck, Value.slice Aa rs.length ca] 31)))
          have HSB := Lib.hid (hS.out.below ((Below.refl wr.heap.size wr).alloc (Nat.le_refl _) (Obj.cells #[Value.int .i64 1, Value.int .i64 tg, Value.string tx, Value.slice Ak ks.length ck, Value.slice Aa rs.length ca] 31)).drew)
          rcases HC.out with ⟨out, x, hx, hf, e⟩ | ⟨hnt, hx, _⟩
          · subst e
            have hel : (out ++ [txN ⟨x.toArray⟩]).length = out.length + 1 := by simp
            obtain ⟨g9, cap, e9, hc9, hc10, hg9, hg10, y0, y2, y3⟩ := hS.out.row.last
            obtain ⟨rfl, _, rfl⟩ := slice_eq e9
            rw [hel] at hl1 HS2 hlen ⊢
            simp only [txN, Nd.kind, Nd.text] at y0 y2
            have HM2 := Lib.hid (HM.out rfl hx hf)
            have hxs : x.length ≤ 16777216 := by
              have h5 := foJ_len l k
              rw [hf] at h5
              simp only at h5
              omega
            have HSZ : Hid ((⟨x.toArray⟩ : ByteArray).size + tx.size ≤ 9223372036854775807) := Lib.hid (by have : (⟨x.toArray⟩ : ByteArray).size = x.length := (by simp [ByteArray.size]); omega)
            rw [hel] at HSB
            generalize g9 = g at *
            clear e9 hel
            go_wp2_with fail
            have HCX : Hid ((wr.alloc (Obj.cells #[Value.int .i64 1, Value.int .i64 tg, Value.string tx, Value.slice Ak ks.length ck, Value.slice Aa rs.length ca] 31)).drew.cell? ⟨g, out.length * 5 + 2, none⟩ = some (.string ⟨x.toArray⟩) ∧ (wr.alloc (Obj.cells #[Value.int .i64 1, Value.int .i64 tg, Value.string tx, Value.slice Ak ks.length ck, Value.slice Aa rs.length ca] 31)).drew.cell? ⟨wr.heap.size, 2, none⟩ = some (.string tx) ∧ (wr.alloc (Obj.cells #[Value.int .i64 1, Value.int .i64 tg, Value.string tx, Value.slice Ak ks.length ck, Value.slice Aa rs.length ca] 31)).drew.frozen? ⟨g, out.length * 5 + 2, none⟩ = false) := Lib.hid ⟨(((Below.refl wr.heap.size wr).alloc (Nat.le_refl _) _).drew.cell (p := ⟨g, out.length * 5 + 2, none⟩) hg10).trans y2, cell_heap (heap_alloc_new wr _) rfl, (((Below.refl wr.heap.size wr).alloc (Nat.le_refl _) _).drew.frozen (p := ⟨g, out.length * 5 + 2, none⟩) hg10).trans y3⟩
            clear x1 x2 x3 x4 x5 y0 y2 y3
            refine region_ki (fun u v => v = u) rfl [37, 38, 39, 40, 41, 42, 43, 44, 45, 46, 47, 48, 49, 50] [37, 38, 39, 40, 41, 42, 43, 44, 45, 46, 47, 48, 49, 50, 51, 52] [(3, .slice (some ⟨g, 0, none⟩) (out.length + 1) c3), (5, .pointer (some ⟨wr.heap.size, 0, none⟩))] (fun i v _ => [.slice (some ⟨g, 0, none⟩) (out.length + 1) c3, .slice (some ⟨g, 0, none⟩) (out.length + 1) c3, .int .i64 ((out.length + 1 : Nat) : Int), .int .i64 (out.length : Int), .slice (some ⟨g, 0, none⟩) (out.length + 1) c3, .slice (some ⟨g, 0, none⟩) (out.length + 1) c3, .int .i64 ((out.length + 1 : Nat) : Int), .int .i64 (out.length : Int), .pointer (some ⟨g, out.length * 5, none⟩), .pointer (some ⟨g, out.length * 5 + 2, none⟩), .string ⟨x.toArray⟩, .pointer (some ⟨wr.heap.size, 2, none⟩), .string tx, .string (⟨x.toArray⟩ ++ tx)][i]? = some v) (by kernel_rfl) (n := 14) (by kernel_rfl) (by kernel_rfl) (fun j v hj => start2 hj rfl rfl) ?_
            generalize hwx : wr.alloc (Obj.cells #[Value.int .i64 1, Value.int .i64 tg, Value.string tx, Value.slice Ak ks.length ck, Value.slice Aa rs.length ca] 31) = wx at *
            intro l0 ds hl0 hds hT
            have HL0 := Lib.hid hl0; have HDS := Lib.hid hds; clear hl0 hds
            refine ⟨?_, ?_⟩
            · intro i hi S a w' hI hd
              have ew : w' = wx.drew := hI.bl
              have c2 : w'.cell? ⟨g, out.length * 5 + 2, none⟩ = some (.string ⟨x.toArray⟩) := by rw [ew]; exact HCX.out.1
              have c7 : w'.cell? ⟨wr.heap.size, 2, none⟩ = some (.string tx) := by rw [ew]; exact HCX.out.2.1
              clear ew
              match i, hi with
              | 0, _ =>
                exact head_value hI hT eq_tr (fun _ _ _ _ h _ => h) 0 37 rfl rfl rfl rfl (x_move rfl (hI.lt.eval 3 rfl)) rfl rfl
              | 1, _ =>
                exact head_value hI hT eq_tr (fun _ _ _ _ h _ => h) 1 38 rfl rfl rfl rfl (x_move rfl (hI.lt.eval 3 rfl)) rfl rfl
              | 2, _ =>
                have k1 : a.eval (.tmp 38) = .slice (some ⟨g, 0, none⟩) (out.length + 1) c3 := (Option.some.inj (hI.known 1 38 (hd 1 (by kernel_rfl)) rfl)).symm
                exact head_value hI hT eq_tr (fun _ _ _ _ h _ => h) 2 39 rfl rfl rfl rfl (x_lenN (t := #[]) rfl k1) rfl rfl
              | 3, _ =>
                have k2 : a.eval (.tmp 39) = .int .i64 ((out.length + 1 : Nat) : Int) := (Option.some.inj (hI.known 2 39 (hd 2 (by kernel_rfl)) rfl)).symm
                exact head_value hI hT eq_tr (fun _ _ _ _ h _ => h) 3 40 rfl rfl rfl rfl (x_sub1 rfl (by omega) rfl k2) rfl rfl
              | 4, _ =>
                exact head_value hI hT eq_tr (fun _ _ _ _ h _ => h) 4 41 rfl rfl rfl rfl (x_move rfl (hI.lt.eval 3 rfl)) rfl rfl
              | 5, _ =>
                exact head_value hI hT eq_tr (fun _ _ _ _ h _ => h) 5 42 rfl rfl rfl rfl (x_move rfl (hI.lt.eval 3 rfl)) rfl rfl
              | 6, _ =>
                have k5 : a.eval (.tmp 42) = .slice (some ⟨g, 0, none⟩) (out.length + 1) c3 := (Option.some.inj (hI.known 5 42 (hd 5 (by kernel_rfl)) rfl)).symm
                exact head_value hI hT eq_tr (fun _ _ _ _ h _ => h) 6 43 rfl rfl rfl rfl (x_lenN (t := #[]) rfl k5) rfl rfl
              | 7, _ =>
                have k6 : a.eval (.tmp 43) = .int .i64 ((out.length + 1 : Nat) : Int) := (Option.some.inj (hI.known 6 43 (hd 6 (by kernel_rfl)) rfl)).symm
                exact head_value hI hT eq_tr (fun _ _ _ _ h _ => h) 7 44 rfl rfl rfl rfl (x_sub1 rfl (by omega) rfl k6) rfl rfl
              | 8, _ =>
                have k4 : a.eval (.tmp 41) = .slice (some ⟨g, 0, none⟩) (out.length + 1) c3 := (Option.some.inj (hI.known 4 41 (hd 4 (by kernel_rfl)) rfl)).symm
                have k7 : a.eval (.tmp 44) = .int .i64 (out.length : Int) := (Option.some.inj (hI.known 7 44 (hd 7 (by kernel_rfl)) rfl)).symm
                exact head_value hI hT eq_tr (fun _ _ _ _ h _ => h) 8 45 rfl rfl rfl rfl (x_indexN rfl k4 k7 (by omega)) rfl rfl
              | 9, _ =>
                have k8 : a.eval (.tmp 45) = .pointer (some ⟨g, out.length * 5, none⟩) := (Option.some.inj (hI.known 8 45 (hd 8 (by kernel_rfl)) rfl)).symm
                exact head_value hI hT eq_tr (fun _ _ _ _ h _ => h) 9 46 rfl rfl rfl rfl (x_fieldN 2 (by decide) rfl k8) rfl rfl
              | 10, _ =>
                have k9 : a.eval (.tmp 46) = .pointer (some ⟨g, out.length * 5 + 2, none⟩) := (Option.some.inj (hI.known 9 46 (hd 9 (by kernel_rfl)) rfl)).symm
                exact head_value hI hT eq_tr (fun _ _ _ _ h _ => h) 10 47 rfl rfl rfl rfl (x_loadS rfl k9 c2) rfl rfl
              | 11, _ =>
                exact head_value hI hT eq_tr (fun _ _ _ _ h _ => h) 11 48 rfl rfl rfl rfl (x_fieldN 2 (by decide) rfl (hI.lt.eval 5 rfl)) rfl rfl
              | 12, _ =>
                have k11 : a.eval (.tmp 48) = .pointer (some ⟨wr.heap.size, 2, none⟩) := (Option.some.inj (hI.known 11 48 (hd 11 (by kernel_rfl)) rfl)).symm
                exact head_value hI hT eq_tr (fun _ _ _ _ h _ => h) 12 49 rfl rfl rfl rfl (x_loadS rfl k11 c7) rfl rfl
              | 13, _ =>
                have k10 : a.eval (.tmp 47) = .string ⟨x.toArray⟩ := (Option.some.inj (hI.known 10 47 (hd 10 (by kernel_rfl)) rfl)).symm
                have k12 : a.eval (.tmp 49) = .string tx := (Option.some.inj (hI.known 12 49 (hd 12 (by kernel_rfl)) rfl)).symm
                exact head_value hI hT eq_tr (fun _ _ _ _ h _ => h) 13 50 rfl rfl rfl rfl (x_addS rfl HSZ.out k10 k12) rfl rfl
            · intro a w' hL hb hk
              subst hb
              have k0 : a.eval (.tmp 37) = .slice (some ⟨g, 0, none⟩) (out.length + 1) c3 := (Option.some.inj (hk 0 37 (by decide) rfl)).symm
              have k3 : a.eval (.tmp 40) = .int .i64 (out.length : Int) := (Option.some.inj (hk 3 40 (by decide) rfl)).symm
              have k13 : a.eval (.tmp 50) = .string (⟨x.toArray⟩ ++ tx) := (Option.some.inj (hk 13 50 (by decide) rfl)).symm
              have hn107 : l0.length = 107 := by rw [HL0.out]; rfl
              refine any_val 14 51 rfl rfl rfl (by kernel_rfl) (x_indexN rfl k0 k3 (by omega)) ?_
              have hL2 := (hL.add k13).put 51 (.pointer (some ⟨g, out.length * 5, none⟩)) (by decide) (by omega)
              refine any_val 15 52 rfl rfl rfl (by kernel_rfl) (x_fieldN 2 (by decide) rfl (hL2.eval 51 rfl)) ?_
              have hL3 := hL2.put 52 (.pointer (some ⟨g, out.length * 5 + 2, none⟩)) (by decide) (by omega)
              refine any_store 16 rfl rfl rfl (by kernel_rfl) (x_storeS rfl (hL3.eval 52 rfl) (hL3.eval 50 rfl) HCX.out.1 HCX.out.2.2) ?_
              generalize (a.put (some 51) (.pointer (some ⟨g, out.length * 5, none⟩))).put (some 52) (.pointer (some ⟨g, out.length * 5 + 2, none⟩)) = a9 at hL3 ⊢
              clear hL2 hL hk k0 k3 k13
              obtain ⟨u, rfl, _⟩ := hL3.lit
              rw [HL0.out, HDS.out]
              clear hL3 HL0 HDS hn107 hT
              simp only [setAll, List.set_cons_zero, List.set_cons_succ]
              refine wpAny_done (by kernel_rfl) ?_ _
              have HR : Hid (Rj (d + 1) w (.slice (some ⟨g, 0, none⟩) (out.length + 1) c3) (out ++ [txN ⟨(x ++ tx.data.toList).toArray⟩]) (wx.drew.setCell ⟨g, out.length * 5 + 2, none⟩ (.string (⟨x.toArray⟩ ++ tx)))) := Lib.hid (by
                have e1 : (⟨x.toArray⟩ : ByteArray) ++ tx = ⟨(x ++ tx.data.toList).toArray⟩ := by
                  apply ByteArray.ext; rw [ByteArray.data_append]; apply Array.ext'; simp
                refine ⟨HSB.out.bl.setCell (by show _ ≤ g; omega) _, ?_⟩
                rw [e1]
                exact HSB.out.row.setText)
              go_wp2_with fail
              go_roundw
              case rel => exact ⟨k + 1, by omega, by go_num, Lib.hid (by rw [HM2.out]; exact HR.out)⟩
              case measure => exact meas hlt
          · have HN2 := Lib.hid (HN.out rfl he hx)
            have HW2 := Lib.hid (HS2.out.below ((Below.refl (wr.alloc (Obj.cells #[Value.int .i64 1, Value.int .i64 tg, Value.string tx, Value.slice Ak ks.length ck, Value.slice Aa rs.length ca] 31)).heap.size (wr.alloc (Obj.cells #[Value.int .i64 1, Value.int .i64 tg, Value.string tx, Value.slice Ak ks.length ck, Value.slice Aa rs.length ca] 31))).alloc (Nat.le_refl _) (Obj.cells #[Value.int .i64 1, Value.int .i64 0, Value.string tx, Value.slice none 0 0, Value.slice none 0 0] 31)))
            obtain ⟨A9, c9, w9, hr9, hj9⟩ := HW2.out.app 22 (b := wr.heap.size + 1) (by omega) (heap_alloc2_new wr _ _) (by unfold Fit; omega) (by unfold Fit; omega) (LRx_nil d _ _ 0 none (Nat.zero_le _)) (ARx_nil (d + 1) _ _ 0 none (Nat.zero_le _))
            have P1 := Lib.hid hr9; have HJ9 := Lib.hid hj9; clear hr9 hj9
            rcases List.eq_nil_or_concat fo with e | ⟨o', m, e⟩
            · subst e
              simp only [List.length_nil] at hl1 P1 ⊢
              go_wp2_with (at_builtin; refine wpList_app P1.out rfl (.tmp 53) (.tmp 57) rfl rfl rfl rfl ?_; clear P1)
              go_roundw
              case rel => exact ⟨k + 1, by omega, by go_num, Lib.hid (by rw [HN2.out]; exact HJ9.out)⟩
              case measure => exact meas hlt
            · rw [List.concat_eq_append] at e
              subst e
              have hel : (o' ++ [m]).length = o'.length + 1 := by simp
              obtain ⟨g9, cap, e9, hc9, hc10, hg9, hg10, y0, y2, y3⟩ := hS.out.row.last
              obtain ⟨rfl, _, rfl⟩ := slice_eq e9
              rw [hel] at hl1 hlen P1 HJ9 ⊢
              have hmk := hnt m (by simp)
              have hmk2 : (m.kind == 1) = false := by simpa using hmk
              clear e9 y2 y3
              go_wp2_with (at_builtin; refine wpList_app P1.out rfl (.tmp 53) (.tmp 57) rfl rfl rfl rfl ?_; clear P1)
              go_roundw
              case rel => exact ⟨k + 1, by omega, by go_num, Lib.hid (by rw [HN2.out]; exact HJ9.out)⟩
              case measure => exact meas hlt
      · skip
        have e1 : (kd == 1) = false := by simpa using h1
        have HO2 := Lib.hid (HO.out h1)
        go_wp2_with fail
        clear x1 x2 x3 x4 x5
        have hA : (wr.alloc (Obj.cells #[Value.int .i64 kd, Value.int .i64 tg, Value.string tx, Value.slice Ak ks.length ck, Value.slice Aa rs.length ca] 31)).heap.size = wr.heap.size + 1 := by simp
        have hbA : Below wr.heap.size wr (wr.alloc (Obj.cells #[Value.int .i64 kd, Value.int .i64 tg, Value.string tx, Value.slice Ak ks.length ck, Value.slice Aa rs.length ca] 31)).drew := ((Below.refl wr.heap.size wr).alloc (Nat.le_refl _) _).drew
        have h7A : (wr.alloc (Obj.cells #[Value.int .i64 kd, Value.int .i64 tg, Value.string tx, Value.slice Ak ks.length ck, Value.slice Aa rs.length ca] 31)).drew.heap[wr.heap.size]? = some (Obj.cells #[Value.int .i64 kd, Value.int .i64 tg, Value.string tx, Value.slice Ak ks.length ck, Value.slice Aa rs.length ca] 31) := heap_alloc_new wr _
        refine region_ki2 (MS (d + 1) (wr.heap.size + 1) kd tg tx ks) ⟨fun h => (by cases h), fun h => (by cases h)⟩ Bl (Below.refl _ _) [59, 60, 61, 62, 63, 64, 65, 66, 67, 68, 6] [59, 60, 61, 62, 63, 64, 65, 66, 67, 68, 6] [(5, .pointer (some ⟨wr.heap.size, 0, none⟩))] (FS (d + 1) (wr.heap.size + 1) wr.heap.size kd tg tx (.slice Ak ks.length ck) ks) (by kernel_rfl) (n := 11) (by kernel_rfl) (by kernel_rfl) (fun j v hj => start1 hj rfl) ?_
        generalize hwx : wr.alloc (Obj.cells #[Value.int .i64 kd, Value.int .i64 tg, Value.string tx, Value.slice Ak ks.length ck, Value.slice Aa rs.length ca] 31) = wx at *
        clear hwx
        intro l0 ds hl0 hds hT
        have HL0 := Lib.hid hl0; have HDS := Lib.hid hds; clear hl0 hds
        have hn107 : l0.length = 107 := by rw [HL0.out]; rfl
        refine ⟨?_, ?_⟩
        · intro i hi S a w' hI hM hd hSi
          have hb' : Below wx.heap.size wx.drew w' := hI.bl
          have hsz : wr.heap.size + 1 ≤ w'.heap.size := by have := hb'.size; rw [← hA]; exact this
          have hbr : Below wr.heap.size wr w' := hbA.trans (hb'.mono (by omega))
          have hbw : Below w.heap.size w w' := hS.out.bl.trans (hbr.mono hS.out.bl.size)
          have h7 : w'.heap[wr.heap.size]? = some (Obj.cells #[Value.int .i64 kd, Value.int .i64 tg, Value.string tx, Value.slice Ak ks.length ck, Value.slice Aa rs.length ca] 31) := (hb'.block _ (by omega)).trans h7A
          match i, hi with
          | 0, _ =>
            exact head_value2 hI hT Bl.tr FS.st 0 59 rfl rfl rfl rfl (x_fieldN 0 (by decide) rfl (hI.lt.eval 5 rfl)) (Below.refl _ _) rfl (hM.other _ (by decide) (by decide))
          | 1, _ =>
            have k0 : a.eval (.tmp 59) = .pointer (some ⟨wr.heap.size, 0, none⟩) := hI.known 0 59 (hd 0 (by kernel_rfl)) rfl
            exact head_value2 hI hT Bl.tr FS.st 1 60 rfl rfl rfl rfl (x_loadI rfl k0 (cell_heap h7 rfl)) (Below.refl _ _) rfl (hM.other _ (by decide) (by decide))
          | 2, _ =>
            exact head_value2 hI hT Bl.tr FS.st 2 61 rfl rfl rfl rfl (x_fieldN 1 (by decide) rfl (hI.lt.eval 5 rfl)) (Below.refl _ _) rfl (hM.other _ (by decide) (by decide))
          | 3, _ =>
            have k2 : a.eval (.tmp 61) = .pointer (some ⟨wr.heap.size, 1, none⟩) := hI.known 2 61 (hd 2 (by kernel_rfl)) rfl
            exact head_value2 hI hT Bl.tr FS.st 3 62 rfl rfl rfl rfl (x_loadI rfl k2 (cell_heap h7 rfl)) (Below.refl _ _) rfl (hM.other _ (by decide) (by decide))
          | 4, _ =>
            exact head_value2 hI hT Bl.tr FS.st 4 63 rfl rfl rfl rfl (x_fieldN 2 (by decide) rfl (hI.lt.eval 5 rfl)) (Below.refl _ _) rfl (hM.other _ (by decide) (by decide))
          | 5, _ =>
            have k4 : a.eval (.tmp 63) = .pointer (some ⟨wr.heap.size, 2, none⟩) := hI.known 4 63 (hd 4 (by kernel_rfl)) rfl
            exact head_value2 hI hT Bl.tr FS.st 5 64 rfl rfl rfl rfl (x_loadS rfl k4 (cell_heap h7 rfl)) (Below.refl _ _) rfl (hM.other _ (by decide) (by decide))
          | 6, _ =>
            exact head_value2 hI hT Bl.tr FS.st 6 65 rfl rfl rfl rfl (x_fieldN 3 (by decide) rfl (hI.lt.eval 5 rfl)) (Below.refl _ _) rfl (hM.other _ (by decide) (by decide))
          | 7, _ =>
            have k6 : a.eval (.tmp 65) = .pointer (some ⟨wr.heap.size, 3, none⟩) := hI.known 6 65 (hd 6 (by kernel_rfl)) rfl
            exact head_value2 hI hT Bl.tr FS.st 7 66 rfl rfl rfl rfl (x_loadN rfl k6 (cell_heap h7 rfl)) (Below.refl _ _) rfl (hM.other _ (by decide) (by decide))
          | 8, _ =>
            have k7 : a.eval (.tmp 66) = .slice Ak ks.length ck := hI.known 7 66 (hd 7 (by kernel_rfl)) rfl
            refine head_call2 hI hT Bl.tr FS.st 8 67 rfl rfl rfl rfl (x_call1 (.inr rfl) rfl rfl k7) ((hJ B _ ks w' (X6.out.below hbw hB (Nat.le_refl _)) (Nat.le_trans hB hbw.size)).mono fun e w3 ⟨v', h1, h2, h3⟩ => ⟨v', h1, h3, In.lower h2 hsz, ⟨fun _ q2 => ?_, fun q => ?_⟩⟩)
            · rw [upd_ne (by decide)] at q2
              obtain ⟨g, e3, _, e4⟩ := hI.known 10 6 q2 rfl
              refine ⟨g, (put_other (by decide)).trans e3, ?_⟩
              rw [put_same (by rw [hI.lt.size, hn107]; decide)]
              exact h2.imp (fun q hq => ⟨⟨Nat.le_trans hsz hq.1, hq.2⟩, fun e5 => by have := (Array.getElem?_eq_some_iff.1 e4).1; have := hq.1; omega⟩) fun _ _ => rfl
            · rw [upd_ne (by decide)] at q
              exact absurd (hM.m2 q).1 (by rw [hSi]; decide)
          | 9, _ =>
            have k8 := hI.known 8 67 (hd 8 (by kernel_rfl)) rfl
            obtain ⟨A1, c1', e2⟩ := LRx.form k8
            have e2' : a.eval (.tmp 67) = .slice A1 (join ks).length c1' := e2
            have k1 : a.eval (.tmp 60) = .int .i64 kd := hI.known 1 60 (hd 1 (by kernel_rfl)) rfl
            have k3 : a.eval (.tmp 62) = .int .i64 tg := hI.known 3 62 (hd 3 (by kernel_rfl)) rfl
            have k5 : a.eval (.tmp 64) = .string tx := hI.known 5 64 (hd 5 (by kernel_rfl)) rfl
            refine head_value2 hI hT Bl.tr FS.st 9 68 rfl rfl rfl rfl (x_build4 rfl k1 k3 k5 e2') (Below.refl _ _) trivial ⟨fun q1 q2 => ?_, fun q => ⟨?_, A1, c1', ?_, ?_⟩⟩
            · rw [upd_ne (by decide)] at q1 q2
              rw [put_other (by decide), put_other (by decide)]; exact hM.m1 q1 q2
            · rw [upd_ne (by decide)]; exact hd 8 (by kernel_rfl)
            · exact (put_other (by decide)).trans e2
            · exact put_same (by rw [hI.lt.size, hn107]; decide)
          | 10, _ =>
            have hbb : Below w'.heap.size w' (w'.alloc (.cells zeroN 31)) := (Below.refl _ _).alloc (Nat.le_refl _) _
            refine head_value2 hI hT Bl.tr FS.st 10 6 rfl rfl rfl rfl (x_allocN rfl) hbb ⟨_, rfl, hsz, heap_alloc_new w' _⟩ ⟨fun q1 _ => ?_, fun q => ?_⟩
            · rw [upd_ne (by decide)] at q1
              refine ⟨w'.heap.size, put_same (by rw [hI.lt.size, hn107]; decide), ?_⟩
              rw [put_other (by decide)]
              have k8 := hI.known 8 67 q1 rfl
              exact LRx.imp k8 (fun q hq => ⟨in_more hbb q hq, fun e => by have := hq.2.1; omega⟩) (fun p hp => hbb.cell hp.2.1)
            · rw [upd_ne (by decide)] at q
              rw [upd_ne (by decide), put_other (by decide), put_other (by decide)]; exact hM.m2 q
        · intro S a w' hL hb hk hM hSS
          have hb' : Below wx.heap.size wx.drew w' := hb
          have hsz : wr.heap.size + 1 ≤ w'.heap.size := by have := hb'.size; rw [← hA]; exact this
          have hbr : Below wr.heap.size wr w' := hbA.trans (hb'.mono (by omega))
          have h7 : w'.heap[wr.heap.size]? = some (Obj.cells #[Value.int .i64 kd, Value.int .i64 tg, Value.string tx, Value.slice Ak ks.length ck, Value.slice Aa rs.length ca] 31) := (hb'.block _ (by omega)).trans h7A
          obtain ⟨bm, e6, hKx⟩ := hM.m1 (hSS 8 (by decide)) (hSS 10 (by decide))
          obtain ⟨_, AK, cK, e67, e68⟩ := hM.m2 (hSS 9 (by decide))
          obtain ⟨bm', e6', hbm, hz6⟩ := hk 10 6 (by decide) rfl
          obtain rfl : bm = bm' := by rw [e6] at e6'; injection e6' with q; injection q with q; injection q with q
          rw [e67] at hKx
          have k6 : a.eval (.tmp 6) = .pointer (some ⟨bm, 0, none⟩) := e6
          have k68 : a.eval (.tmp 68) = .agg #[.int .i64 kd, .int .i64 tg, .string tx, (Value.slice AK (join ks).length cK), .slice none 0 0] := e68
          refine any_store 11 rfl rfl rfl (by kernel_rfl) (x_storeN rfl k6 k68 hz6 (by decide)) ?_
          refine wpAny_done (by kernel_rfl) ?_ _
          have hgm : (Tr.stN w' bm 0 (.int .i64 kd) (.int .i64 tg) (.string tx) (Value.slice AK (join ks).length cK) (.slice none 0 0)).heap[bm]? = some (.cells #[.int .i64 kd, .int .i64 tg, .string tx, (Value.slice AK (join ks).length cK), .slice none 0 0] 31) := heap_set (heap_set (heap_set (heap_set (heap_set hz6))))
          have hne : wr.heap.size ≠ bm := by omega
          have SM : Hid (∃ vA, Sm (d + 1) wr wr.heap.size bm (Tr.stN w' bm 0 (.int .i64 kd) (.int .i64 tg) (.string tx) (Value.slice AK (join ks).length cK) (.slice none 0 0)).heap.size kd tg tx (Value.slice Ak ks.length ck) (Value.slice Aa rs.length ca) (Value.slice AK (join ks).length cK) (join ks) vA (joinA (rs.take 0)) (Tr.stN w' bm 0 (.int .i64 kd) (.int .i64 tg) (.string tx) (Value.slice AK (join ks).length cK) (.slice none 0 0))) := by
            have hbmlt : bm < w'.heap.size := (Array.getElem?_eq_some_iff.1 hz6).1
            refine Lib.hid ⟨.slice none 0 0, ⟨?_, (stN_ne (fun e => hne e.symm)).trans h7, hgm, ?_, ?_, Nat.le_refl _, ?_⟩⟩
            · unfold Tr.stN
              exact ((((hbr.setCell (by show _ ≤ bm; omega) _).setCell (by show _ ≤ bm; omega) _).setCell (by show _ ≤ bm; omega) _).setCell (by show _ ≤ bm; omega) _).setCell (by show _ ≤ bm; omega) _
            · refine hKx.imp (fun q hq => ⟨by have := hq.1.1; omega, by rw [stN_size]; exact hq.1.2.1, hq.2, hq.1.2.2.same (stN_ne (fun e => hq.2 e.symm))⟩) (fun p hp => World.cell?_of_block (stN_ne (fun e => hp.2 e.symm)))
            · rw [List.take_zero, joinA_nil]; exact RowA.nil _ _ _
            · rw [stN_size]; exact ⟨by omega, hbmlt, Nat.le_refl _, by omega, hne⟩
          have hL3 := hL.add e6
          obtain ⟨u, rfl, hu⟩ := hL3.lit
          have hu6 := hu 6 _ rfl
          rw [HL0.out, HDS.out]
          have hbl := Lib.hid hS.out.bl
          have hw0 : w.heap.size ≤ wr.heap.size := hS.out.bl.size
          clear hL3 hL hk hM hu HL0 HDS hn107 hT e6' k6 k68 hz6 hgm h7 hb hb' hbA h7A hbr e67 e68 hKx hsz hA e6
          simp only [setAll, List.set_cons_zero, List.set_cons_succ]
          rw [hu6]
          clear hu6
          generalize (Tr.stN w' bm 0 (.int .i64 kd) (.int .i64 tg) (.string tx) (Value.slice AK (join ks).length cK) (.slice none 0 0)).heap.size = lo at SM
          generalize Tr.stN w' bm 0 (.int .i64 kd) (.int .i64 tg) (.string tx) (Value.slice AK (join ks).length cK) (.slice none 0 0) = W2 at SM ⊢
          obtain ⟨Aa', ca', ea, hk1', hk2', hk3', RA2⟩ := RA.out
          obtain ⟨rfl, _, rfl⟩ := slice_eq ea
          have RAh := Lib.hid RA2
          clear RA2 ea RA
          have HSo := Lib.hid hS.out
          obtain ⟨wo, hwo⟩ : ∃ x : World, x = wr := ⟨_, rfl⟩
          subst hwo
          clear hS
          go_wp2_with fail
          go_loopw [7] (fun j wq => ∃ q : Nat, q ≤ rs.length ∧ j = .int .i64 q ∧ Hid (∃ vA, Sm (d + 1) wo wo.heap.size bm lo kd tg tx (Value.slice Ak ks.length ck) (Value.slice Aa rs.length ca) (Value.slice AK (join ks).length cK) (join ks) vA (joinA (rs.take q)) wq)) (fun j _ => rs.length - (intOf j).toNat)
          case atStart => exact ⟨0, Nat.zero_le _, rfl, SM⟩
          case round =>
            obtain ⟨q, hq, rfl, hSq0⟩ := hrel
            obtain ⟨vA, hSq1⟩ := hSq0.out
            obtain ⟨A9x, c9x, rfl, hl1', hl2'⟩ := hSq1.row.form
            have hSq := Lib.hid hSq1
            have hlq : (joinA (rs.take q)).length ≤ 16777216 := by rw [joinA_len, List.length_take]; omega
            have c4 : wr.cell? ⟨wo.heap.size, 4, none⟩ = some (Value.slice Aa rs.length ca) := cell_heap hSq1.hn rfl
            clear hSq0
            by_cases hqa : q < rs.length
            · obtain ⟨G, O, rfl, hG, r1⟩ := RAh.out (by omega)
              obtain ⟨vn, vv, p1, p2, p3, p4, p5⟩ := r1 q rs[q] (List.getElem?_eq_getElem hqa)
              obtain ⟨An, cn, rfl⟩ := p4.form
              obtain ⟨Av, cv, rfl⟩ := p5.form
              clear r1 hSq1
              have HT := Lib.hid (joinA_take hqa)
              generalize rs[q] = ar at *
              obtain ⟨nm, na, vl⟩ := ar
              simp only [Ar.named, Ar.name, Ar.value] at p1 p2 p3 p4 p5
              have HC := Lib.hid (And.intro p1 (And.intro p2 p3)); have HP := Lib.hid (And.intro p4 p5); clear p1 p2 p3 p4 p5
              go_wp2_with fail
              clear c4
              refine region_ki Bl (Below.refl _ _) [76, 77, 78, 79, 80, 81, 82, 83, 84, 85, 86, 87, 88, 89, 90, 91, 92, 93, 94, 95, 96, 97, 98, 99] [76, 77, 78, 79, 80, 81, 82, 83, 84, 85, 86, 87, 88, 89, 90, 91, 92, 93, 94, 95, 96, 97, 98, 99, 100, 101] [(5, .pointer (some ⟨wo.heap.size, 0, none⟩)), (6, .pointer (some ⟨bm, 0, none⟩)), (7, .int .i64 (q : Int))] (FR (d + 1) wr.drew.heap.size [.pointer (some ⟨bm, 4, none⟩), .slice A9x (joinA (rs.take q)).length c9x, .pointer (some ⟨wo.heap.size, 4, none⟩), .slice (some ⟨G, O, none⟩) rs.length ca, .int .i64 (q : Int), .pointer (some ⟨G, O + q * 3, none⟩), .pointer (some ⟨G, O + q * 3, none⟩), .bool nm, .pointer (some ⟨wo.heap.size, 4, none⟩), .slice (some ⟨G, O, none⟩) rs.length ca, .int .i64 (q : Int), .pointer (some ⟨G, O + q * 3, none⟩), .pointer (some ⟨G, O + q * 3 + 1, none⟩), .slice An na.length cn, undef, .pointer (some ⟨wo.heap.size, 4, none⟩), .slice (some ⟨G, O, none⟩) rs.length ca, .int .i64 (q : Int), .pointer (some ⟨G, O + q * 3, none⟩), .pointer (some ⟨G, O + q * 3 + 2, none⟩), .slice Av vl.length cv] nm na vl) (by kernel_rfl) (n := 24) (by kernel_rfl) (by kernel_rfl) (fun j v hj => start3j hj rfl rfl rfl) ?_
              intro l0 ds hl0 hds hT
              have HL0 := Lib.hid hl0; have HDS := Lib.hid hds; clear hl0 hds
              refine ⟨?_, ?_⟩
              · intro i hi S a w' hI hd
                have hbr := hSq.out.bl.trans ((Below.mono ((Below.refl wr.heap.size wr).drew.trans hI.bl) hSq.out.bl.size))
                have hbw : Below w.heap.size w w' := hbl.out.trans (hbr.mono hbl.out.size)
                have hSw := hSq.out.below ((Below.refl wr.heap.size wr).drew.trans hI.bl)
                have c0 : w'.cell? ⟨G, O + q * 3, none⟩ = some (.bool nm) := (hbw.cell (by show G < _; omega)).trans HC.out.1
                have c1 : w'.cell? ⟨G, O + q * 3 + 1, none⟩ = some (.slice An na.length cn) := (hbw.cell (by show G < _; omega)).trans HC.out.2.1
                have c2 : w'.cell? ⟨G, O + q * 3 + 2, none⟩ = some (.slice Av vl.length cv) := (hbw.cell (by show G < _; omega)).trans HC.out.2.2
                match i, hi with
                | 0, _ =>
                  exact head_value hI hT Bl.tr FR.st 0 76 rfl rfl rfl rfl (x_fieldN 4 (by decide) rfl (hI.lt.eval 6 rfl)) (Below.refl _ _) rfl
                | 1, _ =>
                  have k0 : a.eval (.tmp 76) = .pointer (some ⟨bm, 4, none⟩) := (Option.some.inj (hI.known 0 76 (hd 0 (by kernel_rfl)) rfl)).symm
                  exact head_value hI hT Bl.tr FR.st 1 77 rfl rfl rfl rfl (x_loadA rfl k0 (cell_heap hSw.hm rfl)) (Below.refl _ _) rfl
                | 2, _ =>
                  exact head_value hI hT Bl.tr FR.st 2 78 rfl rfl rfl rfl (x_fieldN 4 (by decide) rfl (hI.lt.eval 5 rfl)) (Below.refl _ _) rfl
                | 3, _ =>
                  have k2 : a.eval (.tmp 78) = .pointer (some ⟨wo.heap.size, 4, none⟩) := (Option.some.inj (hI.known 2 78 (hd 2 (by kernel_rfl)) rfl)).symm
                  exact head_value hI hT Bl.tr FR.st 3 79 rfl rfl rfl rfl (x_loadA rfl k2 (cell_heap hSw.hn rfl)) (Below.refl _ _) rfl
                | 4, _ =>
                  exact head_value hI hT Bl.tr FR.st 4 80 rfl rfl rfl rfl (x_move rfl (hI.lt.eval 7 rfl)) (Below.refl _ _) rfl
                | 5, _ =>
                  have k3 : a.eval (.tmp 79) = .slice (some ⟨G, O, none⟩) rs.length ca := (Option.some.inj (hI.known 3 79 (hd 3 (by kernel_rfl)) rfl)).symm
                  have k4 : a.eval (.tmp 80) = .int .i64 (q : Int) := (Option.some.inj (hI.known 4 80 (hd 4 (by kernel_rfl)) rfl)).symm
                  exact head_value hI hT Bl.tr FR.st 5 81 rfl rfl rfl rfl (x_indexA rfl k3 k4 hqa) (Below.refl _ _) rfl
                | 6, _ =>
                  have k5 : a.eval (.tmp 81) = .pointer (some ⟨G, O + q * 3, none⟩) := (Option.some.inj (hI.known 5 81 (hd 5 (by kernel_rfl)) rfl)).symm
                  exact head_value hI hT Bl.tr FR.st 6 82 rfl rfl rfl rfl (x_fieldA 0 (by decide) rfl k5) (Below.refl _ _) rfl
                | 7, _ =>
                  have k6 : a.eval (.tmp 82) = .pointer (some ⟨G, O + q * 3, none⟩) := (Option.some.inj (hI.known 6 82 (hd 6 (by kernel_rfl)) rfl)).symm
                  exact head_value hI hT Bl.tr FR.st 7 83 rfl rfl rfl rfl (x_loadB rfl k6 c0) (Below.refl _ _) rfl
                | 8, _ =>
                  exact head_value hI hT Bl.tr FR.st 8 84 rfl rfl rfl rfl (x_fieldN 4 (by decide) rfl (hI.lt.eval 5 rfl)) (Below.refl _ _) rfl
                | 9, _ =>
                  have k8 : a.eval (.tmp 84) = .pointer (some ⟨wo.heap.size, 4, none⟩) := (Option.some.inj (hI.known 8 84 (hd 8 (by kernel_rfl)) rfl)).symm
                  exact head_value hI hT Bl.tr FR.st 9 85 rfl rfl rfl rfl (x_loadA rfl k8 (cell_heap hSw.hn rfl)) (Below.refl _ _) rfl
                | 10, _ =>
                  exact head_value hI hT Bl.tr FR.st 10 86 rfl rfl rfl rfl (x_move rfl (hI.lt.eval 7 rfl)) (Below.refl _ _) rfl
                | 11, _ =>
                  have k9 : a.eval (.tmp 85) = .slice (some ⟨G, O, none⟩) rs.length ca := (Option.some.inj (hI.known 9 85 (hd 9 (by kernel_rfl)) rfl)).symm
                  have k10 : a.eval (.tmp 86) = .int .i64 (q : Int) := (Option.some.inj (hI.known 10 86 (hd 10 (by kernel_rfl)) rfl)).symm
                  exact head_value hI hT Bl.tr FR.st 11 87 rfl rfl rfl rfl (x_indexA rfl k9 k10 hqa) (Below.refl _ _) rfl
                | 12, _ =>
                  have k11 : a.eval (.tmp 87) = .pointer (some ⟨G, O + q * 3, none⟩) := (Option.some.inj (hI.known 11 87 (hd 11 (by kernel_rfl)) rfl)).symm
                  exact head_value hI hT Bl.tr FR.st 12 88 rfl rfl rfl rfl (x_fieldA 1 (by decide) rfl k11) (Below.refl _ _) rfl
                | 13, _ =>
                  have k12 : a.eval (.tmp 88) = .pointer (some ⟨G, O + q * 3 + 1, none⟩) := (Option.some.inj (hI.known 12 88 (hd 12 (by kernel_rfl)) rfl)).symm
                  exact head_value hI hT Bl.tr FR.st 13 89 rfl rfl rfl rfl (x_loadN rfl k12 c1) (Below.refl _ _) rfl
                | 14, _ =>
                  have k13 : a.eval (.tmp 89) = .slice An na.length cn := (Option.some.inj (hI.known 13 89 (hd 13 (by kernel_rfl)) rfl)).symm
                  exact head_call hI hT Bl.tr FR.st 14 90 rfl rfl rfl rfl (x_call1 (.inr rfl) rfl rfl k13) ((hJ B _ na w' (HP.out.1.below hbw hB (Nat.le_refl _)) (Nat.le_trans hB hbw.size)).mono fun e w3 ⟨v', h1, h2, h3⟩ => ⟨v', h1, h3, In.lower h2 (Below.size hI.bl)⟩)
                | 15, _ =>
                  exact head_value hI hT Bl.tr FR.st 15 91 rfl rfl rfl rfl (x_fieldN 4 (by decide) rfl (hI.lt.eval 5 rfl)) (Below.refl _ _) rfl
                | 16, _ =>
                  have k15 : a.eval (.tmp 91) = .pointer (some ⟨wo.heap.size, 4, none⟩) := (Option.some.inj (hI.known 15 91 (hd 15 (by kernel_rfl)) rfl)).symm
                  exact head_value hI hT Bl.tr FR.st 16 92 rfl rfl rfl rfl (x_loadA rfl k15 (cell_heap hSw.hn rfl)) (Below.refl _ _) rfl
                | 17, _ =>
                  exact head_value hI hT Bl.tr FR.st 17 93 rfl rfl rfl rfl (x_move rfl (hI.lt.eval 7 rfl)) (Below.refl _ _) rfl
                | 18, _ =>
                  have k16 : a.eval (.tmp 92) = .slice (some ⟨G, O, none⟩) rs.length ca := (Option.some.inj (hI.known 16 92 (hd 16 (by kernel_rfl)) rfl)).symm
                  have k17 : a.eval (.tmp 93) = .int .i64 (q : Int) := (Option.some.inj (hI.known 17 93 (hd 17 (by kernel_rfl)) rfl)).symm
                  exact head_value hI hT Bl.tr FR.st 18 94 rfl rfl rfl rfl (x_indexA rfl k16 k17 hqa) (Below.refl _ _) rfl
                | 19, _ =>
                  have k18 : a.eval (.tmp 94) = .pointer (some ⟨G, O + q * 3, none⟩) := (Option.some.inj (hI.known 18 94 (hd 18 (by kernel_rfl)) rfl)).symm
                  exact head_value hI hT Bl.tr FR.st 19 95 rfl rfl rfl rfl (x_fieldA 2 (by decide) rfl k18) (Below.refl _ _) rfl
                | 20, _ =>
                  have k19 : a.eval (.tmp 95) = .pointer (some ⟨G, O + q * 3 + 2, none⟩) := (Option.some.inj (hI.known 19 95 (hd 19 (by kernel_rfl)) rfl)).symm
                  exact head_value hI hT Bl.tr FR.st 20 96 rfl rfl rfl rfl (x_loadN rfl k19 c2) (Below.refl _ _) rfl
                | 21, _ =>
                  have k20 : a.eval (.tmp 96) = .slice Av vl.length cv := (Option.some.inj (hI.known 20 96 (hd 20 (by kernel_rfl)) rfl)).symm
                  exact head_call hI hT Bl.tr FR.st 21 97 rfl rfl rfl rfl (x_call1 (.inr rfl) rfl rfl k20) ((hJ B _ vl w' (HP.out.2.below hbw hB (Nat.le_refl _)) (Nat.le_trans hB hbw.size)).mono fun e w3 ⟨v', h1, h2, h3⟩ => ⟨v', h1, h3, In.lower h2 (Below.size hI.bl)⟩)
                | 22, _ =>
                  have k1 := hI.known 14 90 (hd 14 (by kernel_rfl)) rfl
                  have k2 := hI.known 21 97 (hd 21 (by kernel_rfl)) rfl
                  obtain ⟨A1, c1', e1⟩ := LRx.form k1
                  obtain ⟨A2, c2', e2⟩ := LRx.form k2
                  have k3 : a.eval (.tmp 83) = .bool nm := (Option.some.inj (hI.known 7 83 (hd 7 (by kernel_rfl)) rfl)).symm
                  have e1' : a.eval (.tmp 90) = Value.slice A1 (join na).length c1' := e1
                  have e2' : a.eval (.tmp 97) = Value.slice A2 (join vl).length c2' := e2
                  exact head_value hI hT Bl.tr FR.st 22 98 rfl rfl rfl rfl (x_buildA rfl k3 e1' e2') (Below.refl _ _) ⟨_, _, rfl, by rw [← e1]; exact k1, by rw [← e2]; exact k2⟩
                | 23, _ =>
                  obtain ⟨y, z, e1, h1, h2⟩ := hI.known 22 98 (hd 22 (by kernel_rfl)) rfl
                  obtain ⟨A1, c1', rfl⟩ := LRx.form h1
                  obtain ⟨A2, c2', rfl⟩ := LRx.form h2
                  have hbb : Below w'.heap.size w' (w'.alloc (.cells #[.bool nm, .slice A1 (join na).length c1', .slice A2 (join vl).length c2'] 33)) := (Below.refl _ _).alloc (Nat.le_refl _) _
                  have e1' : a.eval (.tmp 98) = _ := e1
                  exact head_value hI hT Bl.tr FR.st 23 99 rfl rfl rfl rfl (x_bsA rfl e1') hbb ⟨_, _, _, rfl, heap_alloc_new w' _, In.below h1 hbb, In.below h2 hbb⟩
                | (n + 24), h => exact absurd h (by omega)
              · intro a w' hL hb hk
                have k1 : a.eval (.tmp 77) = .slice A9x (joinA (rs.take q)).length c9x := (Option.some.inj (hk 1 77 (by decide) rfl)).symm
                obtain ⟨g, y, z, e1, h0, h1, h2⟩ := hk 23 99 (by decide) rfl
                have e1' : a.eval (.tmp 99) = .slice (some ⟨g, 0, none⟩) 1 1 := e1
                obtain ⟨A9, c9, w3, hr, z1, z2, hS3⟩ := (hSq.out.below ((Below.refl wr.heap.size wr).drew)).app hb (by omega) h0 h1 h2 29
                have hn107 : l0.length = 107 := by rw [HL0.out]; rfl
                refine any_val 24 100 rfl rfl rfl (by kernel_rfl) (x_append rfl rfl k1 e1' hr) ?_
                have hL2 := hL.put 100 (.slice A9 ((joinA (rs.take q)).length + 1) c9) (by decide) (by omega)
                refine any_val 25 101 rfl rfl rfl (by kernel_rfl) (x_fieldN 4 (by decide) rfl (hL2.eval 6 rfl)) ?_
                have hL3 := hL2.put 101 (.pointer (some ⟨bm, 0 + 4, none⟩)) (by decide) (by omega)
                refine any_store 26 rfl rfl rfl (by kernel_rfl) (x_storeA rfl (hL3.eval 101 rfl) (hL3.eval 100 rfl) z1 z2) ?_
                generalize (a.put (some 100) (.slice A9 ((joinA (rs.take q)).length + 1) c9)).put (some 101) (.pointer (some ⟨bm, 0 + 4, none⟩)) = a9 at hL3 ⊢
                clear hL2 hL hk k1 e1 e1' h0 h1 h2 hr z1 z2
                obtain ⟨u, rfl, _⟩ := hL3.lit
                rw [HL0.out, HDS.out]
                clear hL3 HL0 HDS hn107 hT
                simp only [setAll, List.set_cons_zero, List.set_cons_succ]
                refine wpAny_done (by kernel_rfl) ?_ _
                have HS3 := Lib.hid hS3
                clear hS3 hb
                go_wp2_with fail
                go_roundw
                case rel => exact ⟨q + 1, by omega, by go_num, Lib.hid ⟨_, by rw [HT.out]; exact HS3.out⟩⟩
                case measure => exact meas hqa
            · have e : q = rs.length := by omega
              subst e
              rw [List.take_length] at hSq1 hl1' hlq hSq
              have b0 : wr.cell? ⟨bm, 0, none⟩ = some (Value.int .i64 kd) := cell_heap hSq1.hm rfl
              have b1 : wr.cell? ⟨bm, 1, none⟩ = some (Value.int .i64 tg) := cell_heap hSq1.hm rfl
              have b2 : wr.cell? ⟨bm, 2, none⟩ = some (Value.string tx) := cell_heap hSq1.hm rfl
              have b3 : wr.cell? ⟨bm, 3, none⟩ = some (Value.slice AK (join ks).length cK) := cell_heap hSq1.hm rfl
              have b4 : wr.cell? ⟨bm, 4, none⟩ = some (Value.slice A9x (joinA rs).length c9x) := cell_heap hSq1.hm rfl
              have hbb : Below wr.heap.size wr (wr.alloc (Obj.cells #[Value.int .i64 kd, Value.int .i64 tg, Value.string tx, (Value.slice AK (join ks).length cK), Value.slice A9x (joinA rs).length c9x] 31)) := (Below.refl _ _).alloc (Nat.le_refl _) _
              have hrow : ∀ x, (Value.slice A3 fo.length c3).ownBlock = some x → x < wo.heap.size := by
                obtain ⟨ys, o, _⟩ := HSo.out.row
                exact fun x e => (own_lt o x e).2
              have hRj := HSo.out.below (hSq1.bl.trans (hbb.mono hSq1.bl.size))
              have hlo1 := hSq1.lo1
              have hlo2 := hSq1.lo2
              have hK2 : LRx (d + 1) (wr.alloc (Obj.cells #[Value.int .i64 kd, Value.int .i64 tg, Value.string tx, (Value.slice AK (join ks).length cK), Value.slice A9x (joinA rs).length c9x] 31)) (Out w.heap.size (wr.alloc (Obj.cells #[Value.int .i64 kd, Value.int .i64 tg, Value.string tx, (Value.slice AK (join ks).length cK), Value.slice A9x (joinA rs).length c9x] 31)) (Value.slice A3 fo.length c3).ownBlock) (Value.slice AK (join ks).length cK) (join ks) := hSq1.hK.imp (fun x hx => ⟨by have := hx.1; omega, Nat.lt_of_lt_of_le (Nat.lt_of_lt_of_le hx.2.1 hlo1) hbb.size, (fun e => by have := hrow x e.symm; have := hx.1; omega), hx.2.2.2.same (hbb.block x (Nat.lt_of_lt_of_le hx.2.1 hlo1))⟩) (fun p hp => hbb.cell (Nat.lt_of_lt_of_le hp.2.1 hlo1))
              have hA2 : ARx (d + 1) (wr.alloc (Obj.cells #[Value.int .i64 kd, Value.int .i64 tg, Value.string tx, (Value.slice AK (join ks).length cK), Value.slice A9x (joinA rs).length c9x] 31)) (Out w.heap.size (wr.alloc (Obj.cells #[Value.int .i64 kd, Value.int .i64 tg, Value.string tx, (Value.slice AK (join ks).length cK), Value.slice A9x (joinA rs).length c9x] 31)) (Value.slice A3 fo.length c3).ownBlock) (Value.slice A9x (joinA rs).length c9x) (joinA rs) := ARx.imp (hSq1.row.rx (Nat.le_trans (szA_join rs) hza)) (fun x hx => ⟨by have := hx.1; omega, Nat.lt_of_lt_of_le hx.2.1 hbb.size, (fun e => by have := hrow x e.symm; have := hx.1; omega), hx.2.2.same (hbb.block x hx.2.1)⟩) (fun p hp => hbb.cell hp.2.1)
              obtain ⟨A8, c8, w8, hr8, hj8⟩ := hRj.app 22 (b := wr.heap.size) (by omega) (heap_alloc_new wr _) f1 f2 hK2 hA2
              have P1 := Lib.hid hr8; have HJ8 := Lib.hid hj8
              clear hr8 hj8 hK2 hA2 hRj hbb hSq1 hrow
              go_wp2_with (at_builtin; refine wpList_app P1.out rfl (.tmp 102) (.tmp 104) rfl rfl rfl rfl ?_; clear P1)
              go_roundw
              case rel => exact ⟨k + 1, by omega, by go_num, Lib.hid (by rw [HO2.out]; exact HJ8.out)⟩
              case measure => exact meas hlt
    · have e : k = l.length := by omega
      subst e
      rw [List.take_length] at hS hlen
      obtain ⟨A3, c3, rfl, hl1, hl2⟩ := hS.out.row.form
      go_wp2_with fail
      go_ret
      have hr := hS.out.row.rx (by rw [foR_join]; exact Nat.le_trans (sz_join l) hz)
      rw [foR_join] at hr ⊢
      exact ⟨_, rfl, hr, hS.out.bl⟩
end Go.Proofs.Ytlceaadaeednpaa.Tr
