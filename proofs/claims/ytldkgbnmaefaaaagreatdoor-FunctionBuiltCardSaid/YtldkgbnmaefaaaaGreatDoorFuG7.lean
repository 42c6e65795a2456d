import Derived.Test.YtldkgbnmaefaaaaGreatDoorFuG6
import Derived.Test.YtldkgbnmaefaaaaGreatDoorFuG5
set_option maxRecDepth 100000
set_option maxHeartbeats 4000000
open Go.Lib (hid)
namespace Go.Proofs.YtldkgbnmaefaaaaGreatDoor.Fu
open Go.RowKit
set_option linter.unusedVariables false
set_option linter.unusedSimpArgs false
def unL:List BA:=[⟨#[]⟩,⟨#[109,105,110,117,116,101]⟩,⟨#[104,111,117,114]⟩,⟨#[100,97,121]⟩,⟨#[109,111,110,116,104]⟩,⟨#[121,101,97,114]⟩]
theorem q7v:unL.length=6:=rfl
theorem q7w{s:BA}{k:Nat}(hk:1≤k){x:BA}(hx:unL[k]? = some x)(hs:x=s)(hn : ∀ j y,1≤j→j<k→unL[j]? = some y→y≠s):qet s=(k:Int):=by
 subst hs
 match k,hk,hx with
 | 1,_,hx=>cases hx;rfl
 | 2,_,hx=>cases hx;rfl
 | 3,_,hx=>cases hx;rfl
 | 4,_,hx=>cases hx;rfl
 | 5,_,hx=>cases hx;rfl
 |(n+6),_,hx=>exact absurd hx (by simp[unL])
theorem q7x{s:BA}(hn : ∀ j y,1≤j→j<6→unL[j]? = some y→y≠s):qet s=0:=by
 unfold qet
 rw[if_neg (fun e=>hn 1 _ (by omega) (by omega) rfl e.symm),if_neg (fun e=>hn 2 _ (by omega) (by omega) rfl e.symm),if_neg (fun e=>hn 3 _ (by omega) (by omega) rfl e.symm),if_neg (fun e=>hn 4 _ (by omega) (by omega) rfl e.symm),if_neg (fun e=>hn 5 _ (by omega) (by omega) rfl e.symm)]
theorem q0q(s:BA)(w:World):Calls Tryz.prog 56 #[.string s] w fun e w'=>e=.returned (.int .i64 (qet s))∧Below w.heap.size w w':=by
 obtain⟨E,hE⟩ : ∃ E,qet s=E:=⟨_,rfl⟩
 rw[hE]
 have HE:=hid hE
 clear hE
 obtain⟨WX,hWX⟩ : ∃ WX,w.alloc (.cells #[.string ⟨#[]⟩,.string ⟨#[109,105,110,117,116,101]⟩,.string ⟨#[104,111,117,114]⟩,.string ⟨#[100,97,121]⟩,.string ⟨#[109,111,110,116,104]⟩,.string ⟨#[121,101,97,114]⟩] 9)=WX:=⟨_,rfl⟩
 have HB:Hid (Below w.heap.size w WX):=hid (by rw[←hWX];exact(Below.refl _ w).alloc (Nat.le_refl _) _)
 have HC:Hid (∀ (i:Nat) (x:BA),unL[i]? = some x→WX.cell? ⟨w.heap.size,i,none⟩=some (.string x)):=hid (fun i x hx=>by
  rw[←hWX,cell_of_row _ _ _ _ 9 (0,0) (heap_alloc_new w _)]
  have h2:(unL.map Value.string)[i]? = some (.string x):=by simp[hx]
  rw[←List.getElem?_toArray] at h2
  exact h2)
 go_enter Tryz.func56,Tryz.ntmps56
 go_wp2_with fail
 clear hWX
 go_loop [4] (fun i => ∃ k:Nat,i=.int .i64 (k:Int)∧1≤k∧k≤6∧Hid (∀ j x,1≤j→j<k→unL[j]? = some x→x≠s)) (fun i=>6-(intOf i).toNat)
 case atStart=>exact⟨1,by go_num,by omega,by omega,hid (fun j s h1 hj=>absurd hj (by omega))⟩
 case round =>
  obtain⟨k,rfl,hk1,hk,HS⟩:=hrel
  by_cases hlt:k<6
  ·have hki:(k:Int)<6:=by omega
   have hkl:k<unL.length:=by rw[q7v];exact hlt
   have HG:=hid (List.getElem?_eq_getElem hkl)
   have c0:=HC.out k unL[k] (List.getElem?_eq_getElem hkl)
   generalize unL[k]=S at c0 HG
   have hq:=qjt S s
   by_cases hS:S=s
   ·rw[decide_eq_true hS] at hq
    have HE2:Hid (E=(k:Int)):=hid (HE.out.symm.trans (q7w hk1 HG.out hS HS.out))
    clear hS
    go_wp2
    go_ret
    exact⟨by rw[HE2.out];rfl,HB.out⟩
   ·rw[decide_eq_false hS] at hq
    have HN:=hid hS
    clear hS
    go_wp2
    go_round
    case rel=>exact⟨k+1,by go_num,by omega,by omega,hid (fun j x h1 hj hx=>by
     by_cases e:j=k
     ·subst e;rw[HG.out] at hx;cases hx;exact HN.out
     ·exact HS.out j x h1 (by omega) hx)⟩
    case measure=>simp[intOf];omega
  ·have hki : ¬ (k:Int)<6:=by omega
   have HE2:Hid (E=0):=hid (HE.out.symm.trans (q7x (fun j y h1 h2 hy=>HS.out j y h1 (by omega) hy)))
   go_wp2
   go_ret
   exact⟨by rw[HE2.out];rfl,HB.out⟩
theorem qeo{x:Int}(hx : -1≤x)(hx2:x≤32768)(t:BA) : -4000000000≤(qbi t x).n∧(qbi t x).n≤4000000000:=by
 unfold qbi
 split
 ·show -4000000000≤x∧x≤4000000000;omega
 split
 ·rename_i h
  split
  ·have ho:=Fo.qly h
   have:=ho.n1;have:=ho.n2
   show -4000000000≤(Nu.parse t.data.toList).n∧(Nu.parse t.data.toList).n≤4000000000
   omega
  ·show(-4000000000:Int)≤0∧(0:Int)≤4000000000;omega
 ·show(-4000000000:Int)≤0∧(0:Int)≤4000000000;omega
theorem qsi(v:Value)(l:List BA)(w:World)(hv:Rd w w.heap.size v l)(hl:Ord l) :
  Calls Tryz.prog 37 #[.string ⟨#[114,101,112,108,97,99,101]⟩,v] w fun e w'=>e=.returned (qbc (qai 4 [⟨0,0⟩,⟨1,0⟩,⟨1,0⟩,⟨2,(-1)⟩] l))∧Below w.heap.size w w':=by
 rw[qhl]
 have h0:=qbd (raw l 0)
 have s0:=hl.sz 0
 have s1:=hl.sz 1
 have s2:=hl.sz 2
 have s3:=hl.sz 3
 have HA0:=hid (fun(W:World) (hW:Below w.heap.size w W)=>show Calls Tryz.prog 27 #[v,.int .i64 0] W _ from qao v l 0 W (hv.up hW) (by omega) s0)
 have HR1:=hid (fun(W:World) (hW:Below w.heap.size w W)=>show Calls Tryz.prog 29 #[v,.int .i64 1] W _ from qbj v l 1 W (hv.up hW) (by omega))
 have HR2:=hid (fun(W:World) (hW:Below w.heap.size w W)=>show Calls Tryz.prog 29 #[v,.int .i64 2] W _ from qbj v l 2 W (hv.up hW) (by omega))
 have HA1:=hid (fun(W:World) (hW:Below w.heap.size w W)=>show Calls Tryz.prog 27 #[v,.int .i64 1] W _ from qao v l 1 W (hv.up hW) (by omega) s1)
 have HA2:=hid (fun(W:World) (hW:Below w.heap.size w W)=>show Calls Tryz.prog 27 #[v,.int .i64 2] W _ from qao v l 2 W (hv.up hW) (by omega) s2)
 have HI3:=hid (fun(W:World) (hW:Below w.heap.size w W)=>show Calls Tryz.prog 55 #[v,.int .i64 3,.int .i64 (-1)] W _ from qa6 v l 3 (-1) W (hv.up hW) (by omega) s3)
 have hn:=qeo (x:=(-1)) (by omega) (by omega) (trm (raw l 3))
 obtain⟨A,c,hvv,hlc,hcm,_⟩:=hv.ex
 obtain⟨S,hS⟩ : ∃ S,trm (raw l 0)=S:=⟨_,rfl⟩
 obtain⟨R1,hR1⟩ : ∃ S,raw l 1=S:=⟨_,rfl⟩
 obtain⟨R2,hR2⟩ : ∃ S,raw l 2=S:=⟨_,rfl⟩
 obtain⟨n0,e0,hi⟩ : ∃ n0 e0,qbi (trm (raw l 3)) (-1)=⟨n0,e0⟩:=⟨_,_,rfl⟩
 rw[hi] at HI3 hn ⊢
 rw[hS] at HA0 h0 ⊢
 rw[hR1] at HR1 s1 ⊢
 rw[hR2] at HR2 s2 ⊢
 clear hi hS hR1 hR2
 clear HA1 HA2
 simp only at hn HI3 ⊢
 have HRp:=hid (fun w=>Sf.qm4 S R1 R2 n0 w (by omega) (by omega) (by omega) (by unfold Sf.I64;omega))
 clear hv hl
 subst hvv
 by_cases he:e0=0
 ·subst he
  rw[if_pos rfl]
  unfold qbc
  go_enter Tryz.func37,Tryz.ntmps37
  go_wp2_with fail
  (with_reducible refine(HA0.out _ (Below.refl _ w)).mono ?_)
  rintro e w1⟨rfl,hb⟩
  have HB1:=hid hb
  clear hb
  go_wp2_with fail
  (with_reducible refine(HI3.out _ HB1.out).mono ?_)
  rintro e w2⟨rfl,hb⟩
  have HB2:=hid (HB1.out.trans (hb.mono HB1.out.size))
  clear hb
  go_wp2_with fail
  (with_reducible refine(HR1.out _ HB2.out).mono ?_)
  rintro e w3⟨rfl,rfl⟩
  go_wp2_with fail
  (with_reducible refine(HR2.out _ HB2.out).mono ?_)
  rintro e w4⟨rfl,rfl⟩
  go_wp2_with fail
  (with_reducible refine(HRp.out _).mono ?_)
  rintro e w5⟨rfl,hb⟩
  have HB5:=hid (HB2.out.trans (hb.mono HB2.out.size))
  clear hb
  go_wp2
  go_ret2
  exact⟨rfl,HB5.out⟩
 ·rw[if_neg he]
  have he2:(e0 != 0)=true:=by rw[bne_iff_ne];exact he
  clear he
  unfold qbc em
  go_enter Tryz.func37,Tryz.ntmps37
  go_wp2_with fail
  (with_reducible refine(HA0.out _ (Below.refl _ w)).mono ?_)
  rintro e w1⟨rfl,hb⟩
  have HB1:=hid hb
  clear hb
  go_wp2_with fail
  (with_reducible refine(HI3.out _ HB1.out).mono ?_)
  rintro e w2⟨rfl,hb⟩
  have HB2:=hid (HB1.out.trans (hb.mono HB1.out.size))
  clear hb
  go_wp2
  go_ret2
  exact⟨rfl,HB2.out⟩
theorem q6m(v:Value)(l:List BA)(w:World)(hv:Rd w w.heap.size v l)(hl:Ord l) :
  Calls Tryz.prog 37 #[.string ⟨#[112,97,114,116]⟩,v] w fun e w'=>e=.returned (qbc (qai 12 [⟨0,0⟩,⟨1,0⟩,⟨2,0⟩] l))∧Below w.heap.size w w':=by
 rw[qom]
 have h0:=qbd (raw l 0)
 have s0:=hl.sz 0
 have s1:=hl.sz 1
 have s2:=hl.sz 2
 have s3:=hl.sz 3
 have HA0:=hid (fun(W:World) (hW:Below w.heap.size w W)=>show Calls Tryz.prog 27 #[v,.int .i64 0] W _ from qao v l 0 W (hv.up hW) (by omega) s0)
 have HR1:=hid (fun(W:World) (hW:Below w.heap.size w W)=>show Calls Tryz.prog 29 #[v,.int .i64 1] W _ from qbj v l 1 W (hv.up hW) (by omega))
 have HR2:=hid (fun(W:World) (hW:Below w.heap.size w W)=>show Calls Tryz.prog 29 #[v,.int .i64 2] W _ from qbj v l 2 W (hv.up hW) (by omega))
 have HA1:=hid (fun(W:World) (hW:Below w.heap.size w W)=>show Calls Tryz.prog 27 #[v,.int .i64 1] W _ from qao v l 1 W (hv.up hW) (by omega) s1)
 have HA2:=hid (fun(W:World) (hW:Below w.heap.size w W)=>show Calls Tryz.prog 27 #[v,.int .i64 2] W _ from qao v l 2 W (hv.up hW) (by omega) s2)
 have HI2:=hid (fun(W:World) (hW:Below w.heap.size w W)=>show Calls Tryz.prog 55 #[v,.int .i64 2,.int .i64 0] W _ from qa6 v l 2 0 W (hv.up hW) (by omega) s2)
 have hn:=qeo (x:=0) (by omega) (by omega) (trm (raw l 2))
 obtain⟨A,c,hvv,hlc,hcm,_⟩:=hv.ex
 obtain⟨S,hS⟩ : ∃ S,trm (raw l 0)=S:=⟨_,rfl⟩
 obtain⟨R1,hR1⟩ : ∃ S,raw l 1=S:=⟨_,rfl⟩
 obtain⟨R2,hR2⟩ : ∃ S,raw l 2=S:=⟨_,rfl⟩
 obtain⟨n0,e0,hi⟩ : ∃ n0 e0,qbi (trm (raw l 2)) 0=⟨n0,e0⟩:=⟨_,_,rfl⟩
 rw[hi] at HI2 hn ⊢
 rw[hS] at HA0 h0 ⊢
 rw[hR1] at HR1 s1 ⊢
 clear hi hS hR1 hR2
 clear HR2 HA1 HA2
 simp only at hn HI2 ⊢
 have HRp:=hid (fun w=>Sf.qtg S R1 n0 w (by omega) (by omega) (by unfold Sf.I64;omega))
 clear hv hl
 subst hvv
 by_cases he:e0=0
 ·subst he
  rw[if_pos rfl]
  unfold qbc
  go_enter Tryz.func37,Tryz.ntmps37
  go_wp2_with fail
  (with_reducible refine(HA0.out _ (Below.refl _ w)).mono ?_)
  rintro e w1⟨rfl,hb⟩
  have HB1:=hid hb
  clear hb
  go_wp2_with fail
  (with_reducible refine(HI2.out _ HB1.out).mono ?_)
  rintro e w2⟨rfl,hb⟩
  have HB2:=hid (HB1.out.trans (hb.mono HB1.out.size))
  clear hb
  go_wp2_with fail
  (with_reducible refine(HR1.out _ HB2.out).mono ?_)
  rintro e w3⟨rfl,rfl⟩
  go_wp2_with fail
  (with_reducible refine(HRp.out _).mono ?_)
  rintro e w4⟨rfl,hb⟩
  have HB4:=hid (HB2.out.trans (hb.mono HB2.out.size))
  clear hb
  go_wp2
  go_ret2
  exact⟨rfl,HB4.out⟩
 ·rw[if_neg he]
  have he2:(e0 != 0)=true:=by rw[bne_iff_ne];exact he
  clear he
  unfold qbc em
  go_enter Tryz.func37,Tryz.ntmps37
  go_wp2_with fail
  (with_reducible refine(HA0.out _ (Below.refl _ w)).mono ?_)
  rintro e w1⟨rfl,hb⟩
  have HB1:=hid hb
  clear hb
  go_wp2_with fail
  (with_reducible refine(HI2.out _ HB1.out).mono ?_)
  rintro e w2⟨rfl,hb⟩
  have HB2:=hid (HB1.out.trans (hb.mono HB1.out.size))
  clear hb
  go_wp2
  go_ret2
  exact⟨rfl,HB2.out⟩
theorem qq5(v:Value)(l:List BA)(w:World)(hv:Rd w w.heap.size v l)(hl:Ord l) :
  Calls Tryz.prog 37 #[.string ⟨#[112,111,115]⟩,v] w fun e w'=>e=.returned (qbc (qai 3 [⟨0,0⟩,⟨1,0⟩,⟨2,0⟩] l))∧Below w.heap.size w w':=by
 rw[qt7]
 have h0:=qbd (raw l 0)
 have s0:=hl.sz 0
 have s1:=hl.sz 1
 have s2:=hl.sz 2
 have s3:=hl.sz 3
 have HA0:=hid (fun(W:World) (hW:Below w.heap.size w W)=>show Calls Tryz.prog 27 #[v,.int .i64 0] W _ from qao v l 0 W (hv.up hW) (by omega) s0)
 have HR1:=hid (fun(W:World) (hW:Below w.heap.size w W)=>show Calls Tryz.prog 29 #[v,.int .i64 1] W _ from qbj v l 1 W (hv.up hW) (by omega))
 have HR2:=hid (fun(W:World) (hW:Below w.heap.size w W)=>show Calls Tryz.prog 29 #[v,.int .i64 2] W _ from qbj v l 2 W (hv.up hW) (by omega))
 have HA1:=hid (fun(W:World) (hW:Below w.heap.size w W)=>show Calls Tryz.prog 27 #[v,.int .i64 1] W _ from qao v l 1 W (hv.up hW) (by omega) s1)
 have HA2:=hid (fun(W:World) (hW:Below w.heap.size w W)=>show Calls Tryz.prog 27 #[v,.int .i64 2] W _ from qao v l 2 W (hv.up hW) (by omega) s2)
 have HI2:=hid (fun(W:World) (hW:Below w.heap.size w W)=>show Calls Tryz.prog 55 #[v,.int .i64 2,.int .i64 0] W _ from qa6 v l 2 0 W (hv.up hW) (by omega) s2)
 have hn:=qeo (x:=0) (by omega) (by omega) (trm (raw l 2))
 obtain⟨A,c,hvv,hlc,hcm,_⟩:=hv.ex
 obtain⟨S,hS⟩ : ∃ S,trm (raw l 0)=S:=⟨_,rfl⟩
 obtain⟨R1,hR1⟩ : ∃ S,raw l 1=S:=⟨_,rfl⟩
 obtain⟨R2,hR2⟩ : ∃ S,raw l 2=S:=⟨_,rfl⟩
 obtain⟨n0,e0,hi⟩ : ∃ n0 e0,qbi (trm (raw l 2)) 0=⟨n0,e0⟩:=⟨_,_,rfl⟩
 rw[hi] at HI2 hn ⊢
 rw[hS] at HA0 h0 ⊢
 rw[hR1] at HR1 s1 ⊢
 clear hi hS hR1 hR2
 clear HR2 HA1 HA2
 simp only at hn HI2 ⊢
 have HFD:=hid (fun(f:Int) w=>Sf.qs7 S R1 n0 w (by omega) (by omega) (by unfold Sf.I64;omega))
 have hpr:=qnl S R1 n0
 obtain⟨p0,hp0⟩ : ∃ p,Sf.fnd S R1 n0=p:=⟨_,rfl⟩
 rw[hp0] at HFD hpr
 have HDc:=hid (fun w=>Nu.qd1 p0 w (by omega))
 clear hv hl
 subst hvv
 by_cases he:e0=0
 ·subst he
  rw[if_pos rfl]
  unfold qbc
  unfold xbh
  by_cases hp:p0<0
  ·rw[hp0,if_pos hp]
   unfold em
   clear hp0
   go_enter Tryz.func37,Tryz.ntmps37
   go_wp2_with fail
   (with_reducible refine(HA0.out _ (Below.refl _ w)).mono ?_)
   rintro e w1⟨rfl,hb⟩
   have HB1:=hid hb
   clear hb
   go_wp2_with fail
   (with_reducible refine(HI2.out _ HB1.out).mono ?_)
   rintro e w2⟨rfl,hb⟩
   have HB2:=hid (HB1.out.trans (hb.mono HB1.out.size))
   clear hb
   go_wp2_with fail
   (with_reducible refine(HR1.out _ HB2.out).mono ?_)
   rintro e w3⟨rfl,rfl⟩
   go_wp2_with fail
   (with_reducible refine(HFD.out n0 _).mono ?_)
   rintro e w4⟨rfl,hb⟩
   have HB4:=hid (HB2.out.trans (hb.mono HB2.out.size))
   clear hb
   go_wp2
   go_ret2
   exact⟨rfl,HB4.out⟩
  ·rw[hp0,if_neg hp]
   clear hp0
   go_enter Tryz.func37,Tryz.ntmps37
   go_wp2_with fail
   (with_reducible refine(HA0.out _ (Below.refl _ w)).mono ?_)
   rintro e w1⟨rfl,hb⟩
   have HB1:=hid hb
   clear hb
   go_wp2_with fail
   (with_reducible refine(HI2.out _ HB1.out).mono ?_)
   rintro e w2⟨rfl,hb⟩
   have HB2:=hid (HB1.out.trans (hb.mono HB1.out.size))
   clear hb
   go_wp2_with fail
   (with_reducible refine(HR1.out _ HB2.out).mono ?_)
   rintro e w3⟨rfl,rfl⟩
   go_wp2_with fail
   (with_reducible refine(HFD.out n0 _).mono ?_)
   rintro e w4⟨rfl,hb⟩
   have HB4:=hid (HB2.out.trans (hb.mono HB2.out.size))
   clear hb
   go_wp2_with fail
   (with_reducible refine(HDc.out _).mono ?_)
   rintro e w5⟨rfl,hb⟩
   have HB5:=hid (HB4.out.trans (hb.mono HB4.out.size))
   clear hb
   go_wp2
   go_ret2
   exact⟨rfl,HB5.out⟩
 ·rw[if_neg he]
  have he2:(e0 != 0)=true:=by rw[bne_iff_ne];exact he
  clear he
  unfold qbc em
  go_enter Tryz.func37,Tryz.ntmps37
  go_wp2_with fail
  (with_reducible refine(HA0.out _ (Below.refl _ w)).mono ?_)
  rintro e w1⟨rfl,hb⟩
  have HB1:=hid hb
  clear hb
  go_wp2_with fail
  (with_reducible refine(HI2.out _ HB1.out).mono ?_)
  rintro e w2⟨rfl,hb⟩
  have HB2:=hid (HB1.out.trans (hb.mono HB1.out.size))
  clear hb
  go_wp2_with fail
  (with_reducible refine(HR1.out _ HB2.out).mono ?_)
  rintro e w3⟨rfl,rfl⟩
  go_wp2_with fail
  (with_reducible refine(HFD.out n0 _).mono ?_)
  rintro e w4⟨rfl,hb⟩
  have HB4:=hid (HB2.out.trans (hb.mono HB2.out.size))
  clear hb
  go_wp2
  go_ret2
  exact⟨rfl,HB4.out⟩
theorem qsh(v:Value)(l:List BA)(w:World)(hv:Rd w w.heap.size v l)(hl:Ord l) :
  Calls Tryz.prog 37 #[.string ⟨#[112,97,100,108,101,102,116]⟩,v] w fun e w'=>e=.returned (qbc (qai 5 [⟨0,0⟩,⟨2,0⟩,⟨1,0⟩] l))∧Below w.heap.size w w':=by
 rw[qfo]
 have h0:=qbd (raw l 0)
 have s0:=hl.sz 0
 have s1:=hl.sz 1
 have s2:=hl.sz 2
 have s3:=hl.sz 3
 have HA0:=hid (fun(W:World) (hW:Below w.heap.size w W)=>show Calls Tryz.prog 27 #[v,.int .i64 0] W _ from qao v l 0 W (hv.up hW) (by omega) s0)
 have HR1:=hid (fun(W:World) (hW:Below w.heap.size w W)=>show Calls Tryz.prog 29 #[v,.int .i64 1] W _ from qbj v l 1 W (hv.up hW) (by omega))
 have HR2:=hid (fun(W:World) (hW:Below w.heap.size w W)=>show Calls Tryz.prog 29 #[v,.int .i64 2] W _ from qbj v l 2 W (hv.up hW) (by omega))
 have HA1:=hid (fun(W:World) (hW:Below w.heap.size w W)=>show Calls Tryz.prog 27 #[v,.int .i64 1] W _ from qao v l 1 W (hv.up hW) (by omega) s1)
 have HA2:=hid (fun(W:World) (hW:Below w.heap.size w W)=>show Calls Tryz.prog 27 #[v,.int .i64 2] W _ from qao v l 2 W (hv.up hW) (by omega) s2)
 have HI1:=hid (fun(W:World) (hW:Below w.heap.size w W)=>show Calls Tryz.prog 55 #[v,.int .i64 1,.int .i64 0] W _ from qa6 v l 1 0 W (hv.up hW) (by omega) s1)
 have hn:=qeo (x:=0) (by omega) (by omega) (trm (raw l 1))
 obtain⟨A,c,hvv,hlc,hcm,_⟩:=hv.ex
 obtain⟨S,hS⟩ : ∃ S,trm (raw l 0)=S:=⟨_,rfl⟩
 obtain⟨R1,hR1⟩ : ∃ S,raw l 1=S:=⟨_,rfl⟩
 obtain⟨R2,hR2⟩ : ∃ S,raw l 2=S:=⟨_,rfl⟩
 obtain⟨n0,e0,hi⟩ : ∃ n0 e0,qbi (trm (raw l 1)) 0=⟨n0,e0⟩:=⟨_,_,rfl⟩
 rw[hi] at HI1 hn ⊢
 rw[hS] at HA0 h0 ⊢
 rw[hR2] at HR2 s2 ⊢
 clear hi hS hR1 hR2
 clear HR1 HA1 HA2
 simp only at hn HI1 ⊢
 have hfl:(fill R2).size≤350:=by
  unfold fill
  split
  ·decide
  ·omega
 have HPd:=hid (fun w=>Sf.qm3 S (fill R2) n0 w (by omega) (by omega) (by unfold Sf.I64;omega))
 clear hv hl
 subst hvv
 by_cases he:e0=0
 ·subst he
  rw[if_pos rfl]
  unfold qbc
  unfold fill at HPd ⊢
  have hd:=qhy R2
  by_cases hf:R2.size=0
  ·rw[if_pos hf] at HPd ⊢
   rw[decide_eq_true hf] at hd
   clear hf
   go_enter Tryz.func37,Tryz.ntmps37
   go_wp2_with fail
   (with_reducible refine(HA0.out _ (Below.refl _ w)).mono ?_)
   rintro e w1⟨rfl,hb⟩
   have HB1:=hid hb
   clear hb
   go_wp2_with fail
   (with_reducible refine(HI1.out _ HB1.out).mono ?_)
   rintro e w2⟨rfl,hb⟩
   have HB2:=hid (HB1.out.trans (hb.mono HB1.out.size))
   clear hb
   go_wp2_with fail
   (with_reducible refine(HR2.out _ HB2.out).mono ?_)
   rintro e w3⟨rfl,rfl⟩
   go_wp2_with fail
   (with_reducible refine(HPd.out _).mono ?_)
   rintro e w4⟨rfl,hb⟩
   have HB4:=hid (HB2.out.trans (hb.mono HB2.out.size))
   clear hb
   go_wp2
   go_ret2
   exact⟨rfl,HB4.out⟩
  ·rw[if_neg hf] at HPd ⊢
   rw[decide_eq_false hf] at hd
   clear hf
   go_enter Tryz.func37,Tryz.ntmps37
   go_wp2_with fail
   (with_reducible refine(HA0.out _ (Below.refl _ w)).mono ?_)
   rintro e w1⟨rfl,hb⟩
   have HB1:=hid hb
   clear hb
   go_wp2_with fail
   (with_reducible refine(HI1.out _ HB1.out).mono ?_)
   rintro e w2⟨rfl,hb⟩
   have HB2:=hid (HB1.out.trans (hb.mono HB1.out.size))
   clear hb
   go_wp2_with fail
   (with_reducible refine(HR2.out _ HB2.out).mono ?_)
   rintro e w3⟨rfl,rfl⟩
   go_wp2_with fail
   (with_reducible refine(HPd.out _).mono ?_)
   rintro e w4⟨rfl,hb⟩
   have HB4:=hid (HB2.out.trans (hb.mono HB2.out.size))
   clear hb
   go_wp2
   go_ret2
   exact⟨rfl,HB4.out⟩
 ·rw[if_neg he]
  have he2:(e0 != 0)=true:=by rw[bne_iff_ne];exact he
  clear he
  unfold qbc em
  go_enter Tryz.func37,Tryz.ntmps37
  go_wp2_with fail
  (with_reducible refine(HA0.out _ (Below.refl _ w)).mono ?_)
  rintro e w1⟨rfl,hb⟩
  have HB1:=hid hb
  clear hb
  go_wp2_with fail
  (with_reducible refine(HI1.out _ HB1.out).mono ?_)
  rintro e w2⟨rfl,hb⟩
  have HB2:=hid (HB1.out.trans (hb.mono HB1.out.size))
  clear hb
  go_wp2
  go_ret2
  exact⟨rfl,HB2.out⟩
theorem qpf(v:Value)(l:List BA)(w:World)(hv:Rd w w.heap.size v l)(hl:Ord l) :
  Calls Tryz.prog 37 #[.string ⟨#[112,97,100,114,105,103,104,116]⟩,v] w fun e w'=>e=.returned (qbc (qai 6 [⟨0,0⟩,⟨2,0⟩,⟨1,0⟩] l))∧Below w.heap.size w w':=by
 rw[qf5]
 have h0:=qbd (raw l 0)
 have s0:=hl.sz 0
 have s1:=hl.sz 1
 have s2:=hl.sz 2
 have s3:=hl.sz 3
 have HA0:=hid (fun(W:World) (hW:Below w.heap.size w W)=>show Calls Tryz.prog 27 #[v,.int .i64 0] W _ from qao v l 0 W (hv.up hW) (by omega) s0)
 have HR1:=hid (fun(W:World) (hW:Below w.heap.size w W)=>show Calls Tryz.prog 29 #[v,.int .i64 1] W _ from qbj v l 1 W (hv.up hW) (by omega))
 have HR2:=hid (fun(W:World) (hW:Below w.heap.size w W)=>show Calls Tryz.prog 29 #[v,.int .i64 2] W _ from qbj v l 2 W (hv.up hW) (by omega))
 have HA1:=hid (fun(W:World) (hW:Below w.heap.size w W)=>show Calls Tryz.prog 27 #[v,.int .i64 1] W _ from qao v l 1 W (hv.up hW) (by omega) s1)
 have HA2:=hid (fun(W:World) (hW:Below w.heap.size w W)=>show Calls Tryz.prog 27 #[v,.int .i64 2] W _ from qao v l 2 W (hv.up hW) (by omega) s2)
 have HI1:=hid (fun(W:World) (hW:Below w.heap.size w W)=>show Calls Tryz.prog 55 #[v,.int .i64 1,.int .i64 0] W _ from qa6 v l 1 0 W (hv.up hW) (by omega) s1)
 have hn:=qeo (x:=0) (by omega) (by omega) (trm (raw l 1))
 obtain⟨A,c,hvv,hlc,hcm,_⟩:=hv.ex
 obtain⟨S,hS⟩ : ∃ S,trm (raw l 0)=S:=⟨_,rfl⟩
 obtain⟨R1,hR1⟩ : ∃ S,raw l 1=S:=⟨_,rfl⟩
 obtain⟨R2,hR2⟩ : ∃ S,raw l 2=S:=⟨_,rfl⟩
 obtain⟨n0,e0,hi⟩ : ∃ n0 e0,qbi (trm (raw l 1)) 0=⟨n0,e0⟩:=⟨_,_,rfl⟩
 rw[hi] at HI1 hn ⊢
 rw[hS] at HA0 h0 ⊢
 rw[hR2] at HR2 s2 ⊢
 clear hi hS hR1 hR2
 clear HR1 HA1 HA2
 simp only at hn HI1 ⊢
 have hfl:(fill R2).size≤350:=by
  unfold fill
  split
  ·decide
  ·omega
 have HPd:=hid (fun w=>Sf.qk6 S (fill R2) n0 w (by omega) (by omega) (by unfold Sf.I64;omega))
 clear hv hl
 subst hvv
 by_cases he:e0=0
 ·subst he
  rw[if_pos rfl]
  unfold qbc
  unfold fill at HPd ⊢
  have hd:=qhy R2
  by_cases hf:R2.size=0
  ·rw[if_pos hf] at HPd ⊢
   rw[decide_eq_true hf] at hd
   clear hf
   go_enter Tryz.func37,Tryz.ntmps37
   go_wp2_with fail
   (with_reducible refine(HA0.out _ (Below.refl _ w)).mono ?_)
   rintro e w1⟨rfl,hb⟩
   have HB1:=hid hb
   clear hb
   go_wp2_with fail
   (with_reducible refine(HI1.out _ HB1.out).mono ?_)
   rintro e w2⟨rfl,hb⟩
   have HB2:=hid (HB1.out.trans (hb.mono HB1.out.size))
   clear hb
   go_wp2_with fail
   (with_reducible refine(HR2.out _ HB2.out).mono ?_)
   rintro e w3⟨rfl,rfl⟩
   go_wp2_with fail
   (with_reducible refine(HPd.out _).mono ?_)
   rintro e w4⟨rfl,hb⟩
   have HB4:=hid (HB2.out.trans (hb.mono HB2.out.size))
   clear hb
   go_wp2
   go_ret2
   exact⟨rfl,HB4.out⟩
  ·rw[if_neg hf] at HPd ⊢
   rw[decide_eq_false hf] at hd
   clear hf
   go_enter Tryz.func37,Tryz.ntmps37
   go_wp2_with fail
   (with_reducible refine(HA0.out _ (Below.refl _ w)).mono ?_)
   rintro e w1⟨rfl,hb⟩
   have HB1:=hid hb
   clear hb
   go_wp2_with fail
   (with_reducible refine(HI1.out _ HB1.out).mono ?_)
   rintro e w2⟨rfl,hb⟩
   have HB2:=hid (HB1.out.trans (hb.mono HB1.out.size))
   clear hb
   go_wp2_with fail
   (with_reducible refine(HR2.out _ HB2.out).mono ?_)
   rintro e w3⟨rfl,rfl⟩
   go_wp2_with fail
   (with_reducible refine(HPd.out _).mono ?_)
   rintro e w4⟨rfl,hb⟩
   have HB4:=hid (HB2.out.trans (hb.mono HB2.out.size))
   clear hb
   go_wp2
   go_ret2
   exact⟨rfl,HB4.out⟩
 ·rw[if_neg he]
  have he2:(e0 != 0)=true:=by rw[bne_iff_ne];exact he
  clear he
  unfold qbc em
  go_enter Tryz.func37,Tryz.ntmps37
  go_wp2_with fail
  (with_reducible refine(HA0.out _ (Below.refl _ w)).mono ?_)
  rintro e w1⟨rfl,hb⟩
  have HB1:=hid hb
  clear hb
  go_wp2_with fail
  (with_reducible refine(HI1.out _ HB1.out).mono ?_)
  rintro e w2⟨rfl,hb⟩
  have HB2:=hid (HB1.out.trans (hb.mono HB1.out.size))
  clear hb
  go_wp2
  go_ret2
  exact⟨rfl,HB2.out⟩
theorem qzs(v:Value)(l:List BA)(w:World)(hv:Rd w w.heap.size v l)(hl:Ord l) :
  Calls Tryz.prog 37 #[.string ⟨#[102,105,120,101,100]⟩,v] w fun e w'=>e=.returned (qbc (qai 14 [⟨0,0⟩,⟨2,0⟩] l))∧Below w.heap.size w w':=by
 rw[qli]
 have h0:=qbd (raw l 0)
 have s0:=hl.sz 0
 have s1:=hl.sz 1
 have s2:=hl.sz 2
 have s3:=hl.sz 3
 have HA0:=hid (fun(W:World) (hW:Below w.heap.size w W)=>show Calls Tryz.prog 27 #[v,.int .i64 0] W _ from qao v l 0 W (hv.up hW) (by omega) s0)
 have HR1:=hid (fun(W:World) (hW:Below w.heap.size w W)=>show Calls Tryz.prog 29 #[v,.int .i64 1] W _ from qbj v l 1 W (hv.up hW) (by omega))
 have HR2:=hid (fun(W:World) (hW:Below w.heap.size w W)=>show Calls Tryz.prog 29 #[v,.int .i64 2] W _ from qbj v l 2 W (hv.up hW) (by omega))
 have HA1:=hid (fun(W:World) (hW:Below w.heap.size w W)=>show Calls Tryz.prog 27 #[v,.int .i64 1] W _ from qao v l 1 W (hv.up hW) (by omega) s1)
 have HA2:=hid (fun(W:World) (hW:Below w.heap.size w W)=>show Calls Tryz.prog 27 #[v,.int .i64 2] W _ from qao v l 2 W (hv.up hW) (by omega) s2)
 have HI1:=hid (fun(W:World) (hW:Below w.heap.size w W)=>show Calls Tryz.prog 55 #[v,.int .i64 1,.int .i64 0] W _ from qa6 v l 1 0 W (hv.up hW) (by omega) s1)
 have hn:=qeo (x:=0) (by omega) (by omega) (trm (raw l 1))
 obtain⟨A,c,hvv,hlc,hcm,_⟩:=hv.ex
 obtain⟨S,hS⟩ : ∃ S,trm (raw l 0)=S:=⟨_,rfl⟩
 obtain⟨R1,hR1⟩ : ∃ S,raw l 1=S:=⟨_,rfl⟩
 obtain⟨R2,hR2⟩ : ∃ S,raw l 2=S:=⟨_,rfl⟩
 obtain⟨n0,e0,hi⟩ : ∃ n0 e0,qbi (trm (raw l 1)) 0=⟨n0,e0⟩:=⟨_,_,rfl⟩
 rw[hi] at HI1 hn ⊢
 rw[hS] at HA0 h0 ⊢
 clear hi hS hR1 hR2
 clear HR1 HR2 HA1 HA2
 simp only at hn HI1 ⊢
 have HEv:=hid (fun w=>Fo.qm2 S w)
 obtain⟨n,m,x,hev⟩ : ∃ n m x,Fo.ev S.data.toList=⟨n,m,x⟩:=⟨_,_,_,rfl⟩
 rw[hev] at HEv
 unfold Fo.res at HEv
 have HFx:=hid (fun w=>Nu.qrv n m n0 w)
 clear hv hl
 subst hvv
 by_cases he:e0=0
 ·subst he
  rw[if_pos rfl]
  unfold qbc
  unfold xap
  rw[hev]
  clear hev
  by_cases hx:x=0
  ·subst hx
   rw[if_pos rfl]
   go_enter Tryz.func37,Tryz.ntmps37
   go_wp2_with fail
   (with_reducible refine(HA0.out _ (Below.refl _ w)).mono ?_)
   rintro e w1⟨rfl,hb⟩
   have HB1:=hid hb
   clear hb
   go_wp2_with fail
   (with_reducible refine(HI1.out _ HB1.out).mono ?_)
   rintro e w2⟨rfl,hb⟩
   have HB2:=hid (HB1.out.trans (hb.mono HB1.out.size))
   clear hb
   go_wp2_with fail
   (with_reducible refine(HEv.out _).mono ?_)
   rintro e w3⟨rfl,hb⟩
   have HB3:=hid (HB2.out.trans (hb.mono HB2.out.size))
   clear hb
   have HX3:=hid (HB3.out.alloc HB3.out.size (.cells #[.int .i64 n,.int .i64 m] 63))
   go_wp2_with fail
   (with_reducible refine(HFx.out _).mono ?_)
   rintro e w4⟨rfl,hb⟩
   have HB4:=hid (HX3.out.trans (hb.mono HX3.out.size))
   clear hb
   go_wp2
   go_ret2
   exact⟨rfl,HB4.out⟩
  ·rw[if_neg hx]
   have hx2:(x != 0)=true:=by rw[bne_iff_ne];exact hx
   clear hx
   unfold em
   go_enter Tryz.func37,Tryz.ntmps37
   go_wp2_with fail
   (with_reducible refine(HA0.out _ (Below.refl _ w)).mono ?_)
   rintro e w1⟨rfl,hb⟩
   have HB1:=hid hb
   clear hb
   go_wp2_with fail
   (with_reducible refine(HI1.out _ HB1.out).mono ?_)
   rintro e w2⟨rfl,hb⟩
   have HB2:=hid (HB1.out.trans (hb.mono HB1.out.size))
   clear hb
   go_wp2_with fail
   (with_reducible refine(HEv.out _).mono ?_)
   rintro e w3⟨rfl,hb⟩
   have HB3:=hid (HB2.out.trans (hb.mono HB2.out.size))
   clear hb
   go_wp2
   go_ret2
   exact⟨rfl,HB3.out.alloc HB3.out.size _⟩
 ·rw[if_neg he]
  have he2:(e0 != 0)=true:=by rw[bne_iff_ne];exact he
  clear he
  unfold qbc em
  go_enter Tryz.func37,Tryz.ntmps37
  go_wp2_with fail
  (with_reducible refine(HA0.out _ (Below.refl _ w)).mono ?_)
  rintro e w1⟨rfl,hb⟩
  have HB1:=hid hb
  clear hb
  go_wp2_with fail
  (with_reducible refine(HI1.out _ HB1.out).mono ?_)
  rintro e w2⟨rfl,hb⟩
  have HB2:=hid (HB1.out.trans (hb.mono HB1.out.size))
  clear hb
  go_wp2
  go_ret2
  exact⟨rfl,HB2.out⟩
theorem qsg(v:Value)(l:List BA)(w:World)(hv:Rd w w.heap.size v l)(hl:Ord l) :
  Calls Tryz.prog 36 #[v] w fun e w'=>e=.returned (qbc (qai 15 [⟨0,0⟩,⟨2,0⟩,⟨0,0⟩] l))∧Below w.heap.size w w':=by
 rw[qhi]
 have h0:=qbd (raw l 0)
 have s0:=hl.sz 0
 have s1:=hl.sz 1
 have s2:=hl.sz 2
 have s3:=hl.sz 3
 have HA0:=hid (fun(W:World) (hW:Below w.heap.size w W)=>show Calls Tryz.prog 27 #[v,.int .i64 0] W _ from qao v l 0 W (hv.up hW) (by omega) s0)
 have HR1:=hid (fun(W:World) (hW:Below w.heap.size w W)=>show Calls Tryz.prog 29 #[v,.int .i64 1] W _ from qbj v l 1 W (hv.up hW) (by omega))
 have HR2:=hid (fun(W:World) (hW:Below w.heap.size w W)=>show Calls Tryz.prog 29 #[v,.int .i64 2] W _ from qbj v l 2 W (hv.up hW) (by omega))
 have HA1:=hid (fun(W:World) (hW:Below w.heap.size w W)=>show Calls Tryz.prog 27 #[v,.int .i64 1] W _ from qao v l 1 W (hv.up hW) (by omega) s1)
 have HA2:=hid (fun(W:World) (hW:Below w.heap.size w W)=>show Calls Tryz.prog 27 #[v,.int .i64 2] W _ from qao v l 2 W (hv.up hW) (by omega) s2)
 have HI1:=hid (fun(W:World) (hW:Below w.heap.size w W)=>show Calls Tryz.prog 55 #[v,.int .i64 1,.int .i64 0] W _ from qa6 v l 1 0 W (hv.up hW) (by omega) s1)
 have hn:=qeo (x:=0) (by omega) (by omega) (trm (raw l 1))
 obtain⟨A,c,hvv,hlc,hcm,_⟩:=hv.ex
 obtain⟨S,hS⟩ : ∃ S,trm (raw l 0)=S:=⟨_,rfl⟩
 obtain⟨R1,hR1⟩ : ∃ S,raw l 1=S:=⟨_,rfl⟩
 obtain⟨R2,hR2⟩ : ∃ S,raw l 2=S:=⟨_,rfl⟩
 obtain⟨n0,e0,hi⟩ : ∃ n0 e0,qbi (trm (raw l 1)) 0=⟨n0,e0⟩:=⟨_,_,rfl⟩
 rw[hi] at HI1 hn ⊢
 have h2:=qbd (raw l 2)
 obtain⟨T2,hT2⟩ : ∃ T,trm (raw l 2)=T:=⟨_,rfl⟩
 rw[hT2] at HA2 ⊢
 clear hT2 h2
 rw[hS] at HA0 h0 ⊢
 clear hi hS hR1 hR2
 clear HR1 HR2 HA1
 simp only at hn HI1 ⊢
 have HU:=hid (fun w=>q0q T2 w)
 have HP:=hid (fun w=>Ca.qd5 S w (by omega))
 have HF:=hid (fun(n:Int) w=>qp4 ⟨#[89,45,109,45,100,32,72,58,105]⟩ n w)
 obtain⟨u,hu⟩ : ∃ u,qet T2=u:=⟨_,rfl⟩
 obtain⟨n,x,hv0⟩ : ∃ n x,Ca.parse S.data.toList=⟨n,x⟩:=⟨_,_,rfl⟩
 rw[hu] at HU
 rw[hv0] at HP
 obtain⟨m,y,hm⟩ : ∃ m y,qyd n u n0=⟨m,y⟩:=⟨_,_,rfl⟩
 have HAd:=hid (fun w=>qk5 n u n0 w)
 rw[hm] at HAd
 clear hv hl
 subst hvv
 by_cases he:e0=0
 ·subst he
  rw[if_pos rfl]
  unfold qbc
  unfold qgn
  rw[hu,hv0]
  unfold xcu
  clear hu hv0
  by_cases hu0:u=0
  ·subst hu0
   rw[if_pos rfl]
   unfold em
   go_enter Tryz.func36,Tryz.ntmps36
   go_wp2_with fail
   (with_reducible refine(HI1.out _ (Below.refl _ w)).mono ?_)
   rintro e w1⟨rfl,hb⟩
   have HB1:=hid hb
   clear hb
   go_wp2_with fail
   (with_reducible refine(HA2.out _ HB1.out).mono ?_)
   rintro e w2⟨rfl,hb⟩
   have HB2:=hid (HB1.out.trans (hb.mono HB1.out.size))
   clear hb
   go_wp2_with fail
   (with_reducible refine(HU.out _).mono ?_)
   rintro e w3⟨rfl,hb⟩
   have HB3:=hid (HB2.out.trans (hb.mono HB2.out.size))
   clear hb
   go_wp2
   go_ret2
   exact⟨rfl,HB3.out⟩
  ·rw[if_neg hu0]
   have hu2:(u==0)=false:=by rw[beq_eq_false_iff_ne];exact hu0
   clear hu0
   simp only
   by_cases hx:x=0
   ·subst hx
    rw[if_pos rfl]
    rw[hm]
    clear hm
    by_cases hy:y=0
    ·subst hy
     rw[if_pos rfl]
     go_enter Tryz.func36,Tryz.ntmps36
     go_wp2_with fail
     (with_reducible refine(HI1.out _ (Below.refl _ w)).mono ?_)
     rintro e w1⟨rfl,hb⟩
     have HB1:=hid hb
     clear hb
     go_wp2_with fail
     (with_reducible refine(HA2.out _ HB1.out).mono ?_)
     rintro e w2⟨rfl,hb⟩
     have HB2:=hid (HB1.out.trans (hb.mono HB1.out.size))
     clear hb
     go_wp2_with fail
     (with_reducible refine(HU.out _).mono ?_)
     rintro e w3⟨rfl,hb⟩
     have HB3:=hid (HB2.out.trans (hb.mono HB2.out.size))
     clear hb
     go_wp2_with fail
     (with_reducible refine(HA0.out _ HB3.out).mono ?_)
     rintro e w4⟨rfl,hb⟩
     have HB4:=hid (HB3.out.trans (hb.mono HB3.out.size))
     clear hb
     go_wp2_with fail
     (with_reducible refine(HP.out _).mono ?_)
     rintro e w5⟨rfl,hb⟩
     have HB5:=hid (HB4.out.trans (hb.mono HB4.out.size))
     clear hb
     go_wp2_with fail
     (with_reducible refine(HAd.out _).mono ?_)
     rintro e w6⟨rfl,hb⟩
     have HB6:=hid (HB5.out.trans (hb.mono HB5.out.size))
     clear hb
     go_wp2_with fail
     (with_reducible refine(HF.out m _).mono ?_)
     rintro e w7⟨rfl,hb⟩
     have HB7:=hid (HB6.out.trans (hb.mono HB6.out.size))
     clear hb
     go_wp2
     go_ret2
     exact⟨rfl,HB7.out⟩
    ·rw[if_neg hy]
     have hy2:(y != 0)=true:=by rw[bne_iff_ne];exact hy
     clear hy
     unfold em
     go_enter Tryz.func36,Tryz.ntmps36
     go_wp2_with fail
     (with_reducible refine(HI1.out _ (Below.refl _ w)).mono ?_)
     rintro e w1⟨rfl,hb⟩
     have HB1:=hid hb
     clear hb
     go_wp2_with fail
     (with_reducible refine(HA2.out _ HB1.out).mono ?_)
     rintro e w2⟨rfl,hb⟩
     have HB2:=hid (HB1.out.trans (hb.mono HB1.out.size))
     clear hb
     go_wp2_with fail
     (with_reducible refine(HU.out _).mono ?_)
     rintro e w3⟨rfl,hb⟩
     have HB3:=hid (HB2.out.trans (hb.mono HB2.out.size))
     clear hb
     go_wp2_with fail
     (with_reducible refine(HA0.out _ HB3.out).mono ?_)
     rintro e w4⟨rfl,hb⟩
     have HB4:=hid (HB3.out.trans (hb.mono HB3.out.size))
     clear hb
     go_wp2_with fail
     (with_reducible refine(HP.out _).mono ?_)
     rintro e w5⟨rfl,hb⟩
     have HB5:=hid (HB4.out.trans (hb.mono HB4.out.size))
     clear hb
     go_wp2_with fail
     (with_reducible refine(HAd.out _).mono ?_)
     rintro e w6⟨rfl,hb⟩
     have HB6:=hid (HB5.out.trans (hb.mono HB5.out.size))
     clear hb
     go_wp2
     go_ret2
     exact⟨rfl,HB6.out⟩
   ·rw[if_neg hx]
    have hx2:(x != 0)=true:=by rw[bne_iff_ne];exact hx
    clear hx
    unfold em
    go_enter Tryz.func36,Tryz.ntmps36
    go_wp2_with fail
    (with_reducible refine(HI1.out _ (Below.refl _ w)).mono ?_)
    rintro e w1⟨rfl,hb⟩
    have HB1:=hid hb
    clear hb
    go_wp2_with fail
    (with_reducible refine(HA2.out _ HB1.out).mono ?_)
    rintro e w2⟨rfl,hb⟩
    have HB2:=hid (HB1.out.trans (hb.mono HB1.out.size))
    clear hb
    go_wp2_with fail
    (with_reducible refine(HU.out _).mono ?_)
    rintro e w3⟨rfl,hb⟩
    have HB3:=hid (HB2.out.trans (hb.mono HB2.out.size))
    clear hb
    go_wp2_with fail
    (with_reducible refine(HA0.out _ HB3.out).mono ?_)
    rintro e w4⟨rfl,hb⟩
    have HB4:=hid (HB3.out.trans (hb.mono HB3.out.size))
    clear hb
    go_wp2_with fail
    (with_reducible refine(HP.out _).mono ?_)
    rintro e w5⟨rfl,hb⟩
    have HB5:=hid (HB4.out.trans (hb.mono HB4.out.size))
    clear hb
    go_wp2
    go_ret2
    exact⟨rfl,HB5.out⟩
 ·rw[if_neg he]
  have he2:(e0 != 0)=true:=by rw[bne_iff_ne];exact he
  clear he
  unfold qbc em
  go_enter Tryz.func36,Tryz.ntmps36
  go_wp2_with fail
  (with_reducible refine(HI1.out _ (Below.refl _ w)).mono ?_)
  rintro e w1⟨rfl,hb⟩
  have HB1:=hid hb
  clear hb
  go_wp2
  go_ret2
  exact⟨rfl,HB1.out⟩
theorem xbm(v:Value)(l:List BA)(w:World)(hv:Rd w w.heap.size v l)(hl:Ord l) :
  Calls Tryz.prog 37 #[.string ⟨#[115,117,98]⟩,v] w fun e w'=>e=.returned (qbc (qai 1 [⟨0,0⟩,⟨2,0⟩,⟨2,32768⟩] l))∧Below w.heap.size w w':=by
 rw[qkh]
 have h0:=qbd (raw l 0)
 have s0:=hl.sz 0
 have s1:=hl.sz 1
 have s2:=hl.sz 2
 have s3:=hl.sz 3
 have HA0:=hid (fun(W:World) (hW:Below w.heap.size w W)=>show Calls Tryz.prog 27 #[v,.int .i64 0] W _ from qao v l 0 W (hv.up hW) (by omega) s0)
 have HR1:=hid (fun(W:World) (hW:Below w.heap.size w W)=>show Calls Tryz.prog 29 #[v,.int .i64 1] W _ from qbj v l 1 W (hv.up hW) (by omega))
 have HR2:=hid (fun(W:World) (hW:Below w.heap.size w W)=>show Calls Tryz.prog 29 #[v,.int .i64 2] W _ from qbj v l 2 W (hv.up hW) (by omega))
 have HA1:=hid (fun(W:World) (hW:Below w.heap.size w W)=>show Calls Tryz.prog 27 #[v,.int .i64 1] W _ from qao v l 1 W (hv.up hW) (by omega) s1)
 have HA2:=hid (fun(W:World) (hW:Below w.heap.size w W)=>show Calls Tryz.prog 27 #[v,.int .i64 2] W _ from qao v l 2 W (hv.up hW) (by omega) s2)
 have HI1:=hid (fun(W:World) (hW:Below w.heap.size w W)=>show Calls Tryz.prog 55 #[v,.int .i64 1,.int .i64 0] W _ from qa6 v l 1 0 W (hv.up hW) (by omega) s1)
 have HI2:=hid (fun(W:World) (hW:Below w.heap.size w W)=>show Calls Tryz.prog 55 #[v,.int .i64 2,.int .i64 32768] W _ from qa6 v l 2 32768 W (hv.up hW) (by omega) s2)
 have hn:=qeo (x:=0) (by omega) (by omega) (trm (raw l 1))
 have hn2:=qeo (x:=32768) (by omega) (by omega) (trm (raw l 2))
 obtain⟨A,c,hvv,hlc,hcm,_⟩:=hv.ex
 obtain⟨S,hS⟩ : ∃ S,trm (raw l 0)=S:=⟨_,rfl⟩
 obtain⟨R1,hR1⟩ : ∃ S,raw l 1=S:=⟨_,rfl⟩
 obtain⟨R2,hR2⟩ : ∃ S,raw l 2=S:=⟨_,rfl⟩
 obtain⟨n0,e0,hi⟩ : ∃ n0 e0,qbi (trm (raw l 1)) 0=⟨n0,e0⟩:=⟨_,_,rfl⟩
 obtain⟨n2,e2,hi2⟩ : ∃ n0 e0,qbi (trm (raw l 2)) 32768=⟨n0,e0⟩:=⟨_,_,rfl⟩
 rw[hi] at HI1 hn ⊢
 rw[hi2] at HI2 hn2 ⊢
 rw[hS] at HA0 h0 ⊢
 clear hi hi2 hS hR1 hR2 HR1 HR2 HA1 HA2
 simp only at hn hn2 HI1 HI2 ⊢
 have HSl:=hid (fun w=>Sf.qr1 S n0 n2 w (by omega) (by unfold Sf.I64;omega) (by unfold Sf.I64;omega))
 clear hv hl
 subst hvv
 by_cases he:e0=0
 ·subst he
  rw[if_pos rfl]
  by_cases he2:e2=0
  ·subst he2
   rw[if_pos rfl]
   unfold qbc
   go_enter Tryz.func37,Tryz.ntmps37
   go_wp2_with fail
   (with_reducible refine(HA0.out _ (Below.refl _ w)).mono ?_)
   rintro e w1⟨rfl,hb⟩
   have HB1:=hid hb
   clear hb
   go_wp2_with fail
   (with_reducible refine(HI1.out _ HB1.out).mono ?_)
   rintro e w2⟨rfl,hb⟩
   have HB2:=hid (HB1.out.trans (hb.mono HB1.out.size))
   clear hb
   go_wp2_with fail
   (with_reducible refine(HI2.out _ HB2.out).mono ?_)
   rintro e w3⟨rfl,hb⟩
   have HB3:=hid (HB2.out.trans (hb.mono HB2.out.size))
   clear hb
   go_wp2_with fail
   (with_reducible refine(HSl.out _).mono ?_)
   rintro e w4⟨rfl,hb⟩
   have HB4:=hid (HB3.out.trans (hb.mono HB3.out.size))
   clear hb
   go_wp2
   go_ret2
   exact⟨rfl,HB4.out⟩
  ·rw[if_neg he2]
   have he3:(e2 != 0)=true:=by rw[bne_iff_ne];exact he2
   clear he2
   unfold qbc em
   go_enter Tryz.func37,Tryz.ntmps37
   go_wp2_with fail
   (with_reducible refine(HA0.out _ (Below.refl _ w)).mono ?_)
   rintro e w1⟨rfl,hb⟩
   have HB1:=hid hb
   clear hb
   go_wp2_with fail
   (with_reducible refine(HI1.out _ HB1.out).mono ?_)
   rintro e w2⟨rfl,hb⟩
   have HB2:=hid (HB1.out.trans (hb.mono HB1.out.size))
   clear hb
   go_wp2_with fail
   (with_reducible refine(HI2.out _ HB2.out).mono ?_)
   rintro e w3⟨rfl,hb⟩
   have HB3:=hid (HB2.out.trans (hb.mono HB2.out.size))
   clear hb
   go_wp2
   go_ret2
   exact⟨rfl,HB3.out⟩
 ·rw[if_neg he]
  have he3:(e0 != 0)=true:=by rw[bne_iff_ne];exact he
  clear he
  unfold qbc em
  go_enter Tryz.func37,Tryz.ntmps37
  go_wp2_with fail
  (with_reducible refine(HA0.out _ (Below.refl _ w)).mono ?_)
  rintro e w1⟨rfl,hb⟩
  have HB1:=hid hb
  clear hb
  go_wp2_with fail
  (with_reducible refine(HI1.out _ HB1.out).mono ?_)
  rintro e w2⟨rfl,hb⟩
  have HB2:=hid (HB1.out.trans (hb.mono HB1.out.size))
  clear hb
  go_wp2_with fail
  (with_reducible refine(HI2.out _ HB2.out).mono ?_)
  rintro e w3⟨rfl,hb⟩
  have HB3:=hid (HB2.out.trans (hb.mono HB2.out.size))
  clear hb
  go_wp2
  go_ret2
  exact⟨rfl,HB3.out⟩
end Go.Proofs.YtldkgbnmaefaaaaGreatDoor.Fu
