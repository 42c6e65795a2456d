import Derived.Test.YtldkgbnmaefaaaaGreatDoorFuG6
set_option maxRecDepth 100000
set_option maxHeartbeats 4000000
namespace Go.Proofs.YtldkgbnmaefaaaaGreatDoor.Fu
open Go.RowKit
set_option linter.unusedVariables false
set_option linter.unusedSimpArgs false
theorem qux(v:Value)(l:List BA)(w:World)(hv:Rd w w.heap.size v l)(hl:Ord l) :
  Calls Tryz.prog 12 #[.string ⟨#[108,101,110]⟩,v] w fun e w'=>e=.returned (qbb (qa0 0 [⟨0,0⟩] l))∧Below w.heap.size w w':=by
 rw[q7k]
 have HK:=Lib.hid (fun w=>qat ⟨#[108,101,110]⟩ true (fun _=>rfl) (fun h=>absurd rfl (h _ (List.mem_of_getElem? (i:=6) rfl))) w)
 have hlen:=hl.len
 have HSZ:=Lib.hid hl.sz
 have s0:=hl.sz 0
 have s1:=hl.sz 1
 have h0:=qbh (raw l 0)
 have HA0:=Lib.hid (fun(W:World) (hW:Below w.heap.size w W)=>show Calls Tryz.prog 27 #[v,.int .i64 0] W _ from qan v l 0 W (hv.up hW) (by omega) s0)
 obtain⟨A,c,hvv,hlc,hcm,hcell⟩:=hv.ex
 unfold maxLen at hcm
 have HC:=Lib.hid hcell
 have hd1 : ¬ (40:Int)<(l.length:Int):=by omega
 obtain⟨S,hS⟩ : ∃ S,trm (raw l 0)=S:=⟨_,rfl⟩
 rw[hS] at HA0 h0 ⊢
 clear hS
 have hr:=Sf.qe2 S
 have HL:=Lib.hid (fun w=>Sf.qfn S w (by omega))
 have HD:=Lib.hid (fun w=>Nu.qdy (Sf.rc S:Int) w (by omega))
 clear hv hl hcell
 subst hvv
 unfold qbb
 go_enter Tryz.func12,Tryz.ntmps12
 go_wp2_with fail
 (with_reducible refine(HK.out _).mono ?_)
 rintro e w1⟨rfl,hb⟩
 have HB1:=Lib.hid hb
 clear hb HK
 go_wp2_with fail
 go_loop [6] (fun i => ∃ k:Nat,i=.int .i64 (k:Int)∧k≤l.length) (fun i=>l.length-(intOf i).toNat)
 case atStart=>exact⟨0,by go_num,Nat.zero_le _⟩
 case round =>
  obtain⟨k,rfl,hk⟩:=hrel
  by_cases hlt:k<l.length
  ·have hki:(k:Int)<(l.length:Int):=by omega
   obtain⟨g,o,rfl,hg,hcl⟩:=HC.out (by omega)
   have c0:=(HB1.out.cell (p:=⟨g,o+k,none⟩) hg).trans (hcl k l[k] (List.getElem?_eq_getElem hlt))
   have hsz:=HSZ.out k
   rw[qbx hlt] at hsz
   have hgw:g<w1.heap.size:=by have:=HB1.out.size;omega
   clear hcl
   generalize l[k]=S at c0 hsz
   have hS2 : ¬ (32768:Int)<(S.size:Int):=by omega
   go_wp2
   go_round
   case rel=>exact⟨k+1,by go_num,by omega⟩
   case measure=>simp[intOf];omega
  ·have hki : ¬ (k:Int)<(l.length:Int):=by omega
   go_wp2_with fail
   (with_reducible refine(HA0.out _ HB1.out).mono ?_)
   rintro e w2⟨rfl,hb⟩
   have HB2:=Lib.hid (HB1.out.trans (hb.mono HB1.out.size))
   clear hb
   go_wp2_with fail
   (with_reducible refine(HL.out _).mono ?_)
   rintro e w3⟨rfl,hb⟩
   have HB3:=Lib.hid (HB2.out.trans (hb.mono HB2.out.size))
   clear hb
   go_wp2_with fail
   (with_reducible refine(HD.out _).mono ?_)
   rintro e w4⟨rfl,hb⟩
   have HB4:=Lib.hid (HB3.out.trans (hb.mono HB3.out.size))
   clear hb
   go_wp2
   go_ret2
   exact⟨rfl,HB4.out⟩
theorem qmr(v:Value)(l:List BA)(w:World)(hv:Rd w w.heap.size v l)(hl:Ord l) :
  Calls Tryz.prog 12 #[.string ⟨#[111,99,99,117,114,115]⟩,v] w fun e w'=>e=.returned (qbb (qa0 2 [⟨0,0⟩,⟨1,0⟩] l))∧Below w.heap.size w w':=by
 rw[qs2]
 have HK:=Lib.hid (fun w=>qat ⟨#[111,99,99,117,114,115]⟩ true (fun _=>rfl) (fun h=>absurd rfl (h _ (List.mem_of_getElem? (i:=7) rfl))) w)
 have hlen:=hl.len
 have HSZ:=Lib.hid hl.sz
 have s0:=hl.sz 0
 have s1:=hl.sz 1
 have h0:=qbh (raw l 0)
 have HA0:=Lib.hid (fun(W:World) (hW:Below w.heap.size w W)=>show Calls Tryz.prog 27 #[v,.int .i64 0] W _ from qan v l 0 W (hv.up hW) (by omega) s0)
 obtain⟨A,c,hvv,hlc,hcm,hcell⟩:=hv.ex
 unfold maxLen at hcm
 have HC:=Lib.hid hcell
 have hd1 : ¬ (40:Int)<(l.length:Int):=by omega
 obtain⟨S,hS⟩ : ∃ S,trm (raw l 0)=S:=⟨_,rfl⟩
 rw[hS] at HA0 h0 ⊢
 clear hS
 have HR1:=Lib.hid (fun(W:World) (hW:Below w.heap.size w W)=>show Calls Tryz.prog 29 #[v,.int .i64 1] W _ from qbg v l 1 W (hv.up hW) (by omega))
 obtain⟨R1,hR1⟩ : ∃ S,raw l 1=S:=⟨_,rfl⟩
 rw[hR1] at HR1 s1 ⊢
 clear hR1
 have ho:=Sf.qdd S R1
 have HL:=Lib.hid (fun w=>Sf.qqn S R1 w (by omega) (by omega))
 have HD:=Lib.hid (fun w=>Nu.qdy ((Sf.occ S R1).length:Int) w (by omega))
 clear hv hl hcell
 subst hvv
 unfold qbb
 go_enter Tryz.func12,Tryz.ntmps12
 go_wp2_with fail
 (with_reducible refine(HK.out _).mono ?_)
 rintro e w1⟨rfl,hb⟩
 have HB1:=Lib.hid hb
 clear hb HK
 go_wp2_with fail
 go_loop [6] (fun i => ∃ k:Nat,i=.int .i64 (k:Int)∧k≤l.length) (fun i=>l.length-(intOf i).toNat)
 case atStart=>exact⟨0,by go_num,Nat.zero_le _⟩
 case round =>
  obtain⟨k,rfl,hk⟩:=hrel
  by_cases hlt:k<l.length
  ·have hki:(k:Int)<(l.length:Int):=by omega
   obtain⟨g,o,rfl,hg,hcl⟩:=HC.out (by omega)
   have c0:=(HB1.out.cell (p:=⟨g,o+k,none⟩) hg).trans (hcl k l[k] (List.getElem?_eq_getElem hlt))
   have hsz:=HSZ.out k
   rw[qbx hlt] at hsz
   have hgw:g<w1.heap.size:=by have:=HB1.out.size;omega
   clear hcl
   generalize l[k]=S at c0 hsz
   have hS2 : ¬ (32768:Int)<(S.size:Int):=by omega
   go_wp2
   go_round
   case rel=>exact⟨k+1,by go_num,by omega⟩
   case measure=>simp[intOf];omega
  ·have hki : ¬ (k:Int)<(l.length:Int):=by omega
   go_wp2_with fail
   (with_reducible refine(HA0.out _ HB1.out).mono ?_)
   rintro e w2⟨rfl,hb⟩
   have HB2:=Lib.hid (HB1.out.trans (hb.mono HB1.out.size))
   clear hb
   go_wp2_with fail
   (with_reducible refine(HR1.out _ HB2.out).mono ?_)
   rintro e w3⟨rfl,rfl⟩
   go_wp2_with fail
   (with_reducible refine(HL.out _).mono ?_)
   rintro e w4⟨rfl,hb⟩
   have HB4:=Lib.hid (HB2.out.trans (hb.mono HB2.out.size))
   clear hb
   go_wp2_with fail
   (with_reducible refine(HD.out _).mono ?_)
   rintro e w5⟨rfl,hb⟩
   have HB5:=Lib.hid (HB4.out.trans (hb.mono HB4.out.size))
   clear hb
   go_wp2
   go_ret2
   exact⟨rfl,HB5.out⟩
theorem qx0(v:Value)(l:List BA)(w:World)(hv:Rd w w.heap.size v l)(hl:Ord l) :
  Calls Tryz.prog 12 #[.string ⟨#[108,99]⟩,v] w fun e w'=>e=.returned (qbb (qa0 7 [⟨0,0⟩] l))∧Below w.heap.size w w':=by
 rw[xa7]
 have HK:=Lib.hid (fun w=>qat ⟨#[108,99]⟩ true (fun _=>rfl) (fun h=>absurd rfl (h _ (List.mem_of_getElem? (i:=4) rfl))) w)
 have hlen:=hl.len
 have HSZ:=Lib.hid hl.sz
 have s0:=hl.sz 0
 have s1:=hl.sz 1
 have h0:=qbh (raw l 0)
 have HA0:=Lib.hid (fun(W:World) (hW:Below w.heap.size w W)=>show Calls Tryz.prog 27 #[v,.int .i64 0] W _ from qan v l 0 W (hv.up hW) (by omega) s0)
 obtain⟨A,c,hvv,hlc,hcm,hcell⟩:=hv.ex
 unfold maxLen at hcm
 have HC:=Lib.hid hcell
 have hd1 : ¬ (40:Int)<(l.length:Int):=by omega
 obtain⟨S,hS⟩ : ∃ S,trm (raw l 0)=S:=⟨_,rfl⟩
 rw[hS] at HA0 h0 ⊢
 clear hS
 have HL:=Lib.hid (fun w=>Sf.qqs S w (by omega))
 clear hv hl hcell
 subst hvv
 unfold qbb
 go_enter Tryz.func12,Tryz.ntmps12
 go_wp2_with fail
 (with_reducible refine(HK.out _).mono ?_)
 rintro e w1⟨rfl,hb⟩
 have HB1:=Lib.hid hb
 clear hb HK
 go_wp2_with fail
 go_loop [6] (fun i => ∃ k:Nat,i=.int .i64 (k:Int)∧k≤l.length) (fun i=>l.length-(intOf i).toNat)
 case atStart=>exact⟨0,by go_num,Nat.zero_le _⟩
 case round =>
  obtain⟨k,rfl,hk⟩:=hrel
  by_cases hlt:k<l.length
  ·have hki:(k:Int)<(l.length:Int):=by omega
   obtain⟨g,o,rfl,hg,hcl⟩:=HC.out (by omega)
   have c0:=(HB1.out.cell (p:=⟨g,o+k,none⟩) hg).trans (hcl k l[k] (List.getElem?_eq_getElem hlt))
   have hsz:=HSZ.out k
   rw[qbx hlt] at hsz
   have hgw:g<w1.heap.size:=by have:=HB1.out.size;omega
   clear hcl
   generalize l[k]=S at c0 hsz
   have hS2 : ¬ (32768:Int)<(S.size:Int):=by omega
   go_wp2
   go_round
   case rel=>exact⟨k+1,by go_num,by omega⟩
   case measure=>simp[intOf];omega
  ·have hki : ¬ (k:Int)<(l.length:Int):=by omega
   go_wp2_with fail
   (with_reducible refine(HA0.out _ HB1.out).mono ?_)
   rintro e w2⟨rfl,hb⟩
   have HB2:=Lib.hid (HB1.out.trans (hb.mono HB1.out.size))
   clear hb
   go_wp2_with fail
   (with_reducible refine(HL.out _).mono ?_)
   rintro e w3⟨rfl,hb⟩
   have HB3:=Lib.hid (HB2.out.trans (hb.mono HB2.out.size))
   clear hb
   go_wp2
   go_ret2
   exact⟨rfl,HB3.out⟩
theorem qx1(v:Value)(l:List BA)(w:World)(hv:Rd w w.heap.size v l)(hl:Ord l) :
  Calls Tryz.prog 12 #[.string ⟨#[117,99]⟩,v] w fun e w'=>e=.returned (qbb (qa0 8 [⟨0,0⟩] l))∧Below w.heap.size w w':=by
 rw[xa8]
 have HK:=Lib.hid (fun w=>qat ⟨#[117,99]⟩ true (fun _=>rfl) (fun h=>absurd rfl (h _ (List.mem_of_getElem? (i:=15) rfl))) w)
 have hlen:=hl.len
 have HSZ:=Lib.hid hl.sz
 have s0:=hl.sz 0
 have s1:=hl.sz 1
 have h0:=qbh (raw l 0)
 have HA0:=Lib.hid (fun(W:World) (hW:Below w.heap.size w W)=>show Calls Tryz.prog 27 #[v,.int .i64 0] W _ from qan v l 0 W (hv.up hW) (by omega) s0)
 obtain⟨A,c,hvv,hlc,hcm,hcell⟩:=hv.ex
 unfold maxLen at hcm
 have HC:=Lib.hid hcell
 have hd1 : ¬ (40:Int)<(l.length:Int):=by omega
 obtain⟨S,hS⟩ : ∃ S,trm (raw l 0)=S:=⟨_,rfl⟩
 rw[hS] at HA0 h0 ⊢
 clear hS
 have HL:=Lib.hid (fun w=>Sf.qqx S w (by omega))
 clear hv hl hcell
 subst hvv
 unfold qbb
 go_enter Tryz.func12,Tryz.ntmps12
 go_wp2_with fail
 (with_reducible refine(HK.out _).mono ?_)
 rintro e w1⟨rfl,hb⟩
 have HB1:=Lib.hid hb
 clear hb HK
 go_wp2_with fail
 go_loop [6] (fun i => ∃ k:Nat,i=.int .i64 (k:Int)∧k≤l.length) (fun i=>l.length-(intOf i).toNat)
 case atStart=>exact⟨0,by go_num,Nat.zero_le _⟩
 case round =>
  obtain⟨k,rfl,hk⟩:=hrel
  by_cases hlt:k<l.length
  ·have hki:(k:Int)<(l.length:Int):=by omega
   obtain⟨g,o,rfl,hg,hcl⟩:=HC.out (by omega)
   have c0:=(HB1.out.cell (p:=⟨g,o+k,none⟩) hg).trans (hcl k l[k] (List.getElem?_eq_getElem hlt))
   have hsz:=HSZ.out k
   rw[qbx hlt] at hsz
   have hgw:g<w1.heap.size:=by have:=HB1.out.size;omega
   clear hcl
   generalize l[k]=S at c0 hsz
   have hS2 : ¬ (32768:Int)<(S.size:Int):=by omega
   go_wp2
   go_round
   case rel=>exact⟨k+1,by go_num,by omega⟩
   case measure=>simp[intOf];omega
  ·have hki : ¬ (k:Int)<(l.length:Int):=by omega
   go_wp2_with fail
   (with_reducible refine(HA0.out _ HB1.out).mono ?_)
   rintro e w2⟨rfl,hb⟩
   have HB2:=Lib.hid (HB1.out.trans (hb.mono HB1.out.size))
   clear hb
   go_wp2_with fail
   (with_reducible refine(HL.out _).mono ?_)
   rintro e w3⟨rfl,hb⟩
   have HB3:=Lib.hid (HB2.out.trans (hb.mono HB2.out.size))
   clear hb
   go_wp2
   go_ret2
   exact⟨rfl,HB3.out⟩
theorem qk4(v:Value)(l:List BA)(w:World)(hv:Rd w w.heap.size v l)(hl:Ord l) :
  Calls Tryz.prog 12 #[.string ⟨#[108,99,102,105,114,115,116]⟩,v] w fun e w'=>e=.returned (qbb (qa0 9 [⟨0,0⟩] l))∧Below w.heap.size w w':=by
 rw[qq0]
 have HK:=Lib.hid (fun w=>qat ⟨#[108,99,102,105,114,115,116]⟩ true (fun _=>rfl) (fun h=>absurd rfl (h _ (List.mem_of_getElem? (i:=5) rfl))) w)
 have hlen:=hl.len
 have HSZ:=Lib.hid hl.sz
 have s0:=hl.sz 0
 have s1:=hl.sz 1
 have h0:=qbh (raw l 0)
 have HA0:=Lib.hid (fun(W:World) (hW:Below w.heap.size w W)=>show Calls Tryz.prog 27 #[v,.int .i64 0] W _ from qan v l 0 W (hv.up hW) (by omega) s0)
 obtain⟨A,c,hvv,hlc,hcm,hcell⟩:=hv.ex
 unfold maxLen at hcm
 have HC:=Lib.hid hcell
 have hd1 : ¬ (40:Int)<(l.length:Int):=by omega
 obtain⟨S,hS⟩ : ∃ S,trm (raw l 0)=S:=⟨_,rfl⟩
 rw[hS] at HA0 h0 ⊢
 clear hS
 have HL:=Lib.hid (fun w=>Sf.qjc S false w (by omega))
 clear hv hl hcell
 subst hvv
 unfold qbb
 go_enter Tryz.func12,Tryz.ntmps12
 go_wp2_with fail
 (with_reducible refine(HK.out _).mono ?_)
 rintro e w1⟨rfl,hb⟩
 have HB1:=Lib.hid hb
 clear hb HK
 go_wp2_with fail
 go_loop [6] (fun i => ∃ k:Nat,i=.int .i64 (k:Int)∧k≤l.length) (fun i=>l.length-(intOf i).toNat)
 case atStart=>exact⟨0,by go_num,Nat.zero_le _⟩
 case round =>
  obtain⟨k,rfl,hk⟩:=hrel
  by_cases hlt:k<l.length
  ·have hki:(k:Int)<(l.length:Int):=by omega
   obtain⟨g,o,rfl,hg,hcl⟩:=HC.out (by omega)
   have c0:=(HB1.out.cell (p:=⟨g,o+k,none⟩) hg).trans (hcl k l[k] (List.getElem?_eq_getElem hlt))
   have hsz:=HSZ.out k
   rw[qbx hlt] at hsz
   have hgw:g<w1.heap.size:=by have:=HB1.out.size;omega
   clear hcl
   generalize l[k]=S at c0 hsz
   have hS2 : ¬ (32768:Int)<(S.size:Int):=by omega
   go_wp2
   go_round
   case rel=>exact⟨k+1,by go_num,by omega⟩
   case measure=>simp[intOf];omega
  ·have hki : ¬ (k:Int)<(l.length:Int):=by omega
   go_wp2_with fail
   (with_reducible refine(HA0.out _ HB1.out).mono ?_)
   rintro e w2⟨rfl,hb⟩
   have HB2:=Lib.hid (HB1.out.trans (hb.mono HB1.out.size))
   clear hb
   go_wp2_with fail
   (with_reducible refine(HL.out _).mono ?_)
   rintro e w3⟨rfl,hb⟩
   have HB3:=Lib.hid (HB2.out.trans (hb.mono HB2.out.size))
   clear hb
   go_wp2
   go_ret2
   exact⟨rfl,HB3.out⟩
theorem qk7(v:Value)(l:List BA)(w:World)(hv:Rd w w.heap.size v l)(hl:Ord l) :
  Calls Tryz.prog 12 #[.string ⟨#[117,99,102,105,114,115,116]⟩,v] w fun e w'=>e=.returned (qbb (qa0 10 [⟨0,0⟩] l))∧Below w.heap.size w w':=by
 rw[qq3]
 have HK:=Lib.hid (fun w=>qat ⟨#[117,99,102,105,114,115,116]⟩ true (fun _=>rfl) (fun h=>absurd rfl (h _ (List.mem_of_getElem? (i:=16) rfl))) w)
 have hlen:=hl.len
 have HSZ:=Lib.hid hl.sz
 have s0:=hl.sz 0
 have s1:=hl.sz 1
 have h0:=qbh (raw l 0)
 have HA0:=Lib.hid (fun(W:World) (hW:Below w.heap.size w W)=>show Calls Tryz.prog 27 #[v,.int .i64 0] W _ from qan v l 0 W (hv.up hW) (by omega) s0)
 obtain⟨A,c,hvv,hlc,hcm,hcell⟩:=hv.ex
 unfold maxLen at hcm
 have HC:=Lib.hid hcell
 have hd1 : ¬ (40:Int)<(l.length:Int):=by omega
 obtain⟨S,hS⟩ : ∃ S,trm (raw l 0)=S:=⟨_,rfl⟩
 rw[hS] at HA0 h0 ⊢
 clear hS
 have HL:=Lib.hid (fun w=>Sf.qjc S true w (by omega))
 clear hv hl hcell
 subst hvv
 unfold qbb
 go_enter Tryz.func12,Tryz.ntmps12
 go_wp2_with fail
 (with_reducible refine(HK.out _).mono ?_)
 rintro e w1⟨rfl,hb⟩
 have HB1:=Lib.hid hb
 clear hb HK
 go_wp2_with fail
 go_loop [6] (fun i => ∃ k:Nat,i=.int .i64 (k:Int)∧k≤l.length) (fun i=>l.length-(intOf i).toNat)
 case atStart=>exact⟨0,by go_num,Nat.zero_le _⟩
 case round =>
  obtain⟨k,rfl,hk⟩:=hrel
  by_cases hlt:k<l.length
  ·have hki:(k:Int)<(l.length:Int):=by omega
   obtain⟨g,o,rfl,hg,hcl⟩:=HC.out (by omega)
   have c0:=(HB1.out.cell (p:=⟨g,o+k,none⟩) hg).trans (hcl k l[k] (List.getElem?_eq_getElem hlt))
   have hsz:=HSZ.out k
   rw[qbx hlt] at hsz
   have hgw:g<w1.heap.size:=by have:=HB1.out.size;omega
   clear hcl
   generalize l[k]=S at c0 hsz
   have hS2 : ¬ (32768:Int)<(S.size:Int):=by omega
   go_wp2
   go_round
   case rel=>exact⟨k+1,by go_num,by omega⟩
   case measure=>simp[intOf];omega
  ·have hki : ¬ (k:Int)<(l.length:Int):=by omega
   go_wp2_with fail
   (with_reducible refine(HA0.out _ HB1.out).mono ?_)
   rintro e w2⟨rfl,hb⟩
   have HB2:=Lib.hid (HB1.out.trans (hb.mono HB1.out.size))
   clear hb
   go_wp2_with fail
   (with_reducible refine(HL.out _).mono ?_)
   rintro e w3⟨rfl,hb⟩
   have HB3:=Lib.hid (HB2.out.trans (hb.mono HB2.out.size))
   clear hb
   go_wp2
   go_ret2
   exact⟨rfl,HB3.out⟩
theorem qrj(v:Value)(l:List BA)(w:World)(hv:Rd w w.heap.size v l)(hl:Ord l) :
  Calls Tryz.prog 12 #[.string ⟨#[116,114,105,109]⟩,v] w fun e w'=>e=.returned (qbb (qa0 11 [⟨0,0⟩] l))∧Below w.heap.size w w':=by
 rw[q1x]
 have HK:=Lib.hid (fun w=>qat ⟨#[116,114,105,109]⟩ true (fun _=>rfl) (fun h=>absurd rfl (h _ (List.mem_of_getElem? (i:=14) rfl))) w)
 have hlen:=hl.len
 have HSZ:=Lib.hid hl.sz
 have s0:=hl.sz 0
 have s1:=hl.sz 1
 have h0:=qbh (raw l 0)
 have HA0:=Lib.hid (fun(W:World) (hW:Below w.heap.size w W)=>show Calls Tryz.prog 27 #[v,.int .i64 0] W _ from qan v l 0 W (hv.up hW) (by omega) s0)
 obtain⟨A,c,hvv,hlc,hcm,hcell⟩:=hv.ex
 unfold maxLen at hcm
 have HC:=Lib.hid hcell
 have hd1 : ¬ (40:Int)<(l.length:Int):=by omega
 obtain⟨S,hS⟩ : ∃ S,trm (raw l 0)=S:=⟨_,rfl⟩
 rw[hS] at HA0 h0 ⊢
 clear hS
 clear hv hl hcell
 subst hvv
 unfold qbb
 go_enter Tryz.func12,Tryz.ntmps12
 go_wp2_with fail
 (with_reducible refine(HK.out _).mono ?_)
 rintro e w1⟨rfl,hb⟩
 have HB1:=Lib.hid hb
 clear hb HK
 go_wp2_with fail
 go_loop [6] (fun i => ∃ k:Nat,i=.int .i64 (k:Int)∧k≤l.length) (fun i=>l.length-(intOf i).toNat)
 case atStart=>exact⟨0,by go_num,Nat.zero_le _⟩
 case round =>
  obtain⟨k,rfl,hk⟩:=hrel
  by_cases hlt:k<l.length
  ·have hki:(k:Int)<(l.length:Int):=by omega
   obtain⟨g,o,rfl,hg,hcl⟩:=HC.out (by omega)
   have c0:=(HB1.out.cell (p:=⟨g,o+k,none⟩) hg).trans (hcl k l[k] (List.getElem?_eq_getElem hlt))
   have hsz:=HSZ.out k
   rw[qbx hlt] at hsz
   have hgw:g<w1.heap.size:=by have:=HB1.out.size;omega
   clear hcl
   generalize l[k]=S at c0 hsz
   have hS2 : ¬ (32768:Int)<(S.size:Int):=by omega
   go_wp2
   go_round
   case rel=>exact⟨k+1,by go_num,by omega⟩
   case measure=>simp[intOf];omega
  ·have hki : ¬ (k:Int)<(l.length:Int):=by omega
   go_wp2_with fail
   (with_reducible refine(HA0.out _ HB1.out).mono ?_)
   rintro e w2⟨rfl,hb⟩
   have HB2:=Lib.hid (HB1.out.trans (hb.mono HB1.out.size))
   clear hb
   go_wp2
   go_ret2
   exact⟨rfl,HB2.out⟩
theorem qi6(v:Value)(l:List BA)(w:World)(hv:Rd w w.heap.size v l)(hl:Ord l) :
  Calls Tryz.prog 12 #[.string ⟨#[112,97,100,114,105,103,104,116]⟩,v] w fun e w'=>e=.returned (qbb (qa0 6 [⟨0,0⟩,⟨2,0⟩,⟨1,0⟩] l))∧Below w.heap.size w w':=by
 have HK:=Lib.hid (fun w=>qat ⟨#[112,97,100,114,105,103,104,116]⟩ true (fun _=>rfl) (fun h=>absurd rfl (h _ (List.mem_of_getElem? (i:=9) rfl))) w)
 have hlen:=hl.len
 have HSZ:=Lib.hid hl.sz
 have s0:=hl.sz 0
 have s1:=hl.sz 1
 have h0:=qbh (raw l 0)
 have HA0:=Lib.hid (fun(W:World) (hW:Below w.heap.size w W)=>show Calls Tryz.prog 27 #[v,.int .i64 0] W _ from qan v l 0 W (hv.up hW) (by omega) s0)
 obtain⟨A,c,hvv,hlc,hcm,hcell⟩:=hv.ex
 unfold maxLen at hcm
 have HC:=Lib.hid hcell
 have hd1 : ¬ (40:Int)<(l.length:Int):=by omega
 have HX:=Lib.hid (fun(W:World) (hW:Below w.heap.size w W)=>qn8 v l W (hv.up hW) hl)
 obtain⟨r,hr⟩ : ∃ r,qa0 6 [⟨0,0⟩,⟨2,0⟩,⟨1,0⟩] l=r:=⟨_,rfl⟩
 rw[hr] at HX ⊢
 obtain⟨S,hS⟩ : ∃ S,trm (raw l 0)=S:=⟨_,rfl⟩
 rw[hS] at HA0 h0
 clear hr hS hv hl hcell
 subst hvv
 unfold qbb at HX ⊢
 go_enter Tryz.func12,Tryz.ntmps12
 go_wp2_with fail
 (with_reducible refine(HK.out _).mono ?_)
 rintro e w1⟨rfl,hb⟩
 have HB1:=Lib.hid hb
 clear hb HK
 go_wp2_with fail
 go_loop [6] (fun i => ∃ k:Nat,i=.int .i64 (k:Int)∧k≤l.length) (fun i=>l.length-(intOf i).toNat)
 case atStart=>exact⟨0,by go_num,Nat.zero_le _⟩
 case round =>
  obtain⟨k,rfl,hk⟩:=hrel
  by_cases hlt:k<l.length
  ·have hki:(k:Int)<(l.length:Int):=by omega
   obtain⟨g,o,rfl,hg,hcl⟩:=HC.out (by omega)
   have c0:=(HB1.out.cell (p:=⟨g,o+k,none⟩) hg).trans (hcl k l[k] (List.getElem?_eq_getElem hlt))
   have hsz:=HSZ.out k
   rw[qbx hlt] at hsz
   have hgw:g<w1.heap.size:=by have:=HB1.out.size;omega
   clear hcl
   generalize l[k]=S at c0 hsz
   have hS2 : ¬ (32768:Int)<(S.size:Int):=by omega
   go_wp2
   go_round
   case rel=>exact⟨k+1,by go_num,by omega⟩
   case measure=>simp[intOf];omega
  ·have hki : ¬ (k:Int)<(l.length:Int):=by omega
   go_wp2_with fail
   (with_reducible refine(HA0.out _ HB1.out).mono ?_)
   rintro e w2⟨rfl,hb⟩
   have HB2:=Lib.hid (HB1.out.trans (hb.mono HB1.out.size))
   clear hb
   go_wp2_with fail
   (with_reducible refine(HX.out _ HB2.out).mono ?_)
   rintro e w3⟨rfl,hb⟩
   have HB3:=Lib.hid (HB2.out.trans (hb.mono HB2.out.size))
   clear hb
   go_wp2
   go_ret2
   exact⟨rfl,HB3.out⟩
theorem qri(v:Value)(l:List BA)(w:World)(hv:Rd w w.heap.size v l)(hl:Ord l) :
  Calls Tryz.prog 12 #[.string ⟨#[112,97,114,116]⟩,v] w fun e w'=>e=.returned (qbb (qa0 12 [⟨0,0⟩,⟨1,0⟩,⟨2,0⟩] l))∧Below w.heap.size w w':=by
 have HK:=Lib.hid (fun w=>qat ⟨#[112,97,114,116]⟩ true (fun _=>rfl) (fun h=>absurd rfl (h _ (List.mem_of_getElem? (i:=10) rfl))) w)
 have hlen:=hl.len
 have HSZ:=Lib.hid hl.sz
 have s0:=hl.sz 0
 have s1:=hl.sz 1
 have h0:=qbh (raw l 0)
 have HA0:=Lib.hid (fun(W:World) (hW:Below w.heap.size w W)=>show Calls Tryz.prog 27 #[v,.int .i64 0] W _ from qan v l 0 W (hv.up hW) (by omega) s0)
 obtain⟨A,c,hvv,hlc,hcm,hcell⟩:=hv.ex
 unfold maxLen at hcm
 have HC:=Lib.hid hcell
 have hd1 : ¬ (40:Int)<(l.length:Int):=by omega
 have HX:=Lib.hid (fun(W:World) (hW:Below w.heap.size w W)=>q3q v l W (hv.up hW) hl)
 obtain⟨r,hr⟩ : ∃ r,qa0 12 [⟨0,0⟩,⟨1,0⟩,⟨2,0⟩] l=r:=⟨_,rfl⟩
 rw[hr] at HX ⊢
 obtain⟨S,hS⟩ : ∃ S,trm (raw l 0)=S:=⟨_,rfl⟩
 rw[hS] at HA0 h0
 clear hr hS hv hl hcell
 subst hvv
 unfold qbb at HX ⊢
 go_enter Tryz.func12,Tryz.ntmps12
 go_wp2_with fail
 (with_reducible refine(HK.out _).mono ?_)
 rintro e w1⟨rfl,hb⟩
 have HB1:=Lib.hid hb
 clear hb HK
 go_wp2_with fail
 go_loop [6] (fun i => ∃ k:Nat,i=.int .i64 (k:Int)∧k≤l.length) (fun i=>l.length-(intOf i).toNat)
 case atStart=>exact⟨0,by go_num,Nat.zero_le _⟩
 case round =>
  obtain⟨k,rfl,hk⟩:=hrel
  by_cases hlt:k<l.length
  ·have hki:(k:Int)<(l.length:Int):=by omega
   obtain⟨g,o,rfl,hg,hcl⟩:=HC.out (by omega)
   have c0:=(HB1.out.cell (p:=⟨g,o+k,none⟩) hg).trans (hcl k l[k] (List.getElem?_eq_getElem hlt))
   have hsz:=HSZ.out k
   rw[qbx hlt] at hsz
   have hgw:g<w1.heap.size:=by have:=HB1.out.size;omega
   clear hcl
   generalize l[k]=S at c0 hsz
   have hS2 : ¬ (32768:Int)<(S.size:Int):=by omega
   go_wp2
   go_round
   case rel=>exact⟨k+1,by go_num,by omega⟩
   case measure=>simp[intOf];omega
  ·have hki : ¬ (k:Int)<(l.length:Int):=by omega
   go_wp2_with fail
   (with_reducible refine(HA0.out _ HB1.out).mono ?_)
   rintro e w2⟨rfl,hb⟩
   have HB2:=Lib.hid (HB1.out.trans (hb.mono HB1.out.size))
   clear hb
   go_wp2_with fail
   (with_reducible refine(HX.out _ HB2.out).mono ?_)
   rintro e w3⟨rfl,hb⟩
   have HB3:=Lib.hid (HB2.out.trans (hb.mono HB2.out.size))
   clear hb
   go_wp2
   go_ret2
   exact⟨rfl,HB3.out⟩
theorem qn9(v:Value)(l:List BA)(w:World)(hv:Rd w w.heap.size v l)(hl:Ord l) :
  Calls Tryz.prog 12 #[.string ⟨#[102,105,120,101,100]⟩,v] w fun e w'=>e=.returned (qbb (qa0 14 [⟨0,0⟩,⟨2,0⟩] l))∧Below w.heap.size w w':=by
 have HK:=Lib.hid (fun w=>qat ⟨#[102,105,120,101,100]⟩ true (fun _=>rfl) (fun h=>absurd rfl (h _ (List.mem_of_getElem? (i:=2) rfl))) w)
 have hlen:=hl.len
 have HSZ:=Lib.hid hl.sz
 have s0:=hl.sz 0
 have s1:=hl.sz 1
 have h0:=qbh (raw l 0)
 have HA0:=Lib.hid (fun(W:World) (hW:Below w.heap.size w W)=>show Calls Tryz.prog 27 #[v,.int .i64 0] W _ from qan v l 0 W (hv.up hW) (by omega) s0)
 obtain⟨A,c,hvv,hlc,hcm,hcell⟩:=hv.ex
 unfold maxLen at hcm
 have HC:=Lib.hid hcell
 have hd1 : ¬ (40:Int)<(l.length:Int):=by omega
 have HX:=Lib.hid (fun(W:World) (hW:Below w.heap.size w W)=>qxz v l W (hv.up hW) hl)
 obtain⟨r,hr⟩ : ∃ r,qa0 14 [⟨0,0⟩,⟨2,0⟩] l=r:=⟨_,rfl⟩
 rw[hr] at HX ⊢
 obtain⟨S,hS⟩ : ∃ S,trm (raw l 0)=S:=⟨_,rfl⟩
 rw[hS] at HA0 h0
 clear hr hS hv hl hcell
 subst hvv
 unfold qbb at HX ⊢
 go_enter Tryz.func12,Tryz.ntmps12
 go_wp2_with fail
 (with_reducible refine(HK.out _).mono ?_)
 rintro e w1⟨rfl,hb⟩
 have HB1:=Lib.hid hb
 clear hb HK
 go_wp2_with fail
 go_loop [6] (fun i => ∃ k:Nat,i=.int .i64 (k:Int)∧k≤l.length) (fun i=>l.length-(intOf i).toNat)
 case atStart=>exact⟨0,by go_num,Nat.zero_le _⟩
 case round =>
  obtain⟨k,rfl,hk⟩:=hrel
  by_cases hlt:k<l.length
  ·have hki:(k:Int)<(l.length:Int):=by omega
   obtain⟨g,o,rfl,hg,hcl⟩:=HC.out (by omega)
   have c0:=(HB1.out.cell (p:=⟨g,o+k,none⟩) hg).trans (hcl k l[k] (List.getElem?_eq_getElem hlt))
   have hsz:=HSZ.out k
   rw[qbx hlt] at hsz
   have hgw:g<w1.heap.size:=by have:=HB1.out.size;omega
   clear hcl
   generalize l[k]=S at c0 hsz
   have hS2 : ¬ (32768:Int)<(S.size:Int):=by omega
   go_wp2
   go_round
   case rel=>exact⟨k+1,by go_num,by omega⟩
   case measure=>simp[intOf];omega
  ·have hki : ¬ (k:Int)<(l.length:Int):=by omega
   go_wp2_with fail
   (with_reducible refine(HA0.out _ HB1.out).mono ?_)
   rintro e w2⟨rfl,hb⟩
   have HB2:=Lib.hid (HB1.out.trans (hb.mono HB1.out.size))
   clear hb
   go_wp2_with fail
   (with_reducible refine(HX.out _ HB2.out).mono ?_)
   rintro e w3⟨rfl,hb⟩
   have HB3:=Lib.hid (HB2.out.trans (hb.mono HB2.out.size))
   clear hb
   go_wp2
   go_ret2
   exact⟨rfl,HB3.out⟩
theorem qk2(v:Value)(l:List BA)(w:World)(hv:Rd w w.heap.size v l)(hl:Ord l) :
  Calls Tryz.prog 12 #[.string ⟨#[100,97,116,101,97,100,100]⟩,v] w fun e w'=>e=.returned (qbb (qa0 15 [⟨0,0⟩,⟨2,0⟩,⟨0,0⟩] l))∧Below w.heap.size w w':=by
 have HK:=Lib.hid (fun w=>qat ⟨#[100,97,116,101,97,100,100]⟩ true (fun _=>rfl) (fun h=>absurd rfl (h _ (List.mem_of_getElem? (i:=0) rfl))) w)
 have hlen:=hl.len
 have HSZ:=Lib.hid hl.sz
 have s0:=hl.sz 0
 have s1:=hl.sz 1
 have h0:=qbh (raw l 0)
 have HA0:=Lib.hid (fun(W:World) (hW:Below w.heap.size w W)=>show Calls Tryz.prog 27 #[v,.int .i64 0] W _ from qan v l 0 W (hv.up hW) (by omega) s0)
 obtain⟨A,c,hvv,hlc,hcm,hcell⟩:=hv.ex
 unfold maxLen at hcm
 have HC:=Lib.hid hcell
 have hd1 : ¬ (40:Int)<(l.length:Int):=by omega
 have HX:=Lib.hid (fun(W:World) (hW:Below w.heap.size w W)=>qre v l W (hv.up hW) hl)
 obtain⟨r,hr⟩ : ∃ r,qa0 15 [⟨0,0⟩,⟨2,0⟩,⟨0,0⟩] l=r:=⟨_,rfl⟩
 rw[hr] at HX ⊢
 obtain⟨S,hS⟩ : ∃ S,trm (raw l 0)=S:=⟨_,rfl⟩
 rw[hS] at HA0 h0
 clear hr hS hv hl hcell
 subst hvv
 unfold qbb at HX ⊢
 go_enter Tryz.func12,Tryz.ntmps12
 go_wp2_with fail
 (with_reducible refine(HK.out _).mono ?_)
 rintro e w1⟨rfl,hb⟩
 have HB1:=Lib.hid hb
 clear hb HK
 go_wp2_with fail
 go_loop [6] (fun i => ∃ k:Nat,i=.int .i64 (k:Int)∧k≤l.length) (fun i=>l.length-(intOf i).toNat)
 case atStart=>exact⟨0,by go_num,Nat.zero_le _⟩
 case round =>
  obtain⟨k,rfl,hk⟩:=hrel
  by_cases hlt:k<l.length
  ·have hki:(k:Int)<(l.length:Int):=by omega
   obtain⟨g,o,rfl,hg,hcl⟩:=HC.out (by omega)
   have c0:=(HB1.out.cell (p:=⟨g,o+k,none⟩) hg).trans (hcl k l[k] (List.getElem?_eq_getElem hlt))
   have hsz:=HSZ.out k
   rw[qbx hlt] at hsz
   have hgw:g<w1.heap.size:=by have:=HB1.out.size;omega
   clear hcl
   generalize l[k]=S at c0 hsz
   have hS2 : ¬ (32768:Int)<(S.size:Int):=by omega
   go_wp2
   go_round
   case rel=>exact⟨k+1,by go_num,by omega⟩
   case measure=>simp[intOf];omega
  ·have hki : ¬ (k:Int)<(l.length:Int):=by omega
   go_wp2_with fail
   (with_reducible refine(HA0.out _ HB1.out).mono ?_)
   rintro e w2⟨rfl,hb⟩
   have HB2:=Lib.hid (HB1.out.trans (hb.mono HB1.out.size))
   clear hb
   go_wp2_with fail
   (with_reducible refine(HX.out _ HB2.out).mono ?_)
   rintro e w3⟨rfl,hb⟩
   have HB3:=Lib.hid (HB2.out.trans (hb.mono HB2.out.size))
   clear hb
   go_wp2
   go_ret2
   exact⟨rfl,HB3.out⟩
end Go.Proofs.YtldkgbnmaefaaaaGreatDoor.Fu
namespace Go.Proofs.YtldkgbnmaefaaaaGreatDoor.Fu
open Go.RowKit
set_option linter.unusedVariables false
set_option linter.unusedSimpArgs false
theorem qk3(v:Value)(l:List BA)(w:World)(hv:Rd w w.heap.size v l)(hl:Ord l) :
  Calls Tryz.prog 12 #[.string ⟨#[102,111,114,109,117,108,97]⟩,v] w fun e w'=>e=.returned (qbb (qa0 13 [⟨0,0⟩] l))∧Below w.heap.size w w':=by
 rw[qqz]
 have HK:=Lib.hid (fun w=>qat ⟨#[102,111,114,109,117,108,97]⟩ true (fun _=>rfl) (fun h=>absurd rfl (h _ (List.mem_of_getElem? (i:=3) rfl))) w)
 have hlen:=hl.len
 have HSZ:=Lib.hid hl.sz
 have s0:=hl.sz 0
 have s1:=hl.sz 1
 have h0:=qbh (raw l 0)
 have HA0:=Lib.hid (fun(W:World) (hW:Below w.heap.size w W)=>show Calls Tryz.prog 27 #[v,.int .i64 0] W _ from qan v l 0 W (hv.up hW) (by omega) s0)
 obtain⟨A,c,hvv,hlc,hcm,hcell⟩:=hv.ex
 unfold maxLen at hcm
 have HC:=Lib.hid hcell
 have hd1 : ¬ (40:Int)<(l.length:Int):=by omega
 obtain⟨S,hS⟩ : ∃ S,trm (raw l 0)=S:=⟨_,rfl⟩
 rw[hS] at HA0 h0 ⊢
 clear hS
 have HEv:=Lib.hid (fun w=>Fo.qlz S w)
 have hd:=qf9 S
 by_cases hz:S.size=0
 ·rw[show qnk S=⟨em,0⟩ from if_pos hz]
  rw[decide_eq_true hz] at hd
  clear hv hl hcell hz
  subst hvv
  unfold qbb em
  go_enter Tryz.func12,Tryz.ntmps12
  go_wp2_with fail
  (with_reducible refine(HK.out _).mono ?_)
  rintro e w1⟨rfl,hb⟩
  have HB1:=Lib.hid hb
  clear hb HK
  go_wp2_with fail
  go_loop [6] (fun i => ∃ k:Nat,i=.int .i64 (k:Int)∧k≤l.length) (fun i=>l.length-(intOf i).toNat)
  case atStart=>exact⟨0,by go_num,Nat.zero_le _⟩
  case round =>
   obtain⟨k,rfl,hk⟩:=hrel
   by_cases hlt:k<l.length
   ·have hki:(k:Int)<(l.length:Int):=by omega
    obtain⟨g,o,rfl,hg,hcl⟩:=HC.out (by omega)
    have c0:=(HB1.out.cell (p:=⟨g,o+k,none⟩) hg).trans (hcl k l[k] (List.getElem?_eq_getElem hlt))
    have hsz:=HSZ.out k
    rw[qbx hlt] at hsz
    have hgw:g<w1.heap.size:=by have:=HB1.out.size;omega
    clear hcl
    generalize l[k]=S at c0 hsz
    have hS2 : ¬ (32768:Int)<(S.size:Int):=by omega
    go_wp2
    go_round
    case rel=>exact⟨k+1,by go_num,by omega⟩
    case measure=>simp[intOf];omega
   ·have hki : ¬ (k:Int)<(l.length:Int):=by omega
    go_wp2_with fail
    (with_reducible refine(HA0.out _ HB1.out).mono ?_)
    rintro e w2⟨rfl,hb⟩
    have HB2:=Lib.hid (HB1.out.trans (hb.mono HB1.out.size))
    clear hb
    go_wp2
    go_ret2
    exact⟨rfl,HB2.out⟩
 ·rw[qw7 S hz]
  rw[decide_eq_false hz] at hd
  obtain⟨n,m,x,hev⟩ : ∃ n m x,Fo.ev S.data.toList=⟨n,m,x⟩:=⟨_,_,_,rfl⟩
  rw[hev] at HEv ⊢
  unfold Fo.res at HEv
  have HFt:=Lib.hid (fun w=>Nu.qm1 n m w)
  clear hv hl hcell hz hev
  subst hvv
  unfold qbb
  go_enter Tryz.func12,Tryz.ntmps12
  go_wp2_with fail
  (with_reducible refine(HK.out _).mono ?_)
  rintro e w1⟨rfl,hb⟩
  have HB1:=Lib.hid hb
  clear hb HK
  go_wp2_with fail
  go_loop [6] (fun i => ∃ k:Nat,i=.int .i64 (k:Int)∧k≤l.length) (fun i=>l.length-(intOf i).toNat)
  case atStart=>exact⟨0,by go_num,Nat.zero_le _⟩
  case round =>
   obtain⟨k,rfl,hk⟩:=hrel
   by_cases hlt:k<l.length
   ·have hki:(k:Int)<(l.length:Int):=by omega
    obtain⟨g,o,rfl,hg,hcl⟩:=HC.out (by omega)
    have c0:=(HB1.out.cell (p:=⟨g,o+k,none⟩) hg).trans (hcl k l[k] (List.getElem?_eq_getElem hlt))
    have hsz:=HSZ.out k
    rw[qbx hlt] at hsz
    have hgw:g<w1.heap.size:=by have:=HB1.out.size;omega
    clear hcl
    generalize l[k]=S at c0 hsz
    have hS2 : ¬ (32768:Int)<(S.size:Int):=by omega
    go_wp2
    go_round
    case rel=>exact⟨k+1,by go_num,by omega⟩
    case measure=>simp[intOf];omega
   ·have hki : ¬ (k:Int)<(l.length:Int):=by omega
    go_wp2_with fail
    (with_reducible refine(HA0.out _ HB1.out).mono ?_)
    rintro e w2⟨rfl,hb⟩
    have HB2:=Lib.hid (HB1.out.trans (hb.mono HB1.out.size))
    clear hb
    go_wp2_with fail
    (with_reducible refine(HEv.out _).mono ?_)
    rintro e w3⟨rfl,hb⟩
    have HB3:=Lib.hid (HB2.out.trans (hb.mono HB2.out.size))
    clear hb
    have HX3:=Lib.hid (HB3.out.alloc HB3.out.size (.cells #[.int .i64 n,.int .i64 m] 63))
    go_wp2_with fail
    (with_reducible refine(HFt.out _).mono ?_)
    rintro e w4⟨rfl,hb⟩
    have HB4:=Lib.hid (HX3.out.trans (hb.mono HX3.out.size))
    clear hb
    go_wp2
    go_ret2
    exact⟨rfl,HB4.out⟩
theorem qhl(v:Value)(l:List BA)(w:World)(hv:Rd w w.heap.size v l)(hl:Ord l) :
  Calls Tryz.prog 12 #[.string ⟨#[100,97,116,101,102,111,114,109,97,116]⟩,v] w fun e w'=>e=.returned (qbb (qa0 16 [⟨0,0⟩,⟨0,0⟩] l))∧Below w.heap.size w w':=by
 rw[qkd]
 have HK:=Lib.hid (fun w=>qat ⟨#[100,97,116,101,102,111,114,109,97,116]⟩ true (fun _=>rfl) (fun h=>absurd rfl (h _ (List.mem_of_getElem? (i:=1) rfl))) w)
 have hlen:=hl.len
 have HSZ:=Lib.hid hl.sz
 have s0:=hl.sz 0
 have s1:=hl.sz 1
 have h0:=qbh (raw l 0)
 have HA0:=Lib.hid (fun(W:World) (hW:Below w.heap.size w W)=>show Calls Tryz.prog 27 #[v,.int .i64 0] W _ from qan v l 0 W (hv.up hW) (by omega) s0)
 obtain⟨A,c,hvv,hlc,hcm,hcell⟩:=hv.ex
 unfold maxLen at hcm
 have HC:=Lib.hid hcell
 have hd1 : ¬ (40:Int)<(l.length:Int):=by omega
 obtain⟨S,hS⟩ : ∃ S,trm (raw l 0)=S:=⟨_,rfl⟩
 rw[hS] at HA0 h0 ⊢
 clear hS
 have HA1:=Lib.hid (fun(W:World) (hW:Below w.heap.size w W)=>show Calls Tryz.prog 27 #[v,.int .i64 1] W _ from qan v l 1 W (hv.up hW) (by omega) s1)
 have h1:=qbh (raw l 1)
 obtain⟨T,hT⟩ : ∃ T,trm (raw l 1)=T:=⟨_,rfl⟩
 rw[hT] at HA1 h1 ⊢
 clear hT
 have HP:=Lib.hid (fun w=>Ca.qd2 T w (by omega))
 obtain⟨n,x,hv0⟩ : ∃ n x,Ca.parse T.data.toList=⟨n,x⟩:=⟨_,_,rfl⟩
 unfold qf7
 rw[hv0] at HP ⊢
 have HF:=Lib.hid (fun w=>qox S n w)
 clear hv hl hcell hv0
 subst hvv
 by_cases hx:x=0
 ·subst hx
  rw[if_pos rfl]
  unfold qbb
  go_enter Tryz.func12,Tryz.ntmps12
  go_wp2_with fail
  (with_reducible refine(HK.out _).mono ?_)
  rintro e w1⟨rfl,hb⟩
  have HB1:=Lib.hid hb
  clear hb HK
  go_wp2_with fail
  go_loop [6] (fun i => ∃ k:Nat,i=.int .i64 (k:Int)∧k≤l.length) (fun i=>l.length-(intOf i).toNat)
  case atStart=>exact⟨0,by go_num,Nat.zero_le _⟩
  case round =>
   obtain⟨k,rfl,hk⟩:=hrel
   by_cases hlt:k<l.length
   ·have hki:(k:Int)<(l.length:Int):=by omega
    obtain⟨g,o,rfl,hg,hcl⟩:=HC.out (by omega)
    have c0:=(HB1.out.cell (p:=⟨g,o+k,none⟩) hg).trans (hcl k l[k] (List.getElem?_eq_getElem hlt))
    have hsz:=HSZ.out k
    rw[qbx hlt] at hsz
    have hgw:g<w1.heap.size:=by have:=HB1.out.size;omega
    clear hcl
    generalize l[k]=S at c0 hsz
    have hS2 : ¬ (32768:Int)<(S.size:Int):=by omega
    go_wp2
    go_round
    case rel=>exact⟨k+1,by go_num,by omega⟩
    case measure=>simp[intOf];omega
   ·have hki : ¬ (k:Int)<(l.length:Int):=by omega
    go_wp2_with fail
    (with_reducible refine(HA0.out _ HB1.out).mono ?_)
    rintro e w2⟨rfl,hb⟩
    have HB2:=Lib.hid (HB1.out.trans (hb.mono HB1.out.size))
    clear hb
    go_wp2_with fail
    (with_reducible refine(HA1.out _ HB2.out).mono ?_)
    rintro e w3⟨rfl,hb⟩
    have HB3:=Lib.hid (HB2.out.trans (hb.mono HB2.out.size))
    clear hb
    go_wp2_with fail
    (with_reducible refine(HP.out _).mono ?_)
    rintro e w4⟨rfl,hb⟩
    have HB4:=Lib.hid (HB3.out.trans (hb.mono HB3.out.size))
    clear hb
    go_wp2_with fail
    (with_reducible refine(HF.out _).mono ?_)
    rintro e w5⟨rfl,hb⟩
    have HB5:=Lib.hid (HB4.out.trans (hb.mono HB4.out.size))
    clear hb
    go_wp2
    go_ret2
    exact⟨rfl,HB5.out⟩
 ·rw[if_neg hx]
  have hx2:(x != 0)=true:=by rw[bne_iff_ne];exact hx
  clear hx
  unfold qbb em
  go_enter Tryz.func12,Tryz.ntmps12
  go_wp2_with fail
  (with_reducible refine(HK.out _).mono ?_)
  rintro e w1⟨rfl,hb⟩
  have HB1:=Lib.hid hb
  clear hb HK
  go_wp2_with fail
  go_loop [6] (fun i => ∃ k:Nat,i=.int .i64 (k:Int)∧k≤l.length) (fun i=>l.length-(intOf i).toNat)
  case atStart=>exact⟨0,by go_num,Nat.zero_le _⟩
  case round =>
   obtain⟨k,rfl,hk⟩:=hrel
   by_cases hlt:k<l.length
   ·have hki:(k:Int)<(l.length:Int):=by omega
    obtain⟨g,o,rfl,hg,hcl⟩:=HC.out (by omega)
    have c0:=(HB1.out.cell (p:=⟨g,o+k,none⟩) hg).trans (hcl k l[k] (List.getElem?_eq_getElem hlt))
    have hsz:=HSZ.out k
    rw[qbx hlt] at hsz
    have hgw:g<w1.heap.size:=by have:=HB1.out.size;omega
    clear hcl
    generalize l[k]=S at c0 hsz
    have hS2 : ¬ (32768:Int)<(S.size:Int):=by omega
    go_wp2
    go_round
    case rel=>exact⟨k+1,by go_num,by omega⟩
    case measure=>simp[intOf];omega
   ·have hki : ¬ (k:Int)<(l.length:Int):=by omega
    go_wp2_with fail
    (with_reducible refine(HA0.out _ HB1.out).mono ?_)
    rintro e w2⟨rfl,hb⟩
    have HB2:=Lib.hid (HB1.out.trans (hb.mono HB1.out.size))
    clear hb
    go_wp2_with fail
    (with_reducible refine(HA1.out _ HB2.out).mono ?_)
    rintro e w3⟨rfl,hb⟩
    have HB3:=Lib.hid (HB2.out.trans (hb.mono HB2.out.size))
    clear hb
    go_wp2_with fail
    (with_reducible refine(HP.out _).mono ?_)
    rintro e w4⟨rfl,hb⟩
    have HB4:=Lib.hid (HB3.out.trans (hb.mono HB3.out.size))
    clear hb
    go_wp2
    go_ret2
    exact⟨rfl,HB4.out⟩
theorem quz(v:Value)(l:List BA)(w:World)(hv:Rd w w.heap.size v l)(hl:Ord l) :
  Calls Tryz.prog 12 #[.string ⟨#[115,117,98]⟩,v] w fun e w'=>e=.returned (qbb (qa0 1 [⟨0,0⟩,⟨2,0⟩,⟨2,32768⟩] l))∧Below w.heap.size w w':=by
 have HK:=Lib.hid (fun w=>qat ⟨#[115,117,98]⟩ true (fun _=>rfl) (fun h=>absurd rfl (h _ (List.mem_of_getElem? (i:=13) rfl))) w)
 have hlen:=hl.len
 have HSZ:=Lib.hid hl.sz
 have s0:=hl.sz 0
 have s1:=hl.sz 1
 have h0:=qbh (raw l 0)
 have HA0:=Lib.hid (fun(W:World) (hW:Below w.heap.size w W)=>show Calls Tryz.prog 27 #[v,.int .i64 0] W _ from qan v l 0 W (hv.up hW) (by omega) s0)
 obtain⟨A,c,hvv,hlc,hcm,hcell⟩:=hv.ex
 unfold maxLen at hcm
 have HC:=Lib.hid hcell
 have hd1 : ¬ (40:Int)<(l.length:Int):=by omega
 have HX:=Lib.hid (fun(W:World) (hW:Below w.heap.size w W)=>q8s v l W (hv.up hW) hl)
 obtain⟨r,hr⟩ : ∃ r,qa0 1 [⟨0,0⟩,⟨2,0⟩,⟨2,32768⟩] l=r:=⟨_,rfl⟩
 rw[hr] at HX ⊢
 obtain⟨S,hS⟩ : ∃ S,trm (raw l 0)=S:=⟨_,rfl⟩
 rw[hS] at HA0 h0
 clear hr hS hv hl hcell
 subst hvv
 unfold qbb at HX ⊢
 go_enter Tryz.func12,Tryz.ntmps12
 go_wp2_with fail
 (with_reducible refine(HK.out _).mono ?_)
 rintro e w1⟨rfl,hb⟩
 have HB1:=Lib.hid hb
 clear hb HK
 go_wp2_with fail
 go_loop [6] (fun i => ∃ k:Nat,i=.int .i64 (k:Int)∧k≤l.length) (fun i=>l.length-(intOf i).toNat)
 case atStart=>exact⟨0,by go_num,Nat.zero_le _⟩
 case round =>
  obtain⟨k,rfl,hk⟩:=hrel
  by_cases hlt:k<l.length
  ·have hki:(k:Int)<(l.length:Int):=by omega
   obtain⟨g,o,rfl,hg,hcl⟩:=HC.out (by omega)
   have c0:=(HB1.out.cell (p:=⟨g,o+k,none⟩) hg).trans (hcl k l[k] (List.getElem?_eq_getElem hlt))
   have hsz:=HSZ.out k
   rw[qbx hlt] at hsz
   have hgw:g<w1.heap.size:=by have:=HB1.out.size;omega
   clear hcl
   generalize l[k]=S at c0 hsz
   have hS2 : ¬ (32768:Int)<(S.size:Int):=by omega
   go_wp2
   go_round
   case rel=>exact⟨k+1,by go_num,by omega⟩
   case measure=>simp[intOf];omega
  ·have hki : ¬ (k:Int)<(l.length:Int):=by omega
   go_wp2_with fail
   (with_reducible refine(HA0.out _ HB1.out).mono ?_)
   rintro e w2⟨rfl,hb⟩
   have HB2:=Lib.hid (HB1.out.trans (hb.mono HB1.out.size))
   clear hb
   go_wp2_with fail
   (with_reducible refine(HX.out _ HB2.out).mono ?_)
   rintro e w3⟨rfl,hb⟩
   have HB3:=Lib.hid (HB2.out.trans (hb.mono HB2.out.size))
   clear hb
   go_wp2
   go_ret2
   exact⟨rfl,HB3.out⟩
theorem quy(v:Value)(l:List BA)(w:World)(hv:Rd w w.heap.size v l)(hl:Ord l) :
  Calls Tryz.prog 12 #[.string ⟨#[112,111,115]⟩,v] w fun e w'=>e=.returned (qbb (qa0 3 [⟨0,0⟩,⟨1,0⟩,⟨2,0⟩] l))∧Below w.heap.size w w':=by
 have HK:=Lib.hid (fun w=>qat ⟨#[112,111,115]⟩ true (fun _=>rfl) (fun h=>absurd rfl (h _ (List.mem_of_getElem? (i:=11) rfl))) w)
 have hlen:=hl.len
 have HSZ:=Lib.hid hl.sz
 have s0:=hl.sz 0
 have s1:=hl.sz 1
 have h0:=qbh (raw l 0)
 have HA0:=Lib.hid (fun(W:World) (hW:Below w.heap.size w W)=>show Calls Tryz.prog 27 #[v,.int .i64 0] W _ from qan v l 0 W (hv.up hW) (by omega) s0)
 obtain⟨A,c,hvv,hlc,hcm,hcell⟩:=hv.ex
 unfold maxLen at hcm
 have HC:=Lib.hid hcell
 have hd1 : ¬ (40:Int)<(l.length:Int):=by omega
 have HX:=Lib.hid (fun(W:World) (hW:Below w.heap.size w W)=>qp0 v l W (hv.up hW) hl)
 obtain⟨r,hr⟩ : ∃ r,qa0 3 [⟨0,0⟩,⟨1,0⟩,⟨2,0⟩] l=r:=⟨_,rfl⟩
 rw[hr] at HX ⊢
 obtain⟨S,hS⟩ : ∃ S,trm (raw l 0)=S:=⟨_,rfl⟩
 rw[hS] at HA0 h0
 clear hr hS hv hl hcell
 subst hvv
 unfold qbb at HX ⊢
 go_enter Tryz.func12,Tryz.ntmps12
 go_wp2_with fail
 (with_reducible refine(HK.out _).mono ?_)
 rintro e w1⟨rfl,hb⟩
 have HB1:=Lib.hid hb
 clear hb HK
 go_wp2_with fail
 go_loop [6] (fun i => ∃ k:Nat,i=.int .i64 (k:Int)∧k≤l.length) (fun i=>l.length-(intOf i).toNat)
 case atStart=>exact⟨0,by go_num,Nat.zero_le _⟩
 case round =>
  obtain⟨k,rfl,hk⟩:=hrel
  by_cases hlt:k<l.length
  ·have hki:(k:Int)<(l.length:Int):=by omega
   obtain⟨g,o,rfl,hg,hcl⟩:=HC.out (by omega)
   have c0:=(HB1.out.cell (p:=⟨g,o+k,none⟩) hg).trans (hcl k l[k] (List.getElem?_eq_getElem hlt))
   have hsz:=HSZ.out k
   rw[qbx hlt] at hsz
   have hgw:g<w1.heap.size:=by have:=HB1.out.size;omega
   clear hcl
   generalize l[k]=S at c0 hsz
   have hS2 : ¬ (32768:Int)<(S.size:Int):=by omega
   go_wp2
   go_round
   case rel=>exact⟨k+1,by go_num,by omega⟩
   case measure=>simp[intOf];omega
  ·have hki : ¬ (k:Int)<(l.length:Int):=by omega
   go_wp2_with fail
   (with_reducible refine(HA0.out _ HB1.out).mono ?_)
   rintro e w2⟨rfl,hb⟩
   have HB2:=Lib.hid (HB1.out.trans (hb.mono HB1.out.size))
   clear hb
   go_wp2_with fail
   (with_reducible refine(HX.out _ HB2.out).mono ?_)
   rintro e w3⟨rfl,hb⟩
   have HB3:=Lib.hid (HB2.out.trans (hb.mono HB2.out.size))
   clear hb
   go_wp2
   go_ret2
   exact⟨rfl,HB3.out⟩
theorem qk6(v:Value)(l:List BA)(w:World)(hv:Rd w w.heap.size v l)(hl:Ord l) :
  Calls Tryz.prog 12 #[.string ⟨#[114,101,112,108,97,99,101]⟩,v] w fun e w'=>e=.returned (qbb (qa0 4 [⟨0,0⟩,⟨1,0⟩,⟨1,0⟩,⟨2,(-1)⟩] l))∧Below w.heap.size w w':=by
 have HK:=Lib.hid (fun w=>qat ⟨#[114,101,112,108,97,99,101]⟩ true (fun _=>rfl) (fun h=>absurd rfl (h _ (List.mem_of_getElem? (i:=12) rfl))) w)
 have hlen:=hl.len
 have HSZ:=Lib.hid hl.sz
 have s0:=hl.sz 0
 have s1:=hl.sz 1
 have h0:=qbh (raw l 0)
 have HA0:=Lib.hid (fun(W:World) (hW:Below w.heap.size w W)=>show Calls Tryz.prog 27 #[v,.int .i64 0] W _ from qan v l 0 W (hv.up hW) (by omega) s0)
 obtain⟨A,c,hvv,hlc,hcm,hcell⟩:=hv.ex
 unfold maxLen at hcm
 have HC:=Lib.hid hcell
 have hd1 : ¬ (40:Int)<(l.length:Int):=by omega
 have HX:=Lib.hid (fun(W:World) (hW:Below w.heap.size w W)=>qrg v l W (hv.up hW) hl)
 obtain⟨r,hr⟩ : ∃ r,qa0 4 [⟨0,0⟩,⟨1,0⟩,⟨1,0⟩,⟨2,(-1)⟩] l=r:=⟨_,rfl⟩
 rw[hr] at HX ⊢
 obtain⟨S,hS⟩ : ∃ S,trm (raw l 0)=S:=⟨_,rfl⟩
 rw[hS] at HA0 h0
 clear hr hS hv hl hcell
 subst hvv
 unfold qbb at HX ⊢
 go_enter Tryz.func12,Tryz.ntmps12
 go_wp2_with fail
 (with_reducible refine(HK.out _).mono ?_)
 rintro e w1⟨rfl,hb⟩
 have HB1:=Lib.hid hb
 clear hb HK
 go_wp2_with fail
 go_loop [6] (fun i => ∃ k:Nat,i=.int .i64 (k:Int)∧k≤l.length) (fun i=>l.length-(intOf i).toNat)
 case atStart=>exact⟨0,by go_num,Nat.zero_le _⟩
 case round =>
  obtain⟨k,rfl,hk⟩:=hrel
  by_cases hlt:k<l.length
  ·have hki:(k:Int)<(l.length:Int):=by omega
   obtain⟨g,o,rfl,hg,hcl⟩:=HC.out (by omega)
   have c0:=(HB1.out.cell (p:=⟨g,o+k,none⟩) hg).trans (hcl k l[k] (List.getElem?_eq_getElem hlt))
   have hsz:=HSZ.out k
   rw[qbx hlt] at hsz
   have hgw:g<w1.heap.size:=by have:=HB1.out.size;omega
   clear hcl
   generalize l[k]=S at c0 hsz
   have hS2 : ¬ (32768:Int)<(S.size:Int):=by omega
   go_wp2
   go_round
   case rel=>exact⟨k+1,by go_num,by omega⟩
   case measure=>simp[intOf];omega
  ·have hki : ¬ (k:Int)<(l.length:Int):=by omega
   go_wp2_with fail
   (with_reducible refine(HA0.out _ HB1.out).mono ?_)
   rintro e w2⟨rfl,hb⟩
   have HB2:=Lib.hid (HB1.out.trans (hb.mono HB1.out.size))
   clear hb
   go_wp2_with fail
   (with_reducible refine(HX.out _ HB2.out).mono ?_)
   rintro e w3⟨rfl,hb⟩
   have HB3:=Lib.hid (HB2.out.trans (hb.mono HB2.out.size))
   clear hb
   go_wp2
   go_ret2
   exact⟨rfl,HB3.out⟩
theorem qk5(v:Value)(l:List BA)(w:World)(hv:Rd w w.heap.size v l)(hl:Ord l) :
  Calls Tryz.prog 12 #[.string ⟨#[112,97,100,108,101,102,116]⟩,v] w fun e w'=>e=.returned (qbb (qa0 5 [⟨0,0⟩,⟨2,0⟩,⟨1,0⟩] l))∧Below w.heap.size w w':=by
 have HK:=Lib.hid (fun w=>qat ⟨#[112,97,100,108,101,102,116]⟩ true (fun _=>rfl) (fun h=>absurd rfl (h _ (List.mem_of_getElem? (i:=8) rfl))) w)
 have hlen:=hl.len
 have HSZ:=Lib.hid hl.sz
 have s0:=hl.sz 0
 have s1:=hl.sz 1
 have h0:=qbh (raw l 0)
 have HA0:=Lib.hid (fun(W:World) (hW:Below w.heap.size w W)=>show Calls Tryz.prog 27 #[v,.int .i64 0] W _ from qan v l 0 W (hv.up hW) (by omega) s0)
 obtain⟨A,c,hvv,hlc,hcm,hcell⟩:=hv.ex
 unfold maxLen at hcm
 have HC:=Lib.hid hcell
 have hd1 : ¬ (40:Int)<(l.length:Int):=by omega
 have HX:=Lib.hid (fun(W:World) (hW:Below w.heap.size w W)=>qrf v l W (hv.up hW) hl)
 obtain⟨r,hr⟩ : ∃ r,qa0 5 [⟨0,0⟩,⟨2,0⟩,⟨1,0⟩] l=r:=⟨_,rfl⟩
 rw[hr] at HX ⊢
 obtain⟨S,hS⟩ : ∃ S,trm (raw l 0)=S:=⟨_,rfl⟩
 rw[hS] at HA0 h0
 clear hr hS hv hl hcell
 subst hvv
 unfold qbb at HX ⊢
 go_enter Tryz.func12,Tryz.ntmps12
 go_wp2_with fail
 (with_reducible refine(HK.out _).mono ?_)
 rintro e w1⟨rfl,hb⟩
 have HB1:=Lib.hid hb
 clear hb HK
 go_wp2_with fail
 go_loop [6] (fun i => ∃ k:Nat,i=.int .i64 (k:Int)∧k≤l.length) (fun i=>l.length-(intOf i).toNat)
 case atStart=>exact⟨0,by go_num,Nat.zero_le _⟩
 case round =>
  obtain⟨k,rfl,hk⟩:=hrel
  by_cases hlt:k<l.length
  ·have hki:(k:Int)<(l.length:Int):=by omega
   obtain⟨g,o,rfl,hg,hcl⟩:=HC.out (by omega)
   have c0:=(HB1.out.cell (p:=⟨g,o+k,none⟩) hg).trans (hcl k l[k] (List.getElem?_eq_getElem hlt))
   have hsz:=HSZ.out k
   rw[qbx hlt] at hsz
   have hgw:g<w1.heap.size:=by have:=HB1.out.size;omega
   clear hcl
   generalize l[k]=S at c0 hsz
   have hS2 : ¬ (32768:Int)<(S.size:Int):=by omega
   go_wp2
   go_round
   case rel=>exact⟨k+1,by go_num,by omega⟩
   case measure=>simp[intOf];omega
  ·have hki : ¬ (k:Int)<(l.length:Int):=by omega
   go_wp2_with fail
   (with_reducible refine(HA0.out _ HB1.out).mono ?_)
   rintro e w2⟨rfl,hb⟩
   have HB2:=Lib.hid (HB1.out.trans (hb.mono HB1.out.size))
   clear hb
   go_wp2_with fail
   (with_reducible refine(HX.out _ HB2.out).mono ?_)
   rintro e w3⟨rfl,hb⟩
   have HB3:=Lib.hid (HB2.out.trans (hb.mono HB2.out.size))
   clear hb
   go_wp2
   go_ret2
   exact⟨rfl,HB3.out⟩
end Go.Proofs.YtldkgbnmaefaaaaGreatDoor.Fu
