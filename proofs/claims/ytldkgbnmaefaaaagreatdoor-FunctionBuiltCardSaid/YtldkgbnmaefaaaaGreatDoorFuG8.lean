import Derived.Test.YtldkgbnmaefaaaaGreatDoorFuG7
set_option maxRecDepth 100000
set_option maxHeartbeats 4000000
open Go.Lib (hid)
namespace Go.Proofs.YtldkgbnmaefaaaaGreatDoor.Fu
open Go.RowKit
set_option linter.unusedVariables false
set_option linter.unusedSimpArgs false
theorem qv9(v:Value)(l:List BA)(w:World)(hv:Rd w w.heap.size v l)(hl:Ord l) :
  Calls Tryz.prog 12 #[.string ⟨#[108,101,110]⟩,v] w fun e w'=>e=.returned (qbc (qai 0 [⟨0,0⟩] l))∧Below w.heap.size w w':=by
 rw[qqe]
 have HK:=hid (fun w=>qau ⟨#[108,101,110]⟩ true (fun _=>rfl) (fun h=>absurd rfl (h _ (List.mem_of_getElem? (i:=6) rfl))) w)
 have hlen:=hl.len
 have HSZ:=hid hl.sz
 have s0:=hl.sz 0
 have s1:=hl.sz 1
 have h0:=qbd (raw l 0)
 have HA0:=hid (fun(W:World) (hW:Below w.heap.size w W)=>show Calls Tryz.prog 27 #[v,.int .i64 0] W _ from qao v l 0 W (hv.up hW) (by omega) s0)
 obtain⟨A,c,hvv,hlc,hcm,hcell⟩:=hv.ex
 unfold maxLen at hcm
 have HC:=hid hcell
 have hd1 : ¬ (40:Int)<(l.length:Int):=by omega
 obtain⟨S,hS⟩ : ∃ S,trm (raw l 0)=S:=⟨_,rfl⟩
 rw[hS] at HA0 h0 ⊢
 clear hS
 have hr:=Sf.qer S
 have HL:=hid (fun w=>Sf.qed S w (by omega))
 have HD:=hid (fun w=>Nu.qd1 (Sf.rc S:Int) w (by omega))
 clear hv hl hcell
 subst hvv
 unfold qbc
 go_enter Tryz.func12,Tryz.ntmps12
 go_wp2_with fail
 (with_reducible refine(HK.out _).mono ?_)
 rintro e w1⟨rfl,hb⟩
 have HB1:=hid hb
 clear hb HK
 go_wp2_with fail
 go_loop [6] (fun i => ∃ k:Nat,i=.int .i64 (k:Int)∧k≤l.length) (fun i=>l.length-(intOf i).toNat)
 case atStart=>exact⟨0,by go_num,Nat.zero_le _⟩
 case round =>
  obtain⟨k,rfl,hk⟩:=hrel
  by_cases hlt:k<l.length
  ·have hki:(k:Int)<(l.length:Int):=by omega
   obtain⟨g,o,rfl,hg,hcl⟩:=HC.out (by omega)
   have c0:=(HB1.out.cell (p:=⟨g,o+k,none⟩) hg).trans (hcl k l[k] (List.getElem?_eq_getElem hlt))
   have hsz:=HSZ.out k
   rw[qbm hlt] at hsz
   have hgw:g<w1.heap.size:=by have:=HB1.out.size;omega
   clear hcl
   generalize l[k]=S at c0 hsz
   have hS2 : ¬ (32768:Int)<(S.size:Int):=by omega
   go_wp2
   go_round
   case rel=>exact⟨k+1,by go_num,by omega⟩
   case measure=>simp[intOf];omega
  ·have hki : ¬ (k:Int)<(l.length:Int):=by omega
   go_wp2_with fail
   (with_reducible refine(HA0.out _ HB1.out).mono ?_)
   rintro e w2⟨rfl,hb⟩
   have HB2:=hid (HB1.out.trans (hb.mono HB1.out.size))
   clear hb
   go_wp2_with fail
   (with_reducible refine(HL.out _).mono ?_)
   rintro e w3⟨rfl,hb⟩
   have HB3:=hid (HB2.out.trans (hb.mono HB2.out.size))
   clear hb
   go_wp2_with fail
   (with_reducible refine(HD.out _).mono ?_)
   rintro e w4⟨rfl,hb⟩
   have HB4:=hid (HB3.out.trans (hb.mono HB3.out.size))
   clear hb
   go_wp2
   go_ret2
   exact⟨rfl,HB4.out⟩
theorem qnv(v:Value)(l:List BA)(w:World)(hv:Rd w w.heap.size v l)(hl:Ord l) :
  Calls Tryz.prog 12 #[.string ⟨#[111,99,99,117,114,115]⟩,v] w fun e w'=>e=.returned (qbc (qai 2 [⟨0,0⟩,⟨1,0⟩] l))∧Below w.heap.size w w':=by
 rw[qi5]
 have HK:=hid (fun w=>qau ⟨#[111,99,99,117,114,115]⟩ true (fun _=>rfl) (fun h=>absurd rfl (h _ (List.mem_of_getElem? (i:=7) rfl))) w)
 have hlen:=hl.len
 have HSZ:=hid hl.sz
 have s0:=hl.sz 0
 have s1:=hl.sz 1
 have h0:=qbd (raw l 0)
 have HA0:=hid (fun(W:World) (hW:Below w.heap.size w W)=>show Calls Tryz.prog 27 #[v,.int .i64 0] W _ from qao v l 0 W (hv.up hW) (by omega) s0)
 obtain⟨A,c,hvv,hlc,hcm,hcell⟩:=hv.ex
 unfold maxLen at hcm
 have HC:=hid hcell
 have hd1 : ¬ (40:Int)<(l.length:Int):=by omega
 obtain⟨S,hS⟩ : ∃ S,trm (raw l 0)=S:=⟨_,rfl⟩
 rw[hS] at HA0 h0 ⊢
 clear hS
 have HR1:=hid (fun(W:World) (hW:Below w.heap.size w W)=>show Calls Tryz.prog 29 #[v,.int .i64 1] W _ from qbj v l 1 W (hv.up hW) (by omega))
 obtain⟨R1,hR1⟩ : ∃ S,raw l 1=S:=⟨_,rfl⟩
 rw[hR1] at HR1 s1 ⊢
 clear hR1
 have ho:=Sf.qdi S R1
 have HL:=hid (fun w=>Sf.qrs S R1 w (by omega) (by omega))
 have HD:=hid (fun w=>Nu.qd1 ((Sf.occ S R1).length:Int) w (by omega))
 clear hv hl hcell
 subst hvv
 unfold qbc
 go_enter Tryz.func12,Tryz.ntmps12
 go_wp2_with fail
 (with_reducible refine(HK.out _).mono ?_)
 rintro e w1⟨rfl,hb⟩
 have HB1:=hid hb
 clear hb HK
 go_wp2_with fail
 go_loop [6] (fun i => ∃ k:Nat,i=.int .i64 (k:Int)∧k≤l.length) (fun i=>l.length-(intOf i).toNat)
 case atStart=>exact⟨0,by go_num,Nat.zero_le _⟩
 case round =>
  obtain⟨k,rfl,hk⟩:=hrel
  by_cases hlt:k<l.length
  ·have hki:(k:Int)<(l.length:Int):=by omega
   obtain⟨g,o,rfl,hg,hcl⟩:=HC.out (by omega)
   have c0:=(HB1.out.cell (p:=⟨g,o+k,none⟩) hg).trans (hcl k l[k] (List.getElem?_eq_getElem hlt))
   have hsz:=HSZ.out k
   rw[qbm hlt] at hsz
   have hgw:g<w1.heap.size:=by have:=HB1.out.size;omega
   clear hcl
   generalize l[k]=S at c0 hsz
   have hS2 : ¬ (32768:Int)<(S.size:Int):=by omega
   go_wp2
   go_round
   case rel=>exact⟨k+1,by go_num,by omega⟩
   case measure=>simp[intOf];omega
  ·have hki : ¬ (k:Int)<(l.length:Int):=by omega
   go_wp2_with fail
   (with_reducible refine(HA0.out _ HB1.out).mono ?_)
   rintro e w2⟨rfl,hb⟩
   have HB2:=hid (HB1.out.trans (hb.mono HB1.out.size))
   clear hb
   go_wp2_with fail
   (with_reducible refine(HR1.out _ HB2.out).mono ?_)
   rintro e w3⟨rfl,rfl⟩
   go_wp2_with fail
   (with_reducible refine(HL.out _).mono ?_)
   rintro e w4⟨rfl,hb⟩
   have HB4:=hid (HB2.out.trans (hb.mono HB2.out.size))
   clear hb
   go_wp2_with fail
   (with_reducible refine(HD.out _).mono ?_)
   rintro e w5⟨rfl,hb⟩
   have HB5:=hid (HB4.out.trans (hb.mono HB4.out.size))
   clear hb
   go_wp2
   go_ret2
   exact⟨rfl,HB5.out⟩
theorem qzt(v:Value)(l:List BA)(w:World)(hv:Rd w w.heap.size v l)(hl:Ord l) :
  Calls Tryz.prog 12 #[.string ⟨#[108,99]⟩,v] w fun e w'=>e=.returned (qbc (qai 7 [⟨0,0⟩] l))∧Below w.heap.size w w':=by
 rw[q4v]
 have HK:=hid (fun w=>qau ⟨#[108,99]⟩ true (fun _=>rfl) (fun h=>absurd rfl (h _ (List.mem_of_getElem? (i:=4) rfl))) w)
 have hlen:=hl.len
 have HSZ:=hid hl.sz
 have s0:=hl.sz 0
 have s1:=hl.sz 1
 have h0:=qbd (raw l 0)
 have HA0:=hid (fun(W:World) (hW:Below w.heap.size w W)=>show Calls Tryz.prog 27 #[v,.int .i64 0] W _ from qao v l 0 W (hv.up hW) (by omega) s0)
 obtain⟨A,c,hvv,hlc,hcm,hcell⟩:=hv.ex
 unfold maxLen at hcm
 have HC:=hid hcell
 have hd1 : ¬ (40:Int)<(l.length:Int):=by omega
 obtain⟨S,hS⟩ : ∃ S,trm (raw l 0)=S:=⟨_,rfl⟩
 rw[hS] at HA0 h0 ⊢
 clear hS
 have HL:=hid (fun w=>Sf.qrx S w (by omega))
 clear hv hl hcell
 subst hvv
 unfold qbc
 go_enter Tryz.func12,Tryz.ntmps12
 go_wp2_with fail
 (with_reducible refine(HK.out _).mono ?_)
 rintro e w1⟨rfl,hb⟩
 have HB1:=hid hb
 clear hb HK
 go_wp2_with fail
 go_loop [6] (fun i => ∃ k:Nat,i=.int .i64 (k:Int)∧k≤l.length) (fun i=>l.length-(intOf i).toNat)
 case atStart=>exact⟨0,by go_num,Nat.zero_le _⟩
 case round =>
  obtain⟨k,rfl,hk⟩:=hrel
  by_cases hlt:k<l.length
  ·have hki:(k:Int)<(l.length:Int):=by omega
   obtain⟨g,o,rfl,hg,hcl⟩:=HC.out (by omega)
   have c0:=(HB1.out.cell (p:=⟨g,o+k,none⟩) hg).trans (hcl k l[k] (List.getElem?_eq_getElem hlt))
   have hsz:=HSZ.out k
   rw[qbm hlt] at hsz
   have hgw:g<w1.heap.size:=by have:=HB1.out.size;omega
   clear hcl
   generalize l[k]=S at c0 hsz
   have hS2 : ¬ (32768:Int)<(S.size:Int):=by omega
   go_wp2
   go_round
   case rel=>exact⟨k+1,by go_num,by omega⟩
   case measure=>simp[intOf];omega
  ·have hki : ¬ (k:Int)<(l.length:Int):=by omega
   go_wp2_with fail
   (with_reducible refine(HA0.out _ HB1.out).mono ?_)
   rintro e w2⟨rfl,hb⟩
   have HB2:=hid (HB1.out.trans (hb.mono HB1.out.size))
   clear hb
   go_wp2_with fail
   (with_reducible refine(HL.out _).mono ?_)
   rintro e w3⟨rfl,hb⟩
   have HB3:=hid (HB2.out.trans (hb.mono HB2.out.size))
   clear hb
   go_wp2
   go_ret2
   exact⟨rfl,HB3.out⟩
theorem qzu(v:Value)(l:List BA)(w:World)(hv:Rd w w.heap.size v l)(hl:Ord l) :
  Calls Tryz.prog 12 #[.string ⟨#[117,99]⟩,v] w fun e w'=>e=.returned (qbc (qai 8 [⟨0,0⟩] l))∧Below w.heap.size w w':=by
 rw[qyv]
 have HK:=hid (fun w=>qau ⟨#[117,99]⟩ true (fun _=>rfl) (fun h=>absurd rfl (h _ (List.mem_of_getElem? (i:=15) rfl))) w)
 have hlen:=hl.len
 have HSZ:=hid hl.sz
 have s0:=hl.sz 0
 have s1:=hl.sz 1
 have h0:=qbd (raw l 0)
 have HA0:=hid (fun(W:World) (hW:Below w.heap.size w W)=>show Calls Tryz.prog 27 #[v,.int .i64 0] W _ from qao v l 0 W (hv.up hW) (by omega) s0)
 obtain⟨A,c,hvv,hlc,hcm,hcell⟩:=hv.ex
 unfold maxLen at hcm
 have HC:=hid hcell
 have hd1 : ¬ (40:Int)<(l.length:Int):=by omega
 obtain⟨S,hS⟩ : ∃ S,trm (raw l 0)=S:=⟨_,rfl⟩
 rw[hS] at HA0 h0 ⊢
 clear hS
 have HL:=hid (fun w=>Sf.qkb S w (by omega))
 clear hv hl hcell
 subst hvv
 unfold qbc
 go_enter Tryz.func12,Tryz.ntmps12
 go_wp2_with fail
 (with_reducible refine(HK.out _).mono ?_)
 rintro e w1⟨rfl,hb⟩
 have HB1:=hid hb
 clear hb HK
 go_wp2_with fail
 go_loop [6] (fun i => ∃ k:Nat,i=.int .i64 (k:Int)∧k≤l.length) (fun i=>l.length-(intOf i).toNat)
 case atStart=>exact⟨0,by go_num,Nat.zero_le _⟩
 case round =>
  obtain⟨k,rfl,hk⟩:=hrel
  by_cases hlt:k<l.length
  ·have hki:(k:Int)<(l.length:Int):=by omega
   obtain⟨g,o,rfl,hg,hcl⟩:=HC.out (by omega)
   have c0:=(HB1.out.cell (p:=⟨g,o+k,none⟩) hg).trans (hcl k l[k] (List.getElem?_eq_getElem hlt))
   have hsz:=HSZ.out k
   rw[qbm hlt] at hsz
   have hgw:g<w1.heap.size:=by have:=HB1.out.size;omega
   clear hcl
   generalize l[k]=S at c0 hsz
   have hS2 : ¬ (32768:Int)<(S.size:Int):=by omega
   go_wp2
   go_round
   case rel=>exact⟨k+1,by go_num,by omega⟩
   case measure=>simp[intOf];omega
  ·have hki : ¬ (k:Int)<(l.length:Int):=by omega
   go_wp2_with fail
   (with_reducible refine(HA0.out _ HB1.out).mono ?_)
   rintro e w2⟨rfl,hb⟩
   have HB2:=hid (HB1.out.trans (hb.mono HB1.out.size))
   clear hb
   go_wp2_with fail
   (with_reducible refine(HL.out _).mono ?_)
   rintro e w3⟨rfl,hb⟩
   have HB3:=hid (HB2.out.trans (hb.mono HB2.out.size))
   clear hb
   go_wp2
   go_ret2
   exact⟨rfl,HB3.out⟩
theorem ql8(v:Value)(l:List BA)(w:World)(hv:Rd w w.heap.size v l)(hl:Ord l) :
  Calls Tryz.prog 12 #[.string ⟨#[108,99,102,105,114,115,116]⟩,v] w fun e w'=>e=.returned (qbc (qai 9 [⟨0,0⟩] l))∧Below w.heap.size w w':=by
 rw[qhk]
 have HK:=hid (fun w=>qau ⟨#[108,99,102,105,114,115,116]⟩ true (fun _=>rfl) (fun h=>absurd rfl (h _ (List.mem_of_getElem? (i:=5) rfl))) w)
 have hlen:=hl.len
 have HSZ:=hid hl.sz
 have s0:=hl.sz 0
 have s1:=hl.sz 1
 have h0:=qbd (raw l 0)
 have HA0:=hid (fun(W:World) (hW:Below w.heap.size w W)=>show Calls Tryz.prog 27 #[v,.int .i64 0] W _ from qao v l 0 W (hv.up hW) (by omega) s0)
 obtain⟨A,c,hvv,hlc,hcm,hcell⟩:=hv.ex
 unfold maxLen at hcm
 have HC:=hid hcell
 have hd1 : ¬ (40:Int)<(l.length:Int):=by omega
 obtain⟨S,hS⟩ : ∃ S,trm (raw l 0)=S:=⟨_,rfl⟩
 rw[hS] at HA0 h0 ⊢
 clear hS
 have HL:=hid (fun w=>Sf.qka S false w (by omega))
 clear hv hl hcell
 subst hvv
 unfold qbc
 go_enter Tryz.func12,Tryz.ntmps12
 go_wp2_with fail
 (with_reducible refine(HK.out _).mono ?_)
 rintro e w1⟨rfl,hb⟩
 have HB1:=hid hb
 clear hb HK
 go_wp2_with fail
 go_loop [6] (fun i => ∃ k:Nat,i=.int .i64 (k:Int)∧k≤l.length) (fun i=>l.length-(intOf i).toNat)
 case atStart=>exact⟨0,by go_num,Nat.zero_le _⟩
 case round =>
  obtain⟨k,rfl,hk⟩:=hrel
  by_cases hlt:k<l.length
  ·have hki:(k:Int)<(l.length:Int):=by omega
   obtain⟨g,o,rfl,hg,hcl⟩:=HC.out (by omega)
   have c0:=(HB1.out.cell (p:=⟨g,o+k,none⟩) hg).trans (hcl k l[k] (List.getElem?_eq_getElem hlt))
   have hsz:=HSZ.out k
   rw[qbm hlt] at hsz
   have hgw:g<w1.heap.size:=by have:=HB1.out.size;omega
   clear hcl
   generalize l[k]=S at c0 hsz
   have hS2 : ¬ (32768:Int)<(S.size:Int):=by omega
   go_wp2
   go_round
   case rel=>exact⟨k+1,by go_num,by omega⟩
   case measure=>simp[intOf];omega
  ·have hki : ¬ (k:Int)<(l.length:Int):=by omega
   go_wp2_with fail
   (with_reducible refine(HA0.out _ HB1.out).mono ?_)
   rintro e w2⟨rfl,hb⟩
   have HB2:=hid (HB1.out.trans (hb.mono HB1.out.size))
   clear hb
   go_wp2_with fail
   (with_reducible refine(HL.out _).mono ?_)
   rintro e w3⟨rfl,hb⟩
   have HB3:=hid (HB2.out.trans (hb.mono HB2.out.size))
   clear hb
   go_wp2
   go_ret2
   exact⟨rfl,HB3.out⟩
theorem qmb(v:Value)(l:List BA)(w:World)(hv:Rd w w.heap.size v l)(hl:Ord l) :
  Calls Tryz.prog 12 #[.string ⟨#[117,99,102,105,114,115,116]⟩,v] w fun e w'=>e=.returned (qbc (qai 10 [⟨0,0⟩] l))∧Below w.heap.size w w':=by
 rw[qhm]
 have HK:=hid (fun w=>qau ⟨#[117,99,102,105,114,115,116]⟩ true (fun _=>rfl) (fun h=>absurd rfl (h _ (List.mem_of_getElem? (i:=16) rfl))) w)
 have hlen:=hl.len
 have HSZ:=hid hl.sz
 have s0:=hl.sz 0
 have s1:=hl.sz 1
 have h0:=qbd (raw l 0)
 have HA0:=hid (fun(W:World) (hW:Below w.heap.size w W)=>show Calls Tryz.prog 27 #[v,.int .i64 0] W _ from qao v l 0 W (hv.up hW) (by omega) s0)
 obtain⟨A,c,hvv,hlc,hcm,hcell⟩:=hv.ex
 unfold maxLen at hcm
 have HC:=hid hcell
 have hd1 : ¬ (40:Int)<(l.length:Int):=by omega
 obtain⟨S,hS⟩ : ∃ S,trm (raw l 0)=S:=⟨_,rfl⟩
 rw[hS] at HA0 h0 ⊢
 clear hS
 have HL:=hid (fun w=>Sf.qka S true w (by omega))
 clear hv hl hcell
 subst hvv
 unfold qbc
 go_enter Tryz.func12,Tryz.ntmps12
 go_wp2_with fail
 (with_reducible refine(HK.out _).mono ?_)
 rintro e w1⟨rfl,hb⟩
 have HB1:=hid hb
 clear hb HK
 go_wp2_with fail
 go_loop [6] (fun i => ∃ k:Nat,i=.int .i64 (k:Int)∧k≤l.length) (fun i=>l.length-(intOf i).toNat)
 case atStart=>exact⟨0,by go_num,Nat.zero_le _⟩
 case round =>
  obtain⟨k,rfl,hk⟩:=hrel
  by_cases hlt:k<l.length
  ·have hki:(k:Int)<(l.length:Int):=by omega
   obtain⟨g,o,rfl,hg,hcl⟩:=HC.out (by omega)
   have c0:=(HB1.out.cell (p:=⟨g,o+k,none⟩) hg).trans (hcl k l[k] (List.getElem?_eq_getElem hlt))
   have hsz:=HSZ.out k
   rw[qbm hlt] at hsz
   have hgw:g<w1.heap.size:=by have:=HB1.out.size;omega
   clear hcl
   generalize l[k]=S at c0 hsz
   have hS2 : ¬ (32768:Int)<(S.size:Int):=by omega
   go_wp2
   go_round
   case rel=>exact⟨k+1,by go_num,by omega⟩
   case measure=>simp[intOf];omega
  ·have hki : ¬ (k:Int)<(l.length:Int):=by omega
   go_wp2_with fail
   (with_reducible refine(HA0.out _ HB1.out).mono ?_)
   rintro e w2⟨rfl,hb⟩
   have HB2:=hid (HB1.out.trans (hb.mono HB1.out.size))
   clear hb
   go_wp2_with fail
   (with_reducible refine(HL.out _).mono ?_)
   rintro e w3⟨rfl,hb⟩
   have HB3:=hid (HB2.out.trans (hb.mono HB2.out.size))
   clear hb
   go_wp2
   go_ret2
   exact⟨rfl,HB3.out⟩
theorem qsl(v:Value)(l:List BA)(w:World)(hv:Rd w w.heap.size v l)(hl:Ord l) :
  Calls Tryz.prog 12 #[.string ⟨#[116,114,105,109]⟩,v] w fun e w'=>e=.returned (qbc (qai 11 [⟨0,0⟩] l))∧Below w.heap.size w w':=by
 rw[qon]
 have HK:=hid (fun w=>qau ⟨#[116,114,105,109]⟩ true (fun _=>rfl) (fun h=>absurd rfl (h _ (List.mem_of_getElem? (i:=14) rfl))) w)
 have hlen:=hl.len
 have HSZ:=hid hl.sz
 have s0:=hl.sz 0
 have s1:=hl.sz 1
 have h0:=qbd (raw l 0)
 have HA0:=hid (fun(W:World) (hW:Below w.heap.size w W)=>show Calls Tryz.prog 27 #[v,.int .i64 0] W _ from qao v l 0 W (hv.up hW) (by omega) s0)
 obtain⟨A,c,hvv,hlc,hcm,hcell⟩:=hv.ex
 unfold maxLen at hcm
 have HC:=hid hcell
 have hd1 : ¬ (40:Int)<(l.length:Int):=by omega
 obtain⟨S,hS⟩ : ∃ S,trm (raw l 0)=S:=⟨_,rfl⟩
 rw[hS] at HA0 h0 ⊢
 clear hS
 clear hv hl hcell
 subst hvv
 unfold qbc
 go_enter Tryz.func12,Tryz.ntmps12
 go_wp2_with fail
 (with_reducible refine(HK.out _).mono ?_)
 rintro e w1⟨rfl,hb⟩
 have HB1:=hid hb
 clear hb HK
 go_wp2_with fail
 go_loop [6] (fun i => ∃ k:Nat,i=.int .i64 (k:Int)∧k≤l.length) (fun i=>l.length-(intOf i).toNat)
 case atStart=>exact⟨0,by go_num,Nat.zero_le _⟩
 case round =>
  obtain⟨k,rfl,hk⟩:=hrel
  by_cases hlt:k<l.length
  ·have hki:(k:Int)<(l.length:Int):=by omega
   obtain⟨g,o,rfl,hg,hcl⟩:=HC.out (by omega)
   have c0:=(HB1.out.cell (p:=⟨g,o+k,none⟩) hg).trans (hcl k l[k] (List.getElem?_eq_getElem hlt))
   have hsz:=HSZ.out k
   rw[qbm hlt] at hsz
   have hgw:g<w1.heap.size:=by have:=HB1.out.size;omega
   clear hcl
   generalize l[k]=S at c0 hsz
   have hS2 : ¬ (32768:Int)<(S.size:Int):=by omega
   go_wp2
   go_round
   case rel=>exact⟨k+1,by go_num,by omega⟩
   case measure=>simp[intOf];omega
  ·have hki : ¬ (k:Int)<(l.length:Int):=by omega
   go_wp2_with fail
   (with_reducible refine(HA0.out _ HB1.out).mono ?_)
   rintro e w2⟨rfl,hb⟩
   have HB2:=hid (HB1.out.trans (hb.mono HB1.out.size))
   clear hb
   go_wp2
   go_ret2
   exact⟨rfl,HB2.out⟩
theorem qj4(v:Value)(l:List BA)(w:World)(hv:Rd w w.heap.size v l)(hl:Ord l) :
  Calls Tryz.prog 12 #[.string ⟨#[112,97,100,114,105,103,104,116]⟩,v] w fun e w'=>e=.returned (qbc (qai 6 [⟨0,0⟩,⟨2,0⟩,⟨1,0⟩] l))∧Below w.heap.size w w':=by
 have HK:=hid (fun w=>qau ⟨#[112,97,100,114,105,103,104,116]⟩ true (fun _=>rfl) (fun h=>absurd rfl (h _ (List.mem_of_getElem? (i:=9) rfl))) w)
 have hlen:=hl.len
 have HSZ:=hid hl.sz
 have s0:=hl.sz 0
 have s1:=hl.sz 1
 have h0:=qbd (raw l 0)
 have HA0:=hid (fun(W:World) (hW:Below w.heap.size w W)=>show Calls Tryz.prog 27 #[v,.int .i64 0] W _ from qao v l 0 W (hv.up hW) (by omega) s0)
 obtain⟨A,c,hvv,hlc,hcm,hcell⟩:=hv.ex
 unfold maxLen at hcm
 have HC:=hid hcell
 have hd1 : ¬ (40:Int)<(l.length:Int):=by omega
 have HX:=hid (fun(W:World) (hW:Below w.heap.size w W)=>qpf v l W (hv.up hW) hl)
 obtain⟨r,hr⟩ : ∃ r,qai 6 [⟨0,0⟩,⟨2,0⟩,⟨1,0⟩] l=r:=⟨_,rfl⟩
 rw[hr] at HX ⊢
 obtain⟨S,hS⟩ : ∃ S,trm (raw l 0)=S:=⟨_,rfl⟩
 rw[hS] at HA0 h0
 clear hr hS hv hl hcell
 subst hvv
 unfold qbc at HX ⊢
 go_enter Tryz.func12,Tryz.ntmps12
 go_wp2_with fail
 (with_reducible refine(HK.out _).mono ?_)
 rintro e w1⟨rfl,hb⟩
 have HB1:=hid hb
 clear hb HK
 go_wp2_with fail
 go_loop [6] (fun i => ∃ k:Nat,i=.int .i64 (k:Int)∧k≤l.length) (fun i=>l.length-(intOf i).toNat)
 case atStart=>exact⟨0,by go_num,Nat.zero_le _⟩
 case round =>
  obtain⟨k,rfl,hk⟩:=hrel
  by_cases hlt:k<l.length
  ·have hki:(k:Int)<(l.length:Int):=by omega
   obtain⟨g,o,rfl,hg,hcl⟩:=HC.out (by omega)
   have c0:=(HB1.out.cell (p:=⟨g,o+k,none⟩) hg).trans (hcl k l[k] (List.getElem?_eq_getElem hlt))
   have hsz:=HSZ.out k
   rw[qbm hlt] at hsz
   have hgw:g<w1.heap.size:=by have:=HB1.out.size;omega
   clear hcl
   generalize l[k]=S at c0 hsz
   have hS2 : ¬ (32768:Int)<(S.size:Int):=by omega
   go_wp2
   go_round
   case rel=>exact⟨k+1,by go_num,by omega⟩
   case measure=>simp[intOf];omega
  ·have hki : ¬ (k:Int)<(l.length:Int):=by omega
   go_wp2_with fail
   (with_reducible refine(HA0.out _ HB1.out).mono ?_)
   rintro e w2⟨rfl,hb⟩
   have HB2:=hid (HB1.out.trans (hb.mono HB1.out.size))
   clear hb
   go_wp2_with fail
   (with_reducible refine(HX.out _ HB2.out).mono ?_)
   rintro e w3⟨rfl,hb⟩
   have HB3:=hid (HB2.out.trans (hb.mono HB2.out.size))
   clear hb
   go_wp2
   go_ret2
   exact⟨rfl,HB3.out⟩
theorem qsk(v:Value)(l:List BA)(w:World)(hv:Rd w w.heap.size v l)(hl:Ord l) :
  Calls Tryz.prog 12 #[.string ⟨#[112,97,114,116]⟩,v] w fun e w'=>e=.returned (qbc (qai 12 [⟨0,0⟩,⟨1,0⟩,⟨2,0⟩] l))∧Below w.heap.size w w':=by
 have HK:=hid (fun w=>qau ⟨#[112,97,114,116]⟩ true (fun _=>rfl) (fun h=>absurd rfl (h _ (List.mem_of_getElem? (i:=10) rfl))) w)
 have hlen:=hl.len
 have HSZ:=hid hl.sz
 have s0:=hl.sz 0
 have s1:=hl.sz 1
 have h0:=qbd (raw l 0)
 have HA0:=hid (fun(W:World) (hW:Below w.heap.size w W)=>show Calls Tryz.prog 27 #[v,.int .i64 0] W _ from qao v l 0 W (hv.up hW) (by omega) s0)
 obtain⟨A,c,hvv,hlc,hcm,hcell⟩:=hv.ex
 unfold maxLen at hcm
 have HC:=hid hcell
 have hd1 : ¬ (40:Int)<(l.length:Int):=by omega
 have HX:=hid (fun(W:World) (hW:Below w.heap.size w W)=>q6m v l W (hv.up hW) hl)
 obtain⟨r,hr⟩ : ∃ r,qai 12 [⟨0,0⟩,⟨1,0⟩,⟨2,0⟩] l=r:=⟨_,rfl⟩
 rw[hr] at HX ⊢
 obtain⟨S,hS⟩ : ∃ S,trm (raw l 0)=S:=⟨_,rfl⟩
 rw[hS] at HA0 h0
 clear hr hS hv hl hcell
 subst hvv
 unfold qbc at HX ⊢
 go_enter Tryz.func12,Tryz.ntmps12
 go_wp2_with fail
 (with_reducible refine(HK.out _).mono ?_)
 rintro e w1⟨rfl,hb⟩
 have HB1:=hid hb
 clear hb HK
 go_wp2_with fail
 go_loop [6] (fun i => ∃ k:Nat,i=.int .i64 (k:Int)∧k≤l.length) (fun i=>l.length-(intOf i).toNat)
 case atStart=>exact⟨0,by go_num,Nat.zero_le _⟩
 case round =>
  obtain⟨k,rfl,hk⟩:=hrel
  by_cases hlt:k<l.length
  ·have hki:(k:Int)<(l.length:Int):=by omega
   obtain⟨g,o,rfl,hg,hcl⟩:=HC.out (by omega)
   have c0:=(HB1.out.cell (p:=⟨g,o+k,none⟩) hg).trans (hcl k l[k] (List.getElem?_eq_getElem hlt))
   have hsz:=HSZ.out k
   rw[qbm hlt] at hsz
   have hgw:g<w1.heap.size:=by have:=HB1.out.size;omega
   clear hcl
   generalize l[k]=S at c0 hsz
   have hS2 : ¬ (32768:Int)<(S.size:Int):=by omega
   go_wp2
   go_round
   case rel=>exact⟨k+1,by go_num,by omega⟩
   case measure=>simp[intOf];omega
  ·have hki : ¬ (k:Int)<(l.length:Int):=by omega
   go_wp2_with fail
   (with_reducible refine(HA0.out _ HB1.out).mono ?_)
   rintro e w2⟨rfl,hb⟩
   have HB2:=hid (HB1.out.trans (hb.mono HB1.out.size))
   clear hb
   go_wp2_with fail
   (with_reducible refine(HX.out _ HB2.out).mono ?_)
   rintro e w3⟨rfl,hb⟩
   have HB3:=hid (HB2.out.trans (hb.mono HB2.out.size))
   clear hb
   go_wp2
   go_ret2
   exact⟨rfl,HB3.out⟩
theorem qpg(v:Value)(l:List BA)(w:World)(hv:Rd w w.heap.size v l)(hl:Ord l) :
  Calls Tryz.prog 12 #[.string ⟨#[102,105,120,101,100]⟩,v] w fun e w'=>e=.returned (qbc (qai 14 [⟨0,0⟩,⟨2,0⟩] l))∧Below w.heap.size w w':=by
 have HK:=hid (fun w=>qau ⟨#[102,105,120,101,100]⟩ true (fun _=>rfl) (fun h=>absurd rfl (h _ (List.mem_of_getElem? (i:=2) rfl))) w)
 have hlen:=hl.len
 have HSZ:=hid hl.sz
 have s0:=hl.sz 0
 have s1:=hl.sz 1
 have h0:=qbd (raw l 0)
 have HA0:=hid (fun(W:World) (hW:Below w.heap.size w W)=>show Calls Tryz.prog 27 #[v,.int .i64 0] W _ from qao v l 0 W (hv.up hW) (by omega) s0)
 obtain⟨A,c,hvv,hlc,hcm,hcell⟩:=hv.ex
 unfold maxLen at hcm
 have HC:=hid hcell
 have hd1 : ¬ (40:Int)<(l.length:Int):=by omega
 have HX:=hid (fun(W:World) (hW:Below w.heap.size w W)=>qzs v l W (hv.up hW) hl)
 obtain⟨r,hr⟩ : ∃ r,qai 14 [⟨0,0⟩,⟨2,0⟩] l=r:=⟨_,rfl⟩
 rw[hr] at HX ⊢
 obtain⟨S,hS⟩ : ∃ S,trm (raw l 0)=S:=⟨_,rfl⟩
 rw[hS] at HA0 h0
 clear hr hS hv hl hcell
 subst hvv
 unfold qbc at HX ⊢
 go_enter Tryz.func12,Tryz.ntmps12
 go_wp2_with fail
 (with_reducible refine(HK.out _).mono ?_)
 rintro e w1⟨rfl,hb⟩
 have HB1:=hid hb
 clear hb HK
 go_wp2_with fail
 go_loop [6] (fun i => ∃ k:Nat,i=.int .i64 (k:Int)∧k≤l.length) (fun i=>l.length-(intOf i).toNat)
 case atStart=>exact⟨0,by go_num,Nat.zero_le _⟩
 case round =>
  obtain⟨k,rfl,hk⟩:=hrel
  by_cases hlt:k<l.length
  ·have hki:(k:Int)<(l.length:Int):=by omega
   obtain⟨g,o,rfl,hg,hcl⟩:=HC.out (by omega)
   have c0:=(HB1.out.cell (p:=⟨g,o+k,none⟩) hg).trans (hcl k l[k] (List.getElem?_eq_getElem hlt))
   have hsz:=HSZ.out k
   rw[qbm hlt] at hsz
   have hgw:g<w1.heap.size:=by have:=HB1.out.size;omega
   clear hcl
   generalize l[k]=S at c0 hsz
   have hS2 : ¬ (32768:Int)<(S.size:Int):=by omega
   go_wp2
   go_round
   case rel=>exact⟨k+1,by go_num,by omega⟩
   case measure=>simp[intOf];omega
  ·have hki : ¬ (k:Int)<(l.length:Int):=by omega
   go_wp2_with fail
   (with_reducible refine(HA0.out _ HB1.out).mono ?_)
   rintro e w2⟨rfl,hb⟩
   have HB2:=hid (HB1.out.trans (hb.mono HB1.out.size))
   clear hb
   go_wp2_with fail
   (with_reducible refine(HX.out _ HB2.out).mono ?_)
   rintro e w3⟨rfl,hb⟩
   have HB3:=hid (HB2.out.trans (hb.mono HB2.out.size))
   clear hb
   go_wp2
   go_ret2
   exact⟨rfl,HB3.out⟩
theorem ql6(v:Value)(l:List BA)(w:World)(hv:Rd w w.heap.size v l)(hl:Ord l) :
  Calls Tryz.prog 12 #[.string ⟨#[100,97,116,101,97,100,100]⟩,v] w fun e w'=>e=.returned (qbc (qai 15 [⟨0,0⟩,⟨2,0⟩,⟨0,0⟩] l))∧Below w.heap.size w w':=by
 have HK:=hid (fun w=>qau ⟨#[100,97,116,101,97,100,100]⟩ true (fun _=>rfl) (fun h=>absurd rfl (h _ (List.mem_of_getElem? (i:=0) rfl))) w)
 have hlen:=hl.len
 have HSZ:=hid hl.sz
 have s0:=hl.sz 0
 have s1:=hl.sz 1
 have h0:=qbd (raw l 0)
 have HA0:=hid (fun(W:World) (hW:Below w.heap.size w W)=>show Calls Tryz.prog 27 #[v,.int .i64 0] W _ from qao v l 0 W (hv.up hW) (by omega) s0)
 obtain⟨A,c,hvv,hlc,hcm,hcell⟩:=hv.ex
 unfold maxLen at hcm
 have HC:=hid hcell
 have hd1 : ¬ (40:Int)<(l.length:Int):=by omega
 have HX:=hid (fun(W:World) (hW:Below w.heap.size w W)=>qsg v l W (hv.up hW) hl)
 obtain⟨r,hr⟩ : ∃ r,qai 15 [⟨0,0⟩,⟨2,0⟩,⟨0,0⟩] l=r:=⟨_,rfl⟩
 rw[hr] at HX ⊢
 obtain⟨S,hS⟩ : ∃ S,trm (raw l 0)=S:=⟨_,rfl⟩
 rw[hS] at HA0 h0
 clear hr hS hv hl hcell
 subst hvv
 unfold qbc at HX ⊢
 go_enter Tryz.func12,Tryz.ntmps12
 go_wp2_with fail
 (with_reducible refine(HK.out _).mono ?_)
 rintro e w1⟨rfl,hb⟩
 have HB1:=hid hb
 clear hb HK
 go_wp2_with fail
 go_loop [6] (fun i => ∃ k:Nat,i=.int .i64 (k:Int)∧k≤l.length) (fun i=>l.length-(intOf i).toNat)
 case atStart=>exact⟨0,by go_num,Nat.zero_le _⟩
 case round =>
  obtain⟨k,rfl,hk⟩:=hrel
  by_cases hlt:k<l.length
  ·have hki:(k:Int)<(l.length:Int):=by omega
   obtain⟨g,o,rfl,hg,hcl⟩:=HC.out (by omega)
   have c0:=(HB1.out.cell (p:=⟨g,o+k,none⟩) hg).trans (hcl k l[k] (List.getElem?_eq_getElem hlt))
   have hsz:=HSZ.out k
   rw[qbm hlt] at hsz
   have hgw:g<w1.heap.size:=by have:=HB1.out.size;omega
   clear hcl
   generalize l[k]=S at c0 hsz
   have hS2 : ¬ (32768:Int)<(S.size:Int):=by omega
   go_wp2
   go_round
   case rel=>exact⟨k+1,by go_num,by omega⟩
   case measure=>simp[intOf];omega
  ·have hki : ¬ (k:Int)<(l.length:Int):=by omega
   go_wp2_with fail
   (with_reducible refine(HA0.out _ HB1.out).mono ?_)
   rintro e w2⟨rfl,hb⟩
   have HB2:=hid (HB1.out.trans (hb.mono HB1.out.size))
   clear hb
   go_wp2_with fail
   (with_reducible refine(HX.out _ HB2.out).mono ?_)
   rintro e w3⟨rfl,hb⟩
   have HB3:=hid (HB2.out.trans (hb.mono HB2.out.size))
   clear hb
   go_wp2
   go_ret2
   exact⟨rfl,HB3.out⟩
end Go.Proofs.YtldkgbnmaefaaaaGreatDoor.Fu
namespace Go.Proofs.YtldkgbnmaefaaaaGreatDoor.Fu
open Go.RowKit
set_option linter.unusedVariables false
set_option linter.unusedSimpArgs false
theorem ql7(v:Value)(l:List BA)(w:World)(hv:Rd w w.heap.size v l)(hl:Ord l) :
  Calls Tryz.prog 12 #[.string ⟨#[102,111,114,109,117,108,97]⟩,v] w fun e w'=>e=.returned (qbc (qai 13 [⟨0,0⟩] l))∧Below w.heap.size w w':=by
 rw[qhj]
 have HK:=hid (fun w=>qau ⟨#[102,111,114,109,117,108,97]⟩ true (fun _=>rfl) (fun h=>absurd rfl (h _ (List.mem_of_getElem? (i:=3) rfl))) w)
 have hlen:=hl.len
 have HSZ:=hid hl.sz
 have s0:=hl.sz 0
 have s1:=hl.sz 1
 have h0:=qbd (raw l 0)
 have HA0:=hid (fun(W:World) (hW:Below w.heap.size w W)=>show Calls Tryz.prog 27 #[v,.int .i64 0] W _ from qao v l 0 W (hv.up hW) (by omega) s0)
 obtain⟨A,c,hvv,hlc,hcm,hcell⟩:=hv.ex
 unfold maxLen at hcm
 have HC:=hid hcell
 have hd1 : ¬ (40:Int)<(l.length:Int):=by omega
 obtain⟨S,hS⟩ : ∃ S,trm (raw l 0)=S:=⟨_,rfl⟩
 rw[hS] at HA0 h0 ⊢
 clear hS
 have HEv:=hid (fun w=>Fo.qm2 S w)
 have hd:=qhy S
 by_cases hz:S.size=0
 ·rw[show qoo S=⟨em,0⟩ from if_pos hz]
  rw[decide_eq_true hz] at hd
  clear hv hl hcell hz
  subst hvv
  unfold qbc em
  go_enter Tryz.func12,Tryz.ntmps12
  go_wp2_with fail
  (with_reducible refine(HK.out _).mono ?_)
  rintro e w1⟨rfl,hb⟩
  have HB1:=hid hb
  clear hb HK
  go_wp2_with fail
  go_loop [6] (fun i => ∃ k:Nat,i=.int .i64 (k:Int)∧k≤l.length) (fun i=>l.length-(intOf i).toNat)
  case atStart=>exact⟨0,by go_num,Nat.zero_le _⟩
  case round =>
   obtain⟨k,rfl,hk⟩:=hrel
   by_cases hlt:k<l.length
   ·have hki:(k:Int)<(l.length:Int):=by omega
    obtain⟨g,o,rfl,hg,hcl⟩:=HC.out (by omega)
    have c0:=(HB1.out.cell (p:=⟨g,o+k,none⟩) hg).trans (hcl k l[k] (List.getElem?_eq_getElem hlt))
    have hsz:=HSZ.out k
    rw[qbm hlt] at hsz
    have hgw:g<w1.heap.size:=by have:=HB1.out.size;omega
    clear hcl
    generalize l[k]=S at c0 hsz
    have hS2 : ¬ (32768:Int)<(S.size:Int):=by omega
    go_wp2
    go_round
    case rel=>exact⟨k+1,by go_num,by omega⟩
    case measure=>simp[intOf];omega
   ·have hki : ¬ (k:Int)<(l.length:Int):=by omega
    go_wp2_with fail
    (with_reducible refine(HA0.out _ HB1.out).mono ?_)
    rintro e w2⟨rfl,hb⟩
    have HB2:=hid (HB1.out.trans (hb.mono HB1.out.size))
    clear hb
    go_wp2
    go_ret2
    exact⟨rfl,HB2.out⟩
 ·rw[qyw S hz]
  rw[decide_eq_false hz] at hd
  obtain⟨n,m,x,hev⟩ : ∃ n m x,Fo.ev S.data.toList=⟨n,m,x⟩:=⟨_,_,_,rfl⟩
  rw[hev] at HEv ⊢
  unfold Fo.res at HEv
  have HFt:=hid (fun w=>Nu.qn6 n m w)
  clear hv hl hcell hz hev
  subst hvv
  unfold qbc
  go_enter Tryz.func12,Tryz.ntmps12
  go_wp2_with fail
  (with_reducible refine(HK.out _).mono ?_)
  rintro e w1⟨rfl,hb⟩
  have HB1:=hid hb
  clear hb HK
  go_wp2_with fail
  go_loop [6] (fun i => ∃ k:Nat,i=.int .i64 (k:Int)∧k≤l.length) (fun i=>l.length-(intOf i).toNat)
  case atStart=>exact⟨0,by go_num,Nat.zero_le _⟩
  case round =>
   obtain⟨k,rfl,hk⟩:=hrel
   by_cases hlt:k<l.length
   ·have hki:(k:Int)<(l.length:Int):=by omega
    obtain⟨g,o,rfl,hg,hcl⟩:=HC.out (by omega)
    have c0:=(HB1.out.cell (p:=⟨g,o+k,none⟩) hg).trans (hcl k l[k] (List.getElem?_eq_getElem hlt))
    have hsz:=HSZ.out k
    rw[qbm hlt] at hsz
    have hgw:g<w1.heap.size:=by have:=HB1.out.size;omega
    clear hcl
    generalize l[k]=S at c0 hsz
    have hS2 : ¬ (32768:Int)<(S.size:Int):=by omega
    go_wp2
    go_round
    case rel=>exact⟨k+1,by go_num,by omega⟩
    case measure=>simp[intOf];omega
   ·have hki : ¬ (k:Int)<(l.length:Int):=by omega
    go_wp2_with fail
    (with_reducible refine(HA0.out _ HB1.out).mono ?_)
    rintro e w2⟨rfl,hb⟩
    have HB2:=hid (HB1.out.trans (hb.mono HB1.out.size))
    clear hb
    go_wp2_with fail
    (with_reducible refine(HEv.out _).mono ?_)
    rintro e w3⟨rfl,hb⟩
    have HB3:=hid (HB2.out.trans (hb.mono HB2.out.size))
    clear hb
    have HX3:=hid (HB3.out.alloc HB3.out.size (.cells #[.int .i64 n,.int .i64 m] 63))
    go_wp2_with fail
    (with_reducible refine(HFt.out _).mono ?_)
    rintro e w4⟨rfl,hb⟩
    have HB4:=hid (HX3.out.trans (hb.mono HX3.out.size))
    clear hb
    go_wp2
    go_ret2
    exact⟨rfl,HB4.out⟩
theorem qic(v:Value)(l:List BA)(w:World)(hv:Rd w w.heap.size v l)(hl:Ord l) :
  Calls Tryz.prog 12 #[.string ⟨#[100,97,116,101,102,111,114,109,97,116]⟩,v] w fun e w'=>e=.returned (qbc (qai 16 [⟨0,0⟩,⟨0,0⟩] l))∧Below w.heap.size w w':=by
 rw[qej]
 have HK:=hid (fun w=>qau ⟨#[100,97,116,101,102,111,114,109,97,116]⟩ true (fun _=>rfl) (fun h=>absurd rfl (h _ (List.mem_of_getElem? (i:=1) rfl))) w)
 have hlen:=hl.len
 have HSZ:=hid hl.sz
 have s0:=hl.sz 0
 have s1:=hl.sz 1
 have h0:=qbd (raw l 0)
 have HA0:=hid (fun(W:World) (hW:Below w.heap.size w W)=>show Calls Tryz.prog 27 #[v,.int .i64 0] W _ from qao v l 0 W (hv.up hW) (by omega) s0)
 obtain⟨A,c,hvv,hlc,hcm,hcell⟩:=hv.ex
 unfold maxLen at hcm
 have HC:=hid hcell
 have hd1 : ¬ (40:Int)<(l.length:Int):=by omega
 obtain⟨S,hS⟩ : ∃ S,trm (raw l 0)=S:=⟨_,rfl⟩
 rw[hS] at HA0 h0 ⊢
 clear hS
 have HA1:=hid (fun(W:World) (hW:Below w.heap.size w W)=>show Calls Tryz.prog 27 #[v,.int .i64 1] W _ from qao v l 1 W (hv.up hW) (by omega) s1)
 have h1:=qbd (raw l 1)
 obtain⟨T,hT⟩ : ∃ T,trm (raw l 1)=T:=⟨_,rfl⟩
 rw[hT] at HA1 h1 ⊢
 clear hT
 have HP:=hid (fun w=>Ca.qd5 T w (by omega))
 obtain⟨n,x,hv0⟩ : ∃ n x,Ca.parse T.data.toList=⟨n,x⟩:=⟨_,_,rfl⟩
 unfold qgo
 rw[hv0] at HP ⊢
 have HF:=hid (fun w=>qp4 S n w)
 clear hv hl hcell hv0
 subst hvv
 by_cases hx:x=0
 ·subst hx
  rw[if_pos rfl]
  unfold qbc
  go_enter Tryz.func12,Tryz.ntmps12
  go_wp2_with fail
  (with_reducible refine(HK.out _).mono ?_)
  rintro e w1⟨rfl,hb⟩
  have HB1:=hid hb
  clear hb HK
  go_wp2_with fail
  go_loop [6] (fun i => ∃ k:Nat,i=.int .i64 (k:Int)∧k≤l.length) (fun i=>l.length-(intOf i).toNat)
  case atStart=>exact⟨0,by go_num,Nat.zero_le _⟩
  case round =>
   obtain⟨k,rfl,hk⟩:=hrel
   by_cases hlt:k<l.length
   ·have hki:(k:Int)<(l.length:Int):=by omega
    obtain⟨g,o,rfl,hg,hcl⟩:=HC.out (by omega)
    have c0:=(HB1.out.cell (p:=⟨g,o+k,none⟩) hg).trans (hcl k l[k] (List.getElem?_eq_getElem hlt))
    have hsz:=HSZ.out k
    rw[qbm hlt] at hsz
    have hgw:g<w1.heap.size:=by have:=HB1.out.size;omega
    clear hcl
    generalize l[k]=S at c0 hsz
    have hS2 : ¬ (32768:Int)<(S.size:Int):=by omega
    go_wp2
    go_round
    case rel=>exact⟨k+1,by go_num,by omega⟩
    case measure=>simp[intOf];omega
   ·have hki : ¬ (k:Int)<(l.length:Int):=by omega
    go_wp2_with fail
    (with_reducible refine(HA0.out _ HB1.out).mono ?_)
    rintro e w2⟨rfl,hb⟩
    have HB2:=hid (HB1.out.trans (hb.mono HB1.out.size))
    clear hb
    go_wp2_with fail
    (with_reducible refine(HA1.out _ HB2.out).mono ?_)
    rintro e w3⟨rfl,hb⟩
    have HB3:=hid (HB2.out.trans (hb.mono HB2.out.size))
    clear hb
    go_wp2_with fail
    (with_reducible refine(HP.out _).mono ?_)
    rintro e w4⟨rfl,hb⟩
    have HB4:=hid (HB3.out.trans (hb.mono HB3.out.size))
    clear hb
    go_wp2_with fail
    (with_reducible refine(HF.out _).mono ?_)
    rintro e w5⟨rfl,hb⟩
    have HB5:=hid (HB4.out.trans (hb.mono HB4.out.size))
    clear hb
    go_wp2
    go_ret2
    exact⟨rfl,HB5.out⟩
 ·rw[if_neg hx]
  have hx2:(x != 0)=true:=by rw[bne_iff_ne];exact hx
  clear hx
  unfold qbc em
  go_enter Tryz.func12,Tryz.ntmps12
  go_wp2_with fail
  (with_reducible refine(HK.out _).mono ?_)
  rintro e w1⟨rfl,hb⟩
  have HB1:=hid hb
  clear hb HK
  go_wp2_with fail
  go_loop [6] (fun i => ∃ k:Nat,i=.int .i64 (k:Int)∧k≤l.length) (fun i=>l.length-(intOf i).toNat)
  case atStart=>exact⟨0,by go_num,Nat.zero_le _⟩
  case round =>
   obtain⟨k,rfl,hk⟩:=hrel
   by_cases hlt:k<l.length
   ·have hki:(k:Int)<(l.length:Int):=by omega
    obtain⟨g,o,rfl,hg,hcl⟩:=HC.out (by omega)
    have c0:=(HB1.out.cell (p:=⟨g,o+k,none⟩) hg).trans (hcl k l[k] (List.getElem?_eq_getElem hlt))
    have hsz:=HSZ.out k
    rw[qbm hlt] at hsz
    have hgw:g<w1.heap.size:=by have:=HB1.out.size;omega
    clear hcl
    generalize l[k]=S at c0 hsz
    have hS2 : ¬ (32768:Int)<(S.size:Int):=by omega
    go_wp2
    go_round
    case rel=>exact⟨k+1,by go_num,by omega⟩
    case measure=>simp[intOf];omega
   ·have hki : ¬ (k:Int)<(l.length:Int):=by omega
    go_wp2_with fail
    (with_reducible refine(HA0.out _ HB1.out).mono ?_)
    rintro e w2⟨rfl,hb⟩
    have HB2:=hid (HB1.out.trans (hb.mono HB1.out.size))
    clear hb
    go_wp2_with fail
    (with_reducible refine(HA1.out _ HB2.out).mono ?_)
    rintro e w3⟨rfl,hb⟩
    have HB3:=hid (HB2.out.trans (hb.mono HB2.out.size))
    clear hb
    go_wp2_with fail
    (with_reducible refine(HP.out _).mono ?_)
    rintro e w4⟨rfl,hb⟩
    have HB4:=hid (HB3.out.trans (hb.mono HB3.out.size))
    clear hb
    go_wp2
    go_ret2
    exact⟨rfl,HB4.out⟩
theorem qwb(v:Value)(l:List BA)(w:World)(hv:Rd w w.heap.size v l)(hl:Ord l) :
  Calls Tryz.prog 12 #[.string ⟨#[115,117,98]⟩,v] w fun e w'=>e=.returned (qbc (qai 1 [⟨0,0⟩,⟨2,0⟩,⟨2,32768⟩] l))∧Below w.heap.size w w':=by
 have HK:=hid (fun w=>qau ⟨#[115,117,98]⟩ true (fun _=>rfl) (fun h=>absurd rfl (h _ (List.mem_of_getElem? (i:=13) rfl))) w)
 have hlen:=hl.len
 have HSZ:=hid hl.sz
 have s0:=hl.sz 0
 have s1:=hl.sz 1
 have h0:=qbd (raw l 0)
 have HA0:=hid (fun(W:World) (hW:Below w.heap.size w W)=>show Calls Tryz.prog 27 #[v,.int .i64 0] W _ from qao v l 0 W (hv.up hW) (by omega) s0)
 obtain⟨A,c,hvv,hlc,hcm,hcell⟩:=hv.ex
 unfold maxLen at hcm
 have HC:=hid hcell
 have hd1 : ¬ (40:Int)<(l.length:Int):=by omega
 have HX:=hid (fun(W:World) (hW:Below w.heap.size w W)=>xbm v l W (hv.up hW) hl)
 obtain⟨r,hr⟩ : ∃ r,qai 1 [⟨0,0⟩,⟨2,0⟩,⟨2,32768⟩] l=r:=⟨_,rfl⟩
 rw[hr] at HX ⊢
 obtain⟨S,hS⟩ : ∃ S,trm (raw l 0)=S:=⟨_,rfl⟩
 rw[hS] at HA0 h0
 clear hr hS hv hl hcell
 subst hvv
 unfold qbc at HX ⊢
 go_enter Tryz.func12,Tryz.ntmps12
 go_wp2_with fail
 (with_reducible refine(HK.out _).mono ?_)
 rintro e w1⟨rfl,hb⟩
 have HB1:=hid hb
 clear hb HK
 go_wp2_with fail
 go_loop [6] (fun i => ∃ k:Nat,i=.int .i64 (k:Int)∧k≤l.length) (fun i=>l.length-(intOf i).toNat)
 case atStart=>exact⟨0,by go_num,Nat.zero_le _⟩
 case round =>
  obtain⟨k,rfl,hk⟩:=hrel
  by_cases hlt:k<l.length
  ·have hki:(k:Int)<(l.length:Int):=by omega
   obtain⟨g,o,rfl,hg,hcl⟩:=HC.out (by omega)
   have c0:=(HB1.out.cell (p:=⟨g,o+k,none⟩) hg).trans (hcl k l[k] (List.getElem?_eq_getElem hlt))
   have hsz:=HSZ.out k
   rw[qbm hlt] at hsz
   have hgw:g<w1.heap.size:=by have:=HB1.out.size;omega
   clear hcl
   generalize l[k]=S at c0 hsz
   have hS2 : ¬ (32768:Int)<(S.size:Int):=by omega
   go_wp2
   go_round
   case rel=>exact⟨k+1,by go_num,by omega⟩
   case measure=>simp[intOf];omega
  ·have hki : ¬ (k:Int)<(l.length:Int):=by omega
   go_wp2_with fail
   (with_reducible refine(HA0.out _ HB1.out).mono ?_)
   rintro e w2⟨rfl,hb⟩
   have HB2:=hid (HB1.out.trans (hb.mono HB1.out.size))
   clear hb
   go_wp2_with fail
   (with_reducible refine(HX.out _ HB2.out).mono ?_)
   rintro e w3⟨rfl,hb⟩
   have HB3:=hid (HB2.out.trans (hb.mono HB2.out.size))
   clear hb
   go_wp2
   go_ret2
   exact⟨rfl,HB3.out⟩
theorem qwa(v:Value)(l:List BA)(w:World)(hv:Rd w w.heap.size v l)(hl:Ord l) :
  Calls Tryz.prog 12 #[.string ⟨#[112,111,115]⟩,v] w fun e w'=>e=.returned (qbc (qai 3 [⟨0,0⟩,⟨1,0⟩,⟨2,0⟩] l))∧Below w.heap.size w w':=by
 have HK:=hid (fun w=>qau ⟨#[112,111,115]⟩ true (fun _=>rfl) (fun h=>absurd rfl (h _ (List.mem_of_getElem? (i:=11) rfl))) w)
 have hlen:=hl.len
 have HSZ:=hid hl.sz
 have s0:=hl.sz 0
 have s1:=hl.sz 1
 have h0:=qbd (raw l 0)
 have HA0:=hid (fun(W:World) (hW:Below w.heap.size w W)=>show Calls Tryz.prog 27 #[v,.int .i64 0] W _ from qao v l 0 W (hv.up hW) (by omega) s0)
 obtain⟨A,c,hvv,hlc,hcm,hcell⟩:=hv.ex
 unfold maxLen at hcm
 have HC:=hid hcell
 have hd1 : ¬ (40:Int)<(l.length:Int):=by omega
 have HX:=hid (fun(W:World) (hW:Below w.heap.size w W)=>qq5 v l W (hv.up hW) hl)
 obtain⟨r,hr⟩ : ∃ r,qai 3 [⟨0,0⟩,⟨1,0⟩,⟨2,0⟩] l=r:=⟨_,rfl⟩
 rw[hr] at HX ⊢
 obtain⟨S,hS⟩ : ∃ S,trm (raw l 0)=S:=⟨_,rfl⟩
 rw[hS] at HA0 h0
 clear hr hS hv hl hcell
 subst hvv
 unfold qbc at HX ⊢
 go_enter Tryz.func12,Tryz.ntmps12
 go_wp2_with fail
 (with_reducible refine(HK.out _).mono ?_)
 rintro e w1⟨rfl,hb⟩
 have HB1:=hid hb
 clear hb HK
 go_wp2_with fail
 go_loop [6] (fun i => ∃ k:Nat,i=.int .i64 (k:Int)∧k≤l.length) (fun i=>l.length-(intOf i).toNat)
 case atStart=>exact⟨0,by go_num,Nat.zero_le _⟩
 case round =>
  obtain⟨k,rfl,hk⟩:=hrel
  by_cases hlt:k<l.length
  ·have hki:(k:Int)<(l.length:Int):=by omega
   obtain⟨g,o,rfl,hg,hcl⟩:=HC.out (by omega)
   have c0:=(HB1.out.cell (p:=⟨g,o+k,none⟩) hg).trans (hcl k l[k] (List.getElem?_eq_getElem hlt))
   have hsz:=HSZ.out k
   rw[qbm hlt] at hsz
   have hgw:g<w1.heap.size:=by have:=HB1.out.size;omega
   clear hcl
   generalize l[k]=S at c0 hsz
   have hS2 : ¬ (32768:Int)<(S.size:Int):=by omega
   go_wp2
   go_round
   case rel=>exact⟨k+1,by go_num,by omega⟩
   case measure=>simp[intOf];omega
  ·have hki : ¬ (k:Int)<(l.length:Int):=by omega
   go_wp2_with fail
   (with_reducible refine(HA0.out _ HB1.out).mono ?_)
   rintro e w2⟨rfl,hb⟩
   have HB2:=hid (HB1.out.trans (hb.mono HB1.out.size))
   clear hb
   go_wp2_with fail
   (with_reducible refine(HX.out _ HB2.out).mono ?_)
   rintro e w3⟨rfl,hb⟩
   have HB3:=hid (HB2.out.trans (hb.mono HB2.out.size))
   clear hb
   go_wp2
   go_ret2
   exact⟨rfl,HB3.out⟩
theorem qma(v:Value)(l:List BA)(w:World)(hv:Rd w w.heap.size v l)(hl:Ord l) :
  Calls Tryz.prog 12 #[.string ⟨#[114,101,112,108,97,99,101]⟩,v] w fun e w'=>e=.returned (qbc (qai 4 [⟨0,0⟩,⟨1,0⟩,⟨1,0⟩,⟨2,(-1)⟩] l))∧Below w.heap.size w w':=by
 have HK:=hid (fun w=>qau ⟨#[114,101,112,108,97,99,101]⟩ true (fun _=>rfl) (fun h=>absurd rfl (h _ (List.mem_of_getElem? (i:=12) rfl))) w)
 have hlen:=hl.len
 have HSZ:=hid hl.sz
 have s0:=hl.sz 0
 have s1:=hl.sz 1
 have h0:=qbd (raw l 0)
 have HA0:=hid (fun(W:World) (hW:Below w.heap.size w W)=>show Calls Tryz.prog 27 #[v,.int .i64 0] W _ from qao v l 0 W (hv.up hW) (by omega) s0)
 obtain⟨A,c,hvv,hlc,hcm,hcell⟩:=hv.ex
 unfold maxLen at hcm
 have HC:=hid hcell
 have hd1 : ¬ (40:Int)<(l.length:Int):=by omega
 have HX:=hid (fun(W:World) (hW:Below w.heap.size w W)=>qsi v l W (hv.up hW) hl)
 obtain⟨r,hr⟩ : ∃ r,qai 4 [⟨0,0⟩,⟨1,0⟩,⟨1,0⟩,⟨2,(-1)⟩] l=r:=⟨_,rfl⟩
 rw[hr] at HX ⊢
 obtain⟨S,hS⟩ : ∃ S,trm (raw l 0)=S:=⟨_,rfl⟩
 rw[hS] at HA0 h0
 clear hr hS hv hl hcell
 subst hvv
 unfold qbc at HX ⊢
 go_enter Tryz.func12,Tryz.ntmps12
 go_wp2_with fail
 (with_reducible refine(HK.out _).mono ?_)
 rintro e w1⟨rfl,hb⟩
 have HB1:=hid hb
 clear hb HK
 go_wp2_with fail
 go_loop [6] (fun i => ∃ k:Nat,i=.int .i64 (k:Int)∧k≤l.length) (fun i=>l.length-(intOf i).toNat)
 case atStart=>exact⟨0,by go_num,Nat.zero_le _⟩
 case round =>
  obtain⟨k,rfl,hk⟩:=hrel
  by_cases hlt:k<l.length
  ·have hki:(k:Int)<(l.length:Int):=by omega
   obtain⟨g,o,rfl,hg,hcl⟩:=HC.out (by omega)
   have c0:=(HB1.out.cell (p:=⟨g,o+k,none⟩) hg).trans (hcl k l[k] (List.getElem?_eq_getElem hlt))
   have hsz:=HSZ.out k
   rw[qbm hlt] at hsz
   have hgw:g<w1.heap.size:=by have:=HB1.out.size;omega
   clear hcl
   generalize l[k]=S at c0 hsz
   have hS2 : ¬ (32768:Int)<(S.size:Int):=by omega
   go_wp2
   go_round
   case rel=>exact⟨k+1,by go_num,by omega⟩
   case measure=>simp[intOf];omega
  ·have hki : ¬ (k:Int)<(l.length:Int):=by omega
   go_wp2_with fail
   (with_reducible refine(HA0.out _ HB1.out).mono ?_)
   rintro e w2⟨rfl,hb⟩
   have HB2:=hid (HB1.out.trans (hb.mono HB1.out.size))
   clear hb
   go_wp2_with fail
   (with_reducible refine(HX.out _ HB2.out).mono ?_)
   rintro e w3⟨rfl,hb⟩
   have HB3:=hid (HB2.out.trans (hb.mono HB2.out.size))
   clear hb
   go_wp2
   go_ret2
   exact⟨rfl,HB3.out⟩
theorem ql9(v:Value)(l:List BA)(w:World)(hv:Rd w w.heap.size v l)(hl:Ord l) :
  Calls Tryz.prog 12 #[.string ⟨#[112,97,100,108,101,102,116]⟩,v] w fun e w'=>e=.returned (qbc (qai 5 [⟨0,0⟩,⟨2,0⟩,⟨1,0⟩] l))∧Below w.heap.size w w':=by
 have HK:=hid (fun w=>qau ⟨#[112,97,100,108,101,102,116]⟩ true (fun _=>rfl) (fun h=>absurd rfl (h _ (List.mem_of_getElem? (i:=8) rfl))) w)
 have hlen:=hl.len
 have HSZ:=hid hl.sz
 have s0:=hl.sz 0
 have s1:=hl.sz 1
 have h0:=qbd (raw l 0)
 have HA0:=hid (fun(W:World) (hW:Below w.heap.size w W)=>show Calls Tryz.prog 27 #[v,.int .i64 0] W _ from qao v l 0 W (hv.up hW) (by omega) s0)
 obtain⟨A,c,hvv,hlc,hcm,hcell⟩:=hv.ex
 unfold maxLen at hcm
 have HC:=hid hcell
 have hd1 : ¬ (40:Int)<(l.length:Int):=by omega
 have HX:=hid (fun(W:World) (hW:Below w.heap.size w W)=>qsh v l W (hv.up hW) hl)
 obtain⟨r,hr⟩ : ∃ r,qai 5 [⟨0,0⟩,⟨2,0⟩,⟨1,0⟩] l=r:=⟨_,rfl⟩
 rw[hr] at HX ⊢
 obtain⟨S,hS⟩ : ∃ S,trm (raw l 0)=S:=⟨_,rfl⟩
 rw[hS] at HA0 h0
 clear hr hS hv hl hcell
 subst hvv
 unfold qbc at HX ⊢
 go_enter Tryz.func12,Tryz.ntmps12
 go_wp2_with fail
 (with_reducible refine(HK.out _).mono ?_)
 rintro e w1⟨rfl,hb⟩
 have HB1:=hid hb
 clear hb HK
 go_wp2_with fail
 go_loop [6] (fun i => ∃ k:Nat,i=.int .i64 (k:Int)∧k≤l.length) (fun i=>l.length-(intOf i).toNat)
 case atStart=>exact⟨0,by go_num,Nat.zero_le _⟩
 case round =>
  obtain⟨k,rfl,hk⟩:=hrel
  by_cases hlt:k<l.length
  ·have hki:(k:Int)<(l.length:Int):=by omega
   obtain⟨g,o,rfl,hg,hcl⟩:=HC.out (by omega)
   have c0:=(HB1.out.cell (p:=⟨g,o+k,none⟩) hg).trans (hcl k l[k] (List.getElem?_eq_getElem hlt))
   have hsz:=HSZ.out k
   rw[qbm hlt] at hsz
   have hgw:g<w1.heap.size:=by have:=HB1.out.size;omega
   clear hcl
   generalize l[k]=S at c0 hsz
   have hS2 : ¬ (32768:Int)<(S.size:Int):=by omega
   go_wp2
   go_round
   case rel=>exact⟨k+1,by go_num,by omega⟩
   case measure=>simp[intOf];omega
  ·have hki : ¬ (k:Int)<(l.length:Int):=by omega
   go_wp2_with fail
   (with_reducible refine(HA0.out _ HB1.out).mono ?_)
   rintro e w2⟨rfl,hb⟩
   have HB2:=hid (HB1.out.trans (hb.mono HB1.out.size))
   clear hb
   go_wp2_with fail
   (with_reducible refine(HX.out _ HB2.out).mono ?_)
   rintro e w3⟨rfl,hb⟩
   have HB3:=hid (HB2.out.trans (hb.mono HB2.out.size))
   clear hb
   go_wp2
   go_ret2
   exact⟨rfl,HB3.out⟩
end Go.Proofs.YtldkgbnmaefaaaaGreatDoor.Fu
