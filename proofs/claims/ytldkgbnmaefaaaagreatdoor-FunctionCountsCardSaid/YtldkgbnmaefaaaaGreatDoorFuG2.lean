import Derived.Test.YtldkgbnmaefaaaaGreatDoorFuG1
import Derived.Test.YtldkgbnmaefaaaaGreatDoorCaH4
import Derived.Test.YtldkgbnmaefaaaaGreatDoorCaH5
import Derived.Test.YtldkgbnmaefaaaaGreatDoorFoG5
import Derived.Test.YtldkgbnmaefaaaaGreatDoorNuG3
import Derived.Test.YtldkgbnmaefaaaaGreatDoorSfG3
import Derived.Test.YtldkgbnmaefaaaaGreatDoorSfG5
import Derived.Test.YtldkgbnmaefaaaaGreatDoorSfG1
import Derived.Test.YtldkgbnmaefaaaaGreatDoorSfG2
set_option maxRecDepth 100000
set_option maxHeartbeats 4000000
open Go.Lib (hid)
namespace Go.Proofs.YtldkgbnmaefaaaaGreatDoor.Fu
open Go.RowKit
set_option linter.unusedVariables false
set_option linter.unusedSimpArgs false
structure Tb (w:World):Prop where
 nu:Nu.Tb w
 ca:Ca.Tb w
theorem Tb.below{w w':World}(h:Tb w)(hb:Below w.heap.size w w'):Tb w':=⟨h.nu.below hb,h.ca.below hb⟩
theorem qou(s:BA)(n:Int) : ∃ r:An,(∀ w,Ca.Tb w→Calls Tryz.prog 127 #[.string s,.int .i64 n] w fun e w'=>e=.returned (.tuple #[.string r.s,.int .i64 r.e])∧Below w.heap.size w w') ∧
  (∀ w,Calls Tryz.prog 35 #[.string s,.int .i64 n] w fun e w'=>e=.returned (.tuple #[.string r.s,.int .i64 r.e])∧Below w.heap.size w w'):=by
 by_cases h:0≤n∧n<52596000
 ·by_cases hs:400<s.size
  ·exact⟨⟨⟨#[]⟩,3⟩,fun w ht=>Ca.qrp h s w hs,fun w=>Ca.qn8 h s w hs⟩
  ·obtain⟨y,m,d,c,hk,c1,c2,rfl⟩:=Ca.qo2 h.1 h.2
   exact⟨⟨_,0⟩,fun w ht=>Ca.qrq hk c1 c2 s w (by omega) ht,fun w=>Ca.qn9 hk c1 c2 s w (by omega)⟩
 ·exact⟨⟨⟨#[]⟩,2⟩,fun w ht=>Ca.qro h s w,fun w=>Ca.qn7 h s w⟩
theorem qoc(n u k:Int) : ∃ r:Nm,(∀ w,Ca.Tb w→Calls Tryz.prog 126 #[.int .i64 n,.int .i64 u,.int .i64 k] w fun e w'=>e=.returned (.tuple #[.int .i64 r.n,.int .i64 r.e])∧Below w.heap.size w w') ∧
  (∀ w,Calls Tryz.prog 57 #[.int .i64 n,.int .i64 u,.int .i64 k] w fun e w'=>e=.returned (.tuple #[.int .i64 r.n,.int .i64 r.e])∧Below w.heap.size w w'):=by
 by_cases h:0≤n∧n<52596000
 ·by_cases hu:1≤u∧u≤5
  ·obtain⟨y,m,d,c,hk,c1,c2,rfl⟩:=Ca.qo2 h.1 h.2
   exact⟨⟨_,_⟩,fun w ht=>Ca.q2w hk c1 c2 hu w ht,fun w=>Ca.qxz hk c1 c2 hu w⟩
  ·obtain⟨y,m,d,c,hk,c1,c2,he⟩:=Ca.qo2 h.1 h.2
   exact⟨⟨0,2⟩,fun w ht=>Ca.q2v h hu w,fun w=>by rw[he];exact Ca.qxy hk c1 c2 hu w⟩
 ·exact⟨⟨0,2⟩,fun w ht=>Ca.q2u h w,fun w=>Ca.qxx h w⟩
noncomputable def q8l (s:BA) (n:Int):An:=(qou s n).choose
noncomputable def qyd (n u k:Int):Nm:=(qoc n u k).choose
theorem qs3(s:BA)(n:Int)(w:World)(ht:Ca.Tb w):Calls Tryz.prog 127 #[.string s,.int .i64 n] w fun e w'=>e=.returned (.tuple #[.string (q8l s n).s,.int .i64 (q8l s n).e])∧Below w.heap.size w w':=(qou s n).choose_spec.1 w ht
theorem qp4(s:BA)(n:Int)(w:World):Calls Tryz.prog 35 #[.string s,.int .i64 n] w fun e w'=>e=.returned (.tuple #[.string (q8l s n).s,.int .i64 (q8l s n).e])∧Below w.heap.size w w':=(qou s n).choose_spec.2 w
theorem qk0(n u k:Int)(w:World)(ht:Ca.Tb w):Calls Tryz.prog 126 #[.int .i64 n,.int .i64 u,.int .i64 k] w fun e w'=>e=.returned (.tuple #[.int .i64 (qyd n u k).n,.int .i64 (qyd n u k).e])∧Below w.heap.size w w':=(qoc n u k).choose_spec.1 w ht
theorem qk5(n u k:Int)(w:World):Calls Tryz.prog 57 #[.int .i64 n,.int .i64 u,.int .i64 k] w fun e w'=>e=.returned (.tuple #[.int .i64 (qyd n u k).n,.int .i64 (qyd n u k).e])∧Below w.heap.size w w':=(qoc n u k).choose_spec.2 w
def fill(f:BA):BA:=if f.size=0 then⟨#[48]⟩ else f
def xbh(s t:BA)(f:Int):An:=if Sf.fnd s t f<0 then⟨em,0⟩ else⟨Nu.itS (Sf.fnd s t f),0⟩
def qoo(s:BA):An:=if s.size=0 then⟨em,0⟩ else if (Fo.ev s.data.toList).e=0 then⟨Nu.fmtS (Fo.ev s.data.toList).n (Fo.ev s.data.toList).d,0⟩ else⟨em,(Fo.ev s.data.toList).e⟩
def xap(s:BA)(k:Int):An:=if (Fo.ev s.data.toList).e=0 then⟨Nu.qug (Fo.ev s.data.toList).n (Fo.ev s.data.toList).d k,(Nu.rnd (Fo.ev s.data.toList).n (Fo.ev s.data.toList).d k).e⟩ else⟨em,(Fo.ev s.data.toList).e⟩
def xcu:BA:=⟨#[89,45,109,45,100,32,72,58,105]⟩
noncomputable def qgn (s:BA) (k:Int) (u:BA):An :=
 if qet u=0 then⟨em,7⟩ else if (Ca.parse s.data.toList).e=0 then
  (if (qyd (Ca.parse s.data.toList).n (qet u) k).e=0 then q8l xcu (qyd (Ca.parse s.data.toList).n (qet u) k).n else⟨em,(qyd (Ca.parse s.data.toList).n (qet u) k).e⟩)
 else⟨em,(Ca.parse s.data.toList).e⟩
noncomputable def qgo (p d:BA):An:=if (Ca.parse d.data.toList).e=0 then q8l p (Ca.parse d.data.toList).n else⟨em,(Ca.parse d.data.toList).e⟩
noncomputable def res:Nat→Ag→Ag→Ag→Ag→An
 | 0,a,_,_,_=>⟨Nu.itS (Sf.rc a.s),0⟩
 | 1,a,b,c,_=>⟨Sf.slice a.s b.n c.n,0⟩
 | 2,a,b,_,_=>⟨Nu.itS ((Sf.occ a.s b.s).length:Int),0⟩
 | 3,a,b,c,_=>xbh a.s b.s c.n
 | 4,a,b,c,d=>⟨Sf.rpS a.s b.s c.s d.n,Sf.rpE a.s b.s c.s d.n⟩
 | 5,a,b,c,_=>⟨Sf.pL a.s (fill c.s) b.n,Sf.qio a.s (fill c.s) b.n⟩
 | 6,a,b,c,_=>⟨Sf.pR a.s (fill c.s) b.n,Sf.qio a.s (fill c.s) b.n⟩
 | 7,a,_,_,_=>⟨Sf.bsl (a.s.data.toList.map Sf.sm),0⟩
 | 8,a,_,_,_=>⟨Sf.bsl (a.s.data.toList.map Sf.cp),0⟩
 | 9,a,_,_,_=>⟨Sf.bsl (Sf.cs (Sf.chg false) 1 a.s.data.toList),0⟩
 | 10,a,_,_,_=>⟨Sf.bsl (Sf.cs (Sf.chg true) 1 a.s.data.toList),0⟩
 | 11,a,_,_,_=>⟨trm a.s,0⟩
 | 12,a,b,c,_=>⟨Sf.part a.s b.s c.n,0⟩
 | 13,a,_,_,_=>qoo a.s
 | 14,a,b,_,_=>xap a.s b.n
 | 15,a,b,c,_=>qgn a.s b.n c.s
 | _,a,b,_,_=>qgo a.s b.s
def Sm(a:Ag):Prop:=a.s.size≤350 ∧ -4000000000≤a.n∧a.n≤4000000000
theorem Sm.i{a:Ag}(h:Sm a):Sf.I64 a.n:=by have:=h.2;unfold Sf.I64;omega
def qbc(r:An):Value := .tuple #[.string r.s,.int .i64 r.e]
def Gives(F:FuncId)(x:Value)(cf:Array Value)(w:World)(r:An):Prop:=Calls Tryz.prog F (#[x]++cf) w fun e w'=>e=.returned (qbc r)∧Below w.heap.size w w'
theorem qnl(s t:BA)(f:Int) : -1≤Sf.fnd s t f∧Sf.fnd s t f≤(s.size:Int):=by
 have hr:=Sf.qer s
 rcases Sf.qyz s t f with⟨h,_⟩ | ⟨p,h,hp,_⟩
 ·rw[h];omega
 ·rw[h];omega
theorem qr6(s:BA)(w:World)(hs:s.size≤350)(hT:Nu.Tb w):Calls Tryz.prog 66 #[.string s] w fun e w'=>e=.returned (.string (Nu.itS (Sf.rc s)))∧Below w.heap.size w w':=by
 have hr:=Sf.qer s
 have HL:=hid (fun w=>Sf.qa1 s w (by omega))
 have HI:=hid (fun(W:World) (hW:Below w.heap.size w W)=>Nu.qfw (Sf.rc s:Int) W (by omega) (hT.below hW))
 clear hT
 go_enter Tryz.func66,Tryz.ntmps66
 go_wp2_with fail
 refine(HL.out _).mono ?_
 rintro e w1⟨rfl,hb⟩
 have HB:=hid hb
 clear hb
 go_wp2_with fail
 refine(HI.out _ HB.out).mono ?_
 rintro e w2⟨rfl,hb2⟩
 have HB2:=hid (HB.out.trans (hb2.mono HB.out.size))
 clear hb2
 go_wp2
 go_ret
 exact⟨rfl,HB2.out⟩
theorem bxb{w w1:World}{o:Obj}(hb:Below (w.alloc o).heap.size (w.alloc o) w1):Below w.heap.size w w1:=((Below.refl _ w).alloc (Nat.le_refl _) o).trans (hb.mono (by simp))
theorem bx{w w1:World}{cs:Array Value}{t:TypeId}(hb:Below (w.alloc (.cells cs t)).heap.size (w.alloc (.cells cs t)) w1):w1.heap[w.heap.size]? = some (.cells cs t):=qb8 (heap_alloc_new w _) hb
theorem xfj(a b c d:Ag)(ha:Sm a)(hb:Sm b)(hc:Sm c)(hd:Sm d)(w:World)(hT:Tb w):Gives 68 (.agg (qba a b c d)) #[] w (res 1 a b c d):=by
 obtain⟨a1,a2,a3⟩:=ha
 obtain⟨b1,b2,b3⟩:=hb
 obtain⟨c1,c2,c3⟩:=hc
 obtain⟨d1,d2,d3⟩:=hd
 have H:=hid (fun w=>Sf.qm6 a.s b.n c.n w (by omega) (by unfold Sf.I64;omega) (by unfold Sf.I64;omega))
 clear hT
 unfold Gives qbc res qba
 go_enter Tryz.func68,Tryz.ntmps68
 go_wp2_with fail
 (with_reducible refine(H.out _).mono ?_)
 rintro e w1⟨rfl,hb⟩
 have HB:=hid (bxb hb)
 clear hb
 go_wp2
 go_ret2
 exact⟨rfl,HB.out⟩
theorem xfl(a b c d:Ag)(ha:Sm a)(hb:Sm b)(hc:Sm c)(hd:Sm d)(w:World)(hT:Tb w):Gives 71 (.agg (qba a b c d)) #[] w (res 4 a b c d):=by
 obtain⟨a1,a2,a3⟩:=ha
 obtain⟨b1,b2,b3⟩:=hb
 obtain⟨c1,c2,c3⟩:=hc
 obtain⟨d1,d2,d3⟩:=hd
 have H:=hid (fun w=>Sf.qoa a.s b.s c.s d.n w (by omega) (by omega) (by omega) (by unfold Sf.I64;omega))
 clear hT
 unfold Gives qbc res qba
 go_enter Tryz.func71,Tryz.ntmps71
 go_wp2_with fail
 (with_reducible refine(H.out _).mono ?_)
 rintro e w1⟨rfl,hb⟩
 have HB:=hid (bxb hb)
 clear hb
 go_wp2
 go_ret2
 exact⟨rfl,HB.out⟩
theorem xd3(a b c d:Ag)(ha:Sm a)(hb:Sm b)(hc:Sm c)(hd:Sm d)(w:World)(hT:Tb w):Gives 80 (.agg (qba a b c d)) #[] w (res 12 a b c d):=by
 obtain⟨a1,a2,a3⟩:=ha
 obtain⟨b1,b2,b3⟩:=hb
 obtain⟨c1,c2,c3⟩:=hc
 obtain⟨d1,d2,d3⟩:=hd
 have H:=hid (fun w=>Sf.qxw a.s b.s c.n w (by omega) (by omega) (by unfold Sf.I64;omega))
 clear hT
 unfold Gives qbc res qba
 go_enter Tryz.func80,Tryz.ntmps80
 go_wp2_with fail
 (with_reducible refine(H.out _).mono ?_)
 rintro e w1⟨rfl,hb⟩
 have HB:=hid (bxb hb)
 clear hb
 go_wp2
 go_ret2
 exact⟨rfl,HB.out⟩
theorem xfk(a b c d:Ag)(ha:Sm a)(hb:Sm b)(hc:Sm c)(hd:Sm d)(w:World)(hT:Tb w):Gives 69 (.agg (qba a b c d)) #[] w (res 2 a b c d):=by
 obtain⟨a1,a2,a3⟩:=ha
 obtain⟨b1,b2,b3⟩:=hb
 obtain⟨c1,c2,c3⟩:=hc
 obtain⟨d1,d2,d3⟩:=hd
 have hl:=Sf.qdi a.s b.s
 have H:=hid (fun w=>Sf.qd4 a.s b.s w (by omega) (by omega))
 have HI:=hid (fun(W:World) (hW:Below w.heap.size w W)=>Nu.qfw ((Sf.occ a.s b.s).length:Int) W (by omega) (hT.nu.below hW))
 clear hT
 unfold Gives qbc res qba
 go_enter Tryz.func69,Tryz.ntmps69
 go_wp2_with fail
 (with_reducible refine(H.out _).mono ?_)
 rintro e w1⟨rfl,hb⟩
 have HB:=hid (bxb hb)
 clear hb
 go_wp2_with fail
 (with_reducible refine(HI.out _ HB.out).mono ?_)
 rintro e w2⟨rfl,hb2⟩
 have HB2:=hid (HB.out.trans (hb2.mono HB.out.size))
 clear hb2
 go_wp2
 go_ret2
 exact⟨rfl,HB2.out⟩
theorem q2b(a b c d:Ag)(ha:Sm a)(hb:Sm b)(hc:Sm c)(hd:Sm d)(w:World)(hT:Tb w):Gives 70 (.agg (qba a b c d)) #[] w (res 3 a b c d):=by
 obtain⟨a1,a2,a3⟩:=ha
 obtain⟨b1,b2,b3⟩:=hb
 obtain⟨c1,c2,c3⟩:=hc
 obtain⟨d1,d2,d3⟩:=hd
 have hl:=qnl a.s b.s c.n
 have H:=hid (fun w=>Sf.qxr a.s b.s c.n w (by omega) (by omega))
 have hr:res 3 a b c d=xbh a.s b.s c.n:=rfl
 rw[hr]
 unfold xbh
 obtain⟨p,hp⟩ : ∃ p,Sf.fnd a.s b.s c.n=p:=⟨_,rfl⟩
 rw[hp] at H hl ⊢
 clear hp hr
 have HI:=hid (fun(W:World) (hW:Below w.heap.size w W)=>Nu.qfw p W (by omega) (hT.nu.below hW))
 clear hT
 by_cases h0:p<0
 ·rw[if_pos h0]
  unfold Gives qbc qba em
  go_enter Tryz.func70,Tryz.ntmps70
  go_wp2_with fail
  (with_reducible refine(H.out _).mono ?_)
  rintro e w1⟨rfl,hb⟩
  have HB:=hid (bxb hb)
  clear hb
  go_wp2
  go_ret2
  exact⟨rfl,HB.out⟩
 ·rw[if_neg h0]
  unfold Gives qbc qba
  go_enter Tryz.func70,Tryz.ntmps70
  go_wp2_with fail
  (with_reducible refine(H.out _).mono ?_)
  rintro e w1⟨rfl,hb⟩
  have HB:=hid (bxb hb)
  clear hb
  go_wp2_with fail
  (with_reducible refine(HI.out _ HB.out).mono ?_)
  rintro e w2⟨rfl,hb2⟩
  have HB2:=hid (HB.out.trans (hb2.mono HB.out.size))
  clear hb2
  go_wp2
  go_ret2
  exact⟨rfl,HB2.out⟩
theorem xd4(a b c d:Ag)(ha:Sm a)(hb:Sm b)(hc:Sm c)(hd:Sm d)(w:World)(hT:Tb w):Gives 81 (.agg (qba a b c d)) #[] w (res 13 a b c d):=by
 obtain⟨a1,a2,a3⟩:=ha
 obtain⟨b1,b2,b3⟩:=hb
 obtain⟨c1,c2,c3⟩:=hc
 obtain⟨d1,d2,d3⟩:=hd
 have H:=hid (fun(W:World) (hW:Below w.heap.size w W)=>Fo.qp3 a.s W (hT.nu.below hW))
 have HF:=hid (fun(n d:Int) (W:World) (hW:Below w.heap.size w W)=>Nu.qrn n d W (hT.nu.below hW))
 have hr:res 13 a b c d=qoo a.s:=rfl
 rw[hr]
 unfold qoo
 obtain⟨n,m,x,hv⟩ : ∃ n m x,Fo.ev a.s.data.toList=⟨n,m,x⟩:=⟨_,_,_,rfl⟩
 rw[hv] at H ⊢
 unfold Fo.res at H
 clear hv hr hT
 have hd:=qhy a.s
 by_cases h0:a.s.size=0
 ·rw[if_pos h0]
  rw[decide_eq_true h0] at hd
  unfold Gives qbc qba em
  go_enter Tryz.func81,Tryz.ntmps81
  go_wp2
  go_ret2
  exact⟨rfl,(Below.refl _ w).alloc (Nat.le_refl _) _⟩
 ·rw[if_neg h0]
  rw[decide_eq_false h0] at hd
  clear h0
  by_cases hx:x=0
  ·subst hx
   rw[if_pos rfl]
   unfold Gives qbc qba
   go_enter Tryz.func81,Tryz.ntmps81
   go_wp2_with fail
   (with_reducible refine(H.out _ ((Below.refl _ w).alloc (Nat.le_refl _) _)).mono ?_)
   rintro e w1⟨rfl,hb⟩
   have HB:=hid (bxb hb)
   clear hb
   go_wp2_with fail
   (with_reducible refine(HF.out n m _ (HB.out.alloc HB.out.size _)).mono ?_)
   rintro e w2⟨rfl,hb2⟩
   have HB2:=hid (HB.out.trans ((bxb hb2).mono HB.out.size))
   clear hb2
   go_wp2
   go_ret2
   exact⟨rfl,HB2.out⟩
  ·rw[if_neg hx]
   have hx2:(x != 0)=true:=by rw[bne_iff_ne];exact hx
   clear hx
   unfold Gives qbc qba em
   go_enter Tryz.func81,Tryz.ntmps81
   go_wp2_with fail
   (with_reducible refine(H.out _ ((Below.refl _ w).alloc (Nat.le_refl _) _)).mono ?_)
   rintro e w1⟨rfl,hb⟩
   have HB:=hid (bxb hb)
   clear hb
   go_wp2
   go_ret2
   exact⟨rfl,HB.out.alloc HB.out.size _⟩
theorem xd5(a b c d:Ag)(ha:Sm a)(hb:Sm b)(hc:Sm c)(hd:Sm d)(w:World)(hT:Tb w):Gives 82 (.agg (qba a b c d)) #[] w (res 14 a b c d):=by
 obtain⟨a1,a2,a3⟩:=ha
 obtain⟨b1,b2,b3⟩:=hb
 obtain⟨c1,c2,c3⟩:=hc
 obtain⟨d1,d2,d3⟩:=hd
 have H:=hid (fun(W:World) (hW:Below w.heap.size w W)=>Fo.qp3 a.s W (hT.nu.below hW))
 have HF:=hid (fun(n d:Int) (W:World) (hW:Below w.heap.size w W)=>Nu.qs1 n d b.n W (hT.nu.below hW))
 have hr:res 14 a b c d=xap a.s b.n:=rfl
 rw[hr]
 unfold xap
 obtain⟨n,m,x,hv⟩ : ∃ n m x,Fo.ev a.s.data.toList=⟨n,m,x⟩:=⟨_,_,_,rfl⟩
 rw[hv] at H ⊢
 unfold Fo.res at H
 clear hv hr hT
 by_cases hx:x=0
 ·subst hx
  rw[if_pos rfl]
  unfold Gives qbc qba
  go_enter Tryz.func82,Tryz.ntmps82
  go_wp2_with fail
  (with_reducible refine(H.out _ ((Below.refl _ w).alloc (Nat.le_refl _) _)).mono ?_)
  rintro e w1⟨rfl,hb⟩
  have q1:=qab (i:=3) (bx hb) rfl
  have hz:=qac (bx hb)
  have HB:=hid (bxb hb)
  clear hb
  go_wp2_with fail
  (with_reducible refine(HF.out n m _ (HB.out.alloc HB.out.size _)).mono ?_)
  rintro e w2⟨rfl,hb2⟩
  have HB2:=hid (HB.out.trans ((bxb hb2).mono HB.out.size))
  clear hb2
  go_wp2
  go_ret2
  exact⟨rfl,HB2.out⟩
 ·rw[if_neg hx]
  have hx2:(x != 0)=true:=by rw[bne_iff_ne];exact hx
  clear hx
  unfold Gives qbc qba em
  go_enter Tryz.func82,Tryz.ntmps82
  go_wp2_with fail
  (with_reducible refine(H.out _ ((Below.refl _ w).alloc (Nat.le_refl _) _)).mono ?_)
  rintro e w1⟨rfl,hb⟩
  have HB:=hid (bxb hb)
  clear hb
  go_wp2
  go_ret2
  exact⟨rfl,HB.out.alloc HB.out.size _⟩
theorem xd7(a b c d:Ag)(ha:Sm a)(hb:Sm b)(hc:Sm c)(hd:Sm d)(w:World)(hT:Tb w):Gives 84 (.agg (qba a b c d)) #[] w (res 16 a b c d):=by
 obtain⟨a1,a2,a3⟩:=ha
 obtain⟨b1,b2,b3⟩:=hb
 obtain⟨c1,c2,c3⟩:=hc
 obtain⟨d1,d2,d3⟩:=hd
 have H:=hid (fun(W:World) (hW:Below w.heap.size w W)=>Ca.qew b.s W (by omega) (hT.ca.below hW))
 have HF:=hid (fun(n:Int) (W:World) (hW:Below w.heap.size w W)=>qs3 a.s n W (hT.ca.below hW))
 have hr:res 16 a b c d=qgo a.s b.s:=rfl
 rw[hr]
 unfold qgo
 obtain⟨n,x,hv⟩ : ∃ n x,Ca.parse b.s.data.toList=⟨n,x⟩:=⟨_,_,rfl⟩
 rw[hv] at H ⊢
 clear hv hr hT
 by_cases hx:x=0
 ·subst hx
  rw[if_pos rfl]
  unfold Gives qbc qba
  go_enter Tryz.func84,Tryz.ntmps84
  go_wp2_with fail
  (with_reducible refine(H.out _ ((Below.refl _ w).alloc (Nat.le_refl _) _)).mono ?_)
  rintro e w1⟨rfl,hb⟩
  have q1:=qab (i:=0) (bx hb) rfl
  have hz:=qac (bx hb)
  have HB:=hid (bxb hb)
  clear hb
  go_wp2_with fail
  (with_reducible refine(HF.out n _ HB.out).mono ?_)
  rintro e w2⟨rfl,hb2⟩
  have HB2:=hid (HB.out.trans (hb2.mono HB.out.size))
  clear hb2
  go_wp2
  go_ret2
  exact⟨rfl,HB2.out⟩
 ·rw[if_neg hx]
  have hx2:(x != 0)=true:=by rw[bne_iff_ne];exact hx
  clear hx
  unfold Gives qbc qba em
  go_enter Tryz.func84,Tryz.ntmps84
  go_wp2_with fail
  (with_reducible refine(H.out _ ((Below.refl _ w).alloc (Nat.le_refl _) _)).mono ?_)
  rintro e w1⟨rfl,hb⟩
  have HB:=hid (bxb hb)
  clear hb
  go_wp2
  go_ret2
  exact⟨rfl,HB.out⟩
end Go.Proofs.YtldkgbnmaefaaaaGreatDoor.Fu
