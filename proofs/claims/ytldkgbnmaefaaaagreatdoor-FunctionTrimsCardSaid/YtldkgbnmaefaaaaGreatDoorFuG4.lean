import Derived.Test.YtldkgbnmaefaaaaGreatDoorFuG3
import Derived.Test.YtldkgbnmaefaaaaGreatDoorFuG1
import Derived.Laws.EntriesVeiled
import Derived.Test.YtldkgbnmaefaaaaGreatDoorFuG2
import Derived.Test.YtldkgbnmaefaaaaGreatDoorFoG4
set_option maxRecDepth 100000
set_option maxHeartbeats 4000000
open Go.Lib (hid)
namespace Go.Proofs.YtldkgbnmaefaaaaGreatDoor.Fu
open Go.RowKit
set_option linter.unusedVariables false
set_option linter.unusedSimpArgs false
theorem qjt(a b:BA):(a.toList==b.toList)=decide (a=b):=by
 rw[Lib.toList_data,Lib.toList_data]
 by_cases h:a=b
 ·subst h;rw[decide_eq_true rfl];exact beq_self_eq_true _
 ·rw[decide_eq_false h]
  refine beq_eq_false_iff_ne.2 fun e=>h ?_
  have e2:a.data=b.data:=by
   apply Array.ext'
   exact e
  cases a;cases b;simp only at e2;rw[e2]
theorem qjv:tbl.length=17:=rfl
theorem q7u{W:World}{g b:Nat}{cs cs':Array Value}{t t':TypeId}(h:W.heap[g]? = some (.cells cs t))(h':W.heap[b]? = some (.cells cs' t'))(hne:t≠t'):b≠g:=by
 rintro rfl
 rw[h] at h'
 injection h' with h'
 injection h' with _ ht
 exact hne ht
theorem RowOk.far{W W':World}{x:Row}{a f:Value}(h:RowOk W x a f){g:Nat}{cs:Array Value}(hr:W.heap[g]? = some (.cells cs 48))(hw : ∀ b,b≠g→W'.heap[b]? = W.heap[b]?):RowOk W' x a f:=by
 refine⟨?_,?_⟩
 ·obtain⟨p,h1,h2⟩:=h.ps
  exact⟨p,h1,(hw p (q7u hr h2 (by decide))).trans h2⟩
 ·have h3:=h.fn
  cases hk:x.fk with
  |dir f=>rw[hk] at h3;exact h3
  |chg f=>rw[hk] at h3;obtain⟨c,h4,h5⟩:=h3;exact⟨c,h4,(hw c (q7u hr h5 (by decide))).trans h5⟩
  |pd f=>rw[hk] at h3;obtain⟨c,h4,h5⟩:=h3;exact⟨c,h4,(hw c (q7u hr h5 (by decide))).trans h5⟩
theorem qlc{w W:World}(h:Below w.heap.size w W)(a b c:Value):Below w.heap.size w (((W.setCell ⟨w.heap.size,0,none⟩ a).setCell ⟨w.heap.size,1,none⟩ b).setCell ⟨w.heap.size,2,none⟩ c) :=
 ((h.setCell (p:=⟨w.heap.size,0,none⟩) (Nat.le_refl _) a).setCell (p:=⟨w.heap.size,1,none⟩) (Nat.le_refl _) b).setCell (p:=⟨w.heap.size,2,none⟩) (Nat.le_refl _) c
theorem qtw{w W:World}(h:Below w.heap.size w W)(a b c:Value)(o:Obj):Below w.heap.size w ((((W.setCell ⟨w.heap.size,0,none⟩ a).setCell ⟨w.heap.size,1,none⟩ b).setCell ⟨w.heap.size,2,none⟩ c).alloc o):=(qlc h a b c).alloc (qlc h a b c).size o
structure FdS (w W:World) (s:BA) (v:Value) (k:Nat):Prop where
 bl:Below w.heap.size w W
 fns:Fns W v
 res:W.heap[w.heap.size]? = some (.cells #[.string ⟨#[]⟩,.slice none 0 0,.nilFunc] 48)
 no : ∀ j x,j<k→tbl[j]? = some x→x.name≠s
theorem FdS.up{w W W':World}{s:BA}{v:Value}{k:Nat}(h:FdS w W s v k)(hb:Below W.heap.size W W'):FdS w W' s v k:=⟨h.bl.trans (hb.mono h.bl.size),h.fns.up hb,qb8 h.res hb,h.no⟩
theorem FdS.next{w W:World}{s:BA}{v:Value}{k:Nat}(h:FdS w W s v k){y:Row}(hy:tbl[k]? = some y)(hn:y.name≠s):FdS w W s v (k+1) :=
 ⟨h.bl,h.fns,h.res,fun j x hj hx=>by
  by_cases e:j=k
  ·subst e;rw[hy] at hx;cases hx;exact hn
  ·exact h.no j x (by omega) hx⟩
def q8n(w:World)(s:BA)(e:Ending)(w':World):Prop := ∃ y a f,y∈tbl∧y.name=s∧e=.returned (.tuple #[.agg #[.string s,a,f],.bool true])∧RowOk w' y a f∧Below w.heap.size w w'
def zf:Value := .agg #[.string ⟨#[]⟩,.slice none 0 0,.nilFunc]
def q8s(w:World)(e:Ending)(w':World):Prop:=e=.returned (.tuple #[zf,.bool false])∧Below w.heap.size w w'
theorem qqh(s:BA)(hs : ∃ x∈tbl,x.name=s)(w:World):Calls Tryz.prog 23 #[.string s] w (q8n w s):=by
 go_enter Tryz.func23,Tryz.ntmps23
 go_wp2_with fail
 refine(qem _).mono ?_
 rintro e w1⟨v,rfl,hF,hb⟩
 obtain⟨hb1,hres⟩:Below w.heap.size w w1∧w1.heap[w.heap.size]? = some _:=⟨((Below.refl _ w).alloc (Nat.le_refl _) _).trans (hb.mono (by simp)),qb8 (heap_alloc_new w _) hb⟩
 have hS0:FdS w w1 s v 0:=⟨hb1,hF,hres,fun j x hj=>absurd hj (by omega)⟩
 obtain⟨g,cs,hv,_,_⟩:=hF.ex
 have S0:=hid hS0
 clear hS0 hb1 hres hF hb
 subst hv
 go_wp2_with fail
 go_loopw [8] (fun iv wr => ∃ k:Nat,iv=.int .i64 (k:Int)∧k≤17∧Hid (FdS w wr s (.slice (some ⟨g,0,none⟩) 17 17) k)) (fun i _=>17-(intOf i).toNat)
 case atStart=>exact⟨0,by go_num,by omega,S0⟩
 case round =>
  obtain⟨k,rfl,hk,HS⟩:=hrel
  have hz:w.heap.size<wr.heap.size:=qac HS.out.res
  by_cases hlt:k<17
  ·have hki:(k:Int)<17:=by omega
   obtain⟨y,hy⟩ : ∃ y,tbl[k]? = some y:=⟨_,List.getElem?_eq_getElem (by rw[qjv];exact hlt)⟩
   obtain⟨g',cs',hv',hg',hrow⟩:=HS.out.fns.ex
   obtain rfl:g=g':=by injection hv' with h1;injection h1 with h1;injection h1
   obtain⟨a,f,h1,h2,h3,hok⟩:=hrow k y hy
   obtain⟨gp,np,ha⟩:=hok.ps.form
   obtain⟨gf,cf,hf⟩:=hok.fn.form
   have c0:=qab hg' h1
   have c1:=qab hg' h2
   have c2:=qab hg' h3
   have hgl:=qac hg'
   subst ha hf
   have HOK:=hid hok
   have hq:=qjt y.name s
   have HY:=hid hy
   clear hrow hg' h1 h2 h3 hok hv' hy
   by_cases he:y.name=s
   ·rw[decide_eq_true he] at hq
    have HN:=hid he
    clear he
    obtain⟨nm,hnm⟩ : ∃ nm,y.name=nm:=⟨_,rfl⟩
    rw[hnm] at hq c0
    have r0:=qab (i:=0) HS.out.res rfl
    have r1:=qab (i:=1) HS.out.res rfl
    have r2:=qab (i:=2) HS.out.res rfl
    have rf : ∀ i,wr.frozen? ⟨w.heap.size,i,none⟩=false:=fun i=>by simp[World.frozen?,HS.out.res]
    have HNM:=hid hnm
    clear hnm
    go_wp2_with fail
    have hb0:=HS.out.bl
    refine bodyPost_ret (v := .tuple #[.agg #[.string nm,.slice (some ⟨gp,0,none⟩) np np,.func (.func gf) #[] cf],.bool true]) (by simp[results,Tryz.results23,go_sem,hz,r0,r1,r2]) rfl ⟨y,_,_,List.mem_of_getElem? HY.out,HN.out,by rw[←HN.out,HNM.out],?_,?_⟩
    ·exact(HOK.out.far HS.out.res (fun b hb=>(Below.heap_setCell _ ⟨w.heap.size,2,none⟩ _ _ hb).trans ((Below.heap_setCell _ ⟨w.heap.size,1,none⟩ _ _ hb).trans (Below.heap_setCell _ ⟨w.heap.size,0,none⟩ _ _ hb)))).up ((Below.refl _ _).alloc (Nat.le_refl _) _)
    ·exact qtw hb0 _ _ _ _
   ·rw[decide_eq_false he] at hq
    have HN:=hid he
    clear he
    obtain⟨nm,hnm⟩ : ∃ nm,y.name=nm:=⟨_,rfl⟩
    rw[hnm] at hq c0
    have HNM:=hid hnm
    clear hnm
    go_wp2_with fail
    go_roundw
    case rel=>exact⟨k+1,by go_num,by omega,hid ((HS.out.next HY.out HN.out).up ((Below.refl _ _).alloc (Nat.le_refl _) _))⟩
    case measure=>simp[intOf];omega
  ·exfalso
   obtain⟨x,hx,hxs⟩:=hs
   obtain⟨j,hj,hjx⟩:=List.getElem_of_mem hx
   rw[qjv] at hj
   exact HS.out.no j x (by omega) (by rw[List.getElem?_eq_getElem (by rw[qjv];exact hj),hjx]) hxs
theorem q4w(s:BA)(hs : ∀ x∈tbl,x.name≠s)(w:World):Calls Tryz.prog 23 #[.string s] w (q8s w):=by
 go_enter Tryz.func23,Tryz.ntmps23
 go_wp2_with fail
 refine(qem _).mono ?_
 rintro e w1⟨v,rfl,hF,hb⟩
 obtain⟨hb1,hres⟩:Below w.heap.size w w1∧w1.heap[w.heap.size]? = some _:=⟨((Below.refl _ w).alloc (Nat.le_refl _) _).trans (hb.mono (by simp)),qb8 (heap_alloc_new w _) hb⟩
 have hS0:FdS w w1 s v 0:=⟨hb1,hF,hres,fun j x hj=>absurd hj (by omega)⟩
 obtain⟨g,cs,hv,_,_⟩:=hF.ex
 have S0:=hid hS0
 clear hS0 hb1 hres hF hb
 subst hv
 go_wp2_with fail
 go_loopw [8] (fun iv wr => ∃ k:Nat,iv=.int .i64 (k:Int)∧k≤17∧Hid (FdS w wr s (.slice (some ⟨g,0,none⟩) 17 17) k)) (fun i _=>17-(intOf i).toNat)
 case atStart=>exact⟨0,by go_num,by omega,S0⟩
 case round =>
  obtain⟨k,rfl,hk,HS⟩:=hrel
  have hz:w.heap.size<wr.heap.size:=qac HS.out.res
  by_cases hlt:k<17
  ·have hki:(k:Int)<17:=by omega
   obtain⟨y,hy⟩ : ∃ y,tbl[k]? = some y:=⟨_,List.getElem?_eq_getElem (by rw[qjv];exact hlt)⟩
   obtain⟨g',cs',hv',hg',hrow⟩:=HS.out.fns.ex
   obtain rfl:g=g':=by injection hv' with h1;injection h1 with h1;injection h1
   obtain⟨a,f,h1,h2,h3,hok⟩:=hrow k y hy
   obtain⟨gp,np,ha⟩:=hok.ps.form
   obtain⟨gf,cf,hf⟩:=hok.fn.form
   have c0:=qab hg' h1
   have c1:=qab hg' h2
   have c2:=qab hg' h3
   have hgl:=qac hg'
   subst ha hf
   have hq:=qjt y.name s
   have HY:=hid hy
   have he:y.name≠s:=hs y (List.mem_of_getElem? hy)
   clear hrow hg' h1 h2 h3 hok hv' hy
   rw[decide_eq_false he] at hq
   have HN:=hid he
   clear he
   obtain⟨nm,hnm⟩ : ∃ nm,y.name=nm:=⟨_,rfl⟩
   rw[hnm] at hq c0
   clear hnm
   go_wp2_with fail
   go_roundw
   case rel=>exact⟨k+1,by go_num,by omega,hid ((HS.out.next HY.out HN.out).up ((Below.refl _ _).alloc (Nat.le_refl _) _))⟩
   case measure=>simp[intOf];omega
  ·have hki : ¬ (k:Int)<17:=by omega
   have r0:=qab (i:=0) HS.out.res rfl
   have r1:=qab (i:=1) HS.out.res rfl
   have r2:=qab (i:=2) HS.out.res rfl
   have rf : ∀ i,wr.frozen? ⟨w.heap.size,i,none⟩=false:=fun i=>by simp[World.frozen?,HS.out.res]
   have hb0:=HS.out.bl
   go_wp2_with fail
   exact bodyPost_ret (v := .tuple #[zf,.bool false]) (by simp[results,Tryz.results23,go_sem,hz,r0,r1,r2,zf]) rfl ⟨rfl,qlc hb0 _ _ _⟩
theorem qfx(v:Value)(l:List BA)(w:World)(hv:Rd w w.heap.size v l) :
  Calls Tryz.prog 24 #[v] w fun e w'=>e=.returned (.int .i64 (if 40<l.length then 8 else if ∃ s∈l,32768<s.size then 3 else 0))∧w=w':=by
 obtain⟨A,c,rfl,hlc,hcm,hcell⟩:=hv.ex
 unfold maxLen at hcm
 have HC:=hid hcell
 clear hcell hv
 by_cases h40:40<l.length
 ·rw[if_pos h40]
  have d1:(40:Int)<(l.length:Int):=by omega
  go_enter Tryz.func24,Tryz.ntmps24
  go_wp2
  go_ret
  exact⟨rfl,rfl⟩
 ·rw[if_neg h40]
  have d1 : ¬ (40:Int)<(l.length:Int):=by omega
  obtain⟨E,hE⟩ : ∃ E:Int,(if ∃ s∈l,32768<s.size then (3:Int) else 0)=E:=⟨_,rfl⟩
  rw[hE]
  have HE:=hid hE
  clear hE
  go_enter Tryz.func24,Tryz.ntmps24
  go_wp2
  go_loop [10] (fun i => ∃ k:Nat,i=.int .i64 (k:Int)∧k≤l.length∧Hid (∀ j s,j<k→l[j]? = some s → ¬ 32768<s.size)) (fun i=>l.length-(intOf i).toNat)
  case atStart=>exact⟨0,by go_num,Nat.zero_le _,hid (fun j s hj=>absurd hj (by omega))⟩
  case round =>
   obtain⟨k,rfl,hk,HS⟩:=hrel
   by_cases hlt:k<l.length
   ·have hki:(k:Int)<(l.length:Int):=by omega
    obtain⟨g,o,rfl,hg,hcl⟩:=HC.out (by omega)
    have c0:=hcl k l[k] (List.getElem?_eq_getElem hlt)
    have HM:=hid (List.getElem_mem hlt)
    have HG:=hid (List.getElem?_eq_getElem hlt)
    clear hcl
    generalize l[k]=S at c0 HM HG
    by_cases hS:32768<S.size
    ·have hS2:(32768:Int)<(S.size:Int):=by omega
     have HE2:Hid (E=3):=hid (HE.out.symm.trans (if_pos ⟨S,HM.out,hS⟩))
     go_wp2
     go_ret
     exact⟨by rw[HE2.out];rfl,rfl⟩
    ·have hS2 : ¬ (32768:Int)<(S.size:Int):=by omega
     go_wp2
     go_round
     case rel=>exact⟨k+1,by go_num,by omega,hid (fun j s hj hs=>by
      by_cases e:j=k
      ·subst e;rw[HG.out] at hs;cases hs;exact hS
      ·exact HS.out j s (by omega) hs)⟩
     case measure=>simp[intOf];omega
   ·have hki : ¬ (k:Int)<(l.length:Int):=by omega
    have HE2:Hid (E=0):=hid (HE.out.symm.trans (if_neg (fun⟨s,hs,h2⟩=>by
     obtain⟨j,hj,rfl⟩:=List.getElem_of_mem hs
     exact HS.out j _ (by omega) (List.getElem?_eq_getElem hj) h2)))
    go_wp2
    go_ret
    exact⟨by rw[HE2.out];rfl,rfl⟩
end Go.Proofs.YtldkgbnmaefaaaaGreatDoor.Fu
namespace Go.Proofs.YtldkgbnmaefaaaaGreatDoor.Fu
open Go.RowKit
set_option linter.unusedVariables false
set_option linter.unusedSimpArgs false
theorem qhg(g:FuncId)(eg : ∀ args w,(callFunc g args).run Tryz.prog w=.ok (.enter g args) w)(r:BA)(k:Nat)(a b c d:Ag)(w:World)(hc:w.heap[k]? = some (.cells #[fv g] 39))
  (hg : ∀ W,Below w.heap.size w W→Calls Tryz.prog g #[.string a.s] W fun e w'=>e=.returned (.string r)∧Below W.heap.size W w'):Gives 106 (.agg (qba a b c d)) #[.pointer (some ⟨k,0,none⟩)] w ⟨r,0⟩:=by
 have q:=qab (i:=0) hc rfl
 have hz:=qac hc
 have HG:=hid hg
 have heg:=eg
 unfold fv at q
 clear hg hc
 unfold Gives qbc qba
 go_enter Tryz.func106,Tryz.ntmps106
 go_wp2_with fail
 refine(HG.out _ ((Below.refl _ w).alloc (Nat.le_refl _) _)).mono ?_
 rintro e w1⟨rfl,hb⟩
 have HB:=hid (bxb hb)
 clear hb
 go_wp2
 go_ret2
 exact⟨rfl,HB.out⟩
theorem qqw(g:FuncId)(eg : ∀ args w,(callFunc g args).run Tryz.prog w=.ok (.enter g args) w)(r:An)(k:Nat)(a b c d:Ag)(w:World)(hc:w.heap[k]? = some (.cells #[fv g] 106))
  (hg : ∀ W,Below w.heap.size w W→Calls Tryz.prog g #[.string a.s,.int .i64 b.n,.string (fill c.s)] W fun e w'=>e=.returned (qbc r)∧Below W.heap.size W w'):Gives 113 (.agg (qba a b c d)) #[.pointer (some ⟨k,0,none⟩)] w r:=by
 have q:=qab (i:=0) hc rfl
 have hz:=qac hc
 have heg:=eg
 unfold fv at q
 clear hc
 have hd:=qhy c.s
 unfold Gives
 unfold qbc at hg ⊢
 unfold qba
 unfold fill at hg
 by_cases h0:c.s.size=0
 ·rw[decide_eq_true h0] at hd
  rw[if_pos h0] at hg
  have HG:=hid hg
  clear hg h0
  go_enter Tryz.func113,Tryz.ntmps113
  go_wp2_with fail
  refine(HG.out _ ((Below.refl _ w).alloc (Nat.le_refl _) _)).mono ?_
  rintro e w1⟨rfl,hb⟩
  have HB:=hid (bxb hb)
  clear hb
  go_wp2
  go_ret2
  exact⟨rfl,HB.out⟩
 ·rw[decide_eq_false h0] at hd
  rw[if_neg h0] at hg
  have HG:=hid hg
  clear hg h0
  go_enter Tryz.func113,Tryz.ntmps113
  go_wp2_with fail
  refine(HG.out _ ((Below.refl _ w).alloc (Nat.le_refl _) _)).mono ?_
  rintro e w1⟨rfl,hb⟩
  have HB:=hid (bxb hb)
  clear hb
  go_wp2
  go_ret2
  exact⟨rfl,HB.out⟩
theorem qj3(s:BA)(w:World)(hs:s.size≤350):Calls Tryz.prog 77 #[.string s] w fun e w'=>e=.returned (.string (Sf.bsl (Sf.cs (Sf.chg false) 1 s.data.toList)))∧Below w.heap.size w w':=by
 have H:=hid (fun w=>Sf.qmz s false w (by omega))
 go_enter Tryz.func77,Tryz.ntmps77
 go_wp2_with fail
 (with_reducible refine(H.out _).mono ?_)
 rintro e w1⟨rfl,hb⟩
 go_wp2
 go_ret
 exact⟨rfl,hb⟩
theorem qj6(s:BA)(w:World)(hs:s.size≤350):Calls Tryz.prog 78 #[.string s] w fun e w'=>e=.returned (.string (Sf.bsl (Sf.cs (Sf.chg true) 1 s.data.toList)))∧Below w.heap.size w w':=by
 have H:=hid (fun w=>Sf.qmz s true w (by omega))
 go_enter Tryz.func78,Tryz.ntmps78
 go_wp2_with fail
 (with_reducible refine(H.out _).mono ?_)
 rintro e w1⟨rfl,hb⟩
 go_wp2
 go_ret
 exact⟨rfl,hb⟩
theorem qju(s:BA)(l:List UInt8):(s.toList==l)=decide (s=⟨l.toArray⟩):=by
 have h:=qjt s ⟨l.toArray⟩
 rw[Lib.toList_data ⟨l.toArray⟩] at h
 exact h
def uO(s:BA):Value := .tuple #[.int .i64 (qet s),.bool (qet s != 0)]
theorem qsq(s:BA)(w:World):Calls Tryz.prog 124 #[.string s] w fun e w'=>e=.returned (uO s)∧w=w':=by
 have q0:=qju s [109,105,110,117,116,101]
 have q1:=qju s [104,111,117,114]
 have q2:=qju s [100,97,121]
 have q3:=qju s [109,111,110,116,104]
 have q4:=qju s [121,101,97,114]
 by_cases h0:s=⟨#[109,105,110,117,116,101]⟩
 ·have hu:uO s=.tuple #[.int .i64 1,.bool true]:=by unfold uO qet;rw[if_pos h0];rfl
  rw[hu]
  rw[decide_eq_true h0] at q0
  clear hu h0 q1 q2 q3 q4
  go_enter Tryz.func124,Tryz.ntmps124
  go_wp2
  go_ret2
  exact⟨rfl,rfl⟩
 by_cases h1:s=⟨#[104,111,117,114]⟩
 ·have hu:uO s=.tuple #[.int .i64 2,.bool true]:=by unfold uO qet;rw[if_neg h0,if_pos h1];rfl
  rw[hu]
  rw[decide_eq_false h0] at q0
  rw[decide_eq_true h1] at q1
  clear hu h0 h1 q2 q3 q4
  go_enter Tryz.func124,Tryz.ntmps124
  go_wp2
  go_ret2
  exact⟨rfl,rfl⟩
 by_cases h2:s=⟨#[100,97,121]⟩
 ·have hu:uO s=.tuple #[.int .i64 3,.bool true]:=by unfold uO qet;rw[if_neg h0,if_neg h1,if_pos h2];rfl
  rw[hu]
  rw[decide_eq_false h0] at q0
  rw[decide_eq_false h1] at q1
  rw[decide_eq_true h2] at q2
  clear hu h0 h1 h2 q3 q4
  go_enter Tryz.func124,Tryz.ntmps124
  go_wp2
  go_ret2
  exact⟨rfl,rfl⟩
 by_cases h3:s=⟨#[109,111,110,116,104]⟩
 ·have hu:uO s=.tuple #[.int .i64 4,.bool true]:=by unfold uO qet;rw[if_neg h0,if_neg h1,if_neg h2,if_pos h3];rfl
  rw[hu]
  rw[decide_eq_false h0] at q0
  rw[decide_eq_false h1] at q1
  rw[decide_eq_false h2] at q2
  rw[decide_eq_true h3] at q3
  clear hu h0 h1 h2 h3 q4
  go_enter Tryz.func124,Tryz.ntmps124
  go_wp2
  go_ret2
  exact⟨rfl,rfl⟩
 rw[decide_eq_false h0] at q0
 rw[decide_eq_false h1] at q1
 rw[decide_eq_false h2] at q2
 rw[decide_eq_false h3] at q3
 by_cases h4:s=⟨#[121,101,97,114]⟩
 ·have hu:uO s=.tuple #[.int .i64 5,.bool true]:=by unfold uO qet;rw[if_neg h0,if_neg h1,if_neg h2,if_neg h3,if_pos h4];rfl
  rw[hu]
  rw[decide_eq_true h4] at q4
  clear hu h0 h1 h2 h3 h4
  go_enter Tryz.func124,Tryz.ntmps124
  go_wp2
  go_ret2
  exact⟨rfl,rfl⟩
 ·have hu:uO s=.tuple #[.int .i64 0,.bool false]:=by unfold uO qet;rw[if_neg h0,if_neg h1,if_neg h2,if_neg h3,if_neg h4];rfl
  rw[hu]
  rw[decide_eq_false h4] at q4
  clear hu h0 h1 h2 h3 h4
  go_enter Tryz.func124,Tryz.ntmps124
  go_wp2
  go_ret2
  exact⟨rfl,rfl⟩
theorem xd6(a b c d:Ag)(ha:Sm a)(hb:Sm b)(hc:Sm c)(hd:Sm d)(w:World)(hT:Tb w):Gives 83 (.agg (qba a b c d)) #[] w (res 15 a b c d):=by
 obtain⟨a1,a2,a3⟩:=ha
 have HU:=hid (fun w=>qsq c.s w)
 have HP:=hid (fun(W:World) (hW:Below w.heap.size w W)=>Ca.qew a.s W (by omega) (hT.ca.below hW))
 have HA:=hid (fun(n u:Int) (W:World) (hW:Below w.heap.size w W)=>qk0 n u b.n W (hT.ca.below hW))
 have HF:=hid (fun(n:Int) (W:World) (hW:Below w.heap.size w W)=>qs3 xcu n W (hT.ca.below hW))
 rw[show res 15 a b c d=qgn a.s b.n c.s from rfl]
 unfold qgn
 unfold uO at HU
 obtain⟨u,hu⟩ : ∃ u,qet c.s=u:=⟨_,rfl⟩
 obtain⟨n,x,hv⟩ : ∃ n x,Ca.parse a.s.data.toList=⟨n,x⟩:=⟨_,_,rfl⟩
 rw[hu] at HU ⊢
 rw[hv] at HP ⊢
 unfold xcu at HF ⊢
 clear hu hv hT
 by_cases h0:u=0
 ·subst h0
  rw[if_pos rfl]
  unfold Gives qbc qba em
  go_enter Tryz.func83,Tryz.ntmps83
  go_wp2_with fail
  (with_reducible refine(HU.out _).mono ?_)
  rintro e w1⟨rfl,rfl⟩
  go_wp2
  go_ret2
  exact⟨rfl,(Below.refl _ w).alloc (Nat.le_refl _) _⟩
 ·rw[if_neg h0]
  have hu0:(u != 0)=true:=by rw[bne_iff_ne];exact h0
  rw[hu0] at HU
  clear h0 hu0
  by_cases hx:x=0
  ·subst hx
   rw[if_pos rfl]
   obtain⟨m,y,hm⟩ : ∃ m y,qyd n u b.n=⟨m,y⟩:=⟨_,_,rfl⟩
   have HA2:=hid (HA.out n u)
   rw[hm] at HA2 ⊢
   clear hm HA
   by_cases hy:y=0
   ·subst hy
    rw[if_pos rfl]
    unfold Gives qbc qba
    go_enter Tryz.func83,Tryz.ntmps83
    go_wp2_with fail
    (with_reducible refine(HU.out _).mono ?_)
    rintro e w1⟨rfl,rfl⟩
    go_wp2_with fail
    (with_reducible refine(HP.out _ ((Below.refl _ w).alloc (Nat.le_refl _) _)).mono ?_)
    rintro e w2⟨rfl,hb⟩
    have q1:=qab (i:=3) (bx hb) rfl
    have hz:=qac (bx hb)
    have HB:=hid (bxb hb)
    clear hb
    go_wp2_with fail
    (with_reducible refine(HA2.out _ HB.out).mono ?_)
    rintro e w3⟨rfl,hb2⟩
    have HB2:=hid (HB.out.trans (hb2.mono HB.out.size))
    clear hb2
    go_wp2_with fail
    (with_reducible refine(HF.out _ _ HB2.out).mono ?_)
    rintro e w4⟨rfl,hb3⟩
    have HB3:=hid (HB2.out.trans (hb3.mono HB2.out.size))
    clear hb3
    go_wp2
    go_ret2
    exact⟨rfl,HB3.out⟩
   ·rw[if_neg hy]
    have hy2:(y != 0)=true:=by rw[bne_iff_ne];exact hy
    clear hy
    unfold Gives qbc qba em
    go_enter Tryz.func83,Tryz.ntmps83
    go_wp2_with fail
    (with_reducible refine(HU.out _).mono ?_)
    rintro e w1⟨rfl,rfl⟩
    go_wp2_with fail
    (with_reducible refine(HP.out _ ((Below.refl _ w).alloc (Nat.le_refl _) _)).mono ?_)
    rintro e w2⟨rfl,hb⟩
    have q1:=qab (i:=3) (bx hb) rfl
    have hz:=qac (bx hb)
    have HB:=hid (bxb hb)
    clear hb
    go_wp2_with fail
    (with_reducible refine(HA2.out _ HB.out).mono ?_)
    rintro e w3⟨rfl,hb2⟩
    have HB2:=hid (HB.out.trans (hb2.mono HB.out.size))
    clear hb2
    go_wp2
    go_ret2
    exact⟨rfl,HB2.out⟩
  ·rw[if_neg hx]
   have hx2:(x != 0)=true:=by rw[bne_iff_ne];exact hx
   clear hx
   unfold Gives qbc qba em
   go_enter Tryz.func83,Tryz.ntmps83
   go_wp2_with fail
   (with_reducible refine(HU.out _).mono ?_)
   rintro e w1⟨rfl,rfl⟩
   go_wp2_with fail
   (with_reducible refine(HP.out _ ((Below.refl _ w).alloc (Nat.le_refl _) _)).mono ?_)
   rintro e w2⟨rfl,hb⟩
   have HB:=hid (bxb hb)
   clear hb
   go_wp2
   go_ret2
   exact⟨rfl,HB.out⟩
end Go.Proofs.YtldkgbnmaefaaaaGreatDoor.Fu
namespace Go.Proofs.YtldkgbnmaefaaaaGreatDoor.Fu
open Go.RowKit
set_option linter.unusedVariables false
set_option linter.unusedSimpArgs false
def qdv:List BA:=[⟨#[100,97,116,101,97,100,100]⟩,⟨#[100,97,116,101,102,111,114,109,97,116]⟩,⟨#[102,105,120,101,100]⟩,⟨#[102,111,114,109,117,108,97]⟩,⟨#[108,99]⟩,⟨#[108,99,102,105,114,115,116]⟩,⟨#[108,101,110]⟩,⟨#[111,99,99,117,114,115]⟩,⟨#[112,97,100,108,101,102,116]⟩,⟨#[112,97,100,114,105,103,104,116]⟩,⟨#[112,97,114,116]⟩,⟨#[112,111,115]⟩,⟨#[114,101,112,108,97,99,101]⟩,⟨#[115,117,98]⟩,⟨#[116,114,105,109]⟩,⟨#[117,99]⟩,⟨#[117,99,102,105,114,115,116]⟩]
theorem qck:qdv.length=17:=rfl
def NmP(w:World)(e:Ending)(w':World):Prop := ∃ g,e=.returned (.slice (some ⟨g,0,none⟩) 17 17)∧Rd w' w'.heap.size (.slice (some ⟨g,0,none⟩) 17 17) qdv∧Below w.heap.size w w'
theorem qfk(w:World):Calls Tryz.prog 15 #[] w (NmP w):=by
 go_enter Tryz.func15,Tryz.ntmps15
 go_wp2
 go_ret
 exact⟨_,rfl,Rd.new qdv rfl (by rw[qck];omega),(Below.refl _ w).alloc (Nat.le_refl _) _⟩
end Go.Proofs.YtldkgbnmaefaaaaGreatDoor.Fu
namespace Go.Proofs.YtldkgbnmaefaaaaGreatDoor.Fu
open Go.RowKit
set_option linter.unusedVariables false
set_option linter.unusedSimpArgs false
theorem qtq{l:List BA}{ps:List Pm}{k:Nat}(hk:ps.length≤k):qce l ps k=za:=by
 unfold qce;rw[List.getElem?_eq_none hk]
theorem q6n{l:List BA}{ps:List Pm}(h:rdE l 0 ps=0):rdV l ps=qba (qce l ps 0) (qce l ps 1) (qce l ps 2) (qce l ps 3):=by
 have hu : ∀ j,upK l ps ps.length j=qce l ps j:=fun j=>by
  unfold upK
  by_cases hj:j<ps.length
  ·rw[if_pos hj]
  ·rw[if_neg hj,qtq (by omega)]
 rw[q2a h]
 unfold q4m
 rw[hu,hu,hu,hu]
noncomputable def qai (k:Nat) (ps:List Pm) (l:List BA):An :=
 if rdE l 0 ps=0 then res k (qce l ps 0) (qce l ps 1) (qce l ps 2) (qce l ps 3) else⟨em,rdE l 0 ps⟩
theorem qo6:(tbl.map Row.name).Nodup:=by decide
theorem q0f{x y:Row}(hx:x∈tbl)(hy:y∈tbl)(h:x.name=y.name):x=y:=by
 obtain⟨i,hi,rfl⟩:=List.getElem_of_mem hx
 obtain⟨j,hj,rfl⟩:=List.getElem_of_mem hy
 have hij:i=j:=by
  refine(List.getElem_inj (h₀:=by rw[List.length_map];exact hi) (h₁:=by rw[List.length_map];exact hj) qo6).1 ?_
  rw[List.getElem_map,List.getElem_map];exact h
 subst hij;rfl
theorem qw4 : ∀ y∈tbl,y.ps.length≤4 ∧ ∀ p∈y.ps,q8v p ∧ -1≤p.x∧p.x≤32768:=by
 intro y hy
 have:(tbl.all fun y=>decide (y.ps.length≤4)&&y.ps.all fun p=>decide (p.k=0∨p.k=1∨p.k=2)&&decide (-1≤p.x∧p.x≤32768))=true:=by decide
 have h2:=List.all_eq_true.1 this y hy
 simp only[Bool.and_eq_true,decide_eq_true_eq] at h2
 refine⟨h2.1,fun p hp => ?_⟩
 have h3:=List.all_eq_true.1 h2.2 p hp
 simp only[Bool.and_eq_true,decide_eq_true_eq] at h3
 exact⟨h3.1,h3.2.1,h3.2.2⟩
theorem xbn{p:Pm}(hp:q8v p)(hx : -1≤p.x)(hx2:p.x≤32768){t:BA}(ht:t.size≤350):Sm (rd1 p t).a:=by
 have h0:=qbd t
 obtain⟨k,x⟩:=p
 simp only at hx hx2
 rcases hp with h | h | h<;>(simp only at h;subst h)
 ·exact⟨by show(trm t).size≤350;omega,by show(-4000000000:Int)≤0;omega,by show(0:Int)≤4000000000;omega⟩
 ·exact⟨ht,by show(-4000000000:Int)≤0;omega,by show(0:Int)≤4000000000;omega⟩
 ·rw[qwc]
  unfold qbi
  by_cases h1:(trm t).size=0
  ·rw[if_pos h1,if_pos rfl]
   exact⟨Nat.zero_le _,by show(-4000000000:Int)≤x;omega,by show x≤4000000000;omega⟩
  ·rw[if_neg h1]
   by_cases h2:(Nu.parse (trm t).data.toList).e=0
   ·rw[if_pos h2]
    by_cases h3:(Nu.parse (trm t).data.toList).d=1
    ·rw[if_pos h3,if_pos rfl]
     have ho:=Fo.qly h2
     have:=ho.n1;have:=ho.n2
     exact⟨Nat.zero_le _,by show(-4000000000:Int)≤(Nu.parse (trm t).data.toList).n;omega,by show(Nu.parse (trm t).data.toList).n≤4000000000;omega⟩
    ·rw[if_neg h3,if_neg (show ¬ ((7:Int)=0) by decide)]
     exact⟨Nat.zero_le _,by show(-4000000000:Int)≤0;omega,by show(0:Int)≤4000000000;omega⟩
   ·rw[if_neg h2,if_neg h2]
    exact⟨Nat.zero_le _,by show(-4000000000:Int)≤0;omega,by show(0:Int)≤4000000000;omega⟩
theorem xem:Sm za:=⟨Nat.zero_le _,by show(-4000000000:Int)≤0;omega,by show(0:Int)≤4000000000;omega⟩
theorem qk7{y:Row}(hy:y∈tbl){l:List BA}(hl : ∀ i,(raw l i).size≤350)(j:Nat):Sm (qce l y.ps j):=by
 by_cases hj:j<y.ps.length
 ·rw[qtr hj]
  obtain⟨h1,h2,h3⟩:=(qw4 y hy).2 _ (List.getElem_mem hj)
  exact xbn h1 h2 h3 (hl j)
 ·rw[qtq (by omega)];exact xem
theorem qwi{w:World}{k:Nat}{y:Row}{f:Value}(hy:tbl[k]? = some y)(h:qec w y.fk f)(hT:Tb w){A B C D:Ag}(hA:Sm A)(hB:Sm B)(hC:Sm C)(hD:Sm D) :
  ∃ gf cf,f=.func (.func gf) #[] cf∧(∀ args w,(callFunc gf args).run Tryz.prog w=.ok (.enter gf args) w)∧Gives gf (.agg (qba A B C D)) cf w (res k A B C D):=by
 have hF:(fill C.s).size≤350:=by
  unfold fill
  split
  ·decide
  ·exact hC.1
 match k,hy with
 | 0,hy=>cases hy;obtain⟨c,rfl,hc⟩:=h;exact⟨_,_,rfl,(enters_of Tryz.func106 (by kernel_rfl) rfl),qhg 66 (enters_of Tryz.func66 (by kernel_rfl) rfl) _ c A B C D w hc (fun W hW=>qr6 A.s W hA.1 (hT.nu.below hW))⟩
 | 1,hy=>cases hy;obtain rfl:=h;exact⟨_,_,rfl,(enters_of Tryz.func68 (by kernel_rfl) rfl),xfj A B C D hA hB hC hD w hT⟩
 | 2,hy=>cases hy;obtain rfl:=h;exact⟨_,_,rfl,(enters_of Tryz.func69 (by kernel_rfl) rfl),xfk A B C D hA hB hC hD w hT⟩
 | 3,hy=>cases hy;obtain rfl:=h;exact⟨_,_,rfl,(enters_of Tryz.func70 (by kernel_rfl) rfl),q2b A B C D hA hB hC hD w hT⟩
 | 4,hy=>cases hy;obtain rfl:=h;exact⟨_,_,rfl,(enters_of Tryz.func71 (by kernel_rfl) rfl),xfl A B C D hA hB hC hD w hT⟩
 | 5,hy=>cases hy;obtain⟨c,rfl,hc⟩:=h;exact⟨_,_,rfl,(enters_of Tryz.func113 (by kernel_rfl) rfl),qqw 73 (enters_of Tryz.func73 (by kernel_rfl) rfl) _ c A B C D w hc (fun W hW=>Sf.qn4 A.s (fill C.s) B.n W (by have:=hA.1;omega) (by omega) hB.i)⟩
 | 6,hy=>cases hy;obtain⟨c,rfl,hc⟩:=h;exact⟨_,_,rfl,(enters_of Tryz.func113 (by kernel_rfl) rfl),qqw 74 (enters_of Tryz.func74 (by kernel_rfl) rfl) _ c A B C D w hc (fun W hW=>Sf.qm1 A.s (fill C.s) B.n W (by have:=hA.1;omega) (by omega) hB.i)⟩
 | 7,hy=>cases hy;obtain⟨c,rfl,hc⟩:=h;exact⟨_,_,rfl,(enters_of Tryz.func106 (by kernel_rfl) rfl),qhg 75 (enters_of Tryz.func75 (by kernel_rfl) rfl) _ c A B C D w hc (fun W hW=>Sf.qm0 A.s W (by have:=hA.1;omega))⟩
 | 8,hy=>cases hy;obtain⟨c,rfl,hc⟩:=h;exact⟨_,_,rfl,(enters_of Tryz.func106 (by kernel_rfl) rfl),qhg 76 (enters_of Tryz.func76 (by kernel_rfl) rfl) _ c A B C D w hc (fun W hW=>Sf.qm7 A.s W (by have:=hA.1;omega))⟩
 | 9,hy=>cases hy;obtain⟨c,rfl,hc⟩:=h;exact⟨_,_,rfl,(enters_of Tryz.func106 (by kernel_rfl) rfl),qhg 77 (enters_of Tryz.func77 (by kernel_rfl) rfl) _ c A B C D w hc (fun W hW=>qj3 A.s W hA.1)⟩
 | 10,hy=>cases hy;obtain⟨c,rfl,hc⟩:=h;exact⟨_,_,rfl,(enters_of Tryz.func106 (by kernel_rfl) rfl),qhg 78 (enters_of Tryz.func78 (by kernel_rfl) rfl) _ c A B C D w hc (fun W hW=>qj6 A.s W hA.1)⟩
 | 11,hy=>cases hy;obtain⟨c,rfl,hc⟩:=h;exact⟨_,_,rfl,(enters_of Tryz.func106 (by kernel_rfl) rfl),qhg 79 (enters_of Tryz.func79 (by kernel_rfl) rfl) _ c A B C D w hc (fun W hW=>qtk A.s W (by have:=hA.1;omega))⟩
 | 12,hy=>cases hy;obtain rfl:=h;exact⟨_,_,rfl,(enters_of Tryz.func80 (by kernel_rfl) rfl),xd3 A B C D hA hB hC hD w hT⟩
 | 13,hy=>cases hy;obtain rfl:=h;exact⟨_,_,rfl,(enters_of Tryz.func81 (by kernel_rfl) rfl),xd4 A B C D hA hB hC hD w hT⟩
 | 14,hy=>cases hy;obtain rfl:=h;exact⟨_,_,rfl,(enters_of Tryz.func82 (by kernel_rfl) rfl),xd5 A B C D hA hB hC hD w hT⟩
 | 15,hy=>cases hy;obtain rfl:=h;exact⟨_,_,rfl,(enters_of Tryz.func83 (by kernel_rfl) rfl),xd6 A B C D hA hB hC hD w hT⟩
 | 16,hy=>cases hy;obtain rfl:=h;exact⟨_,_,rfl,(enters_of Tryz.func84 (by kernel_rfl) rfl),xd7 A B C D hA hB hC hD w hT⟩
 |(n+17),hy=>exact absurd hy (by simp[tbl])
structure Ord (l:List BA):Prop where
 len:l.length≤40
 sz : ∀ i,(raw l i).size≤350
theorem Ord.small{l:List BA}(h:Ord l) : ¬ ∃ s∈l,32768<s.size:=fun⟨s,hs,h2⟩=>by
 obtain⟨i,hi,rfl⟩:=List.getElem_of_mem hs
 have:=h.sz i
 rw[qbm hi] at this
 omega
theorem qgd(k:Nat)(y:Row)(hy:tbl[k]? = some y)(v:Value)(l:List BA)(w:World)(hv:Rd w w.heap.size v l)(hl:Ord l)(hT:Tb w) :
  Calls Tryz.prog 11 #[.string y.name,v] w fun e w'=>e=.returned (qbc (qai k y.ps l))∧Below w.heap.size w w':=by
 have hmem:y∈tbl:=List.mem_of_getElem? hy
 have HF:=hid (fun w=>qqh y.name ⟨y,hmem,rfl⟩ w)
 have HZ:=hid (fun(W:World) (hW:Below w.heap.size w W)=>qfx v l W (hv.up hW))
 rw[if_neg (by have:=hl.len;omega),if_neg hl.small] at HZ
 have HR:=hid (fun(W:World) (a f:Value) (hW:Below w.heap.size w W) (hr:RowOk W y a f)=>qzw hr (qw4 y hmem).1 (fun p hp=>((qw4 y hmem).2 p hp).1) (hv.up hW) (fun i=>Nat.le_trans (hl.sz i) (by omega)) (by have:=hl.len;omega) (hT.nu.below hW))
 have HG:=hid (fun(W:World) (f:Value) (hW:Below w.heap.size w W) (hr:qec W y.fk f)=>qwi hy hr (hT.below hW) (qk7 hmem hl.sz 0) (qk7 hmem hl.sz 1) (qk7 hmem hl.sz 2) (qk7 hmem hl.sz 3))
 obtain⟨A,c,hvv,hlc,hcm,_⟩:=hv.ex
 have HU:Hid (∀ x∈tbl,x.name=y.name→x=y):=hid (fun x hx h=>q0f hx hmem h)
 obtain⟨nm,hnm⟩ : ∃ nm,y.name=nm:=⟨_,rfl⟩
 rw[hnm] at HF HU ⊢
 have HNM:=hid hnm
 unfold qbc qai
 clear hv hl hT hmem hnm hy
 subst hvv
 by_cases he:rdE l 0 y.ps=0
 ·have hV:=q6n he
  rw[if_pos he]
  rw[hV] at HR
  rw[he] at HR
  obtain⟨r,hr⟩ : ∃ r,res k (qce l y.ps 0) (qce l y.ps 1) (qce l y.ps 2) (qce l y.ps 3)=r:=⟨_,rfl⟩
  rw[hr] at HG ⊢
  clear hr he hV
  generalize qce l y.ps 0=A0 at HR HG
  generalize qce l y.ps 1=A1 at HR HG
  generalize qce l y.ps 2=A2 at HR HG
  generalize qce l y.ps 3=A3 at HR HG
  unfold qba at HR HG
  go_enter Tryz.func11,Tryz.ntmps11
  go_wp2_with fail
  refine(HF.out _).mono ?_
  rintro e w1⟨y',a,f,hy1,hy2,rfl,hok,hb⟩
  obtain rfl:=HU.out y' hy1 hy2
  obtain⟨gp,np,ha⟩:=hok.ps.form
  obtain⟨gf,cf,hf⟩:=hok.fn.form
  subst ha hf
  have HB:=hid (hb.alloc hb.size (.cells #[.string nm,.slice (some ⟨gp,0,none⟩) np np,.func (.func gf) #[] cf] 48))
  have HOK:=hid (hok.up ((Below.refl _ w1).alloc (Nat.le_refl _) (.cells #[.string nm,.slice (some ⟨gp,0,none⟩) np np,.func (.func gf) #[] cf] 48)))
  clear hok hb hy1 hy2 HU
  go_wp2_with fail
  (with_reducible refine(HZ.out _ HB.out).mono ?_)
  rintro e w2⟨rfl,rfl⟩
  have HR2:=hid (HR.out _ _ _ HB.out HOK.out)
  rw[HNM.out] at HR2
  go_wp2_with fail
  refine HR2.out.mono ?_
  rintro e w3⟨rfl,hb3⟩
  obtain⟨hb4,hbx⟩:=al1 hb3
  have q0:=qab (i:=2) hbx rfl
  have hz:=qac hbx
  have HB3:=hid (HB.out.trans (hb3.mono HB.out.size))
  have HB4:=hid (HB3.out.alloc HB3.out.size (.cells #[.string A0.s,.int .i64 A0.n,.string A1.s,.int .i64 A1.n,.string A2.s,.int .i64 A2.n,.string A3.s,.int .i64 A3.n] 55))
  have HFN:=hid ((HOK.out.fn.up hb3).up ((Below.refl _ w3).alloc (Nat.le_refl _) (.cells #[.string A0.s,.int .i64 A0.n,.string A1.s,.int .i64 A1.n,.string A2.s,.int .i64 A2.n,.string A3.s,.int .i64 A3.n] 55)))
  obtain⟨gf',cf',hff,eg,hgv⟩:=HG.out _ _ HB4.out HFN.out
  injection hff with h5 h6 h7
  injection h5 with h5
  subst h5 h7
  have HGV:=hid hgv
  have heg:=eg
  clear hb3 hb4 hbx hgv
  go_wp2_with fail
  unfold Gives qbc at HGV
  refine HGV.out.mono ?_
  rintro e w4⟨rfl,hb5⟩
  have HB5:=hid (HB4.out.trans (hb5.mono HB4.out.size))
  clear hb5
  go_wp2
  go_ret2
  exact⟨rfl,HB5.out⟩
 ·have hV:=qwd he
  rw[if_neg he]
  rw[hV] at HR
  obtain⟨ee,hee⟩ : ∃ ee,rdE l 0 y.ps=ee:=⟨_,rfl⟩
  rw[hee] at HR he ⊢
  have he2:(ee != 0)=true:=by rw[bne_iff_ne];exact he
  clear hV hee he HG
  unfold qba za em at HR
  unfold em
  go_enter Tryz.func11,Tryz.ntmps11
  go_wp2_with fail
  refine(HF.out _).mono ?_
  rintro e w1⟨y',a,f,hy1,hy2,rfl,hok,hb⟩
  obtain rfl:=HU.out y' hy1 hy2
  obtain⟨gp,np,ha⟩:=hok.ps.form
  obtain⟨gf,cf,hf⟩:=hok.fn.form
  subst ha hf
  have HB:=hid (hb.alloc hb.size (.cells #[.string nm,.slice (some ⟨gp,0,none⟩) np np,.func (.func gf) #[] cf] 48))
  have HOK:=hid (hok.up ((Below.refl _ w1).alloc (Nat.le_refl _) (.cells #[.string nm,.slice (some ⟨gp,0,none⟩) np np,.func (.func gf) #[] cf] 48)))
  clear hok hb hy1 hy2 HU
  go_wp2_with fail
  (with_reducible refine(HZ.out _ HB.out).mono ?_)
  rintro e w2⟨rfl,rfl⟩
  have HR2:=hid (HR.out _ _ _ HB.out HOK.out)
  rw[HNM.out] at HR2
  go_wp2_with fail
  refine HR2.out.mono ?_
  rintro e w3⟨rfl,hb3⟩
  have HB3:=hid (HB.out.trans (hb3.mono HB.out.size))
  clear hb3
  go_wp2
  go_ret2
  exact⟨rfl,HB3.out.alloc HB3.out.size _⟩
theorem qev(s:BA)(hs : ∀ x∈tbl,x.name≠s)(v:Value)(w:World) :
  Calls Tryz.prog 11 #[.string s,v] w fun e w'=>e=.returned (qbc ⟨em,4⟩)∧Below w.heap.size w w':=by
 have HF:=hid (fun w=>q4w s hs w)
 clear hs
 unfold q8s zf at HF
 unfold qbc em
 go_enter Tryz.func11,Tryz.ntmps11
 go_wp2_with fail
 refine(HF.out _).mono ?_
 rintro e w1⟨rfl,hb⟩
 have HB:=hid hb
 clear hb
 go_wp2
 go_ret2
 exact⟨rfl,HB.out.alloc HB.out.size _⟩
theorem qha(y:Row)(hmem:y∈tbl)(v:Value)(l:List BA)(E:Int)(hE:(if 40<l.length then (8:Int) else if ∃ s∈l,32768<s.size then 3 else 0)=E)(hE0:E≠0)(w:World)(hv:Rd w w.heap.size v l) :
  Calls Tryz.prog 11 #[.string y.name,v] w fun e w'=>e=.returned (qbc ⟨em,E⟩)∧Below w.heap.size w w':=by
 have HF:=hid (fun w=>qqh y.name ⟨y,hmem,rfl⟩ w)
 have HZ:=hid (fun(W:World) (hW:Below w.heap.size w W)=>qfx v l W (hv.up hW))
 rw[hE] at HZ
 obtain⟨A,c,hvv,hlc,hcm,_⟩:=hv.ex
 have he2:(E != 0)=true:=by rw[bne_iff_ne];exact hE0
 obtain⟨nm,hnm⟩ : ∃ nm,y.name=nm:=⟨_,rfl⟩
 rw[hnm] at HF ⊢
 unfold qbc em
 clear hv hmem hnm hE hE0
 subst hvv
 go_enter Tryz.func11,Tryz.ntmps11
 go_wp2_with fail
 refine(HF.out _).mono ?_
 rintro e w1⟨y',a,f,hy1,hy2,rfl,hok,hb⟩
 obtain⟨gp,np,ha⟩:=hok.ps.form
 obtain⟨gf,cf,hf⟩:=hok.fn.form
 subst ha hf
 have HB:=hid (hb.alloc hb.size (.cells #[.string nm,.slice (some ⟨gp,0,none⟩) np np,.func (.func gf) #[] cf] 48))
 clear hok hb hy1 hy2
 go_wp2_with fail
 (with_reducible refine(HZ.out _ HB.out).mono ?_)
 rintro e w2⟨rfl,rfl⟩
 go_wp2
 go_ret2
 exact⟨rfl,HB.out⟩
end Go.Proofs.YtldkgbnmaefaaaaGreatDoor.Fu
