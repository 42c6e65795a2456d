import Derived.Test.YtldkgbnmaefaaaaGreatDoorFoG3
import Derived.Test.YtldkgbnmaefaaaaGreatDoorFoG4
import Derived.Test.YtldkgbnmaefaaaaGreatDoorFoG2
import Derived.Deep.RegionWith
set_option maxRecDepth 100000
set_option maxHeartbeats 4000000
open Go.Lib (hid)
namespace Go.Proofs.YtldkgbnmaefaaaaGreatDoor.Fo
open Go.RowKit Go.Proofs.YtldkgbnmaefaaaaGreatDoor.Nu
set_option linter.unusedVariables false
set_option linter.unusedSimpArgs false
theorem qg6{s:List UInt8}{l:List Tok}(h:qcy s=some l):l.length≤s.length ∧ ∀ x∈l,0<x.length∧x.length≤19:=by
 have h1:=qre (trimB s).length (trimB s) (Nat.le_refl _) l h
 have h2:=qes s
 exact⟨by omega,h1.2⟩
theorem q2l{l:List Tok}(h : ∀ x∈l,0<x.length∧x.length≤19)(hb:(top l).b=false):(top l).t.wf :=
 (qsw (fuel l) 0 .bad l false (by decide) (fun t ht=>(h t ht).2) (fun h=>absurd h (by decide))).2 hb
theorem qfv(l:List Tok):qn3 l=decide ((top l).b=false∧(top l).r=[]):=by
 unfold qn3
 cases (top l).b<;>cases (top l).r<;>simp
theorem q2k(l:List Tok):(top l).t.lv≤l.length:=by
 have h1:=qj8 (fuel l) 0 .bad l false
 have h2:=T.lv_sz (top l).t
 unfold top at *
 simp only[T.sz] at h1
 omega
theorem qie{w W:World}(h:Below w.heap.size w W)(u v:Value):Below w.heap.size w ((W.setCell ⟨w.heap.size,0,none⟩ u).setCell ⟨w.heap.size,1,none⟩ v):=(h.setCell (Nat.le_refl _) _).setCell (Nat.le_refl _) _
theorem qp3(s:ByteArray)(w:World)(ht:Tb w):Calls Tryz.prog 121 #[.string s] w fun e w'=>e=.returned (res (ev s.data.toList))∧Below w.heap.size w w':=by
 have hsz:s.data.toList.length=s.size:=rfl
 by_cases h4:400<s.size
 ·have e1:ev s.data.toList=⟨0,0,3⟩:=by unfold ev;rw[if_pos (by omega)]
  rw[e1]
  have hd:decide ((s.size:Int)>400)=true:=by rw[decide_eq_true_iff];omega
  clear e1 hsz
  go_enter Tryz.func121,Tryz.ntmps121
  go_wp2
  exact bodyPost_ret (v:=res ⟨0,0,3⟩) (by simp[results,Tryz.results121,go_sem,res]) rfl ⟨rfl,(Below.refl _ w).alloc (Nat.le_refl _) _⟩
 ·have hd:decide ((s.size:Int)>400)=false:=by rw[decide_eq_false_iff_not];omega
  have HS:=hid (fun w=>qww s (by omega) w)
  cases hq:qcy s.data.toList with
  |none =>
   have e1:ev s.data.toList=⟨0,0,1⟩:=by unfold ev;rw[if_neg (by omega),hq]
   rw[e1]
   have HQ:=hid hq
   clear e1 hsz hq
   go_enter Tryz.func121,Tryz.ntmps121
   go_wp2_with fail
   refine(HS.out _).mono ?_
   rintro e w1⟨hb,hp⟩
   rw[HQ.out] at hp
   obtain rfl:=hp
   obtain⟨hc,hf⟩:=qad hb
   have hz1:w.heap.size<w1.heap.size:=by have:=hb.size;simp at this;omega
   have HB:=hid (qap hb)
   go_wp2
   exact bodyPost_ret (v:=res ⟨0,0,1⟩) (by simp[results,Tryz.results121,go_sem,hc,res]) rfl ⟨rfl,qie HB.out _ _⟩
  |some l =>
   obtain⟨hl1,hl2⟩:=qg6 hq
   have e1:ev s.data.toList=evT l:=by unfold ev;rw[if_neg (by omega),hq]
   rw[e1]
   have HQ:=hid hq
   have HP:Hid (∀ (W:World) (v:Value),W.ownsRow (w.heap.size+1) 9 1 v l.length (strs l)→0<W.heap.size→Calls Tryz.prog 180 #[v] W fun e w' => ∃ x,e=.returned (.tuple #[x,.bool (qn3 l)])∧Nd (W.heap.size ≤ ·) w' (top l).t x∧Below W.heap.size W w'):=hid fun W v hW hlt=>by
    obtain⟨bt,hbt,hts⟩:=qvj hW hlt
    exact qvo W bt v l hts hbt hl2 (by omega)
   cases hB:qn3 l with
   |false =>
    have e2:evT l=⟨0,0,1⟩:=by unfold evT;rw[qfv] at hB;rw[if_neg (by simpa using hB)]
    rw[e2]
    clear e1 e2 hsz hq hl1 hl2
    go_enter Tryz.func121,Tryz.ntmps121
    go_wp2_with fail
    refine(HS.out _).mono ?_
    rintro e w1⟨hb,hp⟩
    rw[HQ.out] at hp
    obtain⟨v,rfl,hown⟩:=hp
    obtain⟨VA,VC,hv⟩:=qbl hown
    subst hv
    have hz1:=hb.size
    simp only[World.size_alloc] at hz1 hown
    rw[hB] at HP
    have HOW:=hid hown
    have hr1:w1.heap[w.heap.size]? = some (nb 0 0):=(hb.block _ (by simp)).trans (nh _ _)
    have HB1:=hid (qap hb)
    have HR1:=hid hr1
    clear hown hb hr1
    go_wp2_with fail
    refine(HP.out _ _ HOW.out (by omega)).mono ?_
    rintro e w2⟨x,rfl,hx,hb2⟩
    obtain⟨o2,A2,k2,c2',rfl⟩:=hx.form
    have hr2:w2.heap[w.heap.size]? = some (nb 0 0):=(hb2.block _ (by omega)).trans HR1.out
    have hz2:=hb2.size
    have hlt2:w.heap.size<w2.heap.size:=by omega
    obtain⟨r0,r1,rf0,rf1⟩:=c2 hr2
    have HB2:=hid (HB1.out.trans (hb2.mono HB1.out.size))
    have HR2:=hid hr2
    have HX:=hid hx
    clear hb2 hr2 hx
    go_wp2_with fail
    exact bodyPost_ret (v:=res ⟨0,0,1⟩) (by simp[results,Tryz.results121,go_sem,hlt2,r0,r1,res]) rfl ⟨rfl,(qie HB2.out _ _).alloc (by simp[World.setCell];omega) _⟩
   |true =>
    have hB2:(top l).b=false∧(top l).r=[]:=by rw[qfv] at hB;simpa using hB
    have hlvv:=q2k l
    by_cases h20:20<(top l).t.lv
    ·have e2:evT l=⟨0,0,17⟩:=by unfold evT;rw[if_pos hB2,if_pos h20]
     rw[e2]
     have hd2:decide (((top l).t.lv:Int)>20)=true:=by rw[decide_eq_true_iff];omega
     clear e1 e2 hsz hq hl1 hl2 hB2
     go_enter Tryz.func121,Tryz.ntmps121
     go_wp2_with fail
     refine(HS.out _).mono ?_
     rintro e w1⟨hb,hp⟩
     rw[HQ.out] at hp
     obtain⟨v,rfl,hown⟩:=hp
     obtain⟨VA,VC,hv⟩:=qbl hown
     subst hv
     have hz1:=hb.size
     simp only[World.size_alloc] at hz1 hown
     rw[hB] at HP
     have HOW:=hid hown
     have hr1:w1.heap[w.heap.size]? = some (nb 0 0):=(hb.block _ (by simp)).trans (nh _ _)
     have HB1:=hid (qap hb)
     have HR1:=hid hr1
     clear hown hb hr1
     go_wp2_with fail
     refine(HP.out _ _ HOW.out (by omega)).mono ?_
     rintro e w2⟨x,rfl,hx,hb2⟩
     obtain⟨o2,A2,k2,c2',rfl⟩:=hx.form
     have hr2:w2.heap[w.heap.size]? = some (nb 0 0):=(hb2.block _ (by omega)).trans HR1.out
     have hz2:=hb2.size
     have hlt2:w.heap.size<w2.heap.size:=by omega
     obtain⟨r0,r1,rf0,rf1⟩:=c2 hr2
     have HB2:=hid (HB1.out.trans (hb2.mono HB1.out.size))
     have HR2:=hid hr2
     have HX:=hid hx
     clear hb2 hr2 hx
     go_wp2_with fail
     exact bodyPost_ret (v:=res ⟨0,0,17⟩) (by simp[results,Tryz.results121,go_sem,hlt2,r0,r1,res]) rfl ⟨rfl,(qie HB2.out _ _).alloc (by simp[World.setCell];omega) _⟩
    ·have e2:evT l=val (top l).t:=by unfold evT;rw[if_pos hB2,if_neg h20]
     rw[e2]
     have hd2:decide (((top l).t.lv:Int)>20)=false:=by rw[decide_eq_false_iff_not];omega
     have hwf:=q2l hl2 hB2.1
     have HV:Hid (∀ (X:Nat→Prop) (W:World) (v:Value),Nd X W (top l).t v→Below w.heap.size w W→Calls Tryz.prog 181 #[v] W fun e w'=>e=.returned (res (val (top l).t))∧Below W.heap.size W w'):=hid fun X W v hN hW=>qbo (top l).t hwf X W v hN (ht.below hW)
     generalize val (top l).t=R at HV ⊢
     unfold res at HV
     clear e1 e2 hsz hq hl1 hl2 hB2 hwf
     go_enter Tryz.func121,Tryz.ntmps121
     go_wp2_with fail
     refine(HS.out _).mono ?_
     rintro e w1⟨hb,hp⟩
     rw[HQ.out] at hp
     obtain⟨v,rfl,hown⟩:=hp
     obtain⟨VA,VC,hv⟩:=qbl hown
     subst hv
     have hz1:=hb.size
     simp only[World.size_alloc] at hz1 hown
     rw[hB] at HP
     have HOW:=hid hown
     have hr1:w1.heap[w.heap.size]? = some (nb 0 0):=(hb.block _ (by simp)).trans (nh _ _)
     have HB1:=hid (qap hb)
     have HR1:=hid hr1
     clear hown hb hr1
     go_wp2_with fail
     refine(HP.out _ _ HOW.out (by omega)).mono ?_
     rintro e w2⟨x,rfl,hx,hb2⟩
     obtain⟨o2,A2,k2,c2',rfl⟩:=hx.form
     have hr2:w2.heap[w.heap.size]? = some (nb 0 0):=(hb2.block _ (by omega)).trans HR1.out
     have hz2:=hb2.size
     have hlt2:w.heap.size<w2.heap.size:=by omega
     obtain⟨r0,r1,rf0,rf1⟩:=c2 hr2
     have HB2:=hid (HB1.out.trans (hb2.mono HB1.out.size))
     have HR2:=hid hr2
     have HX:=hid hx
     clear hb2 hr2 hx
     go_wp2_with fail
     refine(HV.out (w1.heap.size ≤ ·) _ _ (HX.out.below ((Below.refl _ w2).alloc (Nat.le_refl _) _)) (HB2.out.alloc HB2.out.size _)).mono ?_
     rintro e w3⟨rfl,hb3⟩
     have hz3:=hb3.size
     simp only[World.size_alloc] at hz3
     have hlt3:w.heap.size<w3.heap.size:=by omega
     have hr3:w3.heap[w.heap.size]? = some (nb 0 0):=(hb3.block _ (by simp;omega)).trans ((Below.heap_alloc _ _ _ hlt2).trans HR2.out)
     obtain⟨p0,p1,pf0,pf1⟩:=c2 hr3
     have HB3:=hid ((HB2.out.alloc HB2.out.size _).trans (hb3.mono (by simp;omega)))
     clear hb3 hr3
     go_wp2_with fail
     exact bodyPost_ret (v:=res R) (by simp[results,Tryz.results121,go_sem,hlt3,p0,p1,res]) rfl ⟨rfl,qie HB3.out _ _⟩
end Go.Proofs.YtldkgbnmaefaaaaGreatDoor.Fo
namespace Go.Proofs.YtldkgbnmaefaaaaGreatDoor.Fo
open Go.RowKit Go.Proofs.YtldkgbnmaefaaaaGreatDoor.Nu
set_option linter.unusedVariables false
set_option linter.unusedSimpArgs false
def es:Value := .string ⟨#[]⟩
def Rd(X:Nat→Prop)(w:World):T→Value→Prop
 | .bad,v=>v=.agg #[.string ⟨#[]⟩,.string ⟨#[]⟩,.slice none 0 0]
 | .num s,v=>v=.agg #[.string ⟨#[]⟩,sv s,.slice none 0 0]
 | .un o x,v => ∃ g t a b c,v=.agg #[sv o,.string ⟨#[]⟩,.slice (some ⟨g,0,none⟩) 1 1]∧X g∧w.heap[g]? = some (.cells #[a,b,c] t)∧Rd X w x (.agg #[a,b,c])
 | .bin o x y,v => ∃ g t a b c a' b' c',v=.agg #[sv o,.string ⟨#[]⟩,.slice (some ⟨g,0,none⟩) 2 2]∧X g∧w.heap[g]? = some (.cells #[a,b,c,a',b',c'] t)∧Rd X w x (.agg #[a,b,c])∧Rd X w y (.agg #[a',b',c'])
def ro(o t:ByteArray)(A:Option Addr)(k c:Nat):Obj := .cells #[.string o,.string t,.slice A k c] 86
def po(v:Value)(i:Nat)(b:Bool):Obj := .cells #[v,.int .i64 (i:Int),.bool b] 119
structure Spr (gp bt:Nat) (v:Value) (L:List Tok) (w:World) (l:List Tok) (b:Bool):Prop where
 o:w.heap[gp]? = some (po v (L.length-l.length) b)
 t:TS bt w v L
 d:L.drop (L.length-l.length)=l
 le:l.length≤L.length
 mx:L.length≤600
 ne:bt≠gp
 lb:bt<w.heap.size
 nz : ∀ t∈L,0<t.length∧t.length≤19
section
variable {gp bt n:Nat} {w w':World} {v:Value} {L l r:List Tok} {b:Bool} {o:Tok}
theorem Rd.keep{X X':Nat→Prop}(k : ∀ i,X i→i<w.heap.size→w'.heap[i]? = w.heap[i]?)(hX : ∀ i,X i→i<w.heap.size→X' i) : ∀ (x:T) (v:Value),Rd X w x v→Rd X' w' x v
 | .bad,_,h=>h
 | .num _,_,h=>h
 | .un o x,v,⟨g,t,a,b,c,e,hg,hc,hx⟩=>⟨g,t,a,b,c,e,hX g hg (qac hc),(k g hg (qac hc)).trans hc,Rd.keep k hX x _ hx⟩
 | .bin o x y,v,⟨g,t,a,b,c,a',b',c',e,hg,hc,hx,hy⟩=>⟨g,t,a,b,c,a',b',c',e,hX g hg (qac hc),(k g hg (qac hc)).trans hc,Rd.keep k hX x _ hx,Rd.keep k hX y _ hy⟩
theorem Rd.imp{X X':Nat→Prop}{x:T}{v:Value}(h:Rd X w x v)(hX : ∀ i,X i→X' i):Rd X' w x v:=Rd.keep (fun _ _ _=>rfl) (fun i h _=>hX i h) x v h
theorem Rd.below{X:Nat→Prop}{x:T}{v:Value}(h:Rd X w x v)(k:Below w.heap.size w w'):Rd X w' x v:=Rd.keep (fun i hi hl=>k.block i hl) (fun _ h _=>h) x v h
theorem Rd.form{X:Nat→Prop} : ∀ {x:T} {v:Value},Rd X w x v → ∃ o t A k c,v=.agg #[.string o,.string t,.slice A k c]
 | .bad,_,h=>⟨_,_,_,_,_,h⟩
 | .num _,_,h=>⟨_,_,_,_,_,h⟩
 | .un _ _,_,⟨_,_,_,_,_,e,_⟩=>⟨_,_,_,_,_,e⟩
 | .bin _ _ _,_,⟨_,_,_,_,_,_,_,_,e,_⟩=>⟨_,_,_,_,_,e⟩
theorem Spr.lt(h:Spr gp bt v L w l b):gp<w.heap.size:=qac h.o
theorem Spr.keep(h:Spr gp bt v L w l b)(k:w'.heap[bt]? = w.heap[bt]?)(k2:w'.heap[gp]? = w.heap[gp]?)(hz:w.heap.size≤w'.heap.size):Spr gp bt v L w' l b:=⟨k2.trans h.o,h.t.keep k,h.d,h.le,h.mx,h.ne,Nat.lt_of_lt_of_le h.lb hz,h.nz⟩
theorem Spr.below(h:Spr gp bt v L w l b)(k:Below w.heap.size w w'):Spr gp bt v L w' l b:=h.keep (k.block _ h.lb) (k.block _ h.lt) k.size
theorem Spr.alloc(h:Spr gp bt v L w l b)(p:Obj):Spr gp bt v L (w.alloc p) l b:=h.below ((Below.refl _ w).alloc (Nat.le_refl _) p)
theorem Spr.c0(h:Spr gp bt v L w l b):w.cell? ⟨gp,0,none⟩=some v:=by unfold World.cell?;rw[h.o];rfl
theorem Spr.c1(h:Spr gp bt v L w l b):w.cell? ⟨gp,1,none⟩=some (.int .i64 ((L.length-l.length:Nat):Int)):=by unfold World.cell?;rw[h.o];rfl
theorem Spr.c2(h:Spr gp bt v L w l b):w.cell? ⟨gp,2,none⟩=some (.bool b):=by unfold World.cell?;rw[h.o];rfl
theorem Spr.f(h:Spr gp bt v L w l b)(o:Nat):w.frozen? ⟨gp,o,none⟩=false:=by unfold World.frozen?;rw[h.o];rfl
theorem Spr.fail(h:Spr gp bt v L w l b):Spr gp bt v L (w.setCell ⟨gp,2,none⟩ (.bool true)) l true:=by
 refine⟨?_,h.t.keep (Below.heap_setCell _ _ _ _ h.ne),h.d,h.le,h.mx,h.ne,by simpa [World.setCell] using h.lb,h.nz⟩
 simp only[World.setCell,Array.getElem?_modify,if_pos,h.o]
 rfl
theorem Spr.step(h:Spr gp bt v L w (o :: r) b):Spr gp bt v L (w.setCell ⟨gp,1,none⟩ (.int .i64 (((L.length-(o :: r).length:Nat):Int)+1))) r b:=by
 have hle:=h.le
 simp only[List.length_cons] at hle
 have e:L.length-(o :: r).length+1=L.length-r.length:=by simp only[List.length_cons];omega
 refine⟨?_,h.t.keep (Below.heap_setCell _ _ _ _ h.ne),?_,by omega,h.mx,h.ne,by simpa [World.setCell] using h.lb,h.nz⟩
 ·rw[←e]
  simp only[World.setCell,Array.getElem?_modify,if_pos,h.o]
  rfl
 ·rw[←e,←List.tail_drop,h.d];rfl
theorem Spr.head(h:Spr gp bt v L w (o :: r) b) : ∃ a c,v=.slice (some ⟨bt,a,none⟩) L.length c∧L.length≤c∧c≤9223372036854775807∧L.length-(o :: r).length<L.length∧w.cell? ⟨bt,a+(L.length-(o :: r).length),none⟩=some (sv o):=by
 obtain⟨A,c,h1,h2,h3,h4⟩:=h.t
 have hle:=h.le
 have hd:=h.d
 simp only[List.length_cons] at hle
 obtain⟨a,e,hc⟩:=h4 (by omega)
 refine⟨a,c,by rw[h1,e],h2,h3,by simp only[List.length_cons];omega,hc _ _ ?_⟩
 have:(L.drop (L.length-(o :: r).length))[0]? = some o:=by rw[hd];rfl
 rwa [List.getElem?_drop,Nat.add_zero] at this
theorem Spr.len(h:Spr gp bt v L w l b) : ∃ A c,v=.slice A L.length c∧L.length≤c∧c≤9223372036854775807:=by
 obtain⟨A,c,h1,h2,h3,h4⟩:=h.t;exact⟨A,c,h1,h2,h3⟩
theorem Spr.nzl(h:Spr gp bt v L w (o :: r) b):0<o.length∧o.length≤19:=by
 have hd:=h.d
 have:o∈L.drop (L.length-(o :: r).length):=by rw[hd];simp
 exact h.nz o (List.mem_of_mem_drop this)
end
end Go.Proofs.YtldkgbnmaefaaaaGreatDoor.Fo
namespace Go.Proofs.YtldkgbnmaefaaaaGreatDoor.Fo
open Go.RowKit Go.Proofs.YtldkgbnmaefaaaaGreatDoor.Nu
set_option linter.unusedVariables false
set_option linter.unusedSimpArgs false
theorem qsa{S:List Tok}{k:Nat}{t x:Tok}(h:t ∉ S.take k)(hx:S[k]? = some x)(hne:x≠t):t ∉ S.take (k+1):=by
 rw[List.take_add_one,hx]
 simp[h,Ne.symm hne]
theorem qum(w:World)(g:Nat)(S:List Tok)(t:Tok)(hS : ∀ j x,S[j]? = some x→w.cell? ⟨g,j,none⟩=some (sv x))(hl:S.length≤100) :
  Calls Tryz.prog 208 #[.slice (some ⟨g,0,none⟩) S.length S.length,sv t] w fun e w'=>e=.returned (.bool (decide (t∈S)))∧w'=w:=by
 have HS:=hid hS;clear hS
 unfold sv
 go_enter Tryz.func208,Tryz.ntmps208
 go_wp2_with fail
 go_loopw [5] (fun i wr => ∃ k:Nat,i=.int .i64 k∧k≤S.length∧Hid (wr=w)∧Hid (t ∉ S.take k)) (fun i _=>S.length-(intOf i).toNat)
 case atStart=>exact⟨0,rfl,Nat.zero_le _,hid rfl,hid (by simp)⟩
 case round =>
  obtain⟨k,rfl,hk,hw,ha⟩:=hrel
  have hw':=hw.out
  subst hw'
  by_cases hlt:k<S.length
  ·have hd:decide ((k:Int)<(S.length:Int))=true:=by rw[decide_eq_true_iff];omega
   obtain⟨x,hx⟩ : ∃ x,S[k]? = some x:=⟨_,List.getElem?_eq_getElem hlt⟩
   have hc:=HS.out k x hx
   unfold sv at hc
   have hk2:(k:Int)<(S.length:Int):=by omega
   have HX:=hid hx;clear hx
   by_cases he:x=t
   ·have HE:Hid (decide (t∈S)=true):=hid (decide_eq_true (he▸List.mem_of_getElem? HX.out))
    have hb:(x==t)=true:=by simpa using he
    clear he
    go_wp2_with fail
    go_ret
    exact⟨by rw[HE.out];rfl,by first | rfl | trivial⟩
   ·have HN:=hid (qsa ha.out HX.out he)
    have hb:(x==t)=false:=by simpa using he
    clear he
    go_wp2_with fail
    go_roundw
    case rel=>exact⟨k+1,by simp,by omega,hid (by first | rfl | trivial),HN⟩
    case measure=>simp[intOf];omega
  ·have ek:k=S.length:=by omega
   subst ek
   have hd:decide ((S.length:Int)<(S.length:Int))=false:=by simp
   have HE:Hid (decide (t∈S)=false):=hid (decide_eq_false (by have:=ha.out;rwa [List.take_of_length_le (Nat.le_refl _)] at this))
   clear hlt
   go_wp2_with fail
   go_ret
   exact⟨by rw[HE.out];rfl,by first | rfl | trivial⟩
section
variable {gp bt:Nat} {w:World} {v:Value} {L l:List Tok} {b:Bool} {o:Tok}
theorem qnq(h:Spr gp bt v L w l b)(g:Nat)(S:List Tok)(hS : ∀ j x,S[j]? = some x→w.cell? ⟨g,j,none⟩=some (sv x))(hl:S.length≤100) :
  Calls Tryz.prog 148 #[.pointer (some ⟨gp,0,none⟩),.slice (some ⟨g,0,none⟩) S.length S.length] w fun e w'=>e=.returned (.bool (qdt S l b).isSome)∧Below w.heap.size w w':=by
 have h0:=h.c0
 have h1:=h.c1
 have h2:=h.c2
 cases b with
 |true =>
  have HN:Hid ((qdt S l true).isSome=false):=hid rfl
  rw[HN.out]
  clear h0 h1 h
  go_enter Tryz.func148,Tryz.ntmps148
  go_wp2
  go_quiet (fail)
  go_wp2
  go_ret
  exact⟨rfl,below_drewN (Below.refl _ _) _⟩
 |false =>
  cases l with
  |nil =>
   obtain⟨A,c,rfl,hc1,hc2⟩:=h.len
   have HN:Hid ((qdt S [] false).isSome=false):=hid rfl
   rw[HN.out]
   have hz:L.length-([]:List Tok).length=L.length:=rfl
   rw[hz] at h1
   have hd:decide ((L.length:Int)<(L.length:Int))=false:=by simp
   clear h
   go_enter Tryz.func148,Tryz.ntmps148
   go_wp2
   go_quiet (fail)
   go_wp2
   go_ret
   exact⟨rfl,below_drewN (Below.refl _ _) _⟩
  |cons o r =>
   obtain⟨a,c,rfl,hc1,hc2,hlt,hcell⟩:=h.head
   obtain⟨i,hi⟩ : ∃ i,L.length-(o :: r).length=i:=⟨_,rfl⟩
   rw[hi] at h1 hlt hcell
   have HN:Hid ((qdt S (o :: r) false).isSome=decide (o∈S)):=hid (by
    show(if o∈S then some (o,r) else none).isSome=_
    by_cases ho:o∈S
    ·rw[if_pos ho,decide_eq_true ho];rfl
    ·rw[if_neg ho,decide_eq_false ho];rfl)
   rw[HN.out]
   have hd:decide ((i:Int)<(L.length:Int))=true:=by rw[decide_eq_true_iff];omega
   have hi2:(i:Int)<(L.length:Int):=by omega
   have HH:Hid (∀ q,Calls Tryz.prog 208 #[.slice (some ⟨g,0,none⟩) S.length S.length,sv o] (w.drewN q) fun e w'=>e=.returned (.bool (decide (o∈S)))∧w'=w.drewN q):=hid fun q=>qum (w.drewN q) g S o hS hl
   clear h
   unfold sv at hcell HH
   go_enter Tryz.func148,Tryz.ntmps148
   go_wp2
   go_quiet ((go_at_call 208;refine(HH.out _).mono ?_;rintro e w' ⟨rfl,rfl⟩;exact⟨rfl,_,rfl⟩))
   go_wp2
   go_ret
   exact⟨rfl,below_drewN (Below.refl _ _) _⟩
theorem qmo(h:Spr gp bt v L w (o :: l) b) :
  Calls Tryz.prog 149 #[.pointer (some ⟨gp,0,none⟩)] w fun e w'=>e=.returned (sv o)∧Spr gp bt v L w' l b∧Fr gp w.heap.size w w':=by
 obtain⟨a,c,rfl,hc1,hc2,hlt,hcell⟩:=h.head
 have h0:=h.c0
 have h1:=h.c1
 have f1:=h.f 1
 have hs:=h.step
 have hs1:=hs.c1
 have hs0:=hs.c0
 have hmx:=h.mx
 obtain⟨i,hi⟩ : ∃ i,L.length-(o :: l).length=i:=⟨_,rfl⟩
 rw[hi] at h1 hlt hcell hs hs1 hs0
 have ei:((L.length-l.length:Nat):Int)=(i:Int)+1:=by simp only[List.length_cons] at hi;have:=h.le;simp only[List.length_cons] at this;omega
 rw[ei] at hs1
 have hcell2:(w.setCell ⟨gp,1,none⟩ (.int .i64 ((i:Int)+1))).cell? ⟨bt,a+i,none⟩=some (sv o):=by
  rw[World.cell?_setCell_other _ _ _ _ (by intro e;have:=congrArg Addr.block e;exact h.ne this.symm)];exact hcell
 have hi2:(i:Int)<(L.length:Int):=by omega
 have HS:=hid hs
 have hne:=h.ne
 clear hs h hi ei
 unfold sv at hcell hcell2 ⊢
 go_enter Tryz.func149,Tryz.ntmps149
 go_wp2
 go_quiet (fail)
 go_wp2
 go_ret
 exact⟨rfl,HS.out.below (below_drewN (Below.refl _ _) _),(Fr.setCell w.heap.size _ _ _).trans (Fr.of (n:=w.heap.size) (below_drewN (Below.refl _ _) _)) (Nat.le_refl _)⟩
end
end Go.Proofs.YtldkgbnmaefaaaaGreatDoor.Fo
namespace Go.Proofs.YtldkgbnmaefaaaaGreatDoor.Fo
open Go.RowKit Go.Proofs.YtldkgbnmaefaaaaGreatDoor.Nu
set_option linter.unusedVariables false
set_option linter.unusedSimpArgs false
theorem qfs{s:List Tok}{l:List Tok}{b:Bool}{o:Tok}{r:List Tok}(h:qdt s l b=some (o,r)):l=o :: r∧o∈s∧b=false:=by
 cases b with
 |true=>cases h
 |false=>exact⟨(qdh h).1,(qdh h).2,rfl⟩
theorem qe9{s:List Tok}{l:List Tok}{b:Bool}{o:Tok}{r:List Tok}(h:qdt s l b=some (o,r)):l.length=r.length+1:=by rw[(qfs h).1];rfl
theorem qn5 : ∀ (n k:Nat) (x:T) (l:List Tok) (b:Bool),(Q n k x l b).r.length≤l.length
 | 0,_,_,_,_=>Nat.le_refl _
 |n+1,k,x,l,b=>by
  by_cases h2:k=2
  ·subst h2;rw[Q_2]
   have h1:=qn5 n 3 .bad l b
   split
   ·rename_i o r h
    have h3:=qn5 n 3 .bad r (Q n 3 .bad l b).b
    have h4:=qe9 h
    simp only;omega
   ·exact h1
  by_cases h6:k=6
  ·subst h6;rw[Q_6]
   split
   ·rename_i o r h
    have h3:=qn5 n 6 .bad r b
    have h4:=qe9 h
    simp only;omega
   ·exact qn5 n 7 .bad l b
  by_cases h7:k=7
  ·subst h7;rw[Q_7]
   have h1:=qn5 n 8 .bad l b
   split
   ·rename_i o r h
    have h3:=qn5 n 6 .bad r (Q n 8 .bad l b).b
    have h4:=qe9 h
    simp only;omega
   ·exact h1
  by_cases h8:k=8
  ·subst h8
   cases b with
   |true=>rw[xeo];exact Nat.le_refl _
   |false =>
    cases l with
    |nil=>exact Nat.le_refl _
    |cons t l =>
     by_cases hp:t=[40]
     ·subst hp;rw[xc0]
      have h1:=qn5 n 0 .bad l false
      split
      ·rename_i o r h
       have h4:=qe9 h
       simp only[List.length_cons];omega
      ·simp only[List.length_cons];omega
     ·rw[xc1 _ _ _ _ hp];simp
  by_cases h:k<10
  ·rw[xcp n k x l b h h2 h6 h7 h8]
   have h1:=qn5 n (k+1) .bad l b
   have h3:=qn5 n (10+k) (Q n (k+1) .bad l b).t (Q n (k+1) .bad l b).r (Q n (k+1) .bad l b).b
   omega
  ·obtain⟨j,rfl⟩ : ∃ j,k=10+j:=⟨k-10,by omega⟩
   rw[q8w]
   split
   ·rename_i o r h
    have h4:=qe9 h
    have h1:=qn5 n (j+1) .bad r b
    have h3:=qn5 n (10+j) (.bin o x (Q n (j+1) .bad r b).t) (Q n (j+1) .bad r b).r (Q n (j+1) .bad r b).b
    omega
   ·exact Nat.le_refl _
def PoR(gp bt:Nat)(v:Value)(L:List Tok)(w:World)(R:Res)(e:Ending)(w':World):Prop := ∃ x,e=.returned x∧Rd (w.heap.size ≤ ·) w' R.t x∧Spr gp bt v L w' R.r R.b∧Fr gp w.heap.size w w'
def LvL(n k:Nat):Prop := ∀ (gp bt:Nat) (v:Value) (L:List Tok) (w:World) (l:List Tok),Spr gp bt v L w l false→20*l.length+(12-k)≤n →
 Calls Tryz.prog 91 #[.pointer (some ⟨gp,0,none⟩),.int .i64 (k:Int)] w (PoR gp bt v L w (Q n k .bad l false))
def LvF(f:FuncId)(n k:Nat):Prop := ∀ (gp bt:Nat) (v:Value) (L:List Tok) (w:World) (l:List Tok),Spr gp bt v L w l false→20*l.length+(12-k)≤n →
 Calls Tryz.prog f #[.pointer (some ⟨gp,0,none⟩)] w (PoR gp bt v L w (Q n k .bad l false))
def atI(gp:Nat)(w:World):Nat:=match w.cell? ⟨gp,1,none⟩ with
 |some (.int _ n)=>n.toNat
 | _=>0
theorem Spr.at_{gp bt:Nat}{v:Value}{L:List Tok}{w:World}{l:List Tok}{b:Bool}(h:Spr gp bt v L w l b):L.length-atI gp w=l.length:=by
 unfold atI
 rw[h.c1]
 have:=h.le
 simp only[Int.toNat_natCast]
 omega
abbrev zno:Obj := .cells #[.string ⟨#[]⟩,.string ⟨#[]⟩,.slice none 0 0] 86
def VrR(X:Nat→Prop)(w:World)(c:Nat)(x:T):Prop := ∃ o t A k d,w.heap[c]? = some (ro o t A k d)∧Rd X w x (.agg #[.string o,.string t,.slice A k d])
structure ChR (gp bt:Nat) (v:Value) (L:List Tok) (g:Nat) (S:List Tok) (w0 w:World) (cl:Nat) (R:Res) (n k:Nat) (x:T) (l:List Tok) (b:Bool):Prop where
 st:Spr gp bt v L w l b
 var:VrR (fun i=>w0.heap.size<i∧i≠cl) w cl x
 res:w.heap[w0.heap.size]? = some zno
 row : ∀ j t,S[j]? = some t→w.cell? ⟨g,j,none⟩=some (sv t)
 fr:Fr gp w0.heap.size w0 w
 eq:Q n (10+k) x l b=R
 fuel:20*l.length+1≤n
abbrev qpz(o1 t1:ByteArray)(A1:Option Addr)(k1 c1:Nat)(o2 t2:ByteArray)(A2:Option Addr)(k2 c2:Nat):Obj := .cells #[.string o1,.string t1,.slice A1 k1 c1,.string o2,.string t2,.slice A2 k2 c2] 86
theorem ChR.step{gp bt g:Nat}{v:Value}{L S:List Tok}{w0 w w2 w3:World}{cl:Nat}{R:Res}{m k:Nat}{x:T}{l r:List Tok}{b:Bool}{o:Tok}{y:Res}{o1 t1 o2 t2:ByteArray}{A1 A2:Option Addr}{k1 c1 k2 c2:Nat}
  (hc:ChR gp bt v L g S w0 w cl R (m+1) k x l b) (hgp:gp<w0.heap.size) (hbt:bt<w0.heap.size) (hg:w0.heap.size<g) (hgw:g<cl) (hgl:g<w.heap.size) (hlr:l.length=r.length+1)
  (hv:w.heap[cl]? = some (ro o1 t1 A1 k1 c1)) (hn1:Rd (fun i=>w0.heap.size<i∧i≠cl) w x (.agg #[.string o1,.string t1,.slice A1 k1 c1]))
  (f2:Fr gp w.heap.size w w2) (f3:Fr gp w2.heap.size w2 w3) (hs3:Spr gp bt v L w3 y.r y.b) (hn2:Rd (w2.heap.size ≤ ·) w3 y.t (.agg #[.string o2,.string t2,.slice A2 k2 c2]))
  (heq:Q m (10+k) (.bin o x y.t) y.r y.b=R) (hsz:y.r.length≤r.length) :
  ChR gp bt v L g S w0 ((((w3.alloc (qpz o1 t1 A1 k1 c1 o2 t2 A2 k2 c2)).setCell ⟨cl,0,none⟩ (sv o)).setCell ⟨cl,1,none⟩ (.string ⟨#[]⟩)).setCell ⟨cl,2,none⟩ (.slice (some ⟨w3.heap.size,0,none⟩) 2 2)) cl R m k (.bin o x y.t) y.r y.b:=by
 have hz0:=hc.fr.size
 have hz2:=f2.size
 have hz3:=f3.size
 have hclw:=qac hv
 have he:=hc.res
 have hfu:=hc.fuel
 have B34:Below w3.heap.size w3 (w3.alloc (qpz o1 t1 A1 k1 c1 o2 t2 A2 k2 c2)):=(Below.refl _ w3).alloc (Nat.le_refl _) _
 have F4:Fr gp w.heap.size w (w3.alloc (qpz o1 t1 A1 k1 c1 o2 t2 A2 k2 c2)):=(f2.trans f3 f2.size).trans (Fr.of B34) (by omega)
 have hc4:(w3.alloc (qpz o1 t1 A1 k1 c1 o2 t2 A2 k2 c2)).heap[cl]? = some _:=(F4.block cl hclw (by omega)).trans hv
 have hnew:(w3.alloc (qpz o1 t1 A1 k1 c1 o2 t2 A2 k2 c2)).heap[w3.heap.size]? = some _:=qaj _ _
 have zz : ∀ (W:World) (a b d:Value),(((W.setCell ⟨cl,0,none⟩ a).setCell ⟨cl,1,none⟩ b).setCell ⟨cl,2,none⟩ d).heap.size=W.heap.size:=fun W a b d=>by simp[World.setCell]
 generalize(w3.alloc (qpz o1 t1 A1 k1 c1 o2 t2 A2 k2 c2))=w4 at *
 refine⟨?_,?_,?_,fun j t hj => ?_,?_,heq,by omega⟩
 ·exact(hs3.below B34).keep (qa8 (by omega) _ _ _) (qa8 (by omega) _ _ _) (by rw[zz];exact Nat.le_refl _)
 ·refine⟨_,_,_,_,_,q2g hc4 _ _ _,?_⟩
  refine⟨w3.heap.size,_,_,_,_,_,_,_,rfl,⟨by omega,by omega⟩,(qa8 (by omega) _ _ _).trans hnew,?_,?_⟩
  ·exact Rd.keep (fun i hi hl=>(qa8 hi.2 _ _ _).trans (F4.block i hl (by omega))) (fun i hi _=>hi) _ _ hn1
  ·exact Rd.keep (X:=fun i=>w2.heap.size≤i) (fun i hi hl=>(qa8 (by omega) _ _ _).trans (B34.block i hl)) (fun i hi _=>⟨by omega,by omega⟩) _ _ hn2
 ·exact(qa8 (by omega) _ _ _).trans ((F4.block _ (qac he) (by omega)).trans he)
 ·rw[World.cell?_of_block (w:=w4) (qa8 (by show g≠cl;omega) _ _ _),F4.cell hgl (by omega) j none]
  exact hc.row j t hj
 ·exact(hc.fr.trans F4 hz0).trans (Fr.of ((((Below.refl w0.heap.size w4).setCell (by show _≤cl;omega) _).setCell (by show _≤cl;omega) _).setCell (by show _≤cl;omega) _)) (Nat.le_refl _)
theorem q5w(k:Nat):(ops k).length≤3:=by unfold ops;split<;>decide
theorem szc(W:World)(p:Addr)(u:Value):(W.setCell p u).heap.size=W.heap.size:=by simp[World.setCell]
abbrev W6(w:World):World:=(((((((w.alloc zno).alloc (.cells #[.string ⟨#[111,114]⟩] 9)).alloc (.cells #[.string ⟨#[97,110,100]⟩] 9)).alloc (.cells #[.string ⟨#[43]⟩,.string ⟨#[45]⟩] 9)).alloc (.cells #[.string ⟨#[42]⟩,.string ⟨#[47]⟩,.string ⟨#[109,111,100]⟩] 9)).alloc (.cells #[.string ⟨#[114,111,117,110,100]⟩] 9)).alloc
    (.cells #[.slice (some ⟨w.heap.size+1,0,none⟩) 1 1,.slice (some ⟨w.heap.size+1+1,0,none⟩) 1 1,.slice none 0 0,.slice (some ⟨w.heap.size+1+1+1,0,none⟩) 2 2,.slice (some ⟨w.heap.size+1+1+1+1,0,none⟩) 3 3,.slice (some ⟨w.heap.size+1+1+1+1+1,0,none⟩) 1 1] 22))
theorem qbq{W:World}{g:Nat}{o:Obj}(h:W.heap[g]? = some o)(p:Obj):(W.alloc p).heap[g]? = some o:=(Below.heap_alloc _ _ _ (qac h)).trans h
theorem qgr{W:World}{g:Nat}(h:W.heap.size=g)(o:Obj):(W.alloc o).heap[g]? = some o:=h▸qaj W o
theorem q4d(w:World):(W6 w).heap.size=w.heap.size+7:=by simp[W6]
theorem qp7(w:World):Below w.heap.size w (W6 w):=(((((((Below.refl _ w).alloc (Nat.le_refl _) _).alloc (by simp) _).alloc (by simp;omega) _).alloc (by simp;omega) _).alloc (by simp;omega) _).alloc (by simp;omega) _).alloc (by simp;omega) _
theorem q9r(w:World):(W6 w).heap[w.heap.size]? = some zno:=qbq (qbq (qbq (qbq (qbq (qbq (qaj w zno) _) _) _) _) _) _
theorem row_of{W:World}{g:Nat}{S:List Tok}{t:TypeId}(h:W.heap[g]? = some (row S t)) : ∀ j x,S[j]? = some x→W.cell? ⟨g,j,none⟩=some (sv x):=fun j x hj=>by
 unfold World.cell?
 rw[show W.heap[(⟨g,j,none⟩:Addr).block]? = some (row S t) from h]
 simp[row,hj]
theorem qzk{k:Nat}(hk:k=0∨k=1∨k=3∨k=4∨k=5)(w:World) :
  ∃ g,w.heap.size<g∧g<w.heap.size+7 ∧
   (∀ h:k<6,[Value.slice (some ⟨w.heap.size+1,0,none⟩) 1 1,.slice (some ⟨w.heap.size+1+1,0,none⟩) 1 1,.slice none 0 0,.slice (some ⟨w.heap.size+1+1+1,0,none⟩) 2 2,.slice (some ⟨w.heap.size+1+1+1+1,0,none⟩) 3 3,.slice (some ⟨w.heap.size+1+1+1+1+1,0,none⟩) 1 1][k]'h=.slice (some ⟨g,0,none⟩) (ops k).length (ops k).length) ∧
   ∀ j t,(ops k)[j]? = some t→(W6 w).cell? ⟨g,j,none⟩=some (sv t):=by
 rcases hk with rfl | rfl | rfl | rfl | rfl
 ·exact⟨w.heap.size+1,by omega,by omega,fun _=>rfl,row_of (S:=ops 0) (t:=9) (qbq (qbq (qbq (qbq (qbq (qgr (by simp) _) _) _) _) _) _)⟩
 ·exact⟨w.heap.size+1+1,by omega,by omega,fun _=>rfl,row_of (S:=ops 1) (t:=9) (qbq (qbq (qbq (qbq (qgr (by simp) _) _) _) _) _)⟩
 ·exact⟨w.heap.size+1+1+1,by omega,by omega,fun _=>rfl,row_of (S:=ops 3) (t:=9) (qbq (qbq (qbq (qgr (by simp) _) _) _) _)⟩
 ·exact⟨w.heap.size+1+1+1+1,by omega,by omega,fun _=>rfl,row_of (S:=ops 4) (t:=9) (qbq (qbq (qgr (by simp) _) _) _)⟩
 ·exact⟨w.heap.size+1+1+1+1+1,by omega,by omega,fun _=>rfl,row_of (S:=ops 5) (t:=9) (qbq (qgr (by simp) _) _)⟩
theorem qzc(n k:Nat)(hk:k=0∨k=1∨k=3∨k=4∨k=5)(hf : ∀ m,m≤n→LvL m (k+1)):LvL (n+1) k:=by
 intro gp bt v L w l h hn
 have hk6:k<6:=by omega
 have hk6i:(k:Int)<6:=by omega
 have hk2:((k:Int)==2)=false:=beq_eq_false_iff_ne.2 (by omega)
 have hk62:((k:Int)==6)=false:=beq_eq_false_iff_ne.2 (by omega)
 have hQ:Q (n+1) k .bad l false=Q n (10+k) (Q n (k+1) .bad l false).t (Q n (k+1) .bad l false).r (Q n (k+1) .bad l false).b:=xcp n k .bad l false (by omega) (by omega) (by omega) (by omega) (by omega)
 rw[hQ]
 obtain⟨g,hg1,hg2,hrow,hW⟩:=qzk hk w
 have HW:=hid hW
 have HF:=hid hf;have HS:=hid h
 have hcast:((k+1:Nat):Int)=(k:Int)+1:=by omega
 have HL:Hid (∀ (W:World) (l:List Tok) (m:Nat),m≤n→Spr gp bt v L W l false→20*l.length+(12-(k+1))≤m →
   Calls Tryz.prog 91 #[.pointer (some ⟨gp,0,none⟩),.int .i64 ((k:Int)+1)] W (PoR gp bt v L W (Q m (k+1) .bad l false))):=hid fun W l m hm hS hl=>by
  have:=HF.out m hm gp bt v L W l hS hl
  rwa [hcast] at this
 have hgp:=h.lt
 have hbt:=h.lb
 have HK:=hid hk
 have hrl:=qn5 n (k+1) .bad l false
 obtain⟨Y,hY⟩ : ∃ Y,Q n (k+1) .bad l false=Y:=⟨_,rfl⟩
 rw[hY] at hrl ⊢
 obtain⟨R,hR⟩ : ∃ R,Q n (10+k) Y.t Y.r Y.b=R:=⟨_,rfl⟩
 rw[hR]
 have HY:=hid hY;have HR:=hid hR
 clear hf h hW hQ hcast hk hY hR
 go_enter Tryz.func91,Tryz.ntmps91
 go_wp2_with fail
 (with_reducible refine(HL.out (W6 w) l n (Nat.le_refl _) (HS.out.below (qp7 w)) (by omega)).mono ?_)
 rintro e w1⟨x,rfl,hx,hs,hf⟩
 obtain⟨o0,t0,A0,k0,c0,rfl⟩:=hx.form
 rw[HY.out] at hx hs
 have hz6:=q4d w
 have hsz:=hf.size
 have J0:Hid (∃ m x l' b',m≤n∧ChR gp bt v L g (ops k) w (w1.alloc (ro o0 t0 A0 k0 c0)) w1.heap.size R m k x l' b'):=hid
  ⟨n,_,_,_,Nat.le_refl _,hs.alloc _,⟨_,_,_,_,_,qaj _ _,Rd.keep (X:=fun i=>(W6 w).heap.size≤i) (fun i _ hl=>Below.heap_alloc _ _ _ hl) (fun i hi hl=>⟨by omega,by omega⟩) _ _ hx⟩,
   qbq ((hf.block _ (by omega) (by omega)).trans (q9r w)) _,fun j t hj=>by
    rw[World.cell?_of_block (w:=w1) (Below.heap_alloc _ _ _ (by show g<w1.heap.size;omega)),hf.cell (by omega) (by omega) j none]
    exact HW.out j t hj,(((Fr.of (qp7 w)).trans hf (by omega)).alloc (by omega) _),HR.out,by omega⟩
 have hgw1:g<w1.heap.size:=by omega
 have hww1:w.heap.size<w1.heap.size:=by omega
 clear hx hs hf hsz hz6 hrl HW HF HY HR
 unfold ro at J0
 go_wp2_with fail
 have hol:=q5w k
 go_loopw [7] (fun _ wr=>Hid (∃ m x l' b',m≤n∧ChR gp bt v L g (ops k) w wr w1.heap.size R m k x l' b')) (fun _ wr=>L.length-atI gp wr)
 case atStart=>exact J0
 case round =>
  obtain⟨m,x,l',b',hm,hc⟩:=hrel.out
  clear hrel J0
  obtain⟨m,rfl⟩ : ∃ j,m=j+1:=⟨m-1,by have:=hc.fuel;omega⟩
  have hlen:=hc.st.at_
  have HT:=hid (qnq hc.st g (ops k) hc.row (by omega))
  have HC:=hid hc
  cases hx:qdt (ops k) l' b' with
  |none =>
   rw[hx] at HT
   have heq:(⟨x,l',b'⟩:Res)=R:=by have:=hc.eq;rw[q8w,hx] at this;exact this
   have HE:=hid heq;clear heq hx hc
   go_wp2_with fail
   (with_reducible refine HT.out.mono ?_)
   rintro e w2⟨rfl,hb2⟩
   obtain⟨o1,t1,A1,k1,c1,hv,hn1⟩:=HC.out.var
   have hr:=HC.out.res
   have hz2:=hb2.size
   have hlv:=qac hv
   have hlr:=qac hr
   have hcl:w2.heap[w1.heap.size]? = some _:=(hb2.block _ hlv).trans hv
   have hcr:w2.heap[w.heap.size]? = some _:=(hb2.block _ hlr).trans hr
   unfold ro at hcl
   obtain⟨q0,q1,q2,qf⟩:=c3 hcl
   obtain⟨p0,p1,p2,pf⟩:=c3 hcr
   have pf0:=pf 0;have pf1:=pf 1;have pf2:=pf 2
   have hN:Rd (w.heap.size ≤ ·) (((w2.setCell ⟨w.heap.size,0,none⟩ (.string o1)).setCell ⟨w.heap.size,1,none⟩ (.string t1)).setCell ⟨w.heap.size,2,none⟩ (.slice A1 k1 c1)) x (.agg #[.string o1,.string t1,.slice A1 k1 c1]) :=
    Rd.keep (X:=fun i=>w.heap.size<i∧i≠w1.heap.size) (fun i hi hl=>(qa8 (by omega) _ _ _).trans (hb2.block i hl)) (fun i hi _=>Nat.le_of_lt hi.1) _ _ hn1
   have hS9:Spr gp bt v L (((w2.setCell ⟨w.heap.size,0,none⟩ (.string o1)).setCell ⟨w.heap.size,1,none⟩ (.string t1)).setCell ⟨w.heap.size,2,none⟩ (.slice A1 k1 c1)) l' b' :=
    (HC.out.st.below hb2).keep (qa8 (by omega) _ _ _) (qa8 (by omega) _ _ _) (by simp[World.setCell])
   have hZ:=q2g hcr (.string o1) (.string t1) (.slice A1 k1 c1)
   have hF:Fr gp w.heap.size w (((w2.setCell ⟨w.heap.size,0,none⟩ (.string o1)).setCell ⟨w.heap.size,1,none⟩ (.string t1)).setCell ⟨w.heap.size,2,none⟩ (.slice A1 k1 c1)) :=
    (HC.out.fr.trans (Fr.of hb2) HC.out.fr.size).trans (Fr.of ((((Below.refl w.heap.size w2).setCell (Nat.le_refl _) _).setCell (Nat.le_refl _) _).setCell (Nat.le_refl _) _)) (Nat.le_refl _)
   clear hv hn1 hr hcl hcr hb2
   go_wp2_with fail
   generalize(((w2.setCell ⟨w.heap.size,0,none⟩ (.string o1)).setCell ⟨w.heap.size,1,none⟩ (.string t1)).setCell ⟨w.heap.size,2,none⟩ (.slice A1 k1 c1))=W9 at hZ hN hS9 hF ⊢
   obtain⟨z0,z1,z2,_⟩:=c3 hZ
   refine bodyPost_ret (v := .agg #[.string o1,.string t1,.slice A1 k1 c1]) (by simp[results,Tryz.results91,go_sem,z0,z1,z2]) rfl ?_
   rw[←HE.out]
   exact⟨_,rfl,hN,hS9,hF⟩
  |some y =>
   obtain⟨o,r⟩:=y
   rw[hx] at HT
   obtain⟨rfl,ho,rfl⟩:=qfs hx
   have heq:Q m (10+k) (.bin o x (Q m (k+1) .bad r false).t) (Q m (k+1) .bad r false).r (Q m (k+1) .bad r false).b=R:=by have:=hc.eq;rw[q8w,hx] at this;exact this
   have hfu:=hc.fuel
   have HE:=hid heq;clear heq hx hc
   simp only[List.length_cons] at hfu hlen
   go_wp2_with fail
   (with_reducible refine HT.out.mono ?_)
   rintro e w2⟨rfl,hb2⟩
   have HTk:=hid (qmo (HC.out.st.below hb2))
   have HB2:=hid hb2
   clear hb2
   go_wp2_with fail
   (with_reducible refine HTk.out.mono ?_)
   rintro e w3⟨rfl,hs3,hf3⟩
   unfold sv
   obtain⟨o1,t1,A1,k1,c1,hv,hn1⟩:=HC.out.var
   have F3:Fr gp wr.heap.size wr w3:=(Fr.of HB2.out).trans hf3 HB2.out.size
   have hlv:=qac hv
   have hcl:w3.heap[w1.heap.size]? = some _:=(F3.block _ hlv (by omega)).trans hv
   have hlc:=qac hcl
   unfold ro at hcl
   obtain⟨q0,q1,q2,qf⟩:=c3 hcl
   have HN:=hid hn1
   have HS3:=hid hs3
   have HF3:=hid F3
   have HCL:=hid hcl
   have HV:=hid hv
   have HQ:Hid (Calls Tryz.prog 91 #[.pointer (some ⟨gp,0,none⟩),.int .i64 ((k:Int)+1)] w3.drew (PoR gp bt v L w3.drew (Q m (k+1) .bad r false))):=hid
    (HL.out w3.drew r m (by omega) (HS3.out.keep rfl rfl (Nat.le_refl _)) (by omega))
   clear hs3 hf3 hv hn1 hcl F3
   have hrl:=qn5 m (k+1) .bad r false
   have hwk:IntKind.i64.wrap ((k:Int)+1)=(k:Int)+1:=by rw[IntKind.wrap_i64];omega
   go_wp2_with fail
   go_region_with (first
    |(go_at_call 91;(with_reducible refine HQ.out.mono ?_);rintro e w4 ⟨xv,rfl,hx4,hs4,hf4⟩;obtain⟨o2,t2,A2,k2,c2,rfl⟩:=hx4.form;obtain⟨y0,y1,y2,yf⟩:=c3 ((hf4.block w1.heap.size (qac HCL.out) (by omega)).trans HCL.out);have yl:w1.heap.size<w4.heap.size:=Nat.lt_of_lt_of_le (qac HCL.out) hf4.size))
   all_goals
    have f4:Fr gp w3.heap.size w3 w4:=⟨hf4.os,hf4.tape,hf4.output,hf4.size,hf4.block⟩
    have hx4':Rd (w3.heap.size ≤ ·) w4 (Q m (k+1) .bad r false).t (.agg #[.string o2,.string t2,.slice A2 k2 c2]):=hx4
    have HX4:=hid (And.intro f4 (And.intro hs4 hx4'))
    clear hf4 hx4 hs4 f4 hx4'
    have hJ:=ChR.step (y:=Q m (k+1) .bad r false) HC.out hgp hbt hg1 hgw1 (Nat.lt_of_lt_of_le hgw1 (Nat.le_of_lt (qac HV.out))) rfl HV.out HN.out HF3.out HX4.out.1 HX4.out.2.1 HX4.out.2.2 HE.out hrl
    rw[World.setCell_alloc_past _ _ _ _ yl,World.setCell_alloc_past _ _ _ _ (by rw[szc];exact yl),World.setCell_alloc_past _ _ _ _ (by rw[szc,szc];exact yl)] at hJ
    have JN:=hid hJ
    clear hJ
    go_roundw
    case rel=>exact⟨_,_,_,_,_,_,_,_,_,_,_,_,_,_,hid ⟨m,_,_,_,by omega,JN.out⟩,rfl⟩
    case measure =>
     have h1:=JN.out.st.at_
     have h3 : ∀ a b:Nat,a=(Q m (k+1) .bad r false).r.length→b=r.length+1→a<b:=by omega
     exact h3 _ _ h1 hlen
end Go.Proofs.YtldkgbnmaefaaaaGreatDoor.Fo
namespace Go.Proofs.YtldkgbnmaefaaaaGreatDoor.Fo
open Go.RowKit Go.Proofs.YtldkgbnmaefaaaaGreatDoor.Nu
set_option linter.unusedVariables false
set_option linter.unusedSimpArgs false
section
variable {gp bt:Nat} {v:Value} {L r:List Tok} {b:Bool} {w W:World} {T:T} {t:TypeId}
theorem qe3{c0 c1 c2:Value}(hr:W.heap[w.heap.size]? = some (.cells #[c0,c1,c2] t))(hgp:gp<w.heap.size)(hbt:bt<w.heap.size)(hs:Spr gp bt v L W r b)(hF:Fr gp w.heap.size w W)
  {o1 t1:ByteArray} {A1:Option Addr} {k1 d1:Nat} (hR:Rd (fun i=>w.heap.size<i) W T (.agg #[.string o1,.string t1,.slice A1 k1 d1])) :
  (((W.setCell ⟨w.heap.size,0,none⟩ (.string o1)).setCell ⟨w.heap.size,1,none⟩ (.string t1)).setCell ⟨w.heap.size,2,none⟩ (.slice A1 k1 d1)).heap[w.heap.size]? = some (.cells #[.string o1,.string t1,.slice A1 k1 d1] t) ∧
  PoR gp bt v L w ⟨T,r,b⟩ (.returned (.agg #[.string o1,.string t1,.slice A1 k1 d1])) (((W.setCell ⟨w.heap.size,0,none⟩ (.string o1)).setCell ⟨w.heap.size,1,none⟩ (.string t1)).setCell ⟨w.heap.size,2,none⟩ (.slice A1 k1 d1)) :=
 ⟨q2g hr _ _ _,_,rfl,Rd.keep (X:=fun i=>w.heap.size<i) (fun i hi hl=>qa8 (by omega) _ _ _) (fun i hi _=>Nat.le_of_lt hi) _ _ hR,
  hs.keep (qa8 (by omega) _ _ _) (qa8 (by omega) _ _ _) (by simp[World.setCell]),
  hF.trans (Fr.of ((((Below.refl w.heap.size W).setCell (Nat.le_refl _) _).setCell (Nat.le_refl _) _).setCell (Nat.le_refl _) _)) (Nat.le_refl _)⟩
end
theorem xbo{X:Nat→Prop}{w4:World}{x y:T}(o:Tok){o1 t1 o2 t2:ByteArray}{A1 A2:Option Addr}{k1 c1 k2 c2:Nat}(hX:X w4.heap.size)(hx:Rd X w4 x (.agg #[.string o1,.string t1,.slice A1 k1 c1]))(hy:Rd X w4 y (.agg #[.string o2,.string t2,.slice A2 k2 c2])) :
  Rd X (w4.alloc (qpz o1 t1 A1 k1 c1 o2 t2 A2 k2 c2)) (.bin o x y) (.agg #[.string ⟨o.toArray⟩,.string ⟨#[]⟩,.slice (some ⟨w4.heap.size,0,none⟩) 2 2]) :=
 have B:Below w4.heap.size w4 (w4.alloc (qpz o1 t1 A1 k1 c1 o2 t2 A2 k2 c2)):=(Below.refl _ _).alloc (Nat.le_refl _) _
 ⟨w4.heap.size,_,_,_,_,_,_,_,rfl,hX,qaj _ _,hx.below B,hy.below B⟩
theorem xd2{X:Nat→Prop}{w4:World}{x:T}(o:Tok){o1 t1:ByteArray}{A1:Option Addr}{k1 c1:Nat}(hX:X w4.heap.size)(hx:Rd X w4 x (.agg #[.string o1,.string t1,.slice A1 k1 c1])) :
  Rd X (w4.alloc (ro o1 t1 A1 k1 c1)) (.un o x) (.agg #[.string ⟨o.toArray⟩,.string ⟨#[]⟩,.slice (some ⟨w4.heap.size,0,none⟩) 1 1]) :=
 have B:Below w4.heap.size w4 (w4.alloc (ro o1 t1 A1 k1 c1)):=(Below.refl _ _).alloc (Nat.le_refl _) _
 ⟨w4.heap.size,_,_,_,_,rfl,hX,qaj _ _,hx.below B⟩
structure Op1 (gp bt:Nat) (v:Value) (L:List Tok) (w:World) (c:Nat) (x:T) (W:World) (o1 t1:ByteArray) (A1:Option Addr) (k1 c1:Nat) (l:List Tok) (b:Bool):Prop where
 st:Spr gp bt v L W l b
 res:W.heap[w.heap.size]? = some zno
 var:W.heap[c]? = some (ro o1 t1 A1 k1 c1)
 rd:Rd (fun i=>w.heap.size<i) W x (.agg #[.string o1,.string t1,.slice A1 k1 c1])
 fr:Fr gp w.heap.size w W
 lt:w.heap.size<c
section
variable {gp bt c:Nat} {v:Value} {L l:List Tok} {b:Bool} {w W W':World} {x:T} {o1 t1:ByteArray} {A1:Option Addr} {k1 c1:Nat}
theorem Op1.below(h:Op1 gp bt v L w c x W o1 t1 A1 k1 c1 l b)(hb:Below W.heap.size W W'):Op1 gp bt v L w c x W' o1 t1 A1 k1 c1 l b :=
 ⟨h.st.below hb,(hb.block _ (qac h.res)).trans h.res,(hb.block _ (qac h.var)).trans h.var,h.rd.below hb,h.fr.trans (Fr.of hb) h.fr.size,h.lt⟩
theorem Op1.fr'(h:Op1 gp bt v L w c x W o1 t1 A1 k1 c1 l b)(hgp:gp<w.heap.size)(hb:Fr gp W.heap.size W W'){l':List Tok}{b':Bool}(hs:Spr gp bt v L W' l' b'):Op1 gp bt v L w c x W' o1 t1 A1 k1 c1 l' b' :=
 ⟨hs,(hb.block _ (qac h.res) (by omega)).trans h.res,(hb.block _ (qac h.var) (by have:=h.lt;omega)).trans h.var,Rd.keep (X:=fun i=>w.heap.size<i) (fun i hi hl=>hb.block i hl (by omega)) (fun _ h _=>h) _ _ h.rd,h.fr.trans hb h.fr.size,h.lt⟩
end
section
variable {gp bt c:Nat} {v:Value} {L r:List Tok} {b:Bool} {w w4:World} {x y:T} {o1 t1 o2 t2:ByteArray} {A1 A2:Option Addr} {k1 c1 k2 c2:Nat}
theorem quc(o:Tok)(h:Op1 gp bt v L w c x w4 o1 t1 A1 k1 c1 r b)(hy:Rd (fun i=>w.heap.size<i) w4 y (.agg #[.string o2,.string t2,.slice A2 k2 c2]))(hgp:gp<w.heap.size)(hbt:bt<w.heap.size) :
  ((((w4.setCell ⟨w.heap.size,0,none⟩ (.string ⟨o.toArray⟩)).setCell ⟨w.heap.size,1,none⟩ (.string ⟨#[]⟩)).setCell ⟨w.heap.size,2,none⟩ (.slice (some ⟨w4.heap.size,0,none⟩) 2 2)).alloc (qpz o1 t1 A1 k1 c1 o2 t2 A2 k2 c2)).heap[w.heap.size]? = some (.cells #[.string ⟨o.toArray⟩,.string ⟨#[]⟩,.slice (some ⟨w4.heap.size,0,none⟩) 2 2] 86) ∧
  PoR gp bt v L w ⟨.bin o x y,r,b⟩ (.returned (.agg #[.string ⟨o.toArray⟩,.string ⟨#[]⟩,.slice (some ⟨w4.heap.size,0,none⟩) 2 2])) ((((w4.setCell ⟨w.heap.size,0,none⟩ (.string ⟨o.toArray⟩)).setCell ⟨w.heap.size,1,none⟩ (.string ⟨#[]⟩)).setCell ⟨w.heap.size,2,none⟩ (.slice (some ⟨w4.heap.size,0,none⟩) 2 2)).alloc (qpz o1 t1 A1 k1 c1 o2 t2 A2 k2 c2)):=by
 have hl:=qac h.res
 have hP:=qe3 (qbq h.res (qpz o1 t1 A1 k1 c1 o2 t2 A2 k2 c2)) hgp hbt (h.st.alloc _) (h.fr.alloc (Nat.le_of_lt hl) _) (xbo o hl h.rd hy)
 rwa [World.setCell_alloc_past _ _ _ _ hl,World.setCell_alloc_past _ _ _ _ (by rw[szc];exact hl),World.setCell_alloc_past _ _ _ _ (by rw[szc,szc];exact hl)] at hP
theorem qub(o:Tok)(hr:w4.heap[w.heap.size]? = some zno)(hs:Spr gp bt v L w4 r b)(hF:Fr gp w.heap.size w w4)(hx:Rd (fun i=>w.heap.size<i) w4 x (.agg #[.string o1,.string t1,.slice A1 k1 c1]))(hgp:gp<w.heap.size)(hbt:bt<w.heap.size) :
  ((((w4.setCell ⟨w.heap.size,0,none⟩ (.string ⟨o.toArray⟩)).setCell ⟨w.heap.size,1,none⟩ (.string ⟨#[]⟩)).setCell ⟨w.heap.size,2,none⟩ (.slice (some ⟨w4.heap.size,0,none⟩) 1 1)).alloc (ro o1 t1 A1 k1 c1)).heap[w.heap.size]? = some (.cells #[.string ⟨o.toArray⟩,.string ⟨#[]⟩,.slice (some ⟨w4.heap.size,0,none⟩) 1 1] 86) ∧
  PoR gp bt v L w ⟨.un o x,r,b⟩ (.returned (.agg #[.string ⟨o.toArray⟩,.string ⟨#[]⟩,.slice (some ⟨w4.heap.size,0,none⟩) 1 1])) ((((w4.setCell ⟨w.heap.size,0,none⟩ (.string ⟨o.toArray⟩)).setCell ⟨w.heap.size,1,none⟩ (.string ⟨#[]⟩)).setCell ⟨w.heap.size,2,none⟩ (.slice (some ⟨w4.heap.size,0,none⟩) 1 1)).alloc (ro o1 t1 A1 k1 c1)):=by
 have hl:=qac hr
 have hP:=qe3 (qbq hr (ro o1 t1 A1 k1 c1)) hgp hbt (hs.alloc _) (hF.alloc (Nat.le_of_lt hl) _) (xd2 o hl hx)
 rwa [World.setCell_alloc_past _ _ _ _ hl,World.setCell_alloc_past _ _ _ _ (by rw[szc];exact hl),World.setCell_alloc_past _ _ _ _ (by rw[szc,szc];exact hl)] at hP
end
theorem qj2(m:Nat)(hf:LvL m 3):LvF 146 (m+1) 2:=by
 intro gp bt v L w l h hn
 have hgp:=h.lt
 have hbt:=h.lb
 have hQ:=Q_2 m .bad l false
 have hrl:=qn5 m 3 .bad l false
 have hz1:(w.alloc zno).heap.size=w.heap.size+1:=World.size_alloc _ _
 have HL:Hid (Calls Tryz.prog 91 #[.pointer (some ⟨gp,0,none⟩),.int .i64 3] (w.alloc zno) (PoR gp bt v L (w.alloc zno) (Q m 3 .bad l false))):=hid (hf gp bt v L (w.alloc zno) l (h.alloc _) (by omega))
 obtain⟨Y,hY⟩ : ∃ Y,Q m 3 .bad l false=Y:=⟨_,rfl⟩
 rw[hY] at hQ hrl HL
 generalize Q (m+1) 2 .bad l false=RR at hQ ⊢
 have HQ:=hid hQ
 have HF:=hid hf
 clear h hQ hY hf
 go_enter Tryz.func146,Tryz.ntmps146
 go_wp2_with fail
 (with_reducible refine HL.out.mono ?_)
 rintro e w1⟨xv,rfl,hx,hs,hf1⟩
 obtain⟨o1,t1,A1,k1,c1,rfl⟩:=hx.form
 have hsz:=hf1.size
 rw[hz1] at hsz
 have hO:Op1 gp bt v L w w1.heap.size Y.t ((w1.alloc (ro o1 t1 A1 k1 c1)).alloc (row qj1 9)) o1 t1 A1 k1 c1 Y.r Y.b:=by
  refine Op1.below ⟨hs.alloc _,qbq ((hf1.block _ (by omega) (by omega)).trans (qaj w zno)) _,qaj _ _,?_,((Fr.of ((Below.refl w.heap.size w).alloc (Nat.le_refl _) _)).trans hf1 (by omega)).alloc (by omega) _,by omega⟩ ((Below.refl _ _).alloc (Nat.le_refl _) _)
  exact Rd.keep (X:=fun i=>(w.alloc zno).heap.size≤i) (fun i _ hl=>Below.heap_alloc _ _ _ hl) (fun i hi _=>by rw[hz1] at hi;omega) _ _ hx
 have HT:=hid (qnq hO.st (w1.heap.size+1) qj1 (row_of (t:=9) (qgr (by simp) _)) (by decide))
 rw[show(qj1:List Tok).length=6 from rfl] at HT
 have HO:=hid hO
 clear hx hs hf1 hO
 unfold row sv at HT HO
 simp only[qj1,List.map_cons,List.map_nil] at HT HO
 unfold ro at HT
 cases hq:qdt [[61],[60,62],[60],[62],[60,61],[62,61]] Y.r Y.b with
 |none =>
  have HE:Hid (RR=Y):=hid (by rw[HQ.out,show qj1=[[61],[60,62],[60],[62],[60,61],[62,61]] from rfl,hq])
  rw[hq] at HT
  go_wp2_with fail
  (with_reducible refine HT.out.mono ?_)
  rintro e w2⟨rfl,hb2⟩
  have hO2:=HO.out.below hb2
  obtain⟨p0,p1,p2,pf⟩:=c3 hO2.res
  have pf0:=pf 0;have pf1:=pf 1;have pf2:=pf 2
  have hv2:=hO2.var
  unfold ro at hv2
  obtain⟨q0,q1,q2,qf⟩:=c3 hv2
  have hlr:=qac hO2.res
  have hlv:=qac hv2
  have hP:=qe3 hO2.res hgp hbt hO2.st hO2.fr hO2.rd
  have HP:=hid hP
  clear hb2 hO2 hv2 hP
  go_wp2_with fail
  obtain⟨hz,hp⟩:=HP.out
  generalize(((w2.setCell ⟨w.heap.size,0,none⟩ (.string o1)).setCell ⟨w.heap.size,1,none⟩ (.string t1)).setCell ⟨w.heap.size,2,none⟩ (.slice A1 k1 c1))=W9 at hz hp ⊢
  obtain⟨z0,z1,z2,_⟩:=c3 hz
  refine bodyPost_ret (v := .agg #[.string o1,.string t1,.slice A1 k1 c1]) (by simp[results,Tryz.results146,go_sem,z0,z1,z2]) rfl ?_
  rw[HE.out]
  exact hp
 |some y =>
  obtain⟨o,r⟩:=y
  rw[hq] at HT
  obtain⟨hl,ho,hb⟩:=qfs hq
  have HE:Hid (RR=⟨.bin o Y.t (Q m 3 .bad r false).t,(Q m 3 .bad r false).r,(Q m 3 .bad r false).b⟩):=hid (by rw[HQ.out,show qj1=[[61],[60,62],[60],[62],[60,61],[62,61]] from rfl,hq];simp only[hb])
  have hlen:r.length+1≤l.length:=by rw[hl] at hrl;simpa using hrl
  rw[hl,hb] at HO
  clear hq hl hb
  go_wp2_with fail
  (with_reducible refine HT.out.mono ?_)
  rintro e w2⟨rfl,hb2⟩
  have hO2:=HO.out.below hb2
  have HTk:=hid (qmo hO2.st)
  have HO2:=hid hO2
  clear hb2 hO2
  go_wp2_with fail
  (with_reducible refine HTk.out.mono ?_)
  rintro e w3⟨rfl,hs3,hf3⟩
  unfold sv
  have hO3:=HO2.out.fr' hgp hf3 hs3
  have hv3:=hO3.var
  unfold ro at hv3
  obtain⟨q0,q1,q2,qf⟩:=c3 hv3
  have hlv:=qac hv3
  have HO3:=hid hO3
  have HQ3:Hid (Calls Tryz.prog 91 #[.pointer (some ⟨gp,0,none⟩),.int .i64 3] w3.drew (PoR gp bt v L w3.drew (Q m 3 .bad r false))):=hid
    (HF.out gp bt v L w3.drew r (hs3.keep rfl rfl (Nat.le_refl _)) (by omega))
  clear hs3 hf3 hO3 hv3
  go_wp2_with fail
  go_region_with (first
   |(go_at_call 91;(with_reducible refine HQ3.out.mono ?_);rintro e w4 ⟨xv,rfl,hx4,hs4,hf4⟩;obtain⟨o2,t2,A2,k2,c2,rfl⟩:=hx4.form
     have hO4:=HO3.out.fr' hgp (W':=w4) ⟨hf4.os,hf4.tape,hf4.output,hf4.size,hf4.block⟩ hs4
     obtain⟨y0,y1,y2,yf⟩:=c3 (show w4.heap[w1.heap.size]? = some (.cells #[.string o1,.string t1,.slice A1 k1 c1] 86) from hO4.var)
     obtain⟨p0,p1,p2,pf⟩:=c3 hO4.res
     have pf0:=pf 0;have pf1:=pf 1;have pf2:=pf 2
     have hl4:=qac hO4.res
     have hl5:=qac hO4.var))
  all_goals
   have hy:=Rd.imp (X':=fun i=>w.heap.size<i) hx4 (fun i hi=>Nat.lt_of_lt_of_le (qac HO3.out.res) hi)
   have HP:=hid (quc o hO4 hy hgp hbt)
   clear hy hO4 hx4 hs4 hf4 y0 y1 y2 yf p0 p1 p2 pf pf0 pf1 pf2
   go_wp2_with fail
   obtain⟨hz,hp⟩:=HP.out
   generalize((((w4.setCell ⟨w.heap.size,0,none⟩ (.string ⟨o.toArray⟩)).setCell ⟨w.heap.size,1,none⟩ (.string ⟨#[]⟩)).setCell ⟨w.heap.size,2,none⟩ (.slice (some ⟨w4.heap.size,0,none⟩) 2 2)).alloc (qpz o1 t1 A1 k1 c1 o2 t2 A2 k2 c2))=W9 at hz hp ⊢
   obtain⟨z0,z1,z2,_⟩:=c3 hz
   refine bodyPost_ret (v := .agg #[.string ⟨o.toArray⟩,.string ⟨#[]⟩,.slice (some ⟨w4.heap.size,0,none⟩) 2 2]) (by simp[results,Tryz.results146,go_sem,z0,z1,z2]) rfl ?_
   rw[HE.out]
   exact hp
end Go.Proofs.YtldkgbnmaefaaaaGreatDoor.Fo
