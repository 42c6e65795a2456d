import Derived.Test.YtldkgbnmaefaaaaGreatDoorFoG1
import Derived.Test.YtldkgbnmaefaaaaGreatDoorChecked
import Derived.WalkKit
import Derived.WalkSpells
import Derived.WalkLawsBesides
import Derived.Outline
import Derived.Deep.QuietTactic
import Derived.BigQuiet
import Derived.Lib.Hide
import Derived.IntWalk
import Derived.Test.YtldkgbnmaefaaaaGreatDoorShelf
import Derived.Lib.SlicesS
import Derived.Deep.RegionWith
set_option maxRecDepth 100000
set_option maxHeartbeats 4000000
open Go.Lib (hid)
namespace Go.Proofs.YtldkgbnmaefaaaaGreatDoor.Fo
open Go.RowKit Go.Proofs.YtldkgbnmaefaaaaGreatDoor.Nu
set_option linter.unusedVariables false
structure Fr (gp n:Nat) (w w':World):Prop where
 os:w'.os=w.os
 tape:w'.tape=w.tape
 output:w'.output=w.output
 size:w.heap.size≤w'.heap.size
 block : ∀ k,k<n→k≠gp→w'.heap[k]? = w.heap[k]?
section
variable {gp n m:Nat} {w w' w'':World}
theorem Fr.refl(gp n:Nat)(w:World):Fr gp n w w:=⟨rfl,rfl,rfl,Nat.le_refl _,fun _ _ _=>rfl⟩
theorem Fr.of(h:Below n w w'):Fr gp n w w':=⟨h.os,h.tape,h.output,h.size,fun k hk _=>h.block k hk⟩
theorem Fr.mono(h:Fr gp n w w')(hm:m≤n):Fr gp m w w':=⟨h.os,h.tape,h.output,h.size,fun k hk hg=>h.block k (Nat.lt_of_lt_of_le hk hm) hg⟩
theorem Fr.trans(h:Fr gp n w w')(k:Fr gp m w' w'')(hm:n≤m):Fr gp n w w'' :=
 ⟨k.os.trans h.os,k.tape.trans h.tape,k.output.trans h.output,Nat.le_trans h.size k.size,fun i hi hg=>(k.block i (Nat.lt_of_lt_of_le hi hm) hg).trans (h.block i hi hg)⟩
theorem Fr.cell(h:Fr gp n w w'){b:Nat}(hb:b<n)(hg:b≠gp)(o:Nat)(r:Option Nat):w'.cell? ⟨b,o,none⟩=w.cell? ⟨b,o,none⟩:=World.cell?_of_block (w:=w) (h.block b hb hg)
theorem Fr.setCell(n:Nat)(w:World)(o:Nat)(v:Value):Fr gp n w (w.setCell ⟨gp,o,none⟩ v) :=
 ⟨rfl,rfl,rfl,by simp[World.setCell],fun k _ hg=>Below.heap_setCell _ _ _ _ hg⟩
theorem Fr.below(h:Fr gp n w w')(hg:n≤gp):Below n w w':=⟨h.os,h.tape,h.output,h.size,fun k hk=>h.block k hk (by omega)⟩
end
theorem qac{W:World}{g:Nat}{o:Obj}(h:W.heap[g]? = some o):g<W.heap.size:=(Array.getElem?_eq_some_iff.1 h).1
def sv(t:Tok):Value := .string ⟨t.toArray⟩
def xcx(v:Value)(b:Bool):Obj := .cells #[v,.bool b] 218
def TS(bt:Nat)(w:World)(v:Value)(l:List Tok):Prop :=
 ∃ A c,v=.slice A l.length c∧l.length≤c∧c≤9223372036854775807∧(0<l.length → ∃ o,A=some ⟨bt,o,none⟩ ∧ ∀ j t,l[j]? = some t→w.cell? ⟨bt,o+j,none⟩=some (sv t))
def Nd(X:Nat→Prop)(w:World):T→Value→Prop
 | .bad,v=>v=.agg #[.string ⟨#[]⟩,.slice none 0 0,.int .i64 0]
 | .num s,v=>v=.agg #[sv s,.slice none 0 0,.int .i64 1]
 | .un o x,v => ∃ g t a b c,v=.agg #[sv o,.slice (some ⟨g,0,none⟩) 1 1,.int .i64 ((x.lv+1:Nat):Int)]∧X g∧w.heap[g]? = some (.cells #[a,b,c] t)∧Nd X w x (.agg #[a,b,c])
 | .bin o x y,v => ∃ g t a b c a' b' c',v=.agg #[sv o,.slice (some ⟨g,0,none⟩) 2 2,.int .i64 ((max x.lv y.lv+1:Nat):Int)]∧X g∧w.heap[g]? = some (.cells #[a,b,c,a',b',c'] t)∧Nd X w x (.agg #[a,b,c])∧Nd X w y (.agg #[a',b',c'])
structure St (gp bt:Nat) (w:World) (v:Value) (l:List Tok) (b:Bool):Prop where
 o:w.heap[gp]? = some (xcx v b)
 t:TS bt w v l
 ne:bt≠gp
 lb:bt<w.heap.size
 nz : ∀ t∈l,0<t.length∧t.length≤19
section
variable {gp bt n:Nat} {w w':World} {v:Value} {l:List Tok} {b:Bool}
theorem TS.keep(h:TS bt w v l)(k:w'.heap[bt]? = w.heap[bt]?):TS bt w' v l:=by
 obtain⟨A,c,h1,h2,h3,h4⟩:=h
 refine⟨A,c,h1,h2,h3,fun h0 => ?_⟩
 obtain⟨o,e,hc⟩:=h4 h0
 refine⟨o,e,fun j t hj => ?_⟩
 rw[World.cell?_of_block (w:=w) k];exact hc j t hj
theorem Nd.keep{X X':Nat→Prop}(k : ∀ i,X i→i<w.heap.size→w'.heap[i]? = w.heap[i]?)(hX : ∀ i,X i→i<w.heap.size→X' i) : ∀ (x:T) (v:Value),Nd X w x v→Nd X' w' x v
 | .bad,_,h=>h
 | .num _,_,h=>h
 | .un o x,v,⟨g,t,a,b,c,e,hg,hc,hx⟩=>⟨g,t,a,b,c,e,hX g hg (qac hc),(k g hg (qac hc)).trans hc,Nd.keep k hX x _ hx⟩
 | .bin o x y,v,⟨g,t,a,b,c,a',b',c',e,hg,hc,hx,hy⟩=>⟨g,t,a,b,c,a',b',c',e,hX g hg (qac hc),(k g hg (qac hc)).trans hc,Nd.keep k hX x _ hx,Nd.keep k hX y _ hy⟩
theorem Nd.imp{X X':Nat→Prop}{x:T}{v:Value}(h:Nd X w x v)(hX : ∀ i,X i→X' i):Nd X' w x v:=Nd.keep (fun _ _ _=>rfl) (fun i h _=>hX i h) x v h
theorem Nd.fr{X:Nat→Prop}{x:T}{v:Value}(h:Nd X w x v)(hX : ∀ i,X i→i≠gp)(k:Fr gp w.heap.size w w'):Nd X w' x v:=Nd.keep (fun i hi hl=>k.block i hl (hX i hi)) (fun _ h _=>h) x v h
theorem Nd.below{X:Nat→Prop}{x:T}{v:Value}(h:Nd X w x v)(k:Below w.heap.size w w'):Nd X w' x v:=Nd.keep (fun i hi hl=>k.block i hl) (fun _ h _=>h) x v h
theorem Nd.form{X:Nat→Prop} : ∀ {x:T} {v:Value},Nd X w x v → ∃ o A k c,v=.agg #[.string o,.slice A k c,.int .i64 (x.lv:Int)]
 | .bad,_,h=>⟨_,_,_,_,h⟩
 | .num _,_,h=>⟨_,_,_,_,h⟩
 | .un _ _,_,⟨_,_,_,_,_,e,_⟩=>⟨_,_,_,_,e⟩
 | .bin _ _ _,_,⟨_,_,_,_,_,_,_,_,e,_⟩=>⟨_,_,_,_,e⟩
theorem St.lt(h:St gp bt w v l b):gp<w.heap.size:=qac h.o
theorem St.keep(h:St gp bt w v l b)(k:w'.heap[bt]? = w.heap[bt]?)(k2:w'.heap[gp]? = w.heap[gp]?)(hz:w.heap.size≤w'.heap.size):St gp bt w' v l b:=⟨k2.trans h.o,h.t.keep k,h.ne,Nat.lt_of_lt_of_le h.lb hz,h.nz⟩
theorem St.below(h:St gp bt w v l b)(k:Below w.heap.size w w'):St gp bt w' v l b:=h.keep (k.block _ h.lb) (k.block _ h.lt) k.size
theorem St.c0(h:St gp bt w v l b):w.cell? ⟨gp,0,none⟩=some v:=by unfold World.cell?;rw[h.o];rfl
theorem St.c1(h:St gp bt w v l b):w.cell? ⟨gp,1,none⟩=some (.bool b):=by unfold World.cell?;rw[h.o];rfl
theorem St.f(h:St gp bt w v l b)(o:Nat):w.frozen? ⟨gp,o,none⟩=false:=by unfold World.frozen?;rw[h.o];rfl
theorem St.set(h:St gp bt w v l b){u:Value}{r:List Tok}(hu:TS bt w u r)(hr : ∀ t∈r,t∈l):St gp bt (w.setCell ⟨gp,0,none⟩ u) u r b:=by
 refine⟨?_,hu.keep (Below.heap_setCell _ _ _ _ h.ne),h.ne,by simpa [World.setCell] using h.lb,fun t ht=>h.nz t (hr t ht)⟩
 simp only[World.setCell,Array.getElem?_modify,if_pos,h.o]
 rfl
theorem St.fail(h:St gp bt w v l b):St gp bt (w.setCell ⟨gp,1,none⟩ (.bool true)) v l true:=by
 refine⟨?_,h.t.keep (Below.heap_setCell _ _ _ _ h.ne),h.ne,by simpa [World.setCell] using h.lb,h.nz⟩
 simp only[World.setCell,Array.getElem?_modify,if_pos,h.o]
 rfl
theorem TS.tail{o:Tok}(h:TS bt w v (o :: l)) : ∃ a c,v=.slice (some ⟨bt,a,none⟩) (l.length+1) c∧l.length+1≤c∧c≤9223372036854775807∧w.cell? ⟨bt,a,none⟩=some (sv o)∧TS bt w (.slice (some ⟨bt,a+1,none⟩) l.length (c-1)) l:=by
 obtain⟨A,c,h1,h2,h3,h4⟩:=h
 obtain⟨a,e,hc⟩:=h4 (by simp)
 simp only[List.length_cons] at h1 h2
 refine⟨a,c,by rw[h1,e],h2,h3,hc 0 o rfl,_,_,rfl,by omega,by omega,fun _=>⟨a+1,rfl,fun j t hj => ?_⟩⟩
 have:=hc (j+1) t (by simpa using hj)
 rwa [show a+(j+1)=a+1+j by omega] at this
theorem TS.none0{A:Option Addr}(h:l.length=0):TS bt w (.slice A l.length 0) l:=⟨A,0,rfl,by omega,by omega,fun h0=>absurd h (by omega)⟩
theorem TS.nil(h:TS bt w v []) : ∃ A c,v=.slice A 0 c:=by
 obtain⟨A,c,h1,h2,h3,h4⟩:=h;exact⟨A,c,h1⟩
end
end Go.Proofs.YtldkgbnmaefaaaaGreatDoor.Fo
namespace Go.Proofs.YtldkgbnmaefaaaaGreatDoor.Fo
open Go.RowKit Go.Proofs.YtldkgbnmaefaaaaGreatDoor.Nu
set_option linter.unusedVariables false
set_option linter.unusedSimpArgs false
def bs(t:Tok):ByteArray:=⟨t.toArray⟩
theorem qb4{a b:Tok}(h:bs a=bs b):a=b:=by
 have:=congrArg (fun x:ByteArray=>x.data.toList) h
 simpa [bs] using this
theorem q1r{t:Tok}{S:List Tok}:bs t∈S.map bs↔t∈S:=by
 rw[List.mem_map]
 exact⟨fun⟨a,h,e⟩=>qb4 e▸h,fun h=>⟨t,h,rfl⟩⟩
theorem qoi(t:Tok)(S:List Tok):Lib.containsS ((S.map bs).take S.length) (bs t)=decide (t∈S):=by
 rw[List.take_of_length_le (by simp)]
 by_cases h:t∈S
 ·rw[decide_eq_true h];exact(Lib.containsS_iff _ _).2 (q1r.2 h)
 ·rw[decide_eq_false h]
  cases hc:Lib.containsS (S.map bs) (bs t) with
  |false=>rfl
  |true=>exact absurd (q1r.1 ((Lib.containsS_iff _ _).1 hc)) h
theorem qmy(w:World)(g:Nat)(c:Nat)(S:List Tok)(t:Tok)(hS : ∀ j x,S[j]? = some x→w.cell? ⟨g,j,none⟩=some (sv x))(hl:S.length≤100) :
  Calls Tryz.prog 292 #[.slice (some ⟨g,0,none⟩) S.length c,sv t] w fun e w'=>e=.returned (.bool (decide (t∈S)))∧w'=w:=by
 refine(Tryz.slices_Contains_string g 0 S.length c (S.map bs) (bs t) w (by simp) (by omega) (fun j hj => ?_)).mono fun e w' ⟨h1,h2⟩=>⟨by rw[h1,qoi],h2⟩
 have hj':j<S.length:=by simpa using hj
 have:=hS j S[j] (List.getElem?_eq_getElem hj')
 rw[Nat.zero_add,this]
 simp[sv,bs,List.getD_eq_getElem?_getD,hj']
section
variable {gp bt:Nat} {w:World} {v:Value} {l:List Tok} {b:Bool}
def TkP(gp bt:Nat)(w:World)(v:Value)(l:List Tok)(b:Bool)(x:Option (Tok×List Tok))(e:Ending)(w':World):Prop:=match x with
 |none=>e=.returned (.tuple #[.string ⟨#[]⟩,.bool false])∧St gp bt w' v l b∧Fr gp w.heap.size w w'
 |some (o,r)=>e=.returned (.tuple #[sv o,.bool true]) ∧ ∃ u,St gp bt w' u r b∧Fr gp w.heap.size w w'
theorem qg7(h:St gp bt w v l b)(g:Nat)(S:List Tok)(hS : ∀ j x,S[j]? = some x→w.cell? ⟨g,j,none⟩=some (sv x))(hl:S.length≤100)(hL:l.length≤400) :
  Calls Tryz.prog 281 #[.pointer (some ⟨gp,0,none⟩),.slice (some ⟨g,0,none⟩) S.length S.length] w fun e w'=>TkP gp bt w v l b (next S l) e w':=by
 have h0:=h.c0
 have hf:=h.f 0
 cases l with
 |nil =>
  obtain⟨A,c,rfl⟩:=h.t.nil
  have H:=hid h;clear h
  go_enter Tryz.func281,Tryz.ntmps281
  go_wp2
  go_ret2
  exact⟨rfl,H.out,Fr.refl _ _ _⟩
 |cons o l =>
  obtain⟨a,c,rfl,h2,h3,h4,h5⟩:=h.t.tail
  have HC:=hid (fun t=>qmy w g S.length S t hS hl)
  have H:=hid h;have H5:=hid h5;clear h h5
  simp only[List.length_cons] at hL
  by_cases ho:o∈S
  ·have e1:next S (o :: l)=some (o,l):=if_pos ho
   rw[e1]
   have hd:decide (o∈S)=true:=decide_eq_true ho
   have HO:=hid hd;clear hd ho e1
   unfold sv at h4
   go_enter Tryz.func281,Tryz.ntmps281
   go_wp2_with fail
   refine(HC.out o).mono ?_
   rintro e w1⟨rfl,rfl⟩
   rw[HO.out]
   go_wp2
   all_goals
    go_ret2
    first
     |exact⟨rfl,_,H.out.set H5.out (fun _ q=>List.mem_cons_of_mem _ q),Fr.setCell _ _ _ _⟩
     |exact⟨rfl,_,H.out.set (TS.none0 (by omega)) (fun _ q=>List.mem_cons_of_mem _ q),Fr.setCell _ _ _ _⟩
  ·have e1:next S (o :: l)=none:=if_neg ho
   rw[e1]
   have hd:decide (o∈S)=false:=decide_eq_false ho
   have HO:=hid hd;clear hd ho e1
   unfold sv at h4
   go_enter Tryz.func281,Tryz.ntmps281
   go_wp2_with fail
   refine(HC.out o).mono ?_
   rintro e w1⟨rfl,rfl⟩
   rw[HO.out]
   go_wp2
   go_ret2
   exact⟨rfl,H.out,Fr.refl _ _ _⟩
theorem qaj(w:World)(o:Obj):(w.alloc o).heap[w.heap.size]? = some o:=by
 show(w.heap.push o)[w.heap.size]? = _
 rw[Array.getElem?_push,if_pos rfl]
def row(S:List Tok)(t:TypeId):Obj := .cells (S.map sv).toArray t
theorem qwg(w:World)(S:List Tok)(t:TypeId) : ∀ j x,S[j]? = some x→(w.alloc (row S t)).cell? ⟨w.heap.size,j,none⟩=some (sv x):=fun j x hj=>by
 unfold World.cell?
 rw[show(w.alloc (row S t)).heap[(⟨w.heap.size,j,none⟩:Addr).block]? = some (row S t) from qaj w _]
 simp[row,hj]
theorem St.alloc(h:St gp bt w v l b)(o:Obj):St gp bt (w.alloc o) v l b:=h.below ((Below.refl _ w).alloc (Nat.le_refl _) o)
theorem Fr.alloc{gp n:Nat}{w w':World}(h:Fr gp n w w')(hn:n≤w'.heap.size)(o:Obj):Fr gp n w (w'.alloc o):=h.trans (Fr.of ((Below.refl n w').alloc hn o)) (Nat.le_refl _)
def qt8(o:Tok)(l:List Tok):List Tok:=match next [o] l with
 |none=>l
 |some (_,r)=>r
def qsy(o:Tok)(l:List Tok):Bool:=(next [o] l).isNone
theorem qfp(h:St gp bt w v l b)(o:Tok)(hL:l.length≤400) :
  Calls Tryz.prog 301 #[.pointer (some ⟨gp,0,none⟩),sv o] w fun e w'=>e=.returned (.bool (!qsy o l))∧(∃ u,St gp bt w' u (qt8 o l) (qsy o l||b))∧Fr gp w.heap.size w w':=by
 obtain⟨w1,hw1⟩ : ∃ w1,w.alloc (row [o] 9)=w1:=⟨_,rfl⟩
 have h1:St gp bt w1 v l b:=hw1▸h.alloc _
 have HT:=hid (qg7 h1 w.heap.size [o] (hw1▸qwg w [o] _) (by simp) hL)
 have hB:Below w.heap.size w w1:=hw1▸(Below.refl _ w).alloc (Nat.le_refl _) _
 have HB:=hid hB
 clear hB h1 h
 unfold row sv at hw1
 simp only[List.map_cons,List.map_nil] at hw1
 unfold sv
 cases hx:next [o] l with
 |none =>
  have HX:=hid hx;clear hx
  go_enter Tryz.func301,Tryz.ntmps301
  go_wp2_with fail
  refine HT.out.mono ?_
  rintro e w2 hp
  rw[HX.out] at hp
  obtain⟨rfl,hs,hf⟩:=hp
  have hc:=hs.c1
  have hfz:=hs.f 1
  have HS:=hid hs;have HF:=hid hf;clear hs hf
  go_wp2
  go_ret
  have e1:qt8 o l=l:=by unfold qt8;rw[HX.out]
  have e2:qsy o l=true:=by unfold qsy;rw[HX.out];rfl
  rw[e1,e2]
  exact⟨rfl,⟨_,HS.out.fail⟩,((Fr.of HB.out).trans HF.out HB.out.size).trans (Fr.setCell _ _ _ _) (Nat.le_refl _)⟩
 |some y =>
  obtain⟨o',r⟩:=y
  have HX:=hid hx;clear hx
  go_enter Tryz.func301,Tryz.ntmps301
  go_wp2_with fail
  refine HT.out.mono ?_
  rintro e w2 hp
  rw[HX.out] at hp
  obtain⟨rfl,u,hs,hf⟩:=hp
  have HS:=hid hs;have HF:=hid hf;clear hs hf
  unfold sv
  go_wp2
  go_ret
  have e1:qt8 o l=r:=by unfold qt8;rw[HX.out]
  have e2:qsy o l=false:=by unfold qsy;rw[HX.out];rfl
  rw[e1,e2]
  exact⟨rfl,⟨_,HS.out⟩,(Fr.of HB.out).trans HF.out HB.out.size⟩
end
end Go.Proofs.YtldkgbnmaefaaaaGreatDoor.Fo
namespace Go.Proofs.YtldkgbnmaefaaaaGreatDoor.Fo
open Go.RowKit Go.Proofs.YtldkgbnmaefaaaaGreatDoor.Nu
set_option linter.unusedVariables false
set_option linter.unusedSimpArgs false
def mkv(o:Tok)(A:Option Addr)(k:Nat)(lv:Nat):Value := .agg #[sv o,.slice A k k,.int .i64 (lv:Int)]
theorem qr7(o:Tok)(w:World):Calls Tryz.prog 282 #[sv o,.slice none 0 0] w fun e w'=>e=.returned (mkv o none 0 1)∧Below w.heap.size w w':=by
 unfold sv
 go_enter Tryz.func282,Tryz.ntmps282
 go_wp2
 refine wp_loop_rounds 1 ?_
 rw[rounds_succ]
 go_wp2
 refine bodyPost_ret (v:=mkv _ _ _ _) (by simp[results,Tryz.results282,go_sem,mkv,sv]) rfl ⟨rfl,(Below.refl _ w).alloc (Nat.le_refl _) _⟩
theorem qkl(o:Tok)(w:World)(g:Nat)(t:TypeId)(oo:ByteArray)(A:Option Addr)(k c:Nat)(n:Nat)(h:w.heap[g]? = some (.cells #[.string oo,.slice A k c,.int .i64 (n:Int)] t))(hn:n≤1000) :
  Calls Tryz.prog 282 #[sv o,.slice (some ⟨g,0,none⟩) 1 1] w fun e w'=>e=.returned (mkv o (some ⟨g,0,none⟩) 1 (n+1))∧Below w.heap.size w w':=by
 have hg:=qac h
 have h0:w.cell? ⟨g,0,none⟩=some (.string oo):=by unfold World.cell?;rw[h];rfl
 have h1:w.cell? ⟨g,1,none⟩=some (.slice A k c):=by unfold World.cell?;rw[h];rfl
 have h2:w.cell? ⟨g,2,none⟩=some (.int .i64 (n:Int)):=by unfold World.cell?;rw[h];rfl
 clear h
 unfold sv
 go_enter Tryz.func282,Tryz.ntmps282
 go_wp2
 refine wp_loop_rounds 2 ?_
 rw[rounds_succ]
 go_wp2
 rw[rounds_succ]
 go_wp2
 refine bodyPost_ret (v:=mkv _ _ _ _) (by simp[results,Tryz.results282,go_sem,mkv,sv]) rfl ⟨rfl,(((Below.refl _ w).alloc (Nat.le_refl _) _)).alloc (by simp) _⟩
theorem qhs(o:Tok)(w:World)(g:Nat)(t:TypeId)(oo:ByteArray)(A:Option Addr)(k c:Nat)(n:Nat)(o2:ByteArray)(A2:Option Addr)(k2 c2:Nat)(n2:Nat)
  (h:w.heap[g]? = some (.cells #[.string oo,.slice A k c,.int .i64 (n:Int),.string o2,.slice A2 k2 c2,.int .i64 (n2:Int)] t)) (hn:n≤1000) (hn2:n2≤1000) :
  Calls Tryz.prog 282 #[sv o,.slice (some ⟨g,0,none⟩) 2 2] w fun e w'=>e=.returned (mkv o (some ⟨g,0,none⟩) 2 (max n n2+1))∧Below w.heap.size w w':=by
 have hg:=qac h
 have h0:w.cell? ⟨g,0,none⟩=some (.string oo):=by unfold World.cell?;rw[h];rfl
 have h1:w.cell? ⟨g,1,none⟩=some (.slice A k c):=by unfold World.cell?;rw[h];rfl
 have h2:w.cell? ⟨g,2,none⟩=some (.int .i64 (n:Int)):=by unfold World.cell?;rw[h];rfl
 have h3:w.cell? ⟨g,3,none⟩=some (.string o2):=by unfold World.cell?;rw[h];rfl
 have h4:w.cell? ⟨g,4,none⟩=some (.slice A2 k2 c2):=by unfold World.cell?;rw[h];rfl
 have h5:w.cell? ⟨g,5,none⟩=some (.int .i64 (n2:Int)):=by unfold World.cell?;rw[h];rfl
 clear h
 obtain⟨mx,hmx⟩ : ∃ m:Nat,max n n2=m:=⟨_,rfl⟩
 have hm1:max (n:Int) (n2:Int)=(mx:Int):=by omega
 have hm2:mx≤1000:=by omega
 rw[hmx]
 clear hmx
 unfold sv
 go_enter Tryz.func282,Tryz.ntmps282
 go_wp2
 refine wp_loop_rounds 3 ?_
 rw[rounds_succ]
 go_wp2
 rw[rounds_succ]
 go_wp2
 rw[rounds_succ]
 go_wp2
 refine bodyPost_ret (v:=mkv _ _ _ _) (by simp[results,Tryz.results282,go_sem,mkv,sv]) rfl ⟨rfl,((((Below.refl _ w).alloc (Nat.le_refl _) _)).alloc (by simp) _).alloc (by simp;omega) _⟩
end Go.Proofs.YtldkgbnmaefaaaaGreatDoor.Fo
namespace Go.Proofs.YtldkgbnmaefaaaaGreatDoor.Fo
open Go.RowKit Go.Proofs.YtldkgbnmaefaaaaGreatDoor.Nu
set_option linter.unusedVariables false
set_option linter.unusedSimpArgs false
def Post(gp bt:Nat)(w:World)(R:Res)(e:Ending)(w':World):Prop := ∃ x u,e=.returned x∧Nd (w.heap.size ≤ ·) w' R.t x∧St gp bt w' u R.r R.b∧Fr gp w.heap.size w w'
def Lv(f:FuncId)(n k:Nat):Prop := ∀ (gp bt:Nat) (w:World) (v:Value) (l:List Tok) (b:Bool),St gp bt w v l b→20*l.length+(12-k)≤n→l.length≤400 →
 Calls Tryz.prog f #[.pointer (some ⟨gp,0,none⟩)] w (Post gp bt w (G n k .bad l b))
def q7f(gp:Nat)(w:World):Nat:=match w.cell? ⟨gp,0,none⟩ with
 |some (.slice _ n _)=>n
 | _=>0
theorem St.len{gp bt:Nat}{w:World}{v:Value}{l:List Tok}{b:Bool}(h:St gp bt w v l b):q7f gp w=l.length:=by
 unfold q7f
 rw[h.c0]
 obtain⟨A,c,h1,_⟩:=h.t
 rw[h1]
def Vr(X:Nat→Prop)(w:World)(c:Nat)(x:T):Prop := ∃ o A k d,w.heap[c]? = some (.cells #[.string o,.slice A k d,.int .i64 (x.lv:Int)] 185)∧Nd X w x (.agg #[.string o,.slice A k d,.int .i64 (x.lv:Int)])
theorem qjp(fn:Fn)(first cap:Array Value)(w:World):(Instr.makeFunc fn first cap).run Tryz.prog w=.ok (.func fn first cap) w:=rfl
theorem c3{W:World}{c:Nat}{a b d:Value}{t:TypeId}(h:W.heap[c]? = some (.cells #[a,b,d] t)):W.cell? ⟨c,0,none⟩=some a∧W.cell? ⟨c,1,none⟩=some b∧W.cell? ⟨c,2,none⟩=some d∧(∀ o,W.frozen? ⟨c,o,none⟩=false):=by
 refine⟨?_,?_,?_,fun o => ?_⟩
 ·unfold World.cell?;rw[h];rfl
 ·unfold World.cell?;rw[h];rfl
 ·unfold World.cell?;rw[h];rfl
 ·unfold World.frozen?;rw[h];rfl
theorem q2g{W:World}{c:Nat}{a b d:Value}{t:TypeId}(h:W.heap[c]? = some (.cells #[a,b,d] t))(a' b' d':Value) :
  (((W.setCell ⟨c,0,none⟩ a').setCell ⟨c,1,none⟩ b').setCell ⟨c,2,none⟩ d').heap[c]? = some (.cells #[a',b',d'] t):=by
 simp only[World.setCell,Array.getElem?_modify,if_pos,h]
 rfl
theorem qa8{W:World}{c g:Nat}(h:g≠c)(a' b' d':Value):(((W.setCell ⟨c,0,none⟩ a').setCell ⟨c,1,none⟩ b').setCell ⟨c,2,none⟩ d').heap[g]? = W.heap[g]? := by
 rw[Below.heap_setCell _ _ _ _ h,Below.heap_setCell _ _ _ _ h,Below.heap_setCell _ _ _ _ h]
structure Ch (gp bt g:Nat) (S:List Tok) (w0 w:World) (cl cr:Nat) (R:Res) (n k:Nat) (x:T) (l:List Tok) (b:Bool) (u:Value):Prop where
 st:St gp bt w u l b
 var:Vr (fun i=>w0.heap.size<i∧i≠cl) w cl x
 res : ∃ c0 c1 c2,w.heap[cr]? = some (.cells #[c0,c1,c2] 185)
 row : ∀ j t,S[j]? = some t→w.cell? ⟨g,j,none⟩=some (sv t)
 fr:Fr gp w0.heap.size w0 w
 eq:G n (10+k) x l b=R
 fuel:20*l.length+1≤n
 len:l.length≤400
 lv:x.lv+l.length≤800
def two(o1:ByteArray)(A1:Option Addr)(k1 c1:Nat)(n1:Nat)(o2:ByteArray)(A2:Option Addr)(k2 c2:Nat)(n2:Nat):Obj := .cells #[.string o1,.slice A1 k1 c1,.int .i64 (n1:Int),.string o2,.slice A2 k2 c2,.int .i64 (n2:Int)] 185
theorem Ch.step{gp bt g:Nat}{w0 w w2 w3 w4:World}{cl:Nat}{R:Res}{m k:Nat}{x:T}{l r:List Tok}{b:Bool}{u u3:Value}{o:Tok}{y:Res}{o1 o2:ByteArray}{A1 A2:Option Addr}{k1 c1 k2 c2:Nat}
  (hc:Ch gp bt g (ops k) w0 w cl w0.heap.size R (m+1) k x l b u) (hg:g<w0.heap.size) (hgp:gp<w0.heap.size) (hbt:bt<w0.heap.size) (hcl:w0.heap.size<cl) (hne:g≠gp) (hlr:l.length=r.length+1)
  (hv:w.heap[cl]? = some (.cells #[.string o1,.slice A1 k1 c1,.int .i64 (x.lv:Int)] 185)) (hn1:Nd (fun i=>w0.heap.size<i∧i≠cl) w x (.agg #[.string o1,.slice A1 k1 c1,.int .i64 (x.lv:Int)]))
  (f2:Fr gp w.heap.size w w2) (f3:Fr gp w2.heap.size w2 w3) (hs3:St gp bt w3 u3 y.r y.b) (hn2:Nd (w2.heap.size ≤ ·) w3 y.t (.agg #[.string o2,.slice A2 k2 c2,.int .i64 (y.t.lv:Int)]))
  (hb4:Below (w3.alloc (two o1 A1 k1 c1 x.lv o2 A2 k2 c2 y.t.lv)).heap.size (w3.alloc (two o1 A1 k1 c1 x.lv o2 A2 k2 c2 y.t.lv)) w4) (heq:G m (10+k) (.bin o x y.t) y.r y.b=R) (hsz:y.t.sz+y.r.length≤r.length) :
  Ch gp bt g (ops k) w0 (((w4.setCell ⟨cl,0,none⟩ (sv o)).setCell ⟨cl,1,none⟩ (.slice (some ⟨w3.heap.size,0,none⟩) 2 2)).setCell ⟨cl,2,none⟩ (.int .i64 ((max x.lv y.t.lv+1:Nat):Int))) cl w0.heap.size R m k (.bin o x y.t) y.r y.b u3:=by
 have hz0:=hc.fr.size
 have hz2:=f2.size
 have hz3:=f3.size
 have hz4:=hb4.size
 simp only[World.size_alloc] at hz4
 have hclw:=qac hv
 obtain⟨e0,e1,e2,he⟩:=hc.res
 have hfu:=hc.fuel
 have hle:=hc.len
 have hlv:=hc.lv
 have hyl:=T.lv_sz y.t
 have B34:Below w3.heap.size w3 w4:=((Below.refl _ w3).alloc (Nat.le_refl _) _).trans (hb4.mono (by simp))
 have F4:Fr gp w.heap.size w w4:=(f2.trans f3 f2.size).trans (Fr.of B34) (by omega)
 have hc4:w4.heap[cl]? = some _:=(F4.block cl hclw (by omega)).trans hv
 have zz : ∀ (W:World) (a b d:Value),(((W.setCell ⟨cl,0,none⟩ a).setCell ⟨cl,1,none⟩ b).setCell ⟨cl,2,none⟩ d).heap.size=W.heap.size:=fun W a b d=>by simp[World.setCell]
 have hnew:w4.heap[w3.heap.size]? = some (two o1 A1 k1 c1 x.lv o2 A2 k2 c2 y.t.lv):=(hb4.block w3.heap.size (by simp)).trans (qaj _ _)
 refine⟨?_,?_,⟨e0,e1,e2,?_⟩,fun j t hj => ?_,?_,heq,by omega,by omega,?_⟩
 ·exact(hs3.below B34).keep (qa8 (by omega) _ _ _) (qa8 (by omega) _ _ _) (by rw[zz];exact Nat.le_refl _)
 ·refine⟨_,_,_,_,q2g hc4 _ _ _,?_⟩
  refine⟨w3.heap.size,_,_,_,_,_,_,_,rfl,⟨by omega,by omega⟩,(qa8 (by omega) _ _ _).trans hnew,?_,?_⟩
  ·exact Nd.keep (fun i hi hl=>(qa8 hi.2 _ _ _).trans (F4.block i hl (by omega))) (fun i hi _=>hi) _ _ hn1
  ·exact Nd.keep (X:=fun i=>w2.heap.size≤i) (fun i hi hl=>(qa8 (by omega) _ _ _).trans (B34.block i hl)) (fun i hi _=>⟨by omega,by omega⟩) _ _ hn2
 ·exact(qa8 (by omega) _ _ _).trans ((F4.block _ (qac he) (by omega)).trans he)
 ·rw[World.cell?_of_block (w:=w4) (qa8 (by show g≠cl;omega) _ _ _),F4.cell (by omega) hne j none]
  exact hc.row j t hj
 ·exact(hc.fr.trans F4 hz0).trans (Fr.of ((((Below.refl w0.heap.size w4).setCell (by show _≤cl;omega) _).setCell (by show _≤cl;omega) _).setCell (by show _≤cl;omega) _)) (Nat.le_refl _)
 ·simp only[T.lv];omega
theorem qe1(f:FuncId)(eg : ∀ args w,(callFunc f args).run Tryz.prog w=.ok (.enter f args) w)(n k:Nat)(hf : ∀ m,m≤n→Lv f m (k+1))(hk:k≤5)(gp bt:Nat)(w:World)(v:Value)(l:List Tok)(b:Bool)(h:St gp bt w v l b)(hn:20*l.length+(12-(k+1))≤n)(hl:l.length≤400)
  (g:Nat) (hS : ∀ j x,(ops k)[j]? = some x→w.cell? ⟨g,j,none⟩=some (sv x)) (hg:g≠gp) (hgl:g<w.heap.size) :
  Calls Tryz.prog 252 #[.pointer (some ⟨gp,0,none⟩),.func (.func f) #[.pointer (some ⟨gp,0,none⟩)] #[],.slice (some ⟨g,0,none⟩) (ops k).length (ops k).length] w
   (Post gp bt w (G n (10+k) (G n (k+1) .bad l b).t (G n (k+1) .bad l b).r (G n (k+1) .bad l b).b)):=by
 have HF:=hid hf;clear hf
 have HS:=hid h;have HO:=hid hS;clear h hS
 go_enter Tryz.func252,Tryz.ntmps252
 go_wp2_with fail
 refine(HF.out n (Nat.le_refl _) gp bt _ v l b (HS.out.alloc _) (by omega) hl).mono ?_
 rintro e w1⟨x,u,rfl,hx,hs,hf⟩
 obtain⟨o0,A0,k0,c0,rfl⟩:=hx.form
 have hsz:=hf.size
 simp only[World.size_alloc] at hsz
 have hRes : ∃ e0 e1 e2,w1.heap[w.heap.size]? = some (.cells #[e0,e1,e2] 185):=⟨_,_,_,(hf.block w.heap.size (by simp) (by have:=HS.out.lt;omega)).trans (qaj w _)⟩
 have hG:=qj8 n (k+1) .bad l b
 have hL1:=T.lv_sz (G n (k+1) .bad l b).t
 simp only[T.sz] at hG
 have hW:Fr gp w.heap.size w w1:=(Fr.of ((Below.refl _ w).alloc (Nat.le_refl _) _)).trans hf (by simp)
 have J0:Hid (∃ m x l' b' u',m≤n∧Ch gp bt g (ops k) w (w1.alloc (.cells #[.string o0,.slice A0 k0 c0,.int .i64 ((G n (k+1) .bad l b).t.lv:Int)] 185)) w1.heap.size w.heap.size (G n (10+k) (G n (k+1) .bad l b).t (G n (k+1) .bad l b).r (G n (k+1) .bad l b).b) m k x l' b' u'):=hid
  ⟨n,_,_,_,u,Nat.le_refl _,hs.alloc _,⟨_,_,_,_,qaj _ _,Nd.keep (X:=fun i=>(w.alloc (.cells #[.string ⟨#[]⟩,.slice none 0 0,.int .i64 0] 185)).heap.size≤i) (fun i _ hl=>Below.heap_alloc _ _ _ hl) (fun i (hi:(w.alloc (.cells #[.string ⟨#[]⟩,.slice none 0 0,.int .i64 0] 185)).heap.size≤i) hl=>by simp only[World.size_alloc] at hi;exact⟨by omega,by omega⟩) _ _ hx⟩,by
    obtain⟨e0,e1,e2,he⟩:=hRes;exact⟨e0,e1,e2,(Below.heap_alloc _ _ _ (by omega)).trans he⟩,
   fun j t hj=>by
    have h1:=HO.out j t hj
    rw[World.cell?_of_block (w:=w1) (Below.heap_alloc _ _ _ (by show g<w1.heap.size;omega)),hW.cell hgl hg j none]
    exact h1,hW.alloc (by omega) _,rfl,by omega,by omega,by omega⟩
 clear hs hx hf hRes hG hL1
 have HW:=hid hW
 clear hW
 go_wp2_with fail
 have hgp:=HS.out.lt
 obtain⟨R,hR⟩ : ∃ R,(G n (10+k) (G n (k+1) .bad l b).t (G n (k+1) .bad l b).r (G n (k+1) .bad l b).b)=R:=⟨_,rfl⟩
 rw[hR] at J0 ⊢
 clear hR
 go_loopw [] (fun wr=>Hid (∃ m x l' b' u',m≤n∧Ch gp bt g (ops k) w wr w1.heap.size w.heap.size R m k x l' b' u')) (fun wr=>q7f gp wr)
 case atStart=>exact J0
 case round =>
  obtain⟨m,x,l',b',u',hm,hc⟩:=hrel.out
  clear hrel J0
  obtain⟨m,rfl⟩ : ∃ j,m=j+1:=⟨m-1,by have:=hc.fuel;omega⟩
  have hlen:=hc.st.len
  have HT:=hid (qg7 hc.st g (ops k) hc.row (by have : ∀ k,(ops k).length≤3:=(by intro k;unfold ops;split<;>decide);have:=this k;omega) hc.len)
  have HC:=hid hc
  cases hx:next (ops k) l' with
  |none =>
   rw[hx] at HT
   have heq:(⟨x,l',b'⟩:Res)=R:=by have:=hc.eq;rw[q8k,hx] at this;exact this
   have HE:=hid heq;clear heq hx hc
   go_wp2_with fail
   refine HT.out.mono ?_
   rintro e w2⟨rfl,hs,hf⟩
   obtain⟨o1,A1,k1,c1,hv,hn1⟩:=HC.out.var
   obtain⟨e0,e1,e2,hr⟩:=HC.out.res
   have hcl:w2.heap[w1.heap.size]? = some _:=(hf.block _ (qac hv) (by omega)).trans hv
   have hcr:w2.heap[w.heap.size]? = some _:=(hf.block _ (qac hr) (by omega)).trans hr
   obtain⟨q0,q1,q2,qf⟩:=c3 hcl
   obtain⟨p0,p1,p2,pf⟩:=c3 hcr
   have pf0:=pf 0;have pf1:=pf 1;have pf2:=pf 2
   have hN:Nd (w.heap.size ≤ ·) (((w2.setCell ⟨w.heap.size,0,none⟩ (.string o1)).setCell ⟨w.heap.size,1,none⟩ (.slice A1 k1 c1)).setCell ⟨w.heap.size,2,none⟩ (.int .i64 (x.lv:Int))) x (.agg #[.string o1,.slice A1 k1 c1,.int .i64 (x.lv:Int)]) :=
    Nd.keep (X:=fun i=>w.heap.size<i∧i≠w1.heap.size) (fun i hi hl=>(qa8 (by omega) _ _ _).trans (hf.block i hl (by omega))) (fun i hi _=>Nat.le_of_lt hi.1) _ _ hn1
   have hS9:St gp bt (((w2.setCell ⟨w.heap.size,0,none⟩ (.string o1)).setCell ⟨w.heap.size,1,none⟩ (.slice A1 k1 c1)).setCell ⟨w.heap.size,2,none⟩ (.int .i64 (x.lv:Int))) u' l' b' :=
    hs.keep ((qa8 (by have:=HS.out.lb;omega) _ _ _)) (qa8 (by omega) _ _ _) (by simp[World.setCell])
   have hZ:=q2g hcr (.string o1) (.slice A1 k1 c1) (.int .i64 (x.lv:Int))
   clear hv hn1 hr hcl hcr
   have hF:Fr gp w.heap.size w (((w2.setCell ⟨w.heap.size,0,none⟩ (.string o1)).setCell ⟨w.heap.size,1,none⟩ (.slice A1 k1 c1)).setCell ⟨w.heap.size,2,none⟩ (.int .i64 (x.lv:Int))) :=
    (HC.out.fr.trans hf HC.out.fr.size).trans (Fr.of ((((Below.refl w.heap.size w2).setCell (Nat.le_refl _) _).setCell (Nat.le_refl _) _).setCell (Nat.le_refl _) _)) (Nat.le_refl _)
   clear hf
   go_wp2_with fail
   generalize(((w2.setCell ⟨w.heap.size,0,none⟩ (.string o1)).setCell ⟨w.heap.size,1,none⟩ (.slice A1 k1 c1)).setCell ⟨w.heap.size,2,none⟩ (.int .i64 (x.lv:Int)))=W9 at hZ hN hS9 hF ⊢
   obtain⟨z0,z1,z2,_⟩:=c3 hZ
   refine bodyPost_ret (v := .agg #[.string o1,.slice A1 k1 c1,.int .i64 (x.lv:Int)]) (by simp[results,Tryz.results252,go_sem,z0,z1,z2]) rfl ?_
   rw[←HE.out]
   exact⟨_,_,rfl,hN,hS9,hF⟩
  |some y =>
   obtain⟨o,r⟩:=y
   rw[hx] at HT
   have hlr:l'.length=r.length+1:=by rw[(qdh hx).1];rfl
   have heq:G m (10+k) (.bin o x (G m (k+1) .bad r b').t) (G m (k+1) .bad r b').r (G m (k+1) .bad r b').b=R:=by have:=hc.eq;rw[q8k,hx] at this;exact this
   have hfu:=hc.fuel
   have hle:=hc.len
   have hlv:=hc.lv
   have HE:=hid heq;clear heq hx hc
   go_wp2_with fail
   refine HT.out.mono ?_
   rintro e w2⟨rfl,u2,hs,hf⟩
   unfold sv
   obtain⟨o1,A1,k1,c1,hv,hn1⟩:=HC.out.var
   have hcl:w2.heap[w1.heap.size]? = some _:=(hf.block _ (qac hv) (by omega)).trans hv
   have hz2:=hf.size
   have hzc:=qac hv
   obtain⟨q0,q1,q2,qf⟩:=c3 hcl
   have HN:=hid hn1
   have HS2:=hid hs
   have HF2:=hid hf
   have HCL:=hid hcl
   have HV:=hid hv
   clear hs hf hv hn1 hcl
   have HQ:Hid (∀ W,W.heap=w2.heap→Calls Tryz.prog f #[.pointer (some ⟨gp,0,none⟩)] W (Post gp bt W (G m (k+1) .bad r b'))):=hid fun W hW =>
    HF.out m (by omega) gp bt W u2 r b' (HS2.out.keep (by rw[hW]) (by rw[hW]) (by rw[hW];exact Nat.le_refl _)) (by omega) (by omega)
   have hG:=qj8 m (k+1) .bad r b'
   have hL1:=T.lv_sz (G m (k+1) .bad r b').t
   simp only[T.sz] at hG
   have HM:Hid (∀ (W0 W:World) (o2:ByteArray) (A2:Option Addr) (k2 c2:Nat),W.heap=(W0.alloc (.cells #[.string o1,.slice A1 k1 c1,.int .i64 (x.lv:Int),.string o2,.slice A2 k2 c2,.int .i64 ((G m (k+1) .bad r b').t.lv:Int)] 185)).heap →
     Calls Tryz.prog 282 #[.string ⟨o.toArray⟩,.slice (some ⟨W0.heap.size,0,none⟩) 2 2] W fun e w'=>e=.returned (.agg #[.string ⟨o.toArray⟩,.slice (some ⟨W0.heap.size,0,none⟩) 2 2,.int .i64 ((max x.lv (G m (k+1) .bad r b').t.lv+1:Nat):Int)])∧Below W.heap.size W w'):=hid fun W0 W o2 A2 k2 c2 hW =>
    qhs o W W0.heap.size _ o1 A1 k1 c1 x.lv o2 A2 k2 c2 _ (by rw[hW];exact qaj _ _) (by omega) (by omega)
   have HG:=hid hG;have HL:=hid hL1
   clear hG hL1
   go_wp2_with fail
   go_region_with (first
    |(go_at_call 282;refine(HM.out w3 _ o2 A2 k2 c2 (by rfl)).mono ?_;rintro e w4 ⟨rfl,hb4⟩;obtain⟨y0,y1,y2,yf⟩:=c3 (((hb4.block w1.heap.size (by have:=hf3.size;simp only[World.size_alloc];have:=qac HCL.out;exact Nat.lt_of_lt_of_le this (Nat.le_trans ‹_› (by simp)))).trans (Below.heap_alloc _ _ _ (Nat.lt_of_lt_of_le (qac HCL.out) hf3.size))).trans ((hf3.block w1.heap.size (qac HCL.out) (by omega)).trans HCL.out)))
    |(refine(HQ.out _ (by rfl)).mono ?_;rintro e w3 ⟨xv,u3,rfl,hx3,hs3,hf3⟩;obtain⟨o2,A2,k2,c2,rfl⟩:=hx3.form;obtain⟨t0,t1,t2,tf⟩:=c3 ((hf3.block w1.heap.size (qac HCL.out) (by omega)).trans HCL.out)))
   all_goals
    have f3:Fr gp w2.heap.size w2 w3:=⟨hf3.os,hf3.tape,hf3.output,hf3.size,hf3.block⟩
    have hb : ∀ W:World,W.heap=(w3.alloc (two o1 A1 k1 c1 x.lv o2 A2 k2 c2 (G m (k+1) .bad r b').t.lv)).heap→W.os=w3.os→W.tape=w3.tape→W.output=w3.output→Below W.heap.size W w4→Below (w3.alloc (two o1 A1 k1 c1 x.lv o2 A2 k2 c2 (G m (k+1) .bad r b').t.lv)).heap.size (w3.alloc (two o1 A1 k1 c1 x.lv o2 A2 k2 c2 (G m (k+1) .bad r b').t.lv)) w4 :=
     fun W h1 h2 h3 h4 h5=>⟨h5.os.trans h2,h5.tape.trans h3,h5.output.trans h4,by rw[←h1];exact h5.size,fun i hi=>by rw[←h1] at hi ⊢;exact h5.block i hi⟩
    have hb4':=hb _ rfl rfl rfl rfl hb4
    have JN:=hid (Ch.step HC.out hgl HS.out.lt HS.out.lb (by omega) hg hlr HV.out HN.out HF2.out f3 hs3 hx3 hb4' HE.out (by have:=HG.out;omega))
    go_roundw
    case rel=>exact⟨_,_,_,_,_,_,_,_,_,_,_,_,_,_,_,_,_,hid ⟨m,_,_,_,_,by omega,JN.out⟩,rfl⟩
    case measure =>
     have h1:=JN.out.st.len
     have h2:=HG.out
     have h3 : ∀ a b:Nat,a=(G m (k+1) .bad r b').r.length→b=l'.length→a<b:=by omega
     exact h3 _ _ h1 hlen
end Go.Proofs.YtldkgbnmaefaaaaGreatDoor.Fo
namespace Go.Proofs.YtldkgbnmaefaaaaGreatDoor.Fo
open Go.RowKit Go.Proofs.YtldkgbnmaefaaaaGreatDoor.Nu
set_option linter.unusedVariables false
set_option linter.unusedSimpArgs false
abbrev zn:Obj := .cells #[.string ⟨#[]⟩,.slice none 0 0,.int .i64 0] 185
theorem qfd(W:World)(n:Nat)(hn:n=W.heap.size)(S:List Tok)(t:TypeId) : ∀ j x,S[j]? = some x→(W.alloc (row S t)).cell? ⟨n,j,none⟩=some (sv x):=by
 subst hn;exact qwg W S t
section
variable {gp bt:Nat} {w w1:World} {u:Value} {r:List Tok} {b:Bool} {x:T} {o:ByteArray} {A:Option Addr} {k c:Nat}
def qf8(w1:World)(g:Nat)(o:ByteArray)(A:Option Addr)(k c:Nat)(n:Int):World:=((w1.setCell ⟨g,0,none⟩ (.string o)).setCell ⟨g,1,none⟩ (.slice A k c)).setCell ⟨g,2,none⟩ (.int .i64 n)
theorem fin(hs:St gp bt w1 u r b)(hgp:gp<w.heap.size)(hbt:bt<w.heap.size)(hf:Fr gp (w.heap.size+1) (w.alloc zn) w1)(hx:Nd (w.heap.size+1 ≤ ·) w1 x (.agg #[.string o,.slice A k c,.int .i64 (x.lv:Int)])) :
  (qf8 w1 w.heap.size o A k c x.lv).heap[w.heap.size]? = some (.cells #[.string o,.slice A k c,.int .i64 (x.lv:Int)] 185) ∧
  Nd (w.heap.size ≤ ·) (qf8 w1 w.heap.size o A k c x.lv) x (.agg #[.string o,.slice A k c,.int .i64 (x.lv:Int)])∧St gp bt (qf8 w1 w.heap.size o A k c x.lv) u r b∧Fr gp w.heap.size w (qf8 w1 w.heap.size o A k c x.lv):=by
 have h0:w1.heap[w.heap.size]? = some zn:=(hf.block _ (Nat.lt_succ_self _) (by omega)).trans (qaj _ _)
 refine⟨q2g h0 _ _ _,Nd.keep (X:=fun i=>w.heap.size+1≤i) (fun i hi hl=>qa8 (by omega) _ _ _) (fun i hi _=>by omega) _ _ hx,hs.keep (qa8 (by omega) _ _ _) (qa8 (by omega) _ _ _) (by simp[qf8,World.setCell]),?_⟩
 exact(((Fr.of ((Below.refl _ w).alloc (Nat.le_refl _) _)).trans hf (by omega)).trans (Fr.of ((((Below.refl w.heap.size w1).setCell (Nat.le_refl _) _).setCell (Nat.le_refl _) _).setCell (Nat.le_refl _) _)) (Nat.le_refl _))
theorem qor(hf:Fr gp (w.heap.size+1) (w.alloc zn) w1)(hgp:gp<w.heap.size):w1.heap[w.heap.size]? = some zn:=(hf.block _ (Nat.lt_succ_self _) (by omega)).trans (qaj _ _)
end
theorem xe8(n:Nat)(ih : ∀ m,m<n→Lv 253 m 1):Lv 225 n 0:=by
 intro gp bt w v l b h hn hl
 obtain⟨n,rfl⟩ : ∃ j,n=j+1:=⟨n-1,by omega⟩
 rw[qxs n 0 .bad l b (by decide) (by decide) (by decide) (by decide) (by decide)]
 have hmf:=qjp
 have h2:St gp bt ((w.alloc zn).alloc (row (ops 0) 9)) v l b:=(h.alloc _).alloc _
 have HQ:=hid (qe1 253 (fun _ _=>rfl) n 0 (fun m hm=>ih m (by omega)) (by decide) gp bt _ v l b h2 (by omega) hl (w.heap.size+1) (qfd (w.alloc zn) _ (by simp) _ _) (by have:=h.lt;omega) (by simp))
 have hgp:=h.lt
 have hbt:=h.lb
 clear h h2 ih
 obtain⟨R,hR⟩ : ∃ R,(G n (10+0) (G n (0+1) .bad l b).t (G n (0+1) .bad l b).r (G n (0+1) .bad l b).b)=R:=⟨_,rfl⟩
 rw[hR] at HQ ⊢
 clear hR
 go_enter Tryz.func225,Tryz.ntmps225
 go_wp2_with fail
 refine HQ.out.mono ?_
 rintro e w1⟨x,u,rfl,hx,hs,hf⟩
 obtain⟨o1,A1,k1,c1,rfl⟩:=hx.form
 have hf1:Fr gp (w.heap.size+1) (w.alloc zn) w1:=(Fr.of ((Below.refl _ (w.alloc zn)).alloc (by simp) _)).trans hf (by simp)
 obtain⟨z0,z1,z2,zf⟩:=c3 (qor hf1 hgp)
 have zf0:=zf 0;have zf1:=zf 1;have zf2:=zf 2
 obtain⟨y1,y2,y3,y4⟩:=fin hs hgp hbt hf1 (hx.imp fun i hi=>by simp at hi;omega)
 have Y1:=hid y1;have Y:=hid (And.intro y2 (And.intro y3 y4))
 clear hs hf hx hf1 y1 y2 y3 y4
 unfold qf8 at Y1 Y
 go_wp2_with fail
 generalize(((w1.setCell ⟨w.heap.size,0,none⟩ (.string o1)).setCell ⟨w.heap.size,1,none⟩ (.slice A1 k1 c1)).setCell ⟨w.heap.size,2,none⟩ (.int .i64 (R.t.lv:Int)))=W9 at Y1 Y ⊢
 obtain⟨q0,q1,q2,_⟩:=c3 Y1.out
 refine bodyPost_ret (v := .agg #[.string o1,.slice A1 k1 c1,.int .i64 (R.t.lv:Int)]) (by simp[results,Tryz.results225,go_sem,q0,q1,q2]) rfl ?_
 exact⟨_,_,rfl,Y.out.1,Y.out.2.1,Y.out.2.2⟩
theorem xe9(n:Nat)(ih : ∀ m,m<n→Lv 283 m 2):Lv 253 n 1:=by
 intro gp bt w v l b h hn hl
 obtain⟨n,rfl⟩ : ∃ j,n=j+1:=⟨n-1,by omega⟩
 rw[qxs n 1 .bad l b (by decide) (by decide) (by decide) (by decide) (by decide)]
 have hmf:=qjp
 have h2:St gp bt ((w.alloc zn).alloc (row (ops 1) 9)) v l b:=(h.alloc _).alloc _
 have HQ:=hid (qe1 283 (fun _ _=>rfl) n 1 (fun m hm=>ih m (by omega)) (by decide) gp bt _ v l b h2 (by omega) hl (w.heap.size+1) (qfd (w.alloc zn) _ (by simp) _ _) (by have:=h.lt;omega) (by simp))
 have hgp:=h.lt
 have hbt:=h.lb
 clear h h2 ih
 obtain⟨R,hR⟩ : ∃ R,(G n (10+1) (G n (1+1) .bad l b).t (G n (1+1) .bad l b).r (G n (1+1) .bad l b).b)=R:=⟨_,rfl⟩
 rw[hR] at HQ ⊢
 clear hR
 go_enter Tryz.func253,Tryz.ntmps253
 go_wp2_with fail
 refine HQ.out.mono ?_
 rintro e w1⟨x,u,rfl,hx,hs,hf⟩
 obtain⟨o1,A1,k1,c1,rfl⟩:=hx.form
 have hf1:Fr gp (w.heap.size+1) (w.alloc zn) w1:=(Fr.of ((Below.refl _ (w.alloc zn)).alloc (by simp) _)).trans hf (by simp)
 obtain⟨z0,z1,z2,zf⟩:=c3 (qor hf1 hgp)
 have zf0:=zf 0;have zf1:=zf 1;have zf2:=zf 2
 obtain⟨y1,y2,y3,y4⟩:=fin hs hgp hbt hf1 (hx.imp fun i hi=>by simp at hi;omega)
 have Y1:=hid y1;have Y:=hid (And.intro y2 (And.intro y3 y4))
 clear hs hf hx hf1 y1 y2 y3 y4
 unfold qf8 at Y1 Y
 go_wp2_with fail
 generalize(((w1.setCell ⟨w.heap.size,0,none⟩ (.string o1)).setCell ⟨w.heap.size,1,none⟩ (.slice A1 k1 c1)).setCell ⟨w.heap.size,2,none⟩ (.int .i64 (R.t.lv:Int)))=W9 at Y1 Y ⊢
 obtain⟨q0,q1,q2,_⟩:=c3 Y1.out
 refine bodyPost_ret (v := .agg #[.string o1,.slice A1 k1 c1,.int .i64 (R.t.lv:Int)]) (by simp[results,Tryz.results253,go_sem,q0,q1,q2]) rfl ?_
 exact⟨_,_,rfl,Y.out.1,Y.out.2.1,Y.out.2.2⟩
theorem xfb(n:Nat)(ih : ∀ m,m<n→Lv 296 m 4):Lv 293 n 3:=by
 intro gp bt w v l b h hn hl
 obtain⟨n,rfl⟩ : ∃ j,n=j+1:=⟨n-1,by omega⟩
 rw[qxs n 3 .bad l b (by decide) (by decide) (by decide) (by decide) (by decide)]
 have hmf:=qjp
 have h2:St gp bt ((w.alloc zn).alloc (row (ops 3) 9)) v l b:=(h.alloc _).alloc _
 have HQ:=hid (qe1 296 (fun _ _=>rfl) n 3 (fun m hm=>ih m (by omega)) (by decide) gp bt _ v l b h2 (by omega) hl (w.heap.size+1) (qfd (w.alloc zn) _ (by simp) _ _) (by have:=h.lt;omega) (by simp))
 have hgp:=h.lt
 have hbt:=h.lb
 clear h h2 ih
 obtain⟨R,hR⟩ : ∃ R,(G n (10+3) (G n (3+1) .bad l b).t (G n (3+1) .bad l b).r (G n (3+1) .bad l b).b)=R:=⟨_,rfl⟩
 rw[hR] at HQ ⊢
 clear hR
 go_enter Tryz.func293,Tryz.ntmps293
 go_wp2_with fail
 refine HQ.out.mono ?_
 rintro e w1⟨x,u,rfl,hx,hs,hf⟩
 obtain⟨o1,A1,k1,c1,rfl⟩:=hx.form
 have hf1:Fr gp (w.heap.size+1) (w.alloc zn) w1:=(Fr.of ((Below.refl _ (w.alloc zn)).alloc (by simp) _)).trans hf (by simp)
 obtain⟨z0,z1,z2,zf⟩:=c3 (qor hf1 hgp)
 have zf0:=zf 0;have zf1:=zf 1;have zf2:=zf 2
 obtain⟨y1,y2,y3,y4⟩:=fin hs hgp hbt hf1 (hx.imp fun i hi=>by simp at hi;omega)
 have Y1:=hid y1;have Y:=hid (And.intro y2 (And.intro y3 y4))
 clear hs hf hx hf1 y1 y2 y3 y4
 unfold qf8 at Y1 Y
 go_wp2_with fail
 generalize(((w1.setCell ⟨w.heap.size,0,none⟩ (.string o1)).setCell ⟨w.heap.size,1,none⟩ (.slice A1 k1 c1)).setCell ⟨w.heap.size,2,none⟩ (.int .i64 (R.t.lv:Int)))=W9 at Y1 Y ⊢
 obtain⟨q0,q1,q2,_⟩:=c3 Y1.out
 refine bodyPost_ret (v := .agg #[.string o1,.slice A1 k1 c1,.int .i64 (R.t.lv:Int)]) (by simp[results,Tryz.results293,go_sem,q0,q1,q2]) rfl ?_
 exact⟨_,_,rfl,Y.out.1,Y.out.2.1,Y.out.2.2⟩
theorem xfc(n:Nat)(ih : ∀ m,m<n→Lv 297 m 5):Lv 296 n 4:=by
 intro gp bt w v l b h hn hl
 obtain⟨n,rfl⟩ : ∃ j,n=j+1:=⟨n-1,by omega⟩
 rw[qxs n 4 .bad l b (by decide) (by decide) (by decide) (by decide) (by decide)]
 have hmf:=qjp
 have h2:St gp bt ((w.alloc zn).alloc (row (ops 4) 9)) v l b:=(h.alloc _).alloc _
 have HQ:=hid (qe1 297 (fun _ _=>rfl) n 4 (fun m hm=>ih m (by omega)) (by decide) gp bt _ v l b h2 (by omega) hl (w.heap.size+1) (qfd (w.alloc zn) _ (by simp) _ _) (by have:=h.lt;omega) (by simp))
 have hgp:=h.lt
 have hbt:=h.lb
 clear h h2 ih
 obtain⟨R,hR⟩ : ∃ R,(G n (10+4) (G n (4+1) .bad l b).t (G n (4+1) .bad l b).r (G n (4+1) .bad l b).b)=R:=⟨_,rfl⟩
 rw[hR] at HQ ⊢
 clear hR
 go_enter Tryz.func296,Tryz.ntmps296
 go_wp2_with fail
 refine HQ.out.mono ?_
 rintro e w1⟨x,u,rfl,hx,hs,hf⟩
 obtain⟨o1,A1,k1,c1,rfl⟩:=hx.form
 have hf1:Fr gp (w.heap.size+1) (w.alloc zn) w1:=(Fr.of ((Below.refl _ (w.alloc zn)).alloc (by simp) _)).trans hf (by simp)
 obtain⟨z0,z1,z2,zf⟩:=c3 (qor hf1 hgp)
 have zf0:=zf 0;have zf1:=zf 1;have zf2:=zf 2
 obtain⟨y1,y2,y3,y4⟩:=fin hs hgp hbt hf1 (hx.imp fun i hi=>by simp at hi;omega)
 have Y1:=hid y1;have Y:=hid (And.intro y2 (And.intro y3 y4))
 clear hs hf hx hf1 y1 y2 y3 y4
 unfold qf8 at Y1 Y
 go_wp2_with fail
 generalize(((w1.setCell ⟨w.heap.size,0,none⟩ (.string o1)).setCell ⟨w.heap.size,1,none⟩ (.slice A1 k1 c1)).setCell ⟨w.heap.size,2,none⟩ (.int .i64 (R.t.lv:Int)))=W9 at Y1 Y ⊢
 obtain⟨q0,q1,q2,_⟩:=c3 Y1.out
 refine bodyPost_ret (v := .agg #[.string o1,.slice A1 k1 c1,.int .i64 (R.t.lv:Int)]) (by simp[results,Tryz.results296,go_sem,q0,q1,q2]) rfl ?_
 exact⟨_,_,rfl,Y.out.1,Y.out.2.1,Y.out.2.2⟩
theorem xfd(n:Nat)(ih : ∀ m,m<n→Lv 298 m 6):Lv 297 n 5:=by
 intro gp bt w v l b h hn hl
 obtain⟨n,rfl⟩ : ∃ j,n=j+1:=⟨n-1,by omega⟩
 rw[qxs n 5 .bad l b (by decide) (by decide) (by decide) (by decide) (by decide)]
 have hmf:=qjp
 have h2:St gp bt ((w.alloc zn).alloc (row (ops 5) 9)) v l b:=(h.alloc _).alloc _
 have HQ:=hid (qe1 298 (fun _ _=>rfl) n 5 (fun m hm=>ih m (by omega)) (by decide) gp bt _ v l b h2 (by omega) hl (w.heap.size+1) (qfd (w.alloc zn) _ (by simp) _ _) (by have:=h.lt;omega) (by simp))
 have hgp:=h.lt
 have hbt:=h.lb
 clear h h2 ih
 obtain⟨R,hR⟩ : ∃ R,(G n (10+5) (G n (5+1) .bad l b).t (G n (5+1) .bad l b).r (G n (5+1) .bad l b).b)=R:=⟨_,rfl⟩
 rw[hR] at HQ ⊢
 clear hR
 go_enter Tryz.func297,Tryz.ntmps297
 go_wp2_with fail
 refine HQ.out.mono ?_
 rintro e w1⟨x,u,rfl,hx,hs,hf⟩
 obtain⟨o1,A1,k1,c1,rfl⟩:=hx.form
 have hf1:Fr gp (w.heap.size+1) (w.alloc zn) w1:=(Fr.of ((Below.refl _ (w.alloc zn)).alloc (by simp) _)).trans hf (by simp)
 obtain⟨z0,z1,z2,zf⟩:=c3 (qor hf1 hgp)
 have zf0:=zf 0;have zf1:=zf 1;have zf2:=zf 2
 obtain⟨y1,y2,y3,y4⟩:=fin hs hgp hbt hf1 (hx.imp fun i hi=>by simp at hi;omega)
 have Y1:=hid y1;have Y:=hid (And.intro y2 (And.intro y3 y4))
 clear hs hf hx hf1 y1 y2 y3 y4
 unfold qf8 at Y1 Y
 go_wp2_with fail
 generalize(((w1.setCell ⟨w.heap.size,0,none⟩ (.string o1)).setCell ⟨w.heap.size,1,none⟩ (.slice A1 k1 c1)).setCell ⟨w.heap.size,2,none⟩ (.int .i64 (R.t.lv:Int)))=W9 at Y1 Y ⊢
 obtain⟨q0,q1,q2,_⟩:=c3 Y1.out
 refine bodyPost_ret (v := .agg #[.string o1,.slice A1 k1 c1,.int .i64 (R.t.lv:Int)]) (by simp[results,Tryz.results297,go_sem,q0,q1,q2]) rfl ?_
 exact⟨_,_,rfl,Y.out.1,Y.out.2.1,Y.out.2.2⟩
end Go.Proofs.YtldkgbnmaefaaaaGreatDoor.Fo
namespace Go.Proofs.YtldkgbnmaefaaaaGreatDoor.Fo
open Go.RowKit Go.Proofs.YtldkgbnmaefaaaaGreatDoor.Nu
set_option linter.unusedVariables false
set_option linter.unusedSimpArgs false
def one(o1:ByteArray)(A1:Option Addr)(k1 c1:Nat)(n1:Nat):Obj := .cells #[.string o1,.slice A1 k1 c1,.int .i64 (n1:Int)] 185
theorem xeq{gp g:Nat}{w2 w3 w4 W0 W4:World}{O o:Obj}(h:w2.heap[g]? = some o)(hg:g≠gp)(h3:Fr gp W0.heap.size W0 w3)(hW:W0.heap=w2.heap)(h4:Below W4.heap.size W4 w4)(hW4:W4.heap=(w3.alloc O).heap):w4.heap[g]? = some o:=by
 have h2:g<W0.heap.size:=by rw[hW];exact qac h
 have h5:=h3.size
 rw[h4.block g (by rw[hW4];simp;omega),hW4,Below.heap_alloc _ _ _ (by omega),h3.block g h2 hg,hW]
 exact h
section
variable {gp bt:Nat} {w w3 w4:World} {X:Nat→Prop} {x y:T} {o1 o2:ByteArray} {A1 A2:Option Addr} {k1 c1 k2 c2:Nat}
theorem q1u(o:Tok)(hX:X w3.heap.size)(hx:Nd X w3 x (.agg #[.string o1,.slice A1 k1 c1,.int .i64 (x.lv:Int)]))(hy:Nd X w3 y (.agg #[.string o2,.slice A2 k2 c2,.int .i64 (y.lv:Int)]))
  (hb4:Below (w3.alloc (two o1 A1 k1 c1 x.lv o2 A2 k2 c2 y.lv)).heap.size (w3.alloc (two o1 A1 k1 c1 x.lv o2 A2 k2 c2 y.lv)) w4) :
  Nd X w4 (.bin o x y) (.agg #[.string ⟨o.toArray⟩,.slice (some ⟨w3.heap.size,0,none⟩) 2 2,.int .i64 ((max x.lv y.lv+1:Nat):Int)]):=by
 have B34:Below w3.heap.size w3 w4:=((Below.refl _ w3).alloc (Nat.le_refl _) _).trans (hb4.mono (by simp))
 exact⟨w3.heap.size,_,_,_,_,_,_,_,rfl,hX,(hb4.block w3.heap.size (by simp)).trans (qaj _ _),hx.below B34,hy.below B34⟩
theorem xa4(o:Tok)(hX:X w3.heap.size)(hx:Nd X w3 x (.agg #[.string o1,.slice A1 k1 c1,.int .i64 (x.lv:Int)]))
  (hb4:Below (w3.alloc (one o1 A1 k1 c1 x.lv)).heap.size (w3.alloc (one o1 A1 k1 c1 x.lv)) w4) :
  Nd X w4 (.un o x) (.agg #[.string ⟨o.toArray⟩,.slice (some ⟨w3.heap.size,0,none⟩) 1 1,.int .i64 ((x.lv+1:Nat):Int)]):=by
 have B34:Below w3.heap.size w3 w4:=((Below.refl _ w3).alloc (Nat.le_refl _) _).trans (hb4.mono (by simp))
 exact⟨w3.heap.size,_,_,_,_,rfl,hX,(hb4.block w3.heap.size (by simp)).trans (qaj _ _),hx.below B34⟩
end
theorem xfe(n:Nat)(ih1 : ∀ m,m<n→Lv 298 m 6)(ih2 : ∀ m,m<n→Lv 299 m 7):Lv 298 n 6:=by
 intro gp bt w v l b h hn hl
 obtain⟨n,rfl⟩ : ∃ j,n=j+1:=⟨n-1,by omega⟩
 have hGG:=G_6 n .bad l b
 generalize G (n+1) 6 .bad l b=RR at hGG ⊢
 have HGG:=hid hGG
 have hgp:=h.lt
 have hbt:=h.lb
 have I1:=hid ih1;have I2:=hid ih2
 obtain⟨W,hW⟩ : ∃ W,(w.alloc zn).alloc (row uns 9)=W:=⟨_,rfl⟩
 have HT:=hid (qg7 ((h.alloc zn).alloc (row uns 9)) (w.heap.size+1) uns (qfd (w.alloc zn) _ (by simp) _ _) (by decide) (by omega))
 have HV:Hid (Fr gp (w.heap.size+1) (w.alloc zn) W):=hid (hW▸(Fr.refl _ _ _).alloc (by simp) _)
 have hzW:W.heap.size=w.heap.size+2:=by rw[←hW];simp
 rw[hW] at HT
 rw[show(uns:List Tok).length=4 from rfl] at HT
 clear h hGG ih1 ih2
 unfold row sv at hW
 simp only[uns,List.map_cons,List.map_nil] at hW
 cases hq:next uns l with
 |none =>
  rw[hq] at HT
  have HQN:=hid hq
  clear hq
  go_enter Tryz.func298,Tryz.ntmps298
  go_wp2_with fail
  (with_reducible refine HT.out.mono ?_)
  rintro e w2⟨rfl,hs,hf⟩
  have hz2:=hf.size
  have HF2:=hid (HV.out.trans hf (by omega))
  have HQ2:=hid (I2.out n (by omega) gp bt w2 v l b hs (by omega) (by omega))
  have e9:RR=G n 7 .bad l b:=by
   have h:=HGG.out
   rw[HQN.out] at h
   exact h
  rw[←e9] at HQ2
  have E9:=hid e9
  clear hs hf e9
  go_wp2_with fail
  (with_reducible refine HQ2.out.mono ?_)
  rintro e w3⟨xv,u3,rfl,hx3,hs3,hf3⟩
  obtain⟨o2,A2,k2,c2,rfl⟩:=hx3.form
  have hf4:=HF2.out.trans hf3 (by omega)
  obtain⟨z0,z1,z2,zf⟩:=c3 (qor hf4 hgp)
  have zf0:=zf 0;have zf1:=zf 1;have zf2:=zf 2
  obtain⟨y1,y2,y3,y4⟩:=fin hs3 hgp hbt hf4 (hx3.imp fun i (hi:w2.heap.size≤i)=>by omega)
  have Y1:=hid y1;have Y:=hid (And.intro y2 (And.intro y3 y4))
  clear hs3 hf3 hx3 hf4 y1 y2 y3 y4
  unfold qf8 at Y1 Y
  go_wp2_with fail
  generalize(((w3.setCell ⟨w.heap.size,0,none⟩ (.string o2)).setCell ⟨w.heap.size,1,none⟩ (.slice A2 k2 c2)).setCell ⟨w.heap.size,2,none⟩ (.int .i64 (RR.t.lv:Int)))=W9 at Y1 Y ⊢
  obtain⟨q0,q1,q2,_⟩:=c3 Y1.out
  refine bodyPost_ret (v := .agg #[.string o2,.slice A2 k2 c2,.int .i64 (RR.t.lv:Int)]) (by simp[results,Tryz.results298,go_sem,q0,q1,q2]) rfl ?_
  exact⟨_,_,rfl,Y.out.1,Y.out.2.1,Y.out.2.2⟩
 |some y =>
  obtain⟨o,r⟩:=y
  rw[hq] at HT
  have hlr:l.length=r.length+1:=by rw[(qdh hq).1];rfl
  have HQN:=hid hq
  clear hq
  go_enter Tryz.func298,Tryz.ntmps298
  go_wp2_with fail
  (with_reducible refine HT.out.mono ?_)
  rintro e w2⟨rfl,u2,hs,hf⟩
  unfold sv
  have hz2:=hf.size
  have HF2:=hid (HV.out.trans hf (by omega))
  have HQ2:=hid (I1.out n (by omega) gp bt w2 u2 r b hs (by omega) (by omega))
  have hG2:=qj8 n 6 .bad r b
  have hL2:=T.lv_sz (G n 6 .bad r b).t
  simp only[T.sz] at hG2
  have e9:RR=⟨.un o (G n 6 .bad r b).t,(G n 6 .bad r b).r,(G n 6 .bad r b).b⟩:=by
   have h:=HGG.out
   rw[HQN.out] at h
   exact h
  generalize G n 6 .bad r b=Y at HQ2 hG2 hL2 e9
  have E9:=hid e9
  clear hs hf e9
  go_wp2_with fail
  (with_reducible refine HQ2.out.mono ?_)
  rintro e w3⟨xv,u3,rfl,hx3,hs3,hf3⟩
  obtain⟨o2,A2,k2,c2,rfl⟩:=hx3.form
  have H3:=hid (And.intro hx3 (And.intro hs3 hf3))
  have hz3:=hf3.size
  have HM:=hid (qkl o (w3.alloc (one o2 A2 k2 c2 Y.t.lv)) w3.heap.size _ o2 A2 k2 c2 Y.t.lv (qaj _ _) (by omega))
  clear hx3 hs3 hf3
  unfold one mkv sv at HM
  go_wp2_with fail
  (with_reducible refine HM.out.mono ?_)
  rintro e w4⟨rfl,hb4⟩
  have B34:Below w3.heap.size w3 w4:=((Below.refl _ w3).alloc (Nat.le_refl _) _).trans (hb4.mono (by simp))
  have F4:Fr gp (w.heap.size+1) (w.alloc zn) w4:=(HF2.out.trans H3.out.2.2 (by omega)).trans (Fr.of B34) (by omega)
  have hN4:=xa4 (X:=(w.heap.size+1 ≤ ·)) o (by omega) (H3.out.1.imp fun i (hi:w2.heap.size≤i)=>by omega) hb4
  obtain⟨z0,z1,z2,zf⟩:=c3 (qor F4 hgp)
  have zf0:=zf 0;have zf1:=zf 1;have zf2:=zf 2
  obtain⟨y1,y2,y3,y4⟩:=fin (H3.out.2.1.below B34) hgp hbt F4 hN4
  have Y1:=hid y1;have YY:=hid (And.intro y2 (And.intro y3 y4))
  clear y1 y2 y3 y4 hN4 F4 B34 hb4
  unfold qf8 at Y1 YY
  have hm2:((Y.t.lv:Nat):Int)+1=((T.un o Y.t).lv:Int):=by show _=((Y.t.lv+1:Nat):Int);simp
  go_wp2_with fail
  generalize(((w4.setCell ⟨w.heap.size,0,none⟩ (.string ⟨o.toArray⟩)).setCell ⟨w.heap.size,1,none⟩ (.slice (some ⟨w3.heap.size,0,none⟩) 1 1)).setCell ⟨w.heap.size,2,none⟩ (.int .i64 ((T.un o Y.t).lv:Int)))=W9 at Y1 YY ⊢
  obtain⟨q0,q1,q2,_⟩:=c3 Y1.out
  refine bodyPost_ret (v := .agg #[.string ⟨o.toArray⟩,.slice (some ⟨w3.heap.size,0,none⟩) 1 1,.int .i64 ((T.un o Y.t).lv:Int)]) (by simp[results,Tryz.results298,go_sem,q0,q1,q2]) rfl ?_
  rw[E9.out]
  exact⟨_,_,rfl,YY.out.1,YY.out.2.1,YY.out.2.2⟩
end Go.Proofs.YtldkgbnmaefaaaaGreatDoor.Fo
