import Derived.Test.YtldkgbnmaefaaaaGreatDoorNuG1
import Derived.Test.YtldkgbnmaefaaaaGreatDoorSfG2
import Derived.Test.YtldkgbnmaefaaaaGreatDoorChecked
import Derived.WalkKit
import Derived.WalkSpells
import Derived.WalkLawsBesides
import Derived.Outline
import Derived.Deep.QuietTactic
import Derived.BigQuiet
import Derived.Lib.Hide
import Derived.IntWalk
import Derived.OwnWalk
import Derived.Laws.OwnMore
import Derived.Laws.Rows
import Derived.Below
import Derived.Test.YtldkgbnmaefaaaaGreatDoorNuG4
set_option maxRecDepth 100000
set_option maxHeartbeats 4000000
open Go.Lib (hid)
namespace Go.Proofs.YtldkgbnmaefaaaaGreatDoor.Fu
set_option linter.unusedVariables false
abbrev BA:=ByteArray
def em:BA:=⟨#[]⟩
structure An where
 s:BA
 e:Int
structure Nm where
 n:Int
 e:Int
def raw(l:List BA)(i:Nat):BA:=l.getD i em
def trm(s:BA):BA:=⟨(Sf.tr s.data.toList).toArray⟩
def qbi(t:BA)(x:Int):Nm :=
 if t.size=0 then⟨x,0⟩ else if (Nu.parse t.data.toList).e=0 then (if (Nu.parse t.data.toList).d=1 then⟨(Nu.parse t.data.toList).n,0⟩ else⟨0,7⟩) else⟨0,(Nu.parse t.data.toList).e⟩
structure Pm where
 k:Int
 x:Int
structure Ag where
 s:BA
 n:Int
def za:Ag:=⟨em,0⟩
structure Rd1 where
 a:Ag
 e:Int
def rd1(p:Pm)(t:BA):Rd1 :=
 if p.k=0 then⟨⟨trm t,0⟩,0⟩ else if p.k=1 then⟨⟨t,0⟩,0⟩ else if (qbi (trm t) p.x).e=0 then⟨⟨em,(qbi (trm t) p.x).n⟩,0⟩ else⟨za,(qbi (trm t) p.x).e⟩
theorem qbm{l:List BA}{i:Nat}(h:i<l.length):raw l i=l[i]:=by unfold raw;simp[h]
theorem qjn{l:List BA}{i:Nat}(h : ¬ i<l.length):raw l i=em:=by unfold raw;simp[Nat.le_of_not_lt h]
theorem qb1(x:Int)(t:BA):rd1 ⟨0,x⟩ t=⟨⟨trm t,0⟩,0⟩:=rfl
theorem qdn(x:Int)(t:BA):rd1 ⟨1,x⟩ t=⟨⟨t,0⟩,0⟩:=rfl
theorem qwc(x:Int)(t:BA):rd1 ⟨2,x⟩ t=if (qbi (trm t) x).e=0 then⟨⟨em,(qbi (trm t) x).n⟩,0⟩ else⟨za,(qbi (trm t) x).e⟩:=rfl
def qet(s:BA):Int :=
 if s=⟨#[109,105,110,117,116,101]⟩ then 1 else if s=⟨#[104,111,117,114]⟩ then 2 else if s=⟨#[100,97,121]⟩ then 3 else if s=⟨#[109,111,110,116,104]⟩ then 4 else if s=⟨#[121,101,97,114]⟩ then 5 else 0
end Go.Proofs.YtldkgbnmaefaaaaGreatDoor.Fu
namespace Go.Proofs.YtldkgbnmaefaaaaGreatDoor.Fu
open Go.RowKit
set_option linter.unusedVariables false
theorem qad{W w1:World}(hb:Below W.heap.size W w1):(∀ b o,b<W.heap.size→w1.cell? ⟨b,o,none⟩=W.cell? ⟨b,o,none⟩)∧(∀ b o,b<W.heap.size→w1.frozen? ⟨b,o,none⟩=W.frozen? ⟨b,o,none⟩) :=
 ⟨fun b o h=>hb.cell (p:=⟨b,o,none⟩) h,fun b o h=>hb.frozen (p:=⟨b,o,none⟩) h⟩
theorem qab{w:World}{g:Nat}{cs:Array Value}{t:TypeId}{i:Nat}{v:Value}(h:w.heap[g]? = some (.cells cs t))(hv:cs[i]? = some v):w.cell? ⟨g,i,none⟩=some v:=by
 simp[World.cell?,h,hv]
theorem qac{w:World}{g:Nat}{o:Obj}(h:w.heap[g]? = some o):g<w.heap.size:=(Array.getElem?_eq_some_iff.1 h).1
theorem qb8{w w':World}{g:Nat}{o:Obj}(h:w.heap[g]? = some o)(hb:Below w.heap.size w w'):w'.heap[g]? = some o:=(hb.block _ (qac h)).trans h
theorem qlq(x:Int)(w:World):Calls Tryz.prog 67 #[.int .i64 x] w fun e w'=>e=.returned (.agg #[.int .i64 2,.int .i64 x])∧Below w.heap.size w w':=by
 go_enter Tryz.func67,Tryz.ntmps67
 go_wp2
 exact bodyPost_ret (v := .agg #[.int .i64 2,.int .i64 x]) (by simp[results,Tryz.results67,go_sem]) rfl ⟨rfl,(Below.refl _ w).alloc (Nat.le_refl _) _⟩
theorem qhf(g:FuncId)(w:World):Calls Tryz.prog 65 #[.func (.func g) #[] #[]] w fun e w'=>e=.returned (.func (.func 106) #[] #[.pointer (some ⟨w.heap.size,0,none⟩)])∧w.alloc (.cells #[.func (.func g) #[] #[]] 39)=w':=by
 go_enter Tryz.func65,Tryz.ntmps65
 go_wp2
 go_ret
 exact⟨rfl,rfl⟩
theorem q5y(g:FuncId)(w:World):Calls Tryz.prog 72 #[.func (.func g) #[] #[]] w fun e w'=>e=.returned (.func (.func 113) #[] #[.pointer (some ⟨w.heap.size,0,none⟩)])∧w.alloc (.cells #[.func (.func g) #[] #[]] 106)=w':=by
 go_enter Tryz.func72,Tryz.ntmps72
 go_wp2
 go_ret
 exact⟨rfl,rfl⟩
end Go.Proofs.YtldkgbnmaefaaaaGreatDoor.Fu
namespace Go.Proofs.YtldkgbnmaefaaaaGreatDoor.Fu
open Go.RowKit
set_option linter.unusedVariables false
set_option linter.unusedSimpArgs false
inductive Fk where
 |dir (f:FuncId)
 |chg (f:FuncId)
 |pd (f:FuncId)
structure Row where
 name:BA
 ps:List Pm
 fk:Fk
def fv(f:FuncId):Value := .func (.func f) #[] #[]
def qec(w:World):Fk→Value→Prop
 | .dir f,v=>v=fv f
 | .chg f,v => ∃ c,v=.func (.func 106) #[] #[.pointer (some ⟨c,0,none⟩)]∧w.heap[c]? = some (.cells #[fv f] 39)
 | .pd f,v => ∃ c,v=.func (.func 113) #[] #[.pointer (some ⟨c,0,none⟩)]∧w.heap[c]? = some (.cells #[fv f] 106)
def qea(l:List Pm):List Value:=l.flatMap fun p=>[.int .i64 p.k,.int .i64 p.x]
def qcl(w:World)(l:List Pm)(v:Value):Prop := ∃ g,v=.slice (some ⟨g,0,none⟩) l.length l.length∧w.heap[g]? = some (.cells (qea l).toArray 80)
structure RowOk (w:World) (x:Row) (a f:Value):Prop where
 ps:qcl w x.ps a
 fn:qec w x.fk f
theorem qec.up{w w':World}{k:Fk}{v:Value}(h:qec w k v)(hb:Below w.heap.size w w'):qec w' k v:=by
 cases k with
 |dir f=>exact h
 |chg f=>obtain⟨c,h1,h2⟩:=h;exact⟨c,h1,qb8 h2 hb⟩
 |pd f=>obtain⟨c,h1,h2⟩:=h;exact⟨c,h1,qb8 h2 hb⟩
theorem qcl.up{w w':World}{l:List Pm}{v:Value}(h:qcl w l v)(hb:Below w.heap.size w w'):qcl w' l v:=by
 obtain⟨c,h1,h2⟩:=h;exact⟨c,h1,qb8 h2 hb⟩
theorem RowOk.up{w w':World}{x:Row}{a f:Value}(h:RowOk w x a f)(hb:Below w.heap.size w w'):RowOk w' x a f:=⟨h.ps.up hb,h.fn.up hb⟩
def tbl:List Row:=[⟨⟨#[108,101,110]⟩,[⟨0,0⟩],.chg 66⟩,
 ⟨⟨#[115,117,98]⟩,[⟨0,0⟩,⟨2,0⟩,⟨2,32768⟩],.dir 68⟩,
 ⟨⟨#[111,99,99,117,114,115]⟩,[⟨0,0⟩,⟨1,0⟩],.dir 69⟩,
 ⟨⟨#[112,111,115]⟩,[⟨0,0⟩,⟨1,0⟩,⟨2,0⟩],.dir 70⟩,
 ⟨⟨#[114,101,112,108,97,99,101]⟩,[⟨0,0⟩,⟨1,0⟩,⟨1,0⟩,⟨2,(-1)⟩],.dir 71⟩,
 ⟨⟨#[112,97,100,108,101,102,116]⟩,[⟨0,0⟩,⟨2,0⟩,⟨1,0⟩],.pd 73⟩,
 ⟨⟨#[112,97,100,114,105,103,104,116]⟩,[⟨0,0⟩,⟨2,0⟩,⟨1,0⟩],.pd 74⟩,
 ⟨⟨#[108,99]⟩,[⟨0,0⟩],.chg 75⟩,
 ⟨⟨#[117,99]⟩,[⟨0,0⟩],.chg 76⟩,
 ⟨⟨#[108,99,102,105,114,115,116]⟩,[⟨0,0⟩],.chg 77⟩,
 ⟨⟨#[117,99,102,105,114,115,116]⟩,[⟨0,0⟩],.chg 78⟩,
 ⟨⟨#[116,114,105,109]⟩,[⟨0,0⟩],.chg 79⟩,
 ⟨⟨#[112,97,114,116]⟩,[⟨0,0⟩,⟨1,0⟩,⟨2,0⟩],.dir 80⟩,
 ⟨⟨#[102,111,114,109,117,108,97]⟩,[⟨0,0⟩],.dir 81⟩,
 ⟨⟨#[102,105,120,101,100]⟩,[⟨0,0⟩,⟨2,0⟩],.dir 82⟩,
 ⟨⟨#[100,97,116,101,97,100,100]⟩,[⟨0,0⟩,⟨2,0⟩,⟨0,0⟩],.dir 83⟩,
 ⟨⟨#[100,97,116,101,102,111,114,109,97,116]⟩,[⟨0,0⟩,⟨0,0⟩],.dir 84⟩]
structure Fns (w:World) (v:Value):Prop where
 ex : ∃ g cs,v=.slice (some ⟨g,0,none⟩) 17 17∧w.heap[g]? = some (.cells cs 48) ∧ ∀ (i:Nat) (x:Row),tbl[i]? = some x → ∃ a f,cs[i*3]? = some (.string x.name)∧cs[i*3+1]? = some a∧cs[i*3+2]? = some f∧RowOk w x a f
theorem Fns.up{w w':World}{v:Value}(h:Fns w v)(hb:Below w.heap.size w w'):Fns w' v:=by
 obtain⟨g,cs,h1,h2,h3⟩:=h.ex
 refine⟨g,cs,h1,qb8 h2 hb,fun i x hx => ?_⟩
 obtain⟨a,f,h4,h5,h6,h7⟩:=h3 i x hx
 exact⟨a,f,h4,h5,h6,h7.up hb⟩
end Go.Proofs.YtldkgbnmaefaaaaGreatDoor.Fu
namespace Go.Proofs.YtldkgbnmaefaaaaGreatDoor.Fu
open Go.RowKit
set_option linter.unusedVariables false
set_option linter.unusedSimpArgs false
structure Rd (w:World) (B:Nat) (v:Value) (l:List BA):Prop where
 ex : ∃ A c,v=.slice A l.length c∧l.length≤c∧c≤maxLen∧(0<l.length → ∃ g o,A=some ⟨g,o,none⟩∧g<B ∧ ∀ (i:Nat) (x:BA),l[i]? = some x→w.cell? ⟨g,o+i,none⟩=some (.string x))
theorem Rd.keep{w w':World}{B:Nat}{v:Value}{l:List BA}(h:Rd w B v l)(hk : ∀ p:Addr,p.block<B→w'.cell? p=w.cell? p):Rd w' B v l:=by
 obtain⟨A,c,h1,h2,h3,h4⟩:=h.ex
 refine⟨A,c,h1,h2,h3,fun hn => ?_⟩
 obtain⟨g,o,h5,h6,h7⟩:=h4 hn
 exact⟨g,o,h5,h6,fun i x hx=>(hk _ h6).trans (h7 i x hx)⟩
theorem Rd.more{w:World}{B B':Nat}{v:Value}{l:List BA}(h:Rd w B v l)(hB:B≤B'):Rd w B' v l:=by
 obtain⟨A,c,h1,h2,h3,h4⟩:=h.ex
 exact⟨A,c,h1,h2,h3,fun hn=>by
  obtain⟨g,o,h5,h6,h7⟩:=h4 hn
  exact⟨g,o,h5,by omega,h7⟩⟩
theorem Rd.up{w w':World}{v:Value}{l:List BA}(h:Rd w w.heap.size v l)(hb:Below w.heap.size w w'):Rd w' w'.heap.size v l:=(h.keep fun _ hp=>hb.cell hp).more hb.size
theorem Rd.new{w:World}{cs:Array Value}{t:TypeId}(l:List BA)(hc:cs=(l.map Value.string).toArray)(hl:l.length≤100000):Rd (w.alloc (.cells cs t)) (w.alloc (.cells cs t)).heap.size (.slice (some ⟨w.heap.size,0,none⟩) l.length l.length) l:=by
 refine⟨_,_,rfl,Nat.le_refl _,by simp only[maxLen];omega,fun _=>⟨_,_,rfl,by simp,fun i x hx => ?_⟩⟩
 rw[cell_of_row _ _ _ cs t (0,0) (heap_alloc_new w _),hc]
 simp[hx]
theorem Rd.nil(w:World):Rd w w.heap.size (.slice none 0 0) []:=⟨none,0,rfl,Nat.le_refl _,by simp[maxLen],fun h=>absurd h (by simp)⟩
theorem qhy(s:BA):s.toList.isEmpty=decide (s.size=0):=by
 have hz:=Lib.size_eq s
 rw[Lib.toList_data]
 by_cases h:s.size=0
 ·have:s.data.toList=[]:=by rw[←List.length_eq_zero_iff];omega
  rw[this,decide_eq_true h];rfl
 ·have:s.data.toList≠[]:=fun e=>h (by rw[e] at hz;simpa using hz)
  rw[decide_eq_false h,List.isEmpty_eq_false_iff]
  exact this
theorem xec(l:List UInt8):(Sf.tr l).length≤l.length:=by
 have h1:(Sf.trL (Sf.trR l)).length≤(Sf.trR l).length:=(List.dropWhile_sublist _).length_le
 have h2:(Sf.trR l).length≤l.length:=by
  unfold Sf.trR
  rw[List.length_reverse]
  have:=(List.dropWhile_sublist Sf.spc (l:=l.reverse)).length_le
  rwa [List.length_reverse] at this
 rw[Sf.qpx];omega
theorem qbd(s:BA):(trm s).size≤s.size:=by
 have h:=xec s.data.toList
 have h1:=Lib.size_eq s
 have h2:=Lib.size_eq (trm s)
 have h3:(trm s).data.toList=Sf.tr s.data.toList:=rfl
 rw[h3] at h2
 omega
theorem qtk(s:BA)(w:World)(hs:s.size≤4294967281):Calls Tryz.prog 79 #[.string s] w fun e w'=>e=.returned (.string (trm s))∧Below w.heap.size w w':=Sf.qya s w hs
theorem qnc{w w1:World}{o p:Obj}(hb:Below ((w.alloc o).alloc p).heap.size ((w.alloc o).alloc p) w1):Below w.heap.size w w1 :=
 (((Below.refl _ w).alloc (Nat.le_refl _) o).alloc (by simp) p).trans (hb.mono (by simp;omega))
theorem qnb{w W:World}(h:Below w.heap.size w W)(k i j:Nat)(u v:Value):Below w.heap.size w ((W.setCell ⟨w.heap.size+k,i,none⟩ u).setCell ⟨w.heap.size+k,j,none⟩ v) :=
 (h.setCell (p:=⟨w.heap.size+k,i,none⟩) (Nat.le_add_right _ _) u).setCell (p:=⟨w.heap.size+k,j,none⟩) (Nat.le_add_right _ _) v
theorem qod{w W:World}(h:Below w.heap.size w W)(k i j:Nat)(u v:Value)(o:Obj):Below w.heap.size w (((W.setCell ⟨w.heap.size+k,i,none⟩ u).setCell ⟨w.heap.size+k,j,none⟩ v).alloc o) :=
 (qnb h k i j u v).alloc (qnb h k i j u v).size o
theorem q6g(x:Int)(t:BA)(w:World)(ht:t.size≤100000) :
  Calls Tryz.prog 43 #[.agg #[.int .i64 0,.int .i64 x],.string t] w fun e w'=>e=.returned (.tuple #[.agg #[.string (trm t),.int .i64 0],.int .i64 0])∧Below w.heap.size w w':=by
 have HT:=hid (fun w=>qtk t w (by omega))
 go_enter Tryz.func43,Tryz.ntmps43
 go_wp2_with fail
 refine(HT.out _).mono ?_
 rintro e w1⟨rfl,hb⟩
 obtain⟨hc,hf⟩:=qad hb
 have hz:w.heap.size+1<w1.heap.size:=by have:=hb.size;simp at this;omega
 have HB:=hid (qnc hb)
 clear hb
 go_wp2
 exact bodyPost_ret (v := .tuple #[.agg #[.string (trm t),.int .i64 0],.int .i64 0]) (by simp[results,Tryz.results43,go_sem,hc,hz]) rfl ⟨rfl,qnb HB.out 1 0 1 _ _⟩
theorem q6f(x:Int)(t:BA)(w:World) :
  Calls Tryz.prog 43 #[.agg #[.int .i64 1,.int .i64 x],.string t] w fun e w'=>e=.returned (.tuple #[.agg #[.string t,.int .i64 0],.int .i64 0])∧Below w.heap.size w w':=by
 go_enter Tryz.func43,Tryz.ntmps43
 go_wp2
 exact bodyPost_ret (v := .tuple #[.agg #[.string t,.int .i64 0],.int .i64 0]) (by simp[results,Tryz.results43,go_sem]) rfl ⟨rfl,((Below.refl _ w).alloc (Nat.le_refl _) _).alloc (by simp) _⟩
theorem q6e(x:Int)(t:BA)(w:World)(ht:t.size≤1000)(hT:Nu.Tb w) :
  Calls Tryz.prog 43 #[.agg #[.int .i64 2,.int .i64 x],.string t] w fun e w'=>e=.returned (.tuple #[.agg #[.string (rd1 ⟨2,x⟩ t).a.s,.int .i64 (rd1 ⟨2,x⟩ t).a.n],.int .i64 (rd1 ⟨2,x⟩ t).e])∧Below w.heap.size w w':=by
 have HT:=hid (fun w=>qtk t w (by omega))
 have hle:=qbd t
 by_cases h0:(trm t).size=0
 ·rw[show rd1 ⟨2,x⟩ t=⟨⟨em,x⟩,0⟩ by rw[qwc];unfold qbi;rw[if_pos h0];rfl]
  have hd:=qhy (trm t)
  rw[decide_eq_true h0] at hd
  clear h0 hle
  generalize trm t=T at HT hd
  go_enter Tryz.func43,Tryz.ntmps43
  go_wp2_with fail
  refine(HT.out _).mono ?_
  rintro e w1⟨rfl,hb⟩
  obtain⟨hc,hf⟩:=qad hb
  have hz:w.heap.size+1<w1.heap.size:=by have:=hb.size;simp at this;omega
  have HB:=hid (qnc hb)
  clear hb
  go_wp2
  exact bodyPost_ret (v := .tuple #[.agg #[.string em,.int .i64 x],.int .i64 0]) (by simp[results,Tryz.results43,go_sem,hc,hz,em,za]) rfl ⟨rfl,qnb HB.out 1 0 1 _ _⟩
 ·have hd:=qhy (trm t)
  rw[decide_eq_false h0] at hd
  have HP:Hid (∀ W,Nu.Tb W→_):=hid (fun W hW=>Nu.qew (trm t) W hW (by omega))
  obtain⟨n,d,ee,hp⟩ : ∃ n d ee,Nu.parse (trm t).data.toList=⟨n,d,ee⟩:=⟨_,_,_,rfl⟩
  have hTw:Hid (∀ W,Below w.heap.size w W→Nu.Tb W):=hid (fun W hW=>hT.below hW)
  have hi:qbi (trm t) x=if ee=0 then (if d=1 then⟨n,0⟩ else⟨0,7⟩) else⟨0,ee⟩:=by unfold qbi;rw[if_neg h0,hp]
  rw[hp] at HP
  rw[qwc,hi]
  clear hp hi h0 hle hT
  generalize trm t=T at HT hd HP
  by_cases he:ee=0
  ·subst he
   by_cases hd1:d=1
   ·subst hd1
    rw[if_pos rfl,if_pos rfl,if_pos rfl]
    go_enter Tryz.func43,Tryz.ntmps43
    go_wp2_with fail
    refine(HT.out _).mono ?_
    rintro e w1⟨rfl,hb⟩
    obtain⟨hc,hf⟩:=qad hb
    have hz:w.heap.size+1<w1.heap.size:=by have:=hb.size;simp at this;omega
    have HB:=hid (qnc hb)
    clear hb
    go_wp2_with fail
    refine(HP.out _ (hTw.out _ HB.out)).mono ?_
    rintro e w2⟨rfl,hb2⟩
    obtain⟨hc2,hf2⟩:=qad hb2
    have hz2:w.heap.size+1<w2.heap.size:=by have:=hb2.size;omega
    have HB2:=hid (HB.out.trans (hb2.mono HB.out.size))
    clear hb2
    go_wp2
    exact bodyPost_ret (v := .tuple #[.agg #[.string em,.int .i64 n],.int .i64 0]) (by simp[results,Tryz.results43,go_sem,hc,hz,hc2,hz2,em,za]) rfl ⟨rfl,qod HB2.out 1 0 1 _ _ _⟩
   ·rw[if_pos rfl,if_neg hd1,if_neg (show ¬ ((7:Int)=0) by decide)]
    have hd2:(d != 1)=true:=by rw[bne_iff_ne];exact hd1
    clear hd1
    go_enter Tryz.func43,Tryz.ntmps43
    go_wp2_with fail
    refine(HT.out _).mono ?_
    rintro e w1⟨rfl,hb⟩
    obtain⟨hc,hf⟩:=qad hb
    have hz:w.heap.size+1<w1.heap.size:=by have:=hb.size;simp at this;omega
    have HB:=hid (qnc hb)
    clear hb
    go_wp2_with fail
    refine(HP.out _ (hTw.out _ HB.out)).mono ?_
    rintro e w2⟨rfl,hb2⟩
    obtain⟨hc2,hf2⟩:=qad hb2
    have hz2:w.heap.size+1<w2.heap.size:=by have:=hb2.size;omega
    have HB2:=hid (HB.out.trans (hb2.mono HB.out.size))
    clear hb2
    go_wp2
    exact bodyPost_ret (v := .tuple #[.agg #[.string em,.int .i64 0],.int .i64 7]) (by simp[results,Tryz.results43,go_sem,hc,hz,hc2,hz2,em,za]) rfl ⟨rfl,qod HB2.out 1 0 1 _ _ _⟩
  ·rw[if_neg he,if_neg he]
   have he2:(ee != 0)=true:=by rw[bne_iff_ne];exact he
   clear he
   go_enter Tryz.func43,Tryz.ntmps43
   go_wp2_with fail
   refine(HT.out _).mono ?_
   rintro e w1⟨rfl,hb⟩
   obtain⟨hc,hf⟩:=qad hb
   have hz:w.heap.size+1<w1.heap.size:=by have:=hb.size;simp at this;omega
   have HB:=hid (qnc hb)
   clear hb
   go_wp2_with fail
   refine(HP.out _ (hTw.out _ HB.out)).mono ?_
   rintro e w2⟨rfl,hb2⟩
   obtain⟨hc2,hf2⟩:=qad hb2
   have hz2:w.heap.size+1<w2.heap.size:=by have:=hb2.size;omega
   have HB2:=hid (HB.out.trans (hb2.mono HB.out.size))
   clear hb2
   go_wp2
   exact bodyPost_ret (v := .tuple #[.agg #[.string em,.int .i64 0],.int .i64 ee]) (by simp[results,Tryz.results43,go_sem,hc,hz,hc2,hz2,em,za]) rfl ⟨rfl,qod HB2.out 1 0 1 _ _ _⟩
def q8v(p:Pm):Prop:=p.k=0∨p.k=1∨p.k=2
theorem qvz(p:Pm)(hp:q8v p)(t:BA)(w:World)(ht:t.size≤1000)(hT:Nu.Tb w) :
  Calls Tryz.prog 43 #[.agg #[.int .i64 p.k,.int .i64 p.x],.string t] w fun e w'=>e=.returned (.tuple #[.agg #[.string (rd1 p t).a.s,.int .i64 (rd1 p t).a.n],.int .i64 (rd1 p t).e])∧Below w.heap.size w w':=by
 obtain⟨k,x⟩:=p
 rcases hp with h | h | h<;>(simp only at h;subst h)
 ·exact q6g x t w (by omega)
 ·exact q6f x t w
 ·exact q6e x t w ht hT
end Go.Proofs.YtldkgbnmaefaaaaGreatDoor.Fu
namespace Go.Proofs.YtldkgbnmaefaaaaGreatDoor.Fu
open Go.RowKit
set_option linter.unusedVariables false
set_option linter.unusedSimpArgs false
def rdE(l:List BA):Nat→List Pm→Int
 | _,[]=>0
 |i,p :: ps=>if (rd1 p (raw l i)).e=0 then rdE l (i+1) ps else (rd1 p (raw l i)).e
def qce(l:List BA)(ps:List Pm)(j:Nat):Ag:=match ps[j]? with
 |some p=>(rd1 p (raw l j)).a
 |none=>za
def upK(l:List BA)(ps:List Pm)(k j:Nat):Ag:=if j<k then qce l ps j else za
def qba(a b c d:Ag):Array Value := #[.string a.s,.int .i64 a.n,.string b.s,.int .i64 b.n,.string c.s,.int .i64 c.n,.string d.s,.int .i64 d.n]
def q4m(l:List BA)(ps:List Pm)(k:Nat):Array Value:=qba (upK l ps k 0) (upK l ps k 1) (upK l ps k 2) (upK l ps k 3)
def rdV(l:List BA)(ps:List Pm):Array Value:=if rdE l 0 ps=0 then q4m l ps ps.length else qba za za za za
theorem qq6{l:List BA}{ps:List Pm}{k:Nat}(hk:k<ps.length):rdE l k (ps.drop k)=if (rd1 ps[k] (raw l k)).e=0 then rdE l (k+1) (ps.drop (k+1)) else (rd1 ps[k] (raw l k)).e:=by
 rw[List.drop_eq_getElem_cons hk];rfl
theorem qtr{l:List BA}{ps:List Pm}{k:Nat}(hk:k<ps.length):qce l ps k=(rd1 ps[k] (raw l k)).a:=by
 unfold qce;rw[List.getElem?_eq_getElem hk]
theorem qtu(l:List BA)(ps:List Pm){k:Nat}(hk:k<4):((q4m l ps k).setIfInBounds (k*2) (.string (qce l ps k).s)).setIfInBounds (k*2+1) (.int .i64 (qce l ps k).n)=q4m l ps (k+1):=by
 have:k=0∨k=1∨k=2∨k=3:=by omega
 rcases this with rfl | rfl | rfl | rfl<;>rfl
theorem qwl{w:World}{g i j:Nat}{cs:Array Value}{t:TypeId}(h:w.heap[g]? = some (.cells cs t))(u v:Value):((w.setCell ⟨g,i,none⟩ u).setCell ⟨g,j,none⟩ v).heap[g]? = some (.cells ((cs.setIfInBounds i u).setIfInBounds j v) t):=by
 simp[World.setCell,Array.getElem?_modify,h]
theorem qvr{ps:List Pm}{k:Nat}(hk:k<ps.length):(qea ps)[k*2]? = some (.int .i64 ps[k].k)∧(qea ps)[k*2+1]? = some (.int .i64 ps[k].x):=by
 induction ps generalizing k with
 |nil=>exact absurd hk (by simp)
 |cons p r ih =>
  cases k with
  |zero=>exact⟨rfl,rfl⟩
  |succ k =>
   have:=ih (k:=k) (by simpa using hk)
   rw[show(k+1)*2=k*2+2 by omega]
   exact this
theorem al1{w w':World}{o:Obj}(hb:Below (w.alloc o).heap.size (w.alloc o) w'):Below w.heap.size w w'∧w'.heap[w.heap.size]? = some o :=
 ⟨((Below.refl _ w).alloc (Nat.le_refl _) o).trans (hb.mono (by simp)),qb8 (heap_alloc_new w o) hb⟩
theorem qow{w:World}{g:Nat}{cs:Array Value}{t:TypeId}(h:w.heap[g]? = some (.cells cs t))(i:Nat):w.frozen? ⟨g,i,none⟩=false:=by
 simp[World.frozen?,h]
theorem q2n{w:World}{g k:Nat}{a b c d:Ag}{t:TypeId}(h:w.heap[g]? = some (.cells (qba a b c d) t))(hk:k<4) : ∃ u v,w.cell? ⟨g,k*2,none⟩=some u∧w.cell? ⟨g,k*2+1,none⟩=some v∧w.frozen? ⟨g,k*2,none⟩=false∧w.frozen? ⟨g,k*2+1,none⟩=false:=by
 have:k=0∨k=1∨k=2∨k=3:=by omega
 rcases this with rfl | rfl | rfl | rfl<;>exact⟨_,_,qab h rfl,qab h rfl,qow h _,qow h _⟩
structure C8 (w:World) (g:Nat) (a b c d:Ag):Prop where
 c0:w.cell? ⟨g,0,none⟩=some (.string a.s)
 c1:w.cell? ⟨g,1,none⟩=some (.int .i64 a.n)
 c2:w.cell? ⟨g,2,none⟩=some (.string b.s)
 c3:w.cell? ⟨g,3,none⟩=some (.int .i64 b.n)
 c4:w.cell? ⟨g,4,none⟩=some (.string c.s)
 c5:w.cell? ⟨g,5,none⟩=some (.int .i64 c.n)
 c6:w.cell? ⟨g,6,none⟩=some (.string d.s)
 c7:w.cell? ⟨g,7,none⟩=some (.int .i64 d.n)
 fz : ∀ i,w.frozen? ⟨g,i,none⟩=false
theorem C8.of{w:World}{g:Nat}{a b c d:Ag}{t:TypeId}(h:w.heap[g]? = some (.cells (qba a b c d) t)):C8 w g a b c d :=
 ⟨qab h rfl,qab h rfl,qab h rfl,qab h rfl,qab h rfl,qab h rfl,qab h rfl,qab h rfl,qow h⟩
structure RdS (w W:World) (l:List BA) (ps:List Pm) (k:Nat):Prop where
 bl:Below w.heap.size w W
 res:W.heap[w.heap.size+1]? = some (.cells (qba za za za za) 55)
 arr:W.heap[w.heap.size+1+1]? = some (.cells (q4m l ps k) 55)
 err:rdE l 0 ps=rdE l k (ps.drop k)
theorem RdS.store{w W:World}{l:List BA}{ps:List Pm}{k:Nat}(h:RdS w W l ps k)(hk:k<ps.length)(hk4:k<4)(he:(rd1 ps[k] (raw l k)).e=0)(o:Obj) :
  RdS w (((W.setCell ⟨w.heap.size+1+1,k*2,none⟩ (.string (qce l ps k).s)).setCell ⟨w.heap.size+1+1,k*2+1,none⟩ (.int .i64 (qce l ps k).n)).alloc o) l ps (k+1):=by
 have hx:=qwl (i:=k*2) (j:=k*2+1) h.arr (.string (qce l ps k).s) (.int .i64 (qce l ps k).n)
 rw[qtu l ps hk4] at hx
 have hb:=(h.bl.setCell (p:=⟨w.heap.size+1+1,k*2,none⟩) (by simp only;omega) (.string (qce l ps k).s)).setCell (p:=⟨w.heap.size+1+1,k*2+1,none⟩) (by simp only;omega) (.int .i64 (qce l ps k).n)
 refine⟨hb.alloc hb.size o,(Below.heap_alloc _ _ _ ?_).trans ((Below.heap_setCell _ ⟨w.heap.size+1+1,k*2+1,none⟩ _ _ (by simp)).trans ((Below.heap_setCell _ ⟨w.heap.size+1+1,k*2,none⟩ _ _ (by simp)).trans h.res)),(Below.heap_alloc _ _ _ (qac hx)).trans hx,?_⟩
 ·have:=qac hx;omega
 ·rw[h.err,qq6 hk,if_pos he]
theorem qgj{w W:World}(h:Below w.heap.size w W)(g:Nat)(hg:w.heap.size≤g)(a b c d e f i j:Value):Below w.heap.size w ((((((((W.setCell ⟨g,0,none⟩ a).setCell ⟨g,1,none⟩ b).setCell ⟨g,2,none⟩ c).setCell ⟨g,3,none⟩ d).setCell ⟨g,4,none⟩ e).setCell ⟨g,5,none⟩ f).setCell ⟨g,6,none⟩ i).setCell ⟨g,7,none⟩ j) :=
 (((((((h.setCell (p:=⟨g,0,none⟩) hg a).setCell (p:=⟨g,1,none⟩) hg b).setCell (p:=⟨g,2,none⟩) hg c).setCell (p:=⟨g,3,none⟩) hg d).setCell (p:=⟨g,4,none⟩) hg e).setCell (p:=⟨g,5,none⟩) hg f).setCell (p:=⟨g,6,none⟩) hg i).setCell (p:=⟨g,7,none⟩) hg j
theorem qwd{l:List BA}{ps:List Pm}(h:rdE l 0 ps≠0):rdV l ps=qba za za za za:=if_neg h
theorem q2a{l:List BA}{ps:List Pm}(h:rdE l 0 ps=0):rdV l ps=q4m l ps ps.length:=if_pos h
theorem qzw{w:World}{x:Row}{a f:Value}(hrow:RowOk w x a f)(hps:x.ps.length≤4)(hpk : ∀ p∈x.ps,q8v p){v:Value}{l:List BA}(hv:Rd w w.heap.size v l)(hl : ∀ i,(raw l i).size≤1000)(hlen:l.length≤1000)(hT:Nu.Tb w) :
  Calls Tryz.prog 25 #[.agg #[.string x.name,a,f],v] w fun e w'=>e=.returned (.tuple #[.agg (rdV l x.ps),.int .i64 (rdE l 0 x.ps)])∧Below w.heap.size w w':=by
 obtain⟨⟨gp,rfl,hgp⟩,hfn⟩:=hrow
 obtain⟨ff,cf,rfl⟩ : ∃ g c,f=.func (.func g) #[] c:=by
  obtain⟨nm,ps,fk⟩:=x
  cases fk with
  |dir f=>exact⟨f,#[],hfn⟩
  |chg f=>obtain⟨c,h1,h2⟩:=hfn;exact⟨_,_,h1⟩
  |pd f=>obtain⟨c,h1,h2⟩:=hfn;exact⟨_,_,h1⟩
 clear hfn
 obtain⟨nm,ps,fk⟩:=x
 simp only at hps hpk hgp ⊢
 obtain⟨A,c,rfl,hlc,hcm,hcell⟩:=hv.ex
 unfold maxLen at hcm
 have HC:=hid hcell
 have HGP:=hid (And.intro hgp hT)
 have HL:=hid hl
 have HPK:=hid hpk
 have hgl:=qac hgp
 clear hcell hgp hl hpk hv hT
 go_enter Tryz.func25,Tryz.ntmps25
 go_wp2_with fail
 go_loopw [15] (fun iv wr => ∃ k:Nat,iv=.int .i64 (k:Int)∧k≤ps.length∧Hid (RdS w wr l ps k)) (fun i _=>ps.length-(intOf i).toNat)
 case atStart =>
  exact⟨0,by go_num,Nat.zero_le _,hid ⟨(((Below.refl _ w).alloc (Nat.le_refl _) _).alloc (by simp) _).alloc (by simp;omega) _,by have h:=heap_alloc_new (w.alloc (Obj.cells #[Value.string nm,.slice (some ⟨gp,0,none⟩) ps.length ps.length,.func (.func ff) #[] cf] 48)) (Obj.cells (qba za za za za) 55);rw[World.size_alloc] at h;exact(Below.heap_alloc _ _ _ (by simp)).trans h,by have h:=heap_alloc_new ((w.alloc (Obj.cells #[Value.string nm,.slice (some ⟨gp,0,none⟩) ps.length ps.length,.func (.func ff) #[] cf] 48)).alloc (Obj.cells (qba za za za za) 55)) (Obj.cells (qba za za za za) 55);rw[World.size_alloc,World.size_alloc] at h;exact h,rfl⟩⟩
 case round =>
  obtain⟨k,rfl,hk,HS⟩:=hrel
  have hz:w.heap.size+2<wr.heap.size:=qac HS.out.arr
  by_cases hlt:k<ps.length
  ·have hki:(k:Int)<(ps.length:Int):=by omega
   obtain⟨pk,hpk⟩ : ∃ pk,ps[k]=pk:=⟨_,rfl⟩
   have hpo:q8v pk:=by rw[←hpk];exact HPK.out _ (List.getElem_mem hlt)
   obtain⟨q0,q1⟩:=qvr hlt
   have hg2:wr.heap[gp]? = some (.cells (qea ps).toArray 80):=qb8 HGP.out.1 HS.out.bl
   have c0:wr.cell? ⟨gp,k*2,none⟩=some (.int .i64 pk.k):=qab hg2 (by rw[←hpk];simpa using q0)
   have c1:wr.cell? ⟨gp,k*2+1,none⟩=some (.int .i64 pk.x):=qab hg2 (by rw[←hpk];simpa using q1)
   have hgr:gp<wr.heap.size:=by omega
   have HEa:=hid (qq6 (l:=l) hlt)
   have HA:=hid (qtr (l:=l) hlt)
   rw[hpk] at HEa HA
   have HP:=hid (fun(W:World) (hW:Below wr.heap.size wr W)=>qvz pk hpo (raw l k) W (HL.out k) (HGP.out.2.below (HS.out.bl.trans (hW.mono HS.out.bl.size))))
   obtain⟨⟨s1,n1⟩,e1,hrd⟩ : ∃ a:Ag,∃ e1,rd1 pk (raw l k)=⟨a,e1⟩:=⟨_,_,rfl⟩
   have HE:Hid ((rd1 ps[k] (raw l k)).e=e1∧rdE l k (ps.drop k)=if e1=0 then rdE l (k+1) (ps.drop (k+1)) else e1):=hid ⟨by rw[hpk,hrd],by rw[HEa.out,hrd]⟩
   rw[hrd] at HA HP
   clear q0 q1 hg2 hpk hpo hrd HEa
   by_cases hkl:k<l.length
   ·obtain⟨g,o,rfl,hg,hcl⟩:=HC.out (by omega)
    have ct:wr.cell? ⟨g,o+k,none⟩=some (.string (raw l k)):=(HS.out.bl.cell (p:=⟨g,o+k,none⟩) hg).trans (hcl k _ (by rw[qbm hkl];exact List.getElem?_eq_getElem hkl))
    have hkli:(k:Int)<(l.length:Int):=by omega
    have hgw:g<wr.heap.size:=by omega
    clear hcl
    generalize raw l k=R at ct HP
    go_wp2_with fail
    refine(HP.out _ ((Below.refl _ _).alloc (Nat.le_refl _) _)).mono ?_
    rintro e w2⟨rfl,hb⟩
    obtain⟨hl2,hpb⟩:=al1 hb
    have hS2:RdS w w2 l ps k:=⟨HS.out.bl.trans (hl2.mono HS.out.bl.size),qb8 HS.out.res hl2,qb8 HS.out.arr hl2,HS.out.err⟩
    have hz2:w.heap.size+1+1<w2.heap.size:=qac hS2.arr
    have hz2':w.heap.size+1<w2.heap.size:=by omega
    have S2:=hid hS2
    clear hb hl2 hpb hS2 HP c0 c1 ct
    by_cases he:e1=0
    ·subst he
     obtain⟨u0,u1,x0,x1,x2,x3⟩:=q2n (k:=k) S2.out.arr (by omega)
     have hk4:(k:Int)<4:=by omega
     have hst:=S2.out.store hlt (by omega) HE.out.1 (.cells #[.string s1,.int .i64 n1] 53)
     rw[HA.out] at hst
     have HST:=hid hst
     clear hst
     go_wp2_with fail
     go_roundw
     case rel=>exact⟨k+1,by go_num,by omega,HST⟩
     case measure=>simp[intOf];omega
    ·have he2:(e1 != 0)=true:=by rw[bne_iff_ne];exact he
     have HZ:Hid (rdE l 0 ps=e1):=hid (S2.out.err.trans (HE.out.2.trans (if_neg he)))
     have HV:Hid (rdV l ps=qba za za za za):=hid (qwd (by rw[HZ.out];exact he))
     clear he
     obtain⟨r0,r1,r2,r3,r4,r5,r6,r7,rf⟩:=C8.of S2.out.res
     go_wp2
     refine bodyPost_ret (v := .tuple #[.agg (qba za za za za),.int .i64 e1]) (by simp[results,Tryz.results25,go_sem,r0,r1,r2,r3,r4,r5,r6,r7,hz2,hz2',qba,za,em]) rfl ⟨by rw[HZ.out,HV.out],?_⟩
     exact(qgj S2.out.bl _ (by omega) _ _ _ _ _ _ _ _).alloc (qgj S2.out.bl _ (by omega) _ _ _ _ _ _ _ _).size _
   ·have hkli : ¬ (k:Int)<(l.length:Int):=by omega
    rw[qjn hkl] at HP
    unfold em at HP
    go_wp2_with fail
    refine(HP.out _ ((Below.refl _ _).alloc (Nat.le_refl _) _)).mono ?_
    rintro e w2⟨rfl,hb⟩
    obtain⟨hl2,hpb⟩:=al1 hb
    have hS2:RdS w w2 l ps k:=⟨HS.out.bl.trans (hl2.mono HS.out.bl.size),qb8 HS.out.res hl2,qb8 HS.out.arr hl2,HS.out.err⟩
    have hz2:w.heap.size+1+1<w2.heap.size:=qac hS2.arr
    have hz2':w.heap.size+1<w2.heap.size:=by omega
    have S2:=hid hS2
    clear hb hl2 hpb hS2 HP c0 c1
    by_cases he:e1=0
    ·subst he
     obtain⟨u0,u1,x0,x1,x2,x3⟩:=q2n (k:=k) S2.out.arr (by omega)
     have hk4:(k:Int)<4:=by omega
     have hst:=S2.out.store hlt (by omega) HE.out.1 (.cells #[.string s1,.int .i64 n1] 53)
     rw[HA.out] at hst
     have HST:=hid hst
     clear hst
     go_wp2_with fail
     go_roundw
     case rel=>exact⟨k+1,by go_num,by omega,HST⟩
     case measure=>simp[intOf];omega
    ·have he2:(e1 != 0)=true:=by rw[bne_iff_ne];exact he
     have HZ:Hid (rdE l 0 ps=e1):=hid (S2.out.err.trans (HE.out.2.trans (if_neg he)))
     have HV:Hid (rdV l ps=qba za za za za):=hid (qwd (by rw[HZ.out];exact he))
     clear he
     obtain⟨r0,r1,r2,r3,r4,r5,r6,r7,rf⟩:=C8.of S2.out.res
     go_wp2
     refine bodyPost_ret (v := .tuple #[.agg (qba za za za za),.int .i64 e1]) (by simp[results,Tryz.results25,go_sem,r0,r1,r2,r3,r4,r5,r6,r7,hz2,hz2',qba,za,em]) rfl ⟨by rw[HZ.out,HV.out],?_⟩
     exact(qgj S2.out.bl _ (by omega) _ _ _ _ _ _ _ _).alloc (qgj S2.out.bl _ (by omega) _ _ _ _ _ _ _ _).size _
  ·have hki : ¬ (k:Int)<(ps.length:Int):=by omega
   obtain rfl:k=ps.length:=by omega
   have HZ:Hid (rdE l 0 ps=0):=hid (by rw[HS.out.err,List.drop_length];rfl)
   have HV:Hid (rdV l ps=q4m l ps ps.length):=hid (q2a HZ.out)
   have hz2:w.heap.size+1<wr.heap.size:=by omega
   obtain⟨r0,r1,r2,r3,r4,r5,r6,r7,rf⟩:=C8.of HS.out.res
   obtain⟨y0,y1,y2,y3,y4,y5,y6,y7,yf⟩:=C8.of HS.out.arr
   obtain⟨a0,h0⟩ : ∃ a0,upK l ps ps.length 0=a0:=⟨_,rfl⟩
   obtain⟨a1,h1⟩ : ∃ a1,upK l ps ps.length 1=a1:=⟨_,rfl⟩
   obtain⟨a2,h2⟩ : ∃ a2,upK l ps ps.length 2=a2:=⟨_,rfl⟩
   obtain⟨a3,h3⟩ : ∃ a3,upK l ps ps.length 3=a3:=⟨_,rfl⟩
   have HV2:Hid (rdV l ps=qba a0 a1 a2 a3):=hid (by rw[HV.out,←h0,←h1,←h2,←h3];rfl)
   rw[h0] at y0 y1
   rw[h1] at y2 y3
   rw[h2] at y4 y5
   rw[h3] at y6 y7
   clear h0 h1 h2 h3 HV
   go_wp2_with fail
   refine bodyPost_ret (v := .tuple #[.agg (qba a0 a1 a2 a3),.int .i64 0]) (by simp[results,Tryz.results25,go_sem,r0,r1,r2,r3,r4,r5,r6,r7,hz2,qba]) rfl ⟨by rw[HZ.out,HV2.out],?_⟩
   exact qgj HS.out.bl _ (by omega) _ _ _ _ _ _ _ _
end Go.Proofs.YtldkgbnmaefaaaaGreatDoor.Fu
