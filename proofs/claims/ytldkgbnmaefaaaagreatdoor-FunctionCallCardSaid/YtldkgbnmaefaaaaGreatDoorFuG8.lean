import Derived.Test.YtldkgbnmaefaaaaGreatDoorFuG4
import Derived.Test.YtldkgbnmaefaaaaGreatDoorShelf3
import Derived.Sort.OwnSorted
import Derived.Maps.OwnOps
import Derived.Sort.KeysCollected
import Derived.Test.YtldkgbnmaefaaaaGreatDoorFuG7
import Derived.Laws.StructEq
import Derived.Test.YtldkgbnmaefaaaaGreatDoorFuG2
import Derived.Test.YtldkgbnmaefaaaaGreatDoorCaH7
import Derived.Test.YtldkgbnmaefaaaaGreatDoorRows
import Derived.RangeFuncOwn
import Derived.Lib.LaidTab
import Derived.Shelf.LaysM
import Derived.ProofKit
import Derived.OpenShut
import Derived.ShutString
import Derived.Deep.Slices
import Derived.ChangeSlices
set_option maxRecDepth 100000
set_option maxHeartbeats 4000000
namespace Go.Proofs.YtldkgbnmaefaaaaGreatDoor.Fu
open Go.RowKit Go.Shelf Go.Sort
set_option linter.unusedVariables false
set_option linter.unusedSimpArgs false
theorem q4g:(Tryz.prog.info? 9).map (fun i=>(i.zero,i.size,i.bytes))=some (some (.string ⟨#[]⟩),1,16):=by kernel_rfl
theorem qsu(w:World)(xs:List Value)(t:TypeId) : ∀ j u,xs[j]? = some u→(w.alloc (.cells xs.toArray t)).cell? ((⟨w.heap.size,0,none⟩:Addr).add j)=some u:=by
 intro j u h
 have hadd:(⟨w.heap.size,0,none⟩:Addr).add j=⟨w.heap.size,j,none⟩:=by unfold Addr.add;split<;>simp_all
 rw[hadd,cell_of_row _ _ j xs.toArray t (0,0) (heap_alloc_new w _)]
 simpa using h
theorem qss{w w':World}{base e k:Nat}{v:Value}{m:Nat}{xs:List Value}(ho:w.ownsRow base e k v m xs)(hg:w.grownBy w' v.ownBlock)(hb:base≤w.heap.size):Below base w w' :=
 (Below.refl _ w).grown hg hb fun j hj=>(World.ownsRow.lt ho j hj).1
def nmU:List (List UInt8):=tbl.map fun x=>x.name.data.toList
theorem qez:nmU.length=17:=rfl
theorem qq9:(nmU.mergeSort fun x y=>decide (x≤y))=qel.map fun s=>s.data.toList:=by
 have hp:nmU.Perm (qel.map fun s=>s.data.toList):=by decide
 have hs:(qel.map fun s=>s.data.toList).Pairwise (fun x y=>leB x y=true):=by decide
 exact(mergeSort_of_perm hp).trans (List.mergeSort_of_pairwise hs)
def q0i(w:World)(base:Nat)(v:Value)(l:List (List UInt8)):Prop:=w.ownsRow base 9 1 v l.length (l.map encStr)
theorem q0i.nil(w:World)(base:Nat):q0i w base (.slice none 0 0) []:=World.ownsRow_nil _ _ _ _
theorem q8f{k:Nat}{y:Row}(h:tbl[k]? = some y):nmU.take (k+1)=nmU.take k++[y.name.data.toList]:=by
 have hk:k<nmU.length:=by rw[qez];exact(List.getElem?_eq_some_iff.1 h).1
 rw[List.take_succ_eq_append_getElem hk]
 congr 2
 have:nmU[k]? = some y.name.data.toList:=by unfold nmU;rw[List.getElem?_map,h];rfl
 rw[List.getElem?_eq_getElem hk] at this
 exact Option.some.inj this
def xca(w:World)(e:Ending)(w':World):Prop := ∃ g c,e=.returned (.slice (some ⟨g,0,none⟩) 17 c)∧Rd w' w'.heap.size (.slice (some ⟨g,0,none⟩) 17 c) qel∧Below w.heap.size w w'
theorem qlx(w:World):Calls Tryz.prog 14 #[] w (xca w):=by
 obtain⟨i0,hi0,hz0,hz1,hz2⟩:=info_parts q4g
 go_enter Tryz.func14,Tryz.ntmps14
 go_wp2_with fail
 refine(qee _).mono ?_
 rintro e w1⟨v,rfl,hF,hb⟩
 obtain⟨g,cs,hv,_,_⟩:=hF.ex
 have S0:=Lib.hid (And.intro hb hF)
 clear hF hb
 subst hv
 go_wp2_with fail
 go_loopw [1,6] (fun nv iv wr => ∃ k:Nat,iv=.int .i64 (k:Int)∧k≤17∧Hid (Below w1.heap.size w1 wr∧q0i wr w1.heap.size nv (nmU.take k))) (fun _ i _=>17-(intOf i).toNat)
 case atStart=>exact⟨0,by go_num,by omega,Lib.hid ⟨Below.refl _ _,q0i.nil _ _⟩⟩
 case round =>
  obtain⟨k,rfl,hk,HS⟩:=hrel
  have hs1:=HS.out.1.size
  by_cases hlt:k<17
  ·have hki:(k:Int)<17:=by omega
   obtain⟨y,hy⟩ : ∃ y,tbl[k]? = some y:=⟨_,List.getElem?_eq_getElem (by rw[qix];exact hlt)⟩
   obtain⟨g',cs',hv',hg',hrow⟩:=(S0.out.2.up HS.out.1).ex
   obtain rfl:g=g':=by injection hv' with h1;injection h1 with h1;injection h1
   obtain⟨a,f,h1,h2,h3,hok⟩:=hrow k y hy
   obtain⟨gp,np,ha⟩:=hok.ps.form
   obtain⟨gf,cf,hf⟩:=hok.fn.form
   have c0:=qab hg' h1
   have c1:=qab hg' h2
   have c2:=qab hg' h3
   have hgl:=qac hg'
   subst ha hf
   have HT:=Lib.hid (q8f hy)
   clear hrow hg' h1 h2 h3 hok hv' hy
   obtain⟨nm,hnm⟩ : ∃ nm,y.name=nm:=⟨_,rfl⟩
   rw[hnm] at c0 HT
   clear hnm
   have q2 : ∀ x,(nmU.take k).length=x→x≤17:=fun x hx=>by rw[←hx,List.length_take];omega
   have HO:=Lib.hid HS.out.2
   have HB:=Lib.hid HS.out.1
   have hX:(nmU.take k).length≤17:=q2 _ rfl
   unfold q0i at HO
   clear HS q2
   generalize nmU.take k=X at HO HT hX
   go_wp2_with (at_builtin;refine wpList_append_own _ rfl (.tmp 10) (.tmp 13) _ rfl w1.heap.size 9 i0 _ 1 16 Tryz.underlying22 hi0 hz0 hz1 hz2 rfl (by omega) u1 X.length (X.map encStr) rfl (World.ownsRow.alloc (World.ownsRow.alloc HO.out _) _) ⟨wr.heap.size+1,0,none⟩ 1 1 [.string nm] rfl rfl (by have:=qsu (wr.alloc (.cells #[.string nm,.slice (some ⟨gp,0,none⟩) np np,.func (.func gf) #[] cf] 48)) [.string nm] 9;simpa using this) (by simp[Value.oneCell']) (by simp only[maxLen];omega) (by omega) (by simp;omega) ?_;intro v2 w2 ho2 hg2 _)
   go_roundw
   case rel=>exact⟨k+1,by go_num,by omega,Lib.hid ⟨HB.out.trans (((Below.refl _ _).alloc hs1 _).trans ((((Below.refl _ _).alloc (by simp;omega) _)).trans (qss (World.ownsRow.alloc (World.ownsRow.alloc HO.out _) _) hg2 (by simp;omega)))),by rw[HT.out];unfold q0i;rw[List.length_append,List.map_append];exact ho2⟩⟩
   case measure=>simp[intOf];omega
  ·obtain rfl:k=17:=by omega
   have hki : ¬ ((17:Nat):Int)<17:=by omega
   have hO:=HS.out.2
   rw[List.take_of_length_le (by rw[qez];omega)] at hO
   have hO2:=hO
   unfold q0i at hO
   have HSB:=Lib.hid HS.out.1
   have hblk : ∃ ga cap cur,u1=.slice (some ⟨ga,0,none⟩) nmU.length cap∧wr.heap[ga]? = some (.cells cur 9 (0,0))∧nmU.length≤cap∧cap≤maxLen∧cur.size=cap*1∧cur.toList.take (nmU.length*1)=nmU.map encStr∧w1.heap.size≤ga:=by
    rcases hO.2 with⟨_,h3⟩ | ⟨g2,cap2,cur,h3,h4,h5,h6,h7,h8,h9⟩
    ·rw[qez] at h3;exact absurd h3 (by omega)
    ·exact⟨g2,cap2,cur,h3,h5,h6,h7,h8,h9,h4⟩
   obtain⟨ga,cap,cur,hu,k1,k2,k3,k4,k5,k6⟩:=hblk
   have hlt1:=qac k1
   subst hu
   rw[Nat.mul_one] at k5
   have HH:=Lib.hid (And.intro k1 (And.intro k2 (And.intro k3 (And.intro k4 k6))))
   have HSo:=Lib.hid (Tryz.slices_Sort_string ga 0 cap nmU wr (holds_of_block k1 k5) hlt1 (by rw[qez];omega))
   rw[qez] at HSo k2
   clear k1 k3 k4 k5 k6 hO hO2 HS
   go_wp2_with fail
   refine HSo.out.mono ?_
   rintro e w2⟨rfl,n,os,hw2⟩
   rw[qq9] at hw2
   have hrow2:=ownsRow_sorted (n:=n) (os:=os) (ts:=qel.map fun s=>s.data.toList) (ss:=nmU) (by rw[List.length_map,qez,qco]) (Nat.le_refl ga) HH.out.1 HH.out.2.1 HH.out.2.2.1 HH.out.2.2.2.1
   rw[←hw2] at hrow2
   have hbl:Below w1.heap.size wr w2:=by rw[hw2];exact(Below.refl _ wr).grown (grownBy_sorted _) HSB.out.size fun j hj=>by cases hj;exact HH.out.2.2.2.2
   have HR:Hid (Rd w2 w2.heap.size (.slice (some ⟨ga,0,none⟩) 17 cap) qel):=Lib.hid (by
    unfold maxLen at *
    have hr2:=hrow2
    rcases hr2.2 with⟨_,h3⟩ | ⟨g2,cap2,cur2,h3,h4,h5,h6,h7,h8,h9⟩
    ·rw[qez] at h3;exact absurd h3 (by omega)
    ·rw[qez] at h3 h6 h9
     injection h3 with h10 h11 h12
     injection h10 with h10
     injection h10 with h10
     subst h10 h12
     refine⟨_,_,rfl,by rw[qco];omega,h7,fun _=>⟨_,_,rfl,qac h5,fun i x hx => ?_⟩⟩
     refine qab h5 ?_
     rw[Nat.zero_add]
     have hi:i<17:=by rw[←qco];exact(List.getElem?_eq_some_iff.1 hx).1
     have h13:((qel.map fun s=>s.data.toList).map encStr)[i]? = some (.string x):=by
      rw[List.getElem?_map,List.getElem?_map,hx];rfl
     rw[←h9,List.getElem?_take_of_lt (by omega)] at h13
     simpa using h13)
   have HB2:=Lib.hid (S0.out.1.trans ((HSB.out.trans hbl).mono S0.out.1.size))
   clear hrow2 hbl hw2
   go_wp2
   go_ret
   exact⟨_,_,rfl,HR.out,HB2.out⟩
end Go.Proofs.YtldkgbnmaefaaaaGreatDoor.Fu
namespace Go.Proofs.YtldkgbnmaefaaaaGreatDoor.Fu
open Go.RowKit
set_option linter.unusedVariables false
set_option linter.unusedSimpArgs false
theorem quw(k:Nat)(y:Row)(hy:tbl[k]? = some y)(v:Value)(l:List BA)(w:World)(hv:Rd w w.heap.size v l)(hl:Ord l) :
  Calls Tryz.prog 12 #[.string y.name,v] w fun e w'=>e=.returned (qbb (qa0 k y.ps l))∧Below w.heap.size w w':=by
 match k,hy with
 | 0,hy=>cases hy;exact qux v l w hv hl
 | 1,hy=>cases hy;exact quz v l w hv hl
 | 2,hy=>cases hy;exact qmr v l w hv hl
 | 3,hy=>cases hy;exact quy v l w hv hl
 | 4,hy=>cases hy;exact qk6 v l w hv hl
 | 5,hy=>cases hy;exact qk5 v l w hv hl
 | 6,hy=>cases hy;exact qi6 v l w hv hl
 | 7,hy=>cases hy;exact qx0 v l w hv hl
 | 8,hy=>cases hy;exact qx1 v l w hv hl
 | 9,hy=>cases hy;exact qk4 v l w hv hl
 | 10,hy=>cases hy;exact qk7 v l w hv hl
 | 11,hy=>cases hy;exact qrj v l w hv hl
 | 12,hy=>cases hy;exact qri v l w hv hl
 | 13,hy=>cases hy;exact qk3 v l w hv hl
 | 14,hy=>cases hy;exact qn9 v l w hv hl
 | 15,hy=>cases hy;exact qk2 v l w hv hl
 | 16,hy=>cases hy;exact qhl v l w hv hl
 |(n+17),hy=>exact absurd hy (by simp[tbl])
theorem qk8(s:BA)(hs : ∀ x∈qel,x≠s)(v:Value)(w:World) :
  Calls Tryz.prog 12 #[.string s,v] w fun e w'=>e=.returned (qbb ⟨em,4⟩)∧Below w.heap.size w w':=by
 have HK:=Lib.hid (fun w=>qat s false (fun h=>absurd rfl (hs s h)) (fun _=>rfl) w)
 clear hs
 unfold qbb em
 go_enter Tryz.func12,Tryz.ntmps12
 go_wp2_with fail
 (with_reducible refine(HK.out _).mono ?_)
 rintro e w1⟨rfl,hb⟩
 have HB:=Lib.hid hb
 clear hb
 go_wp2
 go_ret2
 exact⟨rfl,HB.out⟩
theorem qrh(s:BA)(hs:s∈qel)(v:Value)(l:List BA)(w:World)(hv:Rd w w.heap.size v l)(hl:40<l.length) :
  Calls Tryz.prog 12 #[.string s,v] w fun e w'=>e=.returned (qbb ⟨em,8⟩)∧Below w.heap.size w w':=by
 have HK:=Lib.hid (fun w=>qat s true (fun _=>rfl) (fun h=>absurd rfl (h s hs)) w)
 obtain⟨A,c,rfl,hlc,hcm,hcell⟩:=hv.ex
 have hki:(40:Int)<(l.length:Int):=by omega
 clear hs hv hcell
 unfold qbb em
 go_enter Tryz.func12,Tryz.ntmps12
 go_wp2_with fail
 (with_reducible refine(HK.out _).mono ?_)
 rintro e w1⟨rfl,hb⟩
 have HB:=Lib.hid hb
 clear hb
 go_wp2
 go_ret2
 exact⟨rfl,HB.out⟩
theorem q4j(x:BA):(∃ y∈tbl,y.name=x)→x∈qel:=by
 have h : ∀ y∈tbl,∃ z∈qel,z=y.name:=by
  have:(tbl.all fun y=>qel.any fun z=>decide (z=y.name))=true:=by decide
  intro y hy
  have h2:=List.all_eq_true.1 this y hy
  obtain⟨z,hz,h3⟩:=List.any_eq_true.1 h2
  exact⟨z,hz,of_decide_eq_true h3⟩
 rintro⟨y,hy,rfl⟩
 obtain⟨z,hz,he⟩:=h y hy
 rw[←he];exact hz
theorem q2n{x:BA}(hx:x∈qel) : ∃ (k:Nat) (y:Row),tbl[k]? = some y∧y.name=x:=by
 have:(qel.all fun z=>tbl.any fun y=>decide (y.name=z))=true:=by decide
 have h2:=List.all_eq_true.1 this x hx
 obtain⟨y,hy,h3⟩:=List.any_eq_true.1 h2
 obtain⟨k,hk,hky⟩:=List.getElem_of_mem hy
 exact⟨k,y,by rw[List.getElem?_eq_getElem hk,hky],of_decide_eq_true h3⟩
structure Ex (l:List BA):Prop where
 len:l.length≤61
 sz : ∀ i,(raw l i).size≤350
theorem Ex.small{l:List BA}(h:Ex l) : ¬ ∃ s∈l,32768<s.size:=fun⟨s,hs,h2⟩=>by
 obtain⟨i,hi,rfl⟩:=List.getElem_of_mem hs
 have:=h.sz i
 rw[qbx hi] at this
 omega
theorem both(s:BA)(v:Value)(l:List BA)(w:World)(hv:Rd w w.heap.size v l)(hl:Ex l)(hT:Tb w) :
  ∃ r:An,(∀ W,Below w.heap.size w W→Calls Tryz.prog 11 #[.string s,v] W fun e w'=>e=.returned (qbb r)∧Below W.heap.size W w') ∧
   (∀ W,Below w.heap.size w W→Calls Tryz.prog 12 #[.string s,v] W fun e w'=>e=.returned (qbb r)∧Below W.heap.size W w'):=by
 by_cases hk : ∃ (k:Nat) (y:Row),tbl[k]? = some y∧y.name=s
 ·obtain⟨k,y,hy,rfl⟩:=hk
  have hmem:y∈tbl:=List.mem_of_getElem? hy
  by_cases h40:40<l.length
  ·exact⟨⟨em,8⟩,fun W hW=>qqh y hmem v l 8 (if_pos h40) (by decide) W (hv.up hW),fun W hW=>qrh _ (q4j _ ⟨y,hmem,rfl⟩) v l W (hv.up hW) h40⟩
  ·have ho:Ord l:=⟨by omega,hl.sz⟩
   exact⟨_,fun W hW=>qov k y hy v l W (hv.up hW) ho (hT.below hW),fun W hW=>quw k y hy v l W (hv.up hW) ho⟩
 ·have h1 : ∀ x∈tbl,x.name≠s:=fun x hx hn=>hk (by
   obtain⟨k,hk2,hky⟩:=List.getElem_of_mem hx
   exact⟨k,x,by rw[List.getElem?_eq_getElem hk2,hky],hn⟩)
  have h2 : ∀ x∈qel,x≠s:=fun x hx hn=>by
   subst hn
   exact hk (q2n hx)
  exact⟨⟨em,4⟩,fun W hW=>qlt s h1 v W,fun W hW=>qk8 s h2 v W⟩
theorem xbc:tbl[1]? = some ⟨⟨#[115,117,98]⟩,[⟨0,0⟩,⟨2,0⟩,⟨2,32768⟩],.dir 68⟩:=rfl
def kL:List BA:=[⟨#[97,98,99,100,101,102]⟩,⟨#[50]⟩]
theorem xcg:qbi (trm (raw kL 1)) 0=⟨2,0⟩:=by kernel_rfl
theorem xch:qbi (trm (raw kL 2)) 32768=⟨32768,0⟩:=by kernel_rfl
theorem xci:Sf.slice (trm (raw kL 0)) 2 32768=⟨#[99,100,101,102]⟩:=by kernel_rfl
theorem q7y:qa0 1 [⟨0,0⟩,⟨2,0⟩,⟨2,32768⟩] kL=⟨⟨#[99,100,101,102]⟩,0⟩:=by
 rw[qze,xcg,xch,if_pos rfl,if_pos rfl,xci]
theorem xbb:Ord kL:=by
 refine⟨by decide,fun i => ?_⟩
 match i with
 | 0=>decide
 | 1=>decide
 |(n+2)=>rw[qpz (by simp[kL])];decide
theorem qic(w:World)(hT:Tb w):Calls Tryz.prog 10 #[] w fun e w'=>e=.returned (.bool true)∧Below w.heap.size w w':=by
 have HC:=Lib.hid (qov 1 _ xbc (.slice (some ⟨w.heap.size,0,none⟩) 2 2) kL (w.alloc (.cells #[.string ⟨#[97,98,99,100,101,102]⟩,.string ⟨#[50]⟩] 9)) (Rd.new kL rfl (by decide)) xbb (hT.below ((Below.refl _ w).alloc (Nat.le_refl _) _)))
 rw[q7y] at HC
 unfold qbb at HC
 go_enter Tryz.func10,Tryz.ntmps10
 go_wp2_with fail
 refine HC.out.mono ?_
 rintro e w1⟨rfl,hb⟩
 have HB:=Lib.hid (bxb hb)
 clear hb
 go_wp2_with fail
 refine(qlx _).mono ?_
 rintro e w2⟨g,c,rfl,_,hb2⟩
 have HB2:=Lib.hid (HB.out.trans (hb2.mono HB.out.size))
 clear hb2
 go_wp2
 go_ret
 exact⟨rfl,HB2.out⟩
theorem qzu{w:World}{B:Nat}{A:Option Addr}{n c:Nat}{l:List BA}(h:Rd w B (.slice A n c) l):n≤c∧c≤9223372036854775807:=by
 obtain⟨A',c',h1,h2,h3,_⟩:=h.ex
 unfold maxLen at h3
 injection h1 with h4 h5 h6
 omega
theorem qyh(g g2 c c2:Nat)(w:World)(hu:Rd w w.heap.size (.slice (some ⟨g,0,none⟩) 17 c) qel)(hv:Rd w w.heap.size (.slice (some ⟨g2,0,none⟩) 17 c2) qel) :
  Calls Tryz.prog 13 #[.slice (some ⟨g,0,none⟩) 17 c,.slice (some ⟨g2,0,none⟩) 17 c2] w fun e w'=>e=.returned (.bool true)∧Below w.heap.size w w':=by
 have cellOf : ∀ {g c:Nat},Rd w w.heap.size (.slice (some ⟨g,0,none⟩) 17 c) qel → ∀ (i:Nat) (x:BA),qel[i]? = some x→w.cell? ⟨g,i,none⟩=some (.string x):=by
  intro g c h i x hx
  obtain⟨A,c',h1,_,_,h4⟩:=h.ex
  obtain⟨g',o,h5,_,h6⟩:=h4 (by rw[qco];omega)
  injection h1 with h7
  rw[h5] at h7
  injection h7 with h7
  injection h7 with h8 h9
  subst h8 h9
  have:=h6 i x hx
  rwa [Nat.zero_add] at this
 have R1:=Lib.hid (cellOf hu)
 have R2:=Lib.hid (cellOf hv)
 obtain⟨l1,m1⟩:=qzu hu
 obtain⟨l2,m2⟩:=qzu hv
 clear hu hv cellOf
 go_enter Tryz.func13,Tryz.ntmps13
 go_wp2
 go_loopw [5] (fun i wr => ∃ (k nq:Nat),k≤17∧i=.int .i64 k∧Hid (wr=w.drewN nq)) (fun i _=>17-(intOf i).toNat)
 case atStart=>exact⟨0,0,Nat.zero_le _,rfl,Lib.hid rfl⟩
 case round =>
  obtain⟨k,m0,hk,rfl,hw⟩:=hrel
  by_cases hlt:k<17
  ·have hki:(k:Int)<17:=by omega
   have hkl:k<qel.length:=by rw[qco];exact hlt
   have x1:=R1.out k qel[k] (List.getElem?_eq_getElem hkl)
   have y1:=R2.out k qel[k] (List.getElem?_eq_getElem hkl)
   have hcell : ∀ p,wr.cell? p=w.cell? p:=fun p=>by rw[hw.out];rfl
   rw[←hcell] at x1 y1
   clear hcell
   generalize qel[k]=S at x1 y1
   have hne:(S.toList != S.toList)=false:=by simp
   have heq:(S.toList==S.toList)=true:=by simp
   go_wp2
   go_quiet (fail)
   go_wp2
   go_roundw
   case rel=>exact⟨k+1,m0+nq,by omega,by go_num,Lib.hid (by rw[hw.out,World.drewN_drewN])⟩
   case measure=>simp[intOf];omega
  ·have hki : ¬ (k:Int)<17:=by omega
   go_wp2
   go_ret
   exact⟨rfl,hw.out▸below_drewN (Below.refl _ _) _⟩
def LgP(w:World)(l:List BA)(e:Ending)(w':World):Prop := ∃ b,e=.returned (.bool b)∧(b=false→Ex l)∧w=w'
theorem qmn(v:Value)(l:List BA)(w:World)(hv:Rd w w.heap.size v l) :
  Calls Tryz.prog 9 #[v] w (LgP w l):=by
 obtain⟨A,c,rfl,hlc,hcm,hcell⟩:=hv.ex
 unfold maxLen at hcm
 have HC:=Lib.hid hcell
 clear hcell hv
 go_enter Tryz.func9,Tryz.ntmps9
 go_wp2
 go_loop [3] (fun i => ∃ k:Nat,i=.int .i64 (k:Int)∧k≤l.length∧k≤61∧Hid (∀ j,j<k→(raw l j).size≤300)) (fun i=>l.length-(intOf i).toNat)
 case atStart=>exact⟨0,by go_num,Nat.zero_le _,Nat.zero_le _,Lib.hid (fun j hj=>absurd hj (by omega))⟩
 case round =>
  obtain⟨k,rfl,hk,hk2,HS⟩:=hrel
  by_cases hlt:k<l.length
  ·have hki:(k:Int)<(l.length:Int):=by omega
   by_cases h60:60<k
   ·have h6:(60:Int)<(k:Int):=by omega
    go_wp2
    go_ret
    exact⟨true,rfl,(fun h=>absurd h (by decide)),rfl⟩
   ·have h6 : ¬ (60:Int)<(k:Int):=by omega
    obtain⟨g,o,rfl,hg,hcl⟩:=HC.out (by omega)
    have c0:=hcl k l[k] (List.getElem?_eq_getElem hlt)
    rw[←qbx hlt] at c0
    have HK:=Lib.hid (fun(h:(raw l k).size≤300)=>(fun j (hj:j<k+1)=>by
     by_cases e:j=k
     ·subst e;exact h
     ·exact HS.out j (by omega) : ∀ j,j<k+1→(raw l j).size≤300))
    clear hcl
    obtain⟨S,hS⟩ : ∃ S,raw l k=S:=⟨_,rfl⟩
    rw[hS] at c0 HK
    clear hS
    by_cases h3:300<S.size
    ·have h33:(300:Int)<(S.size:Int):=by omega
     go_wp2
     go_ret
     exact⟨true,rfl,(fun h=>absurd h (by decide)),rfl⟩
    ·have h33 : ¬ (300:Int)<(S.size:Int):=by omega
     go_wp2
     go_round
     case rel=>exact⟨k+1,by go_num,by omega,by omega,Lib.hid (HK.out (by omega))⟩
     case measure=>simp[intOf];omega
  ·have hki : ¬ (k:Int)<(l.length:Int):=by omega
   have HE:Hid (Ex l):=Lib.hid ⟨by omega,fun i=>by
    by_cases hi:i<k
    ·have:=HS.out i hi;omega
    ·rw[qpz (by omega)];exact Nat.zero_le _⟩
   go_wp2
   go_ret
   exact⟨false,rfl,fun _=>HE.out,rfl⟩
end Go.Proofs.YtldkgbnmaefaaaaGreatDoor.Fu
namespace Go.Proofs.YtldkgbnmaefaaaaGreatDoor.Fu
open Go.RowKit
set_option linter.unusedVariables false
set_option linter.unusedSimpArgs false
theorem FunctionCall_any(s:BA)(v:Value)(l:List BA)(w:World)(hv:Rd w w.heap.size v l)(hT:Tb w) :
  Calls Tryz.prog 3 #[.string s,v] w fun e w'=>e=.returned (.bool true)∧Below w.heap.size w w':=by
 have HL:=Lib.hid (qmn v l w hv)
 unfold LgP at HL
 by_cases h1:100<s.size
 ·have hs:(100:Int)<(s.size:Int):=by omega
  obtain⟨A,c,rfl,_⟩:=hv.ex
  clear h1 hv
  go_enter Tryz.func3,Tryz.ntmps3
  go_wp2_with fail
  (with_reducible refine(qic _ hT).mono ?_)
  rintro e w1⟨rfl,hb⟩
  go_wp2
  go_ret
  exact⟨rfl,hb⟩
 ·have hs : ¬ (100:Int)<(s.size:Int):=by omega
  have HB:=Lib.hid (fun(h:Ex l)=>both s v l w hv h hT)
  have HK:=Lib.hid (fun(W:World) (hW:Below w.heap.size w W)=>qic W (hT.below hW))
  have hqq:(s.toList==s.toList)=true:=by simp
  obtain⟨A,c,rfl,_⟩:=hv.ex
  clear h1 hv hT hqq
  go_enter Tryz.func3,Tryz.ntmps3
  go_wp2_with fail
  (with_reducible refine HL.out.mono ?_)
  rintro e w1⟨b,rfl,hS,rfl⟩
  cases b with
  |true =>
   go_wp2_with fail
   (with_reducible refine(HK.out _ (Below.refl _ _)).mono ?_)
   rintro e w2⟨rfl,b2⟩
   go_wp2
   go_ret
   exact⟨rfl,b2⟩
  |false =>
   obtain⟨r,hC,hR⟩:=HB.out (hS rfl)
   have hq:=qf9 r.s
   clear hq hS
   unfold qbb at hC hR
   have heq:(r.s.toList==r.s.toList)=true:=by simp
   have hee:(r.e==r.e)=true:=by simp
   have HC:=Lib.hid hC
   have HR:=Lib.hid hR
   clear hC hR
   go_wp2_with fail
   (with_reducible refine(HC.out _ (Below.refl _ _)).mono ?_)
   rintro e w2⟨rfl,b2⟩
   have B2:=Lib.hid b2
   clear b2
   go_wp2_with fail
   (with_reducible refine(HR.out _ B2.out).mono ?_)
   rintro e w3⟨rfl,b3⟩
   have B3:=Lib.hid (B2.out.trans (b3.mono B2.out.size))
   clear b3
   go_wp2_with fail
   refine(qlx _).mono ?_
   rintro e w4⟨g,c4,rfl,hR4,b4⟩
   have B4:=Lib.hid (B3.out.trans (b4.mono B3.out.size))
   have H4:=Lib.hid hR4
   clear b4 hR4
   go_wp2_with fail
   refine(qgq _).mono ?_
   rintro e w5⟨g2,rfl,hR5,b5⟩
   have B5:=Lib.hid (B4.out.trans (b5.mono B4.out.size))
   have HSm:=Lib.hid (qyh g g2 c4 17 w5 (H4.out.up b5) hR5)
   clear b5 hR5
   go_wp2_with fail
   (with_reducible refine HSm.out.mono ?_)
   rintro e w6⟨rfl,b6⟩
   have B6:=Lib.hid (B5.out.trans (b6.mono B5.out.size))
   clear b6
   go_wp2_with fail
   (with_reducible refine(HK.out _ B6.out).mono ?_)
   rintro e w7⟨rfl,b7⟩
   have B7:=Lib.hid (B6.out.trans (b7.mono B6.out.size))
   clear b7
   go_wp2
   go_ret
   exact⟨rfl,B7.out⟩
theorem qtl(n:Int):bits .and .i64 n 65535=n%65536:=by
 have h7:(BitVec.ofInt 64 65535).toNat=2^16-1:=by decide
 have key:(BitVec.ofInt 64 n &&& BitVec.ofInt 64 65535).toNat=(n%((2^64:Nat):Int)).toNat%2^16:=by
  rw[BitVec.toNat_and,BitVec.toNat_ofInt,h7,Nat.and_two_pow_sub_one_eq_mod]
 show IntKind.i64.wrap ((BitVec.ofInt 64 n &&& BitVec.ofInt 64 65535).toNat:Nat)=n%65536
 rw[key,IntKind.wrap_i64]
 omega
def nmI(n:Int):Nat:=(n%65536%17).toNat
theorem q8e(n:Int):nmI n<17:=by unfold nmI;omega
theorem q2m(n:Int):((nmI n:Nat):Int)=n%65536%17:=by unfold nmI;omega
theorem xbg{w:World}{B g n c:Nat}{l:List BA}(h:Rd w B (.slice (some ⟨g,0,none⟩) n c) l)(i:Nat)(x:BA)(hx:l[i]? = some x):w.cell? ⟨g,i,none⟩=some (.string x):=by
 obtain⟨A,c',h1,_,_,h4⟩:=h.ex
 have hl:i<l.length:=(List.getElem?_eq_some_iff.1 hx).1
 obtain⟨g',o,h5,_,h6⟩:=h4 (by omega)
 injection h1 with h7
 rw[h5] at h7
 injection h7 with h7
 injection h7 with h8 h9
 subst h8 h9
 have:=h6 i x hx
 rwa [Nat.zero_add] at this
theorem FunctionEach_any(n:Int)(v:Value)(l:List BA)(w:World)(hv:Rd w w.heap.size v l)(hT:Tb w) :
  Calls Tryz.prog 4 #[.int .i64 n,v] w fun e w'=>e=.returned (.bool true)∧Below w.heap.size w w':=by
 have HL:=Lib.hid (qmn v l w hv)
 unfold LgP at HL
 have HK:=Lib.hid (fun(W:World) (hW:Below w.heap.size w W)=>qic W (hT.below hW))
 have HB:=Lib.hid (fun(s:BA) (h:Ex l)=>both s v l w hv h hT)
 have hand:=qtl n
 have hlt:=q8e n
 have hmi:=q2m n
 have hlen:nmI n<qel.length:=by rw[qco];exact hlt
 obtain⟨i,hi⟩ : ∃ i,nmI n=i:=⟨_,rfl⟩
 rw[hi] at hlt hmi hlen
 obtain⟨m,hm⟩ : ∃ m,n%65536=m:=⟨_,rfl⟩
 rw[hm] at hand hmi
 have hm0:0≤m:=by omega
 have hm1:m<65536:=by omega
 obtain⟨A,c,rfl,_⟩:=hv.ex
 have HX:Hid (qel[i]? = some qel[i]):=Lib.hid (List.getElem?_eq_getElem hlen)
 generalize qel[i]=S at HX
 have hmi2:m%17=(i:Int):=hmi.symm
 have hii:(i:Int)<17:=by omega
 have HBS:=Lib.hid (HB.out S)
 clear hv hT hi hm hlen HB hmi
 go_enter Tryz.func4,Tryz.ntmps4
 go_wp2_with fail
 (with_reducible refine HL.out.mono ?_)
 rintro e w1⟨b,rfl,hS,rfl⟩
 cases b with
 |true =>
  go_wp2_with fail
  (with_reducible refine(HK.out _ (Below.refl _ _)).mono ?_)
  rintro e w2⟨rfl,b2⟩
  go_wp2
  go_ret
  exact⟨rfl,b2⟩
 |false =>
  obtain⟨r,hC,hR⟩:=HBS.out (hS rfl)
  unfold qbb at hC hR
  have heq:(r.s.toList==r.s.toList)=true:=by simp
  have hee:(r.e==r.e)=true:=by simp
  have HC:=Lib.hid hC
  have HR:=Lib.hid hR
  clear hC hR hS HBS
  go_wp2_with fail
  refine(qgq _).mono ?_
  rintro e w2⟨g,rfl,hR5,b2⟩
  have c0:=xbg hR5 i S HX.out
  have B2:=Lib.hid b2
  clear b2 hR5
  go_wp2_with fail
  (with_reducible refine(HC.out _ B2.out).mono ?_)
  rintro e w3⟨rfl,b3⟩
  have B3:=Lib.hid (B2.out.trans (b3.mono B2.out.size))
  clear b3
  go_wp2_with fail
  (with_reducible refine(HR.out _ B3.out).mono ?_)
  rintro e w4⟨rfl,b4⟩
  have B4:=Lib.hid (B3.out.trans (b4.mono B3.out.size))
  clear b4
  go_wp2_with fail
  (with_reducible refine(HK.out _ B4.out).mono ?_)
  rintro e w5⟨rfl,b5⟩
  have B5:=Lib.hid (B4.out.trans (b5.mono B4.out.size))
  clear b5
  go_wp2
  go_ret
  exact⟨rfl,B5.out⟩
end Go.Proofs.YtldkgbnmaefaaaaGreatDoor.Fu
namespace Go.Proofs.YtldkgbnmaefaaaaGreatDoor.Fu
open Go.RowKit Go.Deep
theorem q4i{W:World}(h:laidMet Tryz.prog [("math/bits.deBruijn32tab",Rows.laid_math_bits_deBruijn32tab),("math/bits.deBruijn64tab",Rows.laid_math_bits_deBruijn64tab),("internal/strconv.uint64pow10",Rows.laid_internal_strconv_uint64pow10),("unicode/utf8.acceptRanges",Rows.laid_unicode_utf8_acceptRanges),("transclude/calendar.monthDays",Rows.laid_transclude_calendar_monthDays),("transclude/calendar.monthNames",Rows.laid_transclude_calendar_monthNames),("transclude/calendar.dayNames",Rows.laid_transclude_calendar_dayNames),("unicode/utf8.first",Rows.laid_unicode_utf8_first)] W)(hs:W.ShapedOpen Tryz.prog):Tb W:=by
 obtain⟨ps,⟨_,_,_,_,_,_,_,_,_,_,⟨_,_,_,_,_,_,_,_,_,_,⟨g,t,cs,fuel,p,q,hg,ht,hvar,hd,⟨_,_,_,_,_,_,_,_,_,_,⟨g1,t1,cs1,fuel1,p1,q1,hg1,ht1,hvar1,hd1,⟨g2,t2,cs2,fuel2,p2,q2,hg2,ht2,hvar2,hd2,⟨g3,t3,cs3,fuel3,p3,q3,hg3,ht3,hvar3,hd3,_,_⟩,_⟩,_⟩,_⟩,_⟩,_⟩,_⟩,_⟩:=h
 obtain rfl:=Option.some.inj (Ca.xb6.symm.trans hg)
 obtain rfl:=Option.some.inj (Ca.qph.symm.trans ht)
 obtain rfl:=Option.some.inj (Ca.gMd.symm.trans hg1)
 obtain rfl:=Option.some.inj (Ca.qtg.symm.trans ht1)
 obtain rfl:=Option.some.inj (Ca.gMn.symm.trans hg2)
 obtain rfl:=Option.some.inj (Ca.qth.symm.trans ht2)
 obtain rfl:=Option.some.inj (Ca.gWn.symm.trans hg3)
 obtain rfl:=Option.some.inj (Ca.qti.symm.trans ht3)
 rw[Ca.qpm] at hd
 rw[Ca.qtq] at hd1
 rw[Ca.qtr] at hd2
 rw[Ca.qts] at hd3
 have e0:=Lib.cells_of_tab Tryz.underlying245 Tryz.underlying147 Ca.xb5 Ca.xb4 hd
 have e1:=Lib.cells_of_tab Tryz.underlying242 Tryz.underlying3 Ca.xb3 Ca.cMd hd1
 have e2:=Ca.qdg Tryz.underlying223 Tryz.underlying9 Ca.cStr Ca.cMn hd2
 have e3:=Ca.qdg Tryz.underlying224 Tryz.underlying9 Ca.cStr Ca.cWn hd3
 have hp:Lib.TabIs Tryz.prog W "internal/strconv.uint64pow10" .u64 Lib.pow10Tab:=by
  unfold Lib.TabIs
  rw[hvar]
  congr 1
  exact Array.ext' (by rw[e0])
 refine⟨⟨hp,?_⟩,⟨hp,fun i hi=>Ca.cell_of Ca.gMd hvar1 ?_,fun i hi=>Ca.cell_of Ca.gMn hvar2 ?_,fun i hi=>Ca.cell_of Ca.gWn hvar3 ?_⟩⟩
 ·exact Go.Proofs.cell_of_shapedOpen_int (zero := #[.int .i64 0]) (t:=3) hs (of_decide_eq_true (by kernel_rfl)) (by kernel_rfl) rfl (by kernel_rfl) (by kernel_rfl) Tryz.underlying3
 ·rw[←Array.getElem?_toList,e1]
  match i,hi with
  | 0,_ | 1,_ | 2,_ | 3,_ | 4,_ | 5,_ | 6,_ | 7,_ | 8,_ | 9,_ | 10,_ | 11,_=>rfl
  |n+12,h=>omega
 ·rw[←Array.getElem?_toList,e2]
  match i,hi with
  | 0,_ | 1,_ | 2,_ | 3,_ | 4,_ | 5,_ | 6,_ | 7,_ | 8,_ | 9,_ | 10,_ | 11,_=>rfl
  |n+12,h=>omega
 ·rw[←Array.getElem?_toList,e3]
  match i,hi with
  | 0,_ | 1,_ | 2,_ | 3,_ | 4,_ | 5,_ | 6,_=>rfl
  |n+7,h=>omega
def cellOf:DataW Unit→Value
 | .lit (.int k n) => .int k n
 | .lit (.string s) => .string ⟨s.toArray⟩
 | _ => .bool false
def qdk:DataW Unit→List Value
 | .agg ds=>ds.map cellOf
 | _=>[]
def q7e:DataW Unit→List Value
 | .agg ds=>ds.flatMap qdk
 | _=>[]
def qmg(cs:List Value):Obj→Obj
 | .cells _ t frozen => .cells cs.toArray t frozen
 |o=>o
noncomputable def qdo (os:Os):World :=
 { World.holding Tryz.prog os ⟨#[],#[],[]⟩ with heap:=(((((((((World.holding Tryz.prog os ⟨#[],#[],[]⟩).heap.modify 7 (qmg (qdk Rows.laid_math_bits_deBruijn32tab))).modify 8 (qmg (qdk Rows.laid_math_bits_deBruijn64tab))).modify 4 (qmg (qdk Rows.laid_internal_strconv_uint64pow10))).modify 6 (qmg (q7e Rows.laid_unicode_utf8_acceptRanges))).modify 2 (qmg (qdk Rows.laid_transclude_calendar_monthDays))).modify 0 (qmg (qdk Rows.laid_transclude_calendar_monthNames))).modify 1 (qmg (qdk Rows.laid_transclude_calendar_dayNames))).modify 5 (qmg (qdk Rows.laid_unicode_utf8_first))) }
theorem own:ownKnob Tryz.prog.godebug=none:=by kernel_rfl
section
variable {H:Type} {enc:TypeId×Value→H} {w:World}
theorem qvj{a:Addr}{v:Value}(h:w.cell? a=some v):a.spot=none∧a.block<w.heap.size:=by
 unfold World.cell? at h
 split at h
 ·rename_i c _ _ hc
  refine⟨?_,(Array.getElem?_eq_some_iff.1 hc).1⟩
  cases hs:a.spot with
  |none=>rfl
  |some s=>simp[hs] at h
 ·cases h
theorem qw2:Tryz.prog.cellsOf 9=1:=by kernel_rfl
theorem open_strs{n:Nat}{cs:List Value}{x:DataW H×List MemPlace}(h:DataW.trod enc Tryz.prog w 0 (fun _=>true) true n 22 cs=some x) : ∃ v l,cs=[v]∧Rd w w.heap.size v l:=by
 rcases open_slice Tryz.underlying22 h with⟨rfl,_⟩ | ⟨a,len,cap,m,n',D,Pl,rfl,_,hl,hm,hmm,_,hx⟩
 ·exact⟨_,[],rfl,⟨none,0,rfl,Nat.le_refl _,by simp[maxLen],fun h=>absurd h (by simp)⟩⟩
 ·rw[qw2] at hx
  have hlm:len≤m:=by rw[hmm];simpa using hl
  by_cases h0:len=0
  ·subst h0
   exact⟨_,[],rfl,⟨some a,cap,rfl,Nat.zero_le _,hm,fun h=>absurd h (by simp)⟩⟩
  obtain⟨g,o,sp⟩:=a
  have key0 : ∀ i,i<len → ∃ s:BA,w.cell? ((⟨g,o,sp⟩:Addr).add i)=some (.string s):=by
   intro i hi
   obtain⟨cs',h1,h2⟩:=hx i (by omega)
   obtain⟨s,hs,_,_⟩:=DataW.trod_string Tryz.underlying9 h2
   obtain⟨_,h3,h4⟩:=World.cells?_some h1
   have h5:=h4 0 (by omega)
   rw[hs] at h5
   refine⟨s,?_⟩
   have:((⟨g,o,sp⟩:Addr).add (i*1)).add 0=(⟨g,o,sp⟩:Addr).add i:=by rw[Nat.mul_one];simp[Addr.add]
   rw[this] at h5
   exact h5
  obtain⟨s0,hs0⟩:=key0 0 (by omega)
  rw[show(⟨g,o,sp⟩:Addr).add 0=⟨g,o,sp⟩ by simp[Addr.add]] at hs0
  obtain⟨hsp,hg⟩:=qvj hs0
  simp only at hsp hg
  subst hsp
  have key : ∀ i,i<len → ∃ s:BA,w.cell? ⟨g,o+i,none⟩=some (.string s):=by
   intro i hi
   obtain⟨s,hs⟩:=key0 i hi
   refine⟨s,?_⟩
   have:(⟨g,o,none⟩:Addr).add i=⟨g,o+i,none⟩:=by unfold Addr.add;split<;>simp_all
   rw[←this];exact hs
  have:Inhabited BA:=⟨em⟩
  obtain⟨f,hf⟩:=choose_lt key
  refine⟨_,(List.range len).map f,rfl,⟨some ⟨g,o,none⟩,cap,by simp,by simpa using hl,hm,fun _=>⟨g,o,rfl,hg,fun i y hy => ?_⟩⟩⟩
  rw[List.getElem?_map] at hy
  obtain⟨i',h1,h2⟩:=Option.map_eq_some_iff.1 hy
  obtain⟨h3,h4⟩:=List.getElem?_eq_some_iff.1 h1
  rw[List.getElem_range] at h4
  subst h4 h2
  exact hf i (by simpa using h3)
end
end Go.Proofs.YtldkgbnmaefaaaaGreatDoor.Fu
