import Derived.Test.YtldkgbnmaefaaaaGreatDoorFuG4
import Derived.Test.YtldkgbnmaefaaaaGreatDoorShelf3
import Derived.Sort.OwnSorted
import Derived.Maps.OwnOps
import Derived.Sort.KeysCollected
import Derived.Test.YtldkgbnmaefaaaaGreatDoorFuG5
import Derived.Test.YtldkgbnmaefaaaaGreatDoorFuG2
import Derived.Test.YtldkgbnmaefaaaaGreatDoorCaH7
import Derived.Test.YtldkgbnmaefaaaaGreatDoorRows
import Derived.RangeFuncOwn
import Derived.Lib.LaidTab
import Derived.Shelf.LaysM
import Derived.ProofKit
import Derived.OpenShut
import Derived.ShutString
import Derived.Deep.Slices
import Derived.ChangeSlices
import Derived.Deep.AppendLies
import Derived.Laws.OwnMore
set_option maxRecDepth 100000
set_option maxHeartbeats 4000000
open Go.Lib (hid)
namespace Go.Proofs.YtldkgbnmaefaaaaGreatDoor.Fu
open Go.RowKit Go.Shelf Go.Sort
set_option linter.unusedVariables false
set_option linter.unusedSimpArgs false
theorem qpq:(Tryz.prog.info? 9).map (fun i=>(i.zero,i.size,i.bytes))=some (some (.string ⟨#[]⟩),1,16):=by kernel_rfl
theorem qty(w:World)(xs:List Value)(t:TypeId) : ∀ j u,xs[j]? = some u→(w.alloc (.cells xs.toArray t)).cell? ((⟨w.heap.size,0,none⟩:Addr).add j)=some u:=by
 intro j u h
 have hadd:(⟨w.heap.size,0,none⟩:Addr).add j=⟨w.heap.size,j,none⟩:=by unfold Addr.add;split<;>simp_all
 rw[hadd,cell_of_row _ _ j xs.toArray t (0,0) (heap_alloc_new w _)]
 simpa using h
theorem qtv{w w':World}{base e k:Nat}{v:Value}{m:Nat}{xs:List Value}(ho:w.ownsRow base e k v m xs)(hg:w.grownBy w' v.ownBlock)(hb:base≤w.heap.size):Below base w w' :=
 (Below.refl _ w).grown hg hb fun j hj=>(World.ownsRow.lt ho j hj).1
theorem qwh{w w':World}{base e k B:Nat}{v:Value}{m:Nat}{xs:List Value}(h:w.ownsRow base e k v m xs)(hb:Below B w w')(hB:w.heap.size≤B):w'.ownsRow base e k v m xs:=by
 refine⟨h.1,?_⟩
 rcases h.2 with h2 | ⟨g,cap,cur,h3,h4,h5,h6⟩
 ·exact .inl h2
 ·have hlt:g<w.heap.size:=(Array.getElem?_eq_some_iff.1 h5).1
  exact .inr ⟨g,cap,cur,h3,h4,(hb.block g (by omega)).trans h5,h6⟩
def nmU:List (List UInt8):=tbl.map fun x=>x.name.data.toList
theorem qfa:nmU.length=17:=rfl
theorem qr8:(nmU.mergeSort fun x y=>decide (x≤y))=qdv.map fun s=>s.data.toList:=by
 have hp:nmU.Perm (qdv.map fun s=>s.data.toList):=by decide
 have hs:(qdv.map fun s=>s.data.toList).Pairwise (fun x y=>leB x y=true):=by decide
 exact(mergeSort_of_perm hp).trans (List.mergeSort_of_pairwise hs)
def q3d(w:World)(base:Nat)(v:Value)(l:List (List UInt8)):Prop:=w.ownsRow base 9 1 v l.length (l.map encStr)
theorem q3d.nil(w:World)(base:Nat):q3d w base (.slice none 0 0) []:=World.ownsRow_nil _ _ _ _
theorem xa5{k:Nat}{y:Row}(h:tbl[k]? = some y):nmU.take (k+1)=nmU.take k++[y.name.data.toList]:=by
 have hk:k<nmU.length:=by rw[qfa];exact(List.getElem?_eq_some_iff.1 h).1
 rw[List.take_succ_eq_append_getElem hk]
 congr 2
 have:nmU[k]? = some y.name.data.toList:=by unfold nmU;rw[List.getElem?_map,h];rfl
 rw[List.getElem?_eq_getElem hk] at this
 exact Option.some.inj this
def xez(w:World)(e:Ending)(w':World):Prop := ∃ g c,e=.returned (.slice (some ⟨g,0,none⟩) 17 c)∧Rd w' w'.heap.size (.slice (some ⟨g,0,none⟩) 17 c) qdv∧Below w.heap.size w w'
theorem qs5(w:World):Calls Tryz.prog 14 #[] w (xez w):=by
 obtain⟨i0,hi0,hz0,hz1,hz2⟩:=info_parts qpq
 go_enter Tryz.func14,Tryz.ntmps14
 go_wp2_with fail
 refine(qem _).mono ?_
 rintro e w1⟨v,rfl,hF,hb⟩
 obtain⟨g,cs,hv,_,_⟩:=hF.ex
 have S0:=hid (And.intro hb hF)
 clear hF hb
 subst hv
 go_wp2_with fail
 go_loopw [1,6] (fun nv iv wr => ∃ k:Nat,iv=.int .i64 (k:Int)∧k≤17∧Hid (Below w1.heap.size w1 wr∧q3d wr w1.heap.size nv (nmU.take k))) (fun _ i _=>17-(intOf i).toNat)
 case atStart=>exact⟨0,by go_num,by omega,hid ⟨Below.refl _ _,q3d.nil _ _⟩⟩
 case round =>
  obtain⟨k,rfl,hk,HS⟩:=hrel
  have hs1:=HS.out.1.size
  by_cases hlt:k<17
  ·have hki:(k:Int)<17:=by omega
   obtain⟨y,hy⟩ : ∃ y,tbl[k]? = some y:=⟨_,List.getElem?_eq_getElem (by rw[qjv];exact hlt)⟩
   obtain⟨g',cs',hv',hg',hrow⟩:=(S0.out.2.up HS.out.1).ex
   obtain rfl:g=g':=by injection hv' with h1;injection h1 with h1;injection h1
   obtain⟨a,f,h1,h2,h3,hok⟩:=hrow k y hy
   obtain⟨gp,np,ha⟩:=hok.ps.form
   obtain⟨gf,cf,hf⟩:=hok.fn.form
   have c0:=qab hg' h1
   have c1:=qab hg' h2
   have c2:=qab hg' h3
   have hgl:=qac hg'
   subst ha hf
   have HT:=hid (xa5 hy)
   clear hrow hg' h1 h2 h3 hok hv' hy
   obtain⟨nm,hnm⟩ : ∃ nm,y.name=nm:=⟨_,rfl⟩
   rw[hnm] at c0 HT
   clear hnm
   have q2 : ∀ x,(nmU.take k).length=x→x≤17:=fun x hx=>by rw[←hx,List.length_take];omega
   have HO:=hid HS.out.2
   have HB:=hid HS.out.1
   have hX:(nmU.take k).length≤17:=q2 _ rfl
   unfold q3d at HO
   clear HS q2
   generalize nmU.take k=X at HO HT hX
   go_wp2_with (at_builtin;refine wpList_append_own _ rfl (.tmp 10) (.tmp 13) _ rfl w1.heap.size 9 i0 _ 1 16 Tryz.underlying22 hi0 hz0 hz1 hz2 rfl (by omega) u1 X.length (X.map encStr) rfl (World.ownsRow.alloc (World.ownsRow.alloc HO.out _) _) ⟨wr.heap.size+1,0,none⟩ 1 1 [.string nm] rfl rfl (by have:=qty (wr.alloc (.cells #[.string nm,.slice (some ⟨gp,0,none⟩) np np,.func (.func gf) #[] cf] 48)) [.string nm] 9;simpa using this) (by simp[Value.oneCell']) (by simp only[maxLen];omega) (by omega) (by simp;omega) ?_;intro v2 w2 ho2 hg2 _)
   go_roundw
   case rel=>exact⟨k+1,by go_num,by omega,hid ⟨HB.out.trans (((Below.refl _ _).alloc hs1 _).trans ((((Below.refl _ _).alloc (by simp;omega) _)).trans (qtv (World.ownsRow.alloc (World.ownsRow.alloc HO.out _) _) hg2 (by simp;omega)))),by rw[HT.out];unfold q3d;rw[List.length_append,List.map_append];exact ho2⟩⟩
   case measure=>simp[intOf];omega
  ·obtain rfl:k=17:=by omega
   have hki : ¬ ((17:Nat):Int)<17:=by omega
   have hO:=HS.out.2
   rw[List.take_of_length_le (by rw[qfa];omega)] at hO
   have hO2:=hO
   unfold q3d at hO
   have HSB:=hid HS.out.1
   have hblk : ∃ ga cap cur,u1=.slice (some ⟨ga,0,none⟩) nmU.length cap∧wr.heap[ga]? = some (.cells cur 9 (0,0))∧nmU.length≤cap∧cap≤maxLen∧cur.size=cap*1∧cur.toList.take (nmU.length*1)=nmU.map encStr∧w1.heap.size≤ga:=by
    rcases hO.2 with⟨_,h3⟩ | ⟨g2,cap2,cur,h3,h4,h5,h6,h7,h8,h9⟩
    ·rw[qfa] at h3;exact absurd h3 (by omega)
    ·exact⟨g2,cap2,cur,h3,h5,h6,h7,h8,h9,h4⟩
   obtain⟨ga,cap,cur,hu,k1,k2,k3,k4,k5,k6⟩:=hblk
   have hlt1:=qac k1
   subst hu
   rw[Nat.mul_one] at k5
   have HH:=hid (And.intro k1 (And.intro k2 (And.intro k3 (And.intro k4 k6))))
   have HSo:=hid (Tryz.slices_Sort_string ga 0 cap nmU wr (holds_of_block k1 k5) hlt1 (by rw[qfa];omega))
   rw[qfa] at HSo k2
   clear k1 k3 k4 k5 k6 hO hO2 HS
   go_wp2_with fail
   refine HSo.out.mono ?_
   rintro e w2⟨rfl,n,os,hw2⟩
   rw[qr8] at hw2
   have hrow2:=ownsRow_sorted (n:=n) (os:=os) (ts:=qdv.map fun s=>s.data.toList) (ss:=nmU) (by rw[List.length_map,qfa,qck]) (Nat.le_refl ga) HH.out.1 HH.out.2.1 HH.out.2.2.1 HH.out.2.2.2.1
   rw[←hw2] at hrow2
   have hbl:Below w1.heap.size wr w2:=by rw[hw2];exact(Below.refl _ wr).grown (grownBy_sorted _) HSB.out.size fun j hj=>by cases hj;exact HH.out.2.2.2.2
   have HR:Hid (Rd w2 w2.heap.size (.slice (some ⟨ga,0,none⟩) 17 cap) qdv):=hid (by
    unfold maxLen at *
    have hr2:=hrow2
    rcases hr2.2 with⟨_,h3⟩ | ⟨g2,cap2,cur2,h3,h4,h5,h6,h7,h8,h9⟩
    ·rw[qfa] at h3;exact absurd h3 (by omega)
    ·rw[qfa] at h3 h6 h9
     injection h3 with h10 h11 h12
     injection h10 with h10
     injection h10 with h10
     subst h10 h12
     refine⟨_,_,rfl,by rw[qck];omega,h7,fun _=>⟨_,_,rfl,qac h5,fun i x hx => ?_⟩⟩
     refine qab h5 ?_
     rw[Nat.zero_add]
     have hi:i<17:=by rw[←qck];exact(List.getElem?_eq_some_iff.1 hx).1
     have h13:((qdv.map fun s=>s.data.toList).map encStr)[i]? = some (.string x):=by
      rw[List.getElem?_map,List.getElem?_map,hx];rfl
     rw[←h9,List.getElem?_take_of_lt (by omega)] at h13
     simpa using h13)
   have HB2:=hid (S0.out.1.trans ((HSB.out.trans hbl).mono S0.out.1.size))
   clear hrow2 hbl hw2
   go_wp2
   go_ret
   exact⟨_,_,rfl,HR.out,HB2.out⟩
end Go.Proofs.YtldkgbnmaefaaaaGreatDoor.Fu
namespace Go.Proofs.YtldkgbnmaefaaaaGreatDoor.Fu
open Go.RowKit
set_option linter.unusedVariables false
set_option linter.unusedSimpArgs false
theorem qw3(x:BA):(∃ y∈tbl,y.name=x)→x∈qdv:=by
 have h : ∀ y∈tbl,∃ z∈qdv,z=y.name:=by
  have:(tbl.all fun y=>qdv.any fun z=>decide (z=y.name))=true:=by decide
  intro y hy
  have h2:=List.all_eq_true.1 this y hy
  obtain⟨z,hz,h3⟩:=List.any_eq_true.1 h2
  exact⟨z,hz,of_decide_eq_true h3⟩
 rintro⟨y,hy,rfl⟩
 obtain⟨z,hz,he⟩:=h y hy
 rw[←he];exact hz
theorem qo7{x:BA}(hx:x∈qdv) : ∃ (k:Nat) (y:Row),tbl[k]? = some y∧y.name=x:=by
 have:(qdv.all fun z=>tbl.any fun y=>decide (y.name=z))=true:=by decide
 have h2:=List.all_eq_true.1 this x hx
 obtain⟨y,hy,h3⟩:=List.any_eq_true.1 h2
 obtain⟨k,hk,hky⟩:=List.getElem_of_mem hy
 exact⟨k,y,by rw[List.getElem?_eq_getElem hk,hky],of_decide_eq_true h3⟩
structure Ex (l:List BA):Prop where
 len:l.length≤61
 sz : ∀ i,(raw l i).size≤350
theorem Ex.small{l:List BA}(h:Ex l) : ¬ ∃ s∈l,32768<s.size:=fun⟨s,hs,h2⟩=>by
 obtain⟨i,hi,rfl⟩:=List.getElem_of_mem hs
 have:=h.sz i
 rw[qbm hi] at this
 omega
theorem xdt:tbl[1]? = some ⟨⟨#[115,117,98]⟩,[⟨0,0⟩,⟨2,0⟩,⟨2,32768⟩],.dir 68⟩:=rfl
def kL:List BA:=[⟨#[97,98,99,100,101,102]⟩,⟨#[50]⟩]
theorem xe5:qbi (trm (raw kL 1)) 0=⟨2,0⟩:=by kernel_rfl
theorem xe6:qbi (trm (raw kL 2)) 32768=⟨32768,0⟩:=by kernel_rfl
theorem xe7:Sf.slice (trm (raw kL 0)) 2 32768=⟨#[99,100,101,102]⟩:=by kernel_rfl
theorem xaz:qai 1 [⟨0,0⟩,⟨2,0⟩,⟨2,32768⟩] kL=⟨⟨#[99,100,101,102]⟩,0⟩:=by
 rw[qkh,xe5,xe6,if_pos rfl,if_pos rfl,xe7]
theorem xds:Ord kL:=by
 refine⟨by decide,fun i => ?_⟩
 match i with
 | 0=>decide
 | 1=>decide
 |(n+2)=>rw[qjn (by simp[kL])];decide
theorem qgu(w:World)(hT:Tb w):Calls Tryz.prog 10 #[] w fun e w'=>e=.returned (.bool true)∧Below w.heap.size w w':=by
 have HC:=hid (qgd 1 _ xdt (.slice (some ⟨w.heap.size,0,none⟩) 2 2) kL (w.alloc (.cells #[.string ⟨#[97,98,99,100,101,102]⟩,.string ⟨#[50]⟩] 9)) (Rd.new kL rfl (by decide)) xds (hT.below ((Below.refl _ w).alloc (Nat.le_refl _) _)))
 rw[xaz] at HC
 unfold qbc at HC
 go_enter Tryz.func10,Tryz.ntmps10
 go_wp2_with fail
 refine HC.out.mono ?_
 rintro e w1⟨rfl,hb⟩
 have HB:=hid (bxb hb)
 clear hb
 go_wp2_with fail
 refine(qs5 _).mono ?_
 rintro e w2⟨g,c,rfl,_,hb2⟩
 have HB2:=hid (HB.out.trans (hb2.mono HB.out.size))
 clear hb2
 go_wp2
 go_ret
 exact⟨rfl,HB2.out⟩
theorem qzv{w:World}{B g n c:Nat}{l:List BA}(h:Rd w B (.slice (some ⟨g,0,none⟩) n c) l)(i:Nat)(x:BA)(hx:l[i]? = some x):w.cell? ⟨g,i,none⟩=some (.string x):=by
 obtain⟨A,c',h1,_,_,h4⟩:=h.ex
 have hl:i<l.length:=(List.getElem?_eq_some_iff.1 hx).1
 obtain⟨g',o,h5,_,h6⟩:=h4 (by omega)
 injection h1 with h7
 rw[h5] at h7
 injection h7 with h7
 injection h7 with h8 h9
 subst h8 h9
 have:=h6 i x hx
 rwa [Nat.zero_add] at this
end Go.Proofs.YtldkgbnmaefaaaaGreatDoor.Fu
namespace Go.Proofs.YtldkgbnmaefaaaaGreatDoor.Fu
open Go.RowKit Go.Deep
theorem qw2{W:World}(h:laidMet Tryz.prog [("math/bits.deBruijn32tab",Rows.laid_math_bits_deBruijn32tab),("math/bits.deBruijn64tab",Rows.laid_math_bits_deBruijn64tab),("internal/strconv.uint64pow10",Rows.laid_internal_strconv_uint64pow10),("unicode/utf8.acceptRanges",Rows.laid_unicode_utf8_acceptRanges),("transclude/calendar.monthDays",Rows.laid_transclude_calendar_monthDays),("transclude/calendar.monthNames",Rows.laid_transclude_calendar_monthNames),("transclude/calendar.dayNames",Rows.laid_transclude_calendar_dayNames),("unicode/utf8.first",Rows.laid_unicode_utf8_first)] W)(hs:W.ShapedOpen Tryz.prog):Tb W:=by
 obtain⟨ps,⟨_,_,_,_,_,_,_,_,_,_,⟨_,_,_,_,_,_,_,_,_,_,⟨g,t,cs,fuel,p,q,hg,ht,hvar,hd,⟨_,_,_,_,_,_,_,_,_,_,⟨g1,t1,cs1,fuel1,p1,q1,hg1,ht1,hvar1,hd1,⟨g2,t2,cs2,fuel2,p2,q2,hg2,ht2,hvar2,hd2,⟨g3,t3,cs3,fuel3,p3,q3,hg3,ht3,hvar3,hd3,_,_⟩,_⟩,_⟩,_⟩,_⟩,_⟩,_⟩,_⟩:=h
 obtain rfl:=Option.some.inj (Ca.xeu.symm.trans hg)
 obtain rfl:=Option.some.inj (Ca.qqm.symm.trans ht)
 obtain rfl:=Option.some.inj (Ca.gMd.symm.trans hg1)
 obtain rfl:=Option.some.inj (Ca.quj.symm.trans ht1)
 obtain rfl:=Option.some.inj (Ca.gMn.symm.trans hg2)
 obtain rfl:=Option.some.inj (Ca.quk.symm.trans ht2)
 obtain rfl:=Option.some.inj (Ca.gWn.symm.trans hg3)
 obtain rfl:=Option.some.inj (Ca.qul.symm.trans ht3)
 rw[Ca.qqr] at hd
 rw[Ca.quu] at hd1
 rw[Ca.quv] at hd2
 rw[Ca.quw] at hd3
 have e0:=Lib.cells_of_tab Tryz.underlying245 Tryz.underlying147 Ca.xet Ca.xes hd
 have e1:=Lib.cells_of_tab Tryz.underlying242 Tryz.underlying3 Ca.xer Ca.cMd hd1
 have e2:=Ca.qdl Tryz.underlying223 Tryz.underlying9 Ca.cStr Ca.cMn hd2
 have e3:=Ca.qdl Tryz.underlying224 Tryz.underlying9 Ca.cStr Ca.cWn hd3
 have hp:Lib.TabIs Tryz.prog W "internal/strconv.uint64pow10" .u64 Lib.pow10Tab:=by
  unfold Lib.TabIs
  rw[hvar]
  congr 1
  exact Array.ext' (by rw[e0])
 refine⟨⟨hp,?_⟩,⟨hp,fun i hi=>Ca.cell_of Ca.gMd hvar1 ?_,fun i hi=>Ca.cell_of Ca.gMn hvar2 ?_,fun i hi=>Ca.cell_of Ca.gWn hvar3 ?_⟩⟩
 ·exact Go.Proofs.cell_of_shapedOpen_int (zero := #[.int .i64 0]) (t:=3) hs (of_decide_eq_true (by kernel_rfl)) (by kernel_rfl) rfl (by kernel_rfl) (by kernel_rfl) Tryz.underlying3
 ·rw[←Array.getElem?_toList,e1]
  match i,hi with
  | 0,_ | 1,_ | 2,_ | 3,_ | 4,_ | 5,_ | 6,_ | 7,_ | 8,_ | 9,_ | 10,_ | 11,_=>rfl
  |n+12,h=>omega
 ·rw[←Array.getElem?_toList,e2]
  match i,hi with
  | 0,_ | 1,_ | 2,_ | 3,_ | 4,_ | 5,_ | 6,_ | 7,_ | 8,_ | 9,_ | 10,_ | 11,_=>rfl
  |n+12,h=>omega
 ·rw[←Array.getElem?_toList,e3]
  match i,hi with
  | 0,_ | 1,_ | 2,_ | 3,_ | 4,_ | 5,_ | 6,_=>rfl
  |n+7,h=>omega
def cellOf:DataW Unit→Value
 | .lit (.int k n) => .int k n
 | .lit (.string s) => .string ⟨s.toArray⟩
 | _ => .bool false
def qdp:DataW Unit→List Value
 | .agg ds=>ds.map cellOf
 | _=>[]
def xaf:DataW Unit→List Value
 | .agg ds=>ds.flatMap qdp
 | _=>[]
def qnj(cs:List Value):Obj→Obj
 | .cells _ t frozen => .cells cs.toArray t frozen
 |o=>o
noncomputable def qbs (os:Os):World :=
 { World.holding Tryz.prog os ⟨#[],#[],[]⟩ with heap:=(((((((((World.holding Tryz.prog os ⟨#[],#[],[]⟩).heap.modify 7 (qnj (qdp Rows.laid_math_bits_deBruijn32tab))).modify 8 (qnj (qdp Rows.laid_math_bits_deBruijn64tab))).modify 4 (qnj (qdp Rows.laid_internal_strconv_uint64pow10))).modify 6 (qnj (xaf Rows.laid_unicode_utf8_acceptRanges))).modify 2 (qnj (qdp Rows.laid_transclude_calendar_monthDays))).modify 0 (qnj (qdp Rows.laid_transclude_calendar_monthNames))).modify 1 (qnj (qdp Rows.laid_transclude_calendar_dayNames))).modify 5 (qnj (qdp Rows.laid_unicode_utf8_first))) }
theorem own:ownKnob Tryz.prog.godebug=none:=by kernel_rfl
section
variable {H:Type} {enc:TypeId×Value→H} {w:World}
end
end Go.Proofs.YtldkgbnmaefaaaaGreatDoor.Fu
namespace Go.Proofs.YtldkgbnmaefaaaaGreatDoor.Fu
open Go.RowKit
set_option linter.unusedVariables false
set_option linter.unusedSimpArgs false
def qh9(w:World)(base:Nat)(v:Value)(l:List BA):Prop:=w.ownsRow base 9 1 v l.length (l.map Value.string)
theorem qh9.nil(w:World)(base:Nat):qh9 w base (.slice none 0 0) []:=World.ownsRow_nil _ _ _ _
theorem qh9.rd{w:World}{base:Nat}{v:Value}{l:List BA}(h:qh9 w base v l):Rd w w.heap.size v l:=by
 obtain⟨h1,h2⟩:=h
 rcases h2 with⟨rfl,h0⟩ | ⟨g,cap,cur,rfl,hb,hg,h3,h4,h5,h6⟩
 ·have:l=[]:=List.length_eq_zero_iff.1 h0
  subst this
  exact Rd.nil w
 ·refine⟨_,_,rfl,h3,h4,fun _=>⟨_,_,rfl,qac hg,fun i x hx => ?_⟩⟩
  refine qab hg ?_
  rw[Nat.zero_add]
  have hi:i<l.length:=(List.getElem?_eq_some_iff.1 hx).1
  have h7:(l.map Value.string)[i]? = some (.string x):=by rw[List.getElem?_map,hx];rfl
  rw[←h6,List.getElem?_take_of_lt (by omega)] at h7
  simpa using h7
theorem qh9.below{w w':World}{base:Nat}{v:Value}{l:List BA}(h:qh9 w base v l)(hb:Below w.heap.size w w'):qh9 w' base v l:=qwh h hb (Nat.le_refl _)
theorem qh9.one(w:World)(base:Nat)(x:BA)(hb:base≤w.heap.size):qh9 (w.alloc (.cells #[.string x] 9)) base (.slice (some ⟨w.heap.size,0,none⟩) 1 1) [x] :=
 World.ownsRow_lit w #[.string x] 1 hb (by decide) rfl
theorem qh9.form{w:World}{base:Nat}{v:Value}{l:List BA}(h:qh9 w base v l) : ∃ A c,v=.slice A l.length c∧l.length≤c∧c≤9223372036854775807:=by
 obtain⟨A,c,h1,h2,h3,_⟩:=h.rd.ex
 unfold maxLen at h3
 exact⟨A,c,h1,h2,by omega⟩
theorem qml(w:World)(ty:TypeId)(v u:Value)(l m:List BA)(base:Nat)(hrow:qh9 w base v l)(hu:Rd w w.heap.size u m)(hl:l.length≤1000)(hm:m.length≤1000)(hbase:base≤w.heap.size) :
  ∃ v' w',(Builtin.append_ #[22,22] ty #[v,u]).run Tryz.prog w=.ok v' w'∧qh9 w' base v' (l++m)∧Below base w w':=by
 obtain⟨i0,hi,hz0,hz1,hz2⟩:=info_parts qpq
 obtain⟨A,c,rfl,h1,h2,h3⟩:=hu.ex
 by_cases h0:m.length=0
 ·have hm0:=List.length_eq_zero_iff.1 h0
  subst hm0
  rw[List.append_nil]
  refine⟨v,w,?_,hrow,Below.refl _ _⟩
  obtain⟨B,c2,rfl,_,_⟩:=hrow.form
  have hr:=hrow.2
  rcases hr with⟨hv,hn⟩ | ⟨g,cap,cur,hv,_,_,hnc,_⟩
  ·rw[Value.slice.injEq] at hv
   obtain⟨e1,e2,e3⟩:=hv
   subst e1 e3
   rw[hn]
   cases A with
   |none=>simp[Builtin.append_,run_underlying Tryz.underlying22,sizeOf,typeInfo,hi,Builtin.lenOf,Builtin.firstCells]
   |some ad=>simp[Builtin.append_,run_underlying Tryz.underlying22,sizeOf,typeInfo,hi,Builtin.lenOf,Builtin.firstCells,loadCells,loadCellsFrom]
  ·rw[Value.slice.injEq] at hv
   obtain⟨e1,e2,e3⟩:=hv
   subst e1 e3
   cases A with
   |none=>simp[Builtin.append_,run_underlying Tryz.underlying22,sizeOf,typeInfo,hi,Builtin.lenOf,Builtin.firstCells,hnc,storeCells]
   |some ad=>simp[Builtin.append_,run_underlying Tryz.underlying22,sizeOf,typeInfo,hi,Builtin.lenOf,Builtin.firstCells,loadCells,loadCellsFrom,hnc,storeCells]
 ·obtain⟨g,o,rfl,hg,hc⟩:=h3 (by omega)
  have hne : ∀ j x,(m.map Value.string)[j]? = some x→w.cell? ((⟨g,o,none⟩:Addr).add j)=some x:=fun j x hj=>by
   rw[List.getElem?_map] at hj
   cases hq:m[j]? with
   |none=>rw[hq] at hj;cases hj
   |some y =>
    rw[hq] at hj
    cases hj
    have ha:(⟨g,o,none⟩:Addr).add j=⟨g,o+j,none⟩:=by
     unfold Addr.add;split
     ·rename_i e;rw[e];rfl
     ·rfl
    rw[ha];exact hc j y hq
  obtain⟨g',cap',w',r0,r1,r2,r3,r4⟩:=run_append_lies (P:=Tryz.prog) w 22 ty base 9 i0 _ 1 16 Tryz.underlying22 hi hz0 hz1 hz2 rfl (by omega) v l.length (l.map Value.string) hrow ⟨g,o,none⟩ m.length c (m.map Value.string) (by simp) hne (fun x hx=>by obtain⟨y,_,rfl⟩:=List.mem_map.1 hx;rfl) (by omega) (by simp only[maxLen];omega) (by omega) hbase w.heap.size rfl
  refine⟨_,w',r0,?_,(Below.refl _ _).grown r2 hbase (fun k q=>(World.ownsRow.lt hrow k q).1)⟩
  unfold qh9
  rw[List.length_append,List.map_append]
  exact r1
theorem qhv{P:Program}{ops:Array Oper}{rest:List Oper}{o:Oper}{a:Act}{Q:Exit→Act→World→Prop}{w w':World}{v u v':Value}(hgd:o.guard=none)(s x:Operand)(t:TypeId)
  (ho:o.op=.call { callee := .builtin .append,args := #[s,x],argTypes := #[t,t] }) (hs:a.eval s=v) (hx:a.eval x=u) (hr:(Builtin.append_ #[t,t] o.type #[v,u]).run P w=.ok v' w') (h:wpList P ops Q rest (a.put o.dst v') w'):wpList P ops Q (o :: rest) a w:=by
 refine wpList_plain hgd fun K hK => ?_
 unfold Oper.wp execOp
 simp only[ho,resolve,invoke,builtin,Sem.run_bind,Sem.run_pure,Result.andThen_ok,List.map_toArray,List.map_cons,List.map_nil,hs,hx,hr]
 exact hK _ _ h
end Go.Proofs.YtldkgbnmaefaaaaGreatDoor.Fu
