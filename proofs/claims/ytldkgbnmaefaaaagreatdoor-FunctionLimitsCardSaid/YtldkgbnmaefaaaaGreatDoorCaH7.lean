import Derived.Test.YtldkgbnmaefaaaaGreatDoorCaG1
import Derived.Test.YtldkgbnmaefaaaaGreatDoorRows
import Derived.RangeFuncOwn
import Derived.Lib.LaidTab
import Derived.Shelf.LaysM
import Derived.OpenShut
set_option maxRecDepth 100000
set_option maxHeartbeats 4000000
namespace Go.Proofs.YtldkgbnmaefaaaaGreatDoor.Ca
open Go.RowKit
theorem qdl{H:Type}{enc:TypeId×Value→H}{P:Program}{w:World}{base:Nat}{sp:Nat→Bool}{held:Bool}{fuel:Nat}{t e:TypeId}{n:Nat}{cs:List Value}{zs:List (List UInt8)}{p:List MemPlace}
  (ht:P.underlying t=some (.array n e)) (he:P.underlying e=some .string) (hce:P.cellsOf e=1) (hct:P.cellsOf t=n)
  (h:DataW.trod enc P w base sp held fuel t cs=some (.agg (zs.map fun z => .lit (.string z)),p)):cs=zs.map fun z=>Value.string ⟨z.toArray⟩:=by
 obtain⟨xs,m,_,hx,hl,hn,hi⟩:=DataW.trod_array ht h
 rw[hct] at hl
 have hxs:xs.map (·.1)=zs.map fun z=>(DataW.lit (.string z):DataW H):=by
  have:=congrArg Prod.fst hx
  simpa using this.symm
 have hzl:zs.length=n:=by
  have:=congrArg List.length hxs
  simp at this
  omega
 apply List.ext_getElem?
 intro i
 by_cases hin:i<n
 ·have h0:=hi i hin
  rw[hce,Nat.mul_one] at h0
  have hxi:i<xs.length:=by omega
  rw[List.getElem?_eq_getElem hxi] at h0
  obtain⟨s,hc,hz,_⟩:=DataW.trod_string he h0
  have h1:cs[i]? = some (.string s):=by
   have:=congrArg (·[0]?) hc
   simpa [List.getElem?_take,List.getElem?_drop] using this
  have h2:(xs.map (·.1))[i]? = some (DataW.lit (.string s.data.toList):DataW H):=by
   rw[List.getElem?_map,List.getElem?_eq_getElem hxi,hz];rfl
  rw[hxs] at h2
  simp only[List.getElem?_map,Option.map_eq_some_iff,DataW.lit.injEq,Lit.string.injEq] at h2
  obtain⟨z',hz',hzz⟩:=h2
  rw[h1,List.getElem?_map,hz']
  simp[hzz]
 ·rw[List.getElem?_eq_none (by omega),List.getElem?_eq_none (by simp;omega)]
theorem qo1{P:Program}{w:World}{n:String}{g:Nat}{cs:Array Value}(hg:P.globalNamed n=some g)(h:w.var? P n=some cs) : ∃ t fr,w.heap[g]? = some (.cells cs t fr):=by
 simp only[World.var?,hg,Option.bind_some] at h
 split at h
 ·rename_i cs' t fr hh
  obtain rfl:=Option.some.inj h
  exact⟨t,fr,hh⟩
 ·cases h
theorem cell_of{P:Program}{w:World}{n:String}{g:Nat}{cs:Array Value}(hg:P.globalNamed n=some g)(h:w.var? P n=some cs){i:Nat}{v:Value}(hv:cs[i]? = some v):w.cell? ⟨g,i,none⟩=some v:=by
 obtain⟨t,fr,hh⟩:=qo1 hg h
 simp[World.cell?,hh,hv]
def mds:List Int:=[31,28,31,30,31,30,31,31,30,31,30,31]
def mns:List (List UInt8):=[qbu 1,qbu 2,qbu 3,qbu 4,qbu 5,qbu 6,qbu 7,qbu 8,qbu 9,qbu 10,qbu 11,qbu 12]
def wns:List (List UInt8):=[qb9 1,qb9 2,qb9 3,qb9 4,qb9 5,qb9 6,qb9 7]
theorem qqr:(Rows.laid_internal_strconv_uint64pow10:DataW Unit)=Lib.tabData .u64 Lib.pow10Tab:=by rfl
theorem quu:(Rows.laid_transclude_calendar_monthDays:DataW Unit)=Lib.tabData .i64 mds:=by rfl
theorem quv:(Rows.laid_transclude_calendar_monthNames:DataW Unit)=.agg (mns.map fun z => .lit (.string z)):=by rfl
theorem quw:(Rows.laid_transclude_calendar_dayNames:DataW Unit)=.agg (wns.map fun z => .lit (.string z)):=by rfl
theorem xeu:Tryz.prog.globalNamed "internal/strconv.uint64pow10" = some 4:=by kernel_rfl
theorem qqm:(Tryz.prog.globals[4]?).map (·.type)=some 245:=by kernel_rfl
theorem gMd:Tryz.prog.globalNamed "transclude/calendar.monthDays" = some 2:=by kernel_rfl
theorem quj:(Tryz.prog.globals[2]?).map (·.type)=some 242:=by kernel_rfl
theorem gMn:Tryz.prog.globalNamed "transclude/calendar.monthNames" = some 0:=by kernel_rfl
theorem quk:(Tryz.prog.globals[0]?).map (·.type)=some 223:=by kernel_rfl
theorem gWn:Tryz.prog.globalNamed "transclude/calendar.dayNames" = some 1:=by kernel_rfl
theorem qul:(Tryz.prog.globals[1]?).map (·.type)=some 224:=by kernel_rfl
theorem xet:Tryz.prog.cellsOf 147=1:=by kernel_rfl
theorem xer:Tryz.prog.cellsOf 3=1:=by kernel_rfl
theorem cStr:Tryz.prog.cellsOf 9=1:=by kernel_rfl
theorem xes:Tryz.prog.cellsOf 245=20:=by kernel_rfl
theorem cMd:Tryz.prog.cellsOf 242=12:=by kernel_rfl
theorem cMn:Tryz.prog.cellsOf 223=12:=by kernel_rfl
theorem cWn:Tryz.prog.cellsOf 224=7:=by kernel_rfl
theorem qw2{W:World}(h:laidMet Tryz.prog [("math/bits.deBruijn32tab",Rows.laid_math_bits_deBruijn32tab),("math/bits.deBruijn64tab",Rows.laid_math_bits_deBruijn64tab),("internal/strconv.uint64pow10",Rows.laid_internal_strconv_uint64pow10),("transclude/calendar.monthDays",Rows.laid_transclude_calendar_monthDays),("transclude/calendar.monthNames",Rows.laid_transclude_calendar_monthNames),("transclude/calendar.dayNames",Rows.laid_transclude_calendar_dayNames)] W)(_hs:W.ShapedOpen Tryz.prog):Tb W:=by
 obtain⟨ps,⟨_,_,_,_,_,_,_,_,_,_,⟨_,_,_,_,_,_,_,_,_,_,⟨g,t,cs,fuel,p,q,hg,ht,hvar,hd,⟨g1,t1,cs1,fuel1,p1,q1,hg1,ht1,hvar1,hd1,⟨g2,t2,cs2,fuel2,p2,q2,hg2,ht2,hvar2,hd2,⟨g3,t3,cs3,fuel3,p3,q3,hg3,ht3,hvar3,hd3,_,_⟩,_⟩,_⟩,_⟩,_⟩,_⟩,_⟩:=h
 obtain rfl:=Option.some.inj (xeu.symm.trans hg)
 obtain rfl:=Option.some.inj (qqm.symm.trans ht)
 obtain rfl:=Option.some.inj (gMd.symm.trans hg1)
 obtain rfl:=Option.some.inj (quj.symm.trans ht1)
 obtain rfl:=Option.some.inj (gMn.symm.trans hg2)
 obtain rfl:=Option.some.inj (quk.symm.trans ht2)
 obtain rfl:=Option.some.inj (gWn.symm.trans hg3)
 obtain rfl:=Option.some.inj (qul.symm.trans ht3)
 rw[qqr] at hd
 rw[quu] at hd1
 rw[quv] at hd2
 rw[quw] at hd3
 have e0:=Lib.cells_of_tab Tryz.underlying245 Tryz.underlying147 xet xes hd
 have e1:=Lib.cells_of_tab Tryz.underlying242 Tryz.underlying3 xer cMd hd1
 have e2:=qdl Tryz.underlying223 Tryz.underlying9 cStr cMn hd2
 have e3:=qdl Tryz.underlying224 Tryz.underlying9 cStr cWn hd3
 refine⟨?_,fun i hi=>cell_of gMd hvar1 ?_,fun i hi=>cell_of gMn hvar2 ?_,fun i hi=>cell_of gWn hvar3 ?_⟩
 ·unfold Lib.TabIs
  rw[hvar]
  congr 1
  exact Array.ext' (by rw[e0])
 ·rw[←Array.getElem?_toList,e1]
  match i,hi with
  | 0,_ | 1,_ | 2,_ | 3,_ | 4,_ | 5,_ | 6,_ | 7,_ | 8,_ | 9,_ | 10,_ | 11,_=>rfl
  |n+12,h=>omega
 ·rw[←Array.getElem?_toList,e2]
  match i,hi with
  | 0,_ | 1,_ | 2,_ | 3,_ | 4,_ | 5,_ | 6,_ | 7,_ | 8,_ | 9,_ | 10,_ | 11,_=>rfl
  |n+12,h=>omega
 ·rw[←Array.getElem?_toList,e3]
  match i,hi with
  | 0,_ | 1,_ | 2,_ | 3,_ | 4,_ | 5,_ | 6,_=>rfl
  |n+7,h=>omega
def cellOf:DataW Unit→Value
 | .lit (.int k n) => .int k n
 | .lit (.string s) => .string ⟨s.toArray⟩
 | _ => .bool false
def qdp:DataW Unit→List Value
 | .agg ds=>ds.map cellOf
 | _=>[]
def fill(cs:List Value):Obj→Obj
 | .cells _ t frozen => .cells cs.toArray t frozen
 |o=>o
noncomputable def qbs (os:Os):World :=
 { World.holding Tryz.prog os ⟨#[],#[],[]⟩ with heap:=((((((World.holding Tryz.prog os ⟨#[],#[],[]⟩).heap.modify 7 (fill (qdp Rows.laid_math_bits_deBruijn32tab))).modify 8 (fill (qdp Rows.laid_math_bits_deBruijn64tab))).modify 4 (fill (qdp Rows.laid_internal_strconv_uint64pow10))).modify 2 (fill (qdp Rows.laid_transclude_calendar_monthDays))).modify 0 (fill (qdp Rows.laid_transclude_calendar_monthNames))).modify 1 (fill (qdp Rows.laid_transclude_calendar_dayNames)) }
theorem own:ownKnob Tryz.prog.godebug=none:=by kernel_rfl
end Go.Proofs.YtldkgbnmaefaaaaGreatDoor.Ca
