import Derived.Lib.RuneCountTail
import Derived.Lib.Strings
import Derived.Test.YtldkgbnmaefaaaaGreatDoorCaG3
import Derived.Test.YtldkgbnmaefaaaaGreatDoorChecked
import Derived.WalkKit
import Derived.WalkSpells
import Derived.WalkLawsBesides
import Derived.Outline
import Derived.Deep.QuietTactic
import Derived.BigQuiet
import Derived.Lib.Hide
import Derived.IntWalk
import Derived.RangeFuncNested
import Derived.RangeFuncBound
import Derived.RangeFuncCalls
import Derived.RangeFuncLeaves
import Derived.RangeFuncFrom
import Derived.Shelf.Abstract
import Derived.Shelf.RegionOpen
import Derived.OwnWalkIn
import Derived.TacticsInMore
import Derived.LoopNIn
import Derived.LoopIn
import Derived.Deep.RegionHeld
import Derived.Lib.OthersKept
import Derived.Sort.QuietIn
import Derived.Laws.Rows
set_option maxRecDepth 100000
set_option maxHeartbeats 4000000
open Go.Lib (hid)
namespace Go.Proofs.YtldkgbnmaefaaaaGreatDoor.Sf
def wd(s:ByteArray)(p:Nat):Nat:=(Utf8.decode s p).2
def stf(s:ByteArray):Nat→Nat→List Nat
 | 0,_=>[]
 |f+1,p=>if p<s.size then p :: stf s f (p+wd s p) else []
def qcx(s:ByteArray)(p:Nat):List Nat:=stf s (s.size-p) p
def sts(s:ByteArray):List Nat:=qcx s 0
def al(s:ByteArray):List Nat:=sts s++[s.size]
def ag(s:ByteArray)(i:Nat):Nat:=(sts s).getD i s.size
def rc(s:ByteArray):Nat:=(sts s).length
theorem qh7{s:ByteArray}{p:Nat}(h:p<s.size):1≤wd s p:=Lib.decode_width_pos s p h
theorem qkv(s:ByteArray) : ∀ f g p,s.size-p≤f→s.size-p≤g→stf s f p=stf s g p
 | 0,0,_,_,_=>rfl
 | 0,g+1,p,hf,_=>by unfold stf;rw[if_neg (by omega)]
 |f+1,0,p,_,hg=>by unfold stf;rw[if_neg (by omega)]
 |f+1,g+1,p,hf,hg=>by
  unfold stf
  by_cases h:p<s.size
  ·have:=qh7 h
   rw[if_pos h,if_pos h,qkv s f g _ (by omega) (by omega)]
  ·rw[if_neg h,if_neg h]
theorem qb7{s:ByteArray}{p:Nat}(h : ¬ p<s.size):qcx s p=[]:=by
 unfold qcx;rw[show s.size-p=0 from by omega];rfl
theorem qbb{s:ByteArray}{p:Nat}(h:p<s.size):qcx s p=p :: qcx s (p+wd s p):=by
 have hw:=qh7 h
 unfold qcx
 obtain⟨f,hf⟩ : ∃ f,s.size-p=f+1:=⟨s.size-p-1,by omega⟩
 rw[hf]
 show(if p<s.size then _ else _)=_
 rw[if_pos h,qkv s f (s.size-(p+wd s p)) _ (by omega) (Nat.le_refl _)]
theorem qfe(s:ByteArray)(M:Nat→Prop)(he : ∀ p,¬ p<s.size→M p)(hs : ∀ p,p<s.size→M (p+wd s p)→M p)(p:Nat):M p:=by
 obtain⟨n,hn⟩ : ∃ n,s.size-p=n:=⟨_,rfl⟩
 induction n using Nat.strongRecOn generalizing p with
 |ind n ih =>
  by_cases h:p<s.size
  ·have:=qh7 h
   exact hs p h (ih (s.size-(p+wd s p)) (by omega) _ rfl)
  ·exact he p h
theorem qne(s:ByteArray) : ∀ f p,Lib.runeCountFrom s f p=(stf s f p).length
 | 0,_=>rfl
 |f+1,p=>by
  unfold Lib.runeCountFrom stf
  split
  ·rw[qne s f,List.length_cons];unfold wd;omega
  ·rfl
theorem qh5(s:ByteArray):Lib.runeCount s=rc s:=qne s s.size 0
theorem qer(s:ByteArray):rc s≤s.size:=by rw[←qh5];exact Lib.runeCount_le s
theorem qgw(s:ByteArray)(p:Nat) : ∀ q,q∈qcx s p→p≤q∧q<s.size:=by
 refine qfe s (fun p => ∀ q,q∈qcx s p→p≤q∧q<s.size) (fun p h q hq => ?_) (fun p h ih q hq => ?_) p
 ·rw[qb7 h] at hq;cases hq
 ·rw[qbb h] at hq
  rcases List.mem_cons.1 hq with rfl | hq
  ·exact⟨Nat.le_refl _,h⟩
  ·have:=ih q hq;have:=qh7 h;omega
theorem qh6(s:ByteArray)(p:Nat):(qcx s p).Pairwise (· < ·):=by
 refine qfe s (fun p=>(qcx s p).Pairwise (· < ·)) (fun p h => ?_) (fun p h ih => ?_) p
 ·rw[qb7 h];exact List.Pairwise.nil
 ·rw[qbb h]
  refine List.Pairwise.cons (fun q hq => ?_) ih
  have:=qgw s _ q hq;have:=qh7 h;omega
theorem qkt(s:ByteArray)(p:Nat) : ∀ i,(qcx s p).drop i=qcx s ((qcx s p).getD i s.size):=by
 refine qfe s (fun p => ∀ i,(qcx s p).drop i=qcx s ((qcx s p).getD i s.size)) (fun p h i => ?_) (fun p h ih i => ?_) p
 ·rw[qb7 h];simp[qb7 (s:=s) (p:=s.size) (by omega)]
 ·cases i with
  |zero=>rw[qbb h];simp;rw[←qbb h]
  |succ i =>
   have:=ih i
   rw[qbb h]
   simpa using this
theorem qku(s:ByteArray)(k:Nat)(hk:k≤s.size)(p:Nat):qcx (s.extract k s.size) p=(qcx s (k+p)).map (· - k):=by
 refine qfe (s.extract k s.size) (fun p=>qcx (s.extract k s.size) p=(qcx s (k+p)).map (· - k)) (fun p h => ?_) (fun p h ih => ?_) p
 ·rw[Lib.tail_size] at h
  rw[qb7 (by rw[Lib.tail_size];exact h),qb7 (by omega)];rfl
 ·have h':=h
  rw[Lib.tail_size] at h'
  have hw:wd (s.extract k s.size) p=wd s (k+p):=by unfold wd;rw[Lib.tail_decode]
  rw[qbb h,qbb (s:=s) (p:=k+p) (by omega),ih,hw,List.map_cons,Nat.add_assoc]
  congr 1
  omega
theorem getD_in{l:List Nat}{i d:Nat}(h:i<l.length):l.getD i d=l[i]:=by rw[List.getD,List.getElem?_eq_getElem h];rfl
theorem qij{l:List Nat}{i d:Nat}(h:l.length≤i):l.getD i d=d:=by rw[List.getD,List.getElem?_eq_none h];rfl
theorem qez(s:ByteArray)(i:Nat):ag s i≤s.size:=by
 unfold ag
 by_cases h:i<(sts s).length
 ·rw[getD_in h];exact Nat.le_of_lt (qgw s 0 _ (List.getElem_mem h)).2
 ·rw[qij (by omega)];exact Nat.le_refl _
theorem qd6{s:ByteArray}{i:Nat}(h:rc s≤i):ag s i=s.size:=qij h
theorem qla(s:ByteArray):ag s 0=0:=by
 unfold ag sts
 by_cases h:0<s.size
 ·rw[qbb h];rfl
 ·rw[qb7 h];simp only[List.getD,List.getElem?_nil,Option.getD_none];omega
theorem qgi{s:ByteArray}{i:Nat}(h:i<(sts s).length):ag s i=(sts s)[i]:=getD_in h
theorem qk8(s:ByteArray){i j:Nat}(h:i≤j):ag s i≤ag s j:=by
 by_cases hj:j<(sts s).length
 ·rcases Nat.lt_or_eq_of_le h with h1 | rfl
  ·have hi:i<(sts s).length:=by omega
   rw[qgi hi,qgi hj]
   exact Nat.le_of_lt (List.pairwise_iff_getElem.1 (qh6 s 0) i j hi hj h1)
  ·exact Nat.le_refl _
 ·rw[qd6 (s:=s) (i:=j) (by unfold rc;omega)];exact qez s i
theorem qv7(s:ByteArray)(F:Nat):rc (s.extract (ag s F) s.size)=rc s-F:=by
 unfold rc sts
 rw[qku s _ (qez s F),List.length_map,Nat.add_zero]
 show(qcx s ((qcx s 0).getD F s.size)).length=_
 rw[←qkt s 0,List.length_drop]
theorem q4g(s:ByteArray)(F N:Nat):ag (s.extract (ag s F) s.size) N=ag s (F+N)-ag s F:=by
 have h1:sts (s.extract (ag s F) s.size)=((sts s).drop F).map (· - ag s F):=by
  unfold sts
  rw[qku s _ (qez s F),Nat.add_zero]
  show(qcx s ((qcx s 0).getD F s.size)).map _=_
  rw[←qkt s 0]
 by_cases h:F+N<rc s
 ·have h':F+N<(sts s).length:=h
  rw[qgi (i:=F+N) h',qgi (s:=s.extract (ag s F) s.size) (i:=N) (by rw[h1];simp;omega)]
  simp[h1]
 ·rw[qd6 (s:=s) (i:=F+N) (by omega),qd6 (s:=s.extract (ag s F) s.size) (i:=N) (by rw[qv7];omega),Lib.tail_size]
def sl(s:ByteArray)(F N:Nat):ByteArray:=s.extract (ag s F) (ag s (F+N))
theorem q7a(s:ByteArray)(F N:Nat):(s.extract (ag s F) s.size).extract 0 (ag (s.extract (ag s F) s.size) N)=sl s F N:=by
 rw[q4g,ByteArray.extract_extract]
 unfold sl
 have:=qez s (F+N)
 have:=qk8 s (Nat.le_add_right F N)
 congr 1<;>omega
def slF(s:ByteArray)(f:Int):Nat:=if f<0 then (f+rc s).toNat else f.toNat
def slN(s:ByteArray)(F:Nat)(n:Int):Nat:=if n<0 then (n+((rc s-F:Nat):Int)).toNat else n.toNat
def slice(s:ByteArray)(f n:Int):ByteArray:=sl s (slF s f) (slN s (slF s f) n)
theorem xbv{s:ByteArray}{F N:Nat}(h:rc s≤F+N):sl s F N=s.extract (ag s F) s.size:=by unfold sl;rw[qd6 h]
def qs0(s:ByteArray):List (Nat×Nat):=(al s).zipIdx
end Go.Proofs.YtldkgbnmaefaaaaGreatDoor.Sf
namespace Go.Proofs.YtldkgbnmaefaaaaGreatDoor.Sf
def qdr(s t:ByteArray)(i:Nat):Bool:=Lib.hasPrefix (s.extract i s.size).data.toList t.data.toList
theorem qb4{a b:ByteArray}(h:a.data.toList=b.data.toList):a=b:=by
 cases a;cases b;congr 1;exact Array.toList_inj.1 h
theorem ext_list(s:ByteArray)(a b:Nat):(s.extract a b).data.toList=(s.data.toList.drop a).take (b-a):=by
 simp[ByteArray.data_extract,Array.toList_extract,List.extract]
theorem qif(s:ByteArray)(a:Nat):(s.extract a s.size).data.toList=s.data.toList.drop a:=by
 rw[ext_list]
 apply List.take_of_length_le
 simp[←ByteArray.size_data]
theorem qag(s:ByteArray):s.data.toList.length=s.size:=by simp
theorem qen{s t:ByteArray}{i:Nat}(hi:i≤s.size):qdr s t i=true↔i+t.size≤s.size∧s.extract i (i+t.size)=t:=by
 unfold qdr Lib.hasPrefix
 rw[qif,List.isPrefixOf_iff_prefix]
 have hl:=qag s
 have ht:=qag t
 constructor
 ·intro h
  have h1:=h.length_le
  rw[List.length_drop] at h1
  refine⟨by omega,qb4 ?_⟩
  rw[ext_list,Nat.add_sub_cancel_left,←ht]
  exact(List.prefix_iff_eq_take.1 h).symm
 ·rintro⟨h1,h2⟩
  rw[List.prefix_iff_eq_take,ht]
  conv=>lhs;rw[←h2]
  rw[ext_list,Nat.add_sub_cancel_left]
theorem qy1{s t:ByteArray}(ht:t.size≠0):qdr s t s.size=false:=by
 rw[Bool.eq_false_iff]
 intro h
 have:=((qen (Nat.le_refl _)).1 h).1
 omega
def fnd(s t:ByteArray)(f:Int):Int:=match (List.range (rc s+1)).find? (fun p:Nat=>decide (f≤(p:Int))&&qdr s t (ag s p)) with
 |some p=>p
 |none => -1
theorem qqk{s t:ByteArray}{f:Int}(h : ∀ j,j≤rc s→f≤(j:Int)→qdr s t (ag s j)=false):fnd s t f = -1:=by
 unfold fnd
 rw[List.find?_eq_none.2]
 intro j hj
 have:=List.mem_range.1 hj
 by_cases h1:f≤(j:Int)
 ·simp[h j (by omega) h1]
 ·simp[h1]
theorem qql{s t:ByteArray}{f:Int}{p:Nat}(hp:p≤rc s)(hf:f≤(p:Int))(h1:qdr s t (ag s p)=true)(h : ∀ j,j<p→f≤(j:Int)→qdr s t (ag s j)=false):fnd s t f=p:=by
 unfold fnd
 have h2:(List.range (rc s+1)).find? (fun p:Nat=>decide (f≤(p:Int))&&qdr s t (ag s p))=some p:=by
  rw[List.find?_range_eq_some]
  refine⟨by simp[hf,h1],by simp;omega,fun j hj => ?_⟩
  by_cases h3:f≤(j:Int)
  ·simp[h j hj h3]
  ·simp[h3]
 rw[h2]
theorem qyz(s t:ByteArray)(f:Int):(fnd s t f = -1 ∧ ∀ j,j≤rc s→f≤(j:Int)→qdr s t (ag s j)=false) ∨
  ∃ p:Nat,fnd s t f=p∧p≤rc s∧f≤(p:Int)∧qdr s t (ag s p)=true ∧ ∀ j,j<p→f≤(j:Int)→qdr s t (ag s j)=false:=by
 cases hc:(List.range (rc s+1)).find? (fun p:Nat=>decide (f≤(p:Int))&&qdr s t (ag s p)) with
 |none =>
  refine .inl ⟨by unfold fnd;rw[hc],fun j hj hf => ?_⟩
  have:=List.find?_eq_none.1 hc j (List.mem_range.2 (by omega))
  simpa [hf] using this
 |some p =>
  obtain⟨h1,h2,h3⟩:=List.find?_range_eq_some.1 hc
  simp only[Bool.and_eq_true,decide_eq_true_eq] at h1
  have:=List.mem_range.1 h2
  refine .inr ⟨p,by unfold fnd;rw[hc],by omega,h1.1,h1.2,fun j hj hf => ?_⟩
  have:=h3 j hj
  simpa [hf] using this
def oc(s t:ByteArray):List Nat→Nat→List Nat
 | [],_=>[]
 |a :: l,e=>if (t.size≠0∧e≤a)∧qdr s t a=true then a :: oc s t l (a+t.size) else oc s t l e
def occ(s t:ByteArray):List Nat:=oc s t (sts s) 0
theorem qnr{s t:ByteArray}{a e:Nat}{l:List Nat}(h:(t.size≠0∧e≤a)∧qdr s t a=true):oc s t (a :: l) e=a :: oc s t l (a+t.size):=by rw[oc,if_pos h]
theorem qo8{s t:ByteArray}{a e:Nat}{l:List Nat}(h : ¬ ((t.size≠0∧e≤a)∧qdr s t a=true)):oc s t (a :: l) e=oc s t l e:=by rw[oc,if_neg h]
theorem qvd{s t:ByteArray}(ht:t.size=0) : ∀ l e,oc s t l e=[]
 | [],_=>rfl
 |a :: l,e=>by rw[qo8 (by omega),qvd ht l e]
theorem qvb(s t:ByteArray) : ∀ l e,oc s t (l++[s.size]) e=oc s t l e
 | [],e=>by
  show oc s t [s.size] e=[]
  rw[qo8];rfl
  rintro⟨⟨h1,_⟩,h2⟩
  rw[qy1 h1] at h2;cases h2
 |a :: l,e=>by
  rw[List.cons_append]
  by_cases h:(t.size≠0∧e≤a)∧qdr s t a=true
  ·rw[qnr h,qnr h,qvb s t l]
  ·rw[qo8 h,qo8 h,qvb s t l]
theorem xa6(s t:ByteArray):oc s t (al s) 0=occ s t:=qvb s t _ _
theorem qvc(s t:ByteArray) : ∀ l e,(oc s t l e).length≤l.length
 | [],_=>Nat.le_refl _
 |a :: l,e=>by
  by_cases h:(t.size≠0∧e≤a)∧qdr s t a=true
  ·rw[qnr h,List.length_cons,List.length_cons];have:=qvc s t l (a+t.size);omega
  ·rw[qo8 h,List.length_cons];have:=qvc s t l e;omega
theorem qdi(s t:ByteArray):(occ s t).length≤s.size:=Nat.le_trans (qvc s t _ _) (qer s)
def Ok(s t:ByteArray):List Nat→Nat→Prop
 | [],e=>e≤s.size
 |a :: l,e=>e≤a∧t.size≠0∧a+t.size≤s.size∧s.extract a (a+t.size)=t∧Ok s t l (a+t.size)
theorem q5l(s t:ByteArray) : ∀ l e,e≤s.size→(∀ a,a∈l→a<s.size)→Ok s t (oc s t l e) e
 | [],e,he,_=>he
 |a :: l,e,he,hl=>by
  by_cases h:(t.size≠0∧e≤a)∧qdr s t a=true
  ·rw[qnr h]
   have ha:=hl a (List.mem_cons_self ..)
   have h2:=(qen (Nat.le_of_lt ha)).1 h.2
   exact⟨h.1.2,h.1.1,h2.1,h2.2,q5l s t l _ h2.1 (fun b hb=>hl b (List.mem_cons_of_mem _ hb))⟩
  ·rw[qo8 h]
   exact q5l s t l e he (fun b hb=>hl b (List.mem_cons_of_mem _ hb))
theorem qje(s t:ByteArray):Ok s t (occ s t) 0:=q5l s t _ 0 (Nat.zero_le _) (fun a ha=>(qgw s 0 a ha).2)
theorem Ok.le{s t:ByteArray} : ∀ {l:List Nat} {e:Nat},Ok s t l e→e≤s.size
 | [],_,h=>h
 |a :: _,_,h=>by have:=h.1;have:=h.2.2.1;omega
def dv(s t:ByteArray):List Nat→Nat→List ByteArray
 | [],f=>[s.extract f s.size]
 |a :: l,f=>s.extract f a :: dv s t l (a+t.size)
def parts(s t:ByteArray):List ByteArray:=dv s t (occ s t) 0
theorem q1i(s t:ByteArray) : ∀ l f,(dv s t l f).length=l.length+1
 | [],_=>rfl
 |a :: l,f=>by rw[dv,List.length_cons,q1i s t l,List.length_cons]
theorem qfc(s t:ByteArray):(parts s t).length=(occ s t).length+1:=q1i s t _ _
def pb(t:ByteArray)(l:List Nat)(f k:Nat):Nat:=if k=0 then f else l.getD (k-1) 0+t.size
def pe(s:ByteArray)(l:List Nat)(k:Nat):Nat:=l.getD k s.size
theorem Ok.at{s t:ByteArray} : ∀ {l:List Nat} {e:Nat} (_:Ok s t l e) (k:Nat) (_:k<l.length),pb t l e k≤l.getD k 0∧l.getD k 0+t.size≤s.size∧s.extract (l.getD k 0) (l.getD k 0+t.size)=t
 |a :: l,e,h,0,_=>⟨h.1,h.2.2.1,h.2.2.2.1⟩
 |a :: l,e,h,k+1,hk=>by
  have:=Ok.at h.2.2.2.2 k (by simpa using hk)
  cases k with
  |zero=>exact this
  |succ k=>exact this
theorem Ok.pb_le{s t:ByteArray}{l:List Nat}{e:Nat}(h:Ok s t l e){k:Nat}(hk:k≤l.length):pb t l e k≤pe s l k∧pe s l k≤s.size:=by
 by_cases h1:k<l.length
 ·have:=h.at k h1
  have h2:pe s l k=l.getD k 0:=by unfold pe;rw[getD_in h1,getD_in h1]
  rw[h2];omega
 ·have h2:pe s l k=s.size:=qij (by omega)
  rw[h2]
  refine⟨?_,Nat.le_refl _⟩
  unfold pb
  split
  ·exact h.le
  ·exact(h.at (k-1) (by omega)).2.1
theorem Ok.next{s t:ByteArray}{l:List Nat}{e:Nat}(h:Ok s t l e){k:Nat}(hk:k<l.length):pb t l e (k+1)=pe s l k+t.size∧pe s l k+t.size≤s.size∧s.extract (pe s l k) (pe s l k+t.size)=t:=by
 have:=h.at k hk
 have h2:pe s l k=l.getD k 0:=by unfold pe;rw[getD_in hk,getD_in hk]
 rw[h2]
 exact⟨rfl,this.2.1,this.2.2⟩
def part(s t:ByteArray)(i:Int):ByteArray :=
 let k:=if i<0 then i+(((occ s t).length+1:Nat):Int) else i
 if k<0 then ByteArray.empty else (parts s t).getD k.toNat ByteArray.empty
end Go.Proofs.YtldkgbnmaefaaaaGreatDoor.Sf
namespace Go.Proofs.YtldkgbnmaefaaaaGreatDoor.Sf
open Go.RowKit Go.Shelf
attribute [local go_sem] Oper.semAt_some
set_option linter.unusedVariables false
theorem qak{k:IntKind}{a b:Int}(h:a=b):Ending.returned (.int k a)=.returned (.int k b):=by rw[h]
theorem qaw{a b:Bool}(h:a=b):Ending.returned (.bool a)=.returned (.bool b):=by rw[h]
theorem qa4{a b:ByteArray}(h:a=b):Ending.returned (.string a)=.returned (.string b):=by rw[h]
theorem below_drewN{B:Nat}{a w:World}(h:Below B a w)(n:Nat):Below B a (w.drewN n):=⟨h.os,h.tape,h.output,h.size,h.block⟩
theorem qhd{P:Program}{o:Oper}{a:Act}{C:World→Prop}:Oper.askedIn Fence.wide P o a C=True:=eq_true (fun _ _ _ _=>trivial)
theorem qf1{l:Nat}{P:Program}{o:Oper}{a:Act}{C:World→Prop}:Oper.askedIn (Fence.wide.inRound l) P o a C=True:=eq_true (fun _ _ _ _=>trivial)
theorem qp1(f:FuncId):Fence.wide.fn f=True:=rfl
theorem qmh(l:Nat)(f:FuncId):(Fence.wide.inRound l).fn f=True:=rfl
attribute [local simp] qhd qf1 qp1 qmh
theorem qhz{s:ByteArray}(h:s.size≠0):s.toList.isEmpty=false:=by
 rw[Lib.toList_data]
 cases hl:s.data.toList with
 |nil=>exact absurd (by rw[←qag,hl];rfl) h
 |cons _ _=>rfl
theorem qda(W:World)(v:Value)(t:TypeId):(W.alloc (.cells #[v] t)).cell? ⟨W.heap.size,0,none⟩=some v∧(W.alloc (.cells #[v] t)).frozen? ⟨W.heap.size,0,none⟩=false :=
 ⟨by simp,by simp⟩
theorem qa3{W:World}{a:Addr}{v:Value}(o:Obj)(h:W.cell? a=some v):(W.alloc o).cell? a=some v :=
 cell_kept h (World.grownBy_alloc W o none) (fun r e=>by cases e)
theorem qch{W:World}{a:Addr}{v:Value}(o:Obj)(h:W.cell? a=some v)(hf:W.frozen? a=false):(W.alloc o).frozen? a=false :=
 (frozen_kept h (World.grownBy_alloc W o none) (fun r e=>by cases e)).trans hf
theorem qfr{W W':World}(h:Below W.heap.size W W'):KeepsOthers W W':=⟨h.size,fun k _ hk _=>(h.block k (Array.getElem?_eq_some_iff.1 hk).1).trans hk⟩
theorem iterPos_of{W:World}{k p:Nat}{s:ByteArray}(h:W.heap[k]? = some (.stringIter s p)):W.iterPos k=p:=by simp[World.iterPos,h]
theorem qjb{α : Type}{l pre:List α}{x : α}{r:List α}(h:l=pre++(x :: r)):pre.length<l.length:=by rw[h];simp
def Kp(a b:Nat)(W W':World):Prop:=KeepsWalks W W'∧W'.heap[a]? = W.heap[a]? ∧ W'.heap[b]? = W.heap[b]?
theorem Kp.t{a b:Nat}{A B C:World}(h:Kp a b A B)(k:Kp a b B C):Kp a b A C:=⟨h.1.trans k.1,k.2.1.trans h.2.1,k.2.2.trans h.2.2⟩
theorem Kp.b{a b:Nat}{w:World}(ha:a<w.heap.size)(hb:b<w.heap.size)(W:World)(l:Nat)(o o':Obj)(hl:w.heap.size≤l)(h:W.heap[l]? = some o)(hc:o.isCells=false)(hw:o.isWalk=false):Kp a b W (W.putObj l o') :=
 ⟨KeepsWalks.putObj _ h hw,World.putObj_heap_other (by omega),World.putObj_heap_other (by omega)⟩
theorem Kp.of{a b:Nat}{W W':World}(h:Below W.heap.size W W')(ha:a<W.heap.size)(hb:b<W.heap.size):Kp a b W W':=⟨(qfr h).walks,h.block a ha,h.block b hb⟩
theorem qhe{W W':World}{b:Nat}{v:Value}(h:W'.heap[b]? = W.heap[b]?)(hv:W.cell? ⟨b,0,none⟩=some v):W'.cell? ⟨b,0,none⟩=some v:=by
 unfold World.cell? at hv ⊢;rw[show W'.heap[b]? = W.heap[b]? from h];exact hv
theorem qn2{W W':World}(h:KeepsWalks W W'){k:Nat}{s:ByteArray}{p:Nat}(hk:W.heap[k]? = some (.stringIter s p)):W'.heap[k]? = some (.stringIter s p):=h.same k _ hk rfl
theorem qe5(W:World)(k:Nat)(s:ByteArray)(p:Nat):W.grownBy (W.iterAt k s p) (some k) :=
 ⟨rfl,rfl,rfl,by rw[Lib.iterAt_size];exact Nat.le_refl _,fun i _ hi=>Lib.iterAt_other W k i s p (fun e=>hi (by rw[e]))⟩
abbrev Ps:=Nat×Nat
def q1x(s:ByteArray)(p k:Nat):List Ps:=(qcx s p++[s.size]).zipIdx k
theorem qvv{s:ByteArray}{p:Nat}(h:p<s.size)(k:Nat):q1x s p k=(p,k) :: q1x s (p+wd s p) (k+1):=by
 unfold q1x;rw[qbb h];rfl
theorem qzn{s:ByteArray}{p:Nat}(h : ¬ p<s.size)(k:Nat):q1x s p k=[(s.size,k)]:=by
 unfold q1x;rw[qb7 h];rfl
theorem qvw(s:ByteArray):qs0 s=q1x s 0 0:=rfl
theorem qzo(s:ByteArray):(qs0 s).length=rc s+1:=by simp[qs0,al,rc]
theorem qg0(s:ByteArray)(w:World) :
  Calls Tryz.prog 167 #[.string s] w fun e w' =>
   e=.returned (.func (.func 213) #[] #[.pointer (some ⟨w.heap.size,0,none⟩)])∧w.alloc (.cells #[.string s] 9)=w':=by
 go_enter Tryz.func167,Tryz.ntmps167
 go_wp2
 go_ret
 exact⟨rfl,rfl⟩
theorem qjj(s t:ByteArray)(w:World) :
  Calls Tryz.prog 166 #[.string s,.string t] w fun e w' =>
   e=.returned (.func (.func 212) #[] #[.pointer (some ⟨w.heap.size,0,none⟩),.pointer (some ⟨w.heap.size+1,0,none⟩)])∧(w.alloc (.cells #[.string s] 9)).alloc (.cells #[.string t] 9)=w':=by
 go_enter Tryz.func166,Tryz.ntmps166
 go_wp2
 go_ret
 exact⟨rfl,rfl⟩
theorem qvu(s:ByteArray)(Bs:Nat)(w:World)(hs:s.size≤4294967281)(hB:Bs<w.heap.size)(h0:w.cell? ⟨Bs,0,none⟩=some (.string s)) :
  SeqStopsK Fence.wide 2 Tryz.prog 213 #[.pointer (some ⟨Bs,0,none⟩)] (fun x:Ps => #[.int .i64 (x.2:Int),.int .i64 ((min x.1 s.size:Nat):Int)]) (Kp Bs Bs)
   (fun xs=>xs=qs0 s) (fun pre=>pre <+: qs0 s) (qs0 s).length w:=by
 intro l J Jx W hW hJ hJx hY hJ0
 have k0:W.cell? ⟨Bs,0,none⟩=some (.string s):=(hW.cell (p:=⟨Bs,0,none⟩) (by show Bs<_;omega)).trans h0
 have hBW:Bs<W.heap.size:=Nat.lt_of_lt_of_le hB hW.size
 refine callsIn_of_wp Tryz.func213 rfl trivial ?_ rfl
 simp only[Tryz.ntmps213,List.size_toArray,List.length_cons,List.length_nil,Nat.reduceAdd,Nat.reduceSub,Array.replicate_succ,Array.replicate_zero,List.push_toArray,List.append_toArray,List.nil_append,List.cons_append]
 gi_wp2
 gi_loopw [3] (fun i wr => ∃ (pre:List Ps) (k p:Nat),i=.int .i64 k∧k≤p∧k≤s.size∧wr.cell? ⟨Bs,0,none⟩=some (.string s)∧Hid (wr.heap[W.heap.size]? = some (.stringIter s p))∧Hid (qs0 s=pre++q1x s p k)∧J pre wr)
  (fun _ wr=>s.size-wr.iterPos W.heap.size)
 case atStart=>exact⟨[],0,0,rfl,Nat.le_refl _,Nat.zero_le _,qa3 _ k0,hid (World.iter_heap W s 0),hid (qvw s),hJ [] W _ none hJ0 (World.grownBy_alloc W _ none) (fun r e=>by cases e)⟩
 case round =>
  obtain⟨pre,k,p,rfl,hk,hk3,c0,HT,HP,hj⟩:=hrel
  have HQ:=hid (iterPos_of HT.out)
  have hWr:W.heap.size<wr.heap.size:=(Array.getElem?_eq_some_iff.1 HT.out).1
  by_cases hlt:p<s.size
  ·have hnx:=fun ty=>Lib.run_next_any_at (P:=Tryz.prog) wr W.heap.size s p ty HT.out hlt
   have hwp:=qh7 hlt
   have hdd:(Utf8.decode s p).2=wd s p:=rfl
   rw[hdd] at hnx
   have HE:=hid (qvv hlt k)
   obtain⟨W2,hW2⟩ : ∃ W2,wr.iterAt W.heap.size s (p+wd s p)=W2:=⟨_,rfl⟩
   have HT2:=hid (Lib.iterAt_heap wr W.heap.size s p (p+wd s p) HT.out)
   have c2:(wr.iterAt W.heap.size s (p+wd s p)).cell? ⟨Bs,0,none⟩=some (.string s):=qhe (Lib.iterAt_other _ _ _ _ _ (by omega)) c0
   have hj2:=hJ pre wr _ (some W.heap.size) hj (qe5 wr W.heap.size s (p+wd s p)) (fun r e=>by cases e;exact⟨Nat.le_refl _,_,HT.out,rfl⟩)
   rw[hW2] at hnx HT2 c2 hj2
   obtain⟨fn,tmps,assign,body,hy,hR⟩:=hY pre (p,k) W2 hj2 (qjb (HP.out.trans (by rw[HE.out])))
   dsimp only at hy
   rw[Nat.min_eq_left (Nat.le_of_lt hlt)] at hy
   clear hW2 hdd
   generalize(Utf8.decode s p).1=cc at hnx
   gi_wp2
   refine hR.mono ?_
   rintro e W3 (⟨rfl,hJ3,hk3⟩ | ⟨rfl,hJx3⟩)
   ·have d0:W3.cell? ⟨Bs,0,none⟩=some (.string s):=qhe hk3.2.1 c2
    have HT3:=hid (qn2 hk3.1 HT2.out)
    gi_wp2
    go_roundw
    case rel=>exact⟨pre++[(p,k)],k+1,p+wd s p,by go_num,by omega,by omega,d0,HT3,hid (by rw[HP.out,HE.out];simp),hJ3⟩
    case measure=>rw[iterPos_of HT3.out,HQ.out];omega
   ·gi_wp2
    refine bodyPost_ret (results_none rfl _ _ _) rfl ?_
    exact⟨⟨_,rfl⟩,.inr ⟨_,by rw[HP.out,HE.out];exact⟨q1x s (p+wd s p) (k+1),by simp⟩,hJx3⟩⟩
  ·have hnx:=fun ty=>Lib.run_next_end_at (P:=Tryz.prog) wr W.heap.size s p ty HT.out hlt
   have HE:=hid (qzn hlt k)
   obtain⟨fn,tmps,assign,body,hy,hR⟩:=hY pre (s.size,k) wr hj (qjb (HP.out.trans (by rw[HE.out])))
   dsimp only at hy
   rw[Nat.min_self] at hy
   gi_wp2
   refine hR.mono ?_
   rintro e W3 (⟨rfl,hJ3,hk3⟩ | ⟨rfl,hJx3⟩)
   ·gi_wp2
    go_end0
    exact⟨⟨_,rfl⟩,.inl ⟨pre++[(s.size,k)],by rw[HP.out,HE.out],hJ3⟩⟩
   ·gi_wp2
    go_end0
    exact⟨⟨_,rfl⟩,.inr ⟨pre++[(s.size,k)],by rw[HP.out,HE.out];exact⟨[],by simp⟩,hJx3⟩⟩
theorem qik(s t:ByteArray)(p:Nat)(w:World):Calls Tryz.prog 168 #[.string (s.extract p s.size),.string t] w fun e w'=>e=.returned (.bool (qdr s t p))∧w'=w :=
 Tryz.strings_HasPrefix _ _ _
def cl(s b:ByteArray):ByteArray:=if b.size≤s.size then b else ByteArray.empty
theorem qoh(s b:ByteArray):(cl s b).size≤s.size:=by
 unfold cl
 split
 ·assumption
 ·exact Nat.zero_le _
theorem qtz(s:ByteArray)(a b:Nat):cl s (s.extract a b)=s.extract a b:=by
 unfold cl
 rw[if_pos]
 rw[ByteArray.size_extract];omega
abbrev Pt:=ByteArray×Nat
def prt(s t:ByteArray):List Pt:=(parts s t).zipIdx
def prf(s t:ByteArray)(p f i:Nat):List Pt:=(dv s t (oc s t (qcx s p) f) f).zipIdx i
theorem q6k(s t:ByteArray):prt s t=prf s t 0 0 0:=rfl
theorem q6i{s t:ByteArray}{p f:Nat}(h:p<s.size)(i:Nat)(hy:(t.size≠0∧f≤p)∧qdr s t p=true):prf s t p f i=(s.extract f p,i) :: prf s t (p+wd s p) (p+t.size) (i+1):=by
 unfold prf;rw[qbb h,qnr hy];rfl
theorem xbi{s t:ByteArray}{p f:Nat}(h:p<s.size)(i:Nat)(hy : ¬ ((t.size≠0∧f≤p)∧qdr s t p=true)):prf s t p f i=prf s t (p+wd s p) f i:=by
 unfold prf;rw[qbb h,qo8 hy]
theorem q6h{s t:ByteArray}{p:Nat}(h : ¬ p<s.size)(f i:Nat):prf s t p f i=[(s.extract f s.size,i)]:=by
 unfold prf;rw[qb7 h];rfl
theorem qpe(s t:ByteArray):(prt s t).length=(occ s t).length+1:=by simp[prt,qfc]
theorem qjm(s t:ByteArray)(Bs Bt:Nat)(w:World)(hs:s.size≤4294967281)(hB:Bs<w.heap.size)(h0:w.cell? ⟨Bs,0,none⟩=some (.string s))(ht:t.size≤4294967281)(hT:Bt<w.heap.size)(h1:w.cell? ⟨Bt,0,none⟩=some (.string t)) :
  SeqStopsK Fence.wide 2 Tryz.prog 212 #[.pointer (some ⟨Bs,0,none⟩),.pointer (some ⟨Bt,0,none⟩)] (fun x:Pt => #[.int .i64 (x.2:Int),.string (cl s x.1)]) (Kp Bs Bt)
   (fun xs=>xs=prt s t) (fun pre=>pre <+: prt s t) (prt s t).length w:=by
 intro l J Jx W hW hJ hJx hY hJ0
 have k0:W.cell? ⟨Bs,0,none⟩=some (.string s):=(hW.cell (p:=⟨Bs,0,none⟩) (by show Bs<_;omega)).trans h0
 have k1:W.cell? ⟨Bt,0,none⟩=some (.string t):=(hW.cell (p:=⟨Bt,0,none⟩) (by show Bt<_;omega)).trans h1
 have hBW:Bs<W.heap.size:=Nat.lt_of_lt_of_le hB hW.size
 have hTW:Bt<W.heap.size:=Nat.lt_of_lt_of_le hT hW.size
 refine callsIn_of_wp Tryz.func212 rfl trivial ?_ rfl
 simp only[Tryz.ntmps212,List.size_toArray,List.length_cons,List.length_nil,Nat.reduceAdd,Nat.reduceSub,Array.replicate_succ,Array.replicate_zero,List.push_toArray,List.append_toArray,List.nil_append,List.cons_append]
 gi_wp2
 gi_loopw [4,5] (fun i f wr => ∃ (pre:List Pt) (k fr p:Nat),i=.int .i64 k∧f=.int .i64 fr∧k≤p∧k≤s.size∧fr≤s.size∧wr.cell? ⟨Bs,0,none⟩=some (.string s)∧wr.cell? ⟨Bt,0,none⟩=some (.string t)∧Hid (wr.heap[W.heap.size]? = some (.stringIter s p))∧Hid (prt s t=pre++prf s t p fr k)∧J pre wr)
  (fun _ _ wr=>s.size-wr.iterPos W.heap.size)
 case atStart=>exact⟨[],0,0,0,rfl,rfl,Nat.le_refl _,Nat.zero_le _,Nat.zero_le _,qa3 _ k0,qa3 _ k1,hid (World.iter_heap W s 0),hid (q6k s t),hJ [] W _ none hJ0 (World.grownBy_alloc W _ none) (fun r e=>by cases e)⟩
 case round =>
  obtain⟨pre,k,fr,p,rfl,rfl,hk,hk3,hfr,c0,d0,HT,HP,hj⟩:=hrel
  have HQ:=hid (iterPos_of HT.out)
  have hWr:W.heap.size<wr.heap.size:=(Array.getElem?_eq_some_iff.1 HT.out).1
  by_cases hlt:p<s.size
  ·have hnx:=fun ty=>Lib.run_next_any_at (P:=Tryz.prog) wr W.heap.size s p ty HT.out hlt
   have hwp:=qh7 hlt
   have hdd:(Utf8.decode s p).2=wd s p:=rfl
   rw[hdd] at hnx
   obtain⟨W2,hW2⟩ : ∃ W2,wr.iterAt W.heap.size s (p+wd s p)=W2:=⟨_,rfl⟩
   have HT2:=hid (Lib.iterAt_heap wr W.heap.size s p (p+wd s p) HT.out)
   have c2:(wr.iterAt W.heap.size s (p+wd s p)).cell? ⟨Bs,0,none⟩=some (.string s):=qhe (Lib.iterAt_other _ _ _ _ _ (by omega)) c0
   have d2:(wr.iterAt W.heap.size s (p+wd s p)).cell? ⟨Bt,0,none⟩=some (.string t):=qhe (Lib.iterAt_other _ _ _ _ _ (by omega)) d0
   have hj2:=hJ pre wr _ (some W.heap.size) hj (qe5 wr W.heap.size s (p+wd s p)) (fun r e=>by cases e;exact⟨Nat.le_refl _,_,HT.out,rfl⟩)
   rw[hW2] at hnx HT2 c2 d2 hj2
   clear hW2 hdd
   generalize(Utf8.decode s p).1=cc at hnx
   have hjd : ∀ n,J pre (W2.drewN n):=fun n=>hJ pre W2 _ none hj2 ⟨rfl,rfl,rfl,Nat.le_refl _,fun _ _ _=>rfl⟩ (fun r e=>by cases e)
   have cd : ∀ n,(W2.drewN n).cell? ⟨Bs,0,none⟩=some (.string s):=fun n=>c2
   have dd : ∀ n,(W2.drewN n).cell? ⟨Bt,0,none⟩=some (.string t):=fun n=>d2
   have hTd : ∀ n,Hid ((W2.drewN n).heap[W.heap.size]? = some (.stringIter s (p+wd s p))):=fun n=>HT2
   have hI : ∀ n,(W2.drewN n).iterPos W.heap.size=p+wd s p:=fun n=>iterPos_of HT2.out
   have hNO : ¬ ((t.size≠0∧fr≤p)∧qdr s t p=true) → ∀ n,Hid (∃ (pre':List Pt) (k' fr' p':Nat),Value.int IntKind.i64 (k:Int)=.int .i64 (k':Int)∧Value.int IntKind.i64 (fr:Int)=.int .i64 (fr':Int)∧k'≤p'∧k'≤s.size∧fr'≤s.size∧(W2.drewN n).cell? ⟨Bs,0,none⟩=some (.string s)∧(W2.drewN n).cell? ⟨Bt,0,none⟩=some (.string t)∧Hid ((W2.drewN n).heap[W.heap.size]? = some (.stringIter s p'))∧Hid (prt s t=pre'++prf s t p' fr' k')∧J pre' (W2.drewN n)) :=
    fun hn n=>hid ⟨pre,k,fr,p+wd s p,rfl,rfl,by omega,hk3,hfr,cd n,dd n,hTd n,hid (by rw[HP.out,xbi hlt k hn]),hjd n⟩
   by_cases ht0:t.size=0
   ·have HN:=fun n=>hNO (by omega) n
    obtain rfl:t=⟨#[]⟩:=by apply qb4;cases t with | mk a=>(have:a.size=0:=ht0);simp at this;subst this;rfl
    clear hNO
    gi_wp2
    gi_big_quiet_th (fail)
    gi_wp2
    go_roundw
    case rel=>exact(HN nq).out
    case measure=>rw[hI,HQ.out];omega
   ·have hE:=qhz ht0
    by_cases hf:fr≤p
    ·have d1:decide (p<fr)=false:=decide_eq_false (by omega)
     by_cases hpp:qdr s t p=true
     ·clear hNO
      have hq:qdr s t p=true:=hpp
      have hle:=(qen (Nat.le_of_lt hlt)).1 hpp
      have HE:=hid (q6i (f:=fr) hlt k ⟨⟨ht0,hf⟩,hpp⟩)
      clear hpp
      have hle1:=hle.1
      clear hle
      gi_wp2
      gi_big_quiet_th (first | (gi_at_call 168;refine CallsIn.quiet_of_same (callsIn_wide.2 (qik s t p _))))
      obtain⟨fn,tmps,assign,body,hy,hR⟩:=hY pre (s.extract fr p,k) (W2.drewN nq) (hjd nq) (qjb (HP.out.trans (by rw[HE.out])))
      dsimp only at hy
      rw[qtz] at hy
      have c3:=cd nq
      have d3:=dd nq
      have HT3:=hTd nq
      clear cd dd hTd hjd hI c2 d2 HT2 hj2
      generalize W2.drewN nq=W4 at hy hR c3 d3 HT3
      gi_wp2
      refine hR.mono ?_
      rintro e W3 (⟨rfl,hJ3,hk3⟩ | ⟨rfl,hJx3⟩)
      ·have c4:W3.cell? ⟨Bs,0,none⟩=some (.string s):=qhe hk3.2.1 c3
       have d4:W3.cell? ⟨Bt,0,none⟩=some (.string t):=qhe hk3.2.2 d3
       have HT4:=hid (qn2 hk3.1 HT3.out)
       gi_wp2
       gi_big_quiet_th (fail)
       gi_wp2
       go_roundw
       case rel=>exact⟨pre++[(s.extract fr p,k)],k+1,p+t.size,p+wd s p,by go_num,by go_num,by omega,by omega,hle1,c4,d4,HT4,hid (by rw[HP.out,HE.out];simp),hJ (pre++[(s.extract fr p,k)]) W3 _ none hJ3 ⟨rfl,rfl,rfl,Nat.le_refl _,fun _ _ _=>rfl⟩ (fun r e=>by cases e)⟩
       case measure=>rw[show(W3.drewN nq).iterPos W.heap.size=p+wd s p from iterPos_of HT4.out,HQ.out];omega
      ·gi_wp2
       refine bodyPost_ret (results_none rfl _ _ _) rfl ?_
       exact⟨⟨_,rfl⟩,.inr ⟨_,by rw[HP.out,HE.out];exact⟨prf s t (p+wd s p) (p+t.size) (k+1),by simp⟩,hJx3⟩⟩
     ·have HN:=fun n=>hNO (fun h=>hpp h.2) n
      have hq:qdr s t p=false:=Bool.eq_false_iff.2 hpp
      clear hpp hNO
      gi_wp2
      gi_big_quiet_th (first | (gi_at_call 168;refine CallsIn.quiet_of_same (callsIn_wide.2 (qik s t p _))))
      gi_wp2
      go_roundw
      case rel=>exact(HN nq).out
      case measure=>rw[hI,HQ.out];omega
    ·have HN:=fun n=>hNO (by omega) n
     have d1:decide (p<fr)=true:=decide_eq_true (by omega)
     clear hNO
     gi_wp2
     gi_big_quiet_th (fail)
     gi_wp2
     go_roundw
     case rel=>exact(HN nq).out
     case measure=>rw[hI,HQ.out];omega
  ·have hnx:=fun ty=>Lib.run_next_end_at (P:=Tryz.prog) wr W.heap.size s p ty HT.out hlt
   have HE:=hid (q6h (t:=t) hlt fr k)
   obtain⟨fn,tmps,assign,body,hy,hR⟩:=hY pre (s.extract fr s.size,k) wr hj (qjb (HP.out.trans (by rw[HE.out])))
   dsimp only at hy
   rw[qtz] at hy
   gi_wp2
   refine hR.mono ?_
   rintro e W3 (⟨rfl,hJ3,hk3⟩ | ⟨rfl,hJx3⟩)
   ·gi_wp2
    go_end0
    exact⟨⟨_,rfl⟩,.inl ⟨pre++[(s.extract fr s.size,k)],by rw[HP.out,HE.out],hJ3⟩⟩
   ·gi_wp2
    go_end0
    exact⟨⟨_,rfl⟩,.inr ⟨pre++[(s.extract fr s.size,k)],by rw[HP.out,HE.out];exact⟨[],by simp⟩,hJx3⟩⟩
end Go.Proofs.YtldkgbnmaefaaaaGreatDoor.Sf
namespace Go.Proofs.YtldkgbnmaefaaaaGreatDoor.Sf
open Go.RowKit Go.Shelf
set_option linter.unusedVariables false
def Kc(W W':World):Prop := ∀ (k:Nat) cs t fz,W.heap[k]? = some (Obj.cells cs t fz)→W'.heap[k]? = some (Obj.cells cs t fz)
theorem Kc.of{W W':World}(h:Below W.heap.size W W'):Kc W W':=fun k _ _ _ hk=>(h.block k (Array.getElem?_eq_some_iff.1 hk).1).trans hk
theorem Kc.grown{W W':World}{row:Option Nat}(hg:W.grownBy W' row)(hr : ∀ r,row=some r → ∃ o:Obj,W.heap[r]? = some o∧o.isCells=false):Kc W W':=fun k cs t fz hk=>by
 refine(hg.block k (Array.getElem?_eq_some_iff.1 hk).1 ?_).trans hk
 intro e
 obtain⟨o,ho,hc⟩:=hr k e.symm
 rw[hk] at ho;cases ho;cases hc
theorem qpa{w w':World}{base:Nat}{e:TypeId}{size:Nat}{v:Value}{n:Nat}{xs:List Value}(h:w.ownsRowF base e size v n xs)(hk:Kc w w'):w'.ownsRowF base e size v n xs:=by
 refine⟨h.1,h.2.imp id ?_⟩
 rintro⟨g,cap,cur,fz,h3,h4,h5,h6⟩
 exact⟨g,cap,cur,fz,h3,h4,hk _ _ _ _ h5,h6⟩
theorem qiy{w w':World}{B b:Nat}{p:Value}{bs:List Value}{T e:TypeId}(h:Lib.BuilderAtF T e B b p bs w)(hk:Kc w w'):Lib.BuilderAtF T e B b p bs w':=by
 obtain⟨h1,v,h2,h3,h4⟩:=h
 exact⟨h1,v,hk _ _ _ _ h2,qpa h3 hk,h4⟩
def Bd(w:World)(B b:Nat)(x:List UInt8):Prop:=Lib.IsBuilderF 170 5 B b (Lib.byteCells x) w
theorem Bd.kc{w w':World}{B b:Nat}{x:List UInt8}(h:Bd w B b x)(hk:Kc w w'):Bd w' B b x:=h.imp (fun h=>qiy h hk) (fun h=>qiy h hk)
theorem Bd.block{w:World}{B b:Nat}{x:List UInt8}(h:Bd w B b x) : ∃ cs t fz,w.heap[b]? = some (.cells cs t fz):=by
 rcases h with⟨_,v,h2,_⟩ | ⟨_,v,h2,_⟩<;>exact⟨_,_,_,h2⟩
structure Fr (B b:Nat) (w w':World):Prop where
 below:Below B w w'
 kept:Lib.OthersKept 5 (some b) w w'
theorem Fr.keeps{B b:Nat}{W W':World}(h:Fr B b W W')(hb : ∃ cs t fz,W.heap[b]? = some (.cells cs t fz)):KeepsOthers W W':=⟨h.below.size,fun k o hk ho=>by
 refine h.kept _ _ hk (fun e => ?_) (fun c fz e=>by rw[e] at ho;cases ho)
 obtain⟨cs,t,fz,hc⟩:=hb
 have:=Option.some.inj e
 subst this
 rw[hk] at hc;cases hc;cases ho⟩
theorem Fr.cells{B b:Nat}{W W':World}(h:Fr B b W W'){k:Nat}{cs:Array Value}{t:TypeId}(hk:W.heap[k]? = some (.cells cs t))(hne:k≠b)(ht:t≠5):W'.heap[k]? = some (.cells cs t) :=
 h.kept _ _ hk (fun e=>hne (by have:=Option.some.inj e;omega)) (fun c fz e=>ht (by injection e))
theorem qab{w:World}{g:Nat}{cs:Array Value}{t:TypeId}{i:Nat}{v:Value}(h:w.heap[g]? = some (.cells cs t))(hv:cs[i]? = some v):w.cell? ⟨g,i,none⟩=some v:=by
 simp[World.cell?,h,hv]
theorem WStr(B b:Nat)(x:List UInt8)(s:ByteArray)(w:World)(h:Bd w B b x)(hl:x.length+s.size≤140737488355328)(hB:B≤w.heap.size) :
  Calls Tryz.prog 169 #[.pointer (some ⟨b,0,none⟩),.string s] w fun e w'=>e=.returned (.tuple #[.int .i64 s.size,.nilIface])∧Bd w' B b (x++s.data.toList)∧Fr B b w w' :=
 (Tryz.Builder_WriteStringk B b _ s w h (by rw[Lib.byteCells_length];exact hl) hB).mono fun e w' ⟨h1,h2,h3,h4⟩=>⟨h1,.inr (by rw[Lib.byteCells_append,←Lib.strCells_eq];exact h2),h3,h4⟩
theorem xcq(B b:Nat)(x:List UInt8)(w:World)(h:Bd w B b x)(hB:B≤w.heap.size) :
  Calls Tryz.prog 170 #[.pointer (some ⟨b,0,none⟩)] w fun e w'=>e=.returned (.string ⟨x.toArray⟩)∧Bd w' B b x∧Fr B b w w' :=
 (Tryz.Builder_String_anyk B b x w h hB).mono fun e w' ⟨h1,h2,h3,h4⟩=>⟨h1,h2,h3,h4⟩
end Go.Proofs.YtldkgbnmaefaaaaGreatDoor.Sf
namespace Go.Proofs.YtldkgbnmaefaaaaGreatDoor.Sf
open Go.RowKit Go.Shelf
attribute [local go_sem] Oper.semAt_some
set_option linter.unusedVariables false
theorem q0y(s:ByteArray)(i:Nat):(al s)[i]? = if i≤rc s then some (ag s i) else none:=by
 unfold al ag rc
 by_cases h:i<(sts s).length
 ·rw[List.getElem?_append_left h,if_pos (by omega),List.getElem?_eq_getElem h,getD_in h]
 ·by_cases h2:i=(sts s).length
  ·subst h2
   rw[List.getElem?_append_right (Nat.le_refl _),if_pos (Nat.le_refl _),qij (Nat.le_refl _)];simp
  ·rw[if_neg (by omega),List.getElem?_eq_none (by simp;omega)]
theorem ql2{s:ByteArray}{x:Ps}:x∈qs0 s↔x.2≤rc s∧x.1=ag s x.2:=by
 obtain⟨a,i⟩:=x
 unfold qs0
 rw[List.mem_zipIdx_iff_getElem?,q0y]
 by_cases h:i≤rc s
 ·rw[if_pos h];simp[h];exact eq_comm
 ·rw[if_neg h];simp[h]
theorem qa1(s:ByteArray)(w:World)(hs:s.size≤4294967281):Calls Tryz.prog 108 #[.string s] w fun e w'=>e=.returned (.int .i64 (rc s))∧Below w.heap.size w w':=by
 go_enter Tryz.func108,Tryz.ntmps108
 go_wp2_with fail
 refine(Tryz.utf8_RuneCountInString s _ (by omega)).mono ?_
 rintro e w'⟨rfl,p,rfl⟩
 rw[qh5]
 go_wp2
 go_ret
 exact⟨rfl,(Below.refl _ w).alloc (Nat.le_refl _) _⟩
theorem three(w:World)(a b c:Value)(ta tb tc:TypeId) : ∃ W0,((w.alloc (.cells #[a] ta)).alloc (.cells #[b] tb)).alloc (.cells #[c] tc)=W0∧w.heap.size+2<W0.heap.size∧Below w.heap.size w W0 ∧
  W0.cell? ⟨w.heap.size,0,none⟩=some a∧W0.cell? ⟨w.heap.size+1,0,none⟩=some b∧W0.frozen? ⟨w.heap.size+1,0,none⟩=false∧W0.cell? ⟨w.heap.size+1+1,0,none⟩=some c ∧
  W0.frozen? ⟨w.heap.size,0,none⟩=false:=by
 have n1:=qda w a ta
 have n2:=qda (w.alloc (.cells #[a] ta)) b tb
 have n3:=qda ((w.alloc (.cells #[a] ta)).alloc (.cells #[b] tb)) c tc
 rw[World.size_alloc] at n2
 rw[World.size_alloc,World.size_alloc] at n3
 exact⟨_,rfl,by simp,(((Below.refl _ w).alloc (Nat.le_refl _) _).alloc (by simp) _).alloc (by simp;omega) _,qa3 _ (qa3 _ n1.1),qa3 _ n2.1,qch _ n2.1 n2.2,n3.1,qch _ (qa3 _ n1.1) (qch _ n1.1 n1.2)⟩
theorem qcr{w W:World}{D B:Nat}(h:Below w.heap.size w W)(hD:B≤D)(hB:w.heap.size≤B)(hK:W.heap[D]? = some (.deferred (some []))):Below w.heap.size w (W.putObj D (.deferred none)) :=
 h.trans (belowK_b (w:=w) (Nat.le_refl _) W D _ _ (by omega) hK rfl rfl)
theorem qdz{W:World}{D:Nat}{p:Addr}{v:Value}(hK:W.heap[D]? = some (.deferred (some [])))(h:W.cell? p=some v):(W.putObj D (.deferred none)).cell? p=some v :=
 cell_kept h (grownBy_putObj' _ D (.deferred none)) (fun r e=>by cases e;exact⟨_,hK,rfl⟩)
theorem qdg{W:World}{D:Nat}{p:Addr}{v:Value}(hK:W.heap[D]? = some (.deferred (some []))):(W.setCell p v).heap[D]? = some (.deferred (some [])):=(KeepsOthers.setCell W p v).same D _ hK rfl
theorem qcn(s:ByteArray)(k:Nat)(w:World)(hs:s.size≤4294967281) :
  Calls Tryz.prog 165 #[.string s,.int .i64 (k:Int)] w fun e w'=>e=.returned (.int .i64 (ag s k:Int))∧Below w.heap.size w w':=by
 refine(callsIn_wide (n:=3)).1 ?_
 refine callsIn_of_wp_marks Tryz.func165 rfl trivial ?_ rfl
 simp only[Tryz.ntmps165,List.size_toArray,List.length_cons,List.length_nil,Nat.reduceAdd,Nat.reduceSub,Array.replicate_succ,Array.replicate_zero,List.push_toArray,List.append_toArray,List.nil_append,List.cons_append]
 gi_wp2
 refine⟨trivial,(callsIn_wide.2 (qg0 _ _)).mono ?_⟩
 rintro e w'⟨rfl,rfl⟩
 gi_wp2
 obtain⟨W0,hW0,hz,hB0,c0,c1,f1,c2,_⟩:=three w (.int .i64 (k:Int)) (.int .i64 0) (.string s) 3 3 9
 rw[hW0]
 clear hW0
 refine wpIn_rangeFunc_ownF rfl (by omega) (gf:=213) (lb := #[.pointer (some ⟨w.heap.size+1+1,0,none⟩)]) rfl trivial (enters_of Tryz.func213 (by kernel_rfl) rfl)
  (qvu s (w.heap.size+1+1) _ hs (by omega) c2) (fun h k=>Kp.t h k) (Kp.b (by omega) (by omega)) (Below.refl _ _) (fun _=>rfl)
  (fun pre W=>((W.cell? ⟨w.heap.size,0,none⟩=some (.int .i64 (k:Int))∧W.cell? ⟨w.heap.size+1,0,none⟩=some (.int .i64 0)∧W.frozen? ⟨w.heap.size+1,0,none⟩=false) ∧ ∀ x,x∈pre→x.2≠k)∧Below w.heap.size w W)
  (fun c pre W=>((c=.ret ∧ ∃ x,x∈pre∧x.2=k∧W.cell? ⟨w.heap.size+1,0,none⟩=some (.int .i64 ((min x.1 s.size:Nat):Int))))∧Below w.heap.size w W)
  (OwnFrom.and (Own.from (fun s A B row hs hg hr=>⟨⟨cell_kept hs.1.1 hg hr,cell_kept hs.1.2.1 hg hr,(frozen_kept hs.1.2.1 hg hr).trans hs.1.2.2⟩,hs.2⟩) _) (ownFrom_below (Nat.le_refl _) (by omega)))
  (fun c=>OwnFrom.and (Own.from (fun s A B row hs hg hr=>⟨hs.1,by obtain⟨x,h1,h2,h3⟩:=hs.2;exact⟨x,h1,h2,cell_kept h3 hg hr⟩⟩) _) (ownFrom_below (Nat.le_refl _) (by omega)))
  ⟨⟨⟨c0,c1,f1⟩,fun x hx=>by cases hx⟩,hB0⟩
  (fun x => { tmps := #[.string s,.int .i64 (k:Int),undef,.pointer (some ⟨w.heap.size,0,none⟩),.pointer (some ⟨w.heap.size+1,0,none⟩),.int .i64 (x.2:Int),.int .i64 ((min x.1 s.size:Nat):Int),.string s,.func (.func 213) #[] #[.pointer (some ⟨w.heap.size+1+1,0,none⟩)],.int .i64 (x.2:Int),.int .i64 ((min x.1 s.size:Nat):Int),undef,undef,undef,undef,undef,undef],defers:=[] }) ?assign ?body ?done ?stop
 case assign =>
  intro l x W K hK
  gi_wp2
  exact hK
 case body =>
  rintro l pre⟨a,i⟩ W⟨⟨⟨d0,d1,g1⟩,hn⟩,hB⟩ hlen
  dsimp only
  obtain⟨m,hm⟩ : ∃ m,min a s.size=m:=⟨_,rfl⟩
  by_cases hik:i=k
  ·subst hik
   have HM:=hid hm
   rw[hm]
   clear hm
   gi_wp2
   refine⟨KeepsOthers.setCell _ _ _,⟨rfl,(a,i),by simp,rfl,by rw[HM.out];exact World.cell?_setCell_same' _ _ _ (by rw[d1];rfl)⟩,hB.setCell (p:=⟨w.heap.size+1,0,none⟩) (by show w.heap.size≤w.heap.size+1;omega) _⟩
  ·rw[hm]
   clear hm
   have hz1:((i:Int)==(k:Int))=false:=by rw[beq_eq_false_iff_ne];omega
   gi_wp2
   refine⟨KeepsOthers.refl _,⟨(KeepsOthers.refl _).walks,rfl,rfl⟩,⟨⟨d0,d1,g1⟩,fun x hx => ?_⟩,hB⟩
   rcases List.mem_append.1 hx with hx | hx
   ·exact hn x hx
   ·rw[List.mem_singleton.1 hx];exact hik
 case done =>
  rintro D ys W hD hS⟨⟨⟨d0,d1,g1⟩,hn⟩,hB⟩ hK
  have hlt:rc s<k:=by
   rcases Nat.lt_or_ge (rc s) k with h | h
   ·exact h
   ·exact absurd rfl (hn (ag s k,k) (by rw[hS];exact ql2.2 ⟨h,rfl⟩))
  have hag:=hid (qd6 (s:=s) (i:=k) (by omega))
  gi_wp2
  refine⟨by simp,.inl ⟨_,_,rfl,run_takeDeferred (qdg hK),?_⟩⟩
  have hc5:=qdz (qdg (p:=⟨w.heap.size+1,0,none⟩) (v := .int .i64 (s.size:Int)) hK) (World.cell?_setCell_same W ⟨w.heap.size+1,0,none⟩ (.int .i64 (s.size:Int)) d1)
  refine⟨.int .i64 (s.size:Int),?_,by rw[hag.out],qcr (B:=W0.heap.size) (hB.setCell (p:=⟨w.heap.size+1,0,none⟩) (by show w.heap.size≤w.heap.size+1;omega) _) hD (by omega) (qdg hK)⟩
  simp[results,Tryz.f165,go_sem,hc5]
 case stop =>
  rintro D c pre W hD hSp⟨⟨rfl,x,hx,hxk,d1⟩,hB⟩ hK
  have hm:=(ql2.1 (hSp.subset hx)).2
  rw[hxk] at hm
  have hmn:min x.1 s.size=ag s k:=by rw[hm];exact Nat.min_eq_left (qez s k)
  rw[hmn] at d1
  clear hmn
  gi_wp2
  refine⟨by simp,.inl ⟨_,_,rfl,run_takeDeferred hK,?_⟩⟩
  have hc5:=qdz hK d1
  refine⟨.int .i64 (ag s k:Int),?_,rfl,qcr (B:=W0.heap.size) hB hD (by omega) hK⟩
  simp[results,Tryz.f165,go_sem,hc5]
end Go.Proofs.YtldkgbnmaefaaaaGreatDoor.Sf
namespace Go.Proofs.YtldkgbnmaefaaaaGreatDoor.Sf
open Go.RowKit
set_option linter.unusedVariables false
def I64(n:Int):Prop := -9223372036854775808≤n∧n≤9223372036854775807
theorem qwo{s:ByteArray}{f:Int}(h:f<0):(max 0 (f+(rc s:Int)):Int)=((slF s f:Nat):Int):=by unfold slF;rw[if_pos h];omega
theorem qwp{s:ByteArray}{f:Int}(h : ¬ f<0):f=((slF s f:Nat):Int):=by unfold slF;rw[if_neg h];omega
theorem qpo{s:ByteArray}{F:Nat}{n:Int}(h:n<0):(max 0 (n+((rc s-F:Nat):Int)):Int)=((slN s F n:Nat):Int):=by unfold slN;rw[if_pos h];omega
theorem qwr{s:ByteArray}{F:Nat}{n:Int}(h : ¬ n<0):n=((slN s F n:Nat):Int):=by unfold slN;rw[if_neg h];omega
theorem qm6(s:ByteArray)(f n:Int)(w:World)(hs:s.size≤4294967281)(hf:I64 f)(hn:I64 n) :
  Calls Tryz.prog 109 #[.string s,.int .i64 f,.int .i64 n] w fun e w'=>e=.returned (.string (slice s f n))∧Below w.heap.size w w':=by
 obtain⟨hf1,hf2⟩:=hf
 obtain⟨hn1,hn2⟩:=hn
 have hrc:=qer s
 obtain⟨F,hF⟩ : ∃ F,slF s f=F:=⟨_,rfl⟩
 have hsl:slice s f n=sl s F (slN s F n):=by unfold slice;rw[hF]
 have HSL:=hid hsl
 clear hsl
 have hag:=qez s F
 have hag2:(ag s F:Int)≤(s.size:Int):=by omega
 have htl:=Lib.tail_size s (ag s F)
 have hrt:=qv7 s F
 have hlast : ∀ (N:Nat) (W W1:World),slN s F n=N→Below w.heap.size w W→Below W.heap.size W W1→Ending.returned (.string ((s.extract (ag s F) s.size).extract 0 (ag (s.extract (ag s F) s.size) N)))=.returned (.string (slice s f n))∧Below w.heap.size w W1 :=
  fun N W W1 h1 h2 h3=>⟨by rw[HSL.out,h1,q7a],h2.trans (h3.mono h2.size)⟩
 have HL:=hid hlast
 clear hlast
 have hta : ∀ N,(ag (s.extract (ag s F) s.size) N:Int)≤((s.extract (ag s F) s.size).size:Int):=fun N=>by have:=qez (s.extract (ag s F) s.size) N;omega
 have hrest : ∀ (W:World) (r:ByteArray),s.extract (ag s F) s.size=r→r.size≤4294967281:=fun W r h=>by rw[←h,htl];omega
 by_cases h:f<0
 ·have hm:=qwo (s:=s) h
  rw[hF] at hm
  by_cases h2:n<0
  ·have hm2:=qpo (s:=s) (F:=F) h2
   rw[←hrt] at hm2
   obtain⟨N,hN⟩ : ∃ N,slN s F n=N:=⟨_,rfl⟩
   rw[hN] at hm2
   have HL2:=hid (HL.out N)
   have hta2:=hta N
   obtain⟨r,hr⟩ : ∃ r,s.extract (ag s F) s.size=r:=⟨_,rfl⟩
   have hr2:=hrest w r hr
   rw[hr] at hm2 HL2 hta2 hrt htl
   have hrr:=qer r
   clear hrest hta HL HSL hrt
   go_enter Tryz.func109,Tryz.ntmps109
   go_wp2_with fail
   refine(qa1 s _ hs).mono ?_
   rintro e w1⟨rfl,hb1⟩
   go_wp2_with fail
   refine(qcn s F _ hs).mono ?_
   rintro e w2⟨rfl,hb2⟩
   go_wp2_with fail
   refine(qa1 r _ hr2).mono ?_
   rintro e w3⟨rfl,hb3⟩
   go_wp2_with fail
   refine(qcn r N _ hr2).mono ?_
   rintro e w4⟨rfl,hb4⟩
   go_wp2
   go_ret
   exact HL2.out w3 w4 hN ((hb1.trans (hb2.mono hb1.size)).trans (hb3.mono (Nat.le_trans hb1.size hb2.size))) hb4
  ·have hm2:=qwr (s:=s) (F:=F) h2
   obtain⟨N,hN⟩ : ∃ N,slN s F n=N:=⟨_,rfl⟩
   rw[hN] at hm2
   subst hm2
   have HL2:=hid (HL.out N)
   have hta2:=hta N
   obtain⟨r,hr⟩ : ∃ r,s.extract (ag s F) s.size=r:=⟨_,rfl⟩
   have hr2:=hrest w r hr
   rw[hr] at HL2 hta2 hrt htl
   have hnn:decide ((N:Int)<0)=false:=decide_eq_false (by omega)
   clear hrest hta HL HSL hrt h2
   go_enter Tryz.func109,Tryz.ntmps109
   go_wp2_with fail
   refine(qa1 s _ hs).mono ?_
   rintro e w1⟨rfl,hb1⟩
   go_wp2_with fail
   refine(qcn s F _ hs).mono ?_
   rintro e w2⟨rfl,hb2⟩
   go_wp2_with fail
   refine(qcn r N _ hr2).mono ?_
   rintro e w4⟨rfl,hb4⟩
   go_wp2
   go_ret
   exact HL2.out w2 w4 hN (hb1.trans (hb2.mono hb1.size)) hb4
 ·have hm:=qwp (s:=s) h
  rw[hF] at hm
  subst hm
  have hff:decide ((F:Int)<0)=false:=decide_eq_false (by omega)
  clear h
  by_cases h2:n<0
  ·have hm2:=qpo (s:=s) (F:=F) h2
   rw[←hrt] at hm2
   obtain⟨N,hN⟩ : ∃ N,slN s F n=N:=⟨_,rfl⟩
   rw[hN] at hm2
   have HL2:=hid (HL.out N)
   have hta2:=hta N
   obtain⟨r,hr⟩ : ∃ r,s.extract (ag s F) s.size=r:=⟨_,rfl⟩
   have hr2:=hrest w r hr
   rw[hr] at hm2 HL2 hta2 hrt htl
   have hrr:=qer r
   clear hrest hta HL HSL hrt
   go_enter Tryz.func109,Tryz.ntmps109
   go_wp2_with fail
   refine(qcn s F _ hs).mono ?_
   rintro e w2⟨rfl,hb2⟩
   go_wp2_with fail
   refine(qa1 r _ hr2).mono ?_
   rintro e w3⟨rfl,hb3⟩
   go_wp2_with fail
   refine(qcn r N _ hr2).mono ?_
   rintro e w4⟨rfl,hb4⟩
   go_wp2
   go_ret
   exact HL2.out w3 w4 hN (hb2.trans (hb3.mono hb2.size)) hb4
  ·have hm2:=qwr (s:=s) (F:=F) h2
   obtain⟨N,hN⟩ : ∃ N,slN s F n=N:=⟨_,rfl⟩
   rw[hN] at hm2
   subst hm2
   have HL2:=hid (HL.out N)
   have hta2:=hta N
   obtain⟨r,hr⟩ : ∃ r,s.extract (ag s F) s.size=r:=⟨_,rfl⟩
   have hr2:=hrest w r hr
   rw[hr] at HL2 hta2 hrt htl
   have hnn:decide ((N:Int)<0)=false:=decide_eq_false (by omega)
   clear hrest hta HL HSL hrt h2
   go_enter Tryz.func109,Tryz.ntmps109
   go_wp2_with fail
   refine(qcn s F _ hs).mono ?_
   rintro e w2⟨rfl,hb2⟩
   go_wp2_with fail
   refine(qcn r N _ hr2).mono ?_
   rintro e w4⟨rfl,hb4⟩
   go_wp2
   go_ret
   exact HL2.out w2 w4 hN hb2 hb4
end Go.Proofs.YtldkgbnmaefaaaaGreatDoor.Sf
namespace Go.Proofs.YtldkgbnmaefaaaaGreatDoor.Sf
open Go.RowKit
section
variable {F:Fence} {n:Nat} {P:Program} {ops:Array Oper} {C:World→Prop}
def qht(o:Oper):Bool:=match o.op with
 | .defer _=>false
 | _=>true
theorem qr9{o:Oper}(h:qht o=true)(c):o.op ≠ .defer c:=by
 intro e
 unfold qht at h
 rw[e] at h
 cases h
theorem qzr{o:Oper}{a:Act}{K:Act→Prop}{K':Act→World→Prop}{X:Exit→Act→World→Prop}{w:World}(hd:qht o=true)(hw:C w)(hK : ∀ a w',C w'→K a→K' a w')
  (ha:o.askedIn F P a C) (hq:o.quietIn F n P a C K):o.wpIn F n P a w K' X:=by
 obtain⟨v,hv,hk⟩:=hq
 have hr:=hv w hw
 refine⟨ha w hw,?_⟩
 rw[Oper.semAt_eq F.round a.eval o (qr9 hd)]
 revert hr
 unfold Oper.quietAtIn
 cases (execOp a.eval o).run P w with
 |halt x w'=>exact fun hr=>hr.elim
 |ok x w' =>
  cases x with
  |value u=>rintro⟨rfl,rfl⟩;exact hK _ _ hw hk
  |skip=>rintro⟨rfl,rfl⟩;exact hK _ _ hw hk
  |enter f args =>
   rintro⟨rfl,h1,h2⟩
   refine⟨h1,h2.mono ?_⟩
   rintro e w''⟨rfl,hc⟩
   exact hK _ _ hc hk
  | _=>exact fun hr=>hr.elim
theorem qzq{i:Nat}{a:Act}{K:Act→Prop}{K':Act→World→Prop}{X:Exit→Act→World→Prop}{w:World}(hd : ∀ o,ops[i]? = some o→qht o=true)(hw:C w)(hK : ∀ a w',C w'→K a→K' a w')
  (hq:qOpIn F n P ops C i K a):wpOpIn F n P ops X i K' a w:=by
 unfold qOpIn at hq
 unfold wpOpIn
 cases ho:ops[i]? with
 |none=>simp only[ho] at hq ⊢;exact hK _ _ hw hq
 |some o =>
  simp only[ho] at hq ⊢
  obtain⟨ha,hq⟩:=hq
  by_cases hn:Region.wanted o (yielded ops a.tmps)=true
  ·simp only[hn,if_true] at hq ⊢
   exact qzr (hd o ho) hw hK ha hq
  ·simp only[hn] at hq ⊢
   exact⟨ha w hw,hK _ _ hw hq⟩
theorem qv5{md:Region.Mode}{Y:Act→Prop}{X:Exit→Act→World→Prop}(hd : ∀ (i:Nat) (o:Oper),ops[i]? = some o→qht o=true)(hY : ∀ a w,C w→Y a→X .normal a w) : ∀ (k:Nat) (listed:Array Bool) (a:Act) (w:World),C w →
  wpAnyQIn F n P md ops C Y k listed a→wpAnyIn F n P md ops X k listed a w:=by
 intro k
 induction k with
 |zero=>exact fun listed a w hw hq=>⟨hq.1,hY a w hw hq.2⟩
 |succ k ih=>exact fun listed a w hw hq=>⟨fun h0=>hY a w hw (hq.1 h0),fun i hi=>qzq (hd i) hw (fun a' w' hw' h'=>ih _ a' w' hw' h') (hq.2 i hi)⟩
theorem qmv{id:Nat}{X:Exit→Act→World→Prop}{a:Act}{w:World}{l:List Oper}(hd:l.all qht=true)(hm:P.follows .mixedOrders=true)(hB:Region.lexB .any l.toArray=true)
  (h:wpQuietIn F n P l.toArray (fun w' => ∃ n,w'=w.drewN n) (fun a' => ∀ w',(∃ n,w'=w.drewN n)→X .normal a' w') l a):(Code.region id l.toArray true).wpIn F n P X a w:=by
 have hB':=hB
 simp only[Region.lexB,Bool.and_eq_true] at hB'
 refine wpIn_region_any hm (qv5 (C:=fun w' => ∃ n,w'=w.drewN n) (Y:=fun a' => ∀ w',(∃ n,w'=w.drewN n)→X .normal a' w') ?_ (fun _ w' hw' h'=>h' w' hw') _ _ _ _ ⟨1,rfl⟩ ?_)
 ·intro i o ho
  rw[List.getElem?_toArray] at ho
  exact List.all_eq_true.1 hd o (List.mem_of_getElem? ho)
 ·have:=wpAnyQIn_lex (F:=F) (n:=n) (C:=fun w' => ∃ n,w'=w.drewN n) (md := .any) hB'.1 l 0 (Array.replicate l.length false) a (by simp) (by simpa using hB'.2) h
  simpa using this
end
end Go.Proofs.YtldkgbnmaefaaaaGreatDoor.Sf
