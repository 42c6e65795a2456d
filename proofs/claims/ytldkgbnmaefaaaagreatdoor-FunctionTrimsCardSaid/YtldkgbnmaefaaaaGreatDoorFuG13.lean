import Derived.Test.YtldkgbnmaefaaaaGreatDoorNuG1
import Derived.Lib.ItoaNum
import Derived.Test.YtldkgbnmaefaaaaGreatDoorSfG2
import Derived.Lib.DecodeN
import Derived.Test.YtldkgbnmaefaaaaGreatDoorSfG3
import Derived.Test.YtldkgbnmaefaaaaGreatDoorFuG5
import Derived.Test.YtldkgbnmaefaaaaGreatDoorFuG9
import Derived.Test.YtldkgbnmaefaaaaGreatDoorFuG2
import Derived.Test.YtldkgbnmaefaaaaGreatDoorCaH7
import Derived.Test.YtldkgbnmaefaaaaGreatDoorRows
import Derived.RangeFuncOwn
import Derived.Lib.LaidTab
import Derived.Shelf.LaysM
import Derived.ProofKit
import Derived.OpenShut
import Derived.ShutString
import Derived.Deep.Slices
import Derived.ChangeSlices
import Derived.Deep.AppendLies
import Derived.Laws.OwnMore
import Derived.Test.YtldkgbnmaefaaaaGreatDoorPmG1
set_option maxRecDepth 100000
set_option maxHeartbeats 4000000
open Go.Lib (hid)
namespace Go.Proofs.YtldkgbnmaefaaaaGreatDoor.Nu
theorem qlh : ∀ k x,(qg9 k x).length=k
 | 0,_=>rfl
 |k+1,x=>by simp[qg9,qlh k]
theorem qgy{x:Nat}(h:x<10):(UInt8.ofNat (48+x)).toNat=48+x:=by simp;omega
theorem qrk : ∀ (k a x:Nat),x<10^k→qbw a (qg9 k x)=a*10^k+x
 | 0,a,x,h=>by
  have:x=0:=by simpa using h
  subst this;simp[qg9,qbw]
 |k+1,a,x,h=>by
  rw[Nat.pow_succ] at h
  rw[qg9,qcj,qrk k a (x / 10) (by omega)]
  have:qbw (a*10^k+x / 10) [UInt8.ofNat (48+x%10)]=10*(a*10^k+x / 10)+((UInt8.ofNat (48+x%10)).toNat-48):=rfl
  rw[this,qgy (Nat.mod_lt _ (by decide)),Nat.pow_succ]
  have e:a*(10^k*10)=10*(a*10^k):=by rw[←Nat.mul_assoc,Nat.mul_comm]
  omega
theorem qxf : ∀ x:Nat,val (Lib.decDigits x)=x:=by
 intro x
 induction x using Nat.strongRecOn with
 | _ x ih =>
  by_cases h:x<10
  ·rw[qcg h]
   have:val [UInt8.ofNat (48+x)]=10*0+((UInt8.ofNat (48+x)).toNat-48):=rfl
   rw[this,qgy h];omega
  ·rw[qe2 (by omega)]
   unfold val
   rw[qcj]
   have e:=ih (x / 10) (by omega)
   unfold val at e
   rw[e]
   have:qbw (x / 10) [UInt8.ofNat (48+x%10)]=10*(x / 10)+((UInt8.ofNat (48+x%10)).toNat-48):=rfl
   rw[this,qgy (Nat.mod_lt _ (by decide))]
   omega
theorem qo3(x:Nat):isD (UInt8.ofNat (48+x%10))=true:=by
 unfold isD;rw[qgy (Nat.mod_lt _ (by decide)),decide_eq_true_iff];have:=Nat.mod_lt x (show 0<10 by decide);omega
theorem qqb : ∀ k x,(qg9 k x).all isD=true
 | 0,_=>rfl
 |k+1,x=>by rw[qg9,List.all_append,qqb k,List.all_cons,qo3];rfl
theorem qix : ∀ x:Nat,(Lib.decDigits x).all isD=true:=by
 intro x
 induction x using Nat.strongRecOn with
 | _ x ih =>
  by_cases h:x<10
  ·rw[qcg h]
   have:=qo3 x
   rw[Nat.mod_eq_of_lt h] at this
   rw[List.all_cons,this];rfl
  ·rw[qe2 (by omega),List.all_append,ih (x / 10) (by omega),List.all_cons,qo3];rfl
theorem qyr{x:Nat}(h:x<1000000000):(Lib.decDigits x).length≤9:=(pad 9 x (by omega) (by simpa using h)).1
theorem qto{x:Nat}(h:x<1000000000):adB (Lib.decDigits x)=true:=by
 unfold adB
 rw[qix,Bool.and_true,decide_eq_true_iff]
 exact⟨qf3 x,qyr h⟩
theorem qyc{k x:Nat}(h1:1≤k)(h2:k≤9):adB (qg9 k x)=true:=by
 unfold adB
 rw[qqb,Bool.and_true,decide_eq_true_iff,qlh]
 exact⟨h1,h2⟩
theorem qkp{v k:Nat}(hk:k≤9)(hv:v / 10^k<1000000000)(neg:Bool):qaf neg (body v k)=fit (if neg then -(v:Int) else (v:Int)) (pw k):=by
 by_cases h0:k=0
 ·subst h0
  have e:body v 0=Lib.decDigits v:=by simp[body]
  rw[e]
  unfold qaf
  rw[qlf _ (qix v)]
  simp only
  rw[show idB (Lib.decDigits v) [] false=adB (Lib.decDigits v) from rfl,qto (by simpa using hv)]
  simp only[List.append_nil,qxf]
  simp
 ·have e:body v k=Lib.decDigits (v / 10^k)++46 :: qg9 k (v%10^k):=by simp[body,h0]
  rw[e]
  unfold qaf
  rw[qi4 _ _ (qix _)]
  simp only
  have e2:idB (Lib.decDigits (v / 10^k)) (qg9 k (v%10^k)) true=true:=by
   unfold idB
   rw[qto hv,qyc (by omega) hk];simp
  have e3:val (Lib.decDigits (v / 10^k)++qg9 k (v%10^k))=v:=by
   unfold val
   rw[qcj]
   have:=qxf (v / 10^k)
   unfold val at this
   rw[this,qrk k _ _ (Nat.mod_lt _ (Nat.pow_pos (by decide))),Nat.mul_comm]
   exact Nat.div_add_mod v (10^k)
  rw[e2,e3,qlh]
  simp
theorem qtx(v k:Nat):(body v k).head? ≠ some 45∧(body v k).head? ≠ some 43:=by
 have h : ∀ c,(Lib.decDigits (v / 10^k)).head? = some c→isD c=true:=fun c hc=>by
  have:=qix (v / 10^k)
  rw[List.all_eq_true] at this
  exact this c (List.mem_of_mem_head? hc)
 have hl:=qf3 (v / 10^k)
 unfold body
 cases hq:Lib.decDigits (v / 10^k) with
 |nil=>rw[hq] at hl;simp at hl
 |cons c r =>
  have:=h c (by rw[hq];rfl)
  rw[List.cons_append,List.head?_cons]
  refine⟨fun e => ?_,fun e => ?_⟩ <;>
  ·obtain rfl:=Option.some.inj e
   exact absurd this (by decide)
theorem qsd(n d:Int){k:Nat}(hk:k≤9)(hv:n.natAbs*(10^k / d.toNat) / 10^k<1000000000) :
  parse (qsz n d k)=fit (if n<0 then -((n.natAbs*(10^k / d.toNat):Nat):Int) else ((n.natAbs*(10^k / d.toNat):Nat):Int)) (pw k):=by
 have hb:=qtx (n.natAbs*(10^k / d.toNat)) k
 unfold qsz parse
 by_cases h:n<0
 ·rw[if_pos h,if_pos h]
  simp only[List.singleton_append,List.head?_cons,List.drop_succ_cons,List.drop_zero,if_true]
  exact qkp hk hv true
 ·rw[if_neg h,if_neg h,List.nil_append,if_neg hb.1,if_neg hb.2]
  exact qkp hk hv false
theorem qsc{n d:Int}(h:Ok n d){k:Nat}(hk:k≤9)(hd:pw k%d=0)(hv:n.natAbs / d.toNat<1000000000):parse (qsz n d k)=⟨n,d,0⟩:=by
 have hd1:=h.d1
 obtain⟨c,hc⟩:=Int.dvd_of_emod_eq_zero hd
 have hpp:0<(10:Nat)^k:=Nat.pow_pos (by decide)
 have hcp:0<c:=by
  rcases (show 0<c∨c≤0 by omega) with h1 | h1
  ·exact h1
  ·have:=Int.mul_nonpos_of_nonneg_of_nonpos (show 0≤d by omega) h1
   rw[←hc,qg2] at this;omega
 obtain⟨D,rfl⟩ : ∃ D:Nat,d=D:=⟨d.toNat,by omega⟩
 obtain⟨C,rfl⟩ : ∃ C:Nat,c=C:=⟨c.toNat,by omega⟩
 have hn:10^k=D*C:=by rw[qg2] at hc;exact_mod_cast hc
 have hq:10^k / (D:Int).toNat=C:=by rw[hn];simp;exact Nat.mul_div_cancel_left _ (by omega)
 have hv2:n.natAbs*(10^k / (D:Int).toNat) / 10^k<1000000000:=by
  rw[hq,hn,Nat.mul_div_mul_right _ _ (by omega)];simpa using hv
 rw[qsd n D hk hv2,hq]
 refine q1n (by rw[qg2];omega) h ?_
 rw[hc]
 split
 ·have:(n.natAbs:Int) = -n:=by omega
  rw[Int.natCast_mul,this];grind
 ·have:(n.natAbs:Int)=n:=by omega
  rw[Int.natCast_mul,this];grind
end Go.Proofs.YtldkgbnmaefaaaaGreatDoor.Nu
namespace Go.Proofs.YtldkgbnmaefaaaaGreatDoor.Sf
def Pl(s:ByteArray):Prop := ∀ (i:Nat) (h:i<s.size),s[i]<128
theorem xbg{s:ByteArray}(h:Pl s){p:Nat}(hp:p<s.size):wd s p=1:=by
 unfold wd
 have h1:=h p hp
 have h2:(s.get! p).toNat<128:=by
  have e:s.get! p=s[p]:=by
   rw[←Lib.getD_get!',List.getD,List.getElem?_eq_getElem (by rw[qag];exact hp)];rfl
  rw[e];exact h1
 rw[Lib.decode_at,show ∀ n a b c d,a<128→Lib.decodeN n a b c d=(a,1) from fun n a b c d h=>by simp[Lib.decodeN,h]]
 exact h2
theorem qzm{s:ByteArray}(h:Pl s)(p:Nat):qcx s p=List.range' p (s.size-p):=by
 refine qfe s (fun p=>qcx s p=List.range' p (s.size-p)) (fun p hp => ?_) (fun p hp ih => ?_) p
 ·rw[qb7 hp,show s.size-p=0 from by omega];rfl
 ·rw[xbg h hp] at ih
  rw[qbb hp,xbg h hp,ih,show s.size-p=(s.size-(p+1))+1 from by omega,List.range'_succ]
theorem qvt{s:ByteArray}(h:Pl s):sts s=List.range s.size:=by unfold sts;rw[qzm h,List.range_eq_range'];rfl
theorem xbf{s:ByteArray}(h:Pl s):rc s=s.size:=by unfold rc;rw[qvt h,List.length_range]
theorem xbd{s:ByteArray}(h:Pl s)(i:Nat):ag s i=min i s.size:=by
 by_cases hi:i<s.size
 ·have:i<(sts s).length:=by rw[qvt h,List.length_range];exact hi
  rw[qgi this,Nat.min_eq_left (Nat.le_of_lt hi)]
  simp[qvt h]
 ·rw[qd6 (by rw[xbf h];omega),Nat.min_eq_right (by omega)]
theorem xbe{s:ByteArray}:Pl s ↔ ∀ b,b∈s.data.toList→b<128:=by
 constructor
 ·intro h b hb
  obtain⟨i,hi,rfl⟩:=List.mem_iff_getElem.1 hb
  have hi':i<s.size:=by rw[←qag];exact hi
  exact h i hi'
 ·intro h i hi
  apply h
  have hi':i<s.data.toList.length:=by rw[qag];exact hi
  exact List.mem_iff_getElem.2 ⟨i,hi',rfl⟩
theorem qse{f:ByteArray}(h:Pl f)(hf:f.size≠0)(n:Nat):(pdl f n).length=n:=by
 rw[qvs,xbf h]
 unfold sl
 rw[ByteArray.size_extract,xbd h,xbd h]
 have:=Nat.mod_lt n (Nat.pos_of_ne_zero hf)
 have:=Nat.div_add_mod n f.size
 rw[Nat.mul_comm] at this
 omega
end Go.Proofs.YtldkgbnmaefaaaaGreatDoor.Sf
namespace Go.Proofs.YtldkgbnmaefaaaaGreatDoor.Fu
open Go.RowKit
set_option linter.unusedVariables false
set_option linter.unusedSimpArgs false
def LgP(w:World)(l:List BA)(e:Ending)(w':World):Prop := ∃ b,e=.returned (.bool b)∧(b=false→Ex l)∧w=w'
theorem qux(v:Value)(l:List BA)(w:World)(hv:Rd w w.heap.size v l) :
  Calls Tryz.prog 9 #[v] w (LgP w l):=by
 obtain⟨A,c,rfl,hlc,hcm,hcell⟩:=hv.ex
 unfold maxLen at hcm
 have HC:=hid hcell
 clear hcell hv
 go_enter Tryz.func9,Tryz.ntmps9
 go_wp2
 go_loop [3] (fun i => ∃ k:Nat,i=.int .i64 (k:Int)∧k≤l.length∧k≤61∧Hid (∀ j,j<k→(raw l j).size≤300)) (fun i=>l.length-(intOf i).toNat)
 case atStart=>exact⟨0,by go_num,Nat.zero_le _,Nat.zero_le _,hid (fun j hj=>absurd hj (by omega))⟩
 case round =>
  obtain⟨k,rfl,hk,hk2,HS⟩:=hrel
  by_cases hlt:k<l.length
  ·have hki:(k:Int)<(l.length:Int):=by omega
   by_cases h60:60<k
   ·have h6:(60:Int)<(k:Int):=by omega
    go_wp2
    go_ret
    exact⟨true,rfl,(fun h=>absurd h (by decide)),rfl⟩
   ·have h6 : ¬ (60:Int)<(k:Int):=by omega
    obtain⟨g,o,rfl,hg,hcl⟩:=HC.out (by omega)
    have c0:=hcl k l[k] (List.getElem?_eq_getElem hlt)
    rw[←qbm hlt] at c0
    have HK:=hid (fun(h:(raw l k).size≤300)=>(fun j (hj:j<k+1)=>by
     by_cases e:j=k
     ·subst e;exact h
     ·exact HS.out j (by omega) : ∀ j,j<k+1→(raw l j).size≤300))
    clear hcl
    obtain⟨S,hS⟩ : ∃ S,raw l k=S:=⟨_,rfl⟩
    rw[hS] at c0 HK
    clear hS
    by_cases h3:300<S.size
    ·have h33:(300:Int)<(S.size:Int):=by omega
     go_wp2
     go_ret
     exact⟨true,rfl,(fun h=>absurd h (by decide)),rfl⟩
    ·have h33 : ¬ (300:Int)<(S.size:Int):=by omega
     go_wp2
     go_round
     case rel=>exact⟨k+1,by go_num,by omega,by omega,hid (HK.out (by omega))⟩
     case measure=>simp[intOf];omega
  ·have hki : ¬ (k:Int)<(l.length:Int):=by omega
   have HE:Hid (Ex l):=hid ⟨by omega,fun i=>by
    by_cases hi:i<k
    ·have:=HS.out i hi;omega
    ·rw[qjn (by omega)];exact Nat.zero_le _⟩
   go_wp2
   go_ret
   exact⟨false,rfl,fun _=>HE.out,rfl⟩
theorem qno(n:Int):bits .and .i64 n 65535=n%65536:=by
 have h7:(BitVec.ofInt 64 65535).toNat=2^16-1:=by decide
 have key:(BitVec.ofInt 64 n &&& BitVec.ofInt 64 65535).toNat=(n%((2^64:Nat):Int)).toNat%2^16:=by
  rw[BitVec.toNat_and,BitVec.toNat_ofInt,h7,Nat.and_two_pow_sub_one_eq_mod]
 show IntKind.i64.wrap ((BitVec.ofInt 64 n &&& BitVec.ofInt 64 65535).toNat:Nat)=n%65536
 rw[key,IntKind.wrap_i64]
 omega
def nmI(n:Int):Nat:=(n%65536%17).toNat
theorem q1v(n:Int):nmI n<17:=by unfold nmI;omega
theorem qu9(n:Int):((nmI n:Nat):Int)=n%65536%17:=by unfold nmI;omega
end Go.Proofs.YtldkgbnmaefaaaaGreatDoor.Fu
namespace Go.Proofs.YtldkgbnmaefaaaaGreatDoor.Fu
open Go.RowKit Go.Deep
section
variable {H:Type} {enc:TypeId×Value→H} {w:World}
theorem qwx{a:Addr}{v:Value}(h:w.cell? a=some v):a.spot=none∧a.block<w.heap.size:=by
 unfold World.cell? at h
 split at h
 ·rename_i c _ _ hc
  refine⟨?_,(Array.getElem?_eq_some_iff.1 hc).1⟩
  cases hs:a.spot with
  |none=>rfl
  |some s=>simp[hs] at h
 ·cases h
theorem qyn:Tryz.prog.cellsOf 9=1:=by kernel_rfl
theorem open_strs{n:Nat}{cs:List Value}{x:DataW H×List MemPlace}(h:DataW.trod enc Tryz.prog w 0 (fun _=>true) true n 22 cs=some x) : ∃ v l,cs=[v]∧Rd w w.heap.size v l:=by
 rcases open_slice Tryz.underlying22 h with⟨rfl,_⟩ | ⟨a,len,cap,m,n',D,Pl,rfl,_,hl,hm,hmm,_,hx⟩
 ·exact⟨_,[],rfl,⟨none,0,rfl,Nat.le_refl _,by simp[maxLen],fun h=>absurd h (by simp)⟩⟩
 ·rw[qyn] at hx
  have hlm:len≤m:=by rw[hmm];simpa using hl
  by_cases h0:len=0
  ·subst h0
   exact⟨_,[],rfl,⟨some a,cap,rfl,Nat.zero_le _,hm,fun h=>absurd h (by simp)⟩⟩
  obtain⟨g,o,sp⟩:=a
  have key0 : ∀ i,i<len → ∃ s:BA,w.cell? ((⟨g,o,sp⟩:Addr).add i)=some (.string s):=by
   intro i hi
   obtain⟨cs',h1,h2⟩:=hx i (by omega)
   obtain⟨s,hs,_,_⟩:=DataW.trod_string Tryz.underlying9 h2
   obtain⟨_,h3,h4⟩:=World.cells?_some h1
   have h5:=h4 0 (by omega)
   rw[hs] at h5
   refine⟨s,?_⟩
   have:((⟨g,o,sp⟩:Addr).add (i*1)).add 0=(⟨g,o,sp⟩:Addr).add i:=by rw[Nat.mul_one];simp[Addr.add]
   rw[this] at h5
   exact h5
  obtain⟨s0,hs0⟩:=key0 0 (by omega)
  rw[show(⟨g,o,sp⟩:Addr).add 0=⟨g,o,sp⟩ by simp[Addr.add]] at hs0
  obtain⟨hsp,hg⟩:=qwx hs0
  simp only at hsp hg
  subst hsp
  have key : ∀ i,i<len → ∃ s:BA,w.cell? ⟨g,o+i,none⟩=some (.string s):=by
   intro i hi
   obtain⟨s,hs⟩:=key0 i hi
   refine⟨s,?_⟩
   have:(⟨g,o,none⟩:Addr).add i=⟨g,o+i,none⟩:=by unfold Addr.add;split<;>simp_all
   rw[←this];exact hs
  have:Inhabited BA:=⟨em⟩
  obtain⟨f,hf⟩:=choose_lt key
  refine⟨_,(List.range len).map f,rfl,⟨some ⟨g,o,none⟩,cap,by simp,by simpa using hl,hm,fun _=>⟨g,o,rfl,hg,fun i y hy => ?_⟩⟩⟩
  rw[List.getElem?_map] at hy
  obtain⟨i',h1,h2⟩:=Option.map_eq_some_iff.1 hy
  obtain⟨h3,h4⟩:=List.getElem?_eq_some_iff.1 h1
  rw[List.getElem_range] at h4
  subst h4 h2
  exact hf i (by simpa using h3)
end
end Go.Proofs.YtldkgbnmaefaaaaGreatDoor.Fu
namespace Go.Proofs.YtldkgbnmaefaaaaGreatDoor.Fu
open Go.RowKit
set_option linter.unusedVariables false
set_option linter.unusedSimpArgs false
theorem qh9.of_block{w:World}{base b:Nat}{x:BA}(h:w.heap[b]? = some (.cells #[.string x] 9))(hb:base≤b):qh9 w base (.slice (some ⟨b,0,none⟩) 1 1) [x] :=
 ⟨rfl,.inr ⟨b,1,#[.string x],rfl,hb,h,Nat.le_refl _,by decide,rfl,rfl⟩⟩
theorem Rd.drop1{w:World}{B g o c:Nat}{l:List BA}{n:Nat}(h:Rd w B (.slice (some ⟨g,o,none⟩) n c) l)(h0:1≤l.length):Rd w B (.slice (some ⟨g,o+1,none⟩) (n-1) (c-1)) (l.drop 1):=by
 obtain⟨A,c',h1,h2,h3,h4⟩:=h.ex
 obtain⟨g',o',h5,h6,h7⟩:=h4 (by omega)
 injection h1 with h8 h9 h10
 rw[h5] at h8
 injection h8 with h8
 injection h8 with h8 h11
 subst h8 h11 h9 h10
 refine⟨_,_,by rw[List.length_drop],by rw[List.length_drop];omega,by omega,fun _=>⟨_,_,rfl,h6,fun i x hx => ?_⟩⟩
 rw[List.getElem?_drop] at hx
 have:=h7 _ x hx
 rwa [show o+(1+i)=o+1+i by omega] at this
theorem xeg{E:Operand→Value}{o:Oper}{w w':World}{v u v':Value}(s x:Operand)(t:TypeId)
  (ho:o.op=.call { callee := .builtin .append,args := #[s,x],argTypes := #[t,t] }) (hs:E s=v) (hx:E x=u) (hr:(Builtin.append_ #[t,t] o.type #[v,u]).run Tryz.prog w=.ok v' w'):(execOp E o).run Tryz.prog w=.ok (.value v') w':=by
 unfold execOp
 simp only[ho,resolve,invoke,builtin,Sem.run_bind,Sem.run_pure,Result.andThen_ok,List.map_toArray,List.map_cons,List.map_nil,hs,hx,hr]
end Go.Proofs.YtldkgbnmaefaaaaGreatDoor.Fu
namespace Go.Proofs.YtldkgbnmaefaaaaGreatDoor.Fu
set_option linter.unusedVariables false
theorem q7g(l:List UInt8):Sf.trR (l++[9,32])=Sf.trR l:=by
 unfold Sf.trR
 rw[List.reverse_append]
 have e:([9,32]:List UInt8).reverse=[32,9]:=rfl
 rw[e,List.cons_append,List.cons_append,List.nil_append,List.dropWhile_cons_of_pos (by decide),List.dropWhile_cons_of_pos (by decide)]
theorem q7i(l:List UInt8):Sf.tr ([32,10]++l++[9,32])=Sf.tr l:=by
 rw[Sf.qpx,Sf.qpx,q7g,List.cons_append,List.cons_append,List.nil_append,Sf.qiv,Sf.qiv]
 have h10:Sf.spc 10=true:=by decide
 have h32:Sf.spc 32=true:=by decide
 rw[h10,h32]
 by_cases h:Sf.trR l=[]
 ·have e:(if Sf.trR l=[]∧true=true then ([]:List UInt8) else 10 :: Sf.trR l)=[]:=if_pos ⟨h,rfl⟩
  rw[e,if_pos ⟨rfl,rfl⟩,h]
 ·have e:(if Sf.trR l=[]∧true=true then ([]:List UInt8) else 10 :: Sf.trR l)=10 :: Sf.trR l:=if_neg (fun x=>h x.1)
  rw[e,if_neg (fun x=>List.cons_ne_nil _ _ x.1)]
  unfold Sf.trL
  rw[List.dropWhile_cons_of_pos h32,List.dropWhile_cons_of_pos h10]
theorem q0j(s:BA):trm ((⟨#[32,10]⟩:BA)++s++⟨#[9,32]⟩)=trm s:=by
 unfold trm
 have e:((⟨#[32,10]⟩:BA)++s++⟨#[9,32]⟩).data.toList=[32,10]++s.data.toList++[9,32]:=by simp
 rw[e,q7i]
theorem qr2{k:Nat}{y:Row}(hy:tbl[k]? = some y){l l':List BA}(h0:trm (raw l 0)=trm (raw l' 0))(h1:raw l 1=raw l' 1)(h2:raw l 2=raw l' 2)(h3:raw l 3=raw l' 3):qai k y.ps l=qai k y.ps l':=by
 match k,hy with
 | 0,hy=>cases Option.some.inj hy;show qai 0 [⟨0,0⟩] l=qai 0 [⟨0,0⟩] l';rw[qqe,qqe,h0]
 | 1,hy=>cases Option.some.inj hy;show qai 1 [⟨0,0⟩,⟨2,0⟩,⟨2,32768⟩] l=qai 1 [⟨0,0⟩,⟨2,0⟩,⟨2,32768⟩] l';rw[qkh,qkh,h0,h1,h2]
 | 2,hy=>cases Option.some.inj hy;show qai 2 [⟨0,0⟩,⟨1,0⟩] l=qai 2 [⟨0,0⟩,⟨1,0⟩] l';rw[qi5,qi5,h0,h1]
 | 3,hy=>cases Option.some.inj hy;show qai 3 [⟨0,0⟩,⟨1,0⟩,⟨2,0⟩] l=qai 3 [⟨0,0⟩,⟨1,0⟩,⟨2,0⟩] l';rw[qt7,qt7,h0,h1,h2]
 | 4,hy=>cases Option.some.inj hy;show qai 4 [⟨0,0⟩,⟨1,0⟩,⟨1,0⟩,⟨2,(-1)⟩] l=qai 4 [⟨0,0⟩,⟨1,0⟩,⟨1,0⟩,⟨2,(-1)⟩] l';rw[qhl,qhl,h0,h1,h2,h3]
 | 5,hy=>cases Option.some.inj hy;show qai 5 [⟨0,0⟩,⟨2,0⟩,⟨1,0⟩] l=qai 5 [⟨0,0⟩,⟨2,0⟩,⟨1,0⟩] l';rw[qfo,qfo,h0,h1,h2]
 | 6,hy=>cases Option.some.inj hy;show qai 6 [⟨0,0⟩,⟨2,0⟩,⟨1,0⟩] l=qai 6 [⟨0,0⟩,⟨2,0⟩,⟨1,0⟩] l';rw[qf5,qf5,h0,h1,h2]
 | 7,hy=>cases Option.some.inj hy;show qai 7 [⟨0,0⟩] l=qai 7 [⟨0,0⟩] l';rw[q4v,q4v,h0]
 | 8,hy=>cases Option.some.inj hy;show qai 8 [⟨0,0⟩] l=qai 8 [⟨0,0⟩] l';rw[qyv,qyv,h0]
 | 9,hy=>cases Option.some.inj hy;show qai 9 [⟨0,0⟩] l=qai 9 [⟨0,0⟩] l';rw[qhk,qhk,h0]
 | 10,hy=>cases Option.some.inj hy;show qai 10 [⟨0,0⟩] l=qai 10 [⟨0,0⟩] l';rw[qhm,qhm,h0]
 | 11,hy=>cases Option.some.inj hy;show qai 11 [⟨0,0⟩] l=qai 11 [⟨0,0⟩] l';rw[qon,qon,h0]
 | 12,hy=>cases Option.some.inj hy;show qai 12 [⟨0,0⟩,⟨1,0⟩,⟨2,0⟩] l=qai 12 [⟨0,0⟩,⟨1,0⟩,⟨2,0⟩] l';rw[qom,qom,h0,h1,h2]
 | 13,hy=>cases Option.some.inj hy;show qai 13 [⟨0,0⟩] l=qai 13 [⟨0,0⟩] l';rw[qhj,qhj,h0]
 | 14,hy=>cases Option.some.inj hy;show qai 14 [⟨0,0⟩,⟨2,0⟩] l=qai 14 [⟨0,0⟩,⟨2,0⟩] l';rw[qli,qli,h0,h1]
 | 15,hy=>cases Option.some.inj hy;show qai 15 [⟨0,0⟩,⟨2,0⟩,⟨0,0⟩] l=qai 15 [⟨0,0⟩,⟨2,0⟩,⟨0,0⟩] l';rw[qhi,qhi,h0,h1,h2]
 | 16,hy=>cases Option.some.inj hy;show qai 16 [⟨0,0⟩,⟨0,0⟩] l=qai 16 [⟨0,0⟩,⟨0,0⟩] l';rw[qej,qej,h0,h1]
 |(n+17),hy=>exact absurd hy (by simp[tbl])
def qgc(l:List BA)(m:BA):List BA:=(((⟨#[32,10]⟩:BA)++raw l 0++⟨#[9,32]⟩) :: l.drop 1)++List.replicate (4-l.length) em++[m]
theorem q0t{l:List BA}(h0:l≠[])(h4:l.length≤4)(m:BA):(qgc l m).length=5:=by
 have:1≤l.length:=List.length_pos_iff.2 h0
 simp only[qgc,List.length_append,List.length_cons,List.length_drop,List.length_replicate,List.length_nil];omega
theorem xci(l:List BA)(m:BA):raw (qgc l m) 0=(⟨#[32,10]⟩:BA)++raw l 0++⟨#[9,32]⟩:=rfl
theorem qxk{l:List BA}(h0:l≠[])(h4:l.length≤4)(m:BA){i:Nat}(h1:1≤i)(hi:i<4):raw (qgc l m) i=raw l i:=by
 have hl:1≤l.length:=List.length_pos_iff.2 h0
 obtain⟨j,rfl⟩ : ∃ j,i=j+1:=⟨i-1,by omega⟩
 unfold raw qgc
 rw[List.append_assoc,List.cons_append,List.getD_cons_succ]
 by_cases h:j+1<l.length
 ·rw[List.getD_eq_getElem?_getD,List.getElem?_append_left (by rw[List.length_drop];omega),List.getElem?_drop,List.getD_eq_getElem?_getD,Nat.add_comm 1 j]
 ·rw[List.getD_eq_getElem?_getD,List.getElem?_append_right (by rw[List.length_drop];omega),List.length_drop,List.getElem?_append_left (by rw[List.length_replicate];omega),List.getElem?_replicate,if_pos (by omega),List.getD_eq_getElem?_getD,List.getElem?_eq_none (Nat.le_of_not_lt h)]
  rfl
theorem qxj{k:Nat}{y:Row}(hy:tbl[k]? = some y){l:List BA}(h0:l≠[])(h4:l.length≤4)(m:BA):qai k y.ps (qgc l m)=qai k y.ps l :=
 qr2 hy (by rw[xci,q0j]) (qxk h0 h4 m (by omega) (by omega)) (qxk h0 h4 m (by omega) (by omega)) (qxk h0 h4 m (by omega) (by omega))
def wl(l:List BA)(j:Nat):List BA:=((⟨#[32,10]⟩:BA)++raw l 0++⟨#[9,32]⟩) :: l.drop 1++List.replicate j em
theorem qrl{l:List BA}(h0:l≠[])(j:Nat):(wl l j).length=l.length+j:=by
 have:1≤l.length:=List.length_pos_iff.2 h0
 simp only[wl,List.length_append,List.length_cons,List.length_drop,List.length_replicate];omega
theorem q8g(l:List BA)(j:Nat):wl l j++[em]=wl l (j+1):=by
 unfold wl
 rw[List.replicate_succ',List.append_assoc]
theorem q8h(l:List BA):[((⟨#[32,10]⟩:BA)++raw l 0++⟨#[9,32]⟩)]++l.drop 1=wl l 0:=by
 unfold wl
 simp
theorem q8f{l:List BA}{j:Nat}(h:l.length+j=4)(m:BA):wl l j++[m]=qgc l m:=by
 unfold wl qgc
 rw[show 4-l.length=j by omega]
theorem q6l{l:List BA}{s:BA}(h:s∈l) : ∃ i,raw l i=s:=by
 obtain⟨i,hi,rfl⟩:=List.getElem_of_mem h
 exact⟨i,qbm hi⟩
theorem q0u{l:List BA}(h0:l≠[])(h4:l.length≤4){m:BA}(h : ∀ i,(raw l i).size≤350)(hz:(raw l 0).size≤200)(hm:m.size≤100):Ord (qgc l m):=by
 refine⟨by rw[q0t h0 h4];omega,fun i => ?_⟩
 by_cases hi:i<(qgc l m).length
 ·rw[qbm hi]
  have hs:=List.getElem_mem hi
  generalize(qgc l m)[i]=s at hs
  unfold qgc at hs
  simp only[List.mem_append,List.mem_cons,List.not_mem_nil,or_false] at hs
  rcases hs with ((rfl | hs) | hs) | rfl
  ·rw[ByteArray.size_append,ByteArray.size_append]
   have e1:(⟨#[32,10]⟩:BA).size=2:=rfl
   have e2:(⟨#[9,32]⟩:BA).size=2:=rfl
   omega
  ·obtain⟨j,rfl⟩:=q6l (List.mem_of_mem_drop hs)
   exact h j
  ·rw[(List.mem_replicate.1 hs).2];decide
  ·omega
 ·rw[qjn hi];exact Nat.zero_le _
end Go.Proofs.YtldkgbnmaefaaaaGreatDoor.Fu
namespace Go.Proofs.YtldkgbnmaefaaaaGreatDoor.Fu
open Go.RowKit Go.Proofs.YtldkgbnmaefaaaaGreatDoor.Pm
set_option linter.unusedVariables false
set_option linter.unusedSimpArgs false
def wd0(a:BA):BA:=(⟨#[32,10]⟩:BA)++a++⟨#[9,32]⟩
def FT(v:Value)(g o:Nat)(a0:BA)(l:List BA)(B:Nat):Nat→Value→World→Prop
 | 0,u,_=>u=v
 | 1,u,_=>u=.pointer (some ⟨g,o,none⟩)
 | 2,u,_=>u=.string a0
 | 3,u,_=>u=.string ((⟨#[32,10]⟩:BA)++a0)
 | 4,u,_=>u=.string (wd0 a0)
 | 5,u,W => ∃ b,u=.slice (some ⟨b,0,none⟩) 1 1∧B≤b∧W.heap[b]? = some (.cells #[.string (wd0 a0)] 9)
 | 6,u,_=>u=v
 | _,u,W=>Rd W W.heap.size u (l.drop 1)
theorem FT.st{v:Value}{g o:Nat}{a0:BA}{l:List BA}{B:Nat} : ∀ i u w w',FT v g o a0 l B i u w→Bl w w'→FT v g o a0 l B i u w':=by
 intro i u w w' h hb
 match i,h with
 | 0,h=>exact h
 | 1,h=>exact h
 | 2,h=>exact h
 | 3,h=>exact h
 | 4,h=>exact h
 | 5,h=>obtain⟨b,h1,h2,h3⟩:=h;exact⟨b,h1,h2,qb8 h3 hb⟩
 | 6,h=>exact h
 |(i+7),h=>exact Rd.up (show Rd w w.heap.size u (l.drop 1) from h) hb
section
variable {E:Operand→Value} {o:Oper} {W:World}
theorem xcn{p:Operand}{g f n c:Nat}(ho:o.op=Op.indexAddr 22 p (.const (.int .i64 0)))(hq:E (.const (.int .i64 0))=.int .i64 0)(h:E p=.slice (some ⟨g,f,none⟩) n c)(hn:0<n):(execOp E o).run Tryz.prog W=.ok (.value (.pointer (some ⟨g,f,none⟩))) W:=by
 unfold execOp
 rw[ho]
 simp only[h,hq]
 have hni:(0:Int)<(n:Int):=by omega
 go_simp
theorem xei{p:Operand}{b f:Nat}{v:Value}(ho:o.op=Op.load 9 p)(h:E p=.pointer (some ⟨b,f,none⟩))(hc:W.cell? ⟨b,f,none⟩=some v):(execOp E o).run Tryz.prog W=.ok (.value v) W:=by
 unfold execOp
 rw[ho]
 simp only[h]
 go_simp
theorem xck{p:Operand}{a b:BA}(ho:o.op=Op.binOp .add 9 (.const (.string a)) p 9)(hq:E (.const (.string a))=.string a)(h:E p=.string b)(hz:a.size+b.size≤9223372036854775807):(execOp E o).run Tryz.prog W=.ok (.value (.string (a++b))) W:=by
 unfold execOp
 rw[ho]
 simp only[h,hq]
 have q:=run_string_add_sum (P:=Tryz.prog) W a b hz
 go_simp
theorem xcl{p:Operand}{a b:BA}(ho:o.op=Op.binOp .add 9 p (.const (.string b)) 9)(hq:E (.const (.string b))=.string b)(h:E p=.string a)(hz:a.size+b.size≤9223372036854775807):(execOp E o).run Tryz.prog W=.ok (.value (.string (a++b))) W:=by
 unfold execOp
 rw[ho]
 simp only[h,hq]
 have q:=run_string_add_sum (P:=Tryz.prog) W a b hz
 go_simp
theorem xeh{p:Operand}{a:BA}(ho:o.op=Op.buildSlice 22 1 #[(0,p)])(h:E p=.string a):(execOp E o).run Tryz.prog W=.ok (.value (.slice (some ⟨W.heap.size,0,none⟩) 1 1)) (W.alloc (.cells #[.string a] 9)):=by
 unfold execOp
 rw[ho]
 go_simp
theorem xco{p:Operand}{g f n c:Nat}(ho:o.op=Op.slice 22 p (some (.const (.int .i64 1))) none none)(hq:E (.const (.int .i64 1))=.int .i64 1)(h:E p=.slice (some ⟨g,f,none⟩) n c)(hn:1≤n)(hc:n≤c):(execOp E o).run Tryz.prog W=.ok (.value (.slice (some (if c=1 then⟨g,f,none⟩ else⟨g,f+1,none⟩)) (n-1) (c-1))) W:=by
 unfold execOp
 rw[ho]
 have hni:(1:Int)≤(n:Int):=by omega
 have e:sliced (some ⟨g,f,none⟩) 1 n c 1=.slice (some (if c=1 then⟨g,f,none⟩ else⟨g,f+1,none⟩)) (n-1) (c-1):=by
  unfold sliced
  split<;>simp[Addr.add]
 rw[←e]
 simp only[h,hq]
 go_simp
end
theorem xd1{w:World}{B g o c n:Nat}{l:List BA}(h:Rd w B (.slice (some ⟨g,o,none⟩) n c) l)(h0:1≤l.length):Rd w B (.slice (some (if c=1 then⟨g,o,none⟩ else⟨g,o+1,none⟩)) (n-1) (c-1)) (l.drop 1):=by
 obtain⟨A,c',h1,h2,h3,h4⟩:=h.ex
 injection h1 with h8 h9 h10
 by_cases hc:c=1
 ·subst h9 h10
  have hl:l.length=1:=by omega
  have hd:l.drop 1=[]:=List.drop_eq_nil_of_le (by omega)
  rw[hd,if_pos hc,hl,hc]
  exact⟨_,_,rfl,Nat.le_refl _,by simp[maxLen],fun h=>absurd h (by simp)⟩
 ·rw[if_neg hc]
  exact h.drop1 h0
def xev:Value→Nat
 | .slice _ n _=>n
 | _=>0
theorem xdu{a:Act}{L:List (Nat×Value)}(h : ∀ p∈L,a.tmps.getD p.1 undef=p.2) : ∀ j v,lk L j=some v→a.tmps.getD j undef=v:=fun j v hj=>h (j,v) (qu0 hj)
theorem xch(l:List BA):[wd0 (raw l 0)]++l.drop 1=wl l 0:=q8h l
theorem FunctionTrims_any(n:Int)(v:Value)(l:List BA)(more:BA)(w:World)(hv:Rd w w.heap.size v l)(hT:Tb w) :
  Calls Tryz.prog 6 #[.int .i64 n,v,.string more] w fun e w'=>e=.returned (.bool true)∧Below w.heap.size w w':=by
 have HL:=hid (qux v l w hv)
 unfold LgP at HL
 have HK:=hid (fun(W:World) (hW:Below w.heap.size w W)=>qgu W (hT.below hW))
 have HTb:=hid (fun(W:World) (hW:Below w.heap.size w W)=>hT.below hW)
 have hand:=qno n
 have hlt:=q1v n
 have hmi:=qu9 n
 have hlen:nmI n<qdv.length:=by rw[qck];exact hlt
 obtain⟨i,hi⟩ : ∃ i,nmI n=i:=⟨_,rfl⟩
 rw[hi] at hlt hmi hlen
 obtain⟨m,hm⟩ : ∃ m,n%65536=m:=⟨_,rfl⟩
 rw[hm] at hand hmi
 have hm0:0≤m:=by omega
 have hm1:m<65536:=by omega
 have HX:Hid (qdv[i]? = some qdv[i]):=hid (List.getElem?_eq_getElem hlen)
 have HM:Hid (qdv[i]∈qdv):=hid (List.getElem_mem hlen)
 generalize qdv[i]=S at HX HM
 have hmi2:m%17=(i:Int):=hmi.symm
 have hii:(i:Int)<17:=by omega
 have HV:=hid hv
 obtain⟨A,c,hvv,hlc,hcm,hcell⟩:=hv.ex
 unfold maxLen at hcm
 have HC:=hid hcell
 clear hv hT hi hm hlen hmi hcell
 subst hvv
 go_enter Tryz.func6,Tryz.ntmps6
 go_wp2_with fail
 (with_reducible refine HL.out.mono ?_)
 rintro e w1⟨b,rfl,hS,rfl⟩
 cases b with
 |true =>
  go_wp2_with fail
  (with_reducible refine(HK.out _ (Below.refl _ _)).mono ?_)
  rintro e w2⟨rfl,b2⟩
  go_wp2
  go_ret
  exact⟨rfl,b2⟩
 |false =>
 have HE:=hid (hS rfl)
 clear hS
 by_cases h0:l.length=0
 ·have e0:((l.length:Int)==0)=true:=by rw[beq_iff_eq];omega
  go_wp2_with fail
  (with_reducible refine(HK.out _ (Below.refl _ _)).mono ?_)
  rintro e w2⟨rfl,b2⟩
  go_wp2
  go_ret
  exact⟨rfl,b2⟩
 have e0:((l.length:Int)==0)=false:=by rw[beq_eq_false_iff_ne];omega
 by_cases h4:4<l.length
 ·have e4:(4:Int)<(l.length:Int):=by omega
  go_wp2_with fail
  (with_reducible refine(HK.out _ (Below.refl _ _)).mono ?_)
  rintro e w2⟨rfl,b2⟩
  go_wp2
  go_ret
  exact⟨rfl,b2⟩
 have e4 : ¬ (4:Int)<(l.length:Int):=by omega
 by_cases h1:100<more.size
 ·have e1:(100:Int)<(more.size:Int):=by omega
  go_wp2_with fail
  (with_reducible refine(HK.out _ (Below.refl _ _)).mono ?_)
  rintro e w2⟨rfl,b2⟩
  go_wp2
  go_ret
  exact⟨rfl,b2⟩
 have e1 : ¬ (100:Int)<(more.size:Int):=by omega
 obtain⟨g,o,rfl,hg,hcl⟩:=HC.out (by omega)
 have c0:=hcl 0 (raw l 0) (by rw[qbm (by omega)];exact List.getElem?_eq_getElem (by omega))
 rw[Nat.add_zero] at c0
 have HC0:=hid c0
 have hlp:(0:Int)<(l.length:Int):=by omega
 clear hcl
 obtain⟨a0,ha0⟩ : ∃ a0,raw l 0=a0:=⟨_,rfl⟩
 rw[ha0] at c0 HC0
 by_cases h2:200<a0.size
 ·have e2:(200:Int)<(a0.size:Int):=by omega
  go_wp2_with fail
  (with_reducible refine(HK.out _ (Below.refl _ _)).mono ?_)
  rintro e w2⟨rfl,b2⟩
  go_wp2
  go_ret
  exact⟨rfl,b2⟩
 have e2 : ¬ (200:Int)<(a0.size:Int):=by omega
 have hne:l≠[]:=fun e=>h0 (by rw[e];rfl)
 obtain⟨k,y,hy,hyn⟩:=qo7 HM.out
 have HWc:=hid (qxj hy hne (by omega) more)
 have HOw:Hid (Ord (qgc l more)):=hid (q0u hne (by omega) HE.out.sz (by rw[ha0];omega) (by omega))
 have HOl:Hid (Ord l):=hid ⟨by omega,HE.out.sz⟩
 obtain⟨r,hr⟩ : ∃ r,qai k y.ps l=r:=⟨_,rfl⟩
 rw[hr] at HWc
 have HC1:=hid (fun(W:World) (u:Value) (hu:Rd W W.heap.size u l) (hW:Below w.heap.size w W)=>qgd k y hy u l W hu HOl.out (HTb.out W hW))
 have HC2:=hid (fun(W:World) (u:Value) (hu:Rd W W.heap.size u (qgc l more)) (hW:Below w.heap.size w W)=>qgd k y hy u (qgc l more) W hu HOw.out (HTb.out W hW))
 rw[hyn,hr] at HC1
 rw[hyn,HWc.out] at HC2
 unfold qbc at HC1 HC2
 have heq:(r.s.toList==r.s.toList)=true:=by simp
 have hee:(r.e==r.e)=true:=by simp
 have HA0:=hid ha0
 clear hy hyn hr HWc ha0 HE HC HTb
 go_wp2_with fail
 refine(qfk _).mono ?_
 rintro e w2⟨gn,rfl,hR5,b2⟩
 have cn:=qzv hR5 i S HX.out
 have B2:=hid b2
 have V2:=hid (HV.out.up b2)
 have C2:=hid ((b2.cell (p:=⟨g,o,none⟩) hg).trans HC0.out)
 have hg2:g<w2.heap.size:=Nat.lt_of_lt_of_le hg b2.size
 clear b2 hR5 c0 HX
 go_wp2_with fail
 refine qnw Bl (Below.refl _ _) [48,49,50,51,52,53,54,55] [48,49,50,51,52,53,54,55,56,9] [(1,.slice (some ⟨g,o,none⟩) l.length c)] (FT (.slice (some ⟨g,o,none⟩) l.length c) g o a0 l w2.heap.size) (by kernel_rfl) (n:=8) (by kernel_rfl) (by kernel_rfl) (xdu (by intro p hp;simp only[List.mem_cons,List.not_mem_nil,or_false] at hp;rcases hp with rfl;rfl)) ?_
 intro l0 ds hl0 hds hTb
 have HL0:=hid hl0;have HDS:=hid hds;clear hl0 hds
 have hd2:w2.drew.heap.size=w2.heap.size:=rfl
 refine⟨?_,?_⟩
 ·intro i hi S a w' hI hd
  have c3:w'.cell? ⟨g,o,none⟩=some (.string a0):=(hI.bl.cell (p:=⟨g,o,none⟩) hg2).trans C2.out
  have V3:=V2.out.up ((Below.refl _ w2).drew.trans (Below.mono hI.bl (Nat.le_refl _)))
  match i,hi with
  | 0,_=>exact qaa hI hTb Bl.tr FT.st 0 48 rfl rfl rfl rfl (q2t rfl (hI.lt.eval 1 rfl)) (Below.refl _ _) rfl
  | 1,_=>exact qaa hI hTb Bl.tr FT.st 1 49 rfl rfl rfl rfl (xcn rfl rfl (hI.known 0 48 (hd 0 (by kernel_rfl)) rfl) (by omega)) (Below.refl _ _) rfl
  | 2,_=>exact qaa hI hTb Bl.tr FT.st 2 50 rfl rfl rfl rfl (xei rfl (hI.known 1 49 (hd 1 (by kernel_rfl)) rfl) c3) (Below.refl _ _) rfl
  | 3,_=>exact qaa hI hTb Bl.tr FT.st 3 51 rfl rfl rfl rfl (xck rfl rfl (hI.known 2 50 (hd 2 (by kernel_rfl)) rfl) (by have e:(⟨#[32,10]⟩:BA).size=2:=rfl;omega)) (Below.refl _ _) rfl
  | 4,_=>exact qaa hI hTb Bl.tr FT.st 4 52 rfl rfl rfl rfl (xcl rfl rfl (hI.known 3 51 (hd 3 (by kernel_rfl)) rfl) (by have e:(⟨#[32,10]⟩:BA).size=2:=rfl;have e2:(⟨#[9,32]⟩:BA).size=2:=rfl;rw[ByteArray.size_append];omega)) (Below.refl _ _) rfl
  | 5,_=>exact qaa hI hTb Bl.tr FT.st 5 53 rfl rfl rfl rfl (xeh rfl (hI.known 4 52 (hd 4 (by kernel_rfl)) rfl)) (qbx _ _) ⟨_,rfl,hI.bl.size,heap_alloc_new _ _⟩
  | 6,_=>exact qaa hI hTb Bl.tr FT.st 6 54 rfl rfl rfl rfl (q2t rfl (hI.lt.eval 1 rfl)) (Below.refl _ _) rfl
  | 7,_=>exact qaa hI hTb Bl.tr FT.st 7 55 rfl rfl rfl rfl (xco rfl rfl (hI.known 6 54 (hd 6 (by kernel_rfl)) rfl) (by omega) hlc) (Below.refl _ _) (xd1 V3 (by omega))
  |(n+8),h=>exact absurd h (by omega)
 ·intro a w' hL hb hk9
  obtain⟨bb,k5,kb,kh⟩:=hk9 5 53 (by decide) rfl
  have k7:Rd w' w'.heap.size (a.tmps.getD 55 undef) (l.drop 1):=hk9 7 55 (by decide) rfl
  obtain⟨u7,hu7⟩ : ∃ u7,a.tmps.getD 55 undef=u7:=⟨_,rfl⟩
  rw[hu7] at k7
  have b9:Below w2.heap.size w2 w':=((Below.refl _ w2).drew).trans (Below.mono hb (Nat.le_refl _))
  have hn:l0.length=89:=by rw[HL0.out];rfl
  obtain⟨v9,w9,r9,o9,q9⟩:=qml w' 22 (.slice (some ⟨bb,0,none⟩) 1 1) u7 [wd0 a0] (l.drop 1) w2.heap.size (qh9.of_block kh kb) k7 (by simp) (by rw[List.length_drop];omega) b9.size
  refine qlb 8 56 rfl rfl rfl (by kernel_rfl) (xeg (.tmp 53) (.tmp 55) _ rfl k5 hu7 r9) ?_
  have hL2:=hL.put 56 v9 (by decide) (by omega)
  refine qlb 9 9 rfl rfl rfl (by kernel_rfl) (xcm (v:=v9) rfl (hL2.eval 56 rfl)) ?_
  refine wpAny_done (by kernel_rfl) ?_ _
  have hL3:=hL2.put 9 v9 (by decide) (by omega)
  rw[←HA0.out,xch] at o9
  have R9:Hid (Below w2.heap.size w2 w9∧qh9 w9 w2.heap.size v9 (wl l 0)):=hid ⟨b9.trans q9,o9⟩
  generalize(a.put (some 56) v9).put (some 9) v9=a2 at hL3 ⊢
  obtain⟨u,rfl,hu⟩:=hL3.lit
  have hu9:u 9=v9:=hu 9 v9 rfl
  rw[HL0.out,HDS.out]
  simp only[qfz,List.set_cons_zero,List.set_cons_succ]
  rw[hu9]
  clear hk9 k5 kb kh k7 hu7 hL hL2 hL3 hTb hn HL0 HDS r9 o9 q9 b9 hb hu hu9 HV HC0 C2 hg hd2 hmi2 hand hm0 hm1 hii hlt cn
  go_wp2_with fail
  go_loopw [9] (fun wv wr => ∃ j:Nat,l.length+j≤4∧Hid (Below w2.heap.size w2 wr∧qh9 wr w2.heap.size wv (wl l j))) (fun wv _=>4-xev wv)
  case atStart=>exact⟨0,by omega,R9⟩
  case round =>
   obtain⟨j,hj,HS⟩:=hrel
   obtain⟨A9,c9,hv9,hc9,hm9⟩:=HS.out.2.form
   rw[qrl hne] at hv9 hc9
   subst hv9
   by_cases hlt4:l.length+j<4
   ·have hki:((l.length+j:Nat):Int)<4:=by omega
    have bn:=qbx wr (.cells #[.string ⟨#[]⟩] 9)
    obtain⟨v',w',r1,o1,q1⟩:=qml (wr.alloc (.cells #[.string ⟨#[]⟩] 9)) 22 (.slice A9 (l.length+j) c9) (.slice (some ⟨wr.heap.size,0,none⟩) 1 1) (wl l j) [em] w2.heap.size (HS.out.2.below bn) (Rd.new [em] rfl (by decide)) (by rw[qrl hne];omega) (by decide) (Nat.le_trans HS.out.1.size bn.size)
    rw[q8g] at o1
    have R1:=hid r1
    have O1:Hid (Below w2.heap.size w2 w'∧qh9 w' w2.heap.size v' (wl l (j+1))):=hid ⟨HS.out.1.trans ((bn.mono HS.out.1.size).trans q1),o1⟩
    obtain⟨A1,c1,hv1,_⟩:=o1.form
    have hl1:xev v'=l.length+(j+1):=by rw[hv1];exact qrl hne (j+1)
    clear r1 o1 q1 bn HS hv1
    go_wp2_with (at_builtin;refine qhv rfl (.tmp 60) (.tmp 61) _ rfl rfl rfl R1.out ?_)
    go_roundw
    case rel=>exact⟨j+1,by omega,O1⟩
    case measure=>rw[hl1];show 4-(l.length+(j+1))<4-(l.length+j);omega
   ·have hki : ¬ ((l.length+j:Nat):Int)<4:=by omega
    have HJ4:Hid (l.length+j=4):=hid (by omega)
    have hWB:Below w.heap.size w wr:=B2.out.trans (HS.out.1.mono B2.out.size)
    have HW:=hid hWB
    have HK1:=hid (HC1.out wr _ (V2.out.up HS.out.1) hWB)
    have HOwn:=hid HS.out.2
    have HWL:=hid (qrl hne j)
    have HSB:=hid HS.out.1
    clear hWB HS HC1
    go_wp2_with fail
    (with_reducible refine HK1.out.mono ?_)
    rintro e w5⟨rfl,b5⟩
    have bn:=qbx w5 (.cells #[.string more] 9)
    obtain⟨v',w',r1,o1,q1⟩:=qml (w5.alloc (.cells #[.string more] 9)) 22 (.slice A9 (l.length+j) c9) (.slice (some ⟨w5.heap.size,0,none⟩) 1 1) (wl l j) [more] w2.heap.size ((HOwn.out.below b5).below bn) (Rd.new [more] rfl (by show 1≤100000;omega)) (by rw[HWL.out];omega) (by show 1≤1000;omega) (Nat.le_trans HSB.out.size (Nat.le_trans b5.size bn.size))
    rw[q8f HJ4.out] at o1
    have R1:=hid r1
    have hB6:Below w2.heap.size w2 w':=HSB.out.trans ((b5.mono HSB.out.size).trans ((bn.mono (Nat.le_trans HSB.out.size b5.size)).trans q1))
    have hB7:Below w.heap.size w w':=B2.out.trans (hB6.mono B2.out.size)
    have HB7:=hid hB7
    have HK2:=hid (HC2.out w' v' o1.rd hB7)
    clear r1 o1 q1 bn b5 hB6 hB7 HK1 HOwn HC2
    go_wp2_with (at_builtin;refine qhv rfl (.tmp 71) (.tmp 73) _ rfl rfl rfl R1.out ?_)
    (with_reducible refine HK2.out.mono ?_)
    rintro e w6⟨rfl,b6⟩
    have B6:=hid (HB7.out.trans (b6.mono HB7.out.size))
    clear b6
    go_wp2_with fail
    (with_reducible refine(HK.out _ B6.out).mono ?_)
    rintro e w7⟨rfl,b7⟩
    have B7:=hid (B6.out.trans (b7.mono B6.out.size))
    clear b7
    go_wp2
    go_ret
    exact⟨rfl,B7.out⟩
end Go.Proofs.YtldkgbnmaefaaaaGreatDoor.Fu
