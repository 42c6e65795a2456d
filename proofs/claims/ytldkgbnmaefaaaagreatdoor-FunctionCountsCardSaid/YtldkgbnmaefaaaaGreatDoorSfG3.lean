import Derived.Test.YtldkgbnmaefaaaaGreatDoorSfG2
import Derived.Lib.DecodeN
import Derived.Test.YtldkgbnmaefaaaaGreatDoorSfG1
import Derived.Test.YtldkgbnmaefaaaaGreatDoorShelf2
import Derived.Laws.OwnMore
import Derived.Laws.AppendOwn
import Derived.Laws.Rows
import Derived.Maps.AppendAt
import Derived.OwnWalk
set_option maxRecDepth 100000
set_option maxHeartbeats 4000000
open Go.Lib (hid)
namespace Go.Proofs.YtldkgbnmaefaaaaGreatDoor.Sf
theorem xdb{s:ByteArray}{k:Nat}(h:k<rc s):ag s k<ag s (k+1):=by
 have h':k<(sts s).length:=h
 by_cases h1:k+1<(sts s).length
 ·rw[qgi h',qgi h1]
  exact List.pairwise_iff_getElem.1 (qh6 s 0) k (k+1) h' h1 (by omega)
 ·rw[qd6 (i:=k+1) (by unfold rc;omega),qgi h']
  exact(qgw s 0 _ (List.getElem_mem h')).2
def rn(s:ByteArray)(k:Nat):ByteArray:=s.extract (ag s k) (ag s (k+1))
theorem xbq{s:ByteArray}{k:Nat}(h:k<rc s):1≤(rn s k).data.toList.length:=by
 unfold rn
 rw[qop (qez s _)]
 have:=xdb h
 omega
theorem qws(s:ByteArray)(n:Nat):(sl s 0 n).data.toList++(rn s n).data.toList=(sl s 0 (n+1)).data.toList:=by
 unfold sl rn
 rw[Nat.zero_add,Nat.zero_add,qla,qlj (Nat.zero_le _) (qk8 s (Nat.le_succ n))]
theorem qt9(s:ByteArray):(s.extract 0 s.size).data.toList=s.data.toList:=by rw[qif];rfl
theorem xbu(s:ByteArray):(sl s 0 (rc s)).data.toList=s.data.toList:=by
 unfold sl
 rw[qla,Nat.zero_add,qd6 (Nat.le_refl _),qt9]
theorem qpp(s:ByteArray):(sl s 0 0).data.toList=[]:=by
 unfold sl
 rw[Nat.zero_add,qla,ext_list];simp
def rep(a:Nat)(l:List UInt8):List UInt8:=(List.replicate a l).flatten
theorem qme(a:Nat)(l:List UInt8):rep (a+1) l=rep a l++l:=by
 unfold rep;rw[List.replicate_succ',List.flatten_append];simp
theorem q6o(a:Nat)(l:List UInt8):(rep a l).length=a*l.length:=by
 induction a with
 |zero=>simp[rep]
 |succ a ih=>rw[qme,List.length_append,ih,Nat.succ_mul]
def pdl(s:ByteArray)(n:Nat):List UInt8:=rep (n / rc s) s.data.toList++(sl s 0 (n%rc s)).data.toList
theorem qir(s:ByteArray):pdl s 0=[]:=by
 unfold pdl
 rw[Nat.zero_div,Nat.zero_mod,qpp];rfl
theorem ql1{s:ByteArray}(h:0<rc s)(n:Nat):pdl s (n+1)=pdl s n++(rn s (n%rc s)).data.toList:=by
 unfold pdl
 have hm:=Nat.mod_lt n h
 have hd:=Nat.div_add_mod n (rc s)
 by_cases h1:n%rc s+1=rc s
 ·have e:n+1=rc s*(n / rc s+1):=by rw[Nat.mul_add,Nat.mul_one];omega
  have e1:(n+1) / rc s=n / rc s+1:=by rw[e];exact Nat.mul_div_cancel_left _ h
  have e2:(n+1)%rc s=0:=by rw[e];exact Nat.mul_mod_right _ _
  rw[e1,e2,qpp,List.append_nil,qme,List.append_assoc,qws,h1,xbu]
 ·have e:n+1=(n%rc s+1)+rc s*(n / rc s):=by omega
  have e1:(n+1) / rc s=n / rc s:=by
   rw[e,Nat.add_mul_div_left _ _ h,Nat.div_eq_of_lt (by omega)]
   omega
  have e2:(n+1)%rc s=n%rc s+1:=by
   rw[e,Nat.add_mul_mod_self_left,Nat.mod_eq_of_lt (by omega)]
  rw[e1,e2,List.append_assoc,qws]
theorem qzl{s:ByteArray}(h:0<rc s){n m:Nat}(hnm:n≤m):(pdl s n).length≤(pdl s m).length:=by
 induction m with
 |zero=>rw[Nat.le_zero.1 hnm];exact Nat.le_refl _
 |succ m ih =>
  by_cases h1:n=m+1
  ·rw[h1];exact Nat.le_refl _
  ·rw[ql1 h,List.length_append];have:=ih (by omega);omega
theorem xbc{s:ByteArray}(h:0<rc s)(n:Nat):n≤(pdl s n).length:=by
 induction n with
 |zero=>exact Nat.zero_le _
 |succ n ih =>
  rw[ql1 h,List.length_append]
  have:=xbq (Nat.mod_lt n h)
  omega
theorem qvs(s:ByteArray)(n:Nat):(pdl s n).length=n / rc s*s.size+(sl s 0 (n%rc s)).size:=by
 unfold pdl
 rw[List.length_append,q6o,qag,qag]
theorem qq5{s:ByteArray}(h:s.size≠0):0<rc s:=by
 unfold rc sts
 rw[qbb (by omega)];simp
def lack(s f:ByteArray)(n:Int):Nat:=if f.size=0 then 0 else (max n (rc s)-rc s).toNat
theorem qbh(a b:ByteArray):(a++b).data.toList=a.data.toList++b.data.toList:=by rw[ByteArray.data_append,Array.toList_append]
theorem within(a b c:ByteArray):qdr (a++b++c) b a.size=true:=by
 rw[qen (by simp[ByteArray.size_append];omega)]
 refine⟨by simp[ByteArray.size_append],qb4 ?_⟩
 rw[ext_list,qbh,qbh,Nat.add_sub_cancel_left,←qag a,←qag b,List.append_assoc,List.drop_left,List.take_left]
theorem q5n{s t:ByteArray}(ht:t.size=0):occ s t=[]:=qvd ht _ _
end Go.Proofs.YtldkgbnmaefaaaaGreatDoor.Sf
namespace Go.Proofs.YtldkgbnmaefaaaaGreatDoor.Sf
open Go.RowKit
set_option linter.unusedVariables false
theorem qsm(l:List UInt8)(q:Nat):Lib.repeatL l q=rep q l:=by
 induction q with
 |zero=>rfl
 |succ q ih=>rw[qme,Lib.repeatL_add,ih,Lib.repeatL_one]
def qfy(s f:ByteArray)(n:Int):ByteArray:=⟨(pdl f (lack s f n)).toArray⟩
def qbk(s f:ByteArray)(n:Int):Prop:=32768<s.size+(pdl f (lack s f n)).length
instance (s f:ByteArray) (n:Int):Decidable (qbk s f n):=inferInstanceAs (Decidable (_<_))
def xcw(s f:ByteArray)(n:Int):ByteArray:=if qbk s f n then⟨#[]⟩ else qfy s f n
def qio(s f:ByteArray)(n:Int):Int:=if qbk s f n then 3 else 0
theorem qjr(f:ByteArray)(r:Nat):slice f 0 (r:Int)=sl f 0 r:=by
 unfold slice slF slN
 simp only[show ¬ ((0:Int)<0) from by omega,show ¬ ((r:Int)<0) from by omega,if_false,Int.toNat_natCast]
 rfl
theorem qby{P:Program}{C:World→Prop}{a:Act}{l:List Oper}{id:Nat}{R:Exit→Act→World→Prop}{w:World}(hm:P.follows .mixedOrders=true)(hB:Region.lexB .any l.toArray=true)(hC:C w.drew)
  (h:wpQuiet P l.toArray C (fun a' => ∀ w',C w'→R .normal a' w') l a):(Code.region id l.toArray true).wp P R a w :=
 wp_region_quiet (C:=C) hm hB hC (by simpa using h)
theorem bnx{w W W':World}(h:Below w.heap.size w W)(k:Below W.heap.size W W'):Below w.heap.size w W':=h.trans (k.mono h.size)
def Ws(w:World) := { W:World // Below w.heap.size w W }
theorem qit(s:ByteArray)(f n:Int)(hs:s.size≤4294967281)(hf:I64 f)(hn:I64 n){w:World}(x:Ws w) :
  Calls Tryz.prog 109 #[.string s,.int .i64 f,.int .i64 n] x.1 fun e w''=>e=.returned (.string (slice s f n)) ∧ ∃ y:Ws w,w''=y.1 :=
 (qm6 s f n x.1 hs hf hn).mono fun e w' ⟨he,hb⟩=>⟨he,⟨w',x.2.trans (hb.mono x.2.size)⟩,rfl⟩
theorem qjg(s f:ByteArray)(n:Int)(w:World)(hs:s.size≤1048576)(hf:f.size≤1048576)(hn:I64 n) :
  Calls Tryz.prog 114 #[.string s,.int .i64 n,.string f] w fun e w'=>e=.returned (.tuple #[.string (xcw s f n),.int .i64 (qio s f n)])∧Below w.heap.size w w':=by
 obtain⟨hn1,hn2⟩:=hn
 have hrs:=qer s
 have hrf:=qer f
 have hs2:s.size≤4294967281:=by omega
 have hf2:f.size≤4294967281:=by omega
 have HS:Hid (xcw s f n=if qbk s f n then⟨#[]⟩ else qfy s f n):=hid rfl
 have HE:Hid (qio s f n=if qbk s f n then 3 else 0):=hid rfl
 obtain⟨k0,hk0⟩ : ∃ k0:Nat,(max n (rc s:Int)-(rc s:Int)).toNat=k0:=⟨_,rfl⟩
 obtain⟨M,hM⟩ : ∃ M:Int,(rc s:Int)+(k0:Int)=M:=⟨_,rfl⟩
 have hmx:max n (rc s:Int)=M:=by omega
 have hMb:M≤9223372036854775807:=by omega
 have hsub:M-(rc s:Int)=(k0:Int):=by omega
 clear hM
 obtain⟨k,hk⟩ : ∃ k,lack s f n=k:=⟨_,rfl⟩
 have hkk:k=if f.size=0 then 0 else k0:=by rw[←hk,←hk0];rfl
 have hbig:qbk s f n↔32768<s.size+(pdl f k).length:=by unfold qbk;rw[hk]
 have hpb:qfy s f n=⟨(pdl f k).toArray⟩:=by unfold qfy;rw[hk]
 clear hk hk0
 by_cases hfe:f.size=0
 ·have hemp:f.toList.isEmpty=true:=by
   rw[Lib.toList_data];cases hl:f.data.toList with
   |nil=>rfl
   |cons a l=>rw[←qag,hl] at hfe;cases hfe
  rw[if_pos hfe] at hkk
  subst hkk
  have hr0:rc f=0:=by omega
  have hmx1:max 1 (rc f:Int)=1:=by omega
  have hI0:I64 0:=⟨by omega,by omega⟩
  have hIr:=hI0
  have hpl0:pdl f 0=[]:=qir f
  obtain⟨rest,hrest⟩ : ∃ rest,slice f 0 0=rest:=⟨_,rfl⟩
  have hre:rest=⟨#[]⟩:=by
   rw[←hrest];exact(qjr f 0).trans (qb4 (qpp f))
  have HRS:=hid hrest
  rw[hre] at HRS
  clear hrest hre
  rw[hpl0] at hbig hpb
  have HC:Hid ((⟨#[]⟩:ByteArray)=qfy s f n):=hid hpb.symm
  have ne : ∀ w:World,Nonempty (Ws w):=fun w=>⟨⟨w,Below.refl _ w⟩⟩
  by_cases hb3:qbk s f n
  ·rw[if_pos hb3] at HS HE
   rw[hbig] at hb3
   have hb4:32768<s.size:=hb3
   have hd2:decide ((32768:Int)<(s.size:Int))=true:=decide_eq_true (by omega)
   clear hbig hpb hb3
   go_enter Tryz.func114,Tryz.ntmps114
   go_wp2_with fail
   refine(qa1 s _ hs2).mono ?_
   rintro e w1⟨rfl,hb1⟩
   go_wp2_with fail
   refine(qa1 s _ hs2).mono ?_
   rintro e w2⟨rfl,hb2'⟩
   go_wp2_with fail
   refine(qa1 f _ hf2).mono ?_
   rintro e w3⟨rfl,hb3'⟩
   go_wp2
   have ne3:=ne w3
   refine qby (C:=fun W => ∃ x:Ws w3,W=x.1) (by kernel_rfl) (by kernel_rfl) ⟨⟨_,(Below.refl _ w3).drew⟩,rfl⟩ ?_
   repeat (go_big_quiet_step ((first | (go_at_call 109;with_reducible exact qit f 0 0 hf2 hI0 hIr _))))
   refine wpQuiet_nil ?_
   intro w' hw'
   obtain⟨x,rfl⟩:=hw'
   rw[HRS.out]
   have hx:=bnx (bnx (bnx hb1 hb2') hb3') x.2
   go_wp2
   go_ret2
   exact⟨by rw[HS.out,HE.out];rfl,hx⟩
  ·rw[if_neg hb3] at HS HE
   rw[hbig] at hb3
   have hb4 : ¬ 32768<s.size:=hb3
   have hd2:decide ((32768:Int)<(s.size:Int))=false:=decide_eq_false (by omega)
   clear hbig hpb hb3
   go_enter Tryz.func114,Tryz.ntmps114
   go_wp2_with fail
   refine(qa1 s _ hs2).mono ?_
   rintro e w1⟨rfl,hb1⟩
   go_wp2_with fail
   refine(qa1 s _ hs2).mono ?_
   rintro e w2⟨rfl,hb2'⟩
   go_wp2_with fail
   refine(qa1 f _ hf2).mono ?_
   rintro e w3⟨rfl,hb3'⟩
   go_wp2
   have ne3:=ne w3
   refine qby (C:=fun W => ∃ x:Ws w3,W=x.1) (by kernel_rfl) (by kernel_rfl) ⟨⟨_,(Below.refl _ w3).drew⟩,rfl⟩ ?_
   repeat (go_big_quiet_step ((first | (go_at_call 109;with_reducible exact qit f 0 0 hf2 hI0 hIr _))))
   refine wpQuiet_nil ?_
   intro w' hw'
   obtain⟨x,rfl⟩:=hw'
   rw[HRS.out]
   have hx:=bnx (bnx (bnx hb1 hb2') hb3') x.2
   go_wp2_with fail
   refine(Tryz.strings_Repeat f 0 _ (by omega) (by rw[Nat.mul_comm];omega)).mono ?_
   rintro e w4⟨rfl,hb4⟩
   go_wp2
   go_ret2
   exact⟨by rw[HS.out,HE.out,←HC.out];rfl,bnx hx hb4⟩
 ·have hemp:=qhz hfe
  rw[if_neg hfe] at hkk
  subst hkk
  have hrp:=qq5 hfe
  have hpl:=qvs f k
  have hge:=xbc hrp k
  by_cases hk3:32768<k
  ·have hb2:qbk s f n:=by rw[hbig];omega
   rw[if_pos hb2] at HS HE
   have hd:decide ((32768:Int)<(k:Int))=true:=decide_eq_true (by omega)
   clear hbig hpb hpl
   go_enter Tryz.func114,Tryz.ntmps114
   go_wp2_with fail
   refine(qa1 s _ hs2).mono ?_
   rintro e w1⟨rfl,hb1⟩
   go_wp2_with fail
   refine(qa1 s _ hs2).mono ?_
   rintro e w2⟨rfl,hb2'⟩
   go_wp2
   go_ret2
   exact⟨by rw[HS.out,HE.out];rfl,hb1.trans (hb2'.mono hb1.size)⟩
  ·have hd:decide ((32768:Int)<(k:Int))=false:=decide_eq_false (by omega)
   obtain⟨q,hq⟩ : ∃ q,k / rc f=q:=⟨_,rfl⟩
   obtain⟨r,hr⟩ : ∃ r,k%rc f=r:=⟨_,rfl⟩
   have hqk:q≤k:=by rw[←hq];exact Nat.div_le_self _ _
   have hrk:r<rc f:=by rw[←hr];exact Nat.mod_lt _ hrp
   have hmx1:max 1 (rc f:Int)=(rc f:Int):=by omega
   have hdv:(k:Int).tdiv (rc f:Int)=(q:Int):=by rw[←hq];rfl
   have hmd:(k:Int).tmod (rc f:Int)=(r:Int):=by rw[←hr];rfl
   have hnz : ¬ ((rc f:Int)=0):=by omega
   rw[hq,hr] at hpl
   have HR:=hid (qjr f r)
   obtain⟨rest,hrest⟩ : ∃ rest,slice f 0 (r:Int)=rest:=⟨_,rfl⟩
   rw[←HR.out,hrest] at hpl
   have hrs3:rest.size≤f.size:=by
    rw[←hrest,HR.out];unfold sl;rw[ByteArray.size_extract];have:=qez f (0+r);omega
   obtain⟨P,hP⟩ : ∃ P,q*f.size=P:=⟨_,rfl⟩
   have hPb:P≤34359738368:=by
    rw[←hP]
    have:q*f.size≤32768*1048576:=Nat.mul_le_mul (by omega) hf
    omega
   have hPi:(q:Int)*(f.size:Int)=(P:Int):=by rw[←hP];exact(Int.natCast_mul _ _).symm
   rw[hP] at hpl
   have hI0:I64 0:=⟨by omega,by omega⟩
   have hIr:I64 (r:Int):=⟨by omega,by omega⟩
   have HC:Hid ((⟨(Lib.repeatL f.data.toList q).toArray⟩:ByteArray)++rest=qfy s f n):=hid (by
    rw[hpb];apply qb4
    rw[qbh,qsm,←hrest,HR.out,←hq,←hr];rfl)
   have ne : ∀ w:World,Nonempty (Ws w):=fun w=>⟨⟨w,Below.refl _ w⟩⟩
   have HRS:=hid hrest
   have hrsz:(⟨(Lib.repeatL f.data.toList q).toArray⟩:ByteArray).size=P:=by
    rw[←qag]
    show(Lib.repeatL f.data.toList q).length=P
    rw[Lib.repeatL_length,qag,hP]
   clear hrest
   by_cases hb3:qbk s f n
   ·rw[if_pos hb3] at HS HE
    rw[hbig] at hb3
    have hd2:decide ((32768:Int)<(s.size:Int)+(P:Int)+(rest.size:Int))=true:=decide_eq_true (by omega)
    clear hbig hpb hb3
    go_enter Tryz.func114,Tryz.ntmps114
    go_wp2_with fail
    refine(qa1 s _ hs2).mono ?_
    rintro e w1⟨rfl,hb1⟩
    go_wp2_with fail
    refine(qa1 s _ hs2).mono ?_
    rintro e w2⟨rfl,hb2'⟩
    go_wp2_with fail
    refine(qa1 f _ hf2).mono ?_
    rintro e w3⟨rfl,hb3'⟩
    go_wp2
    have ne3:=ne w3
    refine qby (C:=fun W => ∃ x:Ws w3,W=x.1) (by kernel_rfl) (by kernel_rfl) ⟨⟨_,(Below.refl _ w3).drew⟩,rfl⟩ ?_
    repeat (go_big_quiet_step ((first | (go_at_call 109;with_reducible exact qit f 0 r hf2 hI0 hIr _))))
    refine wpQuiet_nil ?_
    intro w' hw'
    obtain⟨x,rfl⟩:=hw'
    rw[HRS.out]
    have hx:=bnx (bnx (bnx hb1 hb2') hb3') x.2
    go_wp2
    go_ret2
    exact⟨by rw[HS.out,HE.out];rfl,hx⟩
   ·rw[if_neg hb3] at HS HE
    rw[hbig] at hb3
    have hd2:decide ((32768:Int)<(s.size:Int)+(P:Int)+(rest.size:Int))=false:=decide_eq_false (by omega)
    have hcat:(⟨(Lib.repeatL f.data.toList q).toArray⟩:ByteArray).size+rest.size≤32768:=by omega
    clear hbig hpb hb3
    go_enter Tryz.func114,Tryz.ntmps114
    go_wp2_with fail
    refine(qa1 s _ hs2).mono ?_
    rintro e w1⟨rfl,hb1⟩
    go_wp2_with fail
    refine(qa1 s _ hs2).mono ?_
    rintro e w2⟨rfl,hb2'⟩
    go_wp2_with fail
    refine(qa1 f _ hf2).mono ?_
    rintro e w3⟨rfl,hb3'⟩
    go_wp2
    have ne3:=ne w3
    refine qby (C:=fun W => ∃ x:Ws w3,W=x.1) (by kernel_rfl) (by kernel_rfl) ⟨⟨_,(Below.refl _ w3).drew⟩,rfl⟩ ?_
    repeat (go_big_quiet_step ((first | (go_at_call 109;with_reducible exact qit f 0 r hf2 hI0 hIr _))))
    refine wpQuiet_nil ?_
    intro w' hw'
    obtain⟨x,rfl⟩:=hw'
    rw[HRS.out]
    have hx:=bnx (bnx (bnx hb1 hb2') hb3') x.2
    go_wp2_with fail
    refine(Tryz.strings_Repeat f q _ (by omega) (by rw[Nat.mul_comm];omega)).mono ?_
    rintro e w4⟨rfl,hb4⟩
    go_wp2
    go_ret2
    exact⟨by rw[HS.out,HE.out,←HC.out];rfl,bnx hx hb4⟩
def pL(s f:ByteArray)(n:Int):ByteArray:=if qbk s f n then⟨#[]⟩ else qfy s f n++s
def pR(s f:ByteArray)(n:Int):ByteArray:=if qbk s f n then⟨#[]⟩ else s++qfy s f n
theorem qn4(s f:ByteArray)(n:Int)(w:World)(hs:s.size≤1048576)(hf:f.size≤1048576)(hn:I64 n) :
  Calls Tryz.prog 73 #[.string s,.int .i64 n,.string f] w fun e w'=>e=.returned (.tuple #[.string (pL s f n),.int .i64 (qio s f n)])∧Below w.heap.size w w':=by
 have HC:=hid (qjg s f n w hs hf hn)
 by_cases hb:qbk s f n
 ·have HL:Hid (pL s f n=⟨#[]⟩):=hid (if_pos hb)
  have he:qio s f n=3:=if_pos hb
  rw[he] at HC
  go_enter Tryz.func73,Tryz.ntmps73
  go_wp2_with fail
  refine HC.out.mono ?_
  rintro e w1⟨rfl,hb1⟩
  go_wp2
  go_ret2
  exact⟨by rw[HL.out,he];rfl,hb1⟩
 ·have HL:Hid (pL s f n=qfy s f n++s):=hid (if_neg hb)
  have hS:xcw s f n=qfy s f n:=if_neg hb
  have hsz:(qfy s f n).size+s.size≤32768:=by unfold qbk at hb;rw[←qag (qfy s f n)];unfold qfy;show(pdl f (lack s f n)).length+_≤_;omega
  have he:qio s f n=0:=if_neg hb
  rw[he,hS] at HC
  go_enter Tryz.func73,Tryz.ntmps73
  go_wp2_with fail
  refine HC.out.mono ?_
  rintro e w1⟨rfl,hb1⟩
  go_wp2
  go_ret2
  exact⟨by rw[HL.out,he];rfl,hb1⟩
theorem qm1(s f:ByteArray)(n:Int)(w:World)(hs:s.size≤1048576)(hf:f.size≤1048576)(hn:I64 n) :
  Calls Tryz.prog 74 #[.string s,.int .i64 n,.string f] w fun e w'=>e=.returned (.tuple #[.string (pR s f n),.int .i64 (qio s f n)])∧Below w.heap.size w w':=by
 have HC:=hid (qjg s f n w hs hf hn)
 by_cases hb:qbk s f n
 ·have HL:Hid (pR s f n=⟨#[]⟩):=hid (if_pos hb)
  have he:qio s f n=3:=if_pos hb
  rw[he] at HC
  go_enter Tryz.func74,Tryz.ntmps74
  go_wp2_with fail
  refine HC.out.mono ?_
  rintro e w1⟨rfl,hb1⟩
  go_wp2
  go_ret2
  exact⟨by rw[HL.out,he];rfl,hb1⟩
 ·have HL:Hid (pR s f n=s++qfy s f n):=hid (if_neg hb)
  have hS:xcw s f n=qfy s f n:=if_neg hb
  have hsz:(qfy s f n).size+s.size≤32768:=by unfold qbk at hb;rw[←qag (qfy s f n)];unfold qfy;show(pdl f (lack s f n)).length+_≤_;omega
  have he:qio s f n=0:=if_neg hb
  rw[he,hS] at HC
  go_enter Tryz.func74,Tryz.ntmps74
  go_wp2_with fail
  refine HC.out.mono ?_
  rintro e w1⟨rfl,hb1⟩
  go_wp2
  go_ret2
  exact⟨by rw[HL.out,he];rfl,hb1⟩
end Go.Proofs.YtldkgbnmaefaaaaGreatDoor.Sf
namespace Go.Proofs.YtldkgbnmaefaaaaGreatDoor.Sf
open Go.RowKit Go.Shelf
attribute [local go_sem] Oper.semAt_some
set_option linter.unusedVariables false
attribute [local simp] qhd qf1 qp1 qmh
theorem two(w:World)(a b:Value)(ta tb:TypeId) : ∃ W0,(w.alloc (.cells #[a] ta)).alloc (.cells #[b] tb)=W0∧w.heap.size+1<W0.heap.size∧Below w.heap.size w W0 ∧
  W0.cell? ⟨w.heap.size,0,none⟩=some a∧W0.frozen? ⟨w.heap.size,0,none⟩=false∧W0.cell? ⟨w.heap.size+1,0,none⟩=some b∧W0.frozen? ⟨w.heap.size+1,0,none⟩=false:=by
 have n1:=qda w a ta
 have n2:=qda (w.alloc (.cells #[a] ta)) b tb
 rw[World.size_alloc] at n2
 exact⟨_,rfl,by simp,((Below.refl _ w).alloc (Nat.le_refl _) _).alloc (by simp) _,qa3 _ n1.1,qch _ n1.1 n1.2,n2.1,n2.2⟩
theorem qb5{W:World}{p:Addr}{v:Value}(h:W.cell? p=some v):p.block<W.heap.size:=by
 rcases Nat.lt_or_ge p.block W.heap.size with h1 | h1
 ·exact h1
 ·unfold World.cell? at h
  rw[Array.getElem?_eq_none h1] at h
  simp at h
theorem qqz{W V:World}{b:Nat}{v:Value}(hb:Below W.heap.size W V)(h:W.cell? ⟨b,0,none⟩=some v):V.cell? ⟨b,0,none⟩=some v :=
 (hb.cell (p:=⟨b,0,none⟩) (qb5 h)).trans h
theorem qko{W V:World}{b:Nat}{v:Value}(hb:Below W.heap.size W V)(h:W.cell? ⟨b,0,none⟩=some v)(hf:W.frozen? ⟨b,0,none⟩=false):V.frozen? ⟨b,0,none⟩=false :=
 (hb.frozen (p:=⟨b,0,none⟩) (qb5 h)).trans hf
theorem qn0(w:World)(a b:Value)(ta tb:TypeId):((w.alloc (.cells #[a] ta)).alloc (.cells #[b] tb)).cell? ⟨w.heap.size,0,none⟩=some a∧((w.alloc (.cells #[a] ta)).alloc (.cells #[b] tb)).cell? ⟨w.heap.size+1,0,none⟩=some b:=by
 have n1:=qda w a ta
 have n2:=qda (w.alloc (.cells #[a] ta)) b tb
 rw[World.size_alloc] at n2
 exact⟨qa3 _ n1.1,n2.1⟩
theorem xe2{P:Program}{n:Nat}{c:Code}{X:Exit→Act→World→Prop}{a:Act}{w:World}(R:Act→World→Prop)(h:c.wp P (fun e a w=>match e with | .normal=>R a w | _=>False) a w)(k : ∀ a w,R a w→X .normal a w):c.wpIn Fence.wide n P X a w :=
 wpIn_wide.2 (Code.wp_mono (fun e a w hq=>by cases e with | normal=>exact k a w hq | _=>exact hq.elim) h)
def NoK(pre:List Pt)(k:Int):Prop := ∀ x,x∈pre→(x.2:Int)≠k
def xep(s:ByteArray)(pre:List Pt)(k:Int)(W:World)(b:Nat):Prop := ∃ x,x∈pre∧(x.2:Int)=k∧W.cell? ⟨b,0,none⟩=some (.string (cl s x.1))
def kx(s t:ByteArray)(i:Int):Int:=if i<0 then i+(((occ s t).length+1:Nat):Int) else i
theorem qjl{s t:ByteArray}{x:Pt}:x∈prt s t↔(parts s t)[x.2]? = some x.1:=by
 obtain⟨b,i⟩:=x
 unfold prt
 rw[List.mem_zipIdx_iff_getElem?]
theorem qqy{s t:ByteArray}{i:Int}{n:Nat}{b:ByteArray}(h:kx s t i=n)(hb:(parts s t)[n]? = some b):part s t i=b:=by
 unfold part
 show(if kx s t i<0 then ByteArray.empty else (parts s t).getD (kx s t i).toNat ByteArray.empty)=b
 rw[h,if_neg (by omega),Int.toNat_natCast,List.getD,hb];rfl
theorem qvp{s t:ByteArray}{i:Int}(h : ∀ (n:Nat) (b:ByteArray),(parts s t)[n]? = some b→(n:Int)≠kx s t i):part s t i=⟨#[]⟩:=by
 unfold part
 show(if kx s t i<0 then ByteArray.empty else (parts s t).getD (kx s t i).toNat ByteArray.empty)=_
 split
 ·rfl
 ·rename_i h0
  cases hc:(parts s t)[(kx s t i).toNat]? with
  |none=>rw[List.getD,hc];rfl
  |some b=>exact absurd (Int.toNat_of_nonneg (Int.not_lt.1 h0)) (h _ b hc)
theorem q1h{s t b:ByteArray} : ∀ {l:List Nat} {f:Nat},b∈dv s t l f → ∃ a c,b=s.extract a c
 | [],f,h=>⟨_,_,List.mem_singleton.1 h⟩
 |a :: l,f,h=>by
  rcases List.mem_cons.1 h with rfl | h
  ·exact⟨_,_,rfl⟩
  ·exact q1h h
theorem qog{s t b:ByteArray}{n:Nat}(h:(parts s t)[n]? = some b):cl s b=b:=by
 obtain⟨a,c,rfl⟩:=q1h (List.mem_of_getElem? h)
 exact qtz s a c
theorem qxw(s t:ByteArray)(i:Int)(w:World)(hs:s.size≤4294967281)(ht:t.size≤4294967281)(hi:I64 i) :
  Calls Tryz.prog 120 #[.string s,.string t,.int .i64 i] w fun e w'=>e=.returned (.string (part s t i))∧Below w.heap.size w w':=by
 obtain⟨hi1,hi2⟩:=hi
 have hol:=qdi s t
 have hw1:IntKind.i64.wrap (((occ s t).length:Int)+1)=((occ s t).length:Int)+1:=by rw[IntKind.wrap_i64];omega
 have hmx:Tryz.prog.follows .mixedOrders=true:=by kernel_rfl
 obtain⟨W0,hW0,hz,hB0,c0,f0,c1,f1⟩:=two w (.int .i64 i) (.string ⟨#[]⟩) 3 9
 by_cases h:i<0
 all_goals
  first
   |(have hw2:IntKind.i64.wrap (i+(((occ s t).length:Int)+1))=i+(((occ s t).length:Int)+1):=by rw[IntKind.wrap_i64];omega)
   |(have hw2:True:=trivial)
  refine(callsIn_wide (n:=3)).1 ?_
  refine callsIn_of_wp_marks Tryz.func120 rfl trivial ?_ rfl
  simp only[Tryz.ntmps120,List.size_toArray,List.length_cons,List.length_nil,Nat.reduceAdd,Nat.reduceSub,Array.replicate_succ,Array.replicate_zero,List.push_toArray,List.append_toArray,List.nil_append,List.cons_append]
  gi_wp2
  try rw[hW0]
  clear hW0
 ·have HKK:Hid (kx s t i=(i+(((occ s t).length:Int)+1))):=hid (by unfold kx;rw[if_pos h];rfl)
  refine xe2 (fun a' w'=>a' = { tmps := #[.string s,.string t,.int .i64 i,undef,undef,.pointer (some ⟨w.heap.size,0,none⟩),.pointer (some ⟨w.heap.size+1,0,none⟩),undef,undef,.int .i64 i,.bool true,.int .i64 i,.string s,.string t,.int .i64 ((occ s t).length:Int),.int .i64 (((occ s t).length:Int)+1),.int .i64 (i+(((occ s t).length:Int)+1)),undef,undef,undef,undef,undef,undef,undef,undef,undef],defers:=[] } ∧
   w'.cell? ⟨w.heap.size,0,none⟩=some (.int .i64 (i+(((occ s t).length:Int)+1)))∧w'.cell? ⟨w.heap.size+1,0,none⟩=some (.string ⟨#[]⟩)∧w'.frozen? ⟨w.heap.size+1,0,none⟩=false∧Below w.heap.size w w'∧w.heap.size+1<w'.heap.size) ?_ ?_
  ·go_region_with (go_at_call 110;refine(qd4 s t _ hs ht).mono ?_;rintro e V ⟨rfl,hb⟩;have cV:=qqz hb c0;have fV:=qko hb c0 f0)
   all_goals
    refine⟨rfl,World.cell?_setCell_same' _ _ _ (by rw[cV];rfl),?_,?_,?_,?_⟩
    ·rw[World.cell?_setCell_other _ _ _ _ (by simp)];exact qqz hb c1
    ·rw[World.frozen?_setCell];exact qko hb c1 f1
    ·exact((below_drewN hB0 1).trans (hb.mono hB0.size)).setCell (p:=⟨w.heap.size,0,none⟩) (Nat.le_refl _) _
    ·rw[World.size_setCell];exact Nat.lt_of_lt_of_le hz hb.size
  rintro _ W1⟨rfl,p0,p1,p2,hB1,hz1⟩
  gi_wp2
  obtain⟨q3,q4⟩:=qn0 W1 (.string s) (.string t) 9 9
  have q0:=qa3 (.cells #[.string t] 9) (qa3 (.cells #[.string s] 9) p0)
  have q1:=qa3 (.cells #[.string t] 9) (qa3 (.cells #[.string s] 9) p1)
  have q2:=qch (.cells #[.string t] 9) (qa3 (.cells #[.string s] 9) p1) (qch (.cells #[.string s] 9) p1 p2)
  have hsz:((W1.alloc (.cells #[.string s] 9)).alloc (.cells #[.string t] 9)).heap.size=W1.heap.size+2:=by simp
  have hB2:=(hB1.alloc hB1.size (.cells #[.string s] 9)).alloc (by rw[World.size_alloc];have:=hB1.size;omega) (.cells #[.string t] 9)
  clear hw1 hw2
  refine wpIn_rangeFunc_ownF rfl (by omega) (gf:=212) (lb := #[.pointer (some ⟨W1.heap.size,0,none⟩),.pointer (some ⟨W1.heap.size+1,0,none⟩)]) rfl trivial (enters_of Tryz.func212 (by kernel_rfl) rfl)
   (qjm s t W1.heap.size (W1.heap.size+1) _ hs (by omega) q3 ht (by omega) q4) (fun h k=>Kp.t h k) (Kp.b (by omega) (by omega)) (Below.refl _ _) (fun _=>rfl)
   (fun pre W=>((W.cell? ⟨w.heap.size,0,none⟩=some (.int .i64 ((i+(((occ s t).length:Int)+1))))∧W.cell? ⟨w.heap.size+1,0,none⟩=some (.string ⟨#[]⟩)∧W.frozen? ⟨w.heap.size+1,0,none⟩=false)∧NoK pre ((i+(((occ s t).length:Int)+1))))∧Below w.heap.size w W)
   (fun c pre W=>(c=.ret∧xep s pre ((i+(((occ s t).length:Int)+1))) W (w.heap.size+1))∧Below w.heap.size w W)
   (OwnFrom.and (Own.from (fun s A B row hs hg hr=>⟨⟨cell_kept hs.1.1 hg hr,cell_kept hs.1.2.1 hg hr,(frozen_kept hs.1.2.1 hg hr).trans hs.1.2.2⟩,hs.2⟩) _) (ownFrom_below (Nat.le_refl _) (by omega)))
   (fun c=>OwnFrom.and (Own.from (fun s A B row hs hg hr=>⟨hs.1,by obtain⟨x,h1,h2,h3⟩:=hs.2;exact⟨x,h1,h2,cell_kept h3 hg hr⟩⟩) _) (ownFrom_below (Nat.le_refl _) (by omega)))
   ⟨⟨⟨q0,q1,q2⟩,fun x hx=>by cases hx⟩,hB2⟩
   (fun x => { tmps := #[.string s,.string t,.int .i64 i,undef,undef,.pointer (some ⟨w.heap.size,0,none⟩),.pointer (some ⟨w.heap.size+1,0,none⟩),.int .i64 (x.2:Int),.string (cl s x.1),.int .i64 i,.bool true,.int .i64 i,.string s,.string t,.int .i64 ((occ s t).length:Int),.int .i64 (((occ s t).length:Int)+1),.int .i64 (i+(((occ s t).length:Int)+1)),.string s,.string t,.func (.func 212) #[] #[.pointer (some ⟨W1.heap.size,0,none⟩),.pointer (some ⟨W1.heap.size+1,0,none⟩)],.int .i64 (x.2:Int),.string (cl s x.1),undef,undef,undef,undef],defers:=[] }) ?assign ?body ?done ?stop
  case assign =>
   intro l x W K hK
   gi_wp2
   exact hK
  case body =>
   rintro l pre⟨a,j⟩ W⟨⟨⟨d0,d1,g1⟩,hn⟩,hB⟩ hlen
   dsimp only
   by_cases hjk:(j:Int)=(i+(((occ s t).length:Int)+1))
   ·have HJ:=hid hjk
    have hz1:((j:Int)==((i+(((occ s t).length:Int)+1))))=true:=by rw[beq_iff_eq];exact hjk
    clear hjk
    gi_wp2
    refine⟨KeepsOthers.setCell _ _ _,⟨rfl,(a,j),by simp,HJ.out,World.cell?_setCell_same' _ _ _ (by rw[d1];rfl)⟩,hB.setCell (p:=⟨w.heap.size+1,0,none⟩) (by show w.heap.size≤w.heap.size+1;omega) _⟩
   ·have HJ:=hid hjk
    have hz1:((j:Int)==((i+(((occ s t).length:Int)+1))))=false:=by rw[beq_eq_false_iff_ne];exact hjk
    clear hjk
    gi_wp2
    refine⟨KeepsOthers.refl _,⟨(KeepsOthers.refl _).walks,rfl,rfl⟩,⟨⟨d0,d1,g1⟩,fun x hx => ?_⟩,hB⟩
    rcases List.mem_append.1 hx with hx | hx
    ·exact hn x hx
    ·rw[List.mem_singleton.1 hx];exact HJ.out
  case done =>
   rintro D ys W hD hS⟨⟨⟨d0,d1,g1⟩,hn⟩,hB⟩ hK
   have hv:part s t i=⟨#[]⟩:=qvp (fun n b hb=>by rw[HKK.out];exact hn (b,n) (by rw[hS];exact qjl.2 hb))
   have HV:=hid hv
   clear hv
   gi_wp2
   refine⟨by simp,.inl ⟨_,_,rfl,run_takeDeferred (qdg hK),?_⟩⟩
   have hc5:=qdz (qdg (p:=⟨w.heap.size+1,0,none⟩) (v := .string ⟨#[]⟩) hK) (World.cell?_setCell_same W ⟨w.heap.size+1,0,none⟩ (.string ⟨#[]⟩) d1)
   refine⟨.string ⟨#[]⟩,?_,by rw[HV.out],qcr (B:=(W1.alloc (.cells #[.string s] 9)).heap.size) (hB.setCell (p:=⟨w.heap.size+1,0,none⟩) (by show w.heap.size≤w.heap.size+1;omega) _) (by rw[World.size_alloc];rw[World.size_alloc,World.size_alloc] at hD;omega) (by rw[World.size_alloc];have:=hB1.size;omega) (qdg hK)⟩
   simp[results,Tryz.f120,go_sem,hc5]
  case stop =>
   rintro D c pre W hD hSp⟨⟨rfl,HX⟩,hB⟩ hK
   obtain⟨x,hx,hxk,d1⟩:=HX
   have hm:=qjl.1 (hSp.subset hx)
   have hv:part s t i=cl s x.1:=by rw[qqy (n:=x.2) (b:=x.1) (by rw[HKK.out];exact hxk.symm) hm,qog hm]
   have HV:=hid hv
   clear hv
   gi_wp2
   refine⟨by simp,.inl ⟨_,_,rfl,run_takeDeferred hK,?_⟩⟩
   have hc5:=qdz hK d1
   refine⟨.string (cl s x.1),?_,by rw[HV.out],qcr (B:=(W1.alloc (.cells #[.string s] 9)).heap.size) hB (by rw[World.size_alloc];rw[World.size_alloc,World.size_alloc] at hD;omega) (by rw[World.size_alloc];have:=hB1.size;omega) hK⟩
   simp[results,Tryz.f120,go_sem,hc5]
 ·have h' : ¬ i<0:=by omega
  have HKK:Hid (kx s t i=i):=hid (if_neg h')
  have p0:=c0
  have p1:=c1
  have p2:=f1
  have hB1:=hB0
  have hz1:=hz
  obtain⟨q3,q4⟩:=qn0 W0 (.string s) (.string t) 9 9
  have q0:=qa3 (.cells #[.string t] 9) (qa3 (.cells #[.string s] 9) p0)
  have q1:=qa3 (.cells #[.string t] 9) (qa3 (.cells #[.string s] 9) p1)
  have q2:=qch (.cells #[.string t] 9) (qa3 (.cells #[.string s] 9) p1) (qch (.cells #[.string s] 9) p1 p2)
  have hsz:((W0.alloc (.cells #[.string s] 9)).alloc (.cells #[.string t] 9)).heap.size=W0.heap.size+2:=by simp
  have hB2:=(hB1.alloc hB1.size (.cells #[.string s] 9)).alloc (by rw[World.size_alloc];have:=hB1.size;omega) (.cells #[.string t] 9)
  clear hw1 hw2
  refine wpIn_rangeFunc_ownF rfl (by omega) (gf:=212) (lb := #[.pointer (some ⟨W0.heap.size,0,none⟩),.pointer (some ⟨W0.heap.size+1,0,none⟩)]) rfl trivial (enters_of Tryz.func212 (by kernel_rfl) rfl)
   (qjm s t W0.heap.size (W0.heap.size+1) _ hs (by omega) q3 ht (by omega) q4) (fun h k=>Kp.t h k) (Kp.b (by omega) (by omega)) (Below.refl _ _) (fun _=>rfl)
   (fun pre W=>((W.cell? ⟨w.heap.size,0,none⟩=some (.int .i64 (i))∧W.cell? ⟨w.heap.size+1,0,none⟩=some (.string ⟨#[]⟩)∧W.frozen? ⟨w.heap.size+1,0,none⟩=false)∧NoK pre (i))∧Below w.heap.size w W)
   (fun c pre W=>(c=.ret∧xep s pre (i) W (w.heap.size+1))∧Below w.heap.size w W)
   (OwnFrom.and (Own.from (fun s A B row hs hg hr=>⟨⟨cell_kept hs.1.1 hg hr,cell_kept hs.1.2.1 hg hr,(frozen_kept hs.1.2.1 hg hr).trans hs.1.2.2⟩,hs.2⟩) _) (ownFrom_below (Nat.le_refl _) (by omega)))
   (fun c=>OwnFrom.and (Own.from (fun s A B row hs hg hr=>⟨hs.1,by obtain⟨x,h1,h2,h3⟩:=hs.2;exact⟨x,h1,h2,cell_kept h3 hg hr⟩⟩) _) (ownFrom_below (Nat.le_refl _) (by omega)))
   ⟨⟨⟨q0,q1,q2⟩,fun x hx=>by cases hx⟩,hB2⟩
   (fun x => { tmps := #[.string s,.string t,.int .i64 i,undef,undef,.pointer (some ⟨w.heap.size,0,none⟩),.pointer (some ⟨w.heap.size+1,0,none⟩),.int .i64 (x.2:Int),.string (cl s x.1),.int .i64 i,.bool false,undef,undef,undef,undef,undef,undef,.string s,.string t,.func (.func 212) #[] #[.pointer (some ⟨W0.heap.size,0,none⟩),.pointer (some ⟨W0.heap.size+1,0,none⟩)],.int .i64 (x.2:Int),.string (cl s x.1),undef,undef,undef,undef],defers:=[] }) ?assign ?body ?done ?stop
  case assign =>
   intro l x W K hK
   gi_wp2
   exact hK
  case body =>
   rintro l pre⟨a,j⟩ W⟨⟨⟨d0,d1,g1⟩,hn⟩,hB⟩ hlen
   dsimp only
   by_cases hjk:(j:Int)=i
   ·have HJ:=hid hjk
    have hz1:((j:Int)==(i))=true:=by rw[beq_iff_eq];exact hjk
    clear hjk
    gi_wp2
    refine⟨KeepsOthers.setCell _ _ _,⟨rfl,(a,j),by simp,HJ.out,World.cell?_setCell_same' _ _ _ (by rw[d1];rfl)⟩,hB.setCell (p:=⟨w.heap.size+1,0,none⟩) (by show w.heap.size≤w.heap.size+1;omega) _⟩
   ·have HJ:=hid hjk
    have hz1:((j:Int)==(i))=false:=by rw[beq_eq_false_iff_ne];exact hjk
    clear hjk
    gi_wp2
    refine⟨KeepsOthers.refl _,⟨(KeepsOthers.refl _).walks,rfl,rfl⟩,⟨⟨d0,d1,g1⟩,fun x hx => ?_⟩,hB⟩
    rcases List.mem_append.1 hx with hx | hx
    ·exact hn x hx
    ·rw[List.mem_singleton.1 hx];exact HJ.out
  case done =>
   rintro D ys W hD hS⟨⟨⟨d0,d1,g1⟩,hn⟩,hB⟩ hK
   have hv:part s t i=⟨#[]⟩:=qvp (fun n b hb=>by rw[HKK.out];exact hn (b,n) (by rw[hS];exact qjl.2 hb))
   have HV:=hid hv
   clear hv
   gi_wp2
   refine⟨by simp,.inl ⟨_,_,rfl,run_takeDeferred (qdg hK),?_⟩⟩
   have hc5:=qdz (qdg (p:=⟨w.heap.size+1,0,none⟩) (v := .string ⟨#[]⟩) hK) (World.cell?_setCell_same W ⟨w.heap.size+1,0,none⟩ (.string ⟨#[]⟩) d1)
   refine⟨.string ⟨#[]⟩,?_,by rw[HV.out],qcr (B:=(W0.alloc (.cells #[.string s] 9)).heap.size) (hB.setCell (p:=⟨w.heap.size+1,0,none⟩) (by show w.heap.size≤w.heap.size+1;omega) _) (by rw[World.size_alloc];rw[World.size_alloc,World.size_alloc] at hD;omega) (by rw[World.size_alloc];have:=hB1.size;omega) (qdg hK)⟩
   simp[results,Tryz.f120,go_sem,hc5]
  case stop =>
   rintro D c pre W hD hSp⟨⟨rfl,HX⟩,hB⟩ hK
   obtain⟨x,hx,hxk,d1⟩:=HX
   have hm:=qjl.1 (hSp.subset hx)
   have hv:part s t i=cl s x.1:=by rw[qqy (n:=x.2) (b:=x.1) (by rw[HKK.out];exact hxk.symm) hm,qog hm]
   have HV:=hid hv
   clear hv
   gi_wp2
   refine⟨by simp,.inl ⟨_,_,rfl,run_takeDeferred hK,?_⟩⟩
   have hc5:=qdz hK d1
   refine⟨.string (cl s x.1),?_,by rw[HV.out],qcr (B:=(W0.alloc (.cells #[.string s] 9)).heap.size) hB (by rw[World.size_alloc];rw[World.size_alloc,World.size_alloc] at hD;omega) (by rw[World.size_alloc];have:=hB1.size;omega) hK⟩
   simp[results,Tryz.f120,go_sem,hc5]
end Go.Proofs.YtldkgbnmaefaaaaGreatDoor.Sf
namespace Go.Proofs.YtldkgbnmaefaaaaGreatDoor.Sf
set_option linter.unusedVariables false
theorem qe0(s:ByteArray):(al s).length=rc s+1:=by simp[al,rc]
theorem q9u(s:ByteArray){i:Nat}(h:i≤rc s):(al s)[i]? = some (ag s i):=by
 unfold al
 by_cases h1:i<(sts s).length
 ·rw[List.getElem?_append_left h1,List.getElem?_eq_getElem h1,qgi h1]
 ·have h2:i-(sts s).length=0:=by unfold rc at h;omega
  rw[List.getElem?_append_right (by omega),h2,qd6 (by unfold rc;omega)];rfl
theorem q4h(s:ByteArray){i:Nat}(h:i≤rc s):(al s).drop i=ag s i :: (al s).drop (i+1):=by
 have hl:i<(al s).length:=by rw[qe0];omega
 rw[List.drop_eq_getElem_cons hl]
 congr 1
 have:=q9u s h
 rw[List.getElem?_eq_getElem hl] at this
 exact Option.some.inj this
theorem q4i(s:ByteArray):(al s).drop (rc s+1)=[]:=List.drop_eq_nil_of_le (by rw[qe0];exact Nat.le_refl _)
theorem qwv{s:ByteArray}{f n:Int}{F:Nat}(hF:slF s f=F)(hn : ¬ n<0):slice s f n=s.extract (ag s F) (ag s (F+min n.toNat (rc s-F))):=by
 unfold slice slN sl
 rw[hF,if_neg hn]
 rcases Nat.le_total n.toNat (rc s-F) with h | h
 ·rw[Nat.min_eq_left h]
 ·rw[Nat.min_eq_right h,qd6 (s:=s) (i:=F+n.toNat) (by omega),qd6 (s:=s) (i:=F+(rc s-F)) (by omega)]
theorem qwt{s:ByteArray}{f n:Int}{F:Nat}(hF:slF s f=F)(hn:n<0):slice s f n=s.extract (ag s F) (ag s (F+slN s F n)):=by
 unfold slice sl
 rw[hF]
theorem qwu{s:ByteArray}{f n:Int}{F:Nat}(hF:slF s f=F)(h:rc s<F):slice s f n=⟨#[]⟩:=by
 unfold slice sl
 rw[hF,qd6 (s:=s) (i:=F) (by omega),qd6 (s:=s) (i:=F+_) (by omega)]
 apply qb4
 rw[ext_list,Nat.sub_self,List.take_zero]
theorem qve(s t:ByteArray){i e:Nat}(h:i≤rc s):oc s t ((al s).drop i) e=if (t.size≠0∧e≤ag s i)∧qdr s t (ag s i)=true then ag s i :: oc s t ((al s).drop (i+1)) (ag s i+t.size) else oc s t ((al s).drop (i+1)) e:=by
 rw[q4h s h,oc]
theorem q5m(s t:ByteArray)(e:Nat):oc s t ((al s).drop (rc s+1)) e=[]:=by rw[q4i];rfl
theorem qpj{s t u:ByteArray}{l:List Nat}{i f:Nat}(h:i<l.length):rl s t u (l.drop i) f=(s.extract f l[i]).data.toList++(u.data.toList++rl s t u (l.drop (i+1)) (l[i]+t.size)):=by
 rw[List.drop_eq_getElem_cons h];rfl
theorem qpk{s t u:ByteArray}{l:List Nat}{f:Nat}:rl s t u (l.drop l.length) f=(s.extract f s.size).data.toList:=by
 rw[List.drop_length];rfl
theorem q4t{s t:ByteArray}{l:List Nat}{i f:Nat}(h:i<l.length):dv s t (l.drop i) f=s.extract f l[i] :: dv s t (l.drop (i+1)) (l[i]+t.size):=by
 rw[List.drop_eq_getElem_cons h];rfl
theorem q4u{s t:ByteArray}{l:List Nat}{f:Nat}:dv s t (l.drop l.length) f=[s.extract f s.size]:=by
 rw[List.drop_length];rfl
end Go.Proofs.YtldkgbnmaefaaaaGreatDoor.Sf
namespace Go.Proofs.YtldkgbnmaefaaaaGreatDoor.Sf
open Go.RowKit Go.Shelf
set_option linter.unusedVariables false
theorem qfq:(Tryz.prog.info? 9).map (fun i=>(i.zero,i.size,i.bytes))=some (some (.string ⟨#[]⟩),1,16):=by kernel_rfl
theorem quq:(Tryz.prog.info? 3).map (fun i=>(i.zero,i.size,i.bytes))=some (some (.int .i64 0),1,8):=by kernel_rfl
theorem info_parts{x:Option TypeInfo}{z:Option Value}{s b:Nat}(h:x.map (fun i=>(i.zero,i.size,i.bytes))=some (z,s,b)) : ∃ i,x=some i∧i.zero=z∧i.size=s∧i.bytes=b:=by
 cases x with
 |none=>cases h
 |some i=>simp at h;exact⟨i,rfl,h.1,h.2.1,h.2.2⟩
theorem qfb(w:World)(u:Value)(t:TypeId) : ∀ j x,[u][j]? = some x→(w.alloc (.cells #[u] t)).cell? ((⟨w.heap.size,0,none⟩:Addr).add j)=some x:=fun j x hj=>by
 cases j with
 |zero =>
  simp at hj;subst hj
  simp[Addr.add]
 |succ j=>simp at hj
theorem qbl{w:World}{base:Nat}{t:TypeId}{size:Nat}{v:Value}{n:Nat}{xs:List Value}(h:w.ownsRow base t size v n xs) : ∃ A c,v=.slice A n c:=by
 rcases h.2 with⟨rfl,rfl⟩ | ⟨g,cap,cur,rfl,_⟩
 ·exact⟨_,_,rfl⟩
 ·exact⟨_,_,rfl⟩
theorem own_below{w w':World}{base:Nat}{e:TypeId}{size:Nat}{v:Value}{n:Nat}{xs:List Value}(h:w.ownsRow base e size v n xs)(hb:Below w.heap.size w w'):w'.ownsRow base e size v n xs:=by
 obtain⟨h1,h2⟩:=h
 refine⟨h1,?_⟩
 rcases h2 with h | ⟨g,cap,cur,hv,h3,h4,h5⟩
 ·exact .inl h
 ·exact .inr ⟨g,cap,cur,hv,h3,(hb.block g (Array.getElem?_eq_some_iff.1 h4).1).trans h4,h5⟩
def ints(l:List Nat):List Value:=l.map fun(a:Nat) => .int .i64 (a:Int)
def strs(l:List ByteArray):List Value:=l.map .string
structure RV {α : Type} (f : α → Value) (w:World) (A:Option Addr) (c:Nat) (l:List α):Prop where
 le:l.length≤c
 mx:c≤9223372036854775807
 at_ : ∀ i (h:i<l.length),∃ g,A=some ⟨g,0,none⟩∧g<w.heap.size∧w.cell? ⟨g,i,none⟩=some (f l[i])
abbrev RI:=RV (fun a:Nat=>Value.int .i64 (a:Int))
abbrev RS:=RV Value.string
theorem RV.keep{α : Type}{f : α → Value}{w w':World}{A:Option Addr}{c:Nat}{l:List α}(h:RV f w A c l)(hb:Below w.heap.size w w'):RV f w' A c l :=
 ⟨h.le,h.mx,fun i hi=>by
  obtain⟨g,h1,h2,h3⟩:=h.at_ i hi
  exact⟨g,h1,Nat.lt_of_lt_of_le h2 hb.size,(World.cell?_of_block (a:=⟨g,i,none⟩) (hb.block g h2)).trans h3⟩⟩
theorem RV.take{α : Type}{f : α → Value}{w:World}{A:Option Addr}{c:Nat}{l:List α}(h:RV f w A c l)(m:Nat):RV f w A c (l.take m) :=
 ⟨by have:=h.le;simp;omega,h.mx,fun i hi=>by
  have h1:i<l.length:=by simp at hi;omega
  obtain⟨g,h2,h3,h4⟩:=h.at_ i h1
  exact⟨g,h2,h3,by rw[h4,List.getElem_take]⟩⟩
theorem q1w{α : Type}{f : α → Value}{w:World}{base:Nat}{t:TypeId}{v:Value}{l:List α}(h:w.ownsRow base t 1 v l.length (l.map f)) : ∃ A c,v=.slice A l.length c∧RV f w A c l:=by
 obtain⟨h1,h2⟩:=h
 rcases h2 with⟨rfl,h0⟩ | ⟨g,cap,cur,rfl,h3,h4,h5,h6,h7,h8⟩
 ·exact⟨none,0,by rw[h0],by omega,by omega,fun i hi=>by omega⟩
 ·refine⟨some ⟨g,0,none⟩,cap,rfl,h5,by simpa [maxLen] using h6,fun i hi=>⟨g,rfl,(Array.getElem?_eq_some_iff.1 h4).1,?_⟩⟩
  rw[cell_of_row w g i cur t (0,0) h4]
  have:(cur.toList.take (l.length*1))[i]? = (l.map f)[i]? := by rw[h8]
  rw[List.getElem?_take,if_pos (by omega),List.getElem?_map,List.getElem?_eq_getElem hi,Option.map_some] at this
  simpa using this
theorem qi9(l:List Nat)(a:Nat):ints (l++[a])=ints l++[.int .i64 (a:Int)]:=by simp[ints]
theorem qnx(l:List ByteArray)(a:ByteArray):strs (l++[a])=strs l++[.string a]:=by simp[strs]
end Go.Proofs.YtldkgbnmaefaaaaGreatDoor.Sf
namespace Go.Proofs.YtldkgbnmaefaaaaGreatDoor.Sf
open Go.RowKit Go.Shelf
set_option linter.unusedVariables false
theorem below_iterAt{w W:World}(h:Below w.heap.size w W)(s:ByteArray)(pos:Nat):Below w.heap.size w (W.iterAt w.heap.size s pos) :=
 ⟨h.os,h.tape,h.output,by show w.heap.size≤(W.heap.setIfInBounds _ _).size;rw[Array.size_setIfInBounds];exact h.size,fun k hk=>by
  show(W.heap.setIfInBounds w.heap.size (.stringIter s pos))[k]? = _
  rw[Array.getElem?_setIfInBounds_ne (by omega)];exact h.block k hk⟩
def Pre(s:ByteArray)(p:Nat)(l:List Nat):Prop:=sts s=l++qcx s p
theorem qzp{s:ByteArray}{p:Nat}{l:List Nat}(h:Pre s p l)(hp:p<s.size):Pre s (p+wd s p) (l++[p]):=by
 unfold Pre at h ⊢
 rw[h,qbb hp,List.append_assoc];rfl
theorem q6b{s:ByteArray}{p:Nat}{l:List Nat}(h:Pre s p l)(hp : ¬ p<s.size):al s=l++[s.size]:=by
 unfold al
 unfold Pre at h
 rw[h,qb7 hp,List.append_nil]
theorem q6c{s:ByteArray}{p:Nat}{l:List Nat}(h:Pre s p l):l.length≤s.size:=by
 have h1:=qer s
 unfold Pre at h
 unfold rc at h1
 rw[h,List.length_append] at h1;omega
def St(w:World)(s:ByteArray)(e:Ending)(w':World):Prop := ∃ v,e=.returned v∧w'.ownsRow w.heap.size 3 1 v (al s).length (ints (al s))∧Below w.heap.size w w'
theorem qso(s:ByteArray)(w:World)(hs:s.size≤4294967281):Calls Tryz.prog 41 #[.string s] w (St w s):=by
 obtain⟨i0,hi,hz0,hz1,hz2⟩:=info_parts quq
 have hbk : ∀ n:Nat,n≤4294967300→n*8≤140737488355328:=fun n h=>by omega
 have HBK:=hid hbk;clear hbk
 go_enter Tryz.func41,Tryz.ntmps41
 go_wp2_with fail
 go_loopw [3] (fun v wr => ∃ (p:Nat) (l:List Nat),Hid (wr.heap[w.heap.size]? = some (.stringIter s p))∧Hid (Pre s p l)∧Hid (Below w.heap.size w wr)∧Hid (wr.ownsRow (w.heap.size+1) 3 1 v l.length (ints l)))
  (fun _ wr=>s.size-wr.iterPos w.heap.size)
 case atStart=>exact⟨0,[],hid (World.iter_heap w s 0),hid rfl,hid ((Below.refl _ w).alloc (Nat.le_refl _) _),hid (World.ownsRow_nil _ _ _ _)⟩
 case round =>
  obtain⟨p,l,HT,HP,HB,HO⟩:=hrel
  have HQ:=hid (iterPos_of HT.out)
  obtain⟨VA,VC,hv⟩:=qbl HO.out
  subst hv
  have hll:=q6c HP.out
  have hWr:w.heap.size<wr.heap.size:=(Array.getElem?_eq_some_iff.1 HT.out).1
  by_cases hlt:p<s.size
  ·have hnx:=fun ty=>Lib.run_next_any_at (P:=Tryz.prog) wr w.heap.size s p ty HT.out hlt
   have hwp:=qh7 hlt
   have hdd:(Utf8.decode s p).2=wd s p:=rfl
   rw[hdd] at hnx
   obtain⟨W2,hW2⟩ : ∃ W2,wr.iterAt w.heap.size s (p+wd s p)=W2:=⟨_,rfl⟩
   have HT2:=hid (Lib.iterAt_heap wr w.heap.size s p (p+wd s p) HT.out)
   have HB2:=hid (below_iterAt HB.out s (p+wd s p))
   have HO2:=hid (HO.out.kept (qe5 wr w.heap.size s (p+wd s p)) (.inr (fun e=>by
    have:=HO.out.lt w.heap.size e;omega)))
   have hsz2:wr.heap.size≤W2.heap.size:=by rw[←hW2,Lib.iterAt_size];exact Nat.le_refl _
   have HP2:=hid (qzp HP.out hlt)
   rw[hW2] at hnx HT2 HB2 HO2
   clear hW2 hdd
   generalize(Utf8.decode s p).1=cc at hnx
   go_wp2_with (at_builtin;refine wpList_append_own _ rfl _ _ 32 rfl (w.heap.size+1) 3 i0 (.int .i64 0) 1 8 Tryz.underlying32 hi hz0 hz1 hz2 rfl (by decide) _ _ _ rfl (HO2.out.alloc _) ⟨W2.heap.size,0,none⟩ 1 1 [.int .i64 (p:Int)] rfl rfl (qfb _ _ _) (by simp[Value.oneCell']) (by unfold maxLen;omega) (HBK.out _ (by omega)) (by simp;omega) ?_)
   intro v' w3 hown' hgrow _
   have HT3:Hid (w3.heap[w.heap.size]? = some (.stringIter s (p+wd s p))):=hid (by
    rw[hgrow.block w.heap.size (by simp;omega) (fun e=>by
     have:=HO2.out.lt w.heap.size e.symm;omega)]
    exact(Below.heap_alloc _ _ _ (by omega)).trans HT2.out)
   have hb3:Below w.heap.size w w3:=(HB2.out.alloc (by omega) _).grown hgrow (by simp;omega) (fun k e=>by have:=(HO2.out.lt k e).1;omega)
   have HB3:=hid hb3
   have HO3:Hid (w3.ownsRow (w.heap.size+1) 3 1 v' (l++[p]).length (ints (l++[p]))):=hid (by
    rw[qi9,List.length_append];exact hown')
   obtain⟨VA2,VC2,hv2⟩:=qbl hown'
   subst hv2
   clear hown' hgrow hb3
   go_wp2_with fail
   go_roundw
   case rel=>exact⟨p+wd s p,l++[p],HT3,HP2,HB3,HO3⟩
   case measure=>rw[iterPos_of HT3.out,HQ.out];omega
  ·have hnx:=fun ty=>Lib.run_next_end_at (P:=Tryz.prog) wr w.heap.size s p ty HT.out hlt
   have HE:=hid (q6b HP.out hlt)
   go_wp2_with (at_builtin;refine wpList_append_own _ rfl _ _ 32 rfl (w.heap.size+1) 3 i0 (.int .i64 0) 1 8 Tryz.underlying32 hi hz0 hz1 hz2 rfl (by decide) _ _ _ rfl (HO.out.alloc _) ⟨wr.heap.size,0,none⟩ 1 1 [.int .i64 (s.size:Int)] rfl rfl (qfb _ _ _) (by simp[Value.oneCell']) (by unfold maxLen;omega) (HBK.out _ (by omega)) (by simp;omega) ?_)
   intro v' w3 hown' hgrow _
   have hb3:Below w.heap.size w w3:=(HB.out.alloc (by omega) _).grown hgrow (by simp;omega) (fun k e=>by have:=(HO.out.lt k e).1;omega)
   have HB3:=hid hb3
   have HO3:Hid (w3.ownsRow w.heap.size 3 1 v' (al s).length (ints (al s))):=hid (by
    rw[HE.out,qi9,List.length_append]
    obtain⟨q1,q2⟩:=hown'
    refine⟨q1,?_⟩
    rcases q2 with q | ⟨g,cap,cur,c1,c2,c3⟩
    ·exact .inl q
    ·exact .inr ⟨g,cap,cur,c1,by omega,c3⟩)
   obtain⟨VA2,VC2,hv2⟩:=qbl hown'
   subst hv2
   clear hown' hgrow hb3
   go_wp2_with fail
   go_ret
   exact⟨_,rfl,HO3.out,HB3.out⟩
end Go.Proofs.YtldkgbnmaefaaaaGreatDoor.Sf
