import Derived.Test.YtldkgbnmaefaaaaGreatDoorCaG3
import Derived.Laws.RangeString
import Derived.Test.YtldkgbnmaefaaaaGreatDoorCaG2
import Derived.Test.YtldkgbnmaefaaaaGreatDoorCaH1
import Derived.Laws.StructEq
import Derived.Deep.RegionWith
import Derived.Deep.Cut
import Derived.Deep.CutRange
set_option maxRecDepth 100000
set_option maxHeartbeats 4000000
open Go.Lib (hid)
namespace Go.Proofs.YtldkgbnmaefaaaaGreatDoor.Ca
open Go.RowKit
set_option linter.unusedVariables false
set_option linter.unusedSimpArgs false
theorem qt5(a:Int)(l m:List UInt8):dvf a (l++m)=dvf (dvf a l) m:=by unfold dvf;rw[List.foldl_append]
theorem qqo{b:UInt8}(h:isD b=true):48≤b.toNat∧b.toNat≤57:=by unfold isD at h;rwa [decide_eq_true_iff] at h
theorem xan : ∀ (l:List UInt8) (a:Int),0≤a→(∀ c∈l,isD c=true)→0≤dvf a l∧dvf a l<(a+1)*10^l.length
 | [],a,h,_=>by simp[dvf];omega
 |c :: l,a,h,hl=>by
  have hc:=qqo (hl c (by simp))
  have ih:=xan l (10*a+((c.toNat:Int)-48)) (by omega) (fun x hx=>hl x (by simp[hx]))
  have e:dvf a (c :: l)=dvf (10*a+((c.toNat:Int)-48)) l:=rfl
  rw[e,List.length_cons]
  refine⟨ih.1,Int.lt_of_lt_of_le ih.2 ?_⟩
  have hp:(0:Int)≤10^l.length:=Int.pow_nonneg (by decide)
  have e2:(10:Int)^(l.length+1)=10*10^l.length:=by rw[Int.pow_succ,Int.mul_comm]
  rw[e2,←Int.mul_assoc]
  exact Int.mul_le_mul_of_nonneg_right (by omega) hp
theorem qcb{l:List UInt8}(h : ∀ c∈l,isD c=true)(hl:l.length≤4):0≤dv l∧dv l<10000:=by
 have:=xan l 0 (by omega) h
 have h1:l.length=0∨l.length=1∨l.length=2∨l.length=3∨l.length=4:=by omega
 unfold dv
 rcases h1 with e | e | e | e | e<;>rw[e] at this<;>omega
theorem qw1(s:ByteArray)(k:Nat)(h:k<s.size):s.data.toList.take (k+1)=s.data.toList.take k++[s[k]]:=by
 rw[List.take_succ_eq_append_getElem (by simpa using h)];rfl
theorem qei(s:ByteArray)(w:World)(hs:s.size≤4)(hd : ∀ c∈s.data.toList,isD c=true) :
  Calls Tryz.prog 186 #[.string s] w fun e w'=>e=.returned (.int .i64 (dv s.data.toList))∧w.iter s s.size=w':=by
 have HD:=hid hd
 clear hd
 go_enter Tryz.func186,Tryz.ntmps186
 go_wp2
 go_loopw [3] (fun n w' => ∃ pos:Nat,w'=w.iter s pos∧pos≤s.size∧n=.int .i64 (dv (s.data.toList.take pos))) (fun _ w'=>s.size-w'.iterPos w.heap.size)
 case atStart=>exact⟨0,rfl,Nat.zero_le _,rfl⟩
 case round =>
  obtain⟨pos,rfl,hp,rfl⟩:=hrel
  have hlen:s.data.toList.length=s.size:=by simp
  have hb:=qcb (l:=s.data.toList.take pos) (fun c hc=>HD.out c (List.mem_of_mem_take hc)) (by rw[List.length_take];omega)
  clear hlen
  by_cases hlt:pos<s.size
  ·have hc:=qqo (HD.out s[pos] (by simp[ByteArray.getElem_eq_getElem_data]))
   obtain⟨b1,b2⟩:=hc
   have hts:=qw1 s pos hlt
   have HS:Hid (dv (s.data.toList.take (pos+1))=10*dv (s.data.toList.take pos)+((s[pos].toNat:Int)-48)):=hid (by rw[hts];unfold dv;rw[qt5];rfl)
   have hnx : ∀ ty,(Instr.next (.pointer (some ⟨w.heap.size,0,none⟩)) true ty).run Tryz.prog (w.iter s pos)=_:=fun ty=>run_next_ascii w s pos ty hlt (by omega)
   clear hts
   go_wp2
   go_roundw
   case rel=>exact⟨pos+1,rfl,by omega,by rw[HS.out]⟩
   case measure=>simp;omega
  ·obtain rfl:pos=s.size:=by omega
   have hnx : ∀ ty,(Instr.next (.pointer (some ⟨w.heap.size,0,none⟩)) true ty).run Tryz.prog (w.iter s s.size)=_:=fun ty=>run_next_end w s s.size ty (by omega)
   have HT:Hid (s.data.toList.take s.size=s.data.toList):=hid (List.take_of_length_le (by simp))
   go_wp2
   go_ret
   exact⟨by rw[HT.out];rfl,rfl⟩
def gb(l:List UInt8)(i:Nat):UInt8:=l.getD i 0
theorem qd7 : ∀ (a l:List UInt8),l.length≤a.length→(allFit a l=true ↔ ∀ i:Nat,i<l.length→fits (gb a i) (gb l i)=true)
 |a,[],_=>by cases a<;>simp[allFit]
 | [],b :: l,h=>by simp at h
 |x :: a,b :: l,h=>by
  have ih:=qd7 a l (by simpa using h)
  unfold allFit
  rw[Bool.and_eq_true,ih]
  constructor
  ·rintro⟨h0,h1⟩ i hj
   cases i with
   |zero=>exact h0
   |succ i=>exact h1 i (by simpa using hj)
  ·intro hh
   exact⟨hh 0 (by simp),fun i hj=>hh (i+1) (by simpa using hj)⟩
theorem q5h(k:Nat)(h:k<16):(⟨#[48,48,48,48,45,48,48,45,48,48,32,48,48,58,48,48]⟩:ByteArray)[k]'h=gb qin k:=by
 match k,h with
 | 0,_ | 1,_ | 2,_ | 3,_ | 4,_ | 5,_ | 6,_ | 7,_ | 8,_ | 9,_ | 10,_ | 11,_ | 12,_ | 13,_ | 14,_ | 15,_=>rfl
 |n+16,h=>omega
theorem qzb(k:Nat)(h:k<16):gb qin k=48∨gb qin k=45∨gb qin k=32∨gb qin k=58:=by
 match k,h with
 | 0,_ | 1,_ | 2,_ | 3,_ | 5,_ | 6,_ | 8,_ | 9,_ | 11,_ | 12,_ | 14,_ | 15,_=>exact .inl rfl
 | 4,_ | 7,_=>exact .inr (.inl rfl)
 | 10,_=>exact .inr (.inr (.inl rfl))
 | 13,_=>exact .inr (.inr (.inr rfl))
 |n+16,h=>omega
theorem qaq(s:ByteArray)(k:Nat)(h:k<s.size):gb s.data.toList k=s[k]:=by
 unfold gb;rw[List.getD_eq_getElem?_getD,List.getElem?_eq_getElem (by simpa using h)];simp[ByteArray.getElem_eq_getElem_data]
theorem qax{b c:UInt8}(h:b=c):((b.toNat:Int)==(c.toNat:Int))=true∧((b.toNat:Int) != (c.toNat:Int))=false:=by subst h;simp
theorem qg8{b c:UInt8}(h:b≠c):((b.toNat:Int)==(c.toNat:Int))=false∧((b.toNat:Int) != (c.toNat:Int))=true:=by have:=qci h;simp[bne,this]
theorem qoz(s:ByteArray)(w:World)(hsz:s.size≤1000) :
  Calls Tryz.prog 185 #[.string s] w fun e w'=>e=.returned (.bool (form s.data.toList))∧Below w.heap.size w w':=by
 have hsl:s.data.toList.length=s.size:=by simp
 by_cases h10:s.size=10∨s.size=16
 ·have hF:form s.data.toList=allFit qin s.data.toList:=by unfold form;rw[hsl];rcases h10 with e | e<;>rw[e]<;>rfl
  have HF:=hid hF
  have hle:s.size≤16:=by omega
  have HI:=hid (qd7 qin s.data.toList (by rw[hsl];exact hle))
  have h0:((s.size:Int) != 10&&(s.size:Int) != 16)=false:=by rcases h10 with e | e<;>rw[e]<;>rfl
  clear hF hsl
  rcases h10 with e | e
  all_goals
   have g1:(s.size:Int)=10∨(s.size:Int)=16:=by omega
   have n1:((s.size:Int) != 10)=decide (s.size≠10):=by rw[e];rfl
   have n2:((s.size:Int) != 16)=decide (s.size≠16):=by rw[e];rfl
   rw[e] at n1 n2
   simp only[ne_eq,Nat.reduceEqDiff,not_true_eq_false,not_false_eq_true,decide_true,decide_false] at n1 n2
   go_enter Tryz.func185,Tryz.ntmps185
   go_wp2
   go_loopw [15] (fun n wr => ∃ (k nq:Nat),n=.int .i64 k∧k≤s.size∧Hid (∀ i:Nat,i<k→fits (gb qin i) (gb s.data.toList i)=true)∧Hid (wr=w.drewN nq)) (fun n _=>s.size-(intOf n).toNat)
   case atStart=>exact⟨0,0,rfl,Nat.zero_le _,hid (fun i h=>by omega),hid rfl⟩
   case round =>
    obtain⟨k,nk,rfl,hk,HL,HW⟩:=hrel
    by_cases hlt:k<s.size
    ·have h16:k<16:=by omega
     have hk10:(k:Int)<s.size:=by omega
     rw[e] at hk10
     have hk16:(k:Int)<16:=by omega
     have hsk:=qaq s k hlt
     have hLk:(⟨#[48,48,48,48,45,48,48,45,48,48,32,48,48,58,48,48]⟩:ByteArray)[k]'h16=gb qin k:=q5h k h16
     have hlS:k<s.data.toList.length:=by simpa using hlt
     by_cases hz:gb qin k=48
     ·have hz2:(⟨#[48,48,48,48,45,48,48,45,48,48,32,48,48,58,48,48]⟩:ByteArray)[k]'h16=48:=hLk.trans hz
      have z1:((((⟨#[48,48,48,48,45,48,48,45,48,48,32,48,48,58,48,48]⟩:ByteArray)[k]'h16).toNat:Int)==48)=true:=(qax hz2).1
      have z2:((((⟨#[48,48,48,48,45,48,48,45,48,48,32,48,48,58,48,48]⟩:ByteArray)[k]'h16).toNat:Int) != 48)=false:=(qax hz2).2
      by_cases hdg:isD s[k]=true
      ·obtain⟨b1,b2⟩:=qqo hdg
       have HFIT:Hid (fits (gb qin k) (gb s.data.toList k)=true):=hid (by rw[hsk,hz];unfold fits;rw[if_pos rfl];exact hdg)
       have i1:(48:Int)≤(s[k].toNat:Int):=by omega
       have i2:(s[k].toNat:Int)≤57:=by omega
       clear hz hz2 hdg hLk hsk b1 b2
       go_wp2
       go_quiet (fail)
       go_wp2
       go_roundw
       case rel=>exact⟨k+1,nk+nq,by go_num,by omega,hid (fun i h=>by
        by_cases hik:i<k
        ·exact HL.out i hik
        ·obtain rfl:i=k:=by omega
         exact HFIT.out),hid (by rw[HW.out,World.drewN_drewN])⟩
       case measure=>simp[intOf];omega
      ·have HNO:Hid (form s.data.toList=false):=hid (by
        rw[HF.out,Bool.eq_false_iff]
        intro ht
        have:=(HI.out.1 ht) k hlS
        rw[hsk,hz] at this
        unfold fits at this;rw[if_pos rfl] at this;exact hdg this)
       have hnd : ¬ (48≤s[k].toNat∧s[k].toNat≤57):=fun h=>hdg (by unfold isD;rw[decide_eq_true_iff];exact h)
       clear hz hz2 hdg hLk hsk
       by_cases hlo:s[k].toNat<48
       ·have i1:(s[k].toNat:Int)<48:=by omega
        clear hnd hlo
        go_wp2
        go_quiet (fail)
        go_wp2
        go_ret
        exact⟨by rw[HNO.out];rfl,by rw[HW.out];exact below_drewN (below_drewN (Below.refl _ _) _) _⟩
       ·have i1:(48:Int)≤(s[k].toNat:Int):=by omega
        have i2:decide ((s[k].toNat:Int)≤57)=false:=by rw[decide_eq_false_iff_not];omega
        clear hnd hlo
        go_wp2
        go_quiet (fail)
        go_wp2
        go_ret
        exact⟨by rw[HNO.out];rfl,by rw[HW.out];exact below_drewN (below_drewN (Below.refl _ _) _) _⟩
     ·have hz2:(⟨#[48,48,48,48,45,48,48,45,48,48,32,48,48,58,48,48]⟩:ByteArray)[k]'h16≠48:=fun e=>hz (hLk.symm.trans e)
      have z1:((((⟨#[48,48,48,48,45,48,48,45,48,48,32,48,48,58,48,48]⟩:ByteArray)[k]'h16).toNat:Int)==48)=false:=(qg8 hz2).1
      have z2:((((⟨#[48,48,48,48,45,48,48,45,48,48,32,48,48,58,48,48]⟩:ByteArray)[k]'h16).toNat:Int) != 48)=true:=(qg8 hz2).2
      have hel:=qzb k h16
      by_cases hq:s[k]=gb qin k
      ·have HFIT:Hid (fits (gb qin k) (gb s.data.toList k)=true):=hid (by rw[hsk,hq];unfold fits;rw[if_neg hz];simp)
       obtain⟨_,q1⟩:=qax (hq.trans hLk.symm)
       have hv:s[k].toNat=45∨s[k].toNat=32∨s[k].toNat=58:=by
        rw[hq]
        rcases hel with h | h | h | h
        ·exact absurd h hz
        all_goals rw[h];decide
       clear hz hz2 hLk hsk hel hq
       by_cases hlo:s[k].toNat<48
       ·have i1:(s[k].toNat:Int)<48:=by omega
        clear hv hlo
        go_wp2
        go_quiet (fail)
        go_wp2
        go_roundw
        case rel=>exact⟨k+1,nk+nq,by go_num,by omega,hid (fun i h=>by
         by_cases hik:i<k
         ·exact HL.out i hik
         ·obtain rfl:i=k:=by omega
          exact HFIT.out),hid (by rw[HW.out,World.drewN_drewN])⟩
        case measure=>simp[intOf];omega
       ·have i1:(48:Int)≤(s[k].toNat:Int):=by omega
        have i2:(57:Int)<(s[k].toNat:Int):=by omega
        clear hv hlo
        go_wp2
        go_quiet (fail)
        go_wp2
        go_roundw
        case rel=>exact⟨k+1,nk+nq,by go_num,by omega,hid (fun i h=>by
         by_cases hik:i<k
         ·exact HL.out i hik
         ·obtain rfl:i=k:=by omega
          exact HFIT.out),hid (by rw[HW.out,World.drewN_drewN])⟩
        case measure=>simp[intOf];omega
      ·have HNO:Hid (form s.data.toList=false):=hid (by
        rw[HF.out,Bool.eq_false_iff]
        intro ht
        have:=(HI.out.1 ht) k hlS
        rw[hsk] at this
        unfold fits at this;rw[if_neg hz] at this;exact hq (of_decide_eq_true this))
       obtain⟨_,q1⟩:=qg8 (fun e=>hq (e.trans hLk):s[k]≠(⟨#[48,48,48,48,45,48,48,45,48,48,32,48,48,58,48,48]⟩:ByteArray)[k]'h16)
       clear hz hz2 hLk hsk hel hq
       by_cases hlo:s[k].toNat<48
       ·have i1:(s[k].toNat:Int)<48:=by omega
        clear hlo
        go_wp2
        go_quiet (fail)
        go_wp2
        go_ret
        exact⟨by rw[HNO.out];rfl,by rw[HW.out];exact below_drewN (below_drewN (Below.refl _ _) _) _⟩
       ·by_cases hhi:s[k].toNat≤57
        ·have i1:(48:Int)≤(s[k].toNat:Int):=by omega
         have i2:(s[k].toNat:Int)≤57:=by omega
         clear hlo hhi
         go_wp2
         go_quiet (fail)
         go_wp2
         go_ret
         exact⟨by rw[HNO.out];rfl,by rw[HW.out];exact below_drewN (below_drewN (Below.refl _ _) _) _⟩
        ·have i1:(48:Int)≤(s[k].toNat:Int):=by omega
         have i2:(57:Int)<(s[k].toNat:Int):=by omega
         clear hlo hhi
         go_wp2
         go_quiet (fail)
         go_wp2
         go_ret
         exact⟨by rw[HNO.out];rfl,by rw[HW.out];exact below_drewN (below_drewN (Below.refl _ _) _) _⟩
    ·obtain rfl:k=s.size:=by omega
     have hnk : ¬ (s.size:Int)<s.size:=by omega
     have HNO:Hid (form s.data.toList=true):=hid (by
      rw[HF.out,HI.out]
      exact fun i h2=>HL.out i (by simpa using h2))
     rw[e] at hnk
     go_wp2
     go_ret
     exact⟨by rw[HNO.out];rfl,by rw[HW.out];exact below_drewN (Below.refl _ _) _⟩
 ·have HF:Hid (form s.data.toList=false):=hid (by
   unfold form;rw[hsl,Bool.and_eq_false_iff];left;simp;omega)
  have n1:((s.size:Int) != 10)=true:=by simp;omega
  have n2:((s.size:Int) != 16)=true:=by simp;omega
  clear h10 hsl
  go_enter Tryz.func185,Tryz.ntmps185
  go_wp2
  go_ret
  exact⟨by rw[HF.out];rfl,Below.refl _ _⟩
end Go.Proofs.YtldkgbnmaefaaaaGreatDoor.Ca
namespace Go.Proofs.YtldkgbnmaefaaaaGreatDoor.Ca
open Go.RowKit
theorem qro{n:Int}(h : ¬ (0≤n∧n<52596000))(s:ByteArray)(w:World) :
  Calls Tryz.prog 127 #[.string s,.int .i64 n] w fun e w'=>e=.returned (.tuple #[.string ⟨#[]⟩,.int .i64 2])∧Below w.heap.size w w':=by
 have HC:=hid (fun w=>qja h w)
 clear h
 go_enter Tryz.func127,Tryz.ntmps127
 go_wp2_with fail
 refine(HC.out _).mono ?_
 rintro e w1⟨rfl,rfl⟩
 go_wp2
 go_ret2
 exact⟨rfl,Below.refl _ w⟩
theorem qrp{n:Int}(h:0≤n∧n<52596000)(s:ByteArray)(w:World)(hs:400<s.size) :
  Calls Tryz.prog 127 #[.string s,.int .i64 n] w fun e w'=>e=.returned (.tuple #[.string ⟨#[]⟩,.int .i64 3])∧Below w.heap.size w w':=by
 have HC:=hid (fun w=>qnp h w)
 have hs3:(400:Int)<(s.size:Int):=by omega
 clear h hs
 go_enter Tryz.func127,Tryz.ntmps127
 go_wp2_with fail
 refine(HC.out _).mono ?_
 rintro e w1⟨rfl,rfl⟩
 go_wp2
 go_ret2
 exact⟨rfl,Below.refl _ w⟩
end Go.Proofs.YtldkgbnmaefaaaaGreatDoor.Ca
namespace Go.Proofs.YtldkgbnmaefaaaaGreatDoor.Ca
open Go.RowKit
set_option linter.unusedVariables false
set_option linter.unusedSimpArgs false
structure Nm3 (W:World) (b:Nat) (p q r:Int):Prop where
 lt:b<W.heap.size
 c0:W.cell? ⟨b,0,none⟩=some (.int .i64 p)
 c1:W.cell? ⟨b,1,none⟩=some (.int .i64 q)
 c2:W.cell? ⟨b,2,none⟩=some (.int .i64 r)
theorem Nm3.new(W:World)(p q r:Int):Nm3 (W.alloc (.cells #[.int .i64 p,.int .i64 q,.int .i64 r] 95)) W.heap.size p q r:=⟨by simp,by simp,by simp,by simp⟩
theorem Nm3.below{W W':World}{b:Nat}{p q r:Int}(h:Nm3 W b p q r)(hb:Below W.heap.size W W'):Nm3 W' b p q r :=
 ⟨by have:=hb.size;have:=h.lt;omega,(hb.cell (p:=⟨b,0,none⟩) h.lt).trans h.c0,(hb.cell (p:=⟨b,1,none⟩) h.lt).trans h.c1,(hb.cell (p:=⟨b,2,none⟩) h.lt).trans h.c2⟩
theorem Nm3.alloc{W:World}{b:Nat}{p q r:Int}(h:Nm3 W b p q r)(o:Obj):Nm3 (W.alloc o) b p q r:=h.below ((Below.refl _ _).alloc (Nat.le_refl _) o)
end Go.Proofs.YtldkgbnmaefaaaaGreatDoor.Ca
namespace Go.Proofs.YtldkgbnmaefaaaaGreatDoor.Ca
open Go.RowKit
set_option linter.unusedVariables false
set_option linter.unusedSimpArgs false
theorem qnm{s:ByteArray}(h:form s.data.toList=true):s.size=10∨s.size=16:=by
 unfold form at h
 rw[Bool.and_eq_true,Bool.or_eq_true] at h
 have hl:s.data.toList.length=s.size:=by simp
 rw[hl] at h
 rcases h.1 with e | e
 ·exact .inl (by simpa using e)
 ·exact .inr (by simpa using e)
theorem qy0{l:List UInt8}(h:form l=true)(h16:l.length≤16){i:Nat}(hi:i<l.length)(h48:gb qin i=48):isD (gb l i)=true:=by
 unfold form at h
 rw[Bool.and_eq_true] at h
 have:=(qd7 qin l h16).1 h.2 i hi
 rw[h48] at this
 unfold fits at this;rwa [if_pos rfl] at this
theorem qay{l:List UInt8}(h:form l=true)(h16:l.length≤16)(a n:Nat)(hn:a+n≤l.length)(h48 : ∀ i,a≤i→i<a+n→gb qin i=48) : ∀ c∈(l.drop a).take n,isD c=true:=by
 intro c hc
 obtain⟨j,hj,rfl⟩:=List.getElem_of_mem hc
 have hj2:j<n:=by rw[List.length_take] at hj;omega
 have e:((l.drop a).take n)[j]=gb l (a+j):=by
  unfold gb;rw[List.getElem_take,List.getElem_drop,List.getD_eq_getElem?_getD,List.getElem?_eq_getElem (by omega)];rfl
 rw[e]
 exact qy0 h h16 (by omega) (h48 _ (by omega) (by omega))
theorem q5e : ∀ i,0≤i→i<0+4→gb qin i=48:=by
 intro i h1 h2
 have h:i=0∨i=1∨i=2∨i=3:=by omega
 rcases h with rfl | rfl | rfl | rfl<;>rfl
theorem q5f : ∀ i,5≤i→i<5+2→gb qin i=48:=by
 intro i h1 h2
 have h:i=5∨i=6:=by omega
 rcases h with rfl | rfl<;>rfl
theorem q5g : ∀ i,8≤i→i<8+2→gb qin i=48:=by
 intro i h1 h2
 have h:i=8∨i=9:=by omega
 rcases h with rfl | rfl<;>rfl
theorem xcs : ∀ i,11≤i→i<11+2→gb qin i=48:=by
 intro i h1 h2
 have h:i=11∨i=12:=by omega
 rcases h with rfl | rfl<;>rfl
theorem xct : ∀ i,14≤i→i<14+2→gb qin i=48:=by
 intro i h1 h2
 have h:i=14∨i=15:=by omega
 rcases h with rfl | rfl<;>rfl
theorem qkn{l:List UInt8}(h:form l=true)(hh0:0≤hh l)(hm0:0≤mm l):parse l=if 60≤mm l then⟨0,2⟩ else qlt (dv (l.take 4)) (dv ((l.drop 5).take 2)) (dv ((l.drop 8).take 2)) (hh l*60+mm l):=by
 unfold parse;rw[if_pos h]
 by_cases a:60≤mm l
 ·rw[if_pos (by omega),if_pos a]
 ·by_cases b:23<hh l
  ·rw[if_pos (by omega),if_neg a,qds (by omega)]
  ·rw[if_neg (by omega),if_neg a]
theorem qqx{l:List UInt8}(h:form l=false):parse l=⟨0,1⟩:=by unfold parse;rw[h];rfl
theorem qd9(s:ByteArray)(w:World)(hs:s.size≤4)(hd : ∀ c∈s.data.toList,isD c=true)(v:Int)(hv:dv s.data.toList=v) :
  Calls Tryz.prog 186 #[.string s] w fun e w'=>e=.returned (.int .i64 v)∧w.alloc (.stringIter s s.size)=w':=by
 subst hv;exact qei s w hs hd
theorem nmA(w:World)(a b c:Obj)(p q r:Int):Nm3 (((((w.alloc a).alloc b).alloc c).alloc (.cells #[.int .i64 p,.int .i64 q,.int .i64 r] 95)).drew) (w.heap.size+1+1+1) p q r:=by
 have h:=Nm3.new (((w.alloc a).alloc b).alloc c) p q r
 rw[World.size_alloc,World.size_alloc,World.size_alloc] at h
 exact h.below (below_drewN (Below.refl _ _) 1)
theorem nmB(w:World)(a b c:Obj)(p q r:Int):Nm3 (((((w.alloc a).alloc b).alloc (.cells #[.int .i64 p,.int .i64 q,.int .i64 r] 95)).alloc c).drew) (w.heap.size+1+1) p q r:=by
 have h:=Nm3.new ((w.alloc a).alloc b) p q r
 rw[World.size_alloc,World.size_alloc] at h
 exact(h.alloc c).below (below_drewN (Below.refl _ _) 1)
theorem nmC(w:World)(a b c:Obj)(p q r:Int):Nm3 (((((w.alloc a).alloc (.cells #[.int .i64 p,.int .i64 q,.int .i64 r] 95)).alloc b).alloc c).drew) (w.heap.size+1) p q r:=by
 have h:=Nm3.new (w.alloc a) p q r
 rw[World.size_alloc] at h
 exact((h.alloc b).alloc c).below (below_drewN (Below.refl _ _) 1)
theorem nmD(w:World)(a b c:Obj)(p q r:Int):Nm3 (((((w.alloc (.cells #[.int .i64 p,.int .i64 q,.int .i64 r] 95)).alloc a).alloc b).alloc c).drew) w.heap.size p q r :=
 ((((Nm3.new w p q r).alloc a).alloc b).alloc c).below (below_drewN (Below.refl _ _) 1)
theorem qew(s:ByteArray)(w:World)(hsz:s.size≤1000)(ht:Tb w) :
  Calls Tryz.prog 125 #[.string s] w fun e w'=>e=.returned (.tuple #[.int .i64 (parse s.data.toList).n,.int .i64 (parse s.data.toList).e])∧Below w.heap.size w w':=by
 have HC:=hid (fun w=>qoz s w hsz)
 cases hf:form s.data.toList
 ·rw[hf] at HC
  have HP:=hid (qqx hf)
  clear hf
  go_enter Tryz.func125,Tryz.ntmps125
  go_wp2_with fail
  (with_reducible refine(HC.out _).mono ?_)
  rintro e w1⟨rfl,hb⟩
  go_wp2
  go_ret2
  exact⟨by rw[HP.out];rfl,hb⟩
 ·rw[hf] at HC
  have hl:s.data.toList.length=s.size:=by simp
  have hsz2:=qnm hf
  have h16:s.data.toList.length≤16:=by omega
  have d1:=qay hf h16 0 4 (by omega) q5e
  have d2:=qay hf h16 5 2 (by omega) q5f
  have d3:=qay hf h16 8 2 (by omega) q5g
  rw[List.drop_zero] at d1
  have x1:(s.extract 0 4).data.toList=s.data.toList.take 4:=by rw[Lib.extract_data];rfl
  have x2:(s.extract 5 7).data.toList=(s.data.toList.drop 5).take 2:=by rw[Lib.extract_data]
  have x3:(s.extract 8 10).data.toList=(s.data.toList.drop 8).take 2:=by rw[Lib.extract_data]
  obtain⟨Y,hY⟩ : ∃ Y,dv (s.data.toList.take 4)=Y:=⟨_,rfl⟩
  obtain⟨M,hM⟩ : ∃ M,dv ((s.data.toList.drop 5).take 2)=M:=⟨_,rfl⟩
  obtain⟨D,hD⟩ : ∃ D,dv ((s.data.toList.drop 8).take 2)=D:=⟨_,rfl⟩
  have H1:=hid (fun w=>qd9 (s.extract 0 4) w (by simp;omega) (by rw[x1];exact d1) Y (by rw[x1];exact hY))
  have H2:=hid (fun w=>qd9 (s.extract 5 7) w (by simp;omega) (by rw[x2];exact d2) M (by rw[x2];exact hM))
  have H3:=hid (fun w=>qd9 (s.extract 8 10) w (by simp;omega) (by rw[x3];exact d3) D (by rw[x3];exact hD))
  rcases hsz2 with e | e
  ·have hh0:hh s.data.toList=0:=by unfold hh;rw[List.drop_eq_nil_of_le (by omega)];rfl
   have hm0:mm s.data.toList=0:=by unfold mm;rw[List.drop_eq_nil_of_le (by omega)];rfl
   have hp:=qkn hf (by omega) (by omega)
   rw[hh0,hm0,hY,hM,hD,if_neg (by omega)] at hp
   have HP:=hid hp
   have HMN:=hid (fun w ht=>qfj Y M D 0 w ht)
   clear hp hh0 hm0 hf hl h16 d1 d2 d3 x1 x2 x3 hY hM hD
   go_enter Tryz.func125,Tryz.ntmps125
   go_wp2_with fail
   (with_reducible refine(HC.out _).mono ?_)
   rintro e' w1⟨rfl,hb⟩
   have HB:=hid hb
   have hbs:=hb.size
   clear hb
   go_upto_region 3 with fail
   go_cut [4] from 10 to 19 (fun s4 wx => ∃ g,s4=.pointer (some ⟨g,0,none⟩)∧Hid (Nm3 wx g Y M D∧Below w.heap.size w wx))
   case first =>
    go_region_with (first | (go_at_call 186;(with_reducible refine(H1.out _).mono ?_);rintro e' w' ⟨rfl,rfl⟩) | (go_at_call 186;(with_reducible refine(H2.out _).mono ?_);rintro e' w' ⟨rfl,rfl⟩) | (go_at_call 186;(with_reducible refine(H3.out _).mono ?_);rintro e' w' ⟨rfl,rfl⟩))
    all_goals
     go_wp2_with fail
     go_meet
     refine⟨_,rfl,hid ⟨?_,?_⟩⟩
     ·first | exact nmA w1 _ _ _ _ _ _ | exact nmB w1 _ _ _ _ _ _ | exact nmC w1 _ _ _ _ _ _ | exact nmD w1 _ _ _ _ _ _
     ·refine below_drewN ?_ 1
      exact(((HB.out.alloc hbs _).alloc (by rw[World.size_alloc];omega) _).alloc (by rw[World.size_alloc,World.size_alloc];omega) _).alloc (by rw[World.size_alloc,World.size_alloc,World.size_alloc];omega) _
   case rest =>
   obtain⟨g,rfl,HN⟩:=hcut
   obtain⟨nm,hbc⟩:=HN.out
   clear HN
   have HBc:=hid hbc
   have hbs2:=hbc.size
   clear hbc
   have q0:=nm.c0;have q1:=nm.c1;have q2:=nm.c2
   go_wp2_with fail
   (with_reducible refine(HMN.out _ (ht.below HBc.out)).mono ?_)
   rintro e2 w2⟨rfl,hb2⟩
   have HB2:=hid (HBc.out.trans (hb2.mono HBc.out.size))
   clear hb2
   go_wp2
   go_ret2
   exact⟨by rw[HP.out];rfl,HB2.out⟩
  ·have d4:=qay hf h16 11 2 (by omega) xcs
   have d5:=qay hf h16 14 2 (by omega) xct
   have x4:(s.extract 11 13).data.toList=(s.data.toList.drop 11).take 2:=by rw[Lib.extract_data]
   have x5:(s.extract 14 16).data.toList=(s.data.toList.drop 14).take 2:=by rw[Lib.extract_data]
   obtain⟨h,hh⟩ : ∃ h,dv ((s.data.toList.drop 11).take 2)=h:=⟨_,rfl⟩
   obtain⟨m,hm⟩ : ∃ m,dv ((s.data.toList.drop 14).take 2)=m:=⟨_,rfl⟩
   have H4:=hid (fun w=>qd9 (s.extract 11 13) w (by simp;omega) (by rw[x4];exact d4) h (by rw[x4];exact hh))
   have H5:=hid (fun w=>qd9 (s.extract 14 16) w (by simp;omega) (by rw[x5];exact d5) m (by rw[x5];exact hm))
   have b4:=qcb d4 (by rw[List.length_take];omega)
   have b5:=qcb d5 (by rw[List.length_take];omega)
   rw[hh] at b4
   rw[hm] at b5
   have hp:=qkn hf (by show 0≤dv _;rw[hh];omega) (by show 0≤dv _;rw[hm];omega)
   rw[show Ca.hh s.data.toList=h from hh,show mm s.data.toList=m from hm,hY,hM,hD] at hp
   have HMN:=hid (fun w ht=>qfj Y M D (h*60+m) w ht)
   obtain⟨h0,h1⟩:=b4
   obtain⟨m0,m1⟩:=b5
   clear hf hl h16 d1 d2 d3 d4 d5 x1 x2 x3 x4 x5 hY hM hD hh hm
   have HP:=hid hp
   clear hp
   go_enter Tryz.func125,Tryz.ntmps125
   go_wp2_with fail
   (with_reducible refine(HC.out _).mono ?_)
   rintro e' w1⟨rfl,hb⟩
   have HB:=hid hb
   have hbs:=hb.size
   clear hb
   go_upto_region 3 with fail
   go_cut [4] from 10 to 19 (fun s4 wx => ∃ g,s4=.pointer (some ⟨g,0,none⟩)∧Hid (Nm3 wx g Y M D∧Below w.heap.size w wx))
   case first =>
    go_region_with (first | (go_at_call 186;(with_reducible refine(H1.out _).mono ?_);rintro e' w' ⟨rfl,rfl⟩) | (go_at_call 186;(with_reducible refine(H2.out _).mono ?_);rintro e' w' ⟨rfl,rfl⟩) | (go_at_call 186;(with_reducible refine(H3.out _).mono ?_);rintro e' w' ⟨rfl,rfl⟩))
    all_goals
     go_wp2_with fail
     go_meet
     refine⟨_,rfl,hid ⟨?_,?_⟩⟩
     ·first | exact nmA w1 _ _ _ _ _ _ | exact nmB w1 _ _ _ _ _ _ | exact nmC w1 _ _ _ _ _ _ | exact nmD w1 _ _ _ _ _ _
     ·refine below_drewN ?_ 1
      exact(((HB.out.alloc hbs _).alloc (by rw[World.size_alloc];omega) _).alloc (by rw[World.size_alloc,World.size_alloc];omega) _).alloc (by rw[World.size_alloc,World.size_alloc,World.size_alloc];omega) _
   case rest =>
   obtain⟨g,rfl,HN⟩:=hcut
   obtain⟨nm,hbc⟩:=HN.out
   clear HN
   have HBc:=hid hbc
   have hbs2:=hbc.size
   clear hbc
   go_upto_region 6 with fail
   go_cut [5,6] from 23 to 28 (fun s5 s6 wx=>s5=.int .i64 h∧s6=.int .i64 m∧Hid (Nm3 wx g Y M D∧Below w.heap.size w wx))
   case first =>
    go_region_with (first | (go_at_call 186;(with_reducible refine(H4.out _).mono ?_);rintro e' w' ⟨rfl,rfl⟩) | (go_at_call 186;(with_reducible refine(H5.out _).mono ?_);rintro e' w' ⟨rfl,rfl⟩))
    all_goals
     go_wp2_with fail
     go_meet
     refine⟨rfl,rfl,hid ⟨?_,?_⟩⟩
     ·exact((nm.alloc _).alloc _).below (below_drewN (Below.refl _ _) 1)
     ·refine below_drewN ?_ 1
      exact(HBc.out.alloc hbs2 _).alloc (by rw[World.size_alloc];omega) _
   case rest =>
   obtain⟨rfl,rfl,HN⟩:=hcut
   obtain⟨nm2,hbc2⟩:=HN.out
   clear HN nm
   have HBc2:=hid hbc2
   clear hbc2
   have q0:=nm2.c0;have q1:=nm2.c1;have q2:=nm2.c2
   by_cases h60:60≤m
   ·rw[if_pos h60] at HP
    go_wp2
    go_ret2
    exact⟨by rw[HP.out];rfl,HBc2.out⟩
   ·rw[if_neg h60] at HP
    go_wp2_with fail
    (with_reducible refine(HMN.out _ (ht.below HBc2.out)).mono ?_)
    rintro e2 w2⟨rfl,hb2⟩
    have HB2:=hid (HBc2.out.trans (hb2.mono HBc2.out.size))
    clear hb2
    go_wp2
    go_ret2
    exact⟨by rw[HP.out];rfl,HB2.out⟩
end Go.Proofs.YtldkgbnmaefaaaaGreatDoor.Ca
