import Derived.Test.YtldkgbnmaefaaaaGreatDoorNuG4
import Derived.Test.YtldkgbnmaefaaaaGreatDoorNuG5
import Derived.Deep.RegionWith
import Derived.Test.YtldkgbnmaefaaaaGreatDoorNuG2
set_option maxRecDepth 100000
set_option maxHeartbeats 4000000
open Go.Lib (hid)
namespace Go.Proofs.YtldkgbnmaefaaaaGreatDoor.Nu
open Go.RowKit
set_option linter.unusedVariables false
theorem q0n{w w':World}(h:Below w.drew.heap.size w.drew w'):Below w.heap.size w w':=(below_drewN (Below.refl w.heap.size w) 1).trans h
theorem q3y(s:ByteArray)(w:World)(hs:s.size≤1000)(x:UInt8)(h0:0<s.size)(hx:s[0]'h0=x)(hx1:x.toNat=45)(r:ByteArray)(hr:s.extract 1 s.size=r)(hrs:r.size+1=s.size)(I K va vb:Nat)(hI:qb2 r.data.toList 0=I)(y:UInt8)(h1:I<r.size)(hy:r[I]'h1=y)(hy1:y.toNat=46)(hK:qb2 r.data.toList (I+1)=r.size)(hb:I≤9)(hm:r.size=I+1+K)(hm1:1≤K)(hm9:K≤9)(hva:va<1000000000)(hvb:vb<1000000000)
  (CA:Hid (∀ w,Calls Tryz.prog 152 #[.string (r.extract 0 I)] w fun e w'=>e=.returned (.int .i64 (va:Int))∧w=w'))
  (CB:Hid (∀ w,Calls Tryz.prog 152 #[.string (r.extract (I+1) r.size)] w fun e w'=>e=.returned (.int .i64 (vb:Int))∧w=w'))
  (HA:Hid (qaf true r.data.toList=fit (-((va*10^K+vb:Nat):Int)) (pw K))) :
  Calls Tryz.prog 92 #[.string s] w fun e w'=>e=.returned (.tuple #[.agg #[.int .i64 (qaf true r.data.toList).n,.int .i64 (qaf true r.data.toList).d],.int .i64 (qaf true r.data.toList).e])∧Below w.heap.size w w':=by
 have hsz:=Lib.size_eq r
 have q0:decide ((0:Int)<(s.size:Int))=true:=decide_eq_true (by omega)
 have q1:((x.toNat:Int)==43)=false:=beq_eq_false_iff_ne.2 (by omega)
 have q2:((x.toNat:Int)==45)=true:=beq_iff_eq.2 (by omega)
 have CD:=hid (fun w=>qae r 0 w (by omega) (Nat.zero_le _))
 rw[hI] at CD
 have cd2:=fun w=>qae r (I+1) w (by omega) (by omega)
 rw[hK,Int.natCast_succ] at cd2
 have CD2:=hid cd2
 have hpw:=qg2 K
 obtain⟨w1,w2⟩:=qf7 hm9
 have hmul:(va:Int)*pw K≤999999999*1000000000:=Int.mul_le_mul (by omega) w2 (by omega) (by omega)
 have hmul0:0≤(va:Int)*pw K:=Int.mul_nonneg (by omega) (by omega)
 have eV:(va:Int)*pw K+(vb:Int)=((va*10^K+vb:Nat):Int):=by rw[hpw];push_cast;rfl
 obtain⟨V,hV⟩ : ∃ V:Int,((va*10^K+vb:Nat):Int)=V:=⟨_,rfl⟩
 rw[hV] at eV HA
 have CP:=hid (fun w=>qgf K w hm9)
 have CF:=hid (fun w=>qcc (-V) (pw K) w (by omega) (by omega) (by omega))
 have g1:IntKind.i64.wrap ((va:Int)*pw K)=(va:Int)*pw K:=IntWalk.i64_in _ (by omega)
 have g2:IntKind.i64.wrap ((va:Int)*pw K+(vb:Int))=V:=by rw[IntWalk.i64_in _ (by omega)];exact eV
 have eI:IntKind.i64.wrap ((I:Int)+1)=(I:Int)+1:=IntWalk.i64_in _ (by omega)
 have q3:decide ((I:Int)<(r.size:Int))=true:=decide_eq_true (by omega)
 have q4:((y.toNat:Int)==46)=true:=beq_iff_eq.2 (by omega)
 have q5:decide ((9:Int)<(I:Int))=false:=decide_eq_false (by omega)
 have s1:IntKind.i64.wrap ((r.size:Int)-(I:Int))=(r.size:Int)-(I:Int):=IntWalk.i64_in _ (by omega)
 have s2:IntKind.i64.wrap ((r.size:Int)-(I:Int)-1)=(K:Int):=by rw[IntWalk.i64_in _ (by omega)];omega
 have q6:decide ((K:Int)<1)=false:=decide_eq_false (by omega)
 have q7:decide ((9:Int)<(K:Int))=false:=decide_eq_false (by omega)
 have q8:((r.size:Int)==0)=false:=beq_eq_false_iff_ne.2 (by omega)
 have q9:((I:Int)==(r.size:Int))=false:=beq_eq_false_iff_ne.2 (by omega)
 have e1:IntKind.i64.wrap (-1*V) = -V:=by rw[IntWalk.i64_in _ (by omega)];omega
 have e1':IntKind.i64.wrap (-V) = -V:=IntWalk.i64_in _ (by omega)
 clear hsz hI hK cd2 hy1 hb hm hm1 hm9 hva hvb hpw w1 w2 hmul hmul0 eV hV hx1 hrs
 go_enter Tryz.func92,Tryz.ntmps92
 go_wp2_with fail
 refine(CD.out _).mono ?_
 rintro e w'⟨rfl,rfl⟩
 go_wp2_with fail
 refine(CD2.out _).mono ?_
 rintro e w'⟨rfl,rfl⟩
 go_wp2_with fail
 refine(CP.out _).mono ?_
 rintro e w'⟨rfl,rfl⟩
 go_wp2
 go_region_with (first | (go_at_call 152;(with_reducible refine(CA.out _).mono ?_);rintro e w' ⟨rfl,rfl⟩) | (go_at_call 152;(with_reducible refine(CB.out _).mono ?_);rintro e w' ⟨rfl,rfl⟩) | (go_at_call 151;(with_reducible refine(CF.out _).mono ?_);rintro e w3 ⟨rfl,hb⟩;have hb:=q0n hb;obtain⟨hc,hf⟩:=qad hb;have z0:=qg4 hb;have HB:=hid (qap hb)))
 all_goals
  go_wp2
  exact bodyPost_ret (v := .tuple #[.agg #[.int .i64 (fit (-V) (pw K)).n,.int .i64 (fit (-V) (pw K)).d],.int .i64 (fit (-V) (pw K)).e]) (by simp[results,Tryz.results92,go_sem,hc]) rfl ⟨by rw[HA.out],qa2 HB.out _ _⟩
end Go.Proofs.YtldkgbnmaefaaaaGreatDoor.Nu
namespace Go.Proofs.YtldkgbnmaefaaaaGreatDoor.Nu
open Go.RowKit
set_option linter.unusedVariables false
set_option linter.unusedSimpArgs false
theorem qmj(l:List UInt8){i:Nat}(h:i≤l.length):qb2 l i≤l.length:=by
 unfold qb2;have:=q0k (l.drop i);rw[List.length_drop] at this;omega
theorem qf9 : ∀ (l:List UInt8) {c:UInt8} {r:List UInt8},l.drop (l.takeWhile isD).length=c :: r→isD c=false
 | [],c,r,h=>by simp at h
 |b :: l,c,r,h=>by
  by_cases hb:isD b=true
  ·rw[List.takeWhile_cons_of_pos hb,List.length_cons,List.drop_succ_cons] at h
   exact qf9 l h
  ·rw[List.takeWhile_cons_of_neg hb] at h
   simp at h
   rw[←h.1];simpa using hb
theorem qps(l:List UInt8):l.take (l.takeWhile isD).length=l.takeWhile isD:=(List.prefix_iff_eq_take.1 (List.takeWhile_prefix isD)).symm
theorem qsr{l:List UInt8}(h:l.all isD=true)(hl:l.length≤9):val l<1000000000:=by
 have h1:=qxg h
 have h3:10^l.length≤10^9:=Nat.pow_le_pow_right (by decide) hl
 have h4:(10:Nat)^9=1000000000:=by decide
 omega
theorem qlo(s:ByteArray)(k:Nat)(h:k<s.size):s.data.toList.drop k=s[k] :: s.data.toList.drop (k+1):=by
 rw[List.drop_eq_getElem_cons (by simpa using h)]
 simp[ByteArray.getElem_eq_getElem_data]
theorem qxd{b:UInt8}{n:Nat}(h:b.toNat=n)(hn:n<256):b=UInt8.ofNat n:=by
 apply UInt8.toNat_inj.1;rw[h];simp;omega
theorem xc3(s:ByteArray)(w:World)(hs:s.size≤1000)(x:UInt8)(h0:0<s.size)(hx:s[0]'h0=x)(hx1:x.toNat≠43)(hx2:x.toNat≠45) :
  Calls Tryz.prog 92 #[.string s] w fun e w'=>e=.returned (.tuple #[.agg #[.int .i64 (qaf false s.data.toList).n,.int .i64 (qaf false s.data.toList).d],.int .i64 (qaf false s.data.toList).e])∧Below w.heap.size w w':=by
 have hl:s.data.toList.length=s.size:=by simp
 have hI0:=qmj s.data.toList (i:=0) (Nat.zero_le _)
 by_cases hall:qb2 s.data.toList 0=s.data.toList.length
 ·by_cases h9:9<s.size
  ·exact qtc s w hs x h0 hx hx1 hx2 hall h9
  ·exact qx7 s w hs x h0 hx hx1 hx2 hall (by omega) (by omega)
 ·obtain⟨I,hI⟩ : ∃ I,qb2 s.data.toList 0=I:=⟨_,rfl⟩
  rw[hI] at hall hI0
  have h1:I<s.size:=by omega
  have hI2:(s.data.toList.takeWhile isD).length=I:=by rw[←hI,qcw]
  have hdr:=qlo s I h1
  have hstop:isD s[I]=false:=qf9 s.data.toList (by rw[hI2];exact hdr)
  by_cases hy:s[I].toNat=46
  ·have hy46:s[I]=46:=qxd hy (by decide)
   have hpt:=qlz false (l:=s.data.toList) (r:=s.data.toList.drop (I+1)) (by rw[hI,hdr,hy46])
   rw[hI] at hpt
   have hrl:(s.data.toList.drop (I+1)).length=s.size-(I+1):=by rw[List.length_drop,hl]
   have hr1:qb2 s.data.toList (I+1)=I+1+((s.data.toList.drop (I+1)).takeWhile isD).length:=rfl
   have htl:=q0k (s.data.toList.drop (I+1))
   obtain⟨K,hK⟩ : ∃ K,qb2 s.data.toList (I+1)=K:=⟨_,rfl⟩
   by_cases hKs:K=s.size
   ·rw[hKs] at hK
    have htw:((s.data.toList.drop (I+1)).takeWhile isD).length=(s.data.toList.drop (I+1)).length:=by omega
    by_cases hb:9<I
    ·exact q3t s w hs x h0 hx hx1 hx2 I 0 hI s[I] h1 rfl hy hK hb (hid (by rw[hpt,if_neg (by omega)]))
    ·by_cases hm:s.size=I+1
     ·exact q3n s w hs x h0 hx hx1 hx2 I 0 hI s[I] h1 rfl hy hK (by omega) hm (hid (by rw[hpt,if_neg (by omega)]))
     ·obtain⟨k,hk⟩ : ∃ k,s.size=I+1+k:=⟨s.size-(I+1),by omega⟩
      by_cases hk9:9<k
      ·exact q3q s w hs x h0 hx hx1 hx2 I k hI s[I] h1 rfl hy hK (by omega) hk hk9 (hid (by rw[hpt,if_neg (by omega)]))
      ·have hrk:(s.data.toList.drop (I+1)).length=k:=by omega
       rw[if_pos ⟨by omega,htw,by omega,by omega⟩,hrk] at hpt
       have a1:=qeb s.data.toList
       have a2:=qff htw
       have x1:(s.extract 0 I).data.toList=s.data.toList.takeWhile isD:=by rw[Lib.extract_data,List.drop_zero,Nat.sub_zero,←hI2,qps]
       have x2:(s.extract (I+1) s.size).data.toList=s.data.toList.drop (I+1):=Lib.extract_to_end s (I+1)
       have CA:=hid (fun w=>qbo (s.extract 0 I) w (by simp;omega) (by rw[x1];exact a1))
       have CB:=hid (fun w=>qbo (s.extract (I+1) s.size) w (by simp;omega) (by rw[x2];exact a2))
       rw[x1] at CA
       rw[x2] at CB
       exact q4a s w hs x h0 hx hx1 hx2 I k _ _ hI s[I] h1 rfl hy hK (by omega) hk (by omega) (by omega) (qsr a1 (by omega)) (qsr a2 (by omega)) CA CB (hid (by rw[hpt];rfl))
   ·have hne : ¬ ((s.data.toList.drop (I+1)).takeWhile isD).length=(s.data.toList.drop (I+1)).length:=by omega
    exact q3w s w hs x h0 hx hx1 hx2 I K hI s[I] h1 rfl hy hK hKs (hid (by rw[hpt,if_neg (fun h=>hne h.2.1)]))
  ·have hc:s[I]≠46:=fun e=>hy (by rw[e];rfl)
   exact qs9 s w hs x h0 hx hx1 hx2 I hI s[I] h1 rfl hy (hid (qpb false (l:=s.data.toList) (r:=s.data.toList.drop (I+1)) (c:=s[I]) (by rw[hI];exact hdr) hc hstop))
theorem xc4(s:ByteArray)(w:World)(hs:s.size≤1000)(x:UInt8)(h0:0<s.size)(hx:s[0]'h0=x)(hx1:x.toNat=43)(r:ByteArray)(hr:s.extract 1 s.size=r)(hrs:r.size+1=s.size) :
  Calls Tryz.prog 92 #[.string s] w fun e w'=>e=.returned (.tuple #[.agg #[.int .i64 (qaf false r.data.toList).n,.int .i64 (qaf false r.data.toList).d],.int .i64 (qaf false r.data.toList).e])∧Below w.heap.size w w':=by
 have hl:r.data.toList.length=r.size:=by simp
 have hI0:=qmj r.data.toList (i:=0) (Nat.zero_le _)
 by_cases hall:qb2 r.data.toList 0=r.data.toList.length
 ·by_cases h9:9<r.size
  ·exact qtd s w hs x h0 hx hx1 r hr hrs hall h9
  ·by_cases hz:r.size=0
   ·exact qtf s w hs x h0 hx hx1 r hr hrs hall hz
   ·exact qx8 s w hs x h0 hx hx1 r hr hrs hall (by omega) (by omega)
 ·obtain⟨I,hI⟩ : ∃ I,qb2 r.data.toList 0=I:=⟨_,rfl⟩
  rw[hI] at hall hI0
  have h1:I<r.size:=by omega
  have hI2:(r.data.toList.takeWhile isD).length=I:=by rw[←hI,qcw]
  have hdr:=qlo r I h1
  have hstop:isD r[I]=false:=qf9 r.data.toList (by rw[hI2];exact hdr)
  by_cases hy:r[I].toNat=46
  ·have hy46:r[I]=46:=qxd hy (by decide)
   have hpt:=qlz false (l:=r.data.toList) (r:=r.data.toList.drop (I+1)) (by rw[hI,hdr,hy46])
   rw[hI] at hpt
   have hrl:(r.data.toList.drop (I+1)).length=r.size-(I+1):=by rw[List.length_drop,hl]
   have hr1:qb2 r.data.toList (I+1)=I+1+((r.data.toList.drop (I+1)).takeWhile isD).length:=rfl
   have htl:=q0k (r.data.toList.drop (I+1))
   obtain⟨K,hK⟩ : ∃ K,qb2 r.data.toList (I+1)=K:=⟨_,rfl⟩
   by_cases hKs:K=r.size
   ·rw[hKs] at hK
    have htw:((r.data.toList.drop (I+1)).takeWhile isD).length=(r.data.toList.drop (I+1)).length:=by omega
    by_cases hb:9<I
    ·exact q3u s w hs x h0 hx hx1 r hr hrs I 0 hI r[I] h1 rfl hy hK hb (hid (by rw[hpt,if_neg (by omega)]))
    ·by_cases hm:r.size=I+1
     ·exact q3o s w hs x h0 hx hx1 r hr hrs I 0 hI r[I] h1 rfl hy hK (by omega) hm (hid (by rw[hpt,if_neg (by omega)]))
     ·obtain⟨k,hk⟩ : ∃ k,r.size=I+1+k:=⟨r.size-(I+1),by omega⟩
      by_cases hk9:9<k
      ·exact q3r s w hs x h0 hx hx1 r hr hrs I k hI r[I] h1 rfl hy hK (by omega) hk hk9 (hid (by rw[hpt,if_neg (by omega)]))
      ·have hrk:(r.data.toList.drop (I+1)).length=k:=by omega
       rw[if_pos ⟨by omega,htw,by omega,by omega⟩,hrk] at hpt
       have a1:=qeb r.data.toList
       have a2:=qff htw
       have x1:(r.extract 0 I).data.toList=r.data.toList.takeWhile isD:=by rw[Lib.extract_data,List.drop_zero,Nat.sub_zero,←hI2,qps]
       have x2:(r.extract (I+1) r.size).data.toList=r.data.toList.drop (I+1):=Lib.extract_to_end r (I+1)
       have CA:=hid (fun w=>qbo (r.extract 0 I) w (by simp;omega) (by rw[x1];exact a1))
       have CB:=hid (fun w=>qbo (r.extract (I+1) r.size) w (by simp;omega) (by rw[x2];exact a2))
       rw[x1] at CA
       rw[x2] at CB
       exact q4b s w hs x h0 hx hx1 r hr hrs I k _ _ hI r[I] h1 rfl hy hK (by omega) hk (by omega) (by omega) (qsr a1 (by omega)) (qsr a2 (by omega)) CA CB (hid (by rw[hpt];rfl))
   ·have hne : ¬ ((r.data.toList.drop (I+1)).takeWhile isD).length=(r.data.toList.drop (I+1)).length:=by omega
    exact q3x s w hs x h0 hx hx1 r hr hrs I K hI r[I] h1 rfl hy hK hKs (hid (by rw[hpt,if_neg (fun h=>hne h.2.1)]))
  ·have hc:r[I]≠46:=fun e=>hy (by rw[e];rfl)
   exact qta s w hs x h0 hx hx1 r hr hrs I hI r[I] h1 rfl hy (hid (qpb false (l:=r.data.toList) (r:=r.data.toList.drop (I+1)) (c:=r[I]) (by rw[hI];exact hdr) hc hstop))
theorem xc2(s:ByteArray)(w:World)(hs:s.size≤1000)(x:UInt8)(h0:0<s.size)(hx:s[0]'h0=x)(hx1:x.toNat=45)(r:ByteArray)(hr:s.extract 1 s.size=r)(hrs:r.size+1=s.size) :
  Calls Tryz.prog 92 #[.string s] w fun e w'=>e=.returned (.tuple #[.agg #[.int .i64 (qaf true r.data.toList).n,.int .i64 (qaf true r.data.toList).d],.int .i64 (qaf true r.data.toList).e])∧Below w.heap.size w w':=by
 have hl:r.data.toList.length=r.size:=by simp
 have hI0:=qmj r.data.toList (i:=0) (Nat.zero_le _)
 by_cases hall:qb2 r.data.toList 0=r.data.toList.length
 ·by_cases h9:9<r.size
  ·exact qtb s w hs x h0 hx hx1 r hr hrs hall h9
  ·by_cases hz:r.size=0
   ·exact qte s w hs x h0 hx hx1 r hr hrs hall hz
   ·exact qx6 s w hs x h0 hx hx1 r hr hrs hall (by omega) (by omega)
 ·obtain⟨I,hI⟩ : ∃ I,qb2 r.data.toList 0=I:=⟨_,rfl⟩
  rw[hI] at hall hI0
  have h1:I<r.size:=by omega
  have hI2:(r.data.toList.takeWhile isD).length=I:=by rw[←hI,qcw]
  have hdr:=qlo r I h1
  have hstop:isD r[I]=false:=qf9 r.data.toList (by rw[hI2];exact hdr)
  by_cases hy:r[I].toNat=46
  ·have hy46:r[I]=46:=qxd hy (by decide)
   have hpt:=qlz true (l:=r.data.toList) (r:=r.data.toList.drop (I+1)) (by rw[hI,hdr,hy46])
   rw[hI] at hpt
   have hrl:(r.data.toList.drop (I+1)).length=r.size-(I+1):=by rw[List.length_drop,hl]
   have hr1:qb2 r.data.toList (I+1)=I+1+((r.data.toList.drop (I+1)).takeWhile isD).length:=rfl
   have htl:=q0k (r.data.toList.drop (I+1))
   obtain⟨K,hK⟩ : ∃ K,qb2 r.data.toList (I+1)=K:=⟨_,rfl⟩
   by_cases hKs:K=r.size
   ·rw[hKs] at hK
    have htw:((r.data.toList.drop (I+1)).takeWhile isD).length=(r.data.toList.drop (I+1)).length:=by omega
    by_cases hb:9<I
    ·exact q3s s w hs x h0 hx hx1 r hr hrs I 0 hI r[I] h1 rfl hy hK hb (hid (by rw[hpt,if_neg (by omega)]))
    ·by_cases hm:r.size=I+1
     ·exact q3m s w hs x h0 hx hx1 r hr hrs I 0 hI r[I] h1 rfl hy hK (by omega) hm (hid (by rw[hpt,if_neg (by omega)]))
     ·obtain⟨k,hk⟩ : ∃ k,r.size=I+1+k:=⟨r.size-(I+1),by omega⟩
      by_cases hk9:9<k
      ·exact q3p s w hs x h0 hx hx1 r hr hrs I k hI r[I] h1 rfl hy hK (by omega) hk hk9 (hid (by rw[hpt,if_neg (by omega)]))
      ·have hrk:(r.data.toList.drop (I+1)).length=k:=by omega
       rw[if_pos ⟨by omega,htw,by omega,by omega⟩,hrk] at hpt
       have a1:=qeb r.data.toList
       have a2:=qff htw
       have x1:(r.extract 0 I).data.toList=r.data.toList.takeWhile isD:=by rw[Lib.extract_data,List.drop_zero,Nat.sub_zero,←hI2,qps]
       have x2:(r.extract (I+1) r.size).data.toList=r.data.toList.drop (I+1):=Lib.extract_to_end r (I+1)
       have CA:=hid (fun w=>qbo (r.extract 0 I) w (by simp;omega) (by rw[x1];exact a1))
       have CB:=hid (fun w=>qbo (r.extract (I+1) r.size) w (by simp;omega) (by rw[x2];exact a2))
       rw[x1] at CA
       rw[x2] at CB
       exact q3y s w hs x h0 hx hx1 r hr hrs I k _ _ hI r[I] h1 rfl hy hK (by omega) hk (by omega) (by omega) (qsr a1 (by omega)) (qsr a2 (by omega)) CA CB (hid (by rw[hpt];rfl))
   ·have hne : ¬ ((r.data.toList.drop (I+1)).takeWhile isD).length=(r.data.toList.drop (I+1)).length:=by omega
    exact q3v s w hs x h0 hx hx1 r hr hrs I K hI r[I] h1 rfl hy hK hKs (hid (by rw[hpt,if_neg (fun h=>hne h.2.1)]))
  ·have hc:r[I]≠46:=fun e=>hy (by rw[e];rfl)
   exact qs8 s w hs x h0 hx hx1 r hr hrs I hI r[I] h1 rfl hy (hid (qpb true (l:=r.data.toList) (r:=r.data.toList.drop (I+1)) (c:=r[I]) (by rw[hI];exact hdr) hc hstop))
theorem qx9(s:ByteArray)(w:World)(h:s.size=0) :
  Calls Tryz.prog 92 #[.string s] w fun e w'=>e=.returned (.tuple #[.agg #[.int .i64 0,.int .i64 0],.int .i64 1])∧Below w.heap.size w w':=by
 have hl:s.data.toList.length=0:=by simpa using h
 have hr:qb2 s.data.toList 0=0:=by have:=qmj s.data.toList (i:=0) (Nat.zero_le _);omega
 have CD:=hid (fun w=>qae s 0 w (by omega) (Nat.zero_le _))
 rw[hr] at CD
 have q0:(s.size:Int)=0:=by omega
 clear hl hr
 go_enter Tryz.func92,Tryz.ntmps92
 go_wp2_with fail
 refine(CD.out _).mono ?_
 rintro e w'⟨rfl,rfl⟩
 go_wp2
 exact bodyPost_ret (v := .tuple #[.agg #[.int .i64 0,.int .i64 0],.int .i64 1]) (by simp[results,Tryz.results92,go_sem]) rfl ⟨rfl,(Below.refl _ _).alloc (Nat.le_refl _) _⟩
theorem qd5(s:ByteArray)(w:World)(hs:s.size≤1000) :
  Calls Tryz.prog 92 #[.string s] w fun e w'=>e=.returned (.tuple #[.agg #[.int .i64 (parse s.data.toList).n,.int .i64 (parse s.data.toList).d],.int .i64 (parse s.data.toList).e])∧Below w.heap.size w w':=by
 by_cases h0:0<s.size
 ·have hh:s.data.toList=s[0] :: s.data.toList.drop 1:=by have:=qlo s 0 h0;rwa [List.drop_zero] at this
  have hhd:s.data.toList.head? = some s[0]:=by rw[hh];rfl
  have hx:(s.extract 1 s.size).data.toList=s.data.toList.drop 1:=Lib.extract_to_end s 1
  have hrs:(s.extract 1 s.size).size+1=s.size:=by simp;omega
  by_cases hm:s[0].toNat=45
  ·have e:parse s.data.toList=qaf true (s.extract 1 s.size).data.toList:=by unfold parse;rw[if_pos (by rw[hhd,qxd hm (by decide)];rfl),hx]
   rw[e];exact xc2 s w hs s[0] h0 rfl hm _ rfl hrs
  ·have n1 : ¬ s.data.toList.head? = some 45:=by rw[hhd];intro h;exact hm (by rw[Option.some.inj h];rfl)
   by_cases hp:s[0].toNat=43
   ·have e:parse s.data.toList=qaf false (s.extract 1 s.size).data.toList:=by unfold parse;rw[if_neg n1,if_pos (by rw[hhd,qxd hp (by decide)];rfl),hx]
    rw[e];exact xc4 s w hs s[0] h0 rfl hp _ rfl hrs
   ·have n2 : ¬ s.data.toList.head? = some 43:=by rw[hhd];intro h;exact hp (by rw[Option.some.inj h];rfl)
    have e:parse s.data.toList=qaf false s.data.toList:=by unfold parse;rw[if_neg n1,if_neg n2]
    rw[e];exact xc3 s w hs s[0] h0 rfl hp hm
 ·have hz:s.size=0:=by omega
  have hn:s.data.toList=[]:=by rw[←List.length_eq_zero_iff];simpa using hz
  have e:parse s.data.toList=⟨0,0,1⟩:=by
   rw[hn]
   show qaf false []=_
   rw[qgz false rfl,if_neg (by simp)]
  rw[e];exact qx9 s w hz
end Go.Proofs.YtldkgbnmaefaaaaGreatDoor.Nu
