import Derived.Test.YtldkgbnmaefaaaaGreatDoorSfG4
import Derived.Test.YtldkgbnmaefaaaaGreatDoorSfG5
set_option maxRecDepth 100000
set_option maxHeartbeats 4000000
open Go.Lib (hid)
namespace Go.Proofs.YtldkgbnmaefaaaaGreatDoor.Sf
open Go.RowKit Go.Shelf
set_option linter.unusedVariables false
theorem qo9{s t:ByteArray}{l:List Nat}{i f:Nat}(h:Ok s t (l.drop i) f)(hi:i<l.length):f≤l[i]∧l[i]+t.size≤s.size∧Ok s t (l.drop (i+1)) (l[i]+t.size):=by
 rw[List.drop_eq_getElem_cons hi] at h
 exact⟨h.1,h.2.2.1,h.drop⟩
theorem qmg{T X Y:List UInt8}{o:ByteArray}(h:o.data.toList++X=T):o.size≤T.length:=by
 rw[←h,List.length_append,qag];omega
theorem qmi(s t u:ByteArray)(m:Int):(rpb s t u m).data.toList=rl s t u ((occ s t).take (tm s t m)) 0:=rfl
theorem qrc{l:List Nat}{k:Nat}(h:k=l.length):l.take k=l:=by rw[h,List.take_length]
theorem xdl{o a u:ByteArray}{X T:List UInt8}(h:o.data.toList++(a.data.toList++(u.data.toList++X))=T):(o++a++u).data.toList++X=T:=by
 rw[qbh,qbh,List.append_assoc,List.append_assoc];exact h
theorem qry(s t u:ByteArray)(m:Int)(w:World)(hs:s.size≤1048576)(ht:t.size≤1048576)(hu:u.size≤1048576)(hm:I64 m)(h:m<0) :
  Calls Tryz.prog 60 #[.string s,.string t,.string u,.int .i64 m] w fun e w'=>e=.returned (.tuple #[.string (rpS s t u m),.int .i64 (rpE s t u m)])∧Below w.heap.size w w':=by
 obtain⟨hm1,hm2⟩:=hm
 obtain⟨T,hT⟩ : ∃ T,(rpb s t u m).data.toList=T:=⟨_,rfl⟩
 have hTz:(rpb s t u m).size=T.length:=by rw[←hT,qag]
 have HT:=hid hT
 have HS:Hid (rpS s t u m=if 32768<T.length then⟨#[]⟩ else rpb s t u m):=hid (by rw[←hTz];rfl)
 have HEr:Hid (rpE s t u m=if 32768<T.length then 3 else 0):=hid (by rw[←hTz];rfl)
 clear hTz
 have dm:decide (0≤m)=false:=decide_eq_false (by omega)
 have hTT:rl s t u (occ s t) 0=T:=by
  have:tm s t m=(occ s t).length:=if_pos h
  rw[←hT,qmi,qrc this]
 have hK:=qje s t
 clear hT
 go_enter Tryz.func60,Tryz.ntmps60
 go_wp2_with fail
 refine(qb6 s t _ hs ht).mono ?_
 rintro e w1⟨A,c,rfl,hri,hb1⟩
 have HB1:=hid hb1
 obtain⟨l,hl⟩ : ∃ l,occ s t=l:=⟨_,rfl⟩
 rw[hl] at hri hTT hK
 have HR:=hid hri
 have HTT:=hid hTT
 have HK:=hid hK
 rw[hl]
 clear hl hri hTT hK hb1
 have hcl:=HR.out.le
 have hcm:=HR.out.mx
 obtain⟨n,hn⟩ : ∃ n,l.length=n:=⟨_,rfl⟩
 have HN:=hid hn
 rw[hn] at hcl
 rw[hn]
 clear hn
 go_wp2_with fail
 go_loopw [11,12,13] (fun ov fv iv wr => ∃ (i f:Nat) (o:ByteArray),iv=.int .i64 i∧i≤n∧fv=.int .i64 f∧ov=.string o∧o.size≤32768∧Hid (Ok s t (l.drop i) f)∧Hid (o.data.toList++rl s t u (l.drop i) f=T)∧Hid (RI wr A c l)∧Hid (Below w.heap.size w wr)) (fun _ _ i _=>n-(intOf i).toNat)
 case atStart=>exact⟨0,0,_,by go_num,Nat.zero_le _,rfl,rfl,Nat.zero_le _,HK,hid (by rw[List.drop_zero];exact HTT.out),HR,HB1⟩
 case round =>
  obtain⟨i,f,o,rfl,hi,rfl,rfl,ho,HO,HX,HRi,HB⟩:=hrel
  by_cases hlt:i<n
  ·have hd:decide ((i:Int)<(n:Int))=true:=decide_eq_true (by omega)
   have hlt2:i<l.length:=by rw[HN.out];exact hlt
   obtain⟨g,hA,hg1,hcell⟩:=HRi.out.at_ i hlt2
   obtain⟨m1,m2,m3⟩:=qo9 HO.out hlt2
   have hD:=qpj (s:=s) (t:=t) (u:=u) (f:=f) hlt2
   subst hA
   obtain⟨a,ha⟩ : ∃ a,l[i]=a:=⟨_,rfl⟩
   rw[ha] at m1 m2 m3 hcell hD
   have hX2:=HX.out
   rw[hD] at hX2
   have HX2:=hid (xdl hX2)
   have HO2:=hid m3
   have m4:(f:Int)≤(a:Int):=by omega
   have m5:(a:Int)≤(s.size:Int):=by omega
   have m6:a≤s.size:=by omega
   have z0:(s.extract f a).size≤s.size:=by rw[ByteArray.size_extract];omega
   have z1:o.size+(s.extract f a).size≤2000000:=by omega
   have z2:(o++s.extract f a).size+u.size≤4000000:=by rw[ByteArray.size_append];omega
   have hz:=qmg (X:=rl s t u (l.drop (i+1)) (a+t.size)) (Y:=[]) HX2.out
   obtain⟨O2,hO2⟩ : ∃ O2,o++s.extract f a++u=O2:=⟨_,rfl⟩
   rw[hO2] at HX2 hz
   have HE:=hid hO2
   clear ha hD hX2 hO2 m3
   by_cases hb:32768<O2.size
   ·have hd2:decide ((32768:Int)<(O2.size:Int))=true:=decide_eq_true (by omega)
    have HS2:Hid (rpS s t u m=⟨#[]⟩):=hid (by rw[HS.out,if_pos (by omega)])
    have HE2:Hid (rpE s t u m=3):=hid (by rw[HEr.out,if_pos (by omega)])
    clear hz hb
    go_wp2_with (simp only[HE.out])
    go_ret2
    exact⟨by rw[HS2.out,HE2.out];rfl,HB.out⟩
   ·have hd2:decide ((32768:Int)<(O2.size:Int))=false:=decide_eq_false (by omega)
    clear hz
    go_wp2_with (simp only[HE.out])
    go_roundw
    case rel=>exact⟨i+1,a+t.size,O2,by go_num,by omega,by go_num,rfl,by omega,HO2,HX2,HRi,HB⟩
    case measure=>simp[intOf];omega
  ·have hd:decide ((i:Int)<(n:Int))=false:=decide_eq_false (by omega)
   obtain rfl:i=n:=by omega
   have hle:=HO.out.le
   have hX2:=HX.out
   rw[←HN.out,qpk] at hX2
   have HO2:Hid (o++s.extract f s.size=rpb s t u m):=hid (qb4 (by rw[qbh,hX2,HT.out]))
   obtain⟨O2,hO2⟩ : ∃ O2,rpb s t u m=O2:=⟨_,rfl⟩
   rw[hO2] at HO2
   have m4:(f:Int)≤(s.size:Int):=by omega
   have z0:(s.extract f s.size).size≤s.size:=by rw[ByteArray.size_extract];omega
   have z1:o.size+(s.extract f s.size).size≤2000000:=by omega
   have hTz:T.length=O2.size:=by rw[←HT.out,hO2,qag]
   rw[hTz] at HS HEr
   rw[hO2] at HS
   clear hX2 hTz
   by_cases hb:32768<O2.size
   ·have hd2:decide ((32768:Int)<(O2.size:Int))=true:=decide_eq_true (by omega)
    have HS2:Hid (rpS s t u m=⟨#[]⟩):=hid (by rw[HS.out,if_pos hb])
    have HE2:Hid (rpE s t u m=3):=hid (by rw[HEr.out,if_pos hb])
    clear hb
    go_wp2_with (simp only[HO2.out])
    go_ret2
    exact⟨by rw[HS2.out,HE2.out];rfl,HB.out⟩
   ·have hd2:decide ((32768:Int)<(O2.size:Int))=false:=decide_eq_false (by omega)
    have HS2:Hid (rpS s t u m=O2):=hid (by rw[HS.out,if_neg hb])
    have HE2:Hid (rpE s t u m=0):=hid (by rw[HEr.out,if_neg hb])
    clear hb
    go_wp2_with (simp only[HO2.out])
    go_ret2
    exact⟨by rw[HS2.out,HE2.out];rfl,HB.out⟩
theorem qrz(s t u:ByteArray)(m:Int)(w:World)(hs:s.size≤1048576)(ht:t.size≤1048576)(hu:u.size≤1048576)(hm:I64 m)(h : ¬ m<0∧(occ s t).length≤m.toNat) :
  Calls Tryz.prog 60 #[.string s,.string t,.string u,.int .i64 m] w fun e w'=>e=.returned (.tuple #[.string (rpS s t u m),.int .i64 (rpE s t u m)])∧Below w.heap.size w w':=by
 obtain⟨hm1,hm2⟩:=hm
 obtain⟨T,hT⟩ : ∃ T,(rpb s t u m).data.toList=T:=⟨_,rfl⟩
 have hTz:(rpb s t u m).size=T.length:=by rw[←hT,qag]
 have HT:=hid hT
 have HS:Hid (rpS s t u m=if 32768<T.length then⟨#[]⟩ else rpb s t u m):=hid (by rw[←hTz];rfl)
 have HEr:Hid (rpE s t u m=if 32768<T.length then 3 else 0):=hid (by rw[←hTz];rfl)
 clear hTz
 have dm:decide (0≤m)=true:=decide_eq_true (by omega)
 have dn:decide (m<((occ s t).length:Int))=false:=decide_eq_false (by omega)
 have hTT:rl s t u (occ s t) 0=T:=by
  have:tm s t m=(occ s t).length:=by unfold tm;rw[if_neg h.1];omega
  rw[←hT,qmi,qrc this]
 have hK:=qje s t
 clear hT
 go_enter Tryz.func60,Tryz.ntmps60
 go_wp2_with fail
 refine(qb6 s t _ hs ht).mono ?_
 rintro e w1⟨A,c,rfl,hri,hb1⟩
 have HB1:=hid hb1
 obtain⟨l,hl⟩ : ∃ l,occ s t=l:=⟨_,rfl⟩
 rw[hl] at hri hTT hK dn
 have HR:=hid hri
 have HTT:=hid hTT
 have HK:=hid hK
 rw[hl]
 clear hl hri hTT hK hb1
 have hcl:=HR.out.le
 have hcm:=HR.out.mx
 obtain⟨n,hn⟩ : ∃ n,l.length=n:=⟨_,rfl⟩
 have HN:=hid hn
 rw[hn] at hcl dn
 rw[hn]
 clear hn
 go_wp2_with fail
 go_loopw [11,12,13] (fun ov fv iv wr => ∃ (i f:Nat) (o:ByteArray),iv=.int .i64 i∧i≤n∧fv=.int .i64 f∧ov=.string o∧o.size≤32768∧Hid (Ok s t (l.drop i) f)∧Hid (o.data.toList++rl s t u (l.drop i) f=T)∧Hid (RI wr A c l)∧Hid (Below w.heap.size w wr)) (fun _ _ i _=>n-(intOf i).toNat)
 case atStart=>exact⟨0,0,_,by go_num,Nat.zero_le _,rfl,rfl,Nat.zero_le _,HK,hid (by rw[List.drop_zero];exact HTT.out),HR,HB1⟩
 case round =>
  obtain⟨i,f,o,rfl,hi,rfl,rfl,ho,HO,HX,HRi,HB⟩:=hrel
  by_cases hlt:i<n
  ·have hd:decide ((i:Int)<(n:Int))=true:=decide_eq_true (by omega)
   have hlt2:i<l.length:=by rw[HN.out];exact hlt
   obtain⟨g,hA,hg1,hcell⟩:=HRi.out.at_ i hlt2
   obtain⟨m1,m2,m3⟩:=qo9 HO.out hlt2
   have hD:=qpj (s:=s) (t:=t) (u:=u) (f:=f) hlt2
   subst hA
   obtain⟨a,ha⟩ : ∃ a,l[i]=a:=⟨_,rfl⟩
   rw[ha] at m1 m2 m3 hcell hD
   have hX2:=HX.out
   rw[hD] at hX2
   have HX2:=hid (xdl hX2)
   have HO2:=hid m3
   have m4:(f:Int)≤(a:Int):=by omega
   have m5:(a:Int)≤(s.size:Int):=by omega
   have m6:a≤s.size:=by omega
   have z0:(s.extract f a).size≤s.size:=by rw[ByteArray.size_extract];omega
   have z1:o.size+(s.extract f a).size≤2000000:=by omega
   have z2:(o++s.extract f a).size+u.size≤4000000:=by rw[ByteArray.size_append];omega
   have hz:=qmg (X:=rl s t u (l.drop (i+1)) (a+t.size)) (Y:=[]) HX2.out
   obtain⟨O2,hO2⟩ : ∃ O2,o++s.extract f a++u=O2:=⟨_,rfl⟩
   rw[hO2] at HX2 hz
   have HE:=hid hO2
   clear ha hD hX2 hO2 m3
   by_cases hb:32768<O2.size
   ·have hd2:decide ((32768:Int)<(O2.size:Int))=true:=decide_eq_true (by omega)
    have HS2:Hid (rpS s t u m=⟨#[]⟩):=hid (by rw[HS.out,if_pos (by omega)])
    have HE2:Hid (rpE s t u m=3):=hid (by rw[HEr.out,if_pos (by omega)])
    clear hz hb
    go_wp2_with (simp only[HE.out])
    go_ret2
    exact⟨by rw[HS2.out,HE2.out];rfl,HB.out⟩
   ·have hd2:decide ((32768:Int)<(O2.size:Int))=false:=decide_eq_false (by omega)
    clear hz
    go_wp2_with (simp only[HE.out])
    go_roundw
    case rel=>exact⟨i+1,a+t.size,O2,by go_num,by omega,by go_num,rfl,by omega,HO2,HX2,HRi,HB⟩
    case measure=>simp[intOf];omega
  ·have hd:decide ((i:Int)<(n:Int))=false:=decide_eq_false (by omega)
   obtain rfl:i=n:=by omega
   have hle:=HO.out.le
   have hX2:=HX.out
   rw[←HN.out,qpk] at hX2
   have HO2:Hid (o++s.extract f s.size=rpb s t u m):=hid (qb4 (by rw[qbh,hX2,HT.out]))
   obtain⟨O2,hO2⟩ : ∃ O2,rpb s t u m=O2:=⟨_,rfl⟩
   rw[hO2] at HO2
   have m4:(f:Int)≤(s.size:Int):=by omega
   have z0:(s.extract f s.size).size≤s.size:=by rw[ByteArray.size_extract];omega
   have z1:o.size+(s.extract f s.size).size≤2000000:=by omega
   have hTz:T.length=O2.size:=by rw[←HT.out,hO2,qag]
   rw[hTz] at HS HEr
   rw[hO2] at HS
   clear hX2 hTz
   by_cases hb:32768<O2.size
   ·have hd2:decide ((32768:Int)<(O2.size:Int))=true:=decide_eq_true (by omega)
    have HS2:Hid (rpS s t u m=⟨#[]⟩):=hid (by rw[HS.out,if_pos hb])
    have HE2:Hid (rpE s t u m=3):=hid (by rw[HEr.out,if_pos hb])
    clear hb
    go_wp2_with (simp only[HO2.out])
    go_ret2
    exact⟨by rw[HS2.out,HE2.out];rfl,HB.out⟩
   ·have hd2:decide ((32768:Int)<(O2.size:Int))=false:=decide_eq_false (by omega)
    have HS2:Hid (rpS s t u m=O2):=hid (by rw[HS.out,if_neg hb])
    have HE2:Hid (rpE s t u m=0):=hid (by rw[HEr.out,if_neg hb])
    clear hb
    go_wp2_with (simp only[HO2.out])
    go_ret2
    exact⟨by rw[HS2.out,HE2.out];rfl,HB.out⟩
theorem qr0(s t u:ByteArray)(m:Int)(w:World)(hs:s.size≤1048576)(ht:t.size≤1048576)(hu:u.size≤1048576)(hm:I64 m)(h : ¬ m<0∧m.toNat<(occ s t).length) :
  Calls Tryz.prog 60 #[.string s,.string t,.string u,.int .i64 m] w fun e w'=>e=.returned (.tuple #[.string (rpS s t u m),.int .i64 (rpE s t u m)])∧Below w.heap.size w w':=by
 obtain⟨hm1,hm2⟩:=hm
 obtain⟨T,hT⟩ : ∃ T,(rpb s t u m).data.toList=T:=⟨_,rfl⟩
 have hTz:(rpb s t u m).size=T.length:=by rw[←hT,qag]
 have HT:=hid hT
 have HS:Hid (rpS s t u m=if 32768<T.length then⟨#[]⟩ else rpb s t u m):=hid (by rw[←hTz];rfl)
 have HEr:Hid (rpE s t u m=if 32768<T.length then 3 else 0):=hid (by rw[←hTz];rfl)
 clear hTz
 obtain⟨M,rfl⟩ : ∃ M:Nat,m=(M:Int):=⟨m.toNat,by omega⟩
 have hM:M<(occ s t).length:=by omega
 have dm:decide (0≤(M:Int))=true:=decide_eq_true (by omega)
 have dn:decide ((M:Int)<((occ s t).length:Int))=true:=decide_eq_true (by omega)
 have hTT:rl s t u ((occ s t).take M) 0=T:=by
  have:tm s t (M:Int)=M:=by unfold tm;rw[if_neg h.1];omega
  rw[←hT,qmi,this]
 have hK:=(qje s t).take M
 have hlen:((occ s t).take M).length=M:=by rw[List.length_take];omega
 clear hT
 go_enter Tryz.func60,Tryz.ntmps60
 go_wp2_with fail
 refine(qb6 s t _ hs ht).mono ?_
 rintro e w1⟨A,c,rfl,hri,hb1⟩
 have HB1:=hid hb1
 obtain⟨g,hA,hg1,_⟩:=hri.at_ 0 (by omega)
 subst hA
 have hcl0:=hri.le
 have hcm0:=hri.mx
 have HR:=hid (hri.take M)
 have HTT:=hid hTT
 have HK:=hid hK
 obtain⟨l,hl⟩ : ∃ l,(occ s t).take M=l:=⟨_,rfl⟩
 rw[hl] at HR HTT HK hlen
 obtain⟨N0,hN0⟩ : ∃ N0,(occ s t).length=N0:=⟨_,rfl⟩
 rw[hN0] at dn hM hcl0
 rw[hN0]
 have hMc:(M:Int)≤(c:Int):=by omega
 clear hl hri hTT hK hb1 hN0 h
 have hcl:=HR.out.le
 have hcm:=HR.out.mx
 have HN:=hid hlen
 rw[hlen] at hcl
 clear hlen
 go_wp2_with fail
 go_loopw [11,12,13] (fun ov fv iv wr => ∃ (i f:Nat) (o:ByteArray),iv=.int .i64 i∧i≤M∧fv=.int .i64 f∧ov=.string o∧o.size≤32768∧Hid (Ok s t (l.drop i) f)∧Hid (o.data.toList++rl s t u (l.drop i) f=T)∧Hid (RI wr (some ⟨g,0,none⟩) c l)∧Hid (Below w.heap.size w wr)) (fun _ _ i _=>M-(intOf i).toNat)
 case atStart=>exact⟨0,0,_,by go_num,Nat.zero_le _,rfl,rfl,Nat.zero_le _,HK,hid (by rw[List.drop_zero];exact HTT.out),HR,HB1⟩
 case round =>
  obtain⟨i,f,o,rfl,hi,rfl,rfl,ho,HO,HX,HRi,HB⟩:=hrel
  by_cases hlt:i<M
  ·have hd:decide ((i:Int)<(M:Int))=true:=decide_eq_true (by omega)
   have hlt2:i<l.length:=by rw[HN.out];exact hlt
   obtain⟨g2,hA,hg1,hcell⟩:=HRi.out.at_ i hlt2
   simp only[Option.some.injEq,Addr.mk.injEq,and_true] at hA
   obtain⟨m1,m2,m3⟩:=qo9 HO.out hlt2
   have hD:=qpj (s:=s) (t:=t) (u:=u) (f:=f) hlt2
   subst hA
   obtain⟨a,ha⟩ : ∃ a,l[i]=a:=⟨_,rfl⟩
   rw[ha] at m1 m2 m3 hcell hD
   have hX2:=HX.out
   rw[hD] at hX2
   have HX2:=hid (xdl hX2)
   have HO2:=hid m3
   have m4:(f:Int)≤(a:Int):=by omega
   have m5:(a:Int)≤(s.size:Int):=by omega
   have m6:a≤s.size:=by omega
   have z0:(s.extract f a).size≤s.size:=by rw[ByteArray.size_extract];omega
   have z1:o.size+(s.extract f a).size≤2000000:=by omega
   have z2:(o++s.extract f a).size+u.size≤4000000:=by rw[ByteArray.size_append];omega
   have hz:=qmg (X:=rl s t u (l.drop (i+1)) (a+t.size)) (Y:=[]) HX2.out
   obtain⟨O2,hO2⟩ : ∃ O2,o++s.extract f a++u=O2:=⟨_,rfl⟩
   rw[hO2] at HX2 hz
   have HE:=hid hO2
   clear ha hD hX2 hO2 m3
   by_cases hb:32768<O2.size
   ·have hd2:decide ((32768:Int)<(O2.size:Int))=true:=decide_eq_true (by omega)
    have HS2:Hid (rpS s t u (M:Int)=⟨#[]⟩):=hid (by rw[HS.out,if_pos (by omega)])
    have HE2:Hid (rpE s t u (M:Int)=3):=hid (by rw[HEr.out,if_pos (by omega)])
    clear hz hb
    go_wp2_with (simp only[HE.out])
    go_ret2
    exact⟨by rw[HS2.out,HE2.out];rfl,HB.out⟩
   ·have hd2:decide ((32768:Int)<(O2.size:Int))=false:=decide_eq_false (by omega)
    clear hz
    go_wp2_with (simp only[HE.out])
    go_roundw
    case rel=>exact⟨i+1,a+t.size,O2,by go_num,by omega,by go_num,rfl,by omega,HO2,HX2,HRi,HB⟩
    case measure=>simp[intOf];omega
  ·have hd:decide ((i:Int)<(M:Int))=false:=decide_eq_false (by omega)
   obtain rfl:M=i:=by omega
   have hle:=HO.out.le
   have hX2:=HX.out
   rw[←HN.out,qpk] at hX2
   have HO2:Hid (o++s.extract f s.size=rpb s t u (M:Int)):=hid (qb4 (by rw[qbh,hX2,HT.out]))
   obtain⟨O2,hO2⟩ : ∃ O2,rpb s t u (M:Int)=O2:=⟨_,rfl⟩
   rw[hO2] at HO2
   have m4:(f:Int)≤(s.size:Int):=by omega
   have z0:(s.extract f s.size).size≤s.size:=by rw[ByteArray.size_extract];omega
   have z1:o.size+(s.extract f s.size).size≤2000000:=by omega
   have hTz:T.length=O2.size:=by rw[←HT.out,hO2,qag]
   rw[hTz] at HS HEr
   rw[hO2] at HS
   clear hX2 hTz
   by_cases hb:32768<O2.size
   ·have hd2:decide ((32768:Int)<(O2.size:Int))=true:=decide_eq_true (by omega)
    have HS2:Hid (rpS s t u (M:Int)=⟨#[]⟩):=hid (by rw[HS.out,if_pos hb])
    have HE2:Hid (rpE s t u (M:Int)=3):=hid (by rw[HEr.out,if_pos hb])
    clear hb
    go_wp2_with (simp only[HO2.out])
    go_ret2
    exact⟨by rw[HS2.out,HE2.out];rfl,HB.out⟩
   ·have hd2:decide ((32768:Int)<(O2.size:Int))=false:=decide_eq_false (by omega)
    have HS2:Hid (rpS s t u (M:Int)=O2):=hid (by rw[HS.out,if_neg hb])
    have HE2:Hid (rpE s t u (M:Int)=0):=hid (by rw[HEr.out,if_neg hb])
    clear hb
    go_wp2_with (simp only[HO2.out])
    go_ret2
    exact⟨by rw[HS2.out,HE2.out];rfl,HB.out⟩
theorem qm4(s t u:ByteArray)(m:Int)(w:World)(hs:s.size≤1048576)(ht:t.size≤1048576)(hu:u.size≤1048576)(hm:I64 m) :
  Calls Tryz.prog 60 #[.string s,.string t,.string u,.int .i64 m] w fun e w'=>e=.returned (.tuple #[.string (rpS s t u m),.int .i64 (rpE s t u m)])∧Below w.heap.size w w':=by
 by_cases h:m<0
 ·exact qry s t u m w hs ht hu hm h
 ·by_cases h2:(occ s t).length≤m.toNat
  ·exact qrz s t u m w hs ht hu hm ⟨h,h2⟩
  ·exact qr0 s t u m w hs ht hu hm ⟨h,by omega⟩
end Go.Proofs.YtldkgbnmaefaaaaGreatDoor.Sf
