import Derived.Test.YtldkgbnmaefaaaaGreatDoorCaH4
import Derived.Test.YtldkgbnmaefaaaaGreatDoorCaH1
set_option maxRecDepth 100000
set_option maxHeartbeats 4000000
open Go.Lib (hid)
namespace Go.Proofs.YtldkgbnmaefaaaaGreatDoor.Ca
open Go.RowKit
set_option linter.unusedVariables false
set_option linter.unusedSimpArgs false
def rn(l:List UInt8):Int:=if l.all isD then dv l else -1
theorem qdf{l:List UInt8}(h : ∀ c∈l,isD c=true):rn l=dv l:=by unfold rn;rw[if_pos (List.all_eq_true.2 h)]
theorem xd8{l:List UInt8}{c:UInt8}(hc:c∈l)(h:isD c=false):rn l = -1:=by
 unfold rn;rw[if_neg];intro ha;rw[List.all_eq_true.1 ha c hc] at h;cases h
theorem qh4{l:List UInt8}(h:0≤rn l) : ∀ c∈l,isD c=true:=by
 unfold rn at h
 split at h
 ·rename_i ha;exact List.all_eq_true.1 ha
 ·omega
theorem xbp{l:List UInt8}(h:l.length≤4) : -1≤rn l∧rn l<10000:=by
 unfold rn;split
 ·rename_i ha;have:=qcb (List.all_eq_true.1 ha) h;omega
 ·omega
theorem qvq(s:ByteArray)(i k:Nat)(h:i+k<s.size):(s.data.toList.drop i).take (k+1)=(s.data.toList.drop i).take k++[s[i+k]]:=by
 rw[List.take_succ_eq_append_getElem (by rw[List.length_drop];simp;omega),List.getElem_drop]
 simp[ByteArray.getElem_eq_getElem_data]
theorem qzy(s:ByteArray)(i n:Nat)(w:World)(hn:n≤4)(hi:i+n≤s.size)(hs:s.size≤1000) :
  Calls Tryz.prog 51 #[.string s,.int .i64 i,.int .i64 n] w fun e w'=>e=.returned (.int .i64 (rn ((s.data.toList.drop i).take n)))∧Below w.heap.size w w':=by
 go_enter Tryz.func51,Tryz.ntmps51
 go_wp2
 go_loop [7,8] (fun v t => ∃ k:Nat,k≤n∧t=.int .i64 ((i:Int)+k)∧v=.int .i64 (dv ((s.data.toList.drop i).take k))∧Hid (∀ c∈(s.data.toList.drop i).take k,isD c=true)) (fun _ t=>i+n-(intOf t).toNat)
 case atStart=>exact⟨0,Nat.zero_le _,by go_num,rfl,hid (by simp)⟩
 case round =>
  obtain⟨k,hk,rfl,rfl,HD⟩:=hrel
  have hb:=qcb HD.out (by rw[List.length_take];omega)
  by_cases hlt:k<n
  ·have hik:i+k<s.size:=by omega
   have hpt:=qvq s i k hik
   have hj:(i:Int)+k<(i:Int)+n:=by omega
   have hj2:((i:Int)+k).toNat=i+k:=by omega
   have hj3:(i:Int)+k<(s.size:Int):=by omega
   by_cases hdg:isD s[i+k]=true
   ·obtain⟨b1,b2⟩:=qqo hdg
    have i1:(48:Int)≤(s[i+k].toNat:Int):=by omega
    have i2:(s[i+k].toNat:Int)≤57:=by omega
    have HS:Hid (dv ((s.data.toList.drop i).take (k+1))=dv ((s.data.toList.drop i).take k)*10+((s[i+k].toNat:Int)-48)):=hid (by rw[hpt];unfold dv;rw[qt5];show 10*_+_=_;rw[Int.mul_comm])
    have HD2:Hid (∀ c∈(s.data.toList.drop i).take (k+1),isD c=true):=hid (by
     rw[hpt];intro c hc
     rcases List.mem_append.1 hc with h | h
     ·exact HD.out c h
     ·simp at h;rw[h];exact hdg)
    clear hpt hdg b1 b2
    go_wp2
    go_round
    case rel=>exact⟨k+1,by omega,by go_num,by rw[HS.out],HD2⟩
    case measure=>simp[intOf];omega
   ·have HR:Hid (rn ((s.data.toList.drop i).take n) = -1):=hid (xd8 (c:=s[i+k]) (by
     have:(s.data.toList.drop i).take (k+1) <+: (s.data.toList.drop i).take n:=List.take_prefix_take_left (by omega)
     exact this.subset (by rw[hpt];simp)) (by simpa using hdg))
    have hnd : ¬ (48≤s[i+k].toNat∧s[i+k].toNat≤57):=fun h=>hdg (by unfold isD;rw[decide_eq_true_iff];exact h)
    clear hpt hdg
    by_cases hlo:s[i+k].toNat<48
    ·have i1:(s[i+k].toNat:Int)<48:=by omega
     clear hnd hlo
     go_wp2
     go_ret
     exact⟨by rw[HR.out];rfl,Below.refl _ _⟩
    ·have i1:(48:Int)≤(s[i+k].toNat:Int):=by omega
     have i2:(57:Int)<(s[i+k].toNat:Int):=by omega
     clear hnd hlo
     go_wp2
     go_ret
     exact⟨by rw[HR.out];rfl,Below.refl _ _⟩
  ·obtain rfl:k=n:=by omega
   have HR:=hid (qdf HD.out)
   go_wp2
   go_ret
   exact⟨by rw[HR.out];rfl,Below.refl _ _⟩
structure Fm (l:List UInt8):Prop where
 a:gb l 4=45
 b:gb l 7=45
 c:l.length=16→gb l 10=32∧gb l 13=58
theorem qln{a b:UInt8}(h:fits a b=true)(ha:a≠48):b=a:=by unfold fits at h;rw[if_neg ha] at h;exact of_decide_eq_true h
theorem qhp{l:List UInt8}(h:form l=true)(hl:l.length=10∨l.length=16):Fm l:=by
 have h2:=h
 unfold form at h2
 rw[Bool.and_eq_true] at h2
 have hh:=(qd7 qin l (by show l.length≤16;omega)).1 h2.2
 exact⟨qln (a:=45) (hh 4 (by omega)) (by decide),qln (a:=45) (hh 7 (by omega)) (by decide),fun e=>⟨qln (a:=32) (hh 10 (by omega)) (by decide),qln (a:=58) (hh 13 (by omega)) (by decide)⟩⟩
theorem qji{l:List UInt8}{a n j:Nat}(h : ∀ c∈(l.drop a).take n,isD c=true)(hj:j<n)(hl:a+j<l.length):isD (gb l (a+j))=true:=by
 refine h _ ?_
 have e:gb l (a+j)=((l.drop a).take n)[j]'(by rw[List.length_take,List.length_drop];omega):=by
  unfold gb;rw[List.getElem_take,List.getElem_drop,List.getD_eq_getElem?_getD,List.getElem?_eq_getElem hl];rfl
 rw[e];exact List.getElem_mem _
theorem quh{l:List UInt8}(hl:l.length=10∨l.length=16)(f:Fm l)(h1 : ∀ c∈(l.drop 0).take 4,isD c=true)(h2 : ∀ c∈(l.drop 5).take 2,isD c=true)(h3 : ∀ c∈(l.drop 8).take 2,isD c=true)
  (h4:l.length=16→(∀ c∈(l.drop 11).take 2,isD c=true)∧(∀ c∈(l.drop 14).take 2,isD c=true)):form l=true:=by
 have k1:=fun j hj=>qji (j:=j) h1 hj (by omega)
 have k2:=fun j hj=>qji (j:=j) h2 hj (by omega)
 have k3:=fun j hj=>qji (j:=j) h3 hj (by omega)
 have k4:=fun(e:l.length=16) j hj=>qji (j:=j) (h4 e).1 hj (by omega)
 have k5:=fun(e:l.length=16) j hj=>qji (j:=j) (h4 e).2 hj (by omega)
 unfold form
 rw[Bool.and_eq_true]
 refine⟨by rcases hl with e | e<;>rw[e]<;>rfl,(qd7 qin l (by show l.length≤16;omega)).2 fun i hi => ?_⟩
 have dg : ∀ b:UInt8,isD b=true→fits 48 b=true:=fun b hb=>by unfold fits;rw[if_pos rfl];exact hb
 have sg : ∀ a b:UInt8,a≠48→b=a→fits a b=true:=fun a b ha hb=>by unfold fits;rw[if_neg ha];simp[hb]
 have h16:i≤15:=by omega
 match i,h16 with
 | 0,_=>exact dg _ (k1 0 (by omega))
 | 1,_=>exact dg _ (k1 1 (by omega))
 | 2,_=>exact dg _ (k1 2 (by omega))
 | 3,_=>exact dg _ (k1 3 (by omega))
 | 4,_=>exact sg 45 _ (by decide) f.a
 | 5,_=>exact dg _ (k2 0 (by omega))
 | 6,_=>exact dg _ (k2 1 (by omega))
 | 7,_=>exact sg 45 _ (by decide) f.b
 | 8,_=>exact dg _ (k3 0 (by omega))
 | 9,_=>exact dg _ (k3 1 (by omega))
 | 10,_=>exact sg 32 _ (by decide) (f.c (by omega)).1
 | 11,_=>exact dg _ (k4 (by omega) 0 (by omega))
 | 12,_=>exact dg _ (k4 (by omega) 1 (by omega))
 | 13,_=>exact sg 58 _ (by decide) (f.c (by omega)).2
 | 14,_=>exact dg _ (k5 (by omega) 0 (by omega))
 | 15,_=>exact dg _ (k5 (by omega) 1 (by omega))
 |n+16,h=>omega
end Go.Proofs.YtldkgbnmaefaaaaGreatDoor.Ca
namespace Go.Proofs.YtldkgbnmaefaaaaGreatDoor.Ca
open Go.RowKit
set_option linter.unusedVariables false
set_option linter.unusedSimpArgs false
theorem qah(s:ByteArray)(i n:Nat)(I N:Int)(v:Int)(w:World)(hI:(i:Int)=I)(hN:(n:Int)=N)(hn:n≤4)(hi:i+n≤s.size)(hs:s.size≤1000)(hv:rn ((s.data.toList.drop i).take n)=v) :
  Calls Tryz.prog 51 #[.string s,.int .i64 I,.int .i64 N] w fun e w'=>e=.returned (.int .i64 v)∧Below w.heap.size w w':=by
 subst hI hN hv;exact qzy s i n w hn hi hs
structure Nr (s:ByteArray) (Y M D:Int):Prop where
 y:rn ((s.data.toList.drop 0).take 4)=Y
 m:rn ((s.data.toList.drop 5).take 2)=M
 d:rn ((s.data.toList.drop 8).take 2)=D
theorem q3f(s:ByteArray)(w:World){Y M D:Int}(hs:s.size=10)(N:Nr s Y M D)(gs4:gb s.data.toList 4≠45) :
  Calls Tryz.prog 34 #[.string s] w fun e w'=>e=.returned (.tuple #[.int .i64 0,.int .i64 1])∧Below w.heap.size w w':=by
 have fs4:(((s[4]'(by omega)).toNat:Int) != 45)=true:=(qg8 (by rw[←qaq s 4 (by omega)];exact gs4:s[4]'(by omega)≠45)).2
 clear gs4
 clear N
 go_enter Tryz.func34,Tryz.ntmps34
 go_wp2
 go_ret2
 exact⟨rfl,Below.refl _ _⟩
theorem q3g(s:ByteArray)(w:World){Y M D:Int}(hs:s.size=10)(N:Nr s Y M D)(gs4:gb s.data.toList 4=45)(gs7:gb s.data.toList 7≠45) :
  Calls Tryz.prog 34 #[.string s] w fun e w'=>e=.returned (.tuple #[.int .i64 0,.int .i64 1])∧Below w.heap.size w w':=by
 have fs4:(((s[4]'(by omega)).toNat:Int) != 45)=false:=(qax (by rw[←qaq s 4 (by omega)];exact gs4:s[4]'(by omega)=45)).2
 have fs7:(((s[7]'(by omega)).toNat:Int) != 45)=true:=(qg8 (by rw[←qaq s 7 (by omega)];exact gs7:s[7]'(by omega)≠45)).2
 clear gs4
 clear gs7
 clear N
 go_enter Tryz.func34,Tryz.ntmps34
 go_wp2
 go_ret2
 exact⟨rfl,Below.refl _ _⟩
theorem q9k(s:ByteArray)(w:World){Y M D:Int}(hs:s.size=10)(N:Nr s Y M D)(gs4:gb s.data.toList 4=45)(gs7:gb s.data.toList 7=45)(gY:Y<0) :
  Calls Tryz.prog 34 #[.string s] w fun e w'=>e=.returned (.tuple #[.int .i64 0,.int .i64 1])∧Below w.heap.size w w':=by
 have fs4:(((s[4]'(by omega)).toNat:Int) != 45)=false:=(qax (by rw[←qaq s 4 (by omega)];exact gs4:s[4]'(by omega)=45)).2
 have fs7:(((s[7]'(by omega)).toNat:Int) != 45)=false:=(qax (by rw[←qaq s 7 (by omega)];exact gs7:s[7]'(by omega)=45)).2
 have HN1:=hid (fun w=>qah s 0 4 0 4 Y w rfl rfl (by omega) (by omega) (by omega) N.y)
 have HN2:=hid (fun w=>qah s 5 2 5 2 M w rfl rfl (by omega) (by omega) (by omega) N.m)
 have HN3:=hid (fun w=>qah s 8 2 8 2 D w rfl rfl (by omega) (by omega) (by omega) N.d)
 clear gs4
 clear gs7
 clear N
 go_enter Tryz.func34,Tryz.ntmps34
 go_wp2_with fail
 (with_reducible refine(HN1.out _).mono ?_)
 rintro e1 w1⟨rfl,hb1⟩
 have HB1:=hid hb1
 clear hb1
 go_wp2_with fail
 (with_reducible refine(HN2.out _).mono ?_)
 rintro e2 w2⟨rfl,hb2⟩
 have HB2:=hid (HB1.out.trans (hb2.mono HB1.out.size))
 clear hb2
 go_wp2_with fail
 (with_reducible refine(HN3.out _).mono ?_)
 rintro e3 w3⟨rfl,hb3⟩
 have HB3:=hid (HB2.out.trans (hb3.mono HB2.out.size))
 clear hb3
 have X:=Nm3.new w3 Y M D
 have HX:=hid (HB3.out.alloc HB3.out.size (.cells #[.int .i64 Y,.int .i64 M,.int .i64 D] 95))
 have q0:=X.c0
 have q1:=X.c1
 have q2:=X.c2
 go_wp2
 go_ret2
 exact⟨rfl,HX.out⟩
theorem q9j(s:ByteArray)(w:World){Y M D:Int}(hs:s.size=10)(N:Nr s Y M D)(gs4:gb s.data.toList 4=45)(gs7:gb s.data.toList 7=45)(gY:0≤Y)(gM:M<0) :
  Calls Tryz.prog 34 #[.string s] w fun e w'=>e=.returned (.tuple #[.int .i64 0,.int .i64 1])∧Below w.heap.size w w':=by
 have fs4:(((s[4]'(by omega)).toNat:Int) != 45)=false:=(qax (by rw[←qaq s 4 (by omega)];exact gs4:s[4]'(by omega)=45)).2
 have fs7:(((s[7]'(by omega)).toNat:Int) != 45)=false:=(qax (by rw[←qaq s 7 (by omega)];exact gs7:s[7]'(by omega)=45)).2
 have HN1:=hid (fun w=>qah s 0 4 0 4 Y w rfl rfl (by omega) (by omega) (by omega) N.y)
 have HN2:=hid (fun w=>qah s 5 2 5 2 M w rfl rfl (by omega) (by omega) (by omega) N.m)
 have HN3:=hid (fun w=>qah s 8 2 8 2 D w rfl rfl (by omega) (by omega) (by omega) N.d)
 clear gs4
 clear gs7
 clear N
 go_enter Tryz.func34,Tryz.ntmps34
 go_wp2_with fail
 (with_reducible refine(HN1.out _).mono ?_)
 rintro e1 w1⟨rfl,hb1⟩
 have HB1:=hid hb1
 clear hb1
 go_wp2_with fail
 (with_reducible refine(HN2.out _).mono ?_)
 rintro e2 w2⟨rfl,hb2⟩
 have HB2:=hid (HB1.out.trans (hb2.mono HB1.out.size))
 clear hb2
 go_wp2_with fail
 (with_reducible refine(HN3.out _).mono ?_)
 rintro e3 w3⟨rfl,hb3⟩
 have HB3:=hid (HB2.out.trans (hb3.mono HB2.out.size))
 clear hb3
 have X:=Nm3.new w3 Y M D
 have HX:=hid (HB3.out.alloc HB3.out.size (.cells #[.int .i64 Y,.int .i64 M,.int .i64 D] 95))
 have q0:=X.c0
 have q1:=X.c1
 have q2:=X.c2
 go_wp2
 go_ret2
 exact⟨rfl,HX.out⟩
theorem q9i(s:ByteArray)(w:World){Y M D:Int}(hs:s.size=10)(N:Nr s Y M D)(gs4:gb s.data.toList 4=45)(gs7:gb s.data.toList 7=45)(gY:0≤Y)(gM:0≤M)(gD:D<0) :
  Calls Tryz.prog 34 #[.string s] w fun e w'=>e=.returned (.tuple #[.int .i64 0,.int .i64 1])∧Below w.heap.size w w':=by
 have fs4:(((s[4]'(by omega)).toNat:Int) != 45)=false:=(qax (by rw[←qaq s 4 (by omega)];exact gs4:s[4]'(by omega)=45)).2
 have fs7:(((s[7]'(by omega)).toNat:Int) != 45)=false:=(qax (by rw[←qaq s 7 (by omega)];exact gs7:s[7]'(by omega)=45)).2
 have HN1:=hid (fun w=>qah s 0 4 0 4 Y w rfl rfl (by omega) (by omega) (by omega) N.y)
 have HN2:=hid (fun w=>qah s 5 2 5 2 M w rfl rfl (by omega) (by omega) (by omega) N.m)
 have HN3:=hid (fun w=>qah s 8 2 8 2 D w rfl rfl (by omega) (by omega) (by omega) N.d)
 clear gs4
 clear gs7
 clear N
 go_enter Tryz.func34,Tryz.ntmps34
 go_wp2_with fail
 (with_reducible refine(HN1.out _).mono ?_)
 rintro e1 w1⟨rfl,hb1⟩
 have HB1:=hid hb1
 clear hb1
 go_wp2_with fail
 (with_reducible refine(HN2.out _).mono ?_)
 rintro e2 w2⟨rfl,hb2⟩
 have HB2:=hid (HB1.out.trans (hb2.mono HB1.out.size))
 clear hb2
 go_wp2_with fail
 (with_reducible refine(HN3.out _).mono ?_)
 rintro e3 w3⟨rfl,hb3⟩
 have HB3:=hid (HB2.out.trans (hb3.mono HB2.out.size))
 clear hb3
 have X:=Nm3.new w3 Y M D
 have HX:=hid (HB3.out.alloc HB3.out.size (.cells #[.int .i64 Y,.int .i64 M,.int .i64 D] 95))
 have q0:=X.c0
 have q1:=X.c1
 have q2:=X.c2
 go_wp2
 go_ret2
 exact⟨rfl,HX.out⟩
theorem q3e(s:ByteArray)(w:World){Y M D:Int}(hs:s.size=10)(N:Nr s Y M D)(gs4:gb s.data.toList 4=45)(gs7:gb s.data.toList 7=45)(gY:0≤Y)(gM:0≤M)(gD:0≤D) :
  Calls Tryz.prog 34 #[.string s] w fun e w'=>e=.returned (.tuple #[.int .i64 (qlt Y M D (0)).n,.int .i64 (qlt Y M D (0)).e])∧Below w.heap.size w w':=by
 have fs4:(((s[4]'(by omega)).toNat:Int) != 45)=false:=(qax (by rw[←qaq s 4 (by omega)];exact gs4:s[4]'(by omega)=45)).2
 have fs7:(((s[7]'(by omega)).toNat:Int) != 45)=false:=(qax (by rw[←qaq s 7 (by omega)];exact gs7:s[7]'(by omega)=45)).2
 have HN1:=hid (fun w=>qah s 0 4 0 4 Y w rfl rfl (by omega) (by omega) (by omega) N.y)
 have HN2:=hid (fun w=>qah s 5 2 5 2 M w rfl rfl (by omega) (by omega) (by omega) N.m)
 have HN3:=hid (fun w=>qah s 8 2 8 2 D w rfl rfl (by omega) (by omega) (by omega) N.d)
 have HM:=hid (fun w=>qee Y M D (0) w)
 clear gs4
 clear gs7
 clear N
 go_enter Tryz.func34,Tryz.ntmps34
 go_wp2_with fail
 (with_reducible refine(HN1.out _).mono ?_)
 rintro e1 w1⟨rfl,hb1⟩
 have HB1:=hid hb1
 clear hb1
 go_wp2_with fail
 (with_reducible refine(HN2.out _).mono ?_)
 rintro e2 w2⟨rfl,hb2⟩
 have HB2:=hid (HB1.out.trans (hb2.mono HB1.out.size))
 clear hb2
 go_wp2_with fail
 (with_reducible refine(HN3.out _).mono ?_)
 rintro e3 w3⟨rfl,hb3⟩
 have HB3:=hid (HB2.out.trans (hb3.mono HB2.out.size))
 clear hb3
 have X:=Nm3.new w3 Y M D
 have HX:=hid (HB3.out.alloc HB3.out.size (.cells #[.int .i64 Y,.int .i64 M,.int .i64 D] 95))
 have q0:=X.c0
 have q1:=X.c1
 have q2:=X.c2
 go_wp2_with fail
 (with_reducible refine(HM.out _).mono ?_)
 rintro e9 w9⟨rfl,hb9⟩
 have HB9:=hid (HX.out.trans (hb9.mono HX.out.size))
 clear hb9
 go_wp2
 go_ret2
 exact⟨rfl,HB9.out⟩
theorem q3k(s:ByteArray)(w:World){Y M D h m:Int}(hs:s.size=16)(N:Nr s Y M D)(hh:rn ((s.data.toList.drop 11).take 2)=h)(hm:rn ((s.data.toList.drop 14).take 2)=m)(hu4:h<10000)(hu5:m<10000)(gs4:gb s.data.toList 4≠45) :
  Calls Tryz.prog 34 #[.string s] w fun e w'=>e=.returned (.tuple #[.int .i64 0,.int .i64 1])∧Below w.heap.size w w':=by
 have fs4:(((s[4]'(by omega)).toNat:Int) != 45)=true:=(qg8 (by rw[←qaq s 4 (by omega)];exact gs4:s[4]'(by omega)≠45)).2
 clear gs4
 clear N
 go_enter Tryz.func34,Tryz.ntmps34
 go_wp2
 go_ret2
 exact⟨rfl,Below.refl _ _⟩
theorem q3l(s:ByteArray)(w:World){Y M D h m:Int}(hs:s.size=16)(N:Nr s Y M D)(hh:rn ((s.data.toList.drop 11).take 2)=h)(hm:rn ((s.data.toList.drop 14).take 2)=m)(hu4:h<10000)(hu5:m<10000)(gs4:gb s.data.toList 4=45)(gs7:gb s.data.toList 7≠45) :
  Calls Tryz.prog 34 #[.string s] w fun e w'=>e=.returned (.tuple #[.int .i64 0,.int .i64 1])∧Below w.heap.size w w':=by
 have fs4:(((s[4]'(by omega)).toNat:Int) != 45)=false:=(qax (by rw[←qaq s 4 (by omega)];exact gs4:s[4]'(by omega)=45)).2
 have fs7:(((s[7]'(by omega)).toNat:Int) != 45)=true:=(qg8 (by rw[←qaq s 7 (by omega)];exact gs7:s[7]'(by omega)≠45)).2
 clear gs4
 clear gs7
 clear N
 go_enter Tryz.func34,Tryz.ntmps34
 go_wp2
 go_ret2
 exact⟨rfl,Below.refl _ _⟩
theorem qx4(s:ByteArray)(w:World){Y M D h m:Int}(hs:s.size=16)(N:Nr s Y M D)(hh:rn ((s.data.toList.drop 11).take 2)=h)(hm:rn ((s.data.toList.drop 14).take 2)=m)(hu4:h<10000)(hu5:m<10000)(gs4:gb s.data.toList 4=45)(gs7:gb s.data.toList 7=45)(gs10:gb s.data.toList 10≠32) :
  Calls Tryz.prog 34 #[.string s] w fun e w'=>e=.returned (.tuple #[.int .i64 0,.int .i64 1])∧Below w.heap.size w w':=by
 have fs4:(((s[4]'(by omega)).toNat:Int) != 45)=false:=(qax (by rw[←qaq s 4 (by omega)];exact gs4:s[4]'(by omega)=45)).2
 have fs7:(((s[7]'(by omega)).toNat:Int) != 45)=false:=(qax (by rw[←qaq s 7 (by omega)];exact gs7:s[7]'(by omega)=45)).2
 have fs10:(((s[10]'(by omega)).toNat:Int) != 32)=true:=(qg8 (by rw[←qaq s 10 (by omega)];exact gs10:s[10]'(by omega)≠32)).2
 have HN1:=hid (fun w=>qah s 0 4 0 4 Y w rfl rfl (by omega) (by omega) (by omega) N.y)
 have HN2:=hid (fun w=>qah s 5 2 5 2 M w rfl rfl (by omega) (by omega) (by omega) N.m)
 have HN3:=hid (fun w=>qah s 8 2 8 2 D w rfl rfl (by omega) (by omega) (by omega) N.d)
 clear gs4
 clear gs7
 clear gs10
 clear N
 go_enter Tryz.func34,Tryz.ntmps34
 go_wp2_with fail
 (with_reducible refine(HN1.out _).mono ?_)
 rintro e1 w1⟨rfl,hb1⟩
 have HB1:=hid hb1
 clear hb1
 go_wp2_with fail
 (with_reducible refine(HN2.out _).mono ?_)
 rintro e2 w2⟨rfl,hb2⟩
 have HB2:=hid (HB1.out.trans (hb2.mono HB1.out.size))
 clear hb2
 go_wp2_with fail
 (with_reducible refine(HN3.out _).mono ?_)
 rintro e3 w3⟨rfl,hb3⟩
 have HB3:=hid (HB2.out.trans (hb3.mono HB2.out.size))
 clear hb3
 have X:=Nm3.new w3 Y M D
 have HX:=hid (HB3.out.alloc HB3.out.size (.cells #[.int .i64 Y,.int .i64 M,.int .i64 D] 95))
 go_wp2
 go_ret2
 exact⟨rfl,HX.out⟩
theorem qx5(s:ByteArray)(w:World){Y M D h m:Int}(hs:s.size=16)(N:Nr s Y M D)(hh:rn ((s.data.toList.drop 11).take 2)=h)(hm:rn ((s.data.toList.drop 14).take 2)=m)(hu4:h<10000)(hu5:m<10000)(gs4:gb s.data.toList 4=45)(gs7:gb s.data.toList 7=45)(gs10:gb s.data.toList 10=32)(gs13:gb s.data.toList 13≠58) :
  Calls Tryz.prog 34 #[.string s] w fun e w'=>e=.returned (.tuple #[.int .i64 0,.int .i64 1])∧Below w.heap.size w w':=by
 have fs4:(((s[4]'(by omega)).toNat:Int) != 45)=false:=(qax (by rw[←qaq s 4 (by omega)];exact gs4:s[4]'(by omega)=45)).2
 have fs7:(((s[7]'(by omega)).toNat:Int) != 45)=false:=(qax (by rw[←qaq s 7 (by omega)];exact gs7:s[7]'(by omega)=45)).2
 have fs10:(((s[10]'(by omega)).toNat:Int) != 32)=false:=(qax (by rw[←qaq s 10 (by omega)];exact gs10:s[10]'(by omega)=32)).2
 have fs13:(((s[13]'(by omega)).toNat:Int) != 58)=true:=(qg8 (by rw[←qaq s 13 (by omega)];exact gs13:s[13]'(by omega)≠58)).2
 have HN1:=hid (fun w=>qah s 0 4 0 4 Y w rfl rfl (by omega) (by omega) (by omega) N.y)
 have HN2:=hid (fun w=>qah s 5 2 5 2 M w rfl rfl (by omega) (by omega) (by omega) N.m)
 have HN3:=hid (fun w=>qah s 8 2 8 2 D w rfl rfl (by omega) (by omega) (by omega) N.d)
 clear gs4
 clear gs7
 clear gs10
 clear gs13
 clear N
 go_enter Tryz.func34,Tryz.ntmps34
 go_wp2_with fail
 (with_reducible refine(HN1.out _).mono ?_)
 rintro e1 w1⟨rfl,hb1⟩
 have HB1:=hid hb1
 clear hb1
 go_wp2_with fail
 (with_reducible refine(HN2.out _).mono ?_)
 rintro e2 w2⟨rfl,hb2⟩
 have HB2:=hid (HB1.out.trans (hb2.mono HB1.out.size))
 clear hb2
 go_wp2_with fail
 (with_reducible refine(HN3.out _).mono ?_)
 rintro e3 w3⟨rfl,hb3⟩
 have HB3:=hid (HB2.out.trans (hb3.mono HB2.out.size))
 clear hb3
 have X:=Nm3.new w3 Y M D
 have HX:=hid (HB3.out.alloc HB3.out.size (.cells #[.int .i64 Y,.int .i64 M,.int .i64 D] 95))
 go_wp2
 go_ret2
 exact⟨rfl,HX.out⟩
theorem q9n(s:ByteArray)(w:World){Y M D h m:Int}(hs:s.size=16)(N:Nr s Y M D)(hh:rn ((s.data.toList.drop 11).take 2)=h)(hm:rn ((s.data.toList.drop 14).take 2)=m)(hu4:h<10000)(hu5:m<10000)(gs4:gb s.data.toList 4=45)(gs7:gb s.data.toList 7=45)(gs10:gb s.data.toList 10=32)(gs13:gb s.data.toList 13=58)(gY:Y<0) :
  Calls Tryz.prog 34 #[.string s] w fun e w'=>e=.returned (.tuple #[.int .i64 0,.int .i64 1])∧Below w.heap.size w w':=by
 have fs4:(((s[4]'(by omega)).toNat:Int) != 45)=false:=(qax (by rw[←qaq s 4 (by omega)];exact gs4:s[4]'(by omega)=45)).2
 have fs7:(((s[7]'(by omega)).toNat:Int) != 45)=false:=(qax (by rw[←qaq s 7 (by omega)];exact gs7:s[7]'(by omega)=45)).2
 have fs10:(((s[10]'(by omega)).toNat:Int) != 32)=false:=(qax (by rw[←qaq s 10 (by omega)];exact gs10:s[10]'(by omega)=32)).2
 have fs13:(((s[13]'(by omega)).toNat:Int) != 58)=false:=(qax (by rw[←qaq s 13 (by omega)];exact gs13:s[13]'(by omega)=58)).2
 have HN1:=hid (fun w=>qah s 0 4 0 4 Y w rfl rfl (by omega) (by omega) (by omega) N.y)
 have HN2:=hid (fun w=>qah s 5 2 5 2 M w rfl rfl (by omega) (by omega) (by omega) N.m)
 have HN3:=hid (fun w=>qah s 8 2 8 2 D w rfl rfl (by omega) (by omega) (by omega) N.d)
 have HN4:=hid (fun w=>qah s 11 2 11 2 h w rfl rfl (by omega) (by omega) (by omega) hh)
 have HN5:=hid (fun w=>qah s 14 2 14 2 m w rfl rfl (by omega) (by omega) (by omega) hm)
 clear gs4
 clear gs7
 clear gs10
 clear gs13
 clear N
 go_enter Tryz.func34,Tryz.ntmps34
 go_wp2_with fail
 (with_reducible refine(HN1.out _).mono ?_)
 rintro e1 w1⟨rfl,hb1⟩
 have HB1:=hid hb1
 clear hb1
 go_wp2_with fail
 (with_reducible refine(HN2.out _).mono ?_)
 rintro e2 w2⟨rfl,hb2⟩
 have HB2:=hid (HB1.out.trans (hb2.mono HB1.out.size))
 clear hb2
 go_wp2_with fail
 (with_reducible refine(HN3.out _).mono ?_)
 rintro e3 w3⟨rfl,hb3⟩
 have HB3:=hid (HB2.out.trans (hb3.mono HB2.out.size))
 clear hb3
 have X:=Nm3.new w3 Y M D
 have HX:=hid (HB3.out.alloc HB3.out.size (.cells #[.int .i64 Y,.int .i64 M,.int .i64 D] 95))
 go_wp2_with fail
 (with_reducible refine(HN4.out _).mono ?_)
 rintro e4 w4⟨rfl,hb4⟩
 have HB4:=hid (HX.out.trans (hb4.mono HX.out.size))
 have X:=X.below hb4
 clear hb4
 go_wp2_with fail
 (with_reducible refine(HN5.out _).mono ?_)
 rintro e5 w5⟨rfl,hb5⟩
 have HB5:=hid (HB4.out.trans (hb5.mono HB4.out.size))
 have X:=X.below hb5
 clear hb5
 have q0:=X.c0
 have q1:=X.c1
 have q2:=X.c2
 go_wp2
 go_ret2
 exact⟨rfl,HB5.out⟩
theorem q9m(s:ByteArray)(w:World){Y M D h m:Int}(hs:s.size=16)(N:Nr s Y M D)(hh:rn ((s.data.toList.drop 11).take 2)=h)(hm:rn ((s.data.toList.drop 14).take 2)=m)(hu4:h<10000)(hu5:m<10000)(gs4:gb s.data.toList 4=45)(gs7:gb s.data.toList 7=45)(gs10:gb s.data.toList 10=32)(gs13:gb s.data.toList 13=58)(gY:0≤Y)(gM:M<0) :
  Calls Tryz.prog 34 #[.string s] w fun e w'=>e=.returned (.tuple #[.int .i64 0,.int .i64 1])∧Below w.heap.size w w':=by
 have fs4:(((s[4]'(by omega)).toNat:Int) != 45)=false:=(qax (by rw[←qaq s 4 (by omega)];exact gs4:s[4]'(by omega)=45)).2
 have fs7:(((s[7]'(by omega)).toNat:Int) != 45)=false:=(qax (by rw[←qaq s 7 (by omega)];exact gs7:s[7]'(by omega)=45)).2
 have fs10:(((s[10]'(by omega)).toNat:Int) != 32)=false:=(qax (by rw[←qaq s 10 (by omega)];exact gs10:s[10]'(by omega)=32)).2
 have fs13:(((s[13]'(by omega)).toNat:Int) != 58)=false:=(qax (by rw[←qaq s 13 (by omega)];exact gs13:s[13]'(by omega)=58)).2
 have HN1:=hid (fun w=>qah s 0 4 0 4 Y w rfl rfl (by omega) (by omega) (by omega) N.y)
 have HN2:=hid (fun w=>qah s 5 2 5 2 M w rfl rfl (by omega) (by omega) (by omega) N.m)
 have HN3:=hid (fun w=>qah s 8 2 8 2 D w rfl rfl (by omega) (by omega) (by omega) N.d)
 have HN4:=hid (fun w=>qah s 11 2 11 2 h w rfl rfl (by omega) (by omega) (by omega) hh)
 have HN5:=hid (fun w=>qah s 14 2 14 2 m w rfl rfl (by omega) (by omega) (by omega) hm)
 clear gs4
 clear gs7
 clear gs10
 clear gs13
 clear N
 go_enter Tryz.func34,Tryz.ntmps34
 go_wp2_with fail
 (with_reducible refine(HN1.out _).mono ?_)
 rintro e1 w1⟨rfl,hb1⟩
 have HB1:=hid hb1
 clear hb1
 go_wp2_with fail
 (with_reducible refine(HN2.out _).mono ?_)
 rintro e2 w2⟨rfl,hb2⟩
 have HB2:=hid (HB1.out.trans (hb2.mono HB1.out.size))
 clear hb2
 go_wp2_with fail
 (with_reducible refine(HN3.out _).mono ?_)
 rintro e3 w3⟨rfl,hb3⟩
 have HB3:=hid (HB2.out.trans (hb3.mono HB2.out.size))
 clear hb3
 have X:=Nm3.new w3 Y M D
 have HX:=hid (HB3.out.alloc HB3.out.size (.cells #[.int .i64 Y,.int .i64 M,.int .i64 D] 95))
 go_wp2_with fail
 (with_reducible refine(HN4.out _).mono ?_)
 rintro e4 w4⟨rfl,hb4⟩
 have HB4:=hid (HX.out.trans (hb4.mono HX.out.size))
 have X:=X.below hb4
 clear hb4
 go_wp2_with fail
 (with_reducible refine(HN5.out _).mono ?_)
 rintro e5 w5⟨rfl,hb5⟩
 have HB5:=hid (HB4.out.trans (hb5.mono HB4.out.size))
 have X:=X.below hb5
 clear hb5
 have q0:=X.c0
 have q1:=X.c1
 have q2:=X.c2
 go_wp2
 go_ret2
 exact⟨rfl,HB5.out⟩
theorem q9l(s:ByteArray)(w:World){Y M D h m:Int}(hs:s.size=16)(N:Nr s Y M D)(hh:rn ((s.data.toList.drop 11).take 2)=h)(hm:rn ((s.data.toList.drop 14).take 2)=m)(hu4:h<10000)(hu5:m<10000)(gs4:gb s.data.toList 4=45)(gs7:gb s.data.toList 7=45)(gs10:gb s.data.toList 10=32)(gs13:gb s.data.toList 13=58)(gY:0≤Y)(gM:0≤M)(gD:D<0) :
  Calls Tryz.prog 34 #[.string s] w fun e w'=>e=.returned (.tuple #[.int .i64 0,.int .i64 1])∧Below w.heap.size w w':=by
 have fs4:(((s[4]'(by omega)).toNat:Int) != 45)=false:=(qax (by rw[←qaq s 4 (by omega)];exact gs4:s[4]'(by omega)=45)).2
 have fs7:(((s[7]'(by omega)).toNat:Int) != 45)=false:=(qax (by rw[←qaq s 7 (by omega)];exact gs7:s[7]'(by omega)=45)).2
 have fs10:(((s[10]'(by omega)).toNat:Int) != 32)=false:=(qax (by rw[←qaq s 10 (by omega)];exact gs10:s[10]'(by omega)=32)).2
 have fs13:(((s[13]'(by omega)).toNat:Int) != 58)=false:=(qax (by rw[←qaq s 13 (by omega)];exact gs13:s[13]'(by omega)=58)).2
 have HN1:=hid (fun w=>qah s 0 4 0 4 Y w rfl rfl (by omega) (by omega) (by omega) N.y)
 have HN2:=hid (fun w=>qah s 5 2 5 2 M w rfl rfl (by omega) (by omega) (by omega) N.m)
 have HN3:=hid (fun w=>qah s 8 2 8 2 D w rfl rfl (by omega) (by omega) (by omega) N.d)
 have HN4:=hid (fun w=>qah s 11 2 11 2 h w rfl rfl (by omega) (by omega) (by omega) hh)
 have HN5:=hid (fun w=>qah s 14 2 14 2 m w rfl rfl (by omega) (by omega) (by omega) hm)
 clear gs4
 clear gs7
 clear gs10
 clear gs13
 clear N
 go_enter Tryz.func34,Tryz.ntmps34
 go_wp2_with fail
 (with_reducible refine(HN1.out _).mono ?_)
 rintro e1 w1⟨rfl,hb1⟩
 have HB1:=hid hb1
 clear hb1
 go_wp2_with fail
 (with_reducible refine(HN2.out _).mono ?_)
 rintro e2 w2⟨rfl,hb2⟩
 have HB2:=hid (HB1.out.trans (hb2.mono HB1.out.size))
 clear hb2
 go_wp2_with fail
 (with_reducible refine(HN3.out _).mono ?_)
 rintro e3 w3⟨rfl,hb3⟩
 have HB3:=hid (HB2.out.trans (hb3.mono HB2.out.size))
 clear hb3
 have X:=Nm3.new w3 Y M D
 have HX:=hid (HB3.out.alloc HB3.out.size (.cells #[.int .i64 Y,.int .i64 M,.int .i64 D] 95))
 go_wp2_with fail
 (with_reducible refine(HN4.out _).mono ?_)
 rintro e4 w4⟨rfl,hb4⟩
 have HB4:=hid (HX.out.trans (hb4.mono HX.out.size))
 have X:=X.below hb4
 clear hb4
 go_wp2_with fail
 (with_reducible refine(HN5.out _).mono ?_)
 rintro e5 w5⟨rfl,hb5⟩
 have HB5:=hid (HB4.out.trans (hb5.mono HB4.out.size))
 have X:=X.below hb5
 clear hb5
 have q0:=X.c0
 have q1:=X.c1
 have q2:=X.c2
 go_wp2
 go_ret2
 exact⟨rfl,HB5.out⟩
theorem q9o(s:ByteArray)(w:World){Y M D h m:Int}(hs:s.size=16)(N:Nr s Y M D)(hh:rn ((s.data.toList.drop 11).take 2)=h)(hm:rn ((s.data.toList.drop 14).take 2)=m)(hu4:h<10000)(hu5:m<10000)(gs4:gb s.data.toList 4=45)(gs7:gb s.data.toList 7=45)(gs10:gb s.data.toList 10=32)(gs13:gb s.data.toList 13=58)(gY:0≤Y)(gM:0≤M)(gD:0≤D)(gh:h<0) :
  Calls Tryz.prog 34 #[.string s] w fun e w'=>e=.returned (.tuple #[.int .i64 0,.int .i64 1])∧Below w.heap.size w w':=by
 have fs4:(((s[4]'(by omega)).toNat:Int) != 45)=false:=(qax (by rw[←qaq s 4 (by omega)];exact gs4:s[4]'(by omega)=45)).2
 have fs7:(((s[7]'(by omega)).toNat:Int) != 45)=false:=(qax (by rw[←qaq s 7 (by omega)];exact gs7:s[7]'(by omega)=45)).2
 have fs10:(((s[10]'(by omega)).toNat:Int) != 32)=false:=(qax (by rw[←qaq s 10 (by omega)];exact gs10:s[10]'(by omega)=32)).2
 have fs13:(((s[13]'(by omega)).toNat:Int) != 58)=false:=(qax (by rw[←qaq s 13 (by omega)];exact gs13:s[13]'(by omega)=58)).2
 have HN1:=hid (fun w=>qah s 0 4 0 4 Y w rfl rfl (by omega) (by omega) (by omega) N.y)
 have HN2:=hid (fun w=>qah s 5 2 5 2 M w rfl rfl (by omega) (by omega) (by omega) N.m)
 have HN3:=hid (fun w=>qah s 8 2 8 2 D w rfl rfl (by omega) (by omega) (by omega) N.d)
 have HN4:=hid (fun w=>qah s 11 2 11 2 h w rfl rfl (by omega) (by omega) (by omega) hh)
 have HN5:=hid (fun w=>qah s 14 2 14 2 m w rfl rfl (by omega) (by omega) (by omega) hm)
 clear gs4
 clear gs7
 clear gs10
 clear gs13
 clear N
 go_enter Tryz.func34,Tryz.ntmps34
 go_wp2_with fail
 (with_reducible refine(HN1.out _).mono ?_)
 rintro e1 w1⟨rfl,hb1⟩
 have HB1:=hid hb1
 clear hb1
 go_wp2_with fail
 (with_reducible refine(HN2.out _).mono ?_)
 rintro e2 w2⟨rfl,hb2⟩
 have HB2:=hid (HB1.out.trans (hb2.mono HB1.out.size))
 clear hb2
 go_wp2_with fail
 (with_reducible refine(HN3.out _).mono ?_)
 rintro e3 w3⟨rfl,hb3⟩
 have HB3:=hid (HB2.out.trans (hb3.mono HB2.out.size))
 clear hb3
 have X:=Nm3.new w3 Y M D
 have HX:=hid (HB3.out.alloc HB3.out.size (.cells #[.int .i64 Y,.int .i64 M,.int .i64 D] 95))
 go_wp2_with fail
 (with_reducible refine(HN4.out _).mono ?_)
 rintro e4 w4⟨rfl,hb4⟩
 have HB4:=hid (HX.out.trans (hb4.mono HX.out.size))
 have X:=X.below hb4
 clear hb4
 go_wp2_with fail
 (with_reducible refine(HN5.out _).mono ?_)
 rintro e5 w5⟨rfl,hb5⟩
 have HB5:=hid (HB4.out.trans (hb5.mono HB4.out.size))
 have X:=X.below hb5
 clear hb5
 have q0:=X.c0
 have q1:=X.c1
 have q2:=X.c2
 go_wp2
 go_ret2
 exact⟨rfl,HB5.out⟩
theorem q9p(s:ByteArray)(w:World){Y M D h m:Int}(hs:s.size=16)(N:Nr s Y M D)(hh:rn ((s.data.toList.drop 11).take 2)=h)(hm:rn ((s.data.toList.drop 14).take 2)=m)(hu4:h<10000)(hu5:m<10000)(gs4:gb s.data.toList 4=45)(gs7:gb s.data.toList 7=45)(gs10:gb s.data.toList 10=32)(gs13:gb s.data.toList 13=58)(gY:0≤Y)(gM:0≤M)(gD:0≤D)(gh:0≤h)(gm:m<0) :
  Calls Tryz.prog 34 #[.string s] w fun e w'=>e=.returned (.tuple #[.int .i64 0,.int .i64 1])∧Below w.heap.size w w':=by
 have fs4:(((s[4]'(by omega)).toNat:Int) != 45)=false:=(qax (by rw[←qaq s 4 (by omega)];exact gs4:s[4]'(by omega)=45)).2
 have fs7:(((s[7]'(by omega)).toNat:Int) != 45)=false:=(qax (by rw[←qaq s 7 (by omega)];exact gs7:s[7]'(by omega)=45)).2
 have fs10:(((s[10]'(by omega)).toNat:Int) != 32)=false:=(qax (by rw[←qaq s 10 (by omega)];exact gs10:s[10]'(by omega)=32)).2
 have fs13:(((s[13]'(by omega)).toNat:Int) != 58)=false:=(qax (by rw[←qaq s 13 (by omega)];exact gs13:s[13]'(by omega)=58)).2
 have HN1:=hid (fun w=>qah s 0 4 0 4 Y w rfl rfl (by omega) (by omega) (by omega) N.y)
 have HN2:=hid (fun w=>qah s 5 2 5 2 M w rfl rfl (by omega) (by omega) (by omega) N.m)
 have HN3:=hid (fun w=>qah s 8 2 8 2 D w rfl rfl (by omega) (by omega) (by omega) N.d)
 have HN4:=hid (fun w=>qah s 11 2 11 2 h w rfl rfl (by omega) (by omega) (by omega) hh)
 have HN5:=hid (fun w=>qah s 14 2 14 2 m w rfl rfl (by omega) (by omega) (by omega) hm)
 clear gs4
 clear gs7
 clear gs10
 clear gs13
 clear N
 go_enter Tryz.func34,Tryz.ntmps34
 go_wp2_with fail
 (with_reducible refine(HN1.out _).mono ?_)
 rintro e1 w1⟨rfl,hb1⟩
 have HB1:=hid hb1
 clear hb1
 go_wp2_with fail
 (with_reducible refine(HN2.out _).mono ?_)
 rintro e2 w2⟨rfl,hb2⟩
 have HB2:=hid (HB1.out.trans (hb2.mono HB1.out.size))
 clear hb2
 go_wp2_with fail
 (with_reducible refine(HN3.out _).mono ?_)
 rintro e3 w3⟨rfl,hb3⟩
 have HB3:=hid (HB2.out.trans (hb3.mono HB2.out.size))
 clear hb3
 have X:=Nm3.new w3 Y M D
 have HX:=hid (HB3.out.alloc HB3.out.size (.cells #[.int .i64 Y,.int .i64 M,.int .i64 D] 95))
 go_wp2_with fail
 (with_reducible refine(HN4.out _).mono ?_)
 rintro e4 w4⟨rfl,hb4⟩
 have HB4:=hid (HX.out.trans (hb4.mono HX.out.size))
 have X:=X.below hb4
 clear hb4
 go_wp2_with fail
 (with_reducible refine(HN5.out _).mono ?_)
 rintro e5 w5⟨rfl,hb5⟩
 have HB5:=hid (HB4.out.trans (hb5.mono HB4.out.size))
 have X:=X.below hb5
 clear hb5
 have q0:=X.c0
 have q1:=X.c1
 have q2:=X.c2
 go_wp2
 go_ret2
 exact⟨rfl,HB5.out⟩
theorem q3h(s:ByteArray)(w:World){Y M D h m:Int}(hs:s.size=16)(N:Nr s Y M D)(hh:rn ((s.data.toList.drop 11).take 2)=h)(hm:rn ((s.data.toList.drop 14).take 2)=m)(hu4:h<10000)(hu5:m<10000)(gs4:gb s.data.toList 4=45)(gs7:gb s.data.toList 7=45)(gs10:gb s.data.toList 10=32)(gs13:gb s.data.toList 13=58)(gY:0≤Y)(gM:0≤M)(gD:0≤D)(gh:0≤h)(gm:0≤m)(ghx:23<h) :
  Calls Tryz.prog 34 #[.string s] w fun e w'=>e=.returned (.tuple #[.int .i64 0,.int .i64 2])∧Below w.heap.size w w':=by
 have fs4:(((s[4]'(by omega)).toNat:Int) != 45)=false:=(qax (by rw[←qaq s 4 (by omega)];exact gs4:s[4]'(by omega)=45)).2
 have fs7:(((s[7]'(by omega)).toNat:Int) != 45)=false:=(qax (by rw[←qaq s 7 (by omega)];exact gs7:s[7]'(by omega)=45)).2
 have fs10:(((s[10]'(by omega)).toNat:Int) != 32)=false:=(qax (by rw[←qaq s 10 (by omega)];exact gs10:s[10]'(by omega)=32)).2
 have fs13:(((s[13]'(by omega)).toNat:Int) != 58)=false:=(qax (by rw[←qaq s 13 (by omega)];exact gs13:s[13]'(by omega)=58)).2
 have HN1:=hid (fun w=>qah s 0 4 0 4 Y w rfl rfl (by omega) (by omega) (by omega) N.y)
 have HN2:=hid (fun w=>qah s 5 2 5 2 M w rfl rfl (by omega) (by omega) (by omega) N.m)
 have HN3:=hid (fun w=>qah s 8 2 8 2 D w rfl rfl (by omega) (by omega) (by omega) N.d)
 have HN4:=hid (fun w=>qah s 11 2 11 2 h w rfl rfl (by omega) (by omega) (by omega) hh)
 have HN5:=hid (fun w=>qah s 14 2 14 2 m w rfl rfl (by omega) (by omega) (by omega) hm)
 clear gs4
 clear gs7
 clear gs10
 clear gs13
 clear N
 go_enter Tryz.func34,Tryz.ntmps34
 go_wp2_with fail
 (with_reducible refine(HN1.out _).mono ?_)
 rintro e1 w1⟨rfl,hb1⟩
 have HB1:=hid hb1
 clear hb1
 go_wp2_with fail
 (with_reducible refine(HN2.out _).mono ?_)
 rintro e2 w2⟨rfl,hb2⟩
 have HB2:=hid (HB1.out.trans (hb2.mono HB1.out.size))
 clear hb2
 go_wp2_with fail
 (with_reducible refine(HN3.out _).mono ?_)
 rintro e3 w3⟨rfl,hb3⟩
 have HB3:=hid (HB2.out.trans (hb3.mono HB2.out.size))
 clear hb3
 have X:=Nm3.new w3 Y M D
 have HX:=hid (HB3.out.alloc HB3.out.size (.cells #[.int .i64 Y,.int .i64 M,.int .i64 D] 95))
 go_wp2_with fail
 (with_reducible refine(HN4.out _).mono ?_)
 rintro e4 w4⟨rfl,hb4⟩
 have HB4:=hid (HX.out.trans (hb4.mono HX.out.size))
 have X:=X.below hb4
 clear hb4
 go_wp2_with fail
 (with_reducible refine(HN5.out _).mono ?_)
 rintro e5 w5⟨rfl,hb5⟩
 have HB5:=hid (HB4.out.trans (hb5.mono HB4.out.size))
 have X:=X.below hb5
 clear hb5
 have q0:=X.c0
 have q1:=X.c1
 have q2:=X.c2
 go_wp2
 go_ret2
 exact⟨rfl,HB5.out⟩
theorem q3i(s:ByteArray)(w:World){Y M D h m:Int}(hs:s.size=16)(N:Nr s Y M D)(hh:rn ((s.data.toList.drop 11).take 2)=h)(hm:rn ((s.data.toList.drop 14).take 2)=m)(hu4:h<10000)(hu5:m<10000)(gs4:gb s.data.toList 4=45)(gs7:gb s.data.toList 7=45)(gs10:gb s.data.toList 10=32)(gs13:gb s.data.toList 13=58)(gY:0≤Y)(gM:0≤M)(gD:0≤D)(gh:0≤h)(gm:0≤m)(ghx:h≤23)(gmx:59<m) :
  Calls Tryz.prog 34 #[.string s] w fun e w'=>e=.returned (.tuple #[.int .i64 0,.int .i64 2])∧Below w.heap.size w w':=by
 have fs4:(((s[4]'(by omega)).toNat:Int) != 45)=false:=(qax (by rw[←qaq s 4 (by omega)];exact gs4:s[4]'(by omega)=45)).2
 have fs7:(((s[7]'(by omega)).toNat:Int) != 45)=false:=(qax (by rw[←qaq s 7 (by omega)];exact gs7:s[7]'(by omega)=45)).2
 have fs10:(((s[10]'(by omega)).toNat:Int) != 32)=false:=(qax (by rw[←qaq s 10 (by omega)];exact gs10:s[10]'(by omega)=32)).2
 have fs13:(((s[13]'(by omega)).toNat:Int) != 58)=false:=(qax (by rw[←qaq s 13 (by omega)];exact gs13:s[13]'(by omega)=58)).2
 have HN1:=hid (fun w=>qah s 0 4 0 4 Y w rfl rfl (by omega) (by omega) (by omega) N.y)
 have HN2:=hid (fun w=>qah s 5 2 5 2 M w rfl rfl (by omega) (by omega) (by omega) N.m)
 have HN3:=hid (fun w=>qah s 8 2 8 2 D w rfl rfl (by omega) (by omega) (by omega) N.d)
 have HN4:=hid (fun w=>qah s 11 2 11 2 h w rfl rfl (by omega) (by omega) (by omega) hh)
 have HN5:=hid (fun w=>qah s 14 2 14 2 m w rfl rfl (by omega) (by omega) (by omega) hm)
 clear gs4
 clear gs7
 clear gs10
 clear gs13
 clear N
 go_enter Tryz.func34,Tryz.ntmps34
 go_wp2_with fail
 (with_reducible refine(HN1.out _).mono ?_)
 rintro e1 w1⟨rfl,hb1⟩
 have HB1:=hid hb1
 clear hb1
 go_wp2_with fail
 (with_reducible refine(HN2.out _).mono ?_)
 rintro e2 w2⟨rfl,hb2⟩
 have HB2:=hid (HB1.out.trans (hb2.mono HB1.out.size))
 clear hb2
 go_wp2_with fail
 (with_reducible refine(HN3.out _).mono ?_)
 rintro e3 w3⟨rfl,hb3⟩
 have HB3:=hid (HB2.out.trans (hb3.mono HB2.out.size))
 clear hb3
 have X:=Nm3.new w3 Y M D
 have HX:=hid (HB3.out.alloc HB3.out.size (.cells #[.int .i64 Y,.int .i64 M,.int .i64 D] 95))
 go_wp2_with fail
 (with_reducible refine(HN4.out _).mono ?_)
 rintro e4 w4⟨rfl,hb4⟩
 have HB4:=hid (HX.out.trans (hb4.mono HX.out.size))
 have X:=X.below hb4
 clear hb4
 go_wp2_with fail
 (with_reducible refine(HN5.out _).mono ?_)
 rintro e5 w5⟨rfl,hb5⟩
 have HB5:=hid (HB4.out.trans (hb5.mono HB4.out.size))
 have X:=X.below hb5
 clear hb5
 have q0:=X.c0
 have q1:=X.c1
 have q2:=X.c2
 go_wp2
 go_ret2
 exact⟨rfl,HB5.out⟩
theorem q3j(s:ByteArray)(w:World){Y M D h m:Int}(hs:s.size=16)(N:Nr s Y M D)(hh:rn ((s.data.toList.drop 11).take 2)=h)(hm:rn ((s.data.toList.drop 14).take 2)=m)(hu4:h<10000)(hu5:m<10000)(gs4:gb s.data.toList 4=45)(gs7:gb s.data.toList 7=45)(gs10:gb s.data.toList 10=32)(gs13:gb s.data.toList 13=58)(gY:0≤Y)(gM:0≤M)(gD:0≤D)(gh:0≤h)(gm:0≤m)(ghx:h≤23)(gmx:m≤59) :
  Calls Tryz.prog 34 #[.string s] w fun e w'=>e=.returned (.tuple #[.int .i64 (qlt Y M D (h*60+m)).n,.int .i64 (qlt Y M D (h*60+m)).e])∧Below w.heap.size w w':=by
 have fs4:(((s[4]'(by omega)).toNat:Int) != 45)=false:=(qax (by rw[←qaq s 4 (by omega)];exact gs4:s[4]'(by omega)=45)).2
 have fs7:(((s[7]'(by omega)).toNat:Int) != 45)=false:=(qax (by rw[←qaq s 7 (by omega)];exact gs7:s[7]'(by omega)=45)).2
 have fs10:(((s[10]'(by omega)).toNat:Int) != 32)=false:=(qax (by rw[←qaq s 10 (by omega)];exact gs10:s[10]'(by omega)=32)).2
 have fs13:(((s[13]'(by omega)).toNat:Int) != 58)=false:=(qax (by rw[←qaq s 13 (by omega)];exact gs13:s[13]'(by omega)=58)).2
 have HN1:=hid (fun w=>qah s 0 4 0 4 Y w rfl rfl (by omega) (by omega) (by omega) N.y)
 have HN2:=hid (fun w=>qah s 5 2 5 2 M w rfl rfl (by omega) (by omega) (by omega) N.m)
 have HN3:=hid (fun w=>qah s 8 2 8 2 D w rfl rfl (by omega) (by omega) (by omega) N.d)
 have HN4:=hid (fun w=>qah s 11 2 11 2 h w rfl rfl (by omega) (by omega) (by omega) hh)
 have HN5:=hid (fun w=>qah s 14 2 14 2 m w rfl rfl (by omega) (by omega) (by omega) hm)
 have HM:=hid (fun w=>qee Y M D (h*60+m) w)
 clear gs4
 clear gs7
 clear gs10
 clear gs13
 clear N
 go_enter Tryz.func34,Tryz.ntmps34
 go_wp2_with fail
 (with_reducible refine(HN1.out _).mono ?_)
 rintro e1 w1⟨rfl,hb1⟩
 have HB1:=hid hb1
 clear hb1
 go_wp2_with fail
 (with_reducible refine(HN2.out _).mono ?_)
 rintro e2 w2⟨rfl,hb2⟩
 have HB2:=hid (HB1.out.trans (hb2.mono HB1.out.size))
 clear hb2
 go_wp2_with fail
 (with_reducible refine(HN3.out _).mono ?_)
 rintro e3 w3⟨rfl,hb3⟩
 have HB3:=hid (HB2.out.trans (hb3.mono HB2.out.size))
 clear hb3
 have X:=Nm3.new w3 Y M D
 have HX:=hid (HB3.out.alloc HB3.out.size (.cells #[.int .i64 Y,.int .i64 M,.int .i64 D] 95))
 go_wp2_with fail
 (with_reducible refine(HN4.out _).mono ?_)
 rintro e4 w4⟨rfl,hb4⟩
 have HB4:=hid (HX.out.trans (hb4.mono HX.out.size))
 have X:=X.below hb4
 clear hb4
 go_wp2_with fail
 (with_reducible refine(HN5.out _).mono ?_)
 rintro e5 w5⟨rfl,hb5⟩
 have HB5:=hid (HB4.out.trans (hb5.mono HB4.out.size))
 have X:=X.below hb5
 clear hb5
 have q0:=X.c0
 have q1:=X.c1
 have q2:=X.c2
 go_wp2_with fail
 (with_reducible refine(HM.out _).mono ?_)
 rintro e9 w9⟨rfl,hb9⟩
 have HB9:=hid (HB5.out.trans (hb9.mono HB5.out.size))
 clear hb9
 go_wp2
 go_ret2
 exact⟨rfl,HB9.out⟩
theorem q9q(s:ByteArray)(w:World)(h1:s.size≠10)(h2:s.size≠16)(hs:s.size≤1000) :
  Calls Tryz.prog 34 #[.string s] w fun e w'=>e=.returned (.tuple #[.int .i64 0,.int .i64 1])∧Below w.heap.size w w':=by
 have n1:((s.size:Int) != 10)=true:=by simp;omega
 have n2:((s.size:Int) != 16)=true:=by simp;omega
 clear h1 h2
 go_enter Tryz.func34,Tryz.ntmps34
 go_wp2
 go_ret2
 exact⟨rfl,Below.refl _ _⟩
theorem qd5(s:ByteArray)(w:World)(hs:s.size≤1000) :
  Calls Tryz.prog 34 #[.string s] w fun e w'=>e=.returned (.tuple #[.int .i64 (parse s.data.toList).n,.int .i64 (parse s.data.toList).e])∧Below w.heap.size w w':=by
 have hl:s.data.toList.length=s.size:=by simp
 have bad : ∀ {a:Prop},(form s.data.toList=true→False)→parse s.data.toList=⟨0,1⟩:=fun h=>qqx (by cases hf:form s.data.toList with | false=>rfl | true=>exact(h hf).elim)
 by_cases e10:s.size=10
 ·obtain⟨Y,hY⟩ : ∃ Y,rn ((s.data.toList.drop 0).take 4)=Y:=⟨_,rfl⟩
  obtain⟨M,hM⟩ : ∃ M,rn ((s.data.toList.drop 5).take 2)=M:=⟨_,rfl⟩
  obtain⟨D,hD⟩ : ∃ D,rn ((s.data.toList.drop 8).take 2)=D:=⟨_,rfl⟩
  have N:Nr s Y M D:=⟨hY,hM,hD⟩
  by_cases gs4:gb s.data.toList 4=45
  case neg=>rw[bad (a:=True) (fun hf=>gs4 ((qhp hf (by omega)).a))];exact q3f s w e10 N gs4
  by_cases gs7:gb s.data.toList 7=45
  case neg=>rw[bad (a:=True) (fun hf=>gs7 ((qhp hf (by omega)).b))];exact q3g s w e10 N gs4 gs7
  by_cases gY:0≤Y
  case neg=>rw[bad (a:=True) (fun hf=>gY (by rw[←hY,qdf (qay hf (by omega) 0 4 (by omega) q5e)];exact(qcb (qay hf (by omega) 0 4 (by omega) q5e) (by rw[List.length_take];omega)).1))];exact q9k s w e10 N gs4 gs7 (by omega)
  by_cases gM:0≤M
  case neg=>rw[bad (a:=True) (fun hf=>gM (by rw[←hM,qdf (qay hf (by omega) 5 2 (by omega) q5f)];exact(qcb (qay hf (by omega) 5 2 (by omega) q5f) (by rw[List.length_take];omega)).1))];exact q9j s w e10 N gs4 gs7 gY (by omega)
  by_cases gD:0≤D
  case neg=>rw[bad (a:=True) (fun hf=>gD (by rw[←hD,qdf (qay hf (by omega) 8 2 (by omega) q5g)];exact(qcb (qay hf (by omega) 8 2 (by omega) q5g) (by rw[List.length_take];omega)).1))];exact q9i s w e10 N gs4 gs7 gY gM (by omega)
  have hf:form s.data.toList=true:=quh (by omega) ⟨gs4,gs7,fun e=>by omega⟩ (qh4 (by rw[hY];exact gY)) (qh4 (by rw[hM];exact gM)) (qh4 (by rw[hD];exact gD)) (fun e=>by omega)
  have vh:hh s.data.toList=0:=by unfold hh;rw[List.drop_eq_nil_of_le (by omega)];rfl
  have vm:mm s.data.toList=0:=by unfold mm;rw[List.drop_eq_nil_of_le (by omega)];rfl
  have vY:dv (s.data.toList.take 4)=Y:=by rw[←hY];exact(qdf (qay hf (by omega) 0 4 (by omega) q5e)).symm
  have vM:dv ((s.data.toList.drop 5).take 2)=M:=by rw[←hM];exact(qdf (qay hf (by omega) 5 2 (by omega) q5f)).symm
  have vD:dv ((s.data.toList.drop 8).take 2)=D:=by rw[←hD];exact(qdf (qay hf (by omega) 8 2 (by omega) q5g)).symm
  have hp:parse s.data.toList=qlt Y M D (0):=by unfold parse;rw[if_pos hf,vh,vm,if_neg (by omega),vY,vM,vD];rfl
  rw[hp];exact q3e s w e10 N gs4 gs7 gY gM gD
 by_cases e16:s.size=16
 ·obtain⟨Y,hY⟩ : ∃ Y,rn ((s.data.toList.drop 0).take 4)=Y:=⟨_,rfl⟩
  obtain⟨M,hM⟩ : ∃ M,rn ((s.data.toList.drop 5).take 2)=M:=⟨_,rfl⟩
  obtain⟨D,hD⟩ : ∃ D,rn ((s.data.toList.drop 8).take 2)=D:=⟨_,rfl⟩
  have N:Nr s Y M D:=⟨hY,hM,hD⟩
  obtain⟨h,hh⟩ : ∃ h,rn ((s.data.toList.drop 11).take 2)=h:=⟨_,rfl⟩
  obtain⟨m,hm⟩ : ∃ m,rn ((s.data.toList.drop 14).take 2)=m:=⟨_,rfl⟩
  have u4:h<10000:=by rw[←hh];exact(xbp (by rw[List.length_take];omega)).2
  have u5:m<10000:=by rw[←hm];exact(xbp (by rw[List.length_take];omega)).2
  by_cases gs4:gb s.data.toList 4=45
  case neg=>rw[bad (a:=True) (fun hf=>gs4 ((qhp hf (by omega)).a))];exact q3k s w e16 N hh hm u4 u5 gs4
  by_cases gs7:gb s.data.toList 7=45
  case neg=>rw[bad (a:=True) (fun hf=>gs7 ((qhp hf (by omega)).b))];exact q3l s w e16 N hh hm u4 u5 gs4 gs7
  by_cases gs10:gb s.data.toList 10=32
  case neg=>rw[bad (a:=True) (fun hf=>gs10 (((qhp hf (by omega)).c (by omega)).1))];exact qx4 s w e16 N hh hm u4 u5 gs4 gs7 gs10
  by_cases gs13:gb s.data.toList 13=58
  case neg=>rw[bad (a:=True) (fun hf=>gs13 (((qhp hf (by omega)).c (by omega)).2))];exact qx5 s w e16 N hh hm u4 u5 gs4 gs7 gs10 gs13
  by_cases gY:0≤Y
  case neg=>rw[bad (a:=True) (fun hf=>gY (by rw[←hY,qdf (qay hf (by omega) 0 4 (by omega) q5e)];exact(qcb (qay hf (by omega) 0 4 (by omega) q5e) (by rw[List.length_take];omega)).1))];exact q9n s w e16 N hh hm u4 u5 gs4 gs7 gs10 gs13 (by omega)
  by_cases gM:0≤M
  case neg=>rw[bad (a:=True) (fun hf=>gM (by rw[←hM,qdf (qay hf (by omega) 5 2 (by omega) q5f)];exact(qcb (qay hf (by omega) 5 2 (by omega) q5f) (by rw[List.length_take];omega)).1))];exact q9m s w e16 N hh hm u4 u5 gs4 gs7 gs10 gs13 gY (by omega)
  by_cases gD:0≤D
  case neg=>rw[bad (a:=True) (fun hf=>gD (by rw[←hD,qdf (qay hf (by omega) 8 2 (by omega) q5g)];exact(qcb (qay hf (by omega) 8 2 (by omega) q5g) (by rw[List.length_take];omega)).1))];exact q9l s w e16 N hh hm u4 u5 gs4 gs7 gs10 gs13 gY gM (by omega)
  by_cases gh:0≤h
  case neg=>rw[bad (a:=True) (fun hf=>gh (by rw[←hh,qdf (qay hf (by omega) 11 2 (by omega) xcs)];exact(qcb (qay hf (by omega) 11 2 (by omega) xcs) (by rw[List.length_take];omega)).1))];exact q9o s w e16 N hh hm u4 u5 gs4 gs7 gs10 gs13 gY gM gD (by omega)
  by_cases gm:0≤m
  case neg=>rw[bad (a:=True) (fun hf=>gm (by rw[←hm,qdf (qay hf (by omega) 14 2 (by omega) xct)];exact(qcb (qay hf (by omega) 14 2 (by omega) xct) (by rw[List.length_take];omega)).1))];exact q9p s w e16 N hh hm u4 u5 gs4 gs7 gs10 gs13 gY gM gD gh (by omega)
  have hf:form s.data.toList=true:=quh (by omega) ⟨gs4,gs7,fun _=>⟨gs10,gs13⟩⟩ (qh4 (by rw[hY];exact gY)) (qh4 (by rw[hM];exact gM)) (qh4 (by rw[hD];exact gD)) (fun _=>⟨qh4 (by rw[hh];exact gh),qh4 (by rw[hm];exact gm)⟩)
  have vh:Ca.hh s.data.toList=h:=by rw[←hh];exact(qdf (qay hf (by omega) 11 2 (by omega) xcs)).symm
  have vm:mm s.data.toList=m:=by rw[←hm];exact(qdf (qay hf (by omega) 14 2 (by omega) xct)).symm
  by_cases ghx:h≤23
  case neg=>rw[show parse s.data.toList=⟨0,2⟩ by unfold parse;rw[if_pos hf,vh,vm,if_pos (by omega)]];exact q3h s w e16 N hh hm u4 u5 gs4 gs7 gs10 gs13 gY gM gD gh gm (by omega)
  by_cases gmx:m≤59
  case neg=>rw[show parse s.data.toList=⟨0,2⟩ by unfold parse;rw[if_pos hf,vh,vm,if_pos (by omega)]];exact q3i s w e16 N hh hm u4 u5 gs4 gs7 gs10 gs13 gY gM gD gh gm ghx (by omega)
  have vY:dv (s.data.toList.take 4)=Y:=by rw[←hY];exact(qdf (qay hf (by omega) 0 4 (by omega) q5e)).symm
  have vM:dv ((s.data.toList.drop 5).take 2)=M:=by rw[←hM];exact(qdf (qay hf (by omega) 5 2 (by omega) q5f)).symm
  have vD:dv ((s.data.toList.drop 8).take 2)=D:=by rw[←hD];exact(qdf (qay hf (by omega) 8 2 (by omega) q5g)).symm
  have hp:parse s.data.toList=qlt Y M D (h*60+m):=by unfold parse;rw[if_pos hf,vh,vm,if_neg (by omega),vY,vM,vD]
  rw[hp];exact q3j s w e16 N hh hm u4 u5 gs4 gs7 gs10 gs13 gY gM gD gh gm ghx gmx
 rw[bad (a:=True) (fun hf=>by have:=qnm hf;omega)];exact q9q s w e10 e16 hs
end Go.Proofs.YtldkgbnmaefaaaaGreatDoor.Ca
