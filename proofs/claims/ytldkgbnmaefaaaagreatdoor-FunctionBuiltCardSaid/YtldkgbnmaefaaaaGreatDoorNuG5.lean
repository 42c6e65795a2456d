import Derived.Test.YtldkgbnmaefaaaaGreatDoorNuG4
import Derived.Test.YtldkgbnmaefaaaaGreatDoorNuG2
import Derived.Deep.RegionWith
set_option maxRecDepth 100000
set_option maxHeartbeats 4000000
open Go.Lib (hid)
namespace Go.Proofs.YtldkgbnmaefaaaaGreatDoor.Nu
open Go.RowKit
set_option linter.unusedVariables false
theorem qx7(s:ByteArray)(w:World)(hs:s.size≤1000)(x:UInt8)(h0:0<s.size)(hx:s[0]'h0=x)(hx1:x.toNat≠43)(hx2:x.toNat≠45)(hall:qb2 s.data.toList 0=s.data.toList.length)(hok:s.size≤9)(hok1:1≤s.size) :
  Calls Tryz.prog 92 #[.string s] w fun e w'=>e=.returned (.tuple #[.agg #[.int .i64 (qaf false s.data.toList).n,.int .i64 (qaf false s.data.toList).d],.int .i64 (qaf false s.data.toList).e])∧Below w.heap.size w w':=by
 have hsz:=Lib.size_eq s
 have q0:decide ((0:Int)<(s.size:Int))=true:=decide_eq_true (by omega)
 have q1:((x.toNat:Int)==43)=false:=beq_eq_false_iff_ne.2 (by omega)
 have q2:((x.toNat:Int)==45)=false:=beq_eq_false_iff_ne.2 (by omega)
 have HA:Hid (qaf false s.data.toList=fit (val s.data.toList:Int) 1):=hid (by rw[qgz false hall,if_pos ⟨by omega,by omega⟩];rfl)
 have hda:=qff (by rw[←qcw];exact hall)
 have hv:=qn1 hda (by omega)
 have CD:=hid (fun w=>qae s 0 w (by omega) (Nat.zero_le _))
 rw[hall,←hsz] at CD
 have CV:=hid (fun w=>qbo s w (by omega) hda)
 generalize val s.data.toList=V at *
 have CF:=hid (fun w=>qcc (V:Int) 1 w (by omega) (by omega) (by decide))
 have e1:IntKind.i64.wrap (1*(V:Int))=(V:Int):=by rw[IntWalk.i64_in _ (by omega)];omega
 have e1':IntKind.i64.wrap (V:Int)=(V:Int):=IntWalk.i64_in _ (by omega)
 have q3:decide ((9:Int)<(s.size:Int))=false:=decide_eq_false (by omega)
 have q4:((s.size:Int)==0)=false:=beq_eq_false_iff_ne.2 (by omega)
 have q5:decide ((s.size:Int)<(s.size:Int))=false:=decide_eq_false (by omega)
 clear hsz hall hda hv hok hok1 hx1 hx2
 go_enter Tryz.func92,Tryz.ntmps92
 go_wp2_with fail
 refine(CD.out _).mono ?_
 rintro e w'⟨rfl,rfl⟩
 go_wp2_with fail
 refine(CV.out _).mono ?_
 rintro e w'⟨rfl,rfl⟩
 go_wp2_with fail
 refine(CF.out _).mono ?_
 rintro e w1⟨rfl,hb⟩
 obtain⟨hc,hf⟩:=qad hb
 have z0:=qg4 hb
 have HB:=hid (qap hb)
 go_wp2
 exact bodyPost_ret (v := .tuple #[.agg #[.int .i64 (fit (V:Int) 1).n,.int .i64 (fit (V:Int) 1).d],.int .i64 (fit (V:Int) 1).e]) (by simp[results,Tryz.results92,go_sem,hc]) rfl ⟨by rw[HA.out],qa2 HB.out _ _⟩
theorem qtc(s:ByteArray)(w:World)(hs:s.size≤1000)(x:UInt8)(h0:0<s.size)(hx:s[0]'h0=x)(hx1:x.toNat≠43)(hx2:x.toNat≠45)(hall:qb2 s.data.toList 0=s.data.toList.length)(hbad:9<s.size) :
  Calls Tryz.prog 92 #[.string s] w fun e w'=>e=.returned (.tuple #[.agg #[.int .i64 (qaf false s.data.toList).n,.int .i64 (qaf false s.data.toList).d],.int .i64 (qaf false s.data.toList).e])∧Below w.heap.size w w':=by
 have hsz:=Lib.size_eq s
 have q0:decide ((0:Int)<(s.size:Int))=true:=decide_eq_true (by omega)
 have q1:((x.toNat:Int)==43)=false:=beq_eq_false_iff_ne.2 (by omega)
 have q2:((x.toNat:Int)==45)=false:=beq_eq_false_iff_ne.2 (by omega)
 have HA:Hid (qaf false s.data.toList=⟨0,0,1⟩):=hid (by rw[qgz false hall,if_neg (by omega)])
 have CD:=hid (fun w=>qae s 0 w (by omega) (Nat.zero_le _))
 rw[hall,←hsz] at CD
 have q3:decide ((9:Int)<(s.size:Int))=true:=decide_eq_true (by omega)
 clear hsz hall hbad hx1 hx2
 go_enter Tryz.func92,Tryz.ntmps92
 go_wp2_with fail
 refine(CD.out _).mono ?_
 rintro e w'⟨rfl,rfl⟩
 go_wp2
 exact bodyPost_ret (v := .tuple #[.agg #[.int .i64 0,.int .i64 0],.int .i64 1]) (by simp[results,Tryz.results92,go_sem]) rfl ⟨by rw[HA.out],(Below.refl _ _).alloc (Nat.le_refl _) _⟩
theorem qs9(s:ByteArray)(w:World)(hs:s.size≤1000)(x:UInt8)(h0:0<s.size)(hx:s[0]'h0=x)(hx1:x.toNat≠43)(hx2:x.toNat≠45)(I:Nat)(hI:qb2 s.data.toList 0=I)(y:UInt8)(h1:I<s.size)(hy:s[I]'h1=y)(hy1:y.toNat≠46)(HA:Hid (qaf false s.data.toList=⟨0,0,1⟩)) :
  Calls Tryz.prog 92 #[.string s] w fun e w'=>e=.returned (.tuple #[.agg #[.int .i64 (qaf false s.data.toList).n,.int .i64 (qaf false s.data.toList).d],.int .i64 (qaf false s.data.toList).e])∧Below w.heap.size w w':=by
 have hsz:=Lib.size_eq s
 have q0:decide ((0:Int)<(s.size:Int))=true:=decide_eq_true (by omega)
 have q1:((x.toNat:Int)==43)=false:=beq_eq_false_iff_ne.2 (by omega)
 have q2:((x.toNat:Int)==45)=false:=beq_eq_false_iff_ne.2 (by omega)
 have CD:=hid (fun w=>qae s 0 w (by omega) (Nat.zero_le _))
 rw[hI] at CD
 have q3:decide ((I:Int)<(s.size:Int))=true:=decide_eq_true (by omega)
 have q4:((y.toNat:Int)==46)=false:=beq_eq_false_iff_ne.2 (by omega)
 have q5:((I:Int)==(s.size:Int))=false:=beq_eq_false_iff_ne.2 (by omega)
 clear hsz hI hy1 hx1 hx2
 go_enter Tryz.func92,Tryz.ntmps92
 go_wp2_with fail
 refine(CD.out _).mono ?_
 rintro e w'⟨rfl,rfl⟩
 go_wp2
 exact bodyPost_ret (v := .tuple #[.agg #[.int .i64 0,.int .i64 0],.int .i64 1]) (by simp[results,Tryz.results92,go_sem]) rfl ⟨by rw[HA.out],(Below.refl _ _).alloc (Nat.le_refl _) _⟩
theorem qx8(s:ByteArray)(w:World)(hs:s.size≤1000)(x:UInt8)(h0:0<s.size)(hx:s[0]'h0=x)(hx1:x.toNat=43)(r:ByteArray)(hr:s.extract 1 s.size=r)(hrs:r.size+1=s.size)(hall:qb2 r.data.toList 0=r.data.toList.length)(hok:r.size≤9)(hok1:1≤r.size) :
  Calls Tryz.prog 92 #[.string s] w fun e w'=>e=.returned (.tuple #[.agg #[.int .i64 (qaf false r.data.toList).n,.int .i64 (qaf false r.data.toList).d],.int .i64 (qaf false r.data.toList).e])∧Below w.heap.size w w':=by
 have hsz:=Lib.size_eq r
 have q0:decide ((0:Int)<(s.size:Int))=true:=decide_eq_true (by omega)
 have q1:((x.toNat:Int)==43)=true:=beq_iff_eq.2 (by omega)
 have q2:((x.toNat:Int)==45)=false:=beq_eq_false_iff_ne.2 (by omega)
 have HA:Hid (qaf false r.data.toList=fit (val r.data.toList:Int) 1):=hid (by rw[qgz false hall,if_pos ⟨by omega,by omega⟩];rfl)
 have hda:=qff (by rw[←qcw];exact hall)
 have hv:=qn1 hda (by omega)
 have CD:=hid (fun w=>qae r 0 w (by omega) (Nat.zero_le _))
 rw[hall,←hsz] at CD
 have CV:=hid (fun w=>qbo r w (by omega) hda)
 generalize val r.data.toList=V at *
 have CF:=hid (fun w=>qcc (V:Int) 1 w (by omega) (by omega) (by decide))
 have e1:IntKind.i64.wrap (1*(V:Int))=(V:Int):=by rw[IntWalk.i64_in _ (by omega)];omega
 have e1':IntKind.i64.wrap (V:Int)=(V:Int):=IntWalk.i64_in _ (by omega)
 have q3:decide ((9:Int)<(r.size:Int))=false:=decide_eq_false (by omega)
 have q4:((r.size:Int)==0)=false:=beq_eq_false_iff_ne.2 (by omega)
 have q5:decide ((r.size:Int)<(r.size:Int))=false:=decide_eq_false (by omega)
 clear hsz hall hda hv hok hok1 hx1 hrs
 go_enter Tryz.func92,Tryz.ntmps92
 go_wp2_with fail
 refine(CD.out _).mono ?_
 rintro e w'⟨rfl,rfl⟩
 go_wp2_with fail
 refine(CV.out _).mono ?_
 rintro e w'⟨rfl,rfl⟩
 go_wp2_with fail
 refine(CF.out _).mono ?_
 rintro e w1⟨rfl,hb⟩
 obtain⟨hc,hf⟩:=qad hb
 have z0:=qg4 hb
 have HB:=hid (qap hb)
 go_wp2
 exact bodyPost_ret (v := .tuple #[.agg #[.int .i64 (fit (V:Int) 1).n,.int .i64 (fit (V:Int) 1).d],.int .i64 (fit (V:Int) 1).e]) (by simp[results,Tryz.results92,go_sem,hc]) rfl ⟨by rw[HA.out],qa2 HB.out _ _⟩
theorem qtd(s:ByteArray)(w:World)(hs:s.size≤1000)(x:UInt8)(h0:0<s.size)(hx:s[0]'h0=x)(hx1:x.toNat=43)(r:ByteArray)(hr:s.extract 1 s.size=r)(hrs:r.size+1=s.size)(hall:qb2 r.data.toList 0=r.data.toList.length)(hbad:9<r.size) :
  Calls Tryz.prog 92 #[.string s] w fun e w'=>e=.returned (.tuple #[.agg #[.int .i64 (qaf false r.data.toList).n,.int .i64 (qaf false r.data.toList).d],.int .i64 (qaf false r.data.toList).e])∧Below w.heap.size w w':=by
 have hsz:=Lib.size_eq r
 have q0:decide ((0:Int)<(s.size:Int))=true:=decide_eq_true (by omega)
 have q1:((x.toNat:Int)==43)=true:=beq_iff_eq.2 (by omega)
 have q2:((x.toNat:Int)==45)=false:=beq_eq_false_iff_ne.2 (by omega)
 have HA:Hid (qaf false r.data.toList=⟨0,0,1⟩):=hid (by rw[qgz false hall,if_neg (by omega)])
 have CD:=hid (fun w=>qae r 0 w (by omega) (Nat.zero_le _))
 rw[hall,←hsz] at CD
 have q3:decide ((9:Int)<(r.size:Int))=true:=decide_eq_true (by omega)
 clear hsz hall hbad hx1 hrs
 go_enter Tryz.func92,Tryz.ntmps92
 go_wp2_with fail
 refine(CD.out _).mono ?_
 rintro e w'⟨rfl,rfl⟩
 go_wp2
 exact bodyPost_ret (v := .tuple #[.agg #[.int .i64 0,.int .i64 0],.int .i64 1]) (by simp[results,Tryz.results92,go_sem]) rfl ⟨by rw[HA.out],(Below.refl _ _).alloc (Nat.le_refl _) _⟩
theorem qtf(s:ByteArray)(w:World)(hs:s.size≤1000)(x:UInt8)(h0:0<s.size)(hx:s[0]'h0=x)(hx1:x.toNat=43)(r:ByteArray)(hr:s.extract 1 s.size=r)(hrs:r.size+1=s.size)(hall:qb2 r.data.toList 0=r.data.toList.length)(hbad:r.size=0) :
  Calls Tryz.prog 92 #[.string s] w fun e w'=>e=.returned (.tuple #[.agg #[.int .i64 (qaf false r.data.toList).n,.int .i64 (qaf false r.data.toList).d],.int .i64 (qaf false r.data.toList).e])∧Below w.heap.size w w':=by
 have hsz:=Lib.size_eq r
 have q0:decide ((0:Int)<(s.size:Int))=true:=decide_eq_true (by omega)
 have q1:((x.toNat:Int)==43)=true:=beq_iff_eq.2 (by omega)
 have q2:((x.toNat:Int)==45)=false:=beq_eq_false_iff_ne.2 (by omega)
 have HA:Hid (qaf false r.data.toList=⟨0,0,1⟩):=hid (by rw[qgz false hall,if_neg (by omega)])
 have CD:=hid (fun w=>qae r 0 w (by omega) (Nat.zero_le _))
 rw[hall,←hsz] at CD
 have q3:(r.size:Int)=0:=by omega
 clear hsz hall hbad hx1 hrs
 go_enter Tryz.func92,Tryz.ntmps92
 go_wp2_with fail
 refine(CD.out _).mono ?_
 rintro e w'⟨rfl,rfl⟩
 go_wp2
 exact bodyPost_ret (v := .tuple #[.agg #[.int .i64 0,.int .i64 0],.int .i64 1]) (by simp[results,Tryz.results92,go_sem]) rfl ⟨by rw[HA.out],(Below.refl _ _).alloc (Nat.le_refl _) _⟩
theorem qta(s:ByteArray)(w:World)(hs:s.size≤1000)(x:UInt8)(h0:0<s.size)(hx:s[0]'h0=x)(hx1:x.toNat=43)(r:ByteArray)(hr:s.extract 1 s.size=r)(hrs:r.size+1=s.size)(I:Nat)(hI:qb2 r.data.toList 0=I)(y:UInt8)(h1:I<r.size)(hy:r[I]'h1=y)(hy1:y.toNat≠46)(HA:Hid (qaf false r.data.toList=⟨0,0,1⟩)) :
  Calls Tryz.prog 92 #[.string s] w fun e w'=>e=.returned (.tuple #[.agg #[.int .i64 (qaf false r.data.toList).n,.int .i64 (qaf false r.data.toList).d],.int .i64 (qaf false r.data.toList).e])∧Below w.heap.size w w':=by
 have hsz:=Lib.size_eq r
 have q0:decide ((0:Int)<(s.size:Int))=true:=decide_eq_true (by omega)
 have q1:((x.toNat:Int)==43)=true:=beq_iff_eq.2 (by omega)
 have q2:((x.toNat:Int)==45)=false:=beq_eq_false_iff_ne.2 (by omega)
 have CD:=hid (fun w=>qae r 0 w (by omega) (Nat.zero_le _))
 rw[hI] at CD
 have q3:decide ((I:Int)<(r.size:Int))=true:=decide_eq_true (by omega)
 have q4:((y.toNat:Int)==46)=false:=beq_eq_false_iff_ne.2 (by omega)
 have q5:((I:Int)==(r.size:Int))=false:=beq_eq_false_iff_ne.2 (by omega)
 clear hsz hI hy1 hx1 hrs
 go_enter Tryz.func92,Tryz.ntmps92
 go_wp2_with fail
 refine(CD.out _).mono ?_
 rintro e w'⟨rfl,rfl⟩
 go_wp2
 exact bodyPost_ret (v := .tuple #[.agg #[.int .i64 0,.int .i64 0],.int .i64 1]) (by simp[results,Tryz.results92,go_sem]) rfl ⟨by rw[HA.out],(Below.refl _ _).alloc (Nat.le_refl _) _⟩
theorem qx6(s:ByteArray)(w:World)(hs:s.size≤1000)(x:UInt8)(h0:0<s.size)(hx:s[0]'h0=x)(hx1:x.toNat=45)(r:ByteArray)(hr:s.extract 1 s.size=r)(hrs:r.size+1=s.size)(hall:qb2 r.data.toList 0=r.data.toList.length)(hok:r.size≤9)(hok1:1≤r.size) :
  Calls Tryz.prog 92 #[.string s] w fun e w'=>e=.returned (.tuple #[.agg #[.int .i64 (qaf true r.data.toList).n,.int .i64 (qaf true r.data.toList).d],.int .i64 (qaf true r.data.toList).e])∧Below w.heap.size w w':=by
 have hsz:=Lib.size_eq r
 have q0:decide ((0:Int)<(s.size:Int))=true:=decide_eq_true (by omega)
 have q1:((x.toNat:Int)==43)=false:=beq_eq_false_iff_ne.2 (by omega)
 have q2:((x.toNat:Int)==45)=true:=beq_iff_eq.2 (by omega)
 have HA:Hid (qaf true r.data.toList=fit (-(val r.data.toList:Int)) 1):=hid (by rw[qgz true hall,if_pos ⟨by omega,by omega⟩];rfl)
 have hda:=qff (by rw[←qcw];exact hall)
 have hv:=qn1 hda (by omega)
 have CD:=hid (fun w=>qae r 0 w (by omega) (Nat.zero_le _))
 rw[hall,←hsz] at CD
 have CV:=hid (fun w=>qbo r w (by omega) hda)
 generalize val r.data.toList=V at *
 have CF:=hid (fun w=>qcc (-(V:Int)) 1 w (by omega) (by omega) (by decide))
 have e1:IntKind.i64.wrap (-1*(V:Int)) = -(V:Int):=by rw[IntWalk.i64_in _ (by omega)];omega
 have e1':IntKind.i64.wrap (-(V:Int)) = -(V:Int):=IntWalk.i64_in _ (by omega)
 have q3:decide ((9:Int)<(r.size:Int))=false:=decide_eq_false (by omega)
 have q4:((r.size:Int)==0)=false:=beq_eq_false_iff_ne.2 (by omega)
 have q5:decide ((r.size:Int)<(r.size:Int))=false:=decide_eq_false (by omega)
 clear hsz hall hda hv hok hok1 hx1 hrs
 go_enter Tryz.func92,Tryz.ntmps92
 go_wp2_with fail
 refine(CD.out _).mono ?_
 rintro e w'⟨rfl,rfl⟩
 go_wp2_with fail
 refine(CV.out _).mono ?_
 rintro e w'⟨rfl,rfl⟩
 go_wp2_with fail
 refine(CF.out _).mono ?_
 rintro e w1⟨rfl,hb⟩
 obtain⟨hc,hf⟩:=qad hb
 have z0:=qg4 hb
 have HB:=hid (qap hb)
 go_wp2
 exact bodyPost_ret (v := .tuple #[.agg #[.int .i64 (fit (-(V:Int)) 1).n,.int .i64 (fit (-(V:Int)) 1).d],.int .i64 (fit (-(V:Int)) 1).e]) (by simp[results,Tryz.results92,go_sem,hc]) rfl ⟨by rw[HA.out],qa2 HB.out _ _⟩
theorem qtb(s:ByteArray)(w:World)(hs:s.size≤1000)(x:UInt8)(h0:0<s.size)(hx:s[0]'h0=x)(hx1:x.toNat=45)(r:ByteArray)(hr:s.extract 1 s.size=r)(hrs:r.size+1=s.size)(hall:qb2 r.data.toList 0=r.data.toList.length)(hbad:9<r.size) :
  Calls Tryz.prog 92 #[.string s] w fun e w'=>e=.returned (.tuple #[.agg #[.int .i64 (qaf true r.data.toList).n,.int .i64 (qaf true r.data.toList).d],.int .i64 (qaf true r.data.toList).e])∧Below w.heap.size w w':=by
 have hsz:=Lib.size_eq r
 have q0:decide ((0:Int)<(s.size:Int))=true:=decide_eq_true (by omega)
 have q1:((x.toNat:Int)==43)=false:=beq_eq_false_iff_ne.2 (by omega)
 have q2:((x.toNat:Int)==45)=true:=beq_iff_eq.2 (by omega)
 have HA:Hid (qaf true r.data.toList=⟨0,0,1⟩):=hid (by rw[qgz true hall,if_neg (by omega)])
 have CD:=hid (fun w=>qae r 0 w (by omega) (Nat.zero_le _))
 rw[hall,←hsz] at CD
 have q3:decide ((9:Int)<(r.size:Int))=true:=decide_eq_true (by omega)
 clear hsz hall hbad hx1 hrs
 go_enter Tryz.func92,Tryz.ntmps92
 go_wp2_with fail
 refine(CD.out _).mono ?_
 rintro e w'⟨rfl,rfl⟩
 go_wp2
 exact bodyPost_ret (v := .tuple #[.agg #[.int .i64 0,.int .i64 0],.int .i64 1]) (by simp[results,Tryz.results92,go_sem]) rfl ⟨by rw[HA.out],(Below.refl _ _).alloc (Nat.le_refl _) _⟩
theorem qte(s:ByteArray)(w:World)(hs:s.size≤1000)(x:UInt8)(h0:0<s.size)(hx:s[0]'h0=x)(hx1:x.toNat=45)(r:ByteArray)(hr:s.extract 1 s.size=r)(hrs:r.size+1=s.size)(hall:qb2 r.data.toList 0=r.data.toList.length)(hbad:r.size=0) :
  Calls Tryz.prog 92 #[.string s] w fun e w'=>e=.returned (.tuple #[.agg #[.int .i64 (qaf true r.data.toList).n,.int .i64 (qaf true r.data.toList).d],.int .i64 (qaf true r.data.toList).e])∧Below w.heap.size w w':=by
 have hsz:=Lib.size_eq r
 have q0:decide ((0:Int)<(s.size:Int))=true:=decide_eq_true (by omega)
 have q1:((x.toNat:Int)==43)=false:=beq_eq_false_iff_ne.2 (by omega)
 have q2:((x.toNat:Int)==45)=true:=beq_iff_eq.2 (by omega)
 have HA:Hid (qaf true r.data.toList=⟨0,0,1⟩):=hid (by rw[qgz true hall,if_neg (by omega)])
 have CD:=hid (fun w=>qae r 0 w (by omega) (Nat.zero_le _))
 rw[hall,←hsz] at CD
 have q3:(r.size:Int)=0:=by omega
 clear hsz hall hbad hx1 hrs
 go_enter Tryz.func92,Tryz.ntmps92
 go_wp2_with fail
 refine(CD.out _).mono ?_
 rintro e w'⟨rfl,rfl⟩
 go_wp2
 exact bodyPost_ret (v := .tuple #[.agg #[.int .i64 0,.int .i64 0],.int .i64 1]) (by simp[results,Tryz.results92,go_sem]) rfl ⟨by rw[HA.out],(Below.refl _ _).alloc (Nat.le_refl _) _⟩
theorem qs8(s:ByteArray)(w:World)(hs:s.size≤1000)(x:UInt8)(h0:0<s.size)(hx:s[0]'h0=x)(hx1:x.toNat=45)(r:ByteArray)(hr:s.extract 1 s.size=r)(hrs:r.size+1=s.size)(I:Nat)(hI:qb2 r.data.toList 0=I)(y:UInt8)(h1:I<r.size)(hy:r[I]'h1=y)(hy1:y.toNat≠46)(HA:Hid (qaf true r.data.toList=⟨0,0,1⟩)) :
  Calls Tryz.prog 92 #[.string s] w fun e w'=>e=.returned (.tuple #[.agg #[.int .i64 (qaf true r.data.toList).n,.int .i64 (qaf true r.data.toList).d],.int .i64 (qaf true r.data.toList).e])∧Below w.heap.size w w':=by
 have hsz:=Lib.size_eq r
 have q0:decide ((0:Int)<(s.size:Int))=true:=decide_eq_true (by omega)
 have q1:((x.toNat:Int)==43)=false:=beq_eq_false_iff_ne.2 (by omega)
 have q2:((x.toNat:Int)==45)=true:=beq_iff_eq.2 (by omega)
 have CD:=hid (fun w=>qae r 0 w (by omega) (Nat.zero_le _))
 rw[hI] at CD
 have q3:decide ((I:Int)<(r.size:Int))=true:=decide_eq_true (by omega)
 have q4:((y.toNat:Int)==46)=false:=beq_eq_false_iff_ne.2 (by omega)
 have q5:((I:Int)==(r.size:Int))=false:=beq_eq_false_iff_ne.2 (by omega)
 clear hsz hI hy1 hx1 hrs
 go_enter Tryz.func92,Tryz.ntmps92
 go_wp2_with fail
 refine(CD.out _).mono ?_
 rintro e w'⟨rfl,rfl⟩
 go_wp2
 exact bodyPost_ret (v := .tuple #[.agg #[.int .i64 0,.int .i64 0],.int .i64 1]) (by simp[results,Tryz.results92,go_sem]) rfl ⟨by rw[HA.out],(Below.refl _ _).alloc (Nat.le_refl _) _⟩
end Go.Proofs.YtldkgbnmaefaaaaGreatDoor.Nu
namespace Go.Proofs.YtldkgbnmaefaaaaGreatDoor.Nu
open Go.RowKit
set_option linter.unusedVariables false
theorem q3w(s:ByteArray)(w:World)(hs:s.size≤1000)(x:UInt8)(h0:0<s.size)(hx:s[0]'h0=x)(hx1:x.toNat≠43)(hx2:x.toNat≠45)(I K:Nat)(hI:qb2 s.data.toList 0=I)(y:UInt8)(h1:I<s.size)(hy:s[I]'h1=y)(hy1:y.toNat=46)(hK:qb2 s.data.toList (I+1)=K)(hKb:K≠s.size)(HA:Hid (qaf false s.data.toList=⟨0,0,1⟩)) :
  Calls Tryz.prog 92 #[.string s] w fun e w'=>e=.returned (.tuple #[.agg #[.int .i64 (qaf false s.data.toList).n,.int .i64 (qaf false s.data.toList).d],.int .i64 (qaf false s.data.toList).e])∧Below w.heap.size w w':=by
 have hsz:=Lib.size_eq s
 have q0:decide ((0:Int)<(s.size:Int))=true:=decide_eq_true (by omega)
 have q1:((x.toNat:Int)==43)=false:=beq_eq_false_iff_ne.2 (by omega)
 have q2:((x.toNat:Int)==45)=false:=beq_eq_false_iff_ne.2 (by omega)
 have CD:=hid (fun w=>qae s 0 w (by omega) (Nat.zero_le _))
 rw[hI] at CD
 have cd2:=fun w=>qae s (I+1) w (by omega) (by omega)
 rw[hK,Int.natCast_succ] at cd2
 have CD2:=hid cd2
 have eI:IntKind.i64.wrap ((I:Int)+1)=(I:Int)+1:=IntWalk.i64_in _ (by omega)
 have q3:decide ((I:Int)<(s.size:Int))=true:=decide_eq_true (by omega)
 have q4:((y.toNat:Int)==46)=true:=beq_iff_eq.2 (by omega)
 have q5:((K:Int)==(s.size:Int))=false:=beq_eq_false_iff_ne.2 (by omega)
 have q6:((K:Int) != (s.size:Int))=true:=by rw[bne,q5];rfl
 have q8 : ¬ (K:Int)=(s.size:Int):=by omega
 clear hKb
 clear hsz hI hK cd2 hy1 hx1 hx2
 go_enter Tryz.func92,Tryz.ntmps92
 go_wp2_with fail
 refine(CD.out _).mono ?_
 rintro e w'⟨rfl,rfl⟩
 go_wp2_with fail
 refine(CD2.out _).mono ?_
 rintro e w'⟨rfl,rfl⟩
 go_wp2
 exact bodyPost_ret (v := .tuple #[.agg #[.int .i64 0,.int .i64 0],.int .i64 1]) (by simp[results,Tryz.results92,go_sem]) rfl ⟨by rw[HA.out],(Below.refl _ _).alloc (Nat.le_refl _) _⟩
theorem q3t(s:ByteArray)(w:World)(hs:s.size≤1000)(x:UInt8)(h0:0<s.size)(hx:s[0]'h0=x)(hx1:x.toNat≠43)(hx2:x.toNat≠45)(I K:Nat)(hI:qb2 s.data.toList 0=I)(y:UInt8)(h1:I<s.size)(hy:s[I]'h1=y)(hy1:y.toNat=46)(hK:qb2 s.data.toList (I+1)=s.size)(hb:9<I)(HA:Hid (qaf false s.data.toList=⟨0,0,1⟩)) :
  Calls Tryz.prog 92 #[.string s] w fun e w'=>e=.returned (.tuple #[.agg #[.int .i64 (qaf false s.data.toList).n,.int .i64 (qaf false s.data.toList).d],.int .i64 (qaf false s.data.toList).e])∧Below w.heap.size w w':=by
 have hsz:=Lib.size_eq s
 have q0:decide ((0:Int)<(s.size:Int))=true:=decide_eq_true (by omega)
 have q1:((x.toNat:Int)==43)=false:=beq_eq_false_iff_ne.2 (by omega)
 have q2:((x.toNat:Int)==45)=false:=beq_eq_false_iff_ne.2 (by omega)
 have CD:=hid (fun w=>qae s 0 w (by omega) (Nat.zero_le _))
 rw[hI] at CD
 have cd2:=fun w=>qae s (I+1) w (by omega) (by omega)
 rw[hK,Int.natCast_succ] at cd2
 have CD2:=hid cd2
 have eI:IntKind.i64.wrap ((I:Int)+1)=(I:Int)+1:=IntWalk.i64_in _ (by omega)
 have q3:decide ((I:Int)<(s.size:Int))=true:=decide_eq_true (by omega)
 have q4:((y.toNat:Int)==46)=true:=beq_iff_eq.2 (by omega)
 have q5:decide ((9:Int)<(I:Int))=true:=decide_eq_true (by omega)
 clear hb
 clear hsz hI hK cd2 hy1 hx1 hx2
 go_enter Tryz.func92,Tryz.ntmps92
 go_wp2_with fail
 refine(CD.out _).mono ?_
 rintro e w'⟨rfl,rfl⟩
 go_wp2_with fail
 refine(CD2.out _).mono ?_
 rintro e w'⟨rfl,rfl⟩
 go_wp2
 exact bodyPost_ret (v := .tuple #[.agg #[.int .i64 0,.int .i64 0],.int .i64 1]) (by simp[results,Tryz.results92,go_sem]) rfl ⟨by rw[HA.out],(Below.refl _ _).alloc (Nat.le_refl _) _⟩
theorem q3n(s:ByteArray)(w:World)(hs:s.size≤1000)(x:UInt8)(h0:0<s.size)(hx:s[0]'h0=x)(hx1:x.toNat≠43)(hx2:x.toNat≠45)(I K:Nat)(hI:qb2 s.data.toList 0=I)(y:UInt8)(h1:I<s.size)(hy:s[I]'h1=y)(hy1:y.toNat=46)(hK:qb2 s.data.toList (I+1)=s.size)(hb:I≤9)(hm:s.size=I+1)(HA:Hid (qaf false s.data.toList=⟨0,0,1⟩)) :
  Calls Tryz.prog 92 #[.string s] w fun e w'=>e=.returned (.tuple #[.agg #[.int .i64 (qaf false s.data.toList).n,.int .i64 (qaf false s.data.toList).d],.int .i64 (qaf false s.data.toList).e])∧Below w.heap.size w w':=by
 have hsz:=Lib.size_eq s
 have q0:decide ((0:Int)<(s.size:Int))=true:=decide_eq_true (by omega)
 have q1:((x.toNat:Int)==43)=false:=beq_eq_false_iff_ne.2 (by omega)
 have q2:((x.toNat:Int)==45)=false:=beq_eq_false_iff_ne.2 (by omega)
 have CD:=hid (fun w=>qae s 0 w (by omega) (Nat.zero_le _))
 rw[hI] at CD
 have cd2:=fun w=>qae s (I+1) w (by omega) (by omega)
 rw[hK,Int.natCast_succ] at cd2
 have CD2:=hid cd2
 have eI:IntKind.i64.wrap ((I:Int)+1)=(I:Int)+1:=IntWalk.i64_in _ (by omega)
 have q3:decide ((I:Int)<(s.size:Int))=true:=decide_eq_true (by omega)
 have q4:((y.toNat:Int)==46)=true:=beq_iff_eq.2 (by omega)
 have q5:decide ((9:Int)<(I:Int))=false:=decide_eq_false (by omega)
 have s1:IntKind.i64.wrap ((s.size:Int)-(I:Int))=(s.size:Int)-(I:Int):=IntWalk.i64_in _ (by omega)
 have s2:IntKind.i64.wrap ((s.size:Int)-(I:Int)-1)=0:=by rw[IntWalk.i64_in _ (by omega)];omega
 clear hb hm
 clear hsz hI hK cd2 hy1 hx1 hx2
 go_enter Tryz.func92,Tryz.ntmps92
 go_wp2_with fail
 refine(CD.out _).mono ?_
 rintro e w'⟨rfl,rfl⟩
 go_wp2_with fail
 refine(CD2.out _).mono ?_
 rintro e w'⟨rfl,rfl⟩
 go_wp2
 exact bodyPost_ret (v := .tuple #[.agg #[.int .i64 0,.int .i64 0],.int .i64 1]) (by simp[results,Tryz.results92,go_sem]) rfl ⟨by rw[HA.out],(Below.refl _ _).alloc (Nat.le_refl _) _⟩
theorem q3q(s:ByteArray)(w:World)(hs:s.size≤1000)(x:UInt8)(h0:0<s.size)(hx:s[0]'h0=x)(hx1:x.toNat≠43)(hx2:x.toNat≠45)(I K:Nat)(hI:qb2 s.data.toList 0=I)(y:UInt8)(h1:I<s.size)(hy:s[I]'h1=y)(hy1:y.toNat=46)(hK:qb2 s.data.toList (I+1)=s.size)(hb:I≤9)(hm:s.size=I+1+K)(hm9:9<K)(HA:Hid (qaf false s.data.toList=⟨0,0,1⟩)) :
  Calls Tryz.prog 92 #[.string s] w fun e w'=>e=.returned (.tuple #[.agg #[.int .i64 (qaf false s.data.toList).n,.int .i64 (qaf false s.data.toList).d],.int .i64 (qaf false s.data.toList).e])∧Below w.heap.size w w':=by
 have hsz:=Lib.size_eq s
 have q0:decide ((0:Int)<(s.size:Int))=true:=decide_eq_true (by omega)
 have q1:((x.toNat:Int)==43)=false:=beq_eq_false_iff_ne.2 (by omega)
 have q2:((x.toNat:Int)==45)=false:=beq_eq_false_iff_ne.2 (by omega)
 have CD:=hid (fun w=>qae s 0 w (by omega) (Nat.zero_le _))
 rw[hI] at CD
 have cd2:=fun w=>qae s (I+1) w (by omega) (by omega)
 rw[hK,Int.natCast_succ] at cd2
 have CD2:=hid cd2
 have eI:IntKind.i64.wrap ((I:Int)+1)=(I:Int)+1:=IntWalk.i64_in _ (by omega)
 have q3:decide ((I:Int)<(s.size:Int))=true:=decide_eq_true (by omega)
 have q4:((y.toNat:Int)==46)=true:=beq_iff_eq.2 (by omega)
 have q5:decide ((9:Int)<(I:Int))=false:=decide_eq_false (by omega)
 have s1:IntKind.i64.wrap ((s.size:Int)-(I:Int))=(s.size:Int)-(I:Int):=IntWalk.i64_in _ (by omega)
 have s2:IntKind.i64.wrap ((s.size:Int)-(I:Int)-1)=(K:Int):=by rw[IntWalk.i64_in _ (by omega)];omega
 have q6:decide ((K:Int)<1)=false:=decide_eq_false (by omega)
 have q7:decide ((9:Int)<(K:Int))=true:=decide_eq_true (by omega)
 clear hm9
 clear hb hm
 clear hsz hI hK cd2 hy1 hx1 hx2
 go_enter Tryz.func92,Tryz.ntmps92
 go_wp2_with fail
 refine(CD.out _).mono ?_
 rintro e w'⟨rfl,rfl⟩
 go_wp2_with fail
 refine(CD2.out _).mono ?_
 rintro e w'⟨rfl,rfl⟩
 go_wp2
 exact bodyPost_ret (v := .tuple #[.agg #[.int .i64 0,.int .i64 0],.int .i64 1]) (by simp[results,Tryz.results92,go_sem]) rfl ⟨by rw[HA.out],(Below.refl _ _).alloc (Nat.le_refl _) _⟩
theorem q3x(s:ByteArray)(w:World)(hs:s.size≤1000)(x:UInt8)(h0:0<s.size)(hx:s[0]'h0=x)(hx1:x.toNat=43)(r:ByteArray)(hr:s.extract 1 s.size=r)(hrs:r.size+1=s.size)(I K:Nat)(hI:qb2 r.data.toList 0=I)(y:UInt8)(h1:I<r.size)(hy:r[I]'h1=y)(hy1:y.toNat=46)(hK:qb2 r.data.toList (I+1)=K)(hKb:K≠r.size)(HA:Hid (qaf false r.data.toList=⟨0,0,1⟩)) :
  Calls Tryz.prog 92 #[.string s] w fun e w'=>e=.returned (.tuple #[.agg #[.int .i64 (qaf false r.data.toList).n,.int .i64 (qaf false r.data.toList).d],.int .i64 (qaf false r.data.toList).e])∧Below w.heap.size w w':=by
 have hsz:=Lib.size_eq r
 have q0:decide ((0:Int)<(s.size:Int))=true:=decide_eq_true (by omega)
 have q1:((x.toNat:Int)==43)=true:=beq_iff_eq.2 (by omega)
 have q2:((x.toNat:Int)==45)=false:=beq_eq_false_iff_ne.2 (by omega)
 have CD:=hid (fun w=>qae r 0 w (by omega) (Nat.zero_le _))
 rw[hI] at CD
 have cd2:=fun w=>qae r (I+1) w (by omega) (by omega)
 rw[hK,Int.natCast_succ] at cd2
 have CD2:=hid cd2
 have eI:IntKind.i64.wrap ((I:Int)+1)=(I:Int)+1:=IntWalk.i64_in _ (by omega)
 have q3:decide ((I:Int)<(r.size:Int))=true:=decide_eq_true (by omega)
 have q4:((y.toNat:Int)==46)=true:=beq_iff_eq.2 (by omega)
 have q5:((K:Int)==(r.size:Int))=false:=beq_eq_false_iff_ne.2 (by omega)
 have q6:((K:Int) != (r.size:Int))=true:=by rw[bne,q5];rfl
 have q8 : ¬ (K:Int)=(r.size:Int):=by omega
 clear hKb
 clear hsz hI hK cd2 hy1 hx1 hrs
 go_enter Tryz.func92,Tryz.ntmps92
 go_wp2_with fail
 refine(CD.out _).mono ?_
 rintro e w'⟨rfl,rfl⟩
 go_wp2_with fail
 refine(CD2.out _).mono ?_
 rintro e w'⟨rfl,rfl⟩
 go_wp2
 exact bodyPost_ret (v := .tuple #[.agg #[.int .i64 0,.int .i64 0],.int .i64 1]) (by simp[results,Tryz.results92,go_sem]) rfl ⟨by rw[HA.out],(Below.refl _ _).alloc (Nat.le_refl _) _⟩
theorem q3u(s:ByteArray)(w:World)(hs:s.size≤1000)(x:UInt8)(h0:0<s.size)(hx:s[0]'h0=x)(hx1:x.toNat=43)(r:ByteArray)(hr:s.extract 1 s.size=r)(hrs:r.size+1=s.size)(I K:Nat)(hI:qb2 r.data.toList 0=I)(y:UInt8)(h1:I<r.size)(hy:r[I]'h1=y)(hy1:y.toNat=46)(hK:qb2 r.data.toList (I+1)=r.size)(hb:9<I)(HA:Hid (qaf false r.data.toList=⟨0,0,1⟩)) :
  Calls Tryz.prog 92 #[.string s] w fun e w'=>e=.returned (.tuple #[.agg #[.int .i64 (qaf false r.data.toList).n,.int .i64 (qaf false r.data.toList).d],.int .i64 (qaf false r.data.toList).e])∧Below w.heap.size w w':=by
 have hsz:=Lib.size_eq r
 have q0:decide ((0:Int)<(s.size:Int))=true:=decide_eq_true (by omega)
 have q1:((x.toNat:Int)==43)=true:=beq_iff_eq.2 (by omega)
 have q2:((x.toNat:Int)==45)=false:=beq_eq_false_iff_ne.2 (by omega)
 have CD:=hid (fun w=>qae r 0 w (by omega) (Nat.zero_le _))
 rw[hI] at CD
 have cd2:=fun w=>qae r (I+1) w (by omega) (by omega)
 rw[hK,Int.natCast_succ] at cd2
 have CD2:=hid cd2
 have eI:IntKind.i64.wrap ((I:Int)+1)=(I:Int)+1:=IntWalk.i64_in _ (by omega)
 have q3:decide ((I:Int)<(r.size:Int))=true:=decide_eq_true (by omega)
 have q4:((y.toNat:Int)==46)=true:=beq_iff_eq.2 (by omega)
 have q5:decide ((9:Int)<(I:Int))=true:=decide_eq_true (by omega)
 clear hb
 clear hsz hI hK cd2 hy1 hx1 hrs
 go_enter Tryz.func92,Tryz.ntmps92
 go_wp2_with fail
 refine(CD.out _).mono ?_
 rintro e w'⟨rfl,rfl⟩
 go_wp2_with fail
 refine(CD2.out _).mono ?_
 rintro e w'⟨rfl,rfl⟩
 go_wp2
 exact bodyPost_ret (v := .tuple #[.agg #[.int .i64 0,.int .i64 0],.int .i64 1]) (by simp[results,Tryz.results92,go_sem]) rfl ⟨by rw[HA.out],(Below.refl _ _).alloc (Nat.le_refl _) _⟩
theorem q3o(s:ByteArray)(w:World)(hs:s.size≤1000)(x:UInt8)(h0:0<s.size)(hx:s[0]'h0=x)(hx1:x.toNat=43)(r:ByteArray)(hr:s.extract 1 s.size=r)(hrs:r.size+1=s.size)(I K:Nat)(hI:qb2 r.data.toList 0=I)(y:UInt8)(h1:I<r.size)(hy:r[I]'h1=y)(hy1:y.toNat=46)(hK:qb2 r.data.toList (I+1)=r.size)(hb:I≤9)(hm:r.size=I+1)(HA:Hid (qaf false r.data.toList=⟨0,0,1⟩)) :
  Calls Tryz.prog 92 #[.string s] w fun e w'=>e=.returned (.tuple #[.agg #[.int .i64 (qaf false r.data.toList).n,.int .i64 (qaf false r.data.toList).d],.int .i64 (qaf false r.data.toList).e])∧Below w.heap.size w w':=by
 have hsz:=Lib.size_eq r
 have q0:decide ((0:Int)<(s.size:Int))=true:=decide_eq_true (by omega)
 have q1:((x.toNat:Int)==43)=true:=beq_iff_eq.2 (by omega)
 have q2:((x.toNat:Int)==45)=false:=beq_eq_false_iff_ne.2 (by omega)
 have CD:=hid (fun w=>qae r 0 w (by omega) (Nat.zero_le _))
 rw[hI] at CD
 have cd2:=fun w=>qae r (I+1) w (by omega) (by omega)
 rw[hK,Int.natCast_succ] at cd2
 have CD2:=hid cd2
 have eI:IntKind.i64.wrap ((I:Int)+1)=(I:Int)+1:=IntWalk.i64_in _ (by omega)
 have q3:decide ((I:Int)<(r.size:Int))=true:=decide_eq_true (by omega)
 have q4:((y.toNat:Int)==46)=true:=beq_iff_eq.2 (by omega)
 have q5:decide ((9:Int)<(I:Int))=false:=decide_eq_false (by omega)
 have s1:IntKind.i64.wrap ((r.size:Int)-(I:Int))=(r.size:Int)-(I:Int):=IntWalk.i64_in _ (by omega)
 have s2:IntKind.i64.wrap ((r.size:Int)-(I:Int)-1)=0:=by rw[IntWalk.i64_in _ (by omega)];omega
 clear hb hm
 clear hsz hI hK cd2 hy1 hx1 hrs
 go_enter Tryz.func92,Tryz.ntmps92
 go_wp2_with fail
 refine(CD.out _).mono ?_
 rintro e w'⟨rfl,rfl⟩
 go_wp2_with fail
 refine(CD2.out _).mono ?_
 rintro e w'⟨rfl,rfl⟩
 go_wp2
 exact bodyPost_ret (v := .tuple #[.agg #[.int .i64 0,.int .i64 0],.int .i64 1]) (by simp[results,Tryz.results92,go_sem]) rfl ⟨by rw[HA.out],(Below.refl _ _).alloc (Nat.le_refl _) _⟩
theorem q3r(s:ByteArray)(w:World)(hs:s.size≤1000)(x:UInt8)(h0:0<s.size)(hx:s[0]'h0=x)(hx1:x.toNat=43)(r:ByteArray)(hr:s.extract 1 s.size=r)(hrs:r.size+1=s.size)(I K:Nat)(hI:qb2 r.data.toList 0=I)(y:UInt8)(h1:I<r.size)(hy:r[I]'h1=y)(hy1:y.toNat=46)(hK:qb2 r.data.toList (I+1)=r.size)(hb:I≤9)(hm:r.size=I+1+K)(hm9:9<K)(HA:Hid (qaf false r.data.toList=⟨0,0,1⟩)) :
  Calls Tryz.prog 92 #[.string s] w fun e w'=>e=.returned (.tuple #[.agg #[.int .i64 (qaf false r.data.toList).n,.int .i64 (qaf false r.data.toList).d],.int .i64 (qaf false r.data.toList).e])∧Below w.heap.size w w':=by
 have hsz:=Lib.size_eq r
 have q0:decide ((0:Int)<(s.size:Int))=true:=decide_eq_true (by omega)
 have q1:((x.toNat:Int)==43)=true:=beq_iff_eq.2 (by omega)
 have q2:((x.toNat:Int)==45)=false:=beq_eq_false_iff_ne.2 (by omega)
 have CD:=hid (fun w=>qae r 0 w (by omega) (Nat.zero_le _))
 rw[hI] at CD
 have cd2:=fun w=>qae r (I+1) w (by omega) (by omega)
 rw[hK,Int.natCast_succ] at cd2
 have CD2:=hid cd2
 have eI:IntKind.i64.wrap ((I:Int)+1)=(I:Int)+1:=IntWalk.i64_in _ (by omega)
 have q3:decide ((I:Int)<(r.size:Int))=true:=decide_eq_true (by omega)
 have q4:((y.toNat:Int)==46)=true:=beq_iff_eq.2 (by omega)
 have q5:decide ((9:Int)<(I:Int))=false:=decide_eq_false (by omega)
 have s1:IntKind.i64.wrap ((r.size:Int)-(I:Int))=(r.size:Int)-(I:Int):=IntWalk.i64_in _ (by omega)
 have s2:IntKind.i64.wrap ((r.size:Int)-(I:Int)-1)=(K:Int):=by rw[IntWalk.i64_in _ (by omega)];omega
 have q6:decide ((K:Int)<1)=false:=decide_eq_false (by omega)
 have q7:decide ((9:Int)<(K:Int))=true:=decide_eq_true (by omega)
 clear hm9
 clear hb hm
 clear hsz hI hK cd2 hy1 hx1 hrs
 go_enter Tryz.func92,Tryz.ntmps92
 go_wp2_with fail
 refine(CD.out _).mono ?_
 rintro e w'⟨rfl,rfl⟩
 go_wp2_with fail
 refine(CD2.out _).mono ?_
 rintro e w'⟨rfl,rfl⟩
 go_wp2
 exact bodyPost_ret (v := .tuple #[.agg #[.int .i64 0,.int .i64 0],.int .i64 1]) (by simp[results,Tryz.results92,go_sem]) rfl ⟨by rw[HA.out],(Below.refl _ _).alloc (Nat.le_refl _) _⟩
theorem q3v(s:ByteArray)(w:World)(hs:s.size≤1000)(x:UInt8)(h0:0<s.size)(hx:s[0]'h0=x)(hx1:x.toNat=45)(r:ByteArray)(hr:s.extract 1 s.size=r)(hrs:r.size+1=s.size)(I K:Nat)(hI:qb2 r.data.toList 0=I)(y:UInt8)(h1:I<r.size)(hy:r[I]'h1=y)(hy1:y.toNat=46)(hK:qb2 r.data.toList (I+1)=K)(hKb:K≠r.size)(HA:Hid (qaf true r.data.toList=⟨0,0,1⟩)) :
  Calls Tryz.prog 92 #[.string s] w fun e w'=>e=.returned (.tuple #[.agg #[.int .i64 (qaf true r.data.toList).n,.int .i64 (qaf true r.data.toList).d],.int .i64 (qaf true r.data.toList).e])∧Below w.heap.size w w':=by
 have hsz:=Lib.size_eq r
 have q0:decide ((0:Int)<(s.size:Int))=true:=decide_eq_true (by omega)
 have q1:((x.toNat:Int)==43)=false:=beq_eq_false_iff_ne.2 (by omega)
 have q2:((x.toNat:Int)==45)=true:=beq_iff_eq.2 (by omega)
 have CD:=hid (fun w=>qae r 0 w (by omega) (Nat.zero_le _))
 rw[hI] at CD
 have cd2:=fun w=>qae r (I+1) w (by omega) (by omega)
 rw[hK,Int.natCast_succ] at cd2
 have CD2:=hid cd2
 have eI:IntKind.i64.wrap ((I:Int)+1)=(I:Int)+1:=IntWalk.i64_in _ (by omega)
 have q3:decide ((I:Int)<(r.size:Int))=true:=decide_eq_true (by omega)
 have q4:((y.toNat:Int)==46)=true:=beq_iff_eq.2 (by omega)
 have q5:((K:Int)==(r.size:Int))=false:=beq_eq_false_iff_ne.2 (by omega)
 have q6:((K:Int) != (r.size:Int))=true:=by rw[bne,q5];rfl
 have q8 : ¬ (K:Int)=(r.size:Int):=by omega
 clear hKb
 clear hsz hI hK cd2 hy1 hx1 hrs
 go_enter Tryz.func92,Tryz.ntmps92
 go_wp2_with fail
 refine(CD.out _).mono ?_
 rintro e w'⟨rfl,rfl⟩
 go_wp2_with fail
 refine(CD2.out _).mono ?_
 rintro e w'⟨rfl,rfl⟩
 go_wp2
 exact bodyPost_ret (v := .tuple #[.agg #[.int .i64 0,.int .i64 0],.int .i64 1]) (by simp[results,Tryz.results92,go_sem]) rfl ⟨by rw[HA.out],(Below.refl _ _).alloc (Nat.le_refl _) _⟩
theorem q3s(s:ByteArray)(w:World)(hs:s.size≤1000)(x:UInt8)(h0:0<s.size)(hx:s[0]'h0=x)(hx1:x.toNat=45)(r:ByteArray)(hr:s.extract 1 s.size=r)(hrs:r.size+1=s.size)(I K:Nat)(hI:qb2 r.data.toList 0=I)(y:UInt8)(h1:I<r.size)(hy:r[I]'h1=y)(hy1:y.toNat=46)(hK:qb2 r.data.toList (I+1)=r.size)(hb:9<I)(HA:Hid (qaf true r.data.toList=⟨0,0,1⟩)) :
  Calls Tryz.prog 92 #[.string s] w fun e w'=>e=.returned (.tuple #[.agg #[.int .i64 (qaf true r.data.toList).n,.int .i64 (qaf true r.data.toList).d],.int .i64 (qaf true r.data.toList).e])∧Below w.heap.size w w':=by
 have hsz:=Lib.size_eq r
 have q0:decide ((0:Int)<(s.size:Int))=true:=decide_eq_true (by omega)
 have q1:((x.toNat:Int)==43)=false:=beq_eq_false_iff_ne.2 (by omega)
 have q2:((x.toNat:Int)==45)=true:=beq_iff_eq.2 (by omega)
 have CD:=hid (fun w=>qae r 0 w (by omega) (Nat.zero_le _))
 rw[hI] at CD
 have cd2:=fun w=>qae r (I+1) w (by omega) (by omega)
 rw[hK,Int.natCast_succ] at cd2
 have CD2:=hid cd2
 have eI:IntKind.i64.wrap ((I:Int)+1)=(I:Int)+1:=IntWalk.i64_in _ (by omega)
 have q3:decide ((I:Int)<(r.size:Int))=true:=decide_eq_true (by omega)
 have q4:((y.toNat:Int)==46)=true:=beq_iff_eq.2 (by omega)
 have q5:decide ((9:Int)<(I:Int))=true:=decide_eq_true (by omega)
 clear hb
 clear hsz hI hK cd2 hy1 hx1 hrs
 go_enter Tryz.func92,Tryz.ntmps92
 go_wp2_with fail
 refine(CD.out _).mono ?_
 rintro e w'⟨rfl,rfl⟩
 go_wp2_with fail
 refine(CD2.out _).mono ?_
 rintro e w'⟨rfl,rfl⟩
 go_wp2
 exact bodyPost_ret (v := .tuple #[.agg #[.int .i64 0,.int .i64 0],.int .i64 1]) (by simp[results,Tryz.results92,go_sem]) rfl ⟨by rw[HA.out],(Below.refl _ _).alloc (Nat.le_refl _) _⟩
theorem q3m(s:ByteArray)(w:World)(hs:s.size≤1000)(x:UInt8)(h0:0<s.size)(hx:s[0]'h0=x)(hx1:x.toNat=45)(r:ByteArray)(hr:s.extract 1 s.size=r)(hrs:r.size+1=s.size)(I K:Nat)(hI:qb2 r.data.toList 0=I)(y:UInt8)(h1:I<r.size)(hy:r[I]'h1=y)(hy1:y.toNat=46)(hK:qb2 r.data.toList (I+1)=r.size)(hb:I≤9)(hm:r.size=I+1)(HA:Hid (qaf true r.data.toList=⟨0,0,1⟩)) :
  Calls Tryz.prog 92 #[.string s] w fun e w'=>e=.returned (.tuple #[.agg #[.int .i64 (qaf true r.data.toList).n,.int .i64 (qaf true r.data.toList).d],.int .i64 (qaf true r.data.toList).e])∧Below w.heap.size w w':=by
 have hsz:=Lib.size_eq r
 have q0:decide ((0:Int)<(s.size:Int))=true:=decide_eq_true (by omega)
 have q1:((x.toNat:Int)==43)=false:=beq_eq_false_iff_ne.2 (by omega)
 have q2:((x.toNat:Int)==45)=true:=beq_iff_eq.2 (by omega)
 have CD:=hid (fun w=>qae r 0 w (by omega) (Nat.zero_le _))
 rw[hI] at CD
 have cd2:=fun w=>qae r (I+1) w (by omega) (by omega)
 rw[hK,Int.natCast_succ] at cd2
 have CD2:=hid cd2
 have eI:IntKind.i64.wrap ((I:Int)+1)=(I:Int)+1:=IntWalk.i64_in _ (by omega)
 have q3:decide ((I:Int)<(r.size:Int))=true:=decide_eq_true (by omega)
 have q4:((y.toNat:Int)==46)=true:=beq_iff_eq.2 (by omega)
 have q5:decide ((9:Int)<(I:Int))=false:=decide_eq_false (by omega)
 have s1:IntKind.i64.wrap ((r.size:Int)-(I:Int))=(r.size:Int)-(I:Int):=IntWalk.i64_in _ (by omega)
 have s2:IntKind.i64.wrap ((r.size:Int)-(I:Int)-1)=0:=by rw[IntWalk.i64_in _ (by omega)];omega
 clear hb hm
 clear hsz hI hK cd2 hy1 hx1 hrs
 go_enter Tryz.func92,Tryz.ntmps92
 go_wp2_with fail
 refine(CD.out _).mono ?_
 rintro e w'⟨rfl,rfl⟩
 go_wp2_with fail
 refine(CD2.out _).mono ?_
 rintro e w'⟨rfl,rfl⟩
 go_wp2
 exact bodyPost_ret (v := .tuple #[.agg #[.int .i64 0,.int .i64 0],.int .i64 1]) (by simp[results,Tryz.results92,go_sem]) rfl ⟨by rw[HA.out],(Below.refl _ _).alloc (Nat.le_refl _) _⟩
theorem q3p(s:ByteArray)(w:World)(hs:s.size≤1000)(x:UInt8)(h0:0<s.size)(hx:s[0]'h0=x)(hx1:x.toNat=45)(r:ByteArray)(hr:s.extract 1 s.size=r)(hrs:r.size+1=s.size)(I K:Nat)(hI:qb2 r.data.toList 0=I)(y:UInt8)(h1:I<r.size)(hy:r[I]'h1=y)(hy1:y.toNat=46)(hK:qb2 r.data.toList (I+1)=r.size)(hb:I≤9)(hm:r.size=I+1+K)(hm9:9<K)(HA:Hid (qaf true r.data.toList=⟨0,0,1⟩)) :
  Calls Tryz.prog 92 #[.string s] w fun e w'=>e=.returned (.tuple #[.agg #[.int .i64 (qaf true r.data.toList).n,.int .i64 (qaf true r.data.toList).d],.int .i64 (qaf true r.data.toList).e])∧Below w.heap.size w w':=by
 have hsz:=Lib.size_eq r
 have q0:decide ((0:Int)<(s.size:Int))=true:=decide_eq_true (by omega)
 have q1:((x.toNat:Int)==43)=false:=beq_eq_false_iff_ne.2 (by omega)
 have q2:((x.toNat:Int)==45)=true:=beq_iff_eq.2 (by omega)
 have CD:=hid (fun w=>qae r 0 w (by omega) (Nat.zero_le _))
 rw[hI] at CD
 have cd2:=fun w=>qae r (I+1) w (by omega) (by omega)
 rw[hK,Int.natCast_succ] at cd2
 have CD2:=hid cd2
 have eI:IntKind.i64.wrap ((I:Int)+1)=(I:Int)+1:=IntWalk.i64_in _ (by omega)
 have q3:decide ((I:Int)<(r.size:Int))=true:=decide_eq_true (by omega)
 have q4:((y.toNat:Int)==46)=true:=beq_iff_eq.2 (by omega)
 have q5:decide ((9:Int)<(I:Int))=false:=decide_eq_false (by omega)
 have s1:IntKind.i64.wrap ((r.size:Int)-(I:Int))=(r.size:Int)-(I:Int):=IntWalk.i64_in _ (by omega)
 have s2:IntKind.i64.wrap ((r.size:Int)-(I:Int)-1)=(K:Int):=by rw[IntWalk.i64_in _ (by omega)];omega
 have q6:decide ((K:Int)<1)=false:=decide_eq_false (by omega)
 have q7:decide ((9:Int)<(K:Int))=true:=decide_eq_true (by omega)
 clear hm9
 clear hb hm
 clear hsz hI hK cd2 hy1 hx1 hrs
 go_enter Tryz.func92,Tryz.ntmps92
 go_wp2_with fail
 refine(CD.out _).mono ?_
 rintro e w'⟨rfl,rfl⟩
 go_wp2_with fail
 refine(CD2.out _).mono ?_
 rintro e w'⟨rfl,rfl⟩
 go_wp2
 exact bodyPost_ret (v := .tuple #[.agg #[.int .i64 0,.int .i64 0],.int .i64 1]) (by simp[results,Tryz.results92,go_sem]) rfl ⟨by rw[HA.out],(Below.refl _ _).alloc (Nat.le_refl _) _⟩
end Go.Proofs.YtldkgbnmaefaaaaGreatDoor.Nu
namespace Go.Proofs.YtldkgbnmaefaaaaGreatDoor.Nu
open Go.RowKit
set_option linter.unusedVariables false
theorem q0o{w w':World}(h:Below w.drew.heap.size w.drew w'):Below w.heap.size w w':=(below_drewN (Below.refl w.heap.size w) 1).trans h
theorem q4a(s:ByteArray)(w:World)(hs:s.size≤1000)(x:UInt8)(h0:0<s.size)(hx:s[0]'h0=x)(hx1:x.toNat≠43)(hx2:x.toNat≠45)(I K va vb:Nat)(hI:qb2 s.data.toList 0=I)(y:UInt8)(h1:I<s.size)(hy:s[I]'h1=y)(hy1:y.toNat=46)(hK:qb2 s.data.toList (I+1)=s.size)(hb:I≤9)(hm:s.size=I+1+K)(hm1:1≤K)(hm9:K≤9)(hva:va<1000000000)(hvb:vb<1000000000)
  (CA:Hid (∀ w,Calls Tryz.prog 152 #[.string (s.extract 0 I)] w fun e w'=>e=.returned (.int .i64 (va:Int))∧w=w'))
  (CB:Hid (∀ w,Calls Tryz.prog 152 #[.string (s.extract (I+1) s.size)] w fun e w'=>e=.returned (.int .i64 (vb:Int))∧w=w'))
  (HA:Hid (qaf false s.data.toList=fit ((va*10^K+vb:Nat):Int) (pw K))) :
  Calls Tryz.prog 92 #[.string s] w fun e w'=>e=.returned (.tuple #[.agg #[.int .i64 (qaf false s.data.toList).n,.int .i64 (qaf false s.data.toList).d],.int .i64 (qaf false s.data.toList).e])∧Below w.heap.size w w':=by
 have hsz:=Lib.size_eq s
 have q0:decide ((0:Int)<(s.size:Int))=true:=decide_eq_true (by omega)
 have q1:((x.toNat:Int)==43)=false:=beq_eq_false_iff_ne.2 (by omega)
 have q2:((x.toNat:Int)==45)=false:=beq_eq_false_iff_ne.2 (by omega)
 have CD:=hid (fun w=>qae s 0 w (by omega) (Nat.zero_le _))
 rw[hI] at CD
 have cd2:=fun w=>qae s (I+1) w (by omega) (by omega)
 rw[hK,Int.natCast_succ] at cd2
 have CD2:=hid cd2
 have hpw:=qg2 K
 obtain⟨w1,w2⟩:=qf7 hm9
 have hmul:(va:Int)*pw K≤999999999*1000000000:=Int.mul_le_mul (by omega) w2 (by omega) (by omega)
 have hmul0:0≤(va:Int)*pw K:=Int.mul_nonneg (by omega) (by omega)
 have eV:(va:Int)*pw K+(vb:Int)=((va*10^K+vb:Nat):Int):=by rw[hpw];push_cast;rfl
 obtain⟨V,hV⟩ : ∃ V:Int,((va*10^K+vb:Nat):Int)=V:=⟨_,rfl⟩
 rw[hV] at eV HA
 have CP:=hid (fun w=>qgf K w hm9)
 have CF:=hid (fun w=>qcc V (pw K) w (by omega) (by omega) (by omega))
 have g1:IntKind.i64.wrap ((va:Int)*pw K)=(va:Int)*pw K:=IntWalk.i64_in _ (by omega)
 have g2:IntKind.i64.wrap ((va:Int)*pw K+(vb:Int))=V:=by rw[IntWalk.i64_in _ (by omega)];exact eV
 have eI:IntKind.i64.wrap ((I:Int)+1)=(I:Int)+1:=IntWalk.i64_in _ (by omega)
 have q3:decide ((I:Int)<(s.size:Int))=true:=decide_eq_true (by omega)
 have q4:((y.toNat:Int)==46)=true:=beq_iff_eq.2 (by omega)
 have q5:decide ((9:Int)<(I:Int))=false:=decide_eq_false (by omega)
 have s1:IntKind.i64.wrap ((s.size:Int)-(I:Int))=(s.size:Int)-(I:Int):=IntWalk.i64_in _ (by omega)
 have s2:IntKind.i64.wrap ((s.size:Int)-(I:Int)-1)=(K:Int):=by rw[IntWalk.i64_in _ (by omega)];omega
 have q6:decide ((K:Int)<1)=false:=decide_eq_false (by omega)
 have q7:decide ((9:Int)<(K:Int))=false:=decide_eq_false (by omega)
 have q8:((s.size:Int)==0)=false:=beq_eq_false_iff_ne.2 (by omega)
 have q9:((I:Int)==(s.size:Int))=false:=beq_eq_false_iff_ne.2 (by omega)
 have e1:IntKind.i64.wrap (1*V)=V:=by rw[IntWalk.i64_in _ (by omega)];omega
 have e1':IntKind.i64.wrap V=V:=IntWalk.i64_in _ (by omega)
 clear hsz hI hK cd2 hy1 hb hm hm1 hm9 hva hvb hpw w1 w2 hmul hmul0 eV hV hx1 hx2
 go_enter Tryz.func92,Tryz.ntmps92
 go_wp2_with fail
 refine(CD.out _).mono ?_
 rintro e w'⟨rfl,rfl⟩
 go_wp2_with fail
 refine(CD2.out _).mono ?_
 rintro e w'⟨rfl,rfl⟩
 go_wp2_with fail
 refine(CP.out _).mono ?_
 rintro e w'⟨rfl,rfl⟩
 go_wp2
 go_region_with (first | (go_at_call 152;(with_reducible refine(CA.out _).mono ?_);rintro e w' ⟨rfl,rfl⟩) | (go_at_call 152;(with_reducible refine(CB.out _).mono ?_);rintro e w' ⟨rfl,rfl⟩) | (go_at_call 151;(with_reducible refine(CF.out _).mono ?_);rintro e w3 ⟨rfl,hb⟩;have hb:=q0o hb;obtain⟨hc,hf⟩:=qad hb;have z0:=qg4 hb;have HB:=hid (qap hb)))
 all_goals
  go_wp2
  exact bodyPost_ret (v := .tuple #[.agg #[.int .i64 (fit V (pw K)).n,.int .i64 (fit V (pw K)).d],.int .i64 (fit V (pw K)).e]) (by simp[results,Tryz.results92,go_sem,hc]) rfl ⟨by rw[HA.out],qa2 HB.out _ _⟩
end Go.Proofs.YtldkgbnmaefaaaaGreatDoor.Nu
namespace Go.Proofs.YtldkgbnmaefaaaaGreatDoor.Nu
open Go.RowKit
set_option linter.unusedVariables false
theorem q0p{w w':World}(h:Below w.drew.heap.size w.drew w'):Below w.heap.size w w':=(below_drewN (Below.refl w.heap.size w) 1).trans h
theorem q4b(s:ByteArray)(w:World)(hs:s.size≤1000)(x:UInt8)(h0:0<s.size)(hx:s[0]'h0=x)(hx1:x.toNat=43)(r:ByteArray)(hr:s.extract 1 s.size=r)(hrs:r.size+1=s.size)(I K va vb:Nat)(hI:qb2 r.data.toList 0=I)(y:UInt8)(h1:I<r.size)(hy:r[I]'h1=y)(hy1:y.toNat=46)(hK:qb2 r.data.toList (I+1)=r.size)(hb:I≤9)(hm:r.size=I+1+K)(hm1:1≤K)(hm9:K≤9)(hva:va<1000000000)(hvb:vb<1000000000)
  (CA:Hid (∀ w,Calls Tryz.prog 152 #[.string (r.extract 0 I)] w fun e w'=>e=.returned (.int .i64 (va:Int))∧w=w'))
  (CB:Hid (∀ w,Calls Tryz.prog 152 #[.string (r.extract (I+1) r.size)] w fun e w'=>e=.returned (.int .i64 (vb:Int))∧w=w'))
  (HA:Hid (qaf false r.data.toList=fit ((va*10^K+vb:Nat):Int) (pw K))) :
  Calls Tryz.prog 92 #[.string s] w fun e w'=>e=.returned (.tuple #[.agg #[.int .i64 (qaf false r.data.toList).n,.int .i64 (qaf false r.data.toList).d],.int .i64 (qaf false r.data.toList).e])∧Below w.heap.size w w':=by
 have hsz:=Lib.size_eq r
 have q0:decide ((0:Int)<(s.size:Int))=true:=decide_eq_true (by omega)
 have q1:((x.toNat:Int)==43)=true:=beq_iff_eq.2 (by omega)
 have q2:((x.toNat:Int)==45)=false:=beq_eq_false_iff_ne.2 (by omega)
 have CD:=hid (fun w=>qae r 0 w (by omega) (Nat.zero_le _))
 rw[hI] at CD
 have cd2:=fun w=>qae r (I+1) w (by omega) (by omega)
 rw[hK,Int.natCast_succ] at cd2
 have CD2:=hid cd2
 have hpw:=qg2 K
 obtain⟨w1,w2⟩:=qf7 hm9
 have hmul:(va:Int)*pw K≤999999999*1000000000:=Int.mul_le_mul (by omega) w2 (by omega) (by omega)
 have hmul0:0≤(va:Int)*pw K:=Int.mul_nonneg (by omega) (by omega)
 have eV:(va:Int)*pw K+(vb:Int)=((va*10^K+vb:Nat):Int):=by rw[hpw];push_cast;rfl
 obtain⟨V,hV⟩ : ∃ V:Int,((va*10^K+vb:Nat):Int)=V:=⟨_,rfl⟩
 rw[hV] at eV HA
 have CP:=hid (fun w=>qgf K w hm9)
 have CF:=hid (fun w=>qcc V (pw K) w (by omega) (by omega) (by omega))
 have g1:IntKind.i64.wrap ((va:Int)*pw K)=(va:Int)*pw K:=IntWalk.i64_in _ (by omega)
 have g2:IntKind.i64.wrap ((va:Int)*pw K+(vb:Int))=V:=by rw[IntWalk.i64_in _ (by omega)];exact eV
 have eI:IntKind.i64.wrap ((I:Int)+1)=(I:Int)+1:=IntWalk.i64_in _ (by omega)
 have q3:decide ((I:Int)<(r.size:Int))=true:=decide_eq_true (by omega)
 have q4:((y.toNat:Int)==46)=true:=beq_iff_eq.2 (by omega)
 have q5:decide ((9:Int)<(I:Int))=false:=decide_eq_false (by omega)
 have s1:IntKind.i64.wrap ((r.size:Int)-(I:Int))=(r.size:Int)-(I:Int):=IntWalk.i64_in _ (by omega)
 have s2:IntKind.i64.wrap ((r.size:Int)-(I:Int)-1)=(K:Int):=by rw[IntWalk.i64_in _ (by omega)];omega
 have q6:decide ((K:Int)<1)=false:=decide_eq_false (by omega)
 have q7:decide ((9:Int)<(K:Int))=false:=decide_eq_false (by omega)
 have q8:((r.size:Int)==0)=false:=beq_eq_false_iff_ne.2 (by omega)
 have q9:((I:Int)==(r.size:Int))=false:=beq_eq_false_iff_ne.2 (by omega)
 have e1:IntKind.i64.wrap (1*V)=V:=by rw[IntWalk.i64_in _ (by omega)];omega
 have e1':IntKind.i64.wrap V=V:=IntWalk.i64_in _ (by omega)
 clear hsz hI hK cd2 hy1 hb hm hm1 hm9 hva hvb hpw w1 w2 hmul hmul0 eV hV hx1 hrs
 go_enter Tryz.func92,Tryz.ntmps92
 go_wp2_with fail
 refine(CD.out _).mono ?_
 rintro e w'⟨rfl,rfl⟩
 go_wp2_with fail
 refine(CD2.out _).mono ?_
 rintro e w'⟨rfl,rfl⟩
 go_wp2_with fail
 refine(CP.out _).mono ?_
 rintro e w'⟨rfl,rfl⟩
 go_wp2
 go_region_with (first | (go_at_call 152;(with_reducible refine(CA.out _).mono ?_);rintro e w' ⟨rfl,rfl⟩) | (go_at_call 152;(with_reducible refine(CB.out _).mono ?_);rintro e w' ⟨rfl,rfl⟩) | (go_at_call 151;(with_reducible refine(CF.out _).mono ?_);rintro e w3 ⟨rfl,hb⟩;have hb:=q0p hb;obtain⟨hc,hf⟩:=qad hb;have z0:=qg4 hb;have HB:=hid (qap hb)))
 all_goals
  go_wp2
  exact bodyPost_ret (v := .tuple #[.agg #[.int .i64 (fit V (pw K)).n,.int .i64 (fit V (pw K)).d],.int .i64 (fit V (pw K)).e]) (by simp[results,Tryz.results92,go_sem,hc]) rfl ⟨by rw[HA.out],qa2 HB.out _ _⟩
end Go.Proofs.YtldkgbnmaefaaaaGreatDoor.Nu
