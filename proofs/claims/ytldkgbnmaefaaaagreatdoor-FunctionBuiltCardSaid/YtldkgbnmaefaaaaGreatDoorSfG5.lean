import Derived.Test.YtldkgbnmaefaaaaGreatDoorSfG3
import Derived.Test.YtldkgbnmaefaaaaGreatDoorSfG1
import Derived.Test.YtldkgbnmaefaaaaGreatDoorSfG2
set_option maxRecDepth 100000
set_option maxHeartbeats 4000000
open Go.Lib (hid)
namespace Go.Proofs.YtldkgbnmaefaaaaGreatDoor.Sf
open Go.RowKit Go.Shelf
attribute [local go_sem] Oper.semAt_some
set_option linter.unusedVariables false
def rpS(s t u:ByteArray)(m:Int):ByteArray:=if 32768<(rpb s t u m).size then⟨#[]⟩ else rpb s t u m
def rpE(s t u:ByteArray)(m:Int):Int:=if 32768<(rpb s t u m).size then 3 else 0
def wrc(s t u:ByteArray)(n:Nat)(l:List Pt):List UInt8:=wr t u n (l.map (fun x=>(cl s x.1,x.2)))
theorem qrm(s t u:ByteArray)(n:Nat)(l:List Pt)(b:ByteArray)(j:Nat):wrc s t u n (l++[(b,j)])=wrc s t u n l++(qjq t u n j++(cl s b).data.toList):=by
 unfold wrc;rw[List.map_append];exact q8i _ _ _ _ _
theorem q0b(t u:ByteArray)(n j:Nat):(qjq t u n j).length≤t.size+u.size:=by
 unfold qjq
 split
 ·rw[qag];omega
 ·split
  ·rw[qag];omega
  ·simp
theorem qxn(s t u:ByteArray)(n:Nat) : ∀ l:List Pt,(wrc s t u n l).length≤l.length*(s.size+(t.size+u.size))
 | []=>by simp[wrc,wr]
 |x :: l=>by
  have h:=qxn s t u n l
  have h1:=q0b t u n x.2
  have h2:=qoh s x.1
  have e:wrc s t u n (x :: l)=(qjq t u n x.2++(cl s x.1).data.toList)++wrc s t u n l:=rfl
  rw[e,List.length_append,List.length_append,qag,List.length_cons,Nat.succ_mul]
  omega
theorem qxm(s t u:ByteArray)(m:Int):wrc s t u (tm s t m) (prt s t)=(rpb s t u m).data.toList:=by
 have e:(prt s t).map (fun x=>(cl s x.1,x.2))=prt s t:=by
  rw[List.map_congr_left (g:=id)]
  ·simp
  ·intro x hx
   show(cl s x.1,x.2)=x
   rw[qog (qjl.1 hx)]
 unfold wrc
 rw[e]
 exact xcj s t u (tm s t m)
theorem qw5(w:World)(a b c:Obj):(((w.alloc a).alloc b).alloc c).heap[w.heap.size]? = some a∧(((w.alloc a).alloc b).alloc c).heap[w.heap.size+1]? = some b∧(((w.alloc a).alloc b).alloc c).heap[w.heap.size+1+1]? = some c ∧
  ∀ (k:Nat) (o:Obj),w.heap[k]? = some o→(((w.alloc a).alloc b).alloc c).heap[k]? = some o:=by
 have h1:(w.alloc a).heap.size=w.heap.size+1:=World.size_alloc _ _
 have h2:((w.alloc a).alloc b).heap.size=w.heap.size+2:=by rw[World.size_alloc,h1]
 have n1:=World.alloc_heap_new w a
 have n2:=World.alloc_heap_new (w.alloc a) b
 have n3:=World.alloc_heap_new ((w.alloc a).alloc b) c
 rw[h1] at n2;rw[h2] at n3
 refine⟨(Below.heap_alloc _ _ _ (by omega)).trans ((Below.heap_alloc _ _ _ (by omega)).trans n1),(Below.heap_alloc _ _ _ (by omega)).trans n2,n3,fun k o hk => ?_⟩
 have hl:=(Array.getElem?_eq_some_iff.1 hk).1
 exact(Below.heap_alloc _ _ _ (by omega)).trans ((Below.heap_alloc _ _ _ (by omega)).trans ((Below.heap_alloc _ _ _ (by omega)).trans hk))
theorem q0l(w:World)(a b:Obj):((w.alloc a).alloc b).heap[w.heap.size]? = some a∧((w.alloc a).alloc b).heap[w.heap.size+1]? = some b:=by
 have h1:(w.alloc a).heap.size=w.heap.size+1:=World.size_alloc _ _
 have n1:=World.alloc_heap_new w a
 have n2:=World.alloc_heap_new (w.alloc a) b
 rw[h1] at n2
 exact⟨(Below.heap_alloc _ _ _ (by omega)).trans n1,n2⟩
structure RJ (s t u:ByteArray) (n a b p:Nat) (W:World):Prop where
 old:W.heap[a]? = some (.cells #[.string t] 9)
 new:W.heap[a+1]? = some (.cells #[.string u] 9)
 tms:W.heap[b]? = some (.cells #[.int .i64 (n:Int)] 3)
 ps:W.heap[p+1]? = some (.cells #[.string s] 9)
 pt:W.heap[p+1+1]? = some (.cells #[.string t] 9)
 lt:a+1<b∧b<p
theorem RJ.kc{s t u:ByteArray}{n a b p:Nat}{W W':World}(h:RJ s t u n a b p W)(hk:Kc W W'):RJ s t u n a b p W':=⟨hk _ _ _ _ h.old,hk _ _ _ _ h.new,hk _ _ _ _ h.tms,hk _ _ _ _ h.ps,hk _ _ _ _ h.pt,h.lt⟩
theorem RJ.fr{s t u:ByteArray}{n a b p B:Nat}{W W':World}(h:RJ s t u n a b p W)(hf:Fr B p W W'):RJ s t u n a b p W':=by
 obtain⟨l1,l2⟩:=h.lt
 exact⟨hf.cells h.old (by omega) (by decide),hf.cells h.new (by omega) (by decide),hf.cells h.tms (by omega) (by decide),hf.cells h.ps (by omega) (by decide),hf.cells h.pt (by omega) (by decide),l1,l2⟩
theorem RJ.round{s t u:ByteArray}{n a b p B:Nat}{W W':World}(h:RJ s t u n a b p W)(hf:Fr B p W W')(hd : ∃ cs t fz,W.heap[p]? = some (.cells cs t fz)):KeepsOthers W W'∧Kp (p+1) (p+1+1) W W':=by
 have hk:=hf.keeps hd
 have q:=h.fr hf
 exact⟨hk,hk.walks,by rw[q.ps,h.ps],by rw[q.pt,h.pt]⟩
theorem Fr.t{B b:Nat}{W1 W2 W3:World}(h:Fr B b W1 W2)(k:Fr B b W2 W3):Fr B b W1 W3:=⟨h.below.trans k.below,h.kept.trans k.kept⟩
theorem qwe(a:Nat){s t u:ByteArray}{k:Nat}(h:k≤s.size)(hs:s.size≤1048576)(ht:t.size≤1048576)(hu:u.size≤1048576)(l:List Pt)(n:Nat)(hl:l.length≤s.size+1):(wrc s t u n l).length≤4398046511104:=by
 have h1:=qxn s t u n l
 have h2:l.length*(s.size+(t.size+u.size))≤1048577*3145728:=Nat.mul_le_mul (by omega) (by omega)
 omega
theorem xc5(s t u:ByteArray)(m:Int)(w:World)(hs:s.size≤1048576)(ht:t.size≤1048576)(hu:u.size≤1048576)(hm:I64 m)(h0:m<0)(hbg:32768<(rpb s t u m).size) :
  Calls Tryz.prog 112 #[.string s,.string t,.string u,.int .i64 m] w fun e w'=>e=.returned (.tuple #[.string (rpS s t u m),.int .i64 (rpE s t u m)])∧Below w.heap.size w w':=by
 obtain⟨hm1,hm2⟩:=hm
 have hol:=qdi s t
 have hol':0≤s.size:=Nat.zero_le _
 obtain⟨n,hn⟩ : ∃ n,tm s t m=n:=⟨_,rfl⟩
 have hnl:=qw6 s t m
 have hsz:=qis s t u m
 rw[hn] at hnl hsz
 have hw1:IntKind.i64.wrap ((u.size:Int)-(t.size:Int))=(u.size:Int)-(t.size:Int):=by rw[IntKind.wrap_i64];omega
 obtain⟨Z,hZ⟩ : ∃ Z:Int,(n:Int)*((u.size:Int)-(t.size:Int))=Z:=⟨_,rfl⟩
 have hZb : -1152921504606846976≤Z∧Z≤1152921504606846976:=by
  rw[←hZ]
  have h1:(n:Int)≤1073741824:=by omega
  have h2 : -1073741824≤(u.size:Int)-(t.size:Int):=by omega
  have h3:(u.size:Int)-(t.size:Int)≤1073741824:=by omega
  have h4:(0:Int)≤n:=by omega
  constructor
  ·have:=Int.mul_le_mul_of_nonneg_left h2 h4
   have:=Int.mul_le_mul_of_nonneg_right h1 (show(0:Int)≤1073741824 by omega)
   omega
  ·have:=Int.mul_le_mul_of_nonneg_left h3 h4
   have:=Int.mul_le_mul_of_nonneg_right h1 (show(0:Int)≤1073741824 by omega)
   omega
 rw[hZ] at hsz
 have hw2:IntKind.i64.wrap ((n:Int)*((u.size:Int)-(t.size:Int)))=Z:=by rw[hZ,IntKind.wrap_i64];omega
 have hw3:IntKind.i64.wrap ((s.size:Int)+Z)=((rpb s t u m).size:Int):=by rw[←hsz,IntKind.wrap_i64];omega
 have HRS:Hid (rpS s t u m=if 32768<(rpb s t u m).size then⟨#[]⟩ else rpb s t u m):=hid rfl
 have HRE:Hid (rpE s t u m=if 32768<(rpb s t u m).size then 3 else 0):=hid rfl
 obtain⟨R,hR⟩ : ∃ R,(rpb s t u m).size=R:=⟨_,rfl⟩
 rw[hR] at hw3 HRS HRE hbg
 have HR:=hid hR
 clear hR hsz hZ
 have HN:=hid hn
 have hs2:s.size≤4294967281:=by omega
 have ht2:t.size≤4294967281:=by omega
 have hnn:(occ s t).length=n:=by rw[←hn];unfold tm;rw[if_pos h0]
 rw[hnn] at hnl hol
 have HNN:=hid hnn
 have hge:decide (0≤m)=false:=decide_eq_false (by omega)
 clear hn hZb hnn
 have hd1:decide ((32768:Int)<(R:Int))=true:=decide_eq_true (by omega)
 rw[if_pos hbg] at HRS HRE
 go_enter Tryz.func112,Tryz.ntmps112
 go_wp2_with fail
 refine(qd4 s t _ hs2 ht2).mono ?_
 rintro e V⟨rfl,hb⟩
 obtain⟨g0,g1⟩:=q0l w (.cells #[.string t] 9) (.cells #[.string u] 9)
 have hsz2:((w.alloc (.cells #[.string t] 9)).alloc (.cells #[.string u] 9)).heap.size=w.heap.size+2:=by simp
 have i0:=(hb.block _ (by rw[hsz2];omega)).trans g0
 have i1:=(hb.block _ (by rw[hsz2];omega)).trans g1
 have hbw:Below w.heap.size w V:=(((Below.refl _ w).alloc (Nat.le_refl _) (.cells #[.string t] 9)).alloc (by rw[World.size_alloc];omega) (.cells #[.string u] 9)).trans (hb.mono (by rw[hsz2];omega))
 have hVs:=hb.size
 rw[hsz2] at hVs
 clear g0 g1 hb hsz2
 rw[HNN.out]
 obtain⟨VV,hVV⟩ : ∃ VV,V.alloc (.cells #[.int .i64 (n:Int)] 3)=VV:=⟨_,rfl⟩
 have e10:VV.heap[V.heap.size]? = some (.cells #[.int .i64 (n:Int)] 3):=by rw[←hVV];exact World.alloc_heap_new _ _
 have e0:VV.heap[w.heap.size]? = some (.cells #[.string t] 9):=by rw[←hVV];exact(Below.heap_alloc _ _ _ (by omega)).trans i0
 have e1:VV.heap[w.heap.size+1]? = some (.cells #[.string u] 9):=by rw[←hVV];exact(Below.heap_alloc _ _ _ (by omega)).trans i1
 have eB:Below w.heap.size w VV:=by rw[←hVV];exact hbw.alloc (by omega) _
 have eZ:V.heap.size<VV.heap.size:=by rw[←hVV,World.size_alloc];omega
 have v10:VV.cell? ⟨V.heap.size,0,none⟩=some (.int .i64 (n:Int)):=qab e10 rfl
 have v0:VV.cell? ⟨w.heap.size,0,none⟩=some (.string t):=qab e0 rfl
 have v1:VV.cell? ⟨w.heap.size+1,0,none⟩=some (.string u):=qab e1 rfl
 have E10:=hid e10
 have E0:=hid e0
 have E1:=hid e1
 have EB:=hid eB
 clear e10 e0 e1 eB i0 i1 hbw
 go_wp2
 go_ret2
 exact⟨by rw[HRS.out,HRE.out];rfl,EB.out⟩
theorem xc6(s t u:ByteArray)(m:Int)(w:World)(hs:s.size≤1048576)(ht:t.size≤1048576)(hu:u.size≤1048576)(hm:I64 m)(h0 : ¬ m<0)(hbg:32768<(rpb s t u m).size) :
  Calls Tryz.prog 112 #[.string s,.string t,.string u,.int .i64 m] w fun e w'=>e=.returned (.tuple #[.string (rpS s t u m),.int .i64 (rpE s t u m)])∧Below w.heap.size w w':=by
 obtain⟨hm1,hm2⟩:=hm
 have hol:=qdi s t
 have hol':0≤s.size:=Nat.zero_le _
 obtain⟨n,hn⟩ : ∃ n,tm s t m=n:=⟨_,rfl⟩
 have hnl:=qw6 s t m
 have hsz:=qis s t u m
 rw[hn] at hnl hsz
 have hw1:IntKind.i64.wrap ((u.size:Int)-(t.size:Int))=(u.size:Int)-(t.size:Int):=by rw[IntKind.wrap_i64];omega
 obtain⟨Z,hZ⟩ : ∃ Z:Int,(n:Int)*((u.size:Int)-(t.size:Int))=Z:=⟨_,rfl⟩
 have hZb : -1152921504606846976≤Z∧Z≤1152921504606846976:=by
  rw[←hZ]
  have h1:(n:Int)≤1073741824:=by omega
  have h2 : -1073741824≤(u.size:Int)-(t.size:Int):=by omega
  have h3:(u.size:Int)-(t.size:Int)≤1073741824:=by omega
  have h4:(0:Int)≤n:=by omega
  constructor
  ·have:=Int.mul_le_mul_of_nonneg_left h2 h4
   have:=Int.mul_le_mul_of_nonneg_right h1 (show(0:Int)≤1073741824 by omega)
   omega
  ·have:=Int.mul_le_mul_of_nonneg_left h3 h4
   have:=Int.mul_le_mul_of_nonneg_right h1 (show(0:Int)≤1073741824 by omega)
   omega
 rw[hZ] at hsz
 have hw2:IntKind.i64.wrap ((n:Int)*((u.size:Int)-(t.size:Int)))=Z:=by rw[hZ,IntKind.wrap_i64];omega
 have hw3:IntKind.i64.wrap ((s.size:Int)+Z)=((rpb s t u m).size:Int):=by rw[←hsz,IntKind.wrap_i64];omega
 have HRS:Hid (rpS s t u m=if 32768<(rpb s t u m).size then⟨#[]⟩ else rpb s t u m):=hid rfl
 have HRE:Hid (rpE s t u m=if 32768<(rpb s t u m).size then 3 else 0):=hid rfl
 obtain⟨R,hR⟩ : ∃ R,(rpb s t u m).size=R:=⟨_,rfl⟩
 rw[hR] at hw3 HRS HRE hbg
 have HR:=hid hR
 clear hR hsz hZ
 have HN:=hid hn
 have hs2:s.size≤4294967281:=by omega
 have ht2:t.size≤4294967281:=by omega
 have hnn:min ((occ s t).length:Int) m=(n:Int):=by rw[←hn];unfold tm;rw[if_neg h0];omega
 have hge:decide (0≤m)=true:=decide_eq_true (by omega)
 clear hn hZb
 have hd1:decide ((32768:Int)<(R:Int))=true:=decide_eq_true (by omega)
 rw[if_pos hbg] at HRS HRE
 go_enter Tryz.func112,Tryz.ntmps112
 go_wp2_with fail
 refine(qd4 s t _ hs2 ht2).mono ?_
 rintro e V⟨rfl,hb⟩
 obtain⟨g0,g1⟩:=q0l w (.cells #[.string t] 9) (.cells #[.string u] 9)
 have hsz2:((w.alloc (.cells #[.string t] 9)).alloc (.cells #[.string u] 9)).heap.size=w.heap.size+2:=by simp
 have i0:=(hb.block _ (by rw[hsz2];omega)).trans g0
 have i1:=(hb.block _ (by rw[hsz2];omega)).trans g1
 have hbw:Below w.heap.size w V:=(((Below.refl _ w).alloc (Nat.le_refl _) (.cells #[.string t] 9)).alloc (by rw[World.size_alloc];omega) (.cells #[.string u] 9)).trans (hb.mono (by rw[hsz2];omega))
 have hVs:=hb.size
 rw[hsz2] at hVs
 clear g0 g1 hb hsz2
 obtain⟨V1,hV1⟩ : ∃ V1,V.alloc (.cells #[.int .i64 ((occ s t).length:Int)] 3)=V1:=⟨_,rfl⟩
 have k10:V1.heap[V.heap.size]? = some (.cells #[.int .i64 ((occ s t).length:Int)] 3):=by rw[←hV1];exact World.alloc_heap_new _ _
 have kc:V1.cell? ⟨V.heap.size,0,none⟩=some (.int .i64 ((occ s t).length:Int)):=qab k10 rfl
 have kf:V1.frozen? ⟨V.heap.size,0,none⟩=false:=by rw[←hV1];simp
 obtain⟨VV,hVV⟩ : ∃ VV,V1.setCell ⟨V.heap.size,0,none⟩ (.int .i64 (n:Int))=VV:=⟨_,rfl⟩
 have e10:VV.heap[V.heap.size]? = some (.cells #[.int .i64 (n:Int)] 3):=by rw[←hVV];exact(heap_setCell_same V1 V.heap.size 0 _ 3 (.int .i64 (n:Int)) k10)
 have e0:VV.heap[w.heap.size]? = some (.cells #[.string t] 9):=by rw[←hVV,Below.heap_setCell _ _ _ _ (by show w.heap.size≠V.heap.size;omega),←hV1];exact(Below.heap_alloc _ _ _ (by omega)).trans i0
 have e1:VV.heap[w.heap.size+1]? = some (.cells #[.string u] 9):=by rw[←hVV,Below.heap_setCell _ _ _ _ (by show w.heap.size+1≠V.heap.size;omega),←hV1];exact(Below.heap_alloc _ _ _ (by omega)).trans i1
 have eB:Below w.heap.size w VV:=by rw[←hVV];exact Below.setCell (p:=⟨V.heap.size,0,none⟩) (by rw[←hV1];exact hbw.alloc (by omega) _) (by show w.heap.size≤V.heap.size;omega) _
 have eZ:V.heap.size<VV.heap.size:=by rw[←hVV,World.size_setCell,←hV1,World.size_alloc];omega
 have v10:VV.cell? ⟨V.heap.size,0,none⟩=some (.int .i64 (n:Int)):=qab e10 rfl
 have v0:VV.cell? ⟨w.heap.size,0,none⟩=some (.string t):=qab e0 rfl
 have v1:VV.cell? ⟨w.heap.size+1,0,none⟩=some (.string u):=qab e1 rfl
 have E10:=hid e10
 have E0:=hid e0
 have E1:=hid e1
 have EB:=hid eB
 clear e10 e0 e1 eB i0 i1 hbw
 go_wp2
 go_ret2
 exact⟨by rw[HRS.out,HRE.out];rfl,EB.out⟩
theorem xc7(s t u:ByteArray)(m:Int)(w:World)(hs:s.size≤1048576)(ht:t.size≤1048576)(hu:u.size≤1048576)(hm:I64 m)(h0:m<0)(hbg : ¬ 32768<(rpb s t u m).size) :
  Calls Tryz.prog 112 #[.string s,.string t,.string u,.int .i64 m] w fun e w'=>e=.returned (.tuple #[.string (rpS s t u m),.int .i64 (rpE s t u m)])∧Below w.heap.size w w':=by
 obtain⟨hm1,hm2⟩:=hm
 have hol:=qdi s t
 have hol':0≤s.size:=Nat.zero_le _
 obtain⟨n,hn⟩ : ∃ n,tm s t m=n:=⟨_,rfl⟩
 have hnl:=qw6 s t m
 have hsz:=qis s t u m
 rw[hn] at hnl hsz
 have hw1:IntKind.i64.wrap ((u.size:Int)-(t.size:Int))=(u.size:Int)-(t.size:Int):=by rw[IntKind.wrap_i64];omega
 obtain⟨Z,hZ⟩ : ∃ Z:Int,(n:Int)*((u.size:Int)-(t.size:Int))=Z:=⟨_,rfl⟩
 have hZb : -1152921504606846976≤Z∧Z≤1152921504606846976:=by
  rw[←hZ]
  have h1:(n:Int)≤1073741824:=by omega
  have h2 : -1073741824≤(u.size:Int)-(t.size:Int):=by omega
  have h3:(u.size:Int)-(t.size:Int)≤1073741824:=by omega
  have h4:(0:Int)≤n:=by omega
  constructor
  ·have:=Int.mul_le_mul_of_nonneg_left h2 h4
   have:=Int.mul_le_mul_of_nonneg_right h1 (show(0:Int)≤1073741824 by omega)
   omega
  ·have:=Int.mul_le_mul_of_nonneg_left h3 h4
   have:=Int.mul_le_mul_of_nonneg_right h1 (show(0:Int)≤1073741824 by omega)
   omega
 rw[hZ] at hsz
 have hw2:IntKind.i64.wrap ((n:Int)*((u.size:Int)-(t.size:Int)))=Z:=by rw[hZ,IntKind.wrap_i64];omega
 have hw3:IntKind.i64.wrap ((s.size:Int)+Z)=((rpb s t u m).size:Int):=by rw[←hsz,IntKind.wrap_i64];omega
 have HRS:Hid (rpS s t u m=if 32768<(rpb s t u m).size then⟨#[]⟩ else rpb s t u m):=hid rfl
 have HRE:Hid (rpE s t u m=if 32768<(rpb s t u m).size then 3 else 0):=hid rfl
 obtain⟨R,hR⟩ : ∃ R,(rpb s t u m).size=R:=⟨_,rfl⟩
 rw[hR] at hw3 HRS HRE hbg
 have HR:=hid hR
 clear hR hsz hZ
 have HN:=hid hn
 have hs2:s.size≤4294967281:=by omega
 have ht2:t.size≤4294967281:=by omega
 have hnn:(occ s t).length=n:=by rw[←hn];unfold tm;rw[if_pos h0]
 rw[hnn] at hnl hol
 have HNN:=hid hnn
 have hge:decide (0≤m)=false:=decide_eq_false (by omega)
 clear hn hZb hnn
 have hd1:decide ((32768:Int)<(R:Int))=false:=decide_eq_false (by omega)
 rw[if_neg hbg] at HRS HRE
 refine(callsIn_wide (n:=3)).1 ?_
 refine callsIn_of_wp_marks Tryz.func112 rfl trivial ?_ rfl
 simp only[Tryz.ntmps112,List.size_toArray,List.length_cons,List.length_nil,Nat.reduceAdd,Nat.reduceSub,Array.replicate_succ,Array.replicate_zero,List.push_toArray,List.append_toArray,List.nil_append,List.cons_append]
 gi_wp2
 refine⟨trivial,(callsIn_wide.2 (qd4 s t _ hs2 ht2)).mono ?_⟩
 rintro e V⟨rfl,hb⟩
 obtain⟨g0,g1⟩:=q0l w (.cells #[.string t] 9) (.cells #[.string u] 9)
 have hsz2:((w.alloc (.cells #[.string t] 9)).alloc (.cells #[.string u] 9)).heap.size=w.heap.size+2:=by simp
 have i0:=(hb.block _ (by rw[hsz2];omega)).trans g0
 have i1:=(hb.block _ (by rw[hsz2];omega)).trans g1
 have hbw:Below w.heap.size w V:=(((Below.refl _ w).alloc (Nat.le_refl _) (.cells #[.string t] 9)).alloc (by rw[World.size_alloc];omega) (.cells #[.string u] 9)).trans (hb.mono (by rw[hsz2];omega))
 have hVs:=hb.size
 rw[hsz2] at hVs
 clear g0 g1 hb hsz2
 rw[HNN.out]
 obtain⟨VV,hVV⟩ : ∃ VV,V.alloc (.cells #[.int .i64 (n:Int)] 3)=VV:=⟨_,rfl⟩
 have e10:VV.heap[V.heap.size]? = some (.cells #[.int .i64 (n:Int)] 3):=by rw[←hVV];exact World.alloc_heap_new _ _
 have e0:VV.heap[w.heap.size]? = some (.cells #[.string t] 9):=by rw[←hVV];exact(Below.heap_alloc _ _ _ (by omega)).trans i0
 have e1:VV.heap[w.heap.size+1]? = some (.cells #[.string u] 9):=by rw[←hVV];exact(Below.heap_alloc _ _ _ (by omega)).trans i1
 have eB:Below w.heap.size w VV:=by rw[←hVV];exact hbw.alloc (by omega) _
 have eZ:V.heap.size<VV.heap.size:=by rw[←hVV,World.size_alloc];omega
 have v10:VV.cell? ⟨V.heap.size,0,none⟩=some (.int .i64 (n:Int)):=qab e10 rfl
 have v0:VV.cell? ⟨w.heap.size,0,none⟩=some (.string t):=qab e0 rfl
 have v1:VV.cell? ⟨w.heap.size+1,0,none⟩=some (.string u):=qab e1 rfl
 have E10:=hid e10
 have E0:=hid e0
 have E1:=hid e1
 have EB:=hid eB
 clear e10 e0 e1 eB i0 i1 hbw
 have vb0:=qa3 (.cells #[.pointer none,.slice none 0 0] 170) v0
 gi_wp2
 refine⟨trivial,(callsIn_wide.2 (qjj _ _ _)).mono ?_⟩
 rintro e w'⟨rfl,rfl⟩
 gi_wp2
 obtain⟨q0,q1,q2,q3⟩:=qw5 VV (.cells #[.pointer none,.slice none 0 0] 170) (.cells #[.string s] 9) (.cells #[.string t] 9)
 have hz0:(((VV.alloc (.cells #[.pointer none,.slice none 0 0] 170)).alloc (.cells #[.string s] 9)).alloc (.cells #[.string t] 9)).heap.size=VV.heap.size+3:=by simp
 have hBw:=((EB.out.alloc EB.out.size (.cells #[.pointer none,.slice none 0 0] 170)).alloc (by rw[World.size_alloc];have:=EB.out.size;omega) (.cells #[.string s] 9)).alloc (by rw[World.size_alloc,World.size_alloc];have:=EB.out.size;omega) (.cells #[.string t] 9)
 have hj0:RJ s t u n w.heap.size V.heap.size VV.heap.size (((VV.alloc (.cells #[.pointer none,.slice none 0 0] 170)).alloc (.cells #[.string s] 9)).alloc (.cells #[.string t] 9)):=⟨q3 _ _ E0.out,q3 _ _ E1.out,q3 _ _ E10.out,q1,q2,by omega,by omega⟩
 have hd0:Bd (((VV.alloc (.cells #[.pointer none,.slice none 0 0] 170)).alloc (.cells #[.string s] 9)).alloc (.cells #[.string t] 9)) w.heap.size VV.heap.size [] := .inl ⟨by omega,.slice none 0 0,q0,World.ownsRowF_of (World.ownsRow_nil _ _ _ _),by simp[Value.ownBlock]⟩
 obtain⟨W0,hW0⟩ : ∃ W0,(((VV.alloc (.cells #[.pointer none,.slice none 0 0] 170)).alloc (.cells #[.string s] 9)).alloc (.cells #[.string t] 9))=W0:=⟨_,rfl⟩
 rw[hW0] at hz0 hBw hj0 hd0 q0 q1 q2 q3
 rw[hW0]
 clear hW0
 have cS:W0.cell? ⟨VV.heap.size+1,0,none⟩=some (.string s):=qab hj0.ps rfl
 have cT:W0.cell? ⟨VV.heap.size+1+1,0,none⟩=some (.string t):=qab hj0.pt rfl
 clear q0 q1 q2 q3 v0 v1 v10 hVV vb0
 refine wpIn_rangeFunc_ownF rfl (by omega) (gf:=212) (lb := #[.pointer (some ⟨VV.heap.size+1,0,none⟩),.pointer (some ⟨VV.heap.size+1+1,0,none⟩)]) rfl trivial (enters_of Tryz.func212 (by kernel_rfl) rfl)
  (qjm s t (VV.heap.size+1) (VV.heap.size+1+1) _ hs2 (by omega) cS ht2 (by omega) cT) (fun h k=>Kp.t h k) (Kp.b (by omega) (by omega)) (Below.refl _ _) (fun _=>rfl)
  (fun pre W=>(RJ s t u n w.heap.size V.heap.size VV.heap.size W∧Bd W w.heap.size VV.heap.size (wrc s t u n pre))∧Below w.heap.size w W)
  (fun c pre W=>False)
  (OwnFrom.and (Own.from (fun s A B row hs hg hr=>⟨hs.1.kc (Kc.grown hg hr),hs.2.kc (Kc.grown hg hr)⟩) _) (ownFrom_below (Nat.le_refl _) (by omega)))
  (fun c=>fun _ _ _ _ hs _ _=>hs)
  ⟨⟨hj0,hd0⟩,hBw⟩
  (fun x => { tmps := #[.string s,.string t,.string u,.int .i64 m,undef,.pointer (some ⟨w.heap.size,0,none⟩),.pointer (some ⟨w.heap.size+1,0,none⟩),undef,.string ⟨#[]⟩,.int .i64 0,.pointer (some ⟨V.heap.size,0,none⟩),.pointer (some ⟨VV.heap.size,0,none⟩),.int .i64 (x.2:Int),.string (cl s x.1),.string s,.string t,.int .i64 (n:Int),.int .i64 m,.bool false,undef,undef,undef,
   .string s,.int .i64 (s.size:Int),.int .i64 (n:Int),.string u,.int .i64 (u.size:Int),.string t,.int .i64 (t.size:Int),.int .i64 ((u.size:Int)-(t.size:Int)),.int .i64 Z,.int .i64 (R:Int),.bool false,.string s,.string t,
   .func (.func 212) #[] #[.pointer (some ⟨VV.heap.size+1,0,none⟩),.pointer (some ⟨VV.heap.size+1+1,0,none⟩)],.int .i64 (x.2:Int),.string (cl s x.1),undef,undef,undef,undef,undef,undef,undef,undef,undef,undef,undef,undef,undef,undef],defers:=[] }) ?assign ?body ?done ?stop
 case assign =>
  intro l x W K hK
  gi_wp2
  exact hK
 case body =>
  rintro l pre⟨b,j⟩ W⟨⟨hj,hd⟩,hB⟩ hlen
  dsimp only
  have hwl:=qwe 0 (s:=s) (t:=t) (u:=u) hol' hs ht hu pre n (by have:=qpe s t;have:=qdi s t;omega)
  have hcl:=qoh s b
  have HSN:=hid (qrm s t u n pre b j)
  obtain⟨p,hp⟩ : ∃ p,cl s b=p:=⟨_,rfl⟩
  rw[hp] at HSN hcl ⊢
  clear hp
  obtain⟨acc,hacc⟩ : ∃ acc,wrc s t u n pre=acc:=⟨_,rfl⟩
  rw[hacc] at hd hwl HSN
  clear hacc hlen
  have d0:W.cell? ⟨w.heap.size,0,none⟩=some (.string t):=qab hj.old rfl
  have d1:W.cell? ⟨w.heap.size+1,0,none⟩=some (.string u):=qab hj.new rfl
  have d2:W.cell? ⟨V.heap.size,0,none⟩=some (.int .i64 (n:Int)):=qab hj.tms rfl
  have hbs:=hB.size
  have hfin : ∀ (W2:World) (q:List UInt8),Fr w.heap.size VV.heap.size W W2→Bd W2 w.heap.size VV.heap.size (acc++q)→q=qjq t u n j++p.data.toList →
    ownPostK (Kp (VV.heap.size+1) (VV.heap.size+1+1)) (fun pre W=>(RJ s t u n w.heap.size V.heap.size VV.heap.size W∧Bd W w.heap.size VV.heap.size (wrc s t u n pre))∧Below w.heap.size w W) (fun c pre W=>False) (pre++[(b,j)]) W .normal ⟨#[],[]⟩ W2:=by
   intro W2 q hf2 hd2 hq
   obtain⟨h1,h2⟩:=hj.round hf2 hd.block
   exact⟨h1,h2,⟨hj.fr hf2,by rw[HSN.out,←hq];exact hd2⟩,hB.trans hf2.below⟩
  have HF:=hid hfin
  have HD:=hid hd
  clear hfin hd hj
  by_cases hc1:n<j
  ·have e1:decide ((n:Int)<(j:Int))=true:=decide_eq_true (by omega)
   have HQ:Hid (qjq t u n j=t.data.toList):=hid (if_pos hc1)
   gi_wp2
   refine⟨trivial,(CallsIn.inRound l (callsIn_wide.2 (WStr _ _ acc t W HD.out (by omega) hbs))).mono ?_⟩
   rintro e W1⟨rfl,hd1,hf1⟩
   have HD1:=hid hd1
   have hs1:=hf1.below.size
   clear hd1
   gi_wp2
   refine⟨trivial,(CallsIn.inRound l (callsIn_wide.2 (WStr _ _ (acc++t.data.toList) p W1 HD1.out (by rw[List.length_append,qag];omega) (by omega)))).mono ?_⟩
   rintro e W2⟨rfl,hd2,hf2⟩
   gi_wp2
   exact HF.out W2 _ (hf1.t hf2) (by rw[←List.append_assoc];exact hd2) (by rw[HQ.out])
  ·by_cases hc2:0<j
   ·have e1:decide ((n:Int)<(j:Int))=false:=decide_eq_false (by omega)
    have e2:decide ((0:Int)<(j:Int))=true:=decide_eq_true (by omega)
    have HQ:Hid (qjq t u n j=u.data.toList):=hid (by unfold qjq;rw[if_neg hc1,if_pos hc2])
    gi_wp2
    refine⟨trivial,(CallsIn.inRound l (callsIn_wide.2 (WStr _ _ acc u W HD.out (by omega) hbs))).mono ?_⟩
    rintro e W1⟨rfl,hd1,hf1⟩
    have HD1:=hid hd1
    have hs1:=hf1.below.size
    clear hd1
    gi_wp2
    refine⟨trivial,(CallsIn.inRound l (callsIn_wide.2 (WStr _ _ (acc++u.data.toList) p W1 HD1.out (by rw[List.length_append,qag];omega) (by omega)))).mono ?_⟩
    rintro e W2⟨rfl,hd2,hf2⟩
    gi_wp2
    exact HF.out W2 _ (hf1.t hf2) (by rw[←List.append_assoc];exact hd2) (by rw[HQ.out])
   ·have e1:decide ((n:Int)<(j:Int))=false:=decide_eq_false (by omega)
    have e2:decide ((0:Int)<(j:Int))=false:=decide_eq_false (by omega)
    have HQ:Hid (qjq t u n j=[]):=hid (by unfold qjq;rw[if_neg hc1,if_neg hc2])
    gi_wp2
    refine⟨trivial,(CallsIn.inRound l (callsIn_wide.2 (WStr _ _ acc p W HD.out (by omega) hbs))).mono ?_⟩
    rintro e W2⟨rfl,hd2,hf2⟩
    gi_wp2
    exact HF.out W2 _ hf2 hd2 (by rw[HQ.out];rfl)
 case done =>
  rintro D ys W hD hS⟨⟨hj,hd⟩,hB⟩ hK
  subst hS
  have hsz:=hB.size
  rw[←HN.out,qxm] at hd
  have HB:=hid hB
  have HD:=hid hd
  clear hj hd hB
  gi_wp2
  refine⟨trivial,(callsIn_wide.2 (xcq _ _ _ W HD.out hsz)).mono ?_⟩
  rintro e W2⟨rfl,hd2,hf2⟩
  have hK2:W2.heap[D]? = some (.deferred (some [])):=(hf2.keeps HD.out.block).same _ _ hK rfl
  have HB2:=hid (HB.out.trans hf2.below)
  clear hd2
  have hob:(⟨(rpb s t u m).data.toList.toArray⟩:ByteArray)=rpS s t u m:=by rw[HRS.out]
  rw[hob]
  gi_wp2
  refine⟨by simp,.inl ⟨_,_,rfl,run_takeDeferred hK2,?_⟩⟩
  refine⟨_,results_tmp2 rfl _ _ _,by rw[HRE.out];rfl,?_⟩
  exact HB2.out.trans (belowK_b (w:=w) (Nat.le_refl _) W2 D _ _ (by omega) hK2 rfl rfl)
 case stop =>
  rintro D c pre W _ _ h _
  exact h.elim
theorem xc8(s t u:ByteArray)(m:Int)(w:World)(hs:s.size≤1048576)(ht:t.size≤1048576)(hu:u.size≤1048576)(hm:I64 m)(h0 : ¬ m<0)(hbg : ¬ 32768<(rpb s t u m).size) :
  Calls Tryz.prog 112 #[.string s,.string t,.string u,.int .i64 m] w fun e w'=>e=.returned (.tuple #[.string (rpS s t u m),.int .i64 (rpE s t u m)])∧Below w.heap.size w w':=by
 obtain⟨hm1,hm2⟩:=hm
 have hol:=qdi s t
 have hol':0≤s.size:=Nat.zero_le _
 obtain⟨n,hn⟩ : ∃ n,tm s t m=n:=⟨_,rfl⟩
 have hnl:=qw6 s t m
 have hsz:=qis s t u m
 rw[hn] at hnl hsz
 have hw1:IntKind.i64.wrap ((u.size:Int)-(t.size:Int))=(u.size:Int)-(t.size:Int):=by rw[IntKind.wrap_i64];omega
 obtain⟨Z,hZ⟩ : ∃ Z:Int,(n:Int)*((u.size:Int)-(t.size:Int))=Z:=⟨_,rfl⟩
 have hZb : -1152921504606846976≤Z∧Z≤1152921504606846976:=by
  rw[←hZ]
  have h1:(n:Int)≤1073741824:=by omega
  have h2 : -1073741824≤(u.size:Int)-(t.size:Int):=by omega
  have h3:(u.size:Int)-(t.size:Int)≤1073741824:=by omega
  have h4:(0:Int)≤n:=by omega
  constructor
  ·have:=Int.mul_le_mul_of_nonneg_left h2 h4
   have:=Int.mul_le_mul_of_nonneg_right h1 (show(0:Int)≤1073741824 by omega)
   omega
  ·have:=Int.mul_le_mul_of_nonneg_left h3 h4
   have:=Int.mul_le_mul_of_nonneg_right h1 (show(0:Int)≤1073741824 by omega)
   omega
 rw[hZ] at hsz
 have hw2:IntKind.i64.wrap ((n:Int)*((u.size:Int)-(t.size:Int)))=Z:=by rw[hZ,IntKind.wrap_i64];omega
 have hw3:IntKind.i64.wrap ((s.size:Int)+Z)=((rpb s t u m).size:Int):=by rw[←hsz,IntKind.wrap_i64];omega
 have HRS:Hid (rpS s t u m=if 32768<(rpb s t u m).size then⟨#[]⟩ else rpb s t u m):=hid rfl
 have HRE:Hid (rpE s t u m=if 32768<(rpb s t u m).size then 3 else 0):=hid rfl
 obtain⟨R,hR⟩ : ∃ R,(rpb s t u m).size=R:=⟨_,rfl⟩
 rw[hR] at hw3 HRS HRE hbg
 have HR:=hid hR
 clear hR hsz hZ
 have HN:=hid hn
 have hs2:s.size≤4294967281:=by omega
 have ht2:t.size≤4294967281:=by omega
 have hnn:min ((occ s t).length:Int) m=(n:Int):=by rw[←hn];unfold tm;rw[if_neg h0];omega
 have hge:decide (0≤m)=true:=decide_eq_true (by omega)
 clear hn hZb
 have hd1:decide ((32768:Int)<(R:Int))=false:=decide_eq_false (by omega)
 rw[if_neg hbg] at HRS HRE
 refine(callsIn_wide (n:=3)).1 ?_
 refine callsIn_of_wp_marks Tryz.func112 rfl trivial ?_ rfl
 simp only[Tryz.ntmps112,List.size_toArray,List.length_cons,List.length_nil,Nat.reduceAdd,Nat.reduceSub,Array.replicate_succ,Array.replicate_zero,List.push_toArray,List.append_toArray,List.nil_append,List.cons_append]
 gi_wp2
 refine⟨trivial,(callsIn_wide.2 (qd4 s t _ hs2 ht2)).mono ?_⟩
 rintro e V⟨rfl,hb⟩
 obtain⟨g0,g1⟩:=q0l w (.cells #[.string t] 9) (.cells #[.string u] 9)
 have hsz2:((w.alloc (.cells #[.string t] 9)).alloc (.cells #[.string u] 9)).heap.size=w.heap.size+2:=by simp
 have i0:=(hb.block _ (by rw[hsz2];omega)).trans g0
 have i1:=(hb.block _ (by rw[hsz2];omega)).trans g1
 have hbw:Below w.heap.size w V:=(((Below.refl _ w).alloc (Nat.le_refl _) (.cells #[.string t] 9)).alloc (by rw[World.size_alloc];omega) (.cells #[.string u] 9)).trans (hb.mono (by rw[hsz2];omega))
 have hVs:=hb.size
 rw[hsz2] at hVs
 clear g0 g1 hb hsz2
 obtain⟨V1,hV1⟩ : ∃ V1,V.alloc (.cells #[.int .i64 ((occ s t).length:Int)] 3)=V1:=⟨_,rfl⟩
 have k10:V1.heap[V.heap.size]? = some (.cells #[.int .i64 ((occ s t).length:Int)] 3):=by rw[←hV1];exact World.alloc_heap_new _ _
 have kc:V1.cell? ⟨V.heap.size,0,none⟩=some (.int .i64 ((occ s t).length:Int)):=qab k10 rfl
 have kf:V1.frozen? ⟨V.heap.size,0,none⟩=false:=by rw[←hV1];simp
 obtain⟨VV,hVV⟩ : ∃ VV,V1.setCell ⟨V.heap.size,0,none⟩ (.int .i64 (n:Int))=VV:=⟨_,rfl⟩
 have e10:VV.heap[V.heap.size]? = some (.cells #[.int .i64 (n:Int)] 3):=by rw[←hVV];exact(heap_setCell_same V1 V.heap.size 0 _ 3 (.int .i64 (n:Int)) k10)
 have e0:VV.heap[w.heap.size]? = some (.cells #[.string t] 9):=by rw[←hVV,Below.heap_setCell _ _ _ _ (by show w.heap.size≠V.heap.size;omega),←hV1];exact(Below.heap_alloc _ _ _ (by omega)).trans i0
 have e1:VV.heap[w.heap.size+1]? = some (.cells #[.string u] 9):=by rw[←hVV,Below.heap_setCell _ _ _ _ (by show w.heap.size+1≠V.heap.size;omega),←hV1];exact(Below.heap_alloc _ _ _ (by omega)).trans i1
 have eB:Below w.heap.size w VV:=by rw[←hVV];exact Below.setCell (p:=⟨V.heap.size,0,none⟩) (by rw[←hV1];exact hbw.alloc (by omega) _) (by show w.heap.size≤V.heap.size;omega) _
 have eZ:V.heap.size<VV.heap.size:=by rw[←hVV,World.size_setCell,←hV1,World.size_alloc];omega
 have v10:VV.cell? ⟨V.heap.size,0,none⟩=some (.int .i64 (n:Int)):=qab e10 rfl
 have v0:VV.cell? ⟨w.heap.size,0,none⟩=some (.string t):=qab e0 rfl
 have v1:VV.cell? ⟨w.heap.size+1,0,none⟩=some (.string u):=qab e1 rfl
 have E10:=hid e10
 have E0:=hid e0
 have E1:=hid e1
 have EB:=hid eB
 clear e10 e0 e1 eB i0 i1 hbw
 have vb0:=qa3 (.cells #[.pointer none,.slice none 0 0] 170) v0
 gi_wp2
 refine⟨trivial,(callsIn_wide.2 (qjj _ _ _)).mono ?_⟩
 rintro e w'⟨rfl,rfl⟩
 gi_wp2
 obtain⟨q0,q1,q2,q3⟩:=qw5 VV (.cells #[.pointer none,.slice none 0 0] 170) (.cells #[.string s] 9) (.cells #[.string t] 9)
 have hz0:(((VV.alloc (.cells #[.pointer none,.slice none 0 0] 170)).alloc (.cells #[.string s] 9)).alloc (.cells #[.string t] 9)).heap.size=VV.heap.size+3:=by simp
 have hBw:=((EB.out.alloc EB.out.size (.cells #[.pointer none,.slice none 0 0] 170)).alloc (by rw[World.size_alloc];have:=EB.out.size;omega) (.cells #[.string s] 9)).alloc (by rw[World.size_alloc,World.size_alloc];have:=EB.out.size;omega) (.cells #[.string t] 9)
 have hj0:RJ s t u n w.heap.size V.heap.size VV.heap.size (((VV.alloc (.cells #[.pointer none,.slice none 0 0] 170)).alloc (.cells #[.string s] 9)).alloc (.cells #[.string t] 9)):=⟨q3 _ _ E0.out,q3 _ _ E1.out,q3 _ _ E10.out,q1,q2,by omega,by omega⟩
 have hd0:Bd (((VV.alloc (.cells #[.pointer none,.slice none 0 0] 170)).alloc (.cells #[.string s] 9)).alloc (.cells #[.string t] 9)) w.heap.size VV.heap.size [] := .inl ⟨by omega,.slice none 0 0,q0,World.ownsRowF_of (World.ownsRow_nil _ _ _ _),by simp[Value.ownBlock]⟩
 obtain⟨W0,hW0⟩ : ∃ W0,(((VV.alloc (.cells #[.pointer none,.slice none 0 0] 170)).alloc (.cells #[.string s] 9)).alloc (.cells #[.string t] 9))=W0:=⟨_,rfl⟩
 rw[hW0] at hz0 hBw hj0 hd0 q0 q1 q2 q3
 rw[hW0]
 clear hW0
 have cS:W0.cell? ⟨VV.heap.size+1,0,none⟩=some (.string s):=qab hj0.ps rfl
 have cT:W0.cell? ⟨VV.heap.size+1+1,0,none⟩=some (.string t):=qab hj0.pt rfl
 clear q0 q1 q2 q3 v0 v1 v10 hVV vb0
 refine wpIn_rangeFunc_ownF rfl (by omega) (gf:=212) (lb := #[.pointer (some ⟨VV.heap.size+1,0,none⟩),.pointer (some ⟨VV.heap.size+1+1,0,none⟩)]) rfl trivial (enters_of Tryz.func212 (by kernel_rfl) rfl)
  (qjm s t (VV.heap.size+1) (VV.heap.size+1+1) _ hs2 (by omega) cS ht2 (by omega) cT) (fun h k=>Kp.t h k) (Kp.b (by omega) (by omega)) (Below.refl _ _) (fun _=>rfl)
  (fun pre W=>(RJ s t u n w.heap.size V.heap.size VV.heap.size W∧Bd W w.heap.size VV.heap.size (wrc s t u n pre))∧Below w.heap.size w W)
  (fun c pre W=>False)
  (OwnFrom.and (Own.from (fun s A B row hs hg hr=>⟨hs.1.kc (Kc.grown hg hr),hs.2.kc (Kc.grown hg hr)⟩) _) (ownFrom_below (Nat.le_refl _) (by omega)))
  (fun c=>fun _ _ _ _ hs _ _=>hs)
  ⟨⟨hj0,hd0⟩,hBw⟩
  (fun x => { tmps := #[.string s,.string t,.string u,.int .i64 m,undef,.pointer (some ⟨w.heap.size,0,none⟩),.pointer (some ⟨w.heap.size+1,0,none⟩),undef,.string ⟨#[]⟩,.int .i64 0,.pointer (some ⟨V.heap.size,0,none⟩),.pointer (some ⟨VV.heap.size,0,none⟩),.int .i64 (x.2:Int),.string (cl s x.1),.string s,.string t,.int .i64 ((occ s t).length:Int),.int .i64 m,.bool true,.int .i64 ((occ s t).length:Int),.int .i64 m,.int .i64 (n:Int),
   .string s,.int .i64 (s.size:Int),.int .i64 (n:Int),.string u,.int .i64 (u.size:Int),.string t,.int .i64 (t.size:Int),.int .i64 ((u.size:Int)-(t.size:Int)),.int .i64 Z,.int .i64 (R:Int),.bool false,.string s,.string t,
   .func (.func 212) #[] #[.pointer (some ⟨VV.heap.size+1,0,none⟩),.pointer (some ⟨VV.heap.size+1+1,0,none⟩)],.int .i64 (x.2:Int),.string (cl s x.1),undef,undef,undef,undef,undef,undef,undef,undef,undef,undef,undef,undef,undef,undef],defers:=[] }) ?assign ?body ?done ?stop
 case assign =>
  intro l x W K hK
  gi_wp2
  exact hK
 case body =>
  rintro l pre⟨b,j⟩ W⟨⟨hj,hd⟩,hB⟩ hlen
  dsimp only
  have hwl:=qwe 0 (s:=s) (t:=t) (u:=u) hol' hs ht hu pre n (by have:=qpe s t;have:=qdi s t;omega)
  have hcl:=qoh s b
  have HSN:=hid (qrm s t u n pre b j)
  obtain⟨p,hp⟩ : ∃ p,cl s b=p:=⟨_,rfl⟩
  rw[hp] at HSN hcl ⊢
  clear hp
  obtain⟨acc,hacc⟩ : ∃ acc,wrc s t u n pre=acc:=⟨_,rfl⟩
  rw[hacc] at hd hwl HSN
  clear hacc hlen
  have d0:W.cell? ⟨w.heap.size,0,none⟩=some (.string t):=qab hj.old rfl
  have d1:W.cell? ⟨w.heap.size+1,0,none⟩=some (.string u):=qab hj.new rfl
  have d2:W.cell? ⟨V.heap.size,0,none⟩=some (.int .i64 (n:Int)):=qab hj.tms rfl
  have hbs:=hB.size
  have hfin : ∀ (W2:World) (q:List UInt8),Fr w.heap.size VV.heap.size W W2→Bd W2 w.heap.size VV.heap.size (acc++q)→q=qjq t u n j++p.data.toList →
    ownPostK (Kp (VV.heap.size+1) (VV.heap.size+1+1)) (fun pre W=>(RJ s t u n w.heap.size V.heap.size VV.heap.size W∧Bd W w.heap.size VV.heap.size (wrc s t u n pre))∧Below w.heap.size w W) (fun c pre W=>False) (pre++[(b,j)]) W .normal ⟨#[],[]⟩ W2:=by
   intro W2 q hf2 hd2 hq
   obtain⟨h1,h2⟩:=hj.round hf2 hd.block
   exact⟨h1,h2,⟨hj.fr hf2,by rw[HSN.out,←hq];exact hd2⟩,hB.trans hf2.below⟩
  have HF:=hid hfin
  have HD:=hid hd
  clear hfin hd hj
  by_cases hc1:n<j
  ·have e1:decide ((n:Int)<(j:Int))=true:=decide_eq_true (by omega)
   have HQ:Hid (qjq t u n j=t.data.toList):=hid (if_pos hc1)
   gi_wp2
   refine⟨trivial,(CallsIn.inRound l (callsIn_wide.2 (WStr _ _ acc t W HD.out (by omega) hbs))).mono ?_⟩
   rintro e W1⟨rfl,hd1,hf1⟩
   have HD1:=hid hd1
   have hs1:=hf1.below.size
   clear hd1
   gi_wp2
   refine⟨trivial,(CallsIn.inRound l (callsIn_wide.2 (WStr _ _ (acc++t.data.toList) p W1 HD1.out (by rw[List.length_append,qag];omega) (by omega)))).mono ?_⟩
   rintro e W2⟨rfl,hd2,hf2⟩
   gi_wp2
   exact HF.out W2 _ (hf1.t hf2) (by rw[←List.append_assoc];exact hd2) (by rw[HQ.out])
  ·by_cases hc2:0<j
   ·have e1:decide ((n:Int)<(j:Int))=false:=decide_eq_false (by omega)
    have e2:decide ((0:Int)<(j:Int))=true:=decide_eq_true (by omega)
    have HQ:Hid (qjq t u n j=u.data.toList):=hid (by unfold qjq;rw[if_neg hc1,if_pos hc2])
    gi_wp2
    refine⟨trivial,(CallsIn.inRound l (callsIn_wide.2 (WStr _ _ acc u W HD.out (by omega) hbs))).mono ?_⟩
    rintro e W1⟨rfl,hd1,hf1⟩
    have HD1:=hid hd1
    have hs1:=hf1.below.size
    clear hd1
    gi_wp2
    refine⟨trivial,(CallsIn.inRound l (callsIn_wide.2 (WStr _ _ (acc++u.data.toList) p W1 HD1.out (by rw[List.length_append,qag];omega) (by omega)))).mono ?_⟩
    rintro e W2⟨rfl,hd2,hf2⟩
    gi_wp2
    exact HF.out W2 _ (hf1.t hf2) (by rw[←List.append_assoc];exact hd2) (by rw[HQ.out])
   ·have e1:decide ((n:Int)<(j:Int))=false:=decide_eq_false (by omega)
    have e2:decide ((0:Int)<(j:Int))=false:=decide_eq_false (by omega)
    have HQ:Hid (qjq t u n j=[]):=hid (by unfold qjq;rw[if_neg hc1,if_neg hc2])
    gi_wp2
    refine⟨trivial,(CallsIn.inRound l (callsIn_wide.2 (WStr _ _ acc p W HD.out (by omega) hbs))).mono ?_⟩
    rintro e W2⟨rfl,hd2,hf2⟩
    gi_wp2
    exact HF.out W2 _ hf2 hd2 (by rw[HQ.out];rfl)
 case done =>
  rintro D ys W hD hS⟨⟨hj,hd⟩,hB⟩ hK
  subst hS
  have hsz:=hB.size
  rw[←HN.out,qxm] at hd
  have HB:=hid hB
  have HD:=hid hd
  clear hj hd hB
  gi_wp2
  refine⟨trivial,(callsIn_wide.2 (xcq _ _ _ W HD.out hsz)).mono ?_⟩
  rintro e W2⟨rfl,hd2,hf2⟩
  have hK2:W2.heap[D]? = some (.deferred (some [])):=(hf2.keeps HD.out.block).same _ _ hK rfl
  have HB2:=hid (HB.out.trans hf2.below)
  clear hd2
  have hob:(⟨(rpb s t u m).data.toList.toArray⟩:ByteArray)=rpS s t u m:=by rw[HRS.out]
  rw[hob]
  gi_wp2
  refine⟨by simp,.inl ⟨_,_,rfl,run_takeDeferred hK2,?_⟩⟩
  refine⟨_,results_tmp2 rfl _ _ _,by rw[HRE.out];rfl,?_⟩
  exact HB2.out.trans (belowK_b (w:=w) (Nat.le_refl _) W2 D _ _ (by omega) hK2 rfl rfl)
 case stop =>
  rintro D c pre W _ _ h _
  exact h.elim
theorem qoa(s t u:ByteArray)(m:Int)(w:World)(hs:s.size≤1048576)(ht:t.size≤1048576)(hu:u.size≤1048576)(hm:I64 m) :
  Calls Tryz.prog 112 #[.string s,.string t,.string u,.int .i64 m] w fun e w'=>e=.returned (.tuple #[.string (rpS s t u m),.int .i64 (rpE s t u m)])∧Below w.heap.size w w':=by
 by_cases h0:m<0
 ·by_cases hb:32768<(rpb s t u m).size
  ·exact xc5 s t u m w hs ht hu hm h0 hb
  ·exact xc7 s t u m w hs ht hu hm h0 hb
 ·by_cases hb:32768<(rpb s t u m).size
  ·exact xc6 s t u m w hs ht hu hm h0 hb
  ·exact xc8 s t u m w hs ht hu hm h0 hb
end Go.Proofs.YtldkgbnmaefaaaaGreatDoor.Sf
