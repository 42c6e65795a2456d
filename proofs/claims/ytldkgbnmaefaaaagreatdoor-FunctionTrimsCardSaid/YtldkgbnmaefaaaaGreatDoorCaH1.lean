import Derived.Test.YtldkgbnmaefaaaaGreatDoorCaG1
import Derived.Deep.RegionHeld3
import Derived.Test.YtldkgbnmaefaaaaGreatDoorCaG2
import Derived.Deep.RegionWith
set_option maxRecDepth 100000
set_option maxHeartbeats 4000000
open Go.Lib (hid)
namespace Go.Proofs.YtldkgbnmaefaaaaGreatDoor.Ca
open Go.RowKit
theorem qcq(y m:Int)(w:World)(h:2000≤y)(h':y≤2099)(h1:1≤m)(h2:m≤12):Calls Tryz.prog 97 #[.int .i64 y,.int .i64 m] w fun e w'=>e=.returned (.int .i64 (ml y m))∧Below w.heap.size w w':=by
 have H:ml y m=if m=2∧y%4=0 then 29 else ml 2001 m:=by
  split
  ·rename_i h;unfold ml;rw[if_pos h.1,if_pos h.2]
  ·rename_i h;exact qlu h
 by_cases hm:m=2∧y%4=0
 ·rw[if_pos hm] at H
  have HH:=hid H
  obtain⟨rfl,hy⟩:=hm
  have g1:(y%4==0)=true:=by simp[hy]
  clear H hy
  by_cases g:y%100=0
  ·have g2:y=2000:=by omega
   subst g2
   go_enter Tryz.func97,Tryz.ntmps97
   go_wp2
   go_ret
   exact⟨qak HH.out.symm,(Below.refl _ _).alloc (Nat.le_refl _) _⟩
  ·have g2:(y%100==0)=false:=by simp[g]
   clear g
   go_enter Tryz.func97,Tryz.ntmps97
   go_wp2
   all_goals go_ret
   all_goals exact⟨qak HH.out.symm,(Below.refl _ _).alloc (Nat.le_refl _) _⟩
 ·rw[if_neg hm] at H
  have HH:=hid H
  clear H
  by_cases e2:m=2
  ·subst e2
   have hy : ¬ y%4=0:=fun e=>hm ⟨rfl,e⟩
   have g1:(y%4==0)=false:=by simp[hy]
   clear hm hy
   go_enter Tryz.func97,Tryz.ntmps97
   go_wp2
   all_goals go_ret
   all_goals exact⟨qak HH.out.symm,(Below.refl _ _).alloc (Nat.le_refl _) _⟩
  ·have hm3:m=1∨m=3∨m=4∨m=5∨m=6∨m=7∨m=8∨m=9∨m=10∨m=11∨m=12:=by omega
   clear hm e2
   rcases hm3 with rfl | rfl | rfl | rfl | rfl | rfl | rfl | rfl | rfl | rfl | rfl
   all_goals
    go_enter Tryz.func97,Tryz.ntmps97
    go_wp2
    go_ret
    exact⟨qak HH.out.symm,(Below.refl _ _).alloc (Nat.le_refl _) _⟩
theorem qd0(y:Int)(w:World)(h:2000≤y)(h':y≤2099):Calls Tryz.prog 99 #[.int .i64 y] w fun e w'=>e=.returned (.int .i64 (yl y))∧Below w.heap.size w w':=by
 have H:=hid (show 337+ml y 2=yl y by unfold ml yl;simp;split<;>omega)
 have hm:=qbf y 2
 go_enter Tryz.func99,Tryz.ntmps99
 go_wp2_with fail
 refine(qcq y 2 _ h h' (by omega) (by omega)).mono ?_
 rintro e w1⟨rfl,hb⟩
 go_wp2
 go_ret
 exact⟨qak H.out,hb⟩
theorem qkd{y m d:Int}(hk:Ok y m d)(w:World):Calls Tryz.prog 98 #[.agg #[.int .i64 y,.int .i64 m,.int .i64 d]] w fun e w'=>e=.returned (.int .i64 (d-1+cum y m))∧Below w.heap.size w w':=by
 have hY:=hk.y1
 have hY2:=hk.y2
 have hM:=hk.m1
 have hM2:=hk.m2
 have hd:=hk.d1
 have hd2:=hk.d2
 have hml:=qbf y m
 clear hk
 go_enter Tryz.func98,Tryz.ntmps98
 go_wp2
 go_loopw [3,4] (fun a b wr => ∃ j:Int,1≤j∧j≤m∧a=.int .i64 (d-1+cum y j)∧b=.int .i64 j∧Below (w.alloc (.cells #[.int .i64 y,.int .i64 m,.int .i64 d] 95)).heap.size (w.alloc (.cells #[.int .i64 y,.int .i64 m,.int .i64 d] 95)) wr) (fun _ b _=>(m-intOf b).toNat)
 case atStart=>exact⟨1,by omega,by omega,by rw[qhh];go_num,rfl,Below.refl _ _⟩
 case round =>
  obtain⟨j,j1,j2,rfl,rfl,hb⟩:=hrel
  obtain⟨hc,hf⟩:=qad hb
  have b5:=qi3 y j1 (by omega)
  have b6:=qbf y j
  have HU:=hid (qeg y j1 (by omega))
  have HB:=hid hb
  clear hb
  by_cases hlt:j<m
  ·go_wp2_with fail
   refine(qcq y j _ hY hY2 (by omega) (by omega)).mono ?_
   rintro e w1⟨rfl,hb1⟩
   have HB1:=hid (HB.out.trans (hb1.mono HB.out.size))
   clear hb1
   go_wp2
   go_roundw
   case rel=>exact⟨j+1,by omega,by omega,by rw[HU.out];go_num,rfl,HB1.out⟩
   case measure=>simp[intOf];omega
  ·obtain rfl:j=m:=by omega
   go_wp2
   go_ret
   exact⟨rfl,qap HB.out⟩
end Go.Proofs.YtldkgbnmaefaaaaGreatDoor.Ca
namespace Go.Proofs.YtldkgbnmaefaaaaGreatDoor.Ca
open Go.RowKit
set_option linter.unusedVariables false
def Wb(W0:World) := { W:World // Below W0.heap.size W0 W }
theorem Wb.cell{W0:World}(x:Wb W0){b o:Nat}{v:Value}(h:b<W0.heap.size)(hv:W0.cell? ⟨b,o,none⟩=some v):x.1.cell? ⟨b,o,none⟩=some v:=(x.2.cell (p:=⟨b,o,none⟩) h).trans hv
theorem q0s{f:FuncId}{args:Array Value}{v:Value}{W0:World}(h : ∀ w,Calls Tryz.prog f args w fun e w'=>e=.returned v∧Below w.heap.size w w')(x:Wb W0):Calls Tryz.prog f args x.1 fun e w''=>e=.returned v ∧ ∃ y:Wb W0,w''=y.1 :=
 (h x.1).mono fun _ w'' ⟨he,hb⟩=>⟨he,⟨w'',x.2.trans (hb.mono x.2.size)⟩,rfl⟩
theorem qby{P:Program}{C:World→Prop}{a:Act}{l:List Oper}{id:Nat}{R:Exit→Act→World→Prop}{w:World}(hm:P.follows .mixedOrders=true)(hB:Region.lexB .any l.toArray=true)(hC:C w.drew)
  (h:wpQuiet P l.toArray C (fun a' => ∀ w',C w'→R .normal a' w') l a):(Code.region id l.toArray true).wp P R a w :=
 wp_region_quiet (C:=C) hm hB hC (by simpa using h)
def boxed(y m d:Int)(w:World):World:=w.alloc (.cells #[.int .i64 y,.int .i64 m,.int .i64 d] 95)
theorem q8z{y m d c:Int}(w:World)(h1:y<2000) :
  Calls Tryz.prog 52 #[.agg #[.int .i64 y,.int .i64 m,.int .i64 d],.int .i64 c] w fun e w'=>e=.returned (.tuple #[.int .i64 0,.int .i64 2])∧Below w.heap.size w w':=by
 have b1:decide (y<2000)=true:=by rw[decide_eq_true_iff];omega
 go_enter Tryz.func52,Tryz.ntmps52
 go_wp2
 go_quiet (fail)
 go_wp2
 go_ret2
 exact⟨rfl,below_drewN ((Below.refl _ _).alloc (Nat.le_refl _) _) _⟩
theorem q9a{y m d c:Int}(w:World)(h1:2000≤y)(h2:2099<y) :
  Calls Tryz.prog 52 #[.agg #[.int .i64 y,.int .i64 m,.int .i64 d],.int .i64 c] w fun e w'=>e=.returned (.tuple #[.int .i64 0,.int .i64 2])∧Below w.heap.size w w':=by
 have b1:decide (y<2000)=false:=by rw[decide_eq_false_iff_not];omega
 have b2:decide (2099<y)=true:=by rw[decide_eq_true_iff];omega
 go_enter Tryz.func52,Tryz.ntmps52
 go_wp2
 go_quiet (fail)
 go_wp2
 go_ret2
 exact⟨rfl,below_drewN ((Below.refl _ _).alloc (Nat.le_refl _) _) _⟩
theorem q9b{y m d c:Int}(w:World)(h1:2000≤y)(h2:y≤2099)(h3:m<1) :
  Calls Tryz.prog 52 #[.agg #[.int .i64 y,.int .i64 m,.int .i64 d],.int .i64 c] w fun e w'=>e=.returned (.tuple #[.int .i64 0,.int .i64 2])∧Below w.heap.size w w':=by
 have b1:decide (y<2000)=false:=by rw[decide_eq_false_iff_not];omega
 have b2:decide (2099<y)=false:=by rw[decide_eq_false_iff_not];omega
 have b3:decide (m<1)=true:=by rw[decide_eq_true_iff];omega
 go_enter Tryz.func52,Tryz.ntmps52
 go_wp2
 go_quiet (fail)
 go_wp2
 go_ret2
 exact⟨rfl,below_drewN ((Below.refl _ _).alloc (Nat.le_refl _) _) _⟩
theorem q9c{y m d c:Int}(w:World)(h1:2000≤y)(h2:y≤2099)(h3:1≤m)(h4:12<m) :
  Calls Tryz.prog 52 #[.agg #[.int .i64 y,.int .i64 m,.int .i64 d],.int .i64 c] w fun e w'=>e=.returned (.tuple #[.int .i64 0,.int .i64 2])∧Below w.heap.size w w':=by
 have b1:decide (y<2000)=false:=by rw[decide_eq_false_iff_not];omega
 have b2:decide (2099<y)=false:=by rw[decide_eq_false_iff_not];omega
 have b3:decide (m<1)=false:=by rw[decide_eq_false_iff_not];omega
 have b4:decide (12<m)=true:=by rw[decide_eq_true_iff];omega
 go_enter Tryz.func52,Tryz.ntmps52
 go_wp2
 go_quiet (fail)
 go_wp2
 go_ret2
 exact⟨rfl,below_drewN ((Below.refl _ _).alloc (Nat.le_refl _) _) _⟩
theorem q9d{y m d c:Int}(w:World)(h1:2000≤y)(h2:y≤2099)(h3:1≤m)(h4:m≤12)(h5:d<1) :
  Calls Tryz.prog 52 #[.agg #[.int .i64 y,.int .i64 m,.int .i64 d],.int .i64 c] w fun e w'=>e=.returned (.tuple #[.int .i64 0,.int .i64 2])∧Below w.heap.size w w':=by
 have b1:decide (y<2000)=false:=by rw[decide_eq_false_iff_not];omega
 have b2:decide (2099<y)=false:=by rw[decide_eq_false_iff_not];omega
 have b3:decide (m<1)=false:=by rw[decide_eq_false_iff_not];omega
 have b4:decide (12<m)=false:=by rw[decide_eq_false_iff_not];omega
 have b5:decide (d<1)=true:=by rw[decide_eq_true_iff];omega
 go_enter Tryz.func52,Tryz.ntmps52
 go_wp2
 go_quiet (fail)
 go_wp2
 go_ret2
 exact⟨rfl,below_drewN ((Below.refl _ _).alloc (Nat.le_refl _) _) _⟩
theorem q9e{y m d c:Int}(w:World)(h1:2000≤y)(h2:y≤2099)(h3:1≤m)(h4:m≤12)(h5:1≤d)(h6:ml y m<d) :
  Calls Tryz.prog 52 #[.agg #[.int .i64 y,.int .i64 m,.int .i64 d],.int .i64 c] w fun e w'=>e=.returned (.tuple #[.int .i64 0,.int .i64 2])∧Below w.heap.size w w':=by
 have b1:decide (y<2000)=false:=by rw[decide_eq_false_iff_not];omega
 have b2:decide (2099<y)=false:=by rw[decide_eq_false_iff_not];omega
 have b3:decide (m<1)=false:=by rw[decide_eq_false_iff_not];omega
 have b4:decide (12<m)=false:=by rw[decide_eq_false_iff_not];omega
 have b5:decide (d<1)=false:=by rw[decide_eq_false_iff_not];omega
 have b6:decide (ml y m<d)=true:=by rw[decide_eq_true_iff];omega
 have HC:Hid (∀ x:Wb (boxed y m d w),Calls Tryz.prog 97 #[.int .i64 y,.int .i64 m] x.1 fun e w''=>e=.returned (.int .i64 (ml y m)) ∧ ∃ z:Wb (boxed y m d w),w''=z.1):=hid (fun x=>q0s (fun w=>qcq y m w h1 h2 h3 h4) x)
 have hml:=qbf y m
 have q0 : ∀ x:Wb (boxed y m d w),x.1.cell? ⟨w.heap.size,0,none⟩=some (.int .i64 y):=fun x=>x.cell (by simp[boxed]) (by simp[boxed])
 have q1 : ∀ x:Wb (boxed y m d w),x.1.cell? ⟨w.heap.size,1,none⟩=some (.int .i64 m):=fun x=>x.cell (by simp[boxed]) (by simp[boxed])
 have q2 : ∀ x:Wb (boxed y m d w),x.1.cell? ⟨w.heap.size,2,none⟩=some (.int .i64 d):=fun x=>x.cell (by simp[boxed]) (by simp[boxed])
 have hx:Below (boxed y m d w).heap.size (boxed y m d w) (boxed y m d w).drew:=below_drewN (Below.refl _ _) 1
 have ne:Nonempty (Wb (boxed y m d w)):=⟨⟨_,hx⟩⟩
 go_enter Tryz.func52,Tryz.ntmps52
 go_wp2
 refine qby (C:=fun W => ∃ x:Wb (boxed y m d w),W=x.1) (by kernel_rfl) (by kernel_rfl) ⟨⟨_,hx⟩,rfl⟩ ?_
 repeat (go_big_quiet_step ((go_at_call 97;with_reducible exact HC.out _)))
 refine wpQuiet_nil ?_
 intro w' hw'
 obtain⟨x,rfl⟩:=hw'
 go_wp2
 go_ret2
 exact⟨rfl,qap x.2⟩
theorem q9f{y m d c:Int}(w:World)(h1:2000≤y)(h2:y≤2099)(h3:1≤m)(h4:m≤12)(h5:1≤d)(h6:d≤ml y m)(h7:c<0) :
  Calls Tryz.prog 52 #[.agg #[.int .i64 y,.int .i64 m,.int .i64 d],.int .i64 c] w fun e w'=>e=.returned (.tuple #[.int .i64 0,.int .i64 2])∧Below w.heap.size w w':=by
 have b1:decide (y<2000)=false:=by rw[decide_eq_false_iff_not];omega
 have b2:decide (2099<y)=false:=by rw[decide_eq_false_iff_not];omega
 have b3:decide (m<1)=false:=by rw[decide_eq_false_iff_not];omega
 have b4:decide (12<m)=false:=by rw[decide_eq_false_iff_not];omega
 have b5:decide (d<1)=false:=by rw[decide_eq_false_iff_not];omega
 have b6:decide (ml y m<d)=false:=by rw[decide_eq_false_iff_not];omega
 have b7:decide (c<0)=true:=by rw[decide_eq_true_iff];omega
 have HC:Hid (∀ x:Wb (boxed y m d w),Calls Tryz.prog 97 #[.int .i64 y,.int .i64 m] x.1 fun e w''=>e=.returned (.int .i64 (ml y m)) ∧ ∃ z:Wb (boxed y m d w),w''=z.1):=hid (fun x=>q0s (fun w=>qcq y m w h1 h2 h3 h4) x)
 have hml:=qbf y m
 have q0 : ∀ x:Wb (boxed y m d w),x.1.cell? ⟨w.heap.size,0,none⟩=some (.int .i64 y):=fun x=>x.cell (by simp[boxed]) (by simp[boxed])
 have q1 : ∀ x:Wb (boxed y m d w),x.1.cell? ⟨w.heap.size,1,none⟩=some (.int .i64 m):=fun x=>x.cell (by simp[boxed]) (by simp[boxed])
 have q2 : ∀ x:Wb (boxed y m d w),x.1.cell? ⟨w.heap.size,2,none⟩=some (.int .i64 d):=fun x=>x.cell (by simp[boxed]) (by simp[boxed])
 have hx:Below (boxed y m d w).heap.size (boxed y m d w) (boxed y m d w).drew:=below_drewN (Below.refl _ _) 1
 have ne:Nonempty (Wb (boxed y m d w)):=⟨⟨_,hx⟩⟩
 go_enter Tryz.func52,Tryz.ntmps52
 go_wp2
 refine qby (C:=fun W => ∃ x:Wb (boxed y m d w),W=x.1) (by kernel_rfl) (by kernel_rfl) ⟨⟨_,hx⟩,rfl⟩ ?_
 repeat (go_big_quiet_step ((go_at_call 97;with_reducible exact HC.out _)))
 refine wpQuiet_nil ?_
 intro w' hw'
 obtain⟨x,rfl⟩:=hw'
 go_wp2
 go_ret2
 exact⟨rfl,qap x.2⟩
theorem q9g{y m d c:Int}(w:World)(h1:2000≤y)(h2:y≤2099)(h3:1≤m)(h4:m≤12)(h5:1≤d)(h6:d≤ml y m)(h7:0≤c)(h8:1439<c) :
  Calls Tryz.prog 52 #[.agg #[.int .i64 y,.int .i64 m,.int .i64 d],.int .i64 c] w fun e w'=>e=.returned (.tuple #[.int .i64 0,.int .i64 2])∧Below w.heap.size w w':=by
 have b1:decide (y<2000)=false:=by rw[decide_eq_false_iff_not];omega
 have b2:decide (2099<y)=false:=by rw[decide_eq_false_iff_not];omega
 have b3:decide (m<1)=false:=by rw[decide_eq_false_iff_not];omega
 have b4:decide (12<m)=false:=by rw[decide_eq_false_iff_not];omega
 have b5:decide (d<1)=false:=by rw[decide_eq_false_iff_not];omega
 have b6:decide (ml y m<d)=false:=by rw[decide_eq_false_iff_not];omega
 have b7:decide (c<0)=false:=by rw[decide_eq_false_iff_not];omega
 have b8:decide (1439<c)=true:=by rw[decide_eq_true_iff];omega
 have HC:Hid (∀ x:Wb (boxed y m d w),Calls Tryz.prog 97 #[.int .i64 y,.int .i64 m] x.1 fun e w''=>e=.returned (.int .i64 (ml y m)) ∧ ∃ z:Wb (boxed y m d w),w''=z.1):=hid (fun x=>q0s (fun w=>qcq y m w h1 h2 h3 h4) x)
 have hml:=qbf y m
 have q0 : ∀ x:Wb (boxed y m d w),x.1.cell? ⟨w.heap.size,0,none⟩=some (.int .i64 y):=fun x=>x.cell (by simp[boxed]) (by simp[boxed])
 have q1 : ∀ x:Wb (boxed y m d w),x.1.cell? ⟨w.heap.size,1,none⟩=some (.int .i64 m):=fun x=>x.cell (by simp[boxed]) (by simp[boxed])
 have q2 : ∀ x:Wb (boxed y m d w),x.1.cell? ⟨w.heap.size,2,none⟩=some (.int .i64 d):=fun x=>x.cell (by simp[boxed]) (by simp[boxed])
 have hx:Below (boxed y m d w).heap.size (boxed y m d w) (boxed y m d w).drew:=below_drewN (Below.refl _ _) 1
 have ne:Nonempty (Wb (boxed y m d w)):=⟨⟨_,hx⟩⟩
 go_enter Tryz.func52,Tryz.ntmps52
 go_wp2
 refine qby (C:=fun W => ∃ x:Wb (boxed y m d w),W=x.1) (by kernel_rfl) (by kernel_rfl) ⟨⟨_,hx⟩,rfl⟩ ?_
 repeat (go_big_quiet_step ((go_at_call 97;with_reducible exact HC.out _)))
 refine wpQuiet_nil ?_
 intro w' hw'
 obtain⟨x,rfl⟩:=hw'
 go_wp2
 go_ret2
 exact⟨rfl,qap x.2⟩
theorem q9h{y m d c:Int}(w:World)(h1:2000≤y)(h2:y≤2099)(h3:1≤m)(h4:m≤12)(h5:1≤d)(h6:d≤ml y m)(h7:0≤c)(h8:c≤1439) :
  Calls Tryz.prog 52 #[.agg #[.int .i64 y,.int .i64 m,.int .i64 d],.int .i64 c] w fun e w'=>e=.returned (.tuple #[.int .i64 (inst y m d c),.int .i64 0])∧Below w.heap.size w w':=by
 have b1:decide (y<2000)=false:=by rw[decide_eq_false_iff_not];omega
 have b2:decide (2099<y)=false:=by rw[decide_eq_false_iff_not];omega
 have b3:decide (m<1)=false:=by rw[decide_eq_false_iff_not];omega
 have b4:decide (12<m)=false:=by rw[decide_eq_false_iff_not];omega
 have b5:decide (d<1)=false:=by rw[decide_eq_false_iff_not];omega
 have b6:decide (ml y m<d)=false:=by rw[decide_eq_false_iff_not];omega
 have b7:decide (c<0)=false:=by rw[decide_eq_false_iff_not];omega
 have b8:decide (1439<c)=false:=by rw[decide_eq_false_iff_not];omega
 have hk:Ok y m d:=⟨h1,h2,h3,h4,h5,h6⟩
 have HR:=hid (fun w=>qkd hk w)
 have hD:inst y m d c=(d-1+cum y m+dby y)*1440+c:=by unfold inst dn;rw[show dby y+cum y m+d-1=d-1+cum y m+dby y by omega]
 have HD:=hid hD
 have hr:=hk.range
 unfold dn at hr
 have b30:=qi3 y h3 (by omega)
 clear hk hD
 have HC:Hid (∀ x:Wb (boxed y m d w),Calls Tryz.prog 97 #[.int .i64 y,.int .i64 m] x.1 fun e w''=>e=.returned (.int .i64 (ml y m)) ∧ ∃ z:Wb (boxed y m d w),w''=z.1):=hid (fun x=>q0s (fun w=>qcq y m w h1 h2 h3 h4) x)
 have hml:=qbf y m
 have q0 : ∀ x:Wb (boxed y m d w),x.1.cell? ⟨w.heap.size,0,none⟩=some (.int .i64 y):=fun x=>x.cell (by simp[boxed]) (by simp[boxed])
 have q1 : ∀ x:Wb (boxed y m d w),x.1.cell? ⟨w.heap.size,1,none⟩=some (.int .i64 m):=fun x=>x.cell (by simp[boxed]) (by simp[boxed])
 have q2 : ∀ x:Wb (boxed y m d w),x.1.cell? ⟨w.heap.size,2,none⟩=some (.int .i64 d):=fun x=>x.cell (by simp[boxed]) (by simp[boxed])
 have hx:Below (boxed y m d w).heap.size (boxed y m d w) (boxed y m d w).drew:=below_drewN (Below.refl _ _) 1
 have ne:Nonempty (Wb (boxed y m d w)):=⟨⟨_,hx⟩⟩
 go_enter Tryz.func52,Tryz.ntmps52
 go_wp2
 refine qby (C:=fun W => ∃ x:Wb (boxed y m d w),W=x.1) (by kernel_rfl) (by kernel_rfl) ⟨⟨_,hx⟩,rfl⟩ ?_
 repeat (go_big_quiet_step ((go_at_call 97;with_reducible exact HC.out _)))
 refine wpQuiet_nil ?_
 intro w' hw'
 obtain⟨x,rfl⟩:=hw'
 have e0:=q0 x
 have e1:=q1 x
 have e2:=q2 x
 have HX:=hid (qap (w:=w) x.2)
 have hz:w.heap.size<x.1.heap.size:=by have:=x.2.size;simp[boxed] at this;omega
 clear q0 q1 q2 HC hx ne
 go_wp2_with fail
 refine(HR.out _).mono ?_
 rintro e w1⟨rfl,hb⟩
 obtain⟨hc,hf⟩:=qad hb
 have e3:w1.cell? ⟨w.heap.size,0,none⟩=some (.int .i64 y):=(hc _ _ hz).trans e0
 have HB:=hid (HX.out.trans (hb.mono HX.out.size))
 have hz1:w.heap.size<w1.heap.size:=by have:=hb.size;omega
 clear hb hc hf e0 e1 e2
 go_wp2
 go_loopw [6,7] (fun a b wr => ∃ k:Int,2000≤k∧k≤y∧a=.int .i64 (d-1+cum y m+dby k)∧b=.int .i64 k∧Hid (Below w1.heap.size w1 wr)) (fun _ b _=>(y-intOf b).toNat)
 case atStart=>exact⟨2000,by omega,by omega,by rw[qeh];go_num,rfl,hid (Below.refl _ _)⟩
 case round =>
  obtain⟨k,k1,k2,rfl,rfl,HW⟩:=hrel
  have e4:wr.cell? ⟨w.heap.size,0,none⟩=some (.int .i64 y):=(HW.out.cell (p:=⟨w.heap.size,0,none⟩) hz1).trans e3
  have g1:=qb0 k1
  have g2:=qb0 k2
  rw[qeh] at g1
  have g4:=qcd k
  have HS:=hid (qfn k)
  by_cases hlt:k<y
  ·go_wp2_with fail
   refine(qd0 k _ (by omega) (by omega)).mono ?_
   rintro e w2⟨rfl,hb2⟩
   have HW2:=hid (HW.out.trans (hb2.mono HW.out.size))
   clear hb2
   go_wp2
   go_roundw
   case rel=>exact⟨k+1,by omega,by omega,by rw[HS.out];go_num,rfl,HW2⟩
   case measure=>simp[intOf];omega
  ·obtain rfl:k=y:=by omega
   go_wp2
   go_ret2
   exact⟨by rw[HD.out];rfl,HB.out.trans (HW.out.mono HB.out.size)⟩
theorem qee(y m d c:Int)(w:World) :
  Calls Tryz.prog 52 #[.agg #[.int .i64 y,.int .i64 m,.int .i64 d],.int .i64 c] w fun e w'=>e=.returned (.tuple #[.int .i64 (qlt y m d c).n,.int .i64 (qlt y m d c).e])∧Below w.heap.size w w':=by
 by_cases h1:y<2000
 ·rw[qds (fun h=>by have hk:=qan.1 h.1;obtain⟨a,b,c,d,e,f⟩:=hk;omega)];exact q8z w h1
 by_cases h2:2099<y
 ·rw[qds (fun h=>by have hk:=qan.1 h.1;obtain⟨a,b,c,d,e,f⟩:=hk;omega)];exact q9a w (by omega) h2
 by_cases h3:m<1
 ·rw[qds (fun h=>by have hk:=qan.1 h.1;obtain⟨a,b,c,d,e,f⟩:=hk;omega)];exact q9b w (by omega) (by omega) h3
 by_cases h4:12<m
 ·rw[qds (fun h=>by have hk:=qan.1 h.1;obtain⟨a,b,c,d,e,f⟩:=hk;omega)];exact q9c w (by omega) (by omega) (by omega) h4
 by_cases h5:d<1
 ·rw[qds (fun h=>by have hk:=qan.1 h.1;obtain⟨a,b,c,d,e,f⟩:=hk;omega)];exact q9d w (by omega) (by omega) (by omega) (by omega) h5
 by_cases h6:ml y m<d
 ·rw[qds (fun h=>by have hk:=qan.1 h.1;obtain⟨a,b,c,d,e,f⟩:=hk;omega)];exact q9e w (by omega) (by omega) (by omega) (by omega) (by omega) h6
 by_cases h7:c<0
 ·rw[qds (fun h=>by have hk:=qan.1 h.1;obtain⟨a,b,c,d,e,f⟩:=hk;omega)];exact q9f w (by omega) (by omega) (by omega) (by omega) (by omega) (by omega) h7
 by_cases h8:1439<c
 ·rw[qds (fun h=>by have hk:=qan.1 h.1;obtain⟨a,b,c,d,e,f⟩:=hk;omega)];exact q9g w (by omega) (by omega) (by omega) (by omega) (by omega) (by omega) (by omega) h8
 rw[qjc ⟨by omega,by omega,by omega,by omega,by omega,by omega⟩ (by omega) (by omega)]
 exact q9h w (by omega) (by omega) (by omega) (by omega) (by omega) (by omega) (by omega) (by omega)
end Go.Proofs.YtldkgbnmaefaaaaGreatDoor.Ca
namespace Go.Proofs.YtldkgbnmaefaaaaGreatDoor.Ca
open Go.RowKit
set_option linter.unusedSimpArgs false
theorem qwf{n:Int}(h:0≤n∧n<52596000)(w:World):Calls Tryz.prog 53 #[.int .i64 n] w fun e w'=>e=.returned (.bool true)∧w=w':=by
 have:=qi8 n w
 rwa [decide_eq_true h] at this
theorem qmf{n:Int}(h : ¬ (0≤n∧n<52596000))(w:World):Calls Tryz.prog 53 #[.int .i64 n] w fun e w'=>e=.returned (.bool false)∧w=w':=by
 have:=qi8 n w
 rwa [decide_eq_false h] at this
theorem qrt{n:Int}(h : ¬ (0≤n∧n<52596000))(w:World) :
  Calls Tryz.prog 100 #[.int .i64 n] w fun e w'=>e=.returned (.tuple #[.agg #[.int .i64 0,.int .i64 0,.int .i64 0],.int .i64 0,.int .i64 2])∧Below w.heap.size w w':=by
 have HC:=hid (fun w=>qmf h w)
 clear h
 go_enter Tryz.func100,Tryz.ntmps100
 go_wp2_with fail
 refine(HC.out _).mono ?_
 rintro e w1⟨rfl,rfl⟩
 go_wp2
 exact bodyPost_ret (v := .tuple #[.agg #[.int .i64 0,.int .i64 0,.int .i64 0],.int .i64 0,.int .i64 2]) (by simp[results,Tryz.results100,go_sem]) rfl ⟨rfl,(Below.refl _ w).alloc (Nat.le_refl _) _⟩
theorem qa0{n:Int}(h:0≤n∧n<52596000)(w:World) :
  Calls Tryz.prog 101 #[.int .i64 n] w fun e w'=>e=.returned (.tuple #[.int .i64 (wd (n / 1440)),.int .i64 0])∧Below w.heap.size w w':=by
 have HC:=hid (fun w=>qwf h w)
 obtain⟨h1,h2⟩:=h
 go_enter Tryz.func101,Tryz.ntmps101
 go_wp2_with fail
 refine(HC.out _).mono ?_
 rintro e w1⟨rfl,rfl⟩
 go_wp2
 go_ret2
 exact⟨rfl,Below.refl _ w⟩
structure Two (w wr:World) (p q r:Int):Prop where
 c0:wr.cell? ⟨w.heap.size+1,0,none⟩=some (.int .i64 p)
 c1:wr.cell? ⟨w.heap.size+1,1,none⟩=some (.int .i64 q)
 c2:wr.cell? ⟨w.heap.size+1,2,none⟩=some (.int .i64 r)
 f:wr.frozen? ⟨w.heap.size+1,0,none⟩=false
 f1:wr.frozen? ⟨w.heap.size+1,1,none⟩=false
 f2:wr.frozen? ⟨w.heap.size+1,2,none⟩=false
 r0:wr.cell? ⟨w.heap.size,0,none⟩=some (.int .i64 0)
 r1:wr.cell? ⟨w.heap.size,1,none⟩=some (.int .i64 0)
 r2:wr.cell? ⟨w.heap.size,2,none⟩=some (.int .i64 0)
 g:wr.frozen? ⟨w.heap.size,0,none⟩=false
 g1:wr.frozen? ⟨w.heap.size,1,none⟩=false
 g2:wr.frozen? ⟨w.heap.size,2,none⟩=false
 lt:w.heap.size+1<wr.heap.size
 bl:Below w.heap.size w wr
theorem Two.below{w wr w':World}{p q r:Int}(h:Two w wr p q r)(hb:Below wr.heap.size wr w'):Two w w' p q r:=by
 obtain⟨hc,hf⟩:=qad hb
 have l:=h.lt
 have l0:w.heap.size<wr.heap.size:=by omega
 exact⟨(hc _ _ l).trans h.c0,(hc _ _ l).trans h.c1,(hc _ _ l).trans h.c2,(hf _ _ l).trans h.f,(hf _ _ l).trans h.f1,(hf _ _ l).trans h.f2,(hc _ _ l0).trans h.r0,(hc _ _ l0).trans h.r1,(hc _ _ l0).trans h.r2,(hf _ _ l0).trans h.g,(hf _ _ l0).trans h.g1,(hf _ _ l0).trans h.g2,by have:=hb.size;omega,h.bl.trans (hb.mono h.bl.size)⟩
theorem Two.set0{w wr:World}{p q r:Int}(h:Two w wr p q r)(x:Int):Two w (wr.setCell ⟨w.heap.size+1,0,none⟩ (.int .i64 x)) x q r:=by
 have s0:wr.cell? ⟨w.heap.size+1,0,none⟩≠none:=by rw[h.c0];simp
 constructor<;>first | exact h.bl.setCell (Nat.le_succ _) _ | (simp;exact h.lt) | (rw[World.frozen?_setCell];first | exact h.f | exact h.f1 | exact h.f2 | exact h.g | exact h.g1 | exact h.g2) | (exact World.cell?_setCell_same _ _ _ h.c0) | (refine(World.cell?_setCell_other _ _ _ _ (by simp)).trans ?_;first | exact h.c0 | exact h.c1 | exact h.c2 | exact h.r0 | exact h.r1 | exact h.r2)
theorem Two.set1{w wr:World}{p q r:Int}(h:Two w wr p q r)(x:Int):Two w (wr.setCell ⟨w.heap.size+1,1,none⟩ (.int .i64 x)) p x r:=by
 constructor<;>first | exact h.bl.setCell (Nat.le_succ _) _ | (simp;exact h.lt) | (rw[World.frozen?_setCell];first | exact h.f | exact h.f1 | exact h.f2 | exact h.g | exact h.g1 | exact h.g2) | (exact World.cell?_setCell_same _ _ _ h.c1) | (refine(World.cell?_setCell_other _ _ _ _ (by simp)).trans ?_;first | exact h.c0 | exact h.c1 | exact h.c2 | exact h.r0 | exact h.r1 | exact h.r2)
theorem qat{y m d c:Int}(hk:Ok y m d)(c1:0≤c)(c2:c<1440)(w:World) :
  Calls Tryz.prog 100 #[.int .i64 (inst y m d c)] w fun e w'=>e=.returned (.tuple #[.agg #[.int .i64 y,.int .i64 m,.int .i64 d],.int .i64 c,.int .i64 0])∧Below w.heap.size w w':=by
 obtain⟨i1,i2,i3,i4⟩:=qas hk c1 c2
 have HK:=hid hk
 have hr:=hk.range
 have hY:=hk.y1
 have hY2:=hk.y2
 have hM:=hk.m1
 have hM2:=hk.m2
 have hd:=hk.d1
 have hday:=hk.day
 have hyr:=hk.in_year
 have hmo:=hk.in_month
 obtain⟨q1,q2⟩:=hday
 have HC:=hid (fun w=>qwf ⟨i1,i2⟩ w)
 obtain⟨n,hn⟩ : ∃ n,inst y m d c=n:=⟨_,rfl⟩
 obtain⟨D,hD⟩ : ∃ D,dn y m d=D:=⟨_,rfl⟩
 rw[hn] at i1 i2 i3 i4 HC
 rw[hD] at hr q1 q2 i3
 have e1:D-dby y-cum y m+1=d:=by rw[←hD];unfold dn;omega
 have HM:=hid e1
 have p1:cum y m≤D-dby y:=by omega
 have p2:D-dby y<cum y (m+1):=by omega
 have HB0:=hid qeh
 have I3:=hid i3
 have I4:=hid i4
 rw[hn]
 clear hn hD e1 i3 i4 hk hmo hyr
 go_enter Tryz.func100,Tryz.ntmps100
 go_wp2_with fail
 refine(HC.out _).mono ?_
 rintro e w1⟨rfl,rfl⟩
 go_wp2
 go_loopw [5] (fun a wr => ∃ k:Int,2000≤k∧k≤y∧a=.int .i64 (D-dby k)∧Hid (Two w wr k 1 0)) (fun a _=>(intOf a).toNat)
 case atStart =>
  refine⟨2000,by omega,by omega,by rw[HB0.out,I3.out];go_num,hid ?_⟩
  constructor<;>first | exact((Below.refl _ w).alloc (Nat.le_refl _) _).alloc (by simp) _ | (simp;done) | (simp;omega)
 case round =>
  obtain⟨k,k1,k2,rfl,H2⟩:=hrel
  have T0:=H2.out.c0
  have TF:=H2.out.f
  have b1:=qb0 k1
  have b2:=qb0 k2
  have b0:=HB0.out
  rw[b0] at b1
  clear b0
  have b4:=qcd k
  have HS:=hid (qfn k)
  by_cases hlt:k<y
  ·have b5:=qb0 (a:=k+1) (b:=y) (by omega)
   rw[HS.out] at b5
   have g1:yl k≤D-dby k:=by omega
   go_wp2_with fail
   refine(qd0 k _ (by omega) (by omega)).mono ?_
   rintro e w1⟨rfl,hb1⟩
   have H3:=hid (H2.out.below hb1)
   clear T0 TF H2 hb1
   have T0:=H3.out.c0
   go_wp2_with fail
   refine(qd0 k _ (by omega) (by omega)).mono ?_
   rintro e w2⟨rfl,hb2⟩
   have H4:=hid (H3.out.below hb2)
   clear T0 H3 hb2
   have T0:=H4.out.c0
   have TF:=H4.out.f
   go_wp2
   go_roundw
   case rel=>exact⟨k+1,by omega,by omega,by rw[HS.out];go_num,hid (H4.out.set0 _)⟩
   case measure=>simp[intOf];omega
  ·obtain rfl:k=y:=by omega
   rw[HS.out] at q2
   have g1:D-dby k<yl k:=by omega
   go_wp2_with fail
   refine(qd0 k _ (by omega) (by omega)).mono ?_
   rintro e w1⟨rfl,hb1⟩
   have H3:=hid (H2.out.below hb1)
   clear T0 TF H2 hb1
   go_wp2
   go_loopw [5] (fun a wr => ∃ j:Int,1≤j∧j≤m∧a=.int .i64 (D-dby k-cum k j)∧Hid (Two w wr k j 0)) (fun a _=>(intOf a).toNat)
   case atStart=>exact⟨1,by omega,by omega,by rw[qhh];go_num,H3⟩
   case round =>
    obtain⟨j,j1,j2,rfl,H2⟩:=hrel
    have T0:=H2.out.c0
    have T1:=H2.out.c1
    have b5:=qi3 k j1 (by omega)
    have b6:=qbf k j
    have HU:=hid (qeg k j1 (by omega))
    by_cases hlt:j<m
    ·have b7:=qef k (a:=j+1) (b:=m) (by omega) (by omega) (by omega)
     rw[HU.out] at b7
     have g2:ml k j≤D-dby k-cum k j:=by omega
     go_wp2_with fail
     refine(qcq k j _ (by omega) (by omega) (by omega) (by omega)).mono ?_
     rintro e w1⟨rfl,hb1⟩
     have H3:=hid (H2.out.below hb1)
     clear T0 T1 H2 hb1
     have T0:=H3.out.c0
     have T1:=H3.out.c1
     go_wp2_with fail
     refine(qcq k j _ (by omega) (by omega) (by omega) (by omega)).mono ?_
     rintro e w2⟨rfl,hb2⟩
     have H4:=hid (H3.out.below hb2)
     clear T0 T1 H3 hb2
     have T1:=H4.out.c1
     have TF:=H4.out.f1
     go_wp2
     go_roundw
     case rel=>exact⟨j+1,by omega,by omega,by rw[HU.out];go_num,hid (H4.out.set1 _)⟩
     case measure=>simp[intOf];omega
    ·obtain rfl:j=m:=by omega
     rw[HU.out] at p2
     have g2:D-dby k-cum k j<ml k j:=by omega
     go_wp2_with fail
     refine(qcq k j _ (by omega) (by omega) (by omega) (by omega)).mono ?_
     rintro e w1⟨rfl,hb1⟩
     have H3:=hid (H2.out.below hb1)
     clear T0 T1 H2 hb1
     have T0:=H3.out.c0
     have T1:=H3.out.c1
     have T2:=H3.out.c2
     have TF:=H3.out.f2
     have R0:=H3.out.r0
     have R1:=H3.out.r1
     have R2:=H3.out.r2
     have G0:=H3.out.g
     have G1:=H3.out.g1
     have G2:=H3.out.g2
     have i6:n%1440=c:=I4.out
     go_wp2
     refine bodyPost_ret (v := .tuple #[.agg #[.int .i64 k,.int .i64 j,.int .i64 (D-dby k-cum k j+1)],.int .i64 c,.int .i64 0]) (by simp[results,Tryz.results100,go_sem,R0,R1,R2,i6]) rfl ⟨by rw[HM.out],?_⟩
     exact(((H3.out.bl.setCell (Nat.le_succ _) _).setCell (Nat.le_refl _) _).setCell (Nat.le_refl _) _).setCell (Nat.le_refl _) _
end Go.Proofs.YtldkgbnmaefaaaaGreatDoor.Ca
namespace Go.Proofs.YtldkgbnmaefaaaaGreatDoor.Ca
open Go.RowKit
set_option linter.unusedVariables false
set_option linter.unusedSimpArgs false
theorem qyj{u:Int}(h : ¬ (1≤u∧u≤5)):(decide (u<1)=true)∨(decide (u<1)=false∧decide (5<u)=true):=by
 by_cases a:u<1
 ·exact .inl (by simpa using a)
 ·exact .inr ⟨by simpa using a,by simp;omega⟩
theorem qxx{u n k:Int}(h : ¬ (0≤n∧n<52596000))(w:World) :
  Calls Tryz.prog 57 #[.int .i64 n,.int .i64 u,.int .i64 k] w fun e w'=>e=.returned (.tuple #[.int .i64 0,.int .i64 2])∧Below w.heap.size w w':=by
 have HC:=hid (fun w=>qrt h w)
 clear h
 go_enter Tryz.func57,Tryz.ntmps57
 go_wp2_with fail
 (with_reducible refine(HC.out _).mono ?_)
 rintro e w1⟨rfl,hb⟩
 go_wp2
 go_ret2
 exact⟨rfl,hb.alloc hb.size _⟩
theorem qxy{y m d c u k:Int}(hk:Ok y m d)(c1:0≤c)(c2:c<1440)(h : ¬ (1≤u∧u≤5))(w:World) :
  Calls Tryz.prog 57 #[.int .i64 (inst y m d c),.int .i64 u,.int .i64 k] w fun e w'=>e=.returned (.tuple #[.int .i64 0,.int .i64 2])∧Below w.heap.size w w':=by
 have HC:=hid (fun w=>qat hk c1 c2 w)
 obtain⟨n,hn⟩ : ∃ n,inst y m d c=n:=⟨_,rfl⟩
 rw[hn] at HC
 rw[hn]
 clear hn hk
 rcases qyj h with h1 | ⟨h1,h2⟩
 all_goals
  clear h
  go_enter Tryz.func57,Tryz.ntmps57
  go_wp2_with fail
  (with_reducible refine(HC.out _).mono ?_)
  rintro e w1⟨rfl,hb⟩
  go_wp2
  go_ret2
  exact⟨rfl,hb.alloc hb.size _⟩
end Go.Proofs.YtldkgbnmaefaaaaGreatDoor.Ca
namespace Go.Proofs.YtldkgbnmaefaaaaGreatDoor.Ca
open Go.RowKit
set_option linter.unusedVariables false
set_option linter.unusedSimpArgs false
theorem qye{y m d c u k:Int}(hk:Ok y m d)(c1:0≤c)(c2:c<1440)(h:1≤u∧u≤5):qsx y m d c u k =
  if k < -52596000∨52596000<k then⟨0,15⟩ else if u=4 then qfl y m d c k else if u=5 then qfl y m d c (12*k)
  else if 0≤inst y m d c+k*(if u=1 then 1 else if u=2 then 60 else 1440)∧inst y m d c+k*(if u=1 then 1 else if u=2 then 60 else 1440)<52596000 then
   ⟨inst y m d c+k*(if u=1 then 1 else if u=2 then 60 else 1440),0⟩
  else⟨0,15⟩:=by
 have hr:=qas hk c1 c2
 have a1:=hk.y1;have a2:=hk.y2;have a3:=hk.m1;have a4:=hk.m2
 unfold qsx
 by_cases e:k = -52596000∨k=52596000
 ·have M1:qfl y m d c k=⟨0,15⟩:=by unfold qfl;rw[if_neg (by omega)]
  have M2:qfl y m d c (12*k)=⟨0,15⟩:=by unfold qfl;rw[if_neg (by omega)]
  rw[if_pos (by omega),if_neg (by omega),M1,M2]
  have hu:u=4∨u=5∨u=1∨u=2∨u=3:=by omega
  generalize inst y m d c=I at *
  rcases hu with rfl | rfl | rfl | rfl | rfl
  ·rfl
  ·rfl
  all_goals
   simp only[Int.reduceEq,if_true,if_false]
   rw[if_neg (by omega)]
 ·by_cases g:k < -52596000∨52596000<k
  ·rw[if_pos (by omega),if_pos g]
  ·rw[if_neg (by omega),if_neg g]
end Go.Proofs.YtldkgbnmaefaaaaGreatDoor.Ca
