import Derived.Test.YtldkgbnmaefaaaaGreatDoorFuG4
import Derived.Test.YtldkgbnmaefaaaaGreatDoorNuG6
import Derived.Test.YtldkgbnmaefaaaaGreatDoorCaH6
import Derived.Test.YtldkgbnmaefaaaaGreatDoorFoG9
import Derived.Test.YtldkgbnmaefaaaaGreatDoorSfG4
import Derived.Test.YtldkgbnmaefaaaaGreatDoorSfG6
import Derived.Test.YtldkgbnmaefaaaaGreatDoorSfG3
set_option maxRecDepth 100000
set_option maxHeartbeats 4000000
open Go.Lib (hid)
namespace Go.Proofs.YtldkgbnmaefaaaaGreatDoor.Fu
open Go.RowKit
set_option linter.unusedVariables false
set_option linter.unusedSimpArgs false
theorem qbj(v:Value)(l:List BA)(i:Nat)(w:World)(hv:Rd w w.heap.size v l)(hi:i≤100) :
  Calls Tryz.prog 29 #[v,.int .i64 (i:Int)] w fun e w'=>e=.returned (.string (raw l i))∧w=w':=by
 obtain⟨A,c,rfl,hlc,hcm,hcell⟩:=hv.ex
 unfold maxLen at hcm
 clear hv
 by_cases h:i<l.length
 ·obtain⟨g,o,rfl,hg,hcl⟩:=hcell (by omega)
  have c0:=hcl i l[i] (List.getElem?_eq_getElem h)
  rw[←qbm h] at c0
  have hki:(i:Int)<(l.length:Int):=by omega
  clear hcell hcl
  generalize raw l i=R at c0
  go_enter Tryz.func29,Tryz.ntmps29
  go_wp2
  go_ret
  exact⟨rfl,rfl⟩
 ·have hki : ¬ (i:Int)<(l.length:Int):=by omega
  rw[qjn h]
  unfold em
  clear hcell
  go_enter Tryz.func29,Tryz.ntmps29
  go_wp2
  go_ret
  exact⟨rfl,rfl⟩
theorem q4c(s:BA)(w:World)(hs:s.size≤4294967281):Calls Tryz.prog 19 #[.string s] w fun e w'=>e=.returned (.string (trm s))∧Below w.heap.size w w':=Sf.qm5 s w hs
theorem qao(v:Value)(l:List BA)(i:Nat)(w:World)(hv:Rd w w.heap.size v l)(hi:i≤100)(hl:(raw l i).size≤350) :
  Calls Tryz.prog 27 #[v,.int .i64 (i:Int)] w fun e w'=>e=.returned (.string (trm (raw l i)))∧Below w.heap.size w w':=by
 have HR:=hid (qbj v l i w hv hi)
 obtain⟨A,c,rfl,hlc,hcm,hcell⟩:=hv.ex
 have HT:=hid (fun w=>q4c (raw l i) w (by omega))
 clear hv hcell
 go_enter Tryz.func27,Tryz.ntmps27
 go_wp2_with fail
 (with_reducible refine HR.out.mono ?_)
 rintro e w1⟨rfl,rfl⟩
 go_wp2_with fail
 (with_reducible refine(HT.out _).mono ?_)
 rintro e w2⟨rfl,hb⟩
 go_wp2
 go_ret
 exact⟨rfl,hb⟩
theorem qa6(v:Value)(l:List BA)(i:Nat)(x:Int)(w:World)(hv:Rd w w.heap.size v l)(hi:i≤100)(hl:(raw l i).size≤350) :
  Calls Tryz.prog 55 #[v,.int .i64 (i:Int),.int .i64 x] w fun e w'=>e=.returned (.tuple #[.int .i64 (qbi (trm (raw l i)) x).n,.int .i64 (qbi (trm (raw l i)) x).e])∧Below w.heap.size w w':=by
 have HR:=hid (qao v l i w hv hi hl)
 obtain⟨A,c,rfl,hlc,hcm,hcell⟩:=hv.ex
 have h0:=qbd (raw l i)
 obtain⟨T,hT⟩ : ∃ T,trm (raw l i)=T:=⟨_,rfl⟩
 rw[hT] at HR h0 ⊢
 clear hv hcell hT
 have HP:=hid (fun w=>Nu.qd5 T w (by omega))
 have hd:=qhy T
 obtain⟨n,d,ee,hp⟩ : ∃ n d ee,Nu.parse T.data.toList=⟨n,d,ee⟩:=⟨_,_,_,rfl⟩
 have hi:qbi T x=if T.size=0 then⟨x,0⟩ else if ee=0 then (if d=1 then⟨n,0⟩ else⟨0,7⟩) else⟨0,ee⟩:=by unfold qbi;rw[hp]
 rw[hi]
 rw[hp] at HP
 clear hp hi h0 hl
 by_cases hz:T.size=0
 ·rw[if_pos hz]
  rw[decide_eq_true hz] at hd
  clear hz
  go_enter Tryz.func55,Tryz.ntmps55
  go_wp2_with fail
  (with_reducible refine HR.out.mono ?_)
  rintro e w1⟨rfl,hb⟩
  go_wp2
  go_ret2
  exact⟨rfl,hb⟩
 ·rw[if_neg hz]
  rw[decide_eq_false hz] at hd
  clear hz
  by_cases he:ee=0
  ·subst he
   rw[if_pos rfl]
   by_cases h1:d=1
   ·subst h1
    rw[if_pos rfl]
    go_enter Tryz.func55,Tryz.ntmps55
    go_wp2_with fail
    (with_reducible refine HR.out.mono ?_)
    rintro e w1⟨rfl,hb⟩
    have HB:=hid hb
    clear hb
    go_wp2_with fail
    (with_reducible refine(HP.out _).mono ?_)
    rintro e w2⟨rfl,hb2⟩
    have HB2:=hid (HB.out.trans (hb2.mono HB.out.size))
    clear hb2
    go_wp2
    go_ret2
    exact⟨rfl,HB2.out.alloc HB2.out.size _⟩
   ·rw[if_neg h1]
    have h2:(d != 1)=true:=by rw[bne_iff_ne];exact h1
    clear h1
    go_enter Tryz.func55,Tryz.ntmps55
    go_wp2_with fail
    (with_reducible refine HR.out.mono ?_)
    rintro e w1⟨rfl,hb⟩
    have HB:=hid hb
    clear hb
    go_wp2_with fail
    (with_reducible refine(HP.out _).mono ?_)
    rintro e w2⟨rfl,hb2⟩
    have HB2:=hid (HB.out.trans (hb2.mono HB.out.size))
    clear hb2
    go_wp2
    go_ret2
    exact⟨rfl,HB2.out.alloc HB2.out.size _⟩
  ·rw[if_neg he]
   have h2:(ee != 0)=true:=by rw[bne_iff_ne];exact he
   clear he
   go_enter Tryz.func55,Tryz.ntmps55
   go_wp2_with fail
   (with_reducible refine HR.out.mono ?_)
   rintro e w1⟨rfl,hb⟩
   have HB:=hid hb
   clear hb
   go_wp2_with fail
   (with_reducible refine(HP.out _).mono ?_)
   rintro e w2⟨rfl,hb2⟩
   have HB2:=hid (HB.out.trans (hb2.mono HB.out.size))
   clear hb2
   go_wp2
   go_ret2
   exact⟨rfl,HB2.out.alloc HB2.out.size _⟩
theorem qau(s:BA)(E:Bool)(hE:s∈qdv→E=true)(hE2:(∀ x∈qdv,x≠s)→E=false)(w:World):Calls Tryz.prog 26 #[.string s] w fun e w'=>e=.returned (.bool E)∧Below w.heap.size w w':=by
 have HE:=hid (And.intro hE hE2)
 clear hE hE2
 go_enter Tryz.func26,Tryz.ntmps26
 go_wp2_with fail
 refine(qfk _).mono ?_
 rintro e w1⟨g,rfl,hR,hb⟩
 obtain⟨A,c,hA,_,_,hcell⟩:=hR.ex
 have HB:=hid hb
 have HC:Hid (∀ (i:Nat) (x:BA),qdv[i]? = some x→w1.cell? ⟨g,i,none⟩=some (.string x)):=by
  obtain⟨g',o,hA2,_,hc⟩:=hcell (by rw[qck];omega)
  injection hA with hA3
  rw[hA2] at hA3
  injection hA3 with hA4
  injection hA4 with h5 h6 h7
  subst h5 h6
  exact hid (fun i x hx=>by have:=hc i x hx;rwa [Nat.zero_add] at this)
 clear hR hb hA hcell
 go_wp2_with fail
 go_loop [4] (fun i => ∃ k:Nat,i=.int .i64 (k:Int)∧k≤17∧Hid (∀ j x,j<k→qdv[j]? = some x→x≠s)) (fun i=>17-(intOf i).toNat)
 case atStart=>exact⟨0,by go_num,Nat.zero_le _,hid (fun j s hj=>absurd hj (by omega))⟩
 case round =>
  obtain⟨k,rfl,hk,HS⟩:=hrel
  by_cases hlt:k<17
  ·have hki:(k:Int)<17:=by omega
   have hkl:k<qdv.length:=by rw[qck];exact hlt
   have c0:=HC.out k qdv[k] (List.getElem?_eq_getElem hkl)
   have HM:=hid (List.getElem_mem hkl)
   have HG:=hid (List.getElem?_eq_getElem hkl)
   generalize qdv[k]=S at c0 HM HG
   have hq:=qjt S s
   by_cases hS:S=s
   ·rw[decide_eq_true hS] at hq
    have HE2:Hid (E=true):=hid (HE.out.1 (by rw[←hS];exact HM.out))
    clear hS
    go_wp2
    go_ret
    exact⟨by rw[HE2.out];rfl,HB.out⟩
   ·rw[decide_eq_false hS] at hq
    have HN:=hid hS
    clear hS
    go_wp2
    go_round
    case rel=>exact⟨k+1,by go_num,by omega,hid (fun j x hj hx=>by
     by_cases e:j=k
     ·subst e;rw[HG.out] at hx;cases hx;exact HN.out
     ·exact HS.out j x (by omega) hx)⟩
    case measure=>simp[intOf];omega
  ·have hki : ¬ (k:Int)<17:=by omega
   have HE2:Hid (E=false):=hid (HE.out.2 (fun x hm=>by
    obtain⟨j,hj,rfl⟩:=List.getElem_of_mem hm
    rw[qck] at hj
    exact HS.out j _ (by omega) (List.getElem?_eq_getElem (by rw[qck];exact hj))))
   go_wp2
   go_ret
   exact⟨by rw[HE2.out];rfl,HB.out⟩
end Go.Proofs.YtldkgbnmaefaaaaGreatDoor.Fu
