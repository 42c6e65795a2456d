import Derived.Test.YtldkgbnmaefaaaaGreatDoorNuG3
import Derived.Deep.RegionHeld
import Derived.BigQuiet
import Derived.Test.YtldkgbnmaefaaaaGreatDoorNuG1
import Derived.Laws.RangeAny
import Derived.Lib.DecodeN
import Derived.Lib.OthersKept
import Derived.Lib.IndexMore
import Derived.Lib.Strings
import Derived.Test.YtldkgbnmaefaaaaGreatDoorNuG2
set_option maxRecDepth 100000
set_option maxHeartbeats 4000000
open Go.Lib (hid)
namespace Go.Proofs.YtldkgbnmaefaaaaGreatDoor.Nu
open Go.RowKit
structure Nm (W:World) (b:Nat) (n d:Int):Prop where
 c0:W.cell? ⟨b,0,none⟩=some (.int .i64 n)
 c1:W.cell? ⟨b,1,none⟩=some (.int .i64 d)
theorem Nm.lt{W:World}{b:Nat}{n d:Int}(h:Nm W b n d):b<W.heap.size:=qb5 h.c0
theorem Nm.past0{W W':World}{b:Nat}{n d:Int}(h:Nm W b n d)(hb:Below W.heap.size W W'):Nm W' b n d :=
 ⟨(hb.cell (p:=⟨b,0,none⟩) h.lt).trans h.c0,(hb.cell (p:=⟨b,1,none⟩) h.lt).trans h.c1⟩
def box(n d:Int):Obj := .cells #[.int .i64 n,.int .i64 d] 63
theorem Nm.new(W:World)(n d:Int):Nm (W.alloc (box n d)) W.heap.size n d:=⟨qdy W _ _ 0 _ rfl,qdy W _ _ 1 _ rfl⟩
theorem Nm.old{W:World}{b:Nat}{n d:Int}(h:Nm W b n d)(o:Obj):Nm (W.alloc o) b n d:=h.past0 ((Below.refl _ _).alloc (Nat.le_refl _) o)
theorem Nm.far{W:World}{b c:Nat}{n d:Int}(h:Nm W b n d)(hc:b<c)(u v:Value):Nm ((W.setCell ⟨c,0,none⟩ u).setCell ⟨c,1,none⟩ v) b n d :=
 have hB:=((Below.refl c W).setCell (p:=⟨c,0,none⟩) (Nat.le_refl _) u).setCell (p:=⟨c,1,none⟩) (Nat.le_refl _) v
 ⟨(hB.cell (p:=⟨b,0,none⟩) hc).trans h.c0,(hB.cell (p:=⟨b,1,none⟩) hc).trans h.c1⟩
theorem qnb{w W:World}{c:Nat}(h:Below w.heap.size w W)(hc:w.heap.size≤c)(u v:Value):Below w.heap.size w ((W.setCell ⟨c,0,none⟩ u).setCell ⟨c,1,none⟩ v):=(h.setCell (p:=⟨c,0,none⟩) hc u).setCell (p:=⟨c,1,none⟩) hc v
structure Hk (w:World) (l:List (Nat×Int×Int)) (W:World):Prop where
 nm : ∀ x∈l,Nm W x.1 x.2.1 x.2.2
 tb:Tb W
 bl:Below w.heap.size w W
theorem Hk.below{w W W':World}{l:List (Nat×Int×Int)}(h:Hk w l W)(hb:Below W.heap.size W W'):Hk w l W':=⟨fun x hx=>(h.nm x hx).past0 hb,h.tb.below hb,h.bl.trans (hb.mono h.bl.size)⟩
theorem Hk.drew{w W:World}{l:List (Nat×Int×Int)}(h:Hk w l W):Hk w l W.drew:=h.below (below_drewN (Below.refl _ _) 1)
theorem Hk.one{w W:World}{a:Nat}{p q:Int}(h:Hk w [(a,p,q)] W):W.cell? ⟨a,0,none⟩=some (.int .i64 p)∧W.cell? ⟨a,1,none⟩=some (.int .i64 q)∧Hk w [(a,p,q)] W :=
 have h1:=h.nm (a,p,q) (by simp)
 ⟨h1.c0,h1.c1,h⟩
theorem Hk.three{w W:World}{a b c:Nat}{p q r s t u:Int}(h:Hk w [(a,p,q),(b,r,s),(c,t,u)] W):W.cell? ⟨a,0,none⟩=some (.int .i64 p)∧W.cell? ⟨a,1,none⟩=some (.int .i64 q)∧W.cell? ⟨b,0,none⟩=some (.int .i64 r)∧W.cell? ⟨b,1,none⟩=some (.int .i64 s)∧W.cell? ⟨c,0,none⟩=some (.int .i64 t)∧W.cell? ⟨c,1,none⟩=some (.int .i64 u)∧Hk w [(a,p,q),(b,r,s),(c,t,u)] W :=
 have h1:=h.nm (a,p,q) (by simp);have h2:=h.nm (b,r,s) (by simp);have h3:=h.nm (c,t,u) (by simp)
 ⟨h1.c0,h1.c1,h2.c0,h2.c1,h3.c0,h3.c1,h⟩
theorem Hk.four{w W:World}{a b c d:Nat}{p q r s t u x y:Int}(h:Hk w [(a,p,q),(b,r,s),(c,t,u),(d,x,y)] W):W.cell? ⟨a,0,none⟩=some (.int .i64 p)∧W.cell? ⟨a,1,none⟩=some (.int .i64 q)∧W.cell? ⟨b,0,none⟩=some (.int .i64 r)∧W.cell? ⟨b,1,none⟩=some (.int .i64 s)∧W.cell? ⟨c,0,none⟩=some (.int .i64 t)∧W.cell? ⟨c,1,none⟩=some (.int .i64 u)∧W.cell? ⟨d,0,none⟩=some (.int .i64 x)∧W.cell? ⟨d,1,none⟩=some (.int .i64 y)∧Hk w [(a,p,q),(b,r,s),(c,t,u),(d,x,y)] W :=
 have h1:=h.nm (a,p,q) (by simp);have h2:=h.nm (b,r,s) (by simp);have h3:=h.nm (c,t,u) (by simp);have h4:=h.nm (d,x,y) (by simp)
 ⟨h1.c0,h1.c1,h2.c0,h2.c1,h3.c0,h3.c1,h4.c0,h4.c1,h⟩
def Cl(f:FuncId)(args:Array Value)(v:Value):Prop := ∀ w:World,Calls Tryz.prog f args w fun e w'=>e=.returned v∧Below w.heap.size w w'
theorem Cl.hk{f:FuncId}{args:Array Value}{v:Value}{w W:World}{l:List (Nat×Int×Int)}(h:Cl f args v)(hk:Hk w l W):Calls Tryz.prog f args W fun e w'=>e=.returned v∧Hk w l w' :=
 (h W).mono fun _ _ ⟨he,hb⟩=>⟨he,hk.below hb⟩
theorem qby{P:Program}{C:World→Prop}{a:Act}{l:List Oper}{id:Nat}{R:Exit→Act→World→Prop}{w:World}(hm:P.follows .mixedOrders=true)(hB:Region.lexB .any l.toArray=true)(hC:C w.drew)
  (h:wpQuiet P l.toArray C (fun a' => ∀ w',C w'→R .normal a' w') l a):(Code.region id l.toArray true).wp P R a w :=
 wp_region_quiet (C:=C) hm hB hC (by simpa using h)
def num(n d:Int):Value := .agg #[.int .i64 n,.int .i64 d]
end Go.Proofs.YtldkgbnmaefaaaaGreatDoor.Nu
namespace Go.Proofs.YtldkgbnmaefaaaaGreatDoor.Nu
open Go.RowKit
theorem Nm.set{W:World}{b:Nat}{n d:Int}(h:Nm W b n d)(p q:Int):Nm ((W.setCell ⟨b,0,none⟩ (.int .i64 p)).setCell ⟨b,1,none⟩ (.int .i64 q)) b p q:=by
 have e0:=World.cell?_setCell_same W ⟨b,0,none⟩ (.int .i64 p) h.c0
 have e1:(W.setCell ⟨b,0,none⟩ (.int .i64 p)).cell? ⟨b,1,none⟩=some (.int .i64 d):=(World.cell?_setCell_other W ⟨b,0,none⟩ ⟨b,1,none⟩ (.int .i64 p) (by simp)).trans h.c1
 exact⟨(World.cell?_setCell_other (W.setCell ⟨b,0,none⟩ (.int .i64 p)) ⟨b,1,none⟩ ⟨b,0,none⟩ (.int .i64 q) (by simp)).trans e0,World.cell?_setCell_same _ ⟨b,1,none⟩ (.int .i64 q) e1⟩
end Go.Proofs.YtldkgbnmaefaaaaGreatDoor.Nu
namespace Go.Proofs.YtldkgbnmaefaaaaGreatDoor.Nu
open Go.RowKit
theorem iterPos_of{W:World}{k p:Nat}{s:ByteArray}(h:W.heap[k]? = some (.stringIter s p)):W.iterPos k=p:=by simp[World.iterPos,h]
theorem below_iterAt{w W:World}(h:Below w.heap.size w W)(s:ByteArray)(pos:Nat):Below w.heap.size w (W.iterAt w.heap.size s pos) :=
 ⟨h.os,h.tape,h.output,by show w.heap.size≤(W.heap.setIfInBounds _ _).size;rw[Array.size_setIfInBounds];exact h.size,fun k hk=>by
  show(W.heap.setIfInBounds w.heap.size (.stringIter s pos))[k]? = _
  rw[Array.getElem?_setIfInBounds_ne (by omega)];exact h.block k hk⟩
theorem q5c{l:List UInt8}{p:Nat}{x:UInt8}(h:(l.take p).all isD=true)(hx:l[p]? = some x)(hd:isD x=true):(l.take (p+1)).all isD=true:=by
 rw[List.take_add_one,hx,List.all_append,h]
 simp[hd]
theorem qus{l:List UInt8}{p:Nat}{x:UInt8}(hx:l[p]? = some x)(hd:isD x=false):l.all isD=false:=by
 rw[Bool.eq_false_iff]
 intro h
 have:=List.all_eq_true.1 h x (List.mem_of_getElem? hx)
 rw[hd] at this
 cases this
theorem qob{l:List UInt8}(h : ¬ (1≤l.length∧l.length≤9)):adB l=false:=by unfold adB;rw[decide_eq_false h];rfl
theorem qqa{l:List UInt8}(h:1≤l.length∧l.length≤9):adB l=l.all isD:=by unfold adB;rw[decide_eq_true h];rfl
theorem qcp(s:ByteArray)(w:World):Calls Tryz.prog 204 #[.string s] w fun e w'=>e=.returned (.bool (adB s.data.toList))∧Below w.heap.size w w':=by
 have hsz:=Lib.size_eq s
 by_cases h1:s.size<1
 ·have HA:=hid (qob (l:=s.data.toList) (by omega))
  have h1':decide ((s.size:Int)<1)=true:=decide_eq_true (by omega)
  clear hsz h1
  go_enter Tryz.func204,Tryz.ntmps204
  go_wp2
  go_ret
  exact⟨by rw[HA.out];rfl,Below.refl _ _⟩
 ·have h1':decide ((s.size:Int)<1)=false:=decide_eq_false (by omega)
  by_cases h2:9<s.size
  ·have HA:=hid (qob (l:=s.data.toList) (by omega))
   have h2':decide ((9:Int)<(s.size:Int))=true:=decide_eq_true (by omega)
   clear hsz h1 h2
   go_enter Tryz.func204,Tryz.ntmps204
   go_wp2
   go_ret
   exact⟨by rw[HA.out];rfl,Below.refl _ _⟩
  ·have h2':decide ((9:Int)<(s.size:Int))=false:=decide_eq_false (by omega)
   have HA:=hid (qqa (l:=s.data.toList) (by omega))
   have HZ:=hid hsz
   clear hsz h1 h2
   go_enter Tryz.func204,Tryz.ntmps204
   go_wp2
   go_loopw [4] (fun _ wr => ∃ pos:Nat,pos≤s.size∧Hid (wr.heap[w.heap.size]? = some (.stringIter s pos))∧Hid (Below w.heap.size w wr)∧Hid ((s.data.toList.take pos).all isD=true)) (fun _ wr=>s.size-wr.iterPos w.heap.size)
   case atStart=>exact⟨0,Nat.zero_le _,hid (World.iter_heap w s 0),hid ((Below.refl _ _).alloc (Nat.le_refl _) _),hid rfl⟩
   case round =>
    obtain⟨pos,hp,HT,HB,HN⟩:=hrel
    have HP:=hid (iterPos_of HT.out)
    by_cases hlt:pos<s.size
    ·obtain⟨x,hx⟩ : ∃ x:UInt8,s[pos]'hlt=x:=⟨_,rfl⟩
     have hxl:s.data.toList[pos]? = some x:=by rw[←hx];exact Lib.data_getElem? s pos hlt
     by_cases h128:x.toNat<128
     ·have hnx:=fun ty=>Lib.run_next_ascii_at (P:=Tryz.prog) wr w.heap.size s pos ty HT.out hlt (by rw[hx];exact h128)
      rw[hx] at hnx
      have HB2:=hid (below_iterAt HB.out s (pos+1))
      have HT2:=hid (Lib.iterAt_heap wr w.heap.size s pos (pos+1) HT.out)
      by_cases hd:isD x=true
      ·have hd2:48≤x.toNat∧x.toNat≤57:=of_decide_eq_true hd
       have d1:decide ((x.toNat:Int)<48)=false:=decide_eq_false (by omega)
       have d2:decide ((57:Int)<(x.toNat:Int))=false:=decide_eq_false (by omega)
       have HN2:=hid (q5c HN.out hxl hd)
       clear hxl hx hd hd2
       go_wp2
       go_roundw
       case rel=>exact⟨pos+1,by omega,HT2,HB2,HN2⟩
       case measure=>rw[iterPos_of HT2.out,HP.out];omega
      ·have hd2 : ¬ (48≤x.toNat∧x.toNat≤57):=fun hh=>hd (decide_eq_true hh)
       have HN2:=hid (qus hxl (Bool.eq_false_iff.2 hd))
       clear hxl hx hd
       by_cases hl:x.toNat<48
       ·have d1:decide ((x.toNat:Int)<48)=true:=decide_eq_true (by omega)
        clear hd2 hl
        go_wp2
        go_ret
        exact⟨by rw[HA.out,HN2.out];rfl,HB2.out⟩
       ·have d1:decide ((x.toNat:Int)<48)=false:=decide_eq_false (by omega)
        have d2:decide ((57:Int)<(x.toNat:Int))=true:=decide_eq_true (by omega)
        clear hd2 hl
        go_wp2
        go_ret
        exact⟨by rw[HA.out,HN2.out];rfl,HB2.out⟩
     ·have hnx:=fun ty=>Lib.run_next_any_at (P:=Tryz.prog) wr w.heap.size s pos ty HT.out hlt
      have hh:=(decode_high s pos hlt (by rw[hx];omega)).1
      obtain⟨D,hD⟩ : ∃ D,D=Utf8.decode s pos:=⟨_,rfl⟩
      rw[←hD] at hnx hh
      have HB2:=hid (below_iterAt HB.out s (pos+D.2))
      have HN2:=hid (qus hxl (decide_eq_false (by omega : ¬ (48≤x.toNat∧x.toNat≤57))))
      have d1:decide ((D.1:Int)<48)=false:=decide_eq_false (by omega)
      have d2:decide ((57:Int)<(D.1:Int))=true:=decide_eq_true (by omega)
      clear hxl hx hD hh h128
      go_wp2
      go_ret
      exact⟨by rw[HA.out,HN2.out];rfl,HB2.out⟩
    ·obtain rfl:pos=s.size:=by omega
     have hnx:=fun ty=>Lib.run_next_end_at (P:=Tryz.prog) wr w.heap.size s s.size ty HT.out hlt
     go_wp2
     go_ret
     have hN:s.data.toList.all isD=true:=by
      have:=HN.out
      rwa [List.take_of_length_le (by rw[←HZ.out];exact Nat.le_refl _)] at this
     exact⟨by rw[HA.out,hN];rfl,HB.out⟩
theorem qol{s:ByteArray}(h:s.data.toList.isEmpty=true):s.toList.isEmpty=true:=by rw[Lib.toList_data];exact h
theorem qhz{s:ByteArray}(h:s.data.toList.isEmpty=false):s.toList.isEmpty=false:=by rw[Lib.toList_data];exact h
theorem qdm(a b:ByteArray)(pt:Bool)(w:World):Calls Tryz.prog 142 #[.string a,.string b,.bool pt] w fun e w'=>e=.returned (.bool (idB a.data.toList b.data.toList pt))∧Below w.heap.size w w':=by
 cases pt
 ·have HI:Hid (idB a.data.toList b.data.toList false=adB a.data.toList):=hid rfl
  go_enter Tryz.func142,Tryz.ntmps142
  go_wp2_with fail
  refine(qcp a w).mono ?_
  rintro e w1⟨rfl,hb⟩
  go_wp2_with fail
  go_ret
  exact⟨by rw[HI.out];rfl,hb⟩
 ·cases he:a.data.toList.isEmpty
  ·have h0:=qhz he
   cases hd:adB a.data.toList
   ·have HI:Hid (idB a.data.toList b.data.toList true=false):=hid (by unfold idB;rw[he,hd];rfl)
    have HA:=hid (qcp a w)
    rw[hd] at HA
    clear hd he
    go_enter Tryz.func142,Tryz.ntmps142
    go_wp2_with fail
    refine HA.out.mono ?_
    rintro e w1⟨rfl,hb⟩
    go_wp2_with fail
    go_ret
    exact⟨by rw[HI.out];rfl,hb⟩
   ·have HI:Hid (idB a.data.toList b.data.toList true=adB b.data.toList):=hid (by unfold idB;rw[he,hd];simp)
    have HA:=hid (qcp a w)
    rw[hd] at HA
    clear hd he
    go_enter Tryz.func142,Tryz.ntmps142
    go_wp2_with fail
    refine HA.out.mono ?_
    rintro e w1⟨rfl,hb⟩
    have HB:=hid hb
    clear hb HA
    go_wp2_with fail
    refine(qcp b w1).mono ?_
    rintro e w2⟨rfl,hb⟩
    have HB2:=hid (HB.out.trans (hb.mono HB.out.size))
    clear hb
    go_wp2_with fail
    go_ret
    exact⟨by rw[HI.out];rfl,HB2.out⟩
  ·have h0:=qol he
   have HI:Hid (idB a.data.toList b.data.toList true=adB b.data.toList):=hid (by unfold idB;rw[he];simp)
   clear he
   go_enter Tryz.func142,Tryz.ntmps142
   go_wp2_with fail
   refine(qcp b w).mono ?_
   rintro e w1⟨rfl,hb⟩
   go_wp2_with fail
   go_ret
   exact⟨by rw[HI.out];rfl,hb⟩
end Go.Proofs.YtldkgbnmaefaaaaGreatDoor.Nu
namespace Go.Proofs.YtldkgbnmaefaaaaGreatDoor.Nu
theorem qok : ∀ l:List UInt8,Lib.cut l [46]=cut l
 | []=>rfl
 |b :: l=>by
  have ih:=qok l
  have hg:=Lib.index_ge l [46]
  by_cases hb:b=46
  ·subst hb
   have hI:Lib.index (46 :: l) [46]=0:=by rw[Lib.index,if_pos (by simp[List.isPrefixOf])]
   unfold Lib.cut cut
   rw[hI,if_pos (by decide),if_pos rfl]
   rfl
  ·have hp:List.isPrefixOf [46] (b :: l)=false:=by
    simp only[List.isPrefixOf,Bool.and_true]
    exact beq_eq_false_iff_ne.2 fun h=>hb h.symm
   have hI:Lib.index (b :: l) [46]=if Lib.index l [46] = -1 then -1 else Lib.index l [46]+1:=by
    rw[Lib.index,hp]
    by_cases hi:Lib.index l [46] = -1
    ·rw[if_pos hi,hi];rfl
    ·rw[if_neg hi,if_neg Bool.false_ne_true,if_neg (fun h=>hi (beq_iff_eq.1 h))]
   unfold Lib.cut at ih ⊢
   unfold cut
   rw[if_neg hb,hI]
   by_cases hi:Lib.index l [46] = -1
   ·rw[if_neg (by omega)] at ih
    rw[if_pos hi,if_neg (by omega),←ih]
   ·rw[if_pos (by omega)] at ih
    rw[if_neg hi,if_pos (by omega),←ih]
    have e:(Lib.index l [46]+1).toNat=(Lib.index l [46]).toNat+1:=by omega
    rw[e,Nat.add_right_comm]
    rfl
theorem ql4(l:List UInt8)(c:UInt8):Lib.hasPrefix l [c]=true↔l.head? = some c:=by
 unfold Lib.hasPrefix
 cases l with
 |nil=>simp[List.isPrefixOf]
 |cons b l =>
  simp only[List.isPrefixOf,Bool.and_true,beq_iff_eq,List.head?_cons,Option.some.injEq]
  exact eq_comm
theorem qvm{l:List UInt8}(h:Lib.hasPrefix l [45]=true):parse l=qaf true (Lib.trimPrefix l [45]):=by
 unfold parse Lib.trimPrefix
 rw[if_pos ((ql4 l 45).1 h),if_pos h]
 rfl
theorem qvn{l:List UInt8}(h:Lib.hasPrefix l [45]=false):parse l=qaf false (Lib.trimPrefix l [43]):=by
 unfold parse Lib.trimPrefix
 rw[if_neg (fun e=>by rw[(ql4 l 45).2 e] at h;cases h)]
 by_cases hp:Lib.hasPrefix l [43]=true
 ·rw[if_pos hp,if_pos ((ql4 l 43).1 hp)]
  rfl
 ·rw[if_neg hp,if_neg (fun e=>hp ((ql4 l 43).2 e))]
theorem qnh : ∀ {l:List UInt8},(cut l).2.2=false→(cut l).2.1=[]
 | [],_=>rfl
 |b :: l,h=>by
  unfold cut at h ⊢
  split at h
  ·cases h
  ·rename_i hb
   rw[if_neg hb]
   exact qnh (l:=l) h
theorem qkc{l:List UInt8}(h:adB l=true):l.all isD=true∧l.length≤9:=by
 unfold adB at h
 rw[Bool.and_eq_true,decide_eq_true_iff] at h
 exact⟨h.2,h.1.2⟩
theorem xax{l:List UInt8}(h:idB (cut l).1 (cut l).2.1 (cut l).2.2=true):((cut l).1++(cut l).2.1).all isD=true∧(cut l).1.length≤9∧(cut l).2.1.length≤9:=by
 unfold idB at h
 cases hp:(cut l).2.2
 ·rw[hp] at h
  rw[qnh hp,List.append_nil]
  have h2:=qkc h
  exact⟨h2.1,h2.2,Nat.zero_le _⟩
 ·rw[hp,if_pos rfl,Bool.and_eq_true,Bool.or_eq_true] at h
  obtain⟨h1,h2⟩:=h
  have k2:=qkc h2
  rw[List.all_append]
  rcases h1 with h1 | h1
  ·rw[List.isEmpty_iff.1 h1]
   exact⟨by rw[k2.1];rfl,Nat.zero_le _,k2.2⟩
  ·have k1:=qkc h1
   exact⟨by rw[k1.1,k2.1];rfl,k1.2,k2.2⟩
theorem qkz : ∀ (l:List UInt8) (a:Nat),l.all isD=true→qbw a l<(a+1)*10^l.length
 | [],a,_=>by simp[qbw]
 |x :: l,a,h=>by
  rw[List.all_cons,Bool.and_eq_true] at h
  have hx:48≤x.toNat∧x.toNat≤57:=of_decide_eq_true h.1
  have ih:=qkz l (10*a+(x.toNat-48)) h.2
  have e:qbw a (x :: l)=qbw (10*a+(x.toNat-48)) l:=rfl
  rw[e,List.length_cons,Nat.pow_succ,Nat.mul_comm (10^l.length) 10,←Nat.mul_assoc]
  exact Nat.lt_of_lt_of_le ih (Nat.mul_le_mul_right _ (by omega))
theorem qxg{l:List UInt8}(h:l.all isD=true):val l<10^l.length:=by
 have:=qkz l 0 h
 rwa [Nat.zero_add,Nat.one_mul] at this
theorem qyg{l:List UInt8}(h:l.all isD=true)(p:Nat):(l.take p).all isD=true:=by
 rw[List.all_eq_true] at h ⊢
 exact fun x hx=>h x (List.mem_of_mem_take hx)
theorem qmu{l:List UInt8}{p:Nat}{x:UInt8}(hx:l[p]? = some x):val (l.take (p+1))=10*val (l.take p)+(x.toNat-48):=by
 rw[List.take_add_one,hx]
 unfold val
 rw[qcj]
 rfl
theorem qgb{l:List UInt8}(h:l.all isD=true){p:Nat}(hp:p≤17):val (l.take p)<100000000000000000:=by
 have h1:=qxg (qyg h p)
 have h2:(l.take p).length≤17:=by rw[List.length_take];omega
 have h3:10^(l.take p).length≤10^17:=Nat.pow_le_pow_right (by decide) h2
 have h4:(10:Nat)^17=100000000000000000:=by decide
 omega
theorem qn1{l:List UInt8}(h:l.all isD=true)(hl:l.length≤18):val l<1000000000000000000:=by
 have h1:=qxg h
 have h3:10^l.length≤10^18:=Nat.pow_le_pow_right (by decide) hl
 have h4:(10:Nat)^18=1000000000000000000:=by decide
 omega
end Go.Proofs.YtldkgbnmaefaaaaGreatDoor.Nu
namespace Go.Proofs.YtldkgbnmaefaaaaGreatDoor.Nu
open Go.RowKit
set_option linter.unusedVariables false
theorem qqd(a b:ByteArray):(a++b).data.toList=a.data.toList++b.data.toList:=by simp
theorem qke{w W:World}{B:Nat}(h:Below B w W)(k:Nat)(hk:B≤k)(s:ByteArray)(pos:Nat):Below B w (W.iterAt k s pos) :=
 ⟨h.os,h.tape,h.output,by rw[Lib.iterAt_size];exact h.size,fun j hj=>by
  show(W.heap.setIfInBounds k (.stringIter s pos))[j]? = _
  rw[Array.getElem?_setIfInBounds_ne (by omega)];exact h.block j hj⟩
theorem qwz{v y:Nat}(hv:v<100000000000000000)(hy:y≤9):IntKind.i64.wrap (10*(v:Int))=10*(v:Int)∧IntKind.i64.wrap (10*(v:Int)+(y:Int))=((10*v+y:Nat):Int)∧IntKind.i64.wrap (y:Int)=(y:Int):=by
 refine⟨IntWalk.i64_in _ (by omega),?_,IntWalk.i64_in _ (by omega)⟩
 rw[IntWalk.i64_in _ (by omega)]
 omega
theorem qwy{x:UInt8}{y:Nat}(hx:isD x=true)(hy:x.toNat-48=y):IntKind.i32.wrap ((x.toNat:Int)-48)=(y:Int)∧y≤9∧x.toNat<128:=by
 have h:48≤x.toNat∧x.toNat≤57:=of_decide_eq_true hx
 refine⟨?_,by omega,by omega⟩
 rw[IntWalk.i32_in _ (by omega)]
 omega
theorem qlg{l:List UInt8}{p:Nat}{x:UInt8}(h:l.all isD=true)(hx:l[p]? = some x):isD x=true:=List.all_eq_true.1 h x (List.mem_of_getElem? hx)
theorem qxt(s r:ByteArray)(w:World)(ht:Tb w)(hs:s.size≤1000)(hr:r.size≤1000)(hp:Lib.hasPrefix s.data.toList [45]=true)(er:r.data.toList=Lib.trimPrefix s.data.toList [45]) :
  Calls Tryz.prog 88 #[.string s] w fun e w'=>e=.returned (.tuple #[.agg #[.int .i64 (qaf true r.data.toList).n,.int .i64 (qaf true r.data.toList).d],.int .i64 (qaf true r.data.toList).e])∧Below w.heap.size w w':=by
 have HW:Hid (Below w.heap.size w (w.alloc (.cells #[.int .i64 0,.int .i64 0] 63))):=hid ((Below.refl _ _).alloc (Nat.le_refl _) _)
 have HT:=hid (ht.below HW.out)
 have h1:=Tryz.strings_CutPrefix s ⟨#[45]⟩ (w.alloc (.cells #[.int .i64 0,.int .i64 0] 63))
 have e1:(⟨(Lib.trimPrefix s.data.toList (⟨#[45]⟩:ByteArray).data.toList).toArray⟩:ByteArray)=r:=by
  show(⟨(Lib.trimPrefix s.data.toList [45]).toArray⟩:ByteArray)=r
  rw[←er]
 have e2:Lib.hasPrefix s.data.toList (⟨#[45]⟩:ByteArray).data.toList=true:=hp
 rw[e1,e2] at h1
 have H1:=hid h1
 clear h1 e1 e2 hp er
 obtain⟨m,hm⟩:=HT.out.ml
 have h3:=Tryz.strings_Cut r ⟨#[46]⟩ m (w.alloc (.cells #[.int .i64 0,.int .i64 0] 63)) (by omega) hm
 have e3:Lib.cut r.data.toList (⟨#[46]⟩:ByteArray).data.toList=cut r.data.toList:=qok _
 rw[e3] at h3
 clear hm e3
 have hpb:qaf true r.data.toList=if idB (cut r.data.toList).1 (cut r.data.toList).2.1 (cut r.data.toList).2.2 then fit (-(val ((cut r.data.toList).1++(cut r.data.toList).2.1):Int)) (pw (cut r.data.toList).2.1.length) else⟨0,0,1⟩:=rfl
 have hok:=xax (l:=r.data.toList)
 obtain⟨a,ea⟩ : ∃ a:ByteArray,(⟨(cut r.data.toList).1.toArray⟩:ByteArray)=a:=⟨_,rfl⟩
 obtain⟨b,eb⟩ : ∃ b:ByteArray,(⟨(cut r.data.toList).2.1.toArray⟩:ByteArray)=b:=⟨_,rfl⟩
 obtain⟨pt,ep⟩ : ∃ pt:Bool,(cut r.data.toList).2.2=pt:=⟨_,rfl⟩
 have la:(cut r.data.toList).1=a.data.toList:=by rw[←ea]
 have lb:(cut r.data.toList).2.1=b.data.toList:=by rw[←eb]
 rw[ea,eb,ep] at h3
 rw[la,lb,ep] at hpb hok
 have H3:=hid h3
 clear h3 ea eb ep la lb
 generalize hR:qaf true r.data.toList=R at *
 clear hR
 cases hI:idB a.data.toList b.data.toList pt
 ·rw[hI] at hpb
  have HR:Hid (R=⟨0,0,1⟩):=hid hpb
  have h4:=fun w=>qdm a b pt w
  rw[hI] at h4
  have H4:=hid h4
  clear h4 hpb hok hI
  go_enter Tryz.func88,Tryz.ntmps88
  go_wp2_with fail
  refine H1.out.mono ?_
  rintro e w'⟨rfl,rfl⟩
  clear H1
  go_wp2_with fail
  refine H3.out.mono ?_
  rintro e w2⟨rfl,n2,e2⟩
  have B2:Hid (Below (w.alloc (.cells #[.int .i64 0,.int .i64 0] 63)).heap.size (w.alloc (.cells #[.int .i64 0,.int .i64 0] 63)) w2):=hid (by rw[e2];exact below_drewN (Below.refl _ _) n2)
  clear H3 e2
  go_wp2_with fail
  refine(H4.out w2).mono ?_
  rintro e w3⟨rfl,hb⟩
  have B3:=hid (B2.out.trans (hb.mono B2.out.size))
  clear hb H4
  have b3:=B3.out
  obtain⟨hc,hf⟩:=qad b3
  have z0:=qg4 b3
  have HB:=hid (qap b3)
  clear b3
  go_wp2
  exact bodyPost_ret (v := .tuple #[.agg #[.int .i64 0,.int .i64 0],.int .i64 1]) (by simp[results,Tryz.results88,go_sem,hc]) rfl ⟨by rw[HR.out],qa2 HB.out _ _⟩
 ·rw[hI,if_pos rfl] at hpb
  obtain⟨hall,hla,hlb⟩:=hok hI
  rw[←qqd] at hall hpb
  have hsa:=Lib.size_eq a
  have hsb:=Lib.size_eq b
  obtain⟨t,et⟩ : ∃ t,a++b=t:=⟨_,rfl⟩
  have hts:t.size=a.size+b.size:=by rw[←et];exact ByteArray.size_append
  have htl:=Lib.size_eq t
  rw[et] at hall hpb
  have hv:=qn1 hall (by omega)
  obtain⟨p1,p2⟩:=qf7 (k:=b.size) (by omega)
  rw[←hsb] at hpb
  have ht18:t.size≤18:=by omega
  have hb9:b.size≤9:=by omega
  have HR:=hid hpb
  have HA:=hid hall
  have HTL:=hid htl
  have HV:=hid hv
  have HP1:=hid (And.intro p1 p2)
  have h4:=fun w=>qdm a b pt w
  rw[hI] at h4
  have H4:=hid h4
  have HF:=hid (fun w=>qe4 (-(val t.data.toList:Int)) (pw b.size) w (by omega) (by omega) (by omega))
  have HPW:=hid (fun w=>ql3 b.size w hb9)
  have hs1 : ∀ W,(Op.stringOp .add a b).run Tryz.prog W=.ok (.string t) W:=fun W=>by rw[←et];exact run_string_add_sum (P:=Tryz.prog) W a b (by omega)
  have HTS:=hid ht18
  clear h4 hpb hok hI hall hla hlb hsa hsb hts htl hv p1 p2 et hb9 ht18
  go_enter Tryz.func88,Tryz.ntmps88
  go_wp2_with fail
  refine H1.out.mono ?_
  rintro e w'⟨rfl,rfl⟩
  clear H1
  go_wp2_with fail
  refine H3.out.mono ?_
  rintro e w2⟨rfl,n2,e2⟩
  have B2:Hid (Below (w.alloc (.cells #[.int .i64 0,.int .i64 0] 63)).heap.size (w.alloc (.cells #[.int .i64 0,.int .i64 0] 63)) w2):=hid (by rw[e2];exact below_drewN (Below.refl _ _) n2)
  clear H3 e2
  go_wp2_with fail
  refine(H4.out w2).mono ?_
  rintro e w3⟨rfl,hb⟩
  have B3:=hid (B2.out.trans (hb.mono B2.out.size))
  clear hb H4
  go_wp2
  go_loopw [9,11] (fun u _ wr => ∃ pos v:Nat,pos≤t.size∧u=.int .i64 (v:Int)∧Hid (v=val (t.data.toList.take pos))∧Hid (wr.heap[w3.heap.size]? = some (.stringIter t pos))∧Hid (Below (w.alloc (.cells #[.int .i64 0,.int .i64 0] 63)).heap.size (w.alloc (.cells #[.int .i64 0,.int .i64 0] 63)) wr)) (fun _ _ wr=>t.size-wr.iterPos w3.heap.size)
  case atStart=>exact⟨0,0,Nat.zero_le _,rfl,hid rfl,hid (World.iter_heap w3 t 0),hid (B3.out.alloc B3.out.size _)⟩
  case round =>
   obtain⟨pos,v,hp,hu,HVP,HI,HB⟩:=hrel
   subst hu
   have HP:=hid (iterPos_of HI.out)
   by_cases hlt:pos<t.size
   ·obtain⟨x,hx⟩ : ∃ x:UInt8,t[pos]'hlt=x:=⟨_,rfl⟩
    have hxl:t.data.toList[pos]? = some x:=by rw[←hx];exact Lib.data_getElem? t pos hlt
    obtain⟨y,hy⟩ : ∃ y,x.toNat-48=y:=⟨_,rfl⟩
    obtain⟨f1,f2,f3⟩:=qwy (qlg HA.out hxl) hy
    have hv2:v<100000000000000000:=by rw[HVP.out];exact qgb HA.out (by have:=HTS.out;omega)
    obtain⟨g1,g2,g3⟩:=qwz hv2 f2
    have HV2:Hid (10*v+y=val (t.data.toList.take (pos+1))):=hid (by rw[qmu hxl,HVP.out,hy])
    have hnx:=fun ty=>Lib.run_next_ascii_at (P:=Tryz.prog) wr w3.heap.size t pos ty HI.out hlt (by rw[hx];exact f3)
    rw[hx] at hnx
    have HB2:=hid (qke HB.out w3.heap.size B3.out.size t (pos+1))
    have HI2:=hid (Lib.iterAt_heap wr w3.heap.size t pos (pos+1) HI.out)
    clear hxl hx hy f2 f3 hv2 HVP
    go_wp2
    go_roundw
    case rel=>exact⟨pos+1,10*v+y,by omega,rfl,HV2,HI2,HB2⟩
    case measure=>rw[iterPos_of HI2.out,HP.out];omega
   ·obtain rfl:pos=t.size:=by omega
    have hnx:=fun ty=>Lib.run_next_end_at (P:=Tryz.prog) wr w3.heap.size t t.size ty HI.out hlt
    have hv3:v=val t.data.toList:=by rw[HVP.out,List.take_of_length_le (by rw[←HTL.out];exact Nat.le_refl _)]
    have hv4:v<1000000000000000000:=by rw[hv3];exact HV.out
    have HF2:=HF
    rw[←hv3] at HF2
    have hR2:=HR.out
    rw[←hv3] at hR2
    have HR2:=hid hR2
    have g4:IntKind.i64.wrap (-(v:Int)) = -(v:Int):=IntWalk.i64_in _ (by omega)
    clear hv3 hR2 HF HR HVP HV hv4
    go_wp2_with fail
    refine(HPW.out _).mono ?_
    rintro e w'⟨rfl,rfl⟩
    go_wp2_with fail
    refine(HF2.out _).mono ?_
    rintro e w5⟨rfl,hb⟩
    have b5:=HB.out.trans (hb.mono HB.out.size)
    clear hb
    obtain⟨hc,hf⟩:=qad b5
    have z0:=qg4 b5
    have HB5:=hid (qap b5)
    clear b5
    go_wp2
    exact bodyPost_ret (v := .tuple #[.agg #[.int .i64 (fit (-(v:Int)) (pw b.size)).n,.int .i64 (fit (-(v:Int)) (pw b.size)).d],.int .i64 (fit (-(v:Int)) (pw b.size)).e]) (by simp[results,Tryz.results88,go_sem,hc]) rfl ⟨by rw[HR2.out],qa2 HB5.out _ _⟩
theorem qxu(s r:ByteArray)(w:World)(ht:Tb w)(hs:s.size≤1000)(hr:r.size≤1000)(hp:Lib.hasPrefix s.data.toList [45]=false)(er:r.data.toList=Lib.trimPrefix s.data.toList [43]) :
  Calls Tryz.prog 88 #[.string s] w fun e w'=>e=.returned (.tuple #[.agg #[.int .i64 (qaf false r.data.toList).n,.int .i64 (qaf false r.data.toList).d],.int .i64 (qaf false r.data.toList).e])∧Below w.heap.size w w':=by
 have HW:Hid (Below w.heap.size w (w.alloc (.cells #[.int .i64 0,.int .i64 0] 63))):=hid ((Below.refl _ _).alloc (Nat.le_refl _) _)
 have HT:=hid (ht.below HW.out)
 have h1:=Tryz.strings_CutPrefix s ⟨#[45]⟩ (w.alloc (.cells #[.int .i64 0,.int .i64 0] 63))
 have h2:=Tryz.strings_TrimPrefix s ⟨#[43]⟩ (w.alloc (.cells #[.int .i64 0,.int .i64 0] 63))
 have e1:(⟨(Lib.trimPrefix s.data.toList (⟨#[43]⟩:ByteArray).data.toList).toArray⟩:ByteArray)=r:=by
  show(⟨(Lib.trimPrefix s.data.toList [43]).toArray⟩:ByteArray)=r
  rw[←er]
 have e2:Lib.hasPrefix s.data.toList (⟨#[45]⟩:ByteArray).data.toList=false:=hp
 rw[e1] at h2
 rw[e2] at h1
 generalize(⟨(Lib.trimPrefix s.data.toList (⟨#[45]⟩:ByteArray).data.toList).toArray⟩:ByteArray)=junk at h1
 have H1:=hid h1
 have H2:=hid h2
 clear h1 h2 e1 e2 hp er
 obtain⟨m,hm⟩:=HT.out.ml
 have h3:=Tryz.strings_Cut r ⟨#[46]⟩ m (w.alloc (.cells #[.int .i64 0,.int .i64 0] 63)) (by omega) hm
 have e3:Lib.cut r.data.toList (⟨#[46]⟩:ByteArray).data.toList=cut r.data.toList:=qok _
 rw[e3] at h3
 clear hm e3
 have hpb:qaf false r.data.toList=if idB (cut r.data.toList).1 (cut r.data.toList).2.1 (cut r.data.toList).2.2 then fit (val ((cut r.data.toList).1++(cut r.data.toList).2.1):Int) (pw (cut r.data.toList).2.1.length) else⟨0,0,1⟩:=rfl
 have hok:=xax (l:=r.data.toList)
 obtain⟨a,ea⟩ : ∃ a:ByteArray,(⟨(cut r.data.toList).1.toArray⟩:ByteArray)=a:=⟨_,rfl⟩
 obtain⟨b,eb⟩ : ∃ b:ByteArray,(⟨(cut r.data.toList).2.1.toArray⟩:ByteArray)=b:=⟨_,rfl⟩
 obtain⟨pt,ep⟩ : ∃ pt:Bool,(cut r.data.toList).2.2=pt:=⟨_,rfl⟩
 have la:(cut r.data.toList).1=a.data.toList:=by rw[←ea]
 have lb:(cut r.data.toList).2.1=b.data.toList:=by rw[←eb]
 rw[ea,eb,ep] at h3
 rw[la,lb,ep] at hpb hok
 have H3:=hid h3
 clear h3 ea eb ep la lb
 generalize hR:qaf false r.data.toList=R at *
 clear hR
 cases hI:idB a.data.toList b.data.toList pt
 ·rw[hI] at hpb
  have HR:Hid (R=⟨0,0,1⟩):=hid hpb
  have h4:=fun w=>qdm a b pt w
  rw[hI] at h4
  have H4:=hid h4
  clear h4 hpb hok hI
  go_enter Tryz.func88,Tryz.ntmps88
  go_wp2_with fail
  refine H1.out.mono ?_
  rintro e w'⟨rfl,rfl⟩
  clear H1
  go_wp2_with fail
  refine H2.out.mono ?_
  rintro e w'⟨rfl,rfl⟩
  clear H2
  go_wp2_with fail
  refine H3.out.mono ?_
  rintro e w2⟨rfl,n2,e2⟩
  have B2:Hid (Below (w.alloc (.cells #[.int .i64 0,.int .i64 0] 63)).heap.size (w.alloc (.cells #[.int .i64 0,.int .i64 0] 63)) w2):=hid (by rw[e2];exact below_drewN (Below.refl _ _) n2)
  clear H3 e2
  go_wp2_with fail
  refine(H4.out w2).mono ?_
  rintro e w3⟨rfl,hb⟩
  have B3:=hid (B2.out.trans (hb.mono B2.out.size))
  clear hb H4
  have b3:=B3.out
  obtain⟨hc,hf⟩:=qad b3
  have z0:=qg4 b3
  have HB:=hid (qap b3)
  clear b3
  go_wp2
  exact bodyPost_ret (v := .tuple #[.agg #[.int .i64 0,.int .i64 0],.int .i64 1]) (by simp[results,Tryz.results88,go_sem,hc]) rfl ⟨by rw[HR.out],qa2 HB.out _ _⟩
 ·rw[hI,if_pos rfl] at hpb
  obtain⟨hall,hla,hlb⟩:=hok hI
  rw[←qqd] at hall hpb
  have hsa:=Lib.size_eq a
  have hsb:=Lib.size_eq b
  obtain⟨t,et⟩ : ∃ t,a++b=t:=⟨_,rfl⟩
  have hts:t.size=a.size+b.size:=by rw[←et];exact ByteArray.size_append
  have htl:=Lib.size_eq t
  rw[et] at hall hpb
  have hv:=qn1 hall (by omega)
  obtain⟨p1,p2⟩:=qf7 (k:=b.size) (by omega)
  rw[←hsb] at hpb
  have ht18:t.size≤18:=by omega
  have hb9:b.size≤9:=by omega
  have HR:=hid hpb
  have HA:=hid hall
  have HTL:=hid htl
  have HV:=hid hv
  have HP1:=hid (And.intro p1 p2)
  have h4:=fun w=>qdm a b pt w
  rw[hI] at h4
  have H4:=hid h4
  have HF:=hid (fun w=>qe4 (val t.data.toList:Int) (pw b.size) w (by omega) (by omega) (by omega))
  have HPW:=hid (fun w=>ql3 b.size w hb9)
  have hs1 : ∀ W,(Op.stringOp .add a b).run Tryz.prog W=.ok (.string t) W:=fun W=>by rw[←et];exact run_string_add_sum (P:=Tryz.prog) W a b (by omega)
  have HTS:=hid ht18
  clear h4 hpb hok hI hall hla hlb hsa hsb hts htl hv p1 p2 et hb9 ht18
  go_enter Tryz.func88,Tryz.ntmps88
  go_wp2_with fail
  refine H1.out.mono ?_
  rintro e w'⟨rfl,rfl⟩
  clear H1
  go_wp2_with fail
  refine H2.out.mono ?_
  rintro e w'⟨rfl,rfl⟩
  clear H2
  go_wp2_with fail
  refine H3.out.mono ?_
  rintro e w2⟨rfl,n2,e2⟩
  have B2:Hid (Below (w.alloc (.cells #[.int .i64 0,.int .i64 0] 63)).heap.size (w.alloc (.cells #[.int .i64 0,.int .i64 0] 63)) w2):=hid (by rw[e2];exact below_drewN (Below.refl _ _) n2)
  clear H3 e2
  go_wp2_with fail
  refine(H4.out w2).mono ?_
  rintro e w3⟨rfl,hb⟩
  have B3:=hid (B2.out.trans (hb.mono B2.out.size))
  clear hb H4
  go_wp2
  go_loopw [9,11] (fun u _ wr => ∃ pos v:Nat,pos≤t.size∧u=.int .i64 (v:Int)∧Hid (v=val (t.data.toList.take pos))∧Hid (wr.heap[w3.heap.size]? = some (.stringIter t pos))∧Hid (Below (w.alloc (.cells #[.int .i64 0,.int .i64 0] 63)).heap.size (w.alloc (.cells #[.int .i64 0,.int .i64 0] 63)) wr)) (fun _ _ wr=>t.size-wr.iterPos w3.heap.size)
  case atStart=>exact⟨0,0,Nat.zero_le _,rfl,hid rfl,hid (World.iter_heap w3 t 0),hid (B3.out.alloc B3.out.size _)⟩
  case round =>
   obtain⟨pos,v,hp,hu,HVP,HI,HB⟩:=hrel
   subst hu
   have HP:=hid (iterPos_of HI.out)
   by_cases hlt:pos<t.size
   ·obtain⟨x,hx⟩ : ∃ x:UInt8,t[pos]'hlt=x:=⟨_,rfl⟩
    have hxl:t.data.toList[pos]? = some x:=by rw[←hx];exact Lib.data_getElem? t pos hlt
    obtain⟨y,hy⟩ : ∃ y,x.toNat-48=y:=⟨_,rfl⟩
    obtain⟨f1,f2,f3⟩:=qwy (qlg HA.out hxl) hy
    have hv2:v<100000000000000000:=by rw[HVP.out];exact qgb HA.out (by have:=HTS.out;omega)
    obtain⟨g1,g2,g3⟩:=qwz hv2 f2
    have HV2:Hid (10*v+y=val (t.data.toList.take (pos+1))):=hid (by rw[qmu hxl,HVP.out,hy])
    have hnx:=fun ty=>Lib.run_next_ascii_at (P:=Tryz.prog) wr w3.heap.size t pos ty HI.out hlt (by rw[hx];exact f3)
    rw[hx] at hnx
    have HB2:=hid (qke HB.out w3.heap.size B3.out.size t (pos+1))
    have HI2:=hid (Lib.iterAt_heap wr w3.heap.size t pos (pos+1) HI.out)
    clear hxl hx hy f2 f3 hv2 HVP
    go_wp2
    go_roundw
    case rel=>exact⟨pos+1,10*v+y,by omega,rfl,HV2,HI2,HB2⟩
    case measure=>rw[iterPos_of HI2.out,HP.out];omega
   ·obtain rfl:pos=t.size:=by omega
    have hnx:=fun ty=>Lib.run_next_end_at (P:=Tryz.prog) wr w3.heap.size t t.size ty HI.out hlt
    have hv3:v=val t.data.toList:=by rw[HVP.out,List.take_of_length_le (by rw[←HTL.out];exact Nat.le_refl _)]
    have hv4:v<1000000000000000000:=by rw[hv3];exact HV.out
    have HF2:=HF
    rw[←hv3] at HF2
    have hR2:=HR.out
    rw[←hv3] at hR2
    have HR2:=hid hR2
    clear hv3 hR2 HF HR HVP HV hv4
    go_wp2_with fail
    refine(HPW.out _).mono ?_
    rintro e w'⟨rfl,rfl⟩
    go_wp2_with fail
    refine(HF2.out _).mono ?_
    rintro e w5⟨rfl,hb⟩
    have b5:=HB.out.trans (hb.mono HB.out.size)
    clear hb
    obtain⟨hc,hf⟩:=qad b5
    have z0:=qg4 b5
    have HB5:=hid (qap b5)
    clear b5
    go_wp2
    exact bodyPost_ret (v := .tuple #[.agg #[.int .i64 (fit (v:Int) (pw b.size)).n,.int .i64 (fit (v:Int) (pw b.size)).d],.int .i64 (fit (v:Int) (pw b.size)).e]) (by simp[results,Tryz.results88,go_sem,hc]) rfl ⟨by rw[HR2.out],qa2 HB5.out _ _⟩
theorem qew(s:ByteArray)(w:World)(ht:Tb w)(hs:s.size≤1000) :
  Calls Tryz.prog 88 #[.string s] w fun e w'=>e=.returned (.tuple #[.agg #[.int .i64 (parse s.data.toList).n,.int .i64 (parse s.data.toList).d],.int .i64 (parse s.data.toList).e])∧Below w.heap.size w w':=by
 have hsz:=Lib.size_eq s
 have hl : ∀ c:UInt8,(Lib.trimPrefix s.data.toList [c]).length≤s.data.toList.length:=fun c=>by
  unfold Lib.trimPrefix
  split
  ·rw[List.length_drop];omega
  ·exact Nat.le_refl _
 cases hp:Lib.hasPrefix s.data.toList [45]
 ·rw[qvn hp]
  exact qxu s ⟨(Lib.trimPrefix s.data.toList [43]).toArray⟩ w ht hs (by rw[Lib.size_eq];have:=hl 43;show(Lib.trimPrefix s.data.toList [43]).length≤1000;omega) hp rfl
 ·rw[qvm hp]
  exact qxt s ⟨(Lib.trimPrefix s.data.toList [45]).toArray⟩ w ht hs (by rw[Lib.size_eq];have:=hl 45;show(Lib.trimPrefix s.data.toList [45]).length≤1000;omega) hp rfl
end Go.Proofs.YtldkgbnmaefaaaaGreatDoor.Nu
namespace Go.Proofs.YtldkgbnmaefaaaaGreatDoor.Nu
open Go.RowKit
set_option linter.unusedVariables false
def qb2(l:List UInt8)(i:Nat):Nat:=i+((l.drop i).takeWhile isD).length
theorem qz0{l:List UInt8}{i:Nat}{x:UInt8}(hx:l[i]? = some x)(h:isD x=true):qb2 l (i+1)=qb2 l i:=by
 obtain⟨hi,he⟩:=List.getElem?_eq_some_iff.1 hx
 unfold qb2
 rw[List.drop_eq_getElem_cons hi,he,List.takeWhile_cons_of_pos h,List.length_cons]
 omega
theorem qwj{l:List UInt8}{i:Nat}{x:UInt8}(hx:l[i]? = some x)(h:isD x=false):qb2 l i=i:=by
 obtain⟨hi,he⟩:=List.getElem?_eq_some_iff.1 hx
 unfold qb2
 rw[List.drop_eq_getElem_cons hi,he,List.takeWhile_cons_of_neg (by rw[h];exact Bool.false_ne_true)]
 rfl
theorem qzz{l:List UInt8}{i:Nat}(h:l.length≤i):qb2 l i=i:=by
 unfold qb2
 rw[List.drop_eq_nil_of_le h]
 rfl
theorem qae(s:ByteArray)(i:Nat)(w:World)(hs:s.size≤1000)(hi:i≤s.size):Calls Tryz.prog 150 #[.string s,.int .i64 (i:Int)] w fun e w'=>e=.returned (.int .i64 (qb2 s.data.toList i:Int))∧w=w':=by
 go_enter Tryz.func150,Tryz.ntmps150
 go_wp2
 go_loop [1] (fun x => ∃ j:Nat,j≤s.size∧x=.int .i64 (j:Int)∧Hid (qb2 s.data.toList j=qb2 s.data.toList i)) (fun x=>s.size-(intOf x).toNat)
 case atStart=>exact⟨i,hi,rfl,hid rfl⟩
 case round =>
  obtain⟨j,hj,rfl,HR⟩:=hrel
  have hsz:=Lib.size_eq s
  by_cases hlt:j<s.size
  ·obtain⟨x,hx⟩ : ∃ x:UInt8,s[j]'hlt=x:=⟨_,rfl⟩
   have hxl:s.data.toList[j]? = some x:=by rw[←hx];exact Lib.data_getElem? s j hlt
   have hd:decide ((j:Int)<(s.size:Int))=true:=decide_eq_true (by omega)
   by_cases h1:x.toNat<48
   ·have HN:=hid (qwj hxl (decide_eq_false (by omega : ¬ (48≤x.toNat∧x.toNat≤57))))
    have d1:decide ((48:Int)≤(x.toNat:Int))=false:=decide_eq_false (by omega)
    clear hxl h1 hsz
    go_wp2
    go_ret
    exact⟨by rw[←HR.out,HN.out];rfl,rfl⟩
   ·have d1:decide ((48:Int)≤(x.toNat:Int))=true:=decide_eq_true (by omega)
    by_cases h2:57<x.toNat
    ·have HN:=hid (qwj hxl (decide_eq_false (by omega : ¬ (48≤x.toNat∧x.toNat≤57))))
     have d2:decide ((x.toNat:Int)≤(57:Int))=false:=decide_eq_false (by omega)
     clear hxl h1 h2 hsz
     go_wp2
     go_ret
     exact⟨by rw[←HR.out,HN.out];rfl,rfl⟩
    ·have d2:decide ((x.toNat:Int)≤(57:Int))=true:=decide_eq_true (by omega)
     have HY:=hid (qz0 hxl (decide_eq_true (by omega:48≤x.toNat∧x.toNat≤57)))
     clear hxl h1 h2 hsz
     go_wp2
     go_round
     case rel=>exact⟨j+1,by omega,by go_num,hid (by rw[HY.out,HR.out])⟩
     case measure=>simp[intOf];omega
  ·obtain rfl:j=s.size:=by omega
   have HN:=hid (qzz (l:=s.data.toList) (i:=s.size) (by omega))
   clear hsz
   go_wp2
   go_ret
   exact⟨by rw[←HR.out,HN.out];rfl,rfl⟩
theorem q7d{x:UInt8}{y:Nat}(hx:isD x=true)(hy:x.toNat-48=y):IntKind.u8.wrap ((x.toNat:Int)-48)=(y:Int)∧y≤9:=by
 have h:48≤x.toNat∧x.toNat≤57:=of_decide_eq_true hx
 refine⟨?_,by omega⟩
 rw[IntKind.wrap_u8]
 omega
theorem q0e{v y:Nat}(hv:v<100000000000000000)(hy:y≤9):IntKind.i64.wrap ((v:Int)*10)=(v:Int)*10∧IntKind.i64.wrap ((v:Int)*10+(y:Int))=((10*v+y:Nat):Int)∧IntKind.i64.wrap (y:Int)=(y:Int):=by
 refine⟨IntWalk.i64_in _ (by omega),?_,IntWalk.i64_in _ (by omega)⟩
 rw[IntWalk.i64_in _ (by omega)]
 omega
theorem qbo(s:ByteArray)(w:World)(hs:s.size≤18)(ha:s.data.toList.all isD=true):Calls Tryz.prog 152 #[.string s] w fun e w'=>e=.returned (.int .i64 (val s.data.toList:Int))∧w=w':=by
 have HA:=hid ha
 have HZ:=hid (Lib.size_eq s)
 clear ha
 go_enter Tryz.func152,Tryz.ntmps152
 go_wp2
 go_loop [3,4] (fun x y => ∃ j v:Nat,j≤s.size∧x=.int .i64 (v:Int)∧y=.int .i64 (j:Int)∧Hid (v=val (s.data.toList.take j))) (fun _ y=>s.size-(intOf y).toNat)
 case atStart=>exact⟨0,0,Nat.zero_le _,rfl,rfl,hid rfl⟩
 case round =>
  obtain⟨j,v,hj,rfl,rfl,HR⟩:=hrel
  by_cases hlt:j<s.size
  ·obtain⟨x,hx⟩ : ∃ x:UInt8,s[j]'hlt=x:=⟨_,rfl⟩
   have hxl:s.data.toList[j]? = some x:=by rw[←hx];exact Lib.data_getElem? s j hlt
   have hd:decide ((j:Int)<(s.size:Int))=true:=decide_eq_true (by omega)
   obtain⟨y,hy⟩ : ∃ y,x.toNat-48=y:=⟨_,rfl⟩
   obtain⟨f1,f2⟩:=q7d (qlg HA.out hxl) hy
   have hv2:v<100000000000000000:=by rw[HR.out];exact qgb HA.out (by omega)
   obtain⟨g1,g2,g3⟩:=q0e hv2 f2
   have HV2:Hid (10*v+y=val (s.data.toList.take (j+1))):=hid (by rw[qmu hxl,HR.out,hy])
   clear hxl hy f2 hv2 HR
   go_wp2
   go_round
   case rel=>exact⟨j+1,10*v+y,by omega,rfl,by go_num,HV2⟩
   case measure=>simp[intOf];omega
  ·obtain rfl:j=s.size:=by omega
   have HN:Hid (v=val s.data.toList):=hid (by rw[HR.out,List.take_of_length_le (by rw[←HZ.out];exact Nat.le_refl _)])
   clear HR
   go_wp2
   go_ret
   exact⟨by rw[←HN.out];rfl,rfl⟩
end Go.Proofs.YtldkgbnmaefaaaaGreatDoor.Nu
namespace Go.Proofs.YtldkgbnmaefaaaaGreatDoor.Nu
theorem qcw(l:List UInt8):qb2 l 0=(l.takeWhile isD).length:=by unfold qb2;rw[Nat.zero_add,List.drop_zero]
theorem q0k(l:List UInt8):(l.takeWhile isD).length≤l.length:=(List.takeWhile_sublist _).length_le
theorem q2m : ∀ {l:List UInt8} {x:UInt8},x∈l.takeWhile isD→isD x=true
 | [],_,h=>by cases h
 |b :: l,x,h=>by
  by_cases hb:isD b=true
  ·rw[List.takeWhile_cons_of_pos hb] at h
   rcases List.mem_cons.1 h with rfl | h
   ·exact hb
   ·exact q2m h
  ·rw[List.takeWhile_cons_of_neg hb] at h
   cases h
theorem qeb(l:List UInt8):(l.takeWhile isD).all isD=true:=List.all_eq_true.2 fun _ hx=>q2m hx
theorem qff{l:List UInt8}(h:(l.takeWhile isD).length=l.length):l.all isD=true:=by
 have:l.takeWhile isD=l:=(List.takeWhile_prefix isD).eq_of_length h
 rw[←this]
 exact qeb l
theorem xbz : ∀ {l:List UInt8},l.all isD=true→(l.takeWhile isD).length=l.length
 | [],_=>rfl
 |b :: l,h=>by
  rw[List.all_cons,Bool.and_eq_true] at h
  rw[List.takeWhile_cons_of_pos h.1,List.length_cons,List.length_cons,xbz h.2]
theorem qgz(neg:Bool){l:List UInt8}(h:qb2 l 0=l.length):qaf neg l=if 1≤l.length∧l.length≤9 then fit (if neg then -(val l:Int) else (val l:Int)) 1 else⟨0,0,1⟩:=by
 rw[qcw] at h
 have ha:=qff h
 unfold qaf
 rw[qlf l ha]
 dsimp only
 by_cases hl:1≤l.length∧l.length≤9
 ·have hi:idB l [] false=true:=by show adB l=true;rw[qqa hl,ha]
  rw[if_pos hi,if_pos hl,List.append_nil]
  rfl
 ·have hi:idB l [] false=false:=by show adB l=false;exact qob hl
  rw[if_neg (by rw[hi];exact Bool.false_ne_true),if_neg hl]
theorem qmt : ∀ l:List UInt8,l.takeWhile isD++l.drop (l.takeWhile isD).length=l
 | []=>rfl
 |b :: l=>by
  by_cases hb:isD b=true
  ·rw[List.takeWhile_cons_of_pos hb,List.length_cons,List.drop_succ_cons,List.cons_append,qmt l]
  ·rw[List.takeWhile_cons_of_neg hb]
   rfl
theorem qga : ∀ (l:List UInt8) (a:Nat),qbw a l=a*10^l.length+val l
 | [],a=>by simp[qbw,val]
 |x :: l,a=>by
  have e1:qbw a (x :: l)=qbw (10*a+(x.toNat-48)) l:=rfl
  have e2:val (x :: l)=qbw (10*0+(x.toNat-48)) l:=rfl
  rw[e1,e2,qga l (10*a+(x.toNat-48)),qga l (10*0+(x.toNat-48)),List.length_cons,Nat.pow_succ]
  have:(10*a+(x.toNat-48))*10^l.length=a*(10^l.length*10)+(x.toNat-48)*10^l.length:=by
   rw[Nat.add_mul,Nat.mul_comm 10 a,Nat.mul_assoc,Nat.mul_comm 10]
  rw[this,Nat.mul_zero,Nat.zero_add,Nat.add_assoc]
theorem qlz(neg:Bool){l r:List UInt8}(h:l.drop (qb2 l 0)=46 :: r) :
  qaf neg l=if qb2 l 0≤9∧(r.takeWhile isD).length=r.length∧1≤r.length∧r.length≤9 then
   fit (if neg then -((val (l.takeWhile isD)*10^r.length+val r:Nat):Int) else ((val (l.takeWhile isD)*10^r.length+val r:Nat):Int)) (pw r.length) else⟨0,0,1⟩:=by
 rw[qcw] at h ⊢
 have hs:=qmt l
 rw[h] at hs
 have hd:=qeb l
 generalize l.takeWhile isD=a at *
 subst hs
 unfold qaf
 rw[qi4 a r hd]
 dsimp only
 by_cases hc:a.length≤9∧(r.takeWhile isD).length=r.length∧1≤r.length∧r.length≤9
 ·obtain⟨c1,c2,c3,c4⟩:=hc
  have hr:=qff c2
  have hi:idB a r true=true:=by
   unfold idB
   rw[if_pos rfl,qqa ⟨c3,c4⟩,hr,Bool.and_true,Bool.or_eq_true]
   by_cases ha:a=[]
   ·exact .inl (by rw[ha];rfl)
   ·exact .inr (by rw[qqa ⟨List.length_pos_iff.2 ha,c1⟩,hd])
  rw[if_pos hi,if_pos (show a.length≤9∧(r.takeWhile isD).length=r.length∧1≤r.length∧r.length≤9 from⟨c1,c2,c3,c4⟩)]
  have:val (a++r)=val a*10^r.length+val r:=by
   show qbw 0 (a++r)=_
   rw[qcj,qga r]
   rfl
  simp only[this]
 ·have hi:idB a r true=false:=by
   rw[Bool.eq_false_iff]
   intro hh
   unfold idB at hh
   rw[if_pos rfl,Bool.and_eq_true,Bool.or_eq_true] at hh
   obtain⟨h1,h2⟩:=hh
   have k2:=qkc h2
   have k3:1≤r.length:=by
    unfold adB at h2
    rw[Bool.and_eq_true,decide_eq_true_iff] at h2
    exact h2.1.1
   have k1:a.length≤9:=by
    rcases h1 with h1 | h1
    ·rw[List.isEmpty_iff.1 h1];exact Nat.zero_le _
    ·exact(qkc h1).2
   exact hc ⟨k1,xbz k2.1,k3,k2.2⟩
  rw[if_neg (by rw[hi];exact Bool.false_ne_true),if_neg hc]
theorem qt3 : ∀ (a:List UInt8) (c:UInt8) (r:List UInt8),a.all isD=true→c≠46 → ∃ t,(cut (a++c :: r)).1=a++c :: t
 | [],c,r,_,hc=>by
  refine⟨(cut r).1,?_⟩
  show(cut (c :: r)).1=_
  rw[cut,if_neg hc]
  rfl
 |x :: a,c,r,h,hc=>by
  rw[List.all_cons,Bool.and_eq_true] at h
  obtain⟨t,ht⟩:=qt3 a c r h.2 hc
  have hx:x≠46:=by rintro rfl;rw[qur] at h;exact absurd h.1 Bool.false_ne_true
  refine⟨t,?_⟩
  show(cut (x :: (a++c :: r))).1=_
  rw[cut,if_neg hx]
  show x :: (cut (a++c :: r)).1=_
  rw[ht]
  rfl
theorem qpb(neg:Bool){l r:List UInt8}{c:UInt8}(h:l.drop (qb2 l 0)=c :: r)(hc:c≠46)(hd:isD c=false):qaf neg l=⟨0,0,1⟩:=by
 rw[qcw] at h
 have hs:=qmt l
 rw[h] at hs
 have ha:=qeb l
 obtain⟨t,ht⟩:=qt3 _ c r ha hc
 rw[hs] at ht
 have hn:adB (cut l).1=false:=by
  rw[ht,Bool.eq_false_iff]
  intro hh
  have:=(qkc hh).1
  rw[List.all_append,List.all_cons,hd] at this
  simp at this
 have he:(cut l).1.isEmpty=false:=by rw[ht];simp
 unfold qaf
 have hi:idB (cut l).1 (cut l).2.1 (cut l).2.2=false:=by
  unfold idB
  rw[hn,he]
  split<;>rfl
 rw[if_neg (by rw[hi];exact Bool.false_ne_true)]
end Go.Proofs.YtldkgbnmaefaaaaGreatDoor.Nu
