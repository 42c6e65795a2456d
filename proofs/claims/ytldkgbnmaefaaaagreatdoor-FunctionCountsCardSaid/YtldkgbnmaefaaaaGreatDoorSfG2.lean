import Derived.Test.YtldkgbnmaefaaaaGreatDoorSfG1
import Derived.Deep.RegionLaw
import Derived.Shelf.Strings.SlTrimAscii
import Derived.Laws.IdiomStrings
import Derived.Deep.RegionHeld
import Derived.BigQuiet
import Derived.BigRegion
set_option maxRecDepth 100000
set_option maxHeartbeats 4000000
open Go.Lib (hid)
namespace Go.Proofs.YtldkgbnmaefaaaaGreatDoor.Sf
open Go.RowKit Go.Shelf
attribute [local go_sem] Oper.semAt_some
set_option linter.unusedVariables false
attribute [local simp] qhd qf1 qp1 qmh
theorem four(w:World)(a b c d e:Value)(ta tb tc td te:TypeId) : ∃ W0,((((w.alloc (.cells #[a] ta)).alloc (.cells #[b] tb)).alloc (.cells #[c] tc)).alloc (.cells #[d] td)).alloc (.cells #[e] te)=W0∧w.heap.size+4<W0.heap.size∧Below w.heap.size w W0 ∧
  W0.cell? ⟨w.heap.size,0,none⟩=some a∧W0.cell? ⟨w.heap.size+1,0,none⟩=some b∧W0.cell? ⟨w.heap.size+1+1,0,none⟩=some c∧W0.cell? ⟨w.heap.size+1+1+1,0,none⟩=some d∧W0.frozen? ⟨w.heap.size+1+1+1,0,none⟩=false∧W0.cell? ⟨w.heap.size+1+1+1+1,0,none⟩=some e:=by
 have n1:=qda w a ta
 have n2:=qda (w.alloc (.cells #[a] ta)) b tb
 have n3:=qda ((w.alloc (.cells #[a] ta)).alloc (.cells #[b] tb)) c tc
 have n4:=qda (((w.alloc (.cells #[a] ta)).alloc (.cells #[b] tb)).alloc (.cells #[c] tc)) d td
 have n5:=qda ((((w.alloc (.cells #[a] ta)).alloc (.cells #[b] tb)).alloc (.cells #[c] tc)).alloc (.cells #[d] td)) e te
 simp only[World.size_alloc] at n2 n3 n4 n5
 exact⟨_,rfl,by simp,(((((Below.refl _ w).alloc (Nat.le_refl _) _).alloc (by simp) _).alloc (by simp;omega) _).alloc (by simp;omega) _).alloc (by simp;omega) _,qa3 _ (qa3 _ (qa3 _ (qa3 _ n1.1))),qa3 _ (qa3 _ (qa3 _ n2.1)),qa3 _ (qa3 _ n3.1),qa3 _ n4.1,qch _ n4.1 n4.2,n5.1⟩
theorem qq0(s:ByteArray)(i:Nat)(h:i≤rc s):(qs0 s)[i]? = some (ag s i,i):=by
 unfold qs0
 rw[List.getElem?_zipIdx,q0y,if_pos h];simp
theorem qpc{s:ByteArray}{pre:List Ps}{x:Ps}(h:pre++[x] <+: qs0 s):pre.length≤rc s∧x=(ag s pre.length,pre.length) ∧ ∀ j,j<pre.length→(ag s j,j)∈pre:=by
 obtain⟨r,hr⟩:=h
 have hl:pre.length≤rc s:=by
  have:=congrArg List.length hr
  rw[qzo] at this
  simp at this;omega
 refine⟨hl,?_,fun j hj => ?_⟩
 ·have:=qq0 s pre.length hl
  rw[←hr] at this
  simpa using this
 ·have:=qq0 s j (by omega)
  rw[←hr,List.append_assoc,List.getElem?_append_left hj] at this
  exact List.mem_of_getElem? this
theorem qxr(s t:ByteArray)(f:Int)(w:World)(hs:s.size≤4294967281)(ht:t.size≤4294967281) :
  Calls Tryz.prog 111 #[.string s,.string t,.int .i64 f] w fun e w'=>e=.returned (.int .i64 (fnd s t f))∧Below w.heap.size w w':=by
 refine(callsIn_wide (n:=3)).1 ?_
 refine callsIn_of_wp_marks Tryz.func111 rfl trivial ?_ rfl
 simp only[Tryz.ntmps111,List.size_toArray,List.length_cons,List.length_nil,Nat.reduceAdd,Nat.reduceSub,Array.replicate_succ,Array.replicate_zero,List.push_toArray,List.append_toArray,List.nil_append,List.cons_append]
 gi_wp2_with (gi_at_call 167;refine(callsIn_wide.2 (qg0 _ _)).mono ?_;rintro e w' ⟨rfl,rfl⟩)
 obtain⟨W0,hW0,hz,hB0,c0,c1,c2,c3,f3,c4⟩:=four w (.string s) (.string t) (.int .i64 f) (.int .i64 0) (.string s) 9 9 3 3 9
 rw[hW0]
 clear hW0
 refine wpIn_rangeFunc_ownF rfl (by omega) (gf:=213) (lb := #[.pointer (some ⟨w.heap.size+1+1+1+1,0,none⟩)]) rfl trivial (enters_of Tryz.func213 (by kernel_rfl) rfl)
  (qvu s (w.heap.size+1+1+1+1) _ hs (by omega) c4) (fun h k=>Kp.t h k) (Kp.b (by omega) (by omega)) (Below.refl _ _) (fun _=>rfl)
  (fun pre W=>((W.cell? ⟨w.heap.size,0,none⟩=some (.string s)∧W.cell? ⟨w.heap.size+1,0,none⟩=some (.string t)∧W.cell? ⟨w.heap.size+1+1,0,none⟩=some (.int .i64 f)∧W.cell? ⟨w.heap.size+1+1+1,0,none⟩=some (.int .i64 0)∧W.frozen? ⟨w.heap.size+1+1+1,0,none⟩=false) ∧ ∀ x,x∈pre→f≤(x.2:Int)→qdr s t (min x.1 s.size)=false)∧Below w.heap.size w W)
  (fun c pre W=>((c=.ret ∧ ∃ pre' x,pre=pre'++[x]∧(f≤(x.2:Int)∧qdr s t (min x.1 s.size)=true ∧ ∀ x,x∈pre'→f≤(x.2:Int)→qdr s t (min x.1 s.size)=false)∧W.cell? ⟨w.heap.size+1+1+1,0,none⟩=some (.int .i64 (x.2:Int))))∧Below w.heap.size w W)
  (OwnFrom.and (Own.from (fun s A B row hs hg hr=>⟨⟨cell_kept hs.1.1 hg hr,cell_kept hs.1.2.1 hg hr,cell_kept hs.1.2.2.1 hg hr,cell_kept hs.1.2.2.2.1 hg hr,(frozen_kept hs.1.2.2.2.1 hg hr).trans hs.1.2.2.2.2⟩,hs.2⟩) _) (ownFrom_below (Nat.le_refl _) (by omega)))
  (fun c=>OwnFrom.and (Own.from (fun s A B row hs hg hr=>⟨hs.1,by obtain⟨p,x,h1,h2,h3⟩:=hs.2;exact⟨p,x,h1,h2,cell_kept h3 hg hr⟩⟩) _) (ownFrom_below (Nat.le_refl _) (by omega)))
  ⟨⟨⟨c0,c1,c2,c3,f3⟩,fun x hx=>by cases hx⟩,hB0⟩
  (fun x => { tmps := #[.string s,.string t,.int .i64 f,.pointer (some ⟨w.heap.size,0,none⟩),.pointer (some ⟨w.heap.size+1,0,none⟩),.pointer (some ⟨w.heap.size+1+1,0,none⟩),.pointer (some ⟨w.heap.size+1+1+1,0,none⟩),
   .int .i64 (x.2:Int),.int .i64 ((min x.1 s.size:Nat):Int),.string s,.func (.func 213) #[] #[.pointer (some ⟨w.heap.size+1+1+1+1,0,none⟩)],.int .i64 (x.2:Int),.int .i64 ((min x.1 s.size:Nat):Int),undef,undef,undef,undef,undef,undef,undef,undef,undef,undef,undef],defers:=[] }) ?assign ?body ?done ?stop
 case assign =>
  intro l x W K hK
  gi_wp2
  exact hK
 case body =>
  rintro l pre⟨a,i⟩ W⟨⟨⟨d0,d1,d2,d3,g3⟩,hn⟩,hB⟩ hlen
  dsimp only
  have hall : ∀ b:Bool,qdr s t (min a s.size)=b→b=false ∨ ¬ f≤(i:Int) → ∀ x,x∈pre++[(a,i)]→f≤(x.2:Int)→qdr s t (min x.1 s.size)=false:=by
   intro b hb hor x hx hfx
   rcases List.mem_append.1 hx with hx | hx
   ·exact hn x hx hfx
   ·rw[List.mem_singleton.1 hx] at hfx ⊢
    rcases hor with h | h
    ·rw[hb,h]
    ·exact absurd hfx h
  have HA:=hid hall
  have HN:=hid hn
  clear hall hn
  have hmle:min a s.size≤s.size:=Nat.min_le_right _ _
  obtain⟨m,hm⟩ : ∃ m,min a s.size=m:=⟨_,rfl⟩
  have HM:=hid hm
  rw[hm] at hmle HA ⊢
  clear hm
  have hfin : ∀ n,f>(i:Int)∨qdr s t m=false→KeepsOthers W (W.drewN n)∧Kp (w.heap.size+1+1+1+1) (w.heap.size+1+1+1+1) W (W.drewN n)∧(((W.drewN n).cell? ⟨w.heap.size,0,none⟩=some (.string s)∧(W.drewN n).cell? ⟨w.heap.size+1,0,none⟩=some (.string t)∧(W.drewN n).cell? ⟨w.heap.size+1+1,0,none⟩=some (.int .i64 f)∧(W.drewN n).cell? ⟨w.heap.size+1+1+1,0,none⟩=some (.int .i64 0)∧(W.drewN n).frozen? ⟨w.heap.size+1+1+1,0,none⟩=false) ∧ ∀ x,x∈pre++[(a,i)]→f≤(x.2:Int)→qdr s t (min x.1 s.size)=false)∧Below w.heap.size w (W.drewN n) :=
   fun n ho=>⟨qfr (below_drewN (Below.refl _ _) n),⟨(qfr (below_drewN (Below.refl _ _) n)).walks,rfl,rfl⟩,⟨⟨d0,d1,d2,d3,g3⟩,by
    refine HA.out (qdr s t m) rfl ?_
    rcases ho with h | h
    ·exact .inr (by omega)
    ·exact .inl h⟩,below_drewN hB n⟩
  have HF:=fun n ho=>hid (hfin n ho)
  clear hfin
  by_cases hfi:f≤(i:Int)
  ·have e1:decide (f≤(i:Int))=true:=decide_eq_true hfi
   by_cases hp:qdr s t m=true
   ·gi_wp2
    refine qmv (by kernel_rfl) (by kernel_rfl) (by kernel_rfl) ?_
    repeat (gi_big_quiet_step (first | (gi_at_call 168;refine CallsIn.quiet_of_same (CallsIn.inRound l (callsIn_wide.2 (qik s t m _))))))
    refine wpQuietIn_nil ?_
    rintro _⟨nq,rfl⟩
    have d3':(W.drewN nq).cell? ⟨w.heap.size+1+1+1,0,none⟩=some (.int .i64 0):=d3
    have g3':(W.drewN nq).frozen? ⟨w.heap.size+1+1+1,0,none⟩=false:=g3
    have hB':=below_drewN hB nq
    have hk:=qfr (below_drewN (Below.refl W.heap.size W) nq)
    generalize W.drewN nq=V at d3' g3' hB' hk
    gi_wp2
    exact⟨hk.trans (KeepsOthers.setCell _ _ _),⟨rfl,pre,(a,i),rfl,⟨hfi,by rw[HM.out];exact hp,HN.out⟩,World.cell?_setCell_same' _ _ _ (by rw[d3'];rfl)⟩,hB'.setCell (p:=⟨w.heap.size+1+1+1,0,none⟩) (by show w.heap.size≤w.heap.size+1+1+1;omega) _⟩
   ·have hp2:qdr s t m=false:=Bool.eq_false_iff.2 hp
    clear hp
    gi_wp2
    refine qmv (by kernel_rfl) (by kernel_rfl) (by kernel_rfl) ?_
    repeat (gi_big_quiet_step (first | (gi_at_call 168;refine CallsIn.quiet_of_same (CallsIn.inRound l (callsIn_wide.2 (qik s t m _))))))
    refine wpQuietIn_nil ?_
    rintro _⟨nq,rfl⟩
    gi_wp2
    exact(HF nq (.inr hp2)).out
  ·have e1:decide (f≤(i:Int))=false:=decide_eq_false hfi
   gi_wp2
   refine qmv (by kernel_rfl) (by kernel_rfl) (by kernel_rfl) ?_
   repeat (gi_big_quiet_step (fail))
   refine wpQuietIn_nil ?_
   rintro _⟨nq,rfl⟩
   gi_wp2
   exact(HF nq (.inl (by omega))).out
 case done =>
  rintro D ys W hD hS⟨⟨⟨d0,d1,d2,d3,g3⟩,hn⟩,hB⟩ hK
  have hv:fnd s t f = -1:=qqk (fun j hj hfj=>by
   have:=hn (ag s j,j) (by rw[hS];exact ql2.2 ⟨hj,rfl⟩) hfj
   rwa [Nat.min_eq_left (qez s j)] at this)
  have HV:=hid hv
  clear hv
  gi_wp2
  refine⟨by simp,.inl ⟨_,_,rfl,run_takeDeferred (qdg hK),?_⟩⟩
  have hc5:=qdz (qdg (p:=⟨w.heap.size+1+1+1,0,none⟩) (v := .int .i64 (-1)) hK) (World.cell?_setCell_same W ⟨w.heap.size+1+1+1,0,none⟩ (.int .i64 (-1)) d3)
  refine⟨.int .i64 (-1),?_,by rw[HV.out],qcr (B:=W0.heap.size) (hB.setCell (p:=⟨w.heap.size+1+1+1,0,none⟩) (by show w.heap.size≤w.heap.size+1+1+1;omega) _) hD (by omega) (qdg hK)⟩
  simp[results,Tryz.f111,go_sem,hc5]
 case stop =>
  rintro D c pre W hD hSp⟨⟨rfl,pre',x,rfl,⟨h1,h2,h3⟩,d1⟩,hB⟩ hK
  obtain⟨hl,rfl,hj⟩:=qpc hSp
  dsimp only at h1 h2 d1
  have hv:fnd s t f=(pre'.length:Nat):=by
   refine qql hl h1 (by rwa [Nat.min_eq_left (qez s _)] at h2) (fun j hj1 hj2 => ?_)
   have:=h3 _ (hj j hj1) hj2
   rwa [Nat.min_eq_left (qez s j)] at this
  have HV:=hid hv
  clear hv h1 h2 h3 hj
  gi_wp2
  refine⟨by simp,.inl ⟨_,_,rfl,run_takeDeferred hK,?_⟩⟩
  have hc5:=qdz hK d1
  refine⟨.int .i64 (pre'.length:Int),?_,by rw[HV.out],qcr (B:=W0.heap.size) hB hD (by omega) hK⟩
  simp[results,Tryz.f111,go_sem,hc5]
end Go.Proofs.YtldkgbnmaefaaaaGreatDoor.Sf
namespace Go.Proofs.YtldkgbnmaefaaaaGreatDoor.Sf
open Go.RowKit Go.Shelf
attribute [local go_sem] Oper.semAt_some
set_option linter.unusedVariables false
def quy(l:List Pt):Nat:=(l.getLast?.map (fun x=>x.2)).getD 0
theorem qr5(l:List Pt)(x:Pt):quy (l++[x])=x.2:=by simp[quy]
theorem q6j(s t:ByteArray)(i:Nat):(prt s t)[i]? = (parts s t)[i]?.map (fun x=>(x,i)):=by
 unfold prt;rw[List.getElem?_zipIdx];simp
theorem quz(s t:ByteArray):quy (prt s t)=(occ s t).length:=by
 unfold quy
 rw[List.getLast?_eq_getElem?,qpe,Nat.add_sub_cancel,q6j,List.getElem?_eq_getElem (by rw[qfc];omega)]
 rfl
theorem qd4(s t:ByteArray)(w:World)(hs:s.size≤4294967281)(ht:t.size≤4294967281) :
  Calls Tryz.prog 110 #[.string s,.string t] w fun e w'=>e=.returned (.int .i64 ((occ s t).length:Int))∧Below w.heap.size w w':=by
 refine(callsIn_wide (n:=3)).1 ?_
 refine callsIn_of_wp_marks Tryz.func110 rfl trivial ?_ rfl
 simp only[Tryz.ntmps110,List.size_toArray,List.length_cons,List.length_nil,Nat.reduceAdd,Nat.reduceSub,Array.replicate_succ,Array.replicate_zero,List.push_toArray,List.append_toArray,List.nil_append,List.cons_append]
 gi_wp2
 refine⟨trivial,(callsIn_wide.2 (qjj _ _ _)).mono ?_⟩
 rintro e w'⟨rfl,rfl⟩
 gi_wp2
 obtain⟨W0,hW0,hz,hB0,c0,c1,_,c2,f0⟩:=three w (.int .i64 0) (.string s) (.string t) 3 9 9
 rw[hW0]
 clear hW0
 refine wpIn_rangeFunc_ownF rfl (by omega) (gf:=212) (lb := #[.pointer (some ⟨w.heap.size+1,0,none⟩),.pointer (some ⟨w.heap.size+1+1,0,none⟩)]) rfl trivial (enters_of Tryz.func212 (by kernel_rfl) rfl)
  (qjm s t (w.heap.size+1) (w.heap.size+1+1) _ hs (by omega) c1 ht (by omega) c2) (fun h k=>Kp.t h k) (Kp.b (by omega) (by omega)) (Below.refl _ _) (fun _=>rfl)
  (fun pre W=>(W.cell? ⟨w.heap.size,0,none⟩=some (.int .i64 (quy pre:Int))∧W.frozen? ⟨w.heap.size,0,none⟩=false)∧Below w.heap.size w W)
  (fun c pre W=>False)
  (OwnFrom.and (Own.from (fun s A B row hs hg hr=>⟨cell_kept hs.1 hg hr,(frozen_kept hs.1 hg hr).trans hs.2⟩) _) (ownFrom_below (Nat.le_refl _) (by omega)))
  (fun c=>fun _ _ _ _ hs _ _=>hs)
  ⟨⟨c0,f0⟩,hB0⟩
  (fun x => { tmps := #[.string s,.string t,undef,undef,.int .i64 0,.pointer (some ⟨w.heap.size,0,none⟩),.int .i64 (x.2:Int),.string s,.string t,.func (.func 212) #[] #[.pointer (some ⟨w.heap.size+1,0,none⟩),.pointer (some ⟨w.heap.size+1+1,0,none⟩)],.int .i64 (x.2:Int),.string (cl s x.1),undef,undef],defers:=[] }) ?assign ?body ?done ?stop
 case assign =>
  intro l x W K hK
  gi_wp2
  exact hK
 case body =>
  rintro l pre⟨a,i⟩ W⟨⟨d0,g0⟩,hB⟩ hlen
  dsimp only
  gi_wp2
  exact⟨KeepsOthers.setCell _ _ _,⟨(KeepsOthers.setCell _ _ _).walks,Below.heap_setCell _ _ _ _ (by show w.heap.size+1≠w.heap.size;omega),Below.heap_setCell _ _ _ _ (by show w.heap.size+1+1≠w.heap.size;omega)⟩,⟨by rw[qr5];exact World.cell?_setCell_same' _ _ _ (by rw[d0];rfl),by rw[World.frozen?_setCell];exact g0⟩,hB.setCell (p:=⟨w.heap.size,0,none⟩) (Nat.le_refl _) _⟩
 case done =>
  rintro D ys W hD hS⟨⟨d0,g0⟩,hB⟩ hK
  rw[hS,quz] at d0
  gi_wp2
  refine⟨by simp,.inl ⟨_,_,rfl,run_takeDeferred hK,?_⟩⟩
  exact⟨_,results_tmp rfl _ _ _,rfl,qcr (B:=W0.heap.size) hB hD (by omega) hK⟩
 case stop =>
  rintro D c pre W _ _ h _
  exact h.elim
end Go.Proofs.YtldkgbnmaefaaaaGreatDoor.Sf
namespace Go.Proofs.YtldkgbnmaefaaaaGreatDoor.Sf
open Go.RowKit
set_option linter.unusedVariables false
end Go.Proofs.YtldkgbnmaefaaaaGreatDoor.Sf
namespace Go.Proofs.YtldkgbnmaefaaaaGreatDoor.Sf
set_option linter.unusedVariables false
def sm(c:UInt8):UInt8:=if 65≤c.toNat∧c.toNat≤90 then c+32 else c
def cp(c:UInt8):UInt8:=if 97≤c.toNat∧c.toNat≤122 then c-32 else c
def chg(upper:Bool)(c:UInt8):UInt8:=if upper then cp c else sm c
theorem q2i{c:UInt8}(h:65≤c.toNat∧c.toNat≤90):((sm c).toNat:Int)=(c.toNat:Int)+32:=by
 unfold sm;rw[if_pos h,UInt8.toNat_add]
 show(((c.toNat+32)%256:Nat):Int)=_
 omega
theorem q0d{c:UInt8}(h : ¬ (65≤c.toNat∧c.toNat≤90)):sm c=c:=if_neg h
theorem q1c{c:UInt8}(h:97≤c.toNat∧c.toNat≤122):((cp c).toNat:Int)=(c.toNat:Int)-32:=by
 unfold cp;rw[if_pos h,UInt8.toNat_sub]
 show(((256-32+c.toNat)%256:Nat):Int)=_
 omega
theorem qyp{c:UInt8}(h : ¬ (97≤c.toNat∧c.toNat≤122)):cp c=c:=if_neg h
def cs(g:UInt8→UInt8)(n:Nat)(l:List UInt8):List UInt8:=(l.take n).map g++l.drop n
theorem qt2(g:UInt8→UInt8)(l:List UInt8):cs g 0 l=l:=by simp[cs]
theorem qng(g:UInt8→UInt8)(n:Nat)(l:List UInt8):(cs g n l).length=l.length:=by
 unfold cs;rw[List.length_append,List.length_map,List.length_take,List.length_drop];omega
theorem qnf(g:UInt8→UInt8){n:Nat}{l:List UInt8}(h:l.length≤n):cs g n l=l.map g:=by
 unfold cs;rw[List.take_of_length_le h,List.drop_eq_nil_of_le h,List.append_nil]
theorem q1d(g:UInt8→UInt8){n:Nat}{l:List UInt8}(h:n<l.length):(cs g n l)[n]? = some l[n]:=by
 unfold cs
 rw[List.getElem?_append_right (by simp;omega)]
 simp
 have:n-min n l.length=0:=by omega
 rw[this,Nat.add_zero,List.getElem?_eq_getElem h]
theorem q1f(g:UInt8→UInt8){n:Nat}{l:List UInt8}(h:n<l.length):(cs g n l).set n (g l[n])=cs g (n+1) l:=by
 unfold cs
 rw[List.drop_eq_getElem_cons h,List.set_append_right _ _ (by simp;omega)]
 simp
 have:n-min n l.length=0:=by omega
 rw[this,List.take_add_one,List.getElem?_map,List.getElem?_eq_getElem h]
 simp
 rw[List.drop_eq_getElem_cons h];rfl
theorem q1e(g:UInt8→UInt8){s:ByteArray}(h:s.size≠0):(⟨((s.extract 0 1).data.toList.map g).toArray⟩:ByteArray)++s.extract 1 s.size=⟨(cs g 1 s.data.toList).toArray⟩:=by
 apply qb4
 rw[show ∀ a b:ByteArray,(a++b).data.toList=a.data.toList++b.data.toList from fun a b=>by rw[ByteArray.data_append,Array.toList_append],qif,ext_list]
 rfl
def bl:List UInt8:=[9,10,13,32]
def tr(l:List UInt8):List UInt8:=Lib.trimS l bl
def spc(c:UInt8):Bool:=bl.contains c
theorem q2j(c:UInt8):spc c=((c.toNat:Int)==9||((c.toNat:Int)==10||((c.toNat:Int)==13||(c.toNat:Int)==32))):=by
 have h : ∀ k:UInt8,(c==k)=((c.toNat:Int)==(k.toNat:Int)):=fun k=>by
  rw[Bool.eq_iff_iff,beq_iff_eq,beq_iff_eq,Int.ofNat_inj,UInt8.toNat_inj]
 unfold spc bl
 simp only[List.contains_cons,List.contains_nil,Bool.or_false,h]
 rfl
def trL(l:List UInt8):List UInt8:=l.dropWhile spc
def trR(l:List UInt8):List UInt8:=(l.reverse.dropWhile spc).reverse
theorem qpx(l:List UInt8):tr l=trL (trR l):=rfl
theorem qiv(c:UInt8)(l:List UInt8):trR (c :: l)=if trR l=[]∧spc c=true then [] else c :: trR l:=by
 unfold trR
 rw[List.reverse_cons,List.dropWhile_append]
 by_cases h:(l.reverse.dropWhile spc)=[]
 ·rw[h]
  cases hc:spc c
  ·simp[List.dropWhile,hc]
  ·simp[List.dropWhile,hc]
 ·have h2:(l.reverse.dropWhile spc).isEmpty=false:=by
   cases hq:l.reverse.dropWhile spc with
   |nil=>exact absurd hq h
   |cons _ _=>rfl
  rw[h2]
  simp[h]
theorem qms{c:UInt8}(h:spc c=true)(l:List UInt8):trL (c :: l)=trL l:=by unfold trL;rw[List.dropWhile_cons,if_pos h]
theorem qny{c:UInt8}(h:spc c=false)(l:List UInt8):trL (c :: l)=c :: l:=by unfold trL;rw[List.dropWhile_cons,h];rfl
theorem qpy(l:List UInt8):trL (trR l)=trR (trL l):=by
 induction l with
 |nil=>rfl
 |cons c l ih =>
  cases hc:spc c
  ·rw[qny hc,qiv,if_neg (by rw[hc];exact fun h=>by cases h.2),qny hc]
  ·rw[qms hc,qiv,←ih]
   by_cases h:trR l=[]
   ·rw[if_pos ⟨h,hc⟩,h]
   ·rw[if_neg (fun hh=>h hh.1),qms hc]
theorem qrg(l:List UInt8):trL (trL l)=trL l:=by
 induction l with
 |nil=>rfl
 |cons c l ih =>
  cases hc:spc c
  ·rw[qny hc,qny hc]
  ·rw[qms hc,ih]
theorem q0g(l:List UInt8):trR (trR l)=trR l:=by
 have h:=qrg l.reverse
 unfold trL at h
 unfold trR
 rw[List.reverse_reverse,h]
theorem q7h(l:List UInt8):tr (tr l)=tr l:=by
 rw[qpx,qpx,qpy (trL (trR l)),qrg,←qpy (trR l),q0g]
theorem qrh(l:List UInt8)(c:UInt8):trR (l++[c])=if spc c=true then trR l else l++[c]:=by
 unfold trR
 rw[List.reverse_append,List.reverse_singleton,List.singleton_append,List.dropWhile_cons]
 cases hc:spc c
 ·simp
 ·simp
theorem qq8{s:ByteArray}(h:0<s.size):s.data.toList=s[0] :: (s.extract 1 s.size).data.toList:=by
 rw[qif]
 exact(List.drop_eq_getElem_cons (i:=0) (by rw[qag];exact h))
theorem qq9{s:ByteArray}(h:0<s.size):s.data.toList=(s.extract 0 (s.size-1)).data.toList++[s[s.size-1]]:=by
 rw[ext_list,List.drop_zero,Nat.sub_zero]
 have h2:=(List.take_append_getElem (l:=s.data.toList) (i:=s.size-1) (by rw[qag];omega)).symm
 rw[List.take_of_length_le (by rw[qag];omega)] at h2
 exact h2
theorem qpw{s:ByteArray}(h:0<s.size)(hc:spc s[0]=true):trL s.data.toList=trL (s.extract 1 s.size).data.toList:=by rw[qq8 h,qms hc]
theorem qsp{s:ByteArray}(h:0<s.size)(hc:spc s[0]=false):trL s.data.toList=s.data.toList:=by
 have h1:=qq8 h
 rw[h1,qny hc]
theorem qj0{s:ByteArray}(h:0<s.size)(hc:spc s[s.size-1]=true):trR s.data.toList=trR (s.extract 0 (s.size-1)).data.toList:=by rw[qq9 h,qrh,if_pos hc]
theorem qky{s:ByteArray}(h:0<s.size)(hc:spc s[s.size-1]=false):trR s.data.toList=s.data.toList:=by
 have h1:=qq9 h
 rw[h1,qrh,if_neg (by rw[hc];exact Bool.false_ne_true)]
theorem qgv{s:ByteArray}(h:s.size=0):s.data.toList=[]:=List.length_eq_zero_iff.1 (by rw[qag];exact h)
end Go.Proofs.YtldkgbnmaefaaaaGreatDoor.Sf
namespace Go.Proofs.YtldkgbnmaefaaaaGreatDoor.Sf
open Go.RowKit Go.Shelf
set_option linter.unusedVariables false
structure RB (w:World) (b:Nat) (l:List UInt8):Prop where
 lt:b<w.heap.size
 at_ : ∀ (j:Nat) x,l[j]? = some x→w.cell? ⟨b,j,none⟩=some (.int .u8 (x.toNat:Int))∧w.frozen? ⟨b,j,none⟩=false
theorem RB.set{w:World}{b:Nat}{l:List UInt8}(h:RB w b l){j:Nat}(hj:j<l.length)(y:UInt8):RB (w.setCell ⟨b,j,none⟩ (.int .u8 (y.toNat:Int))) b (l.set j y):=by
 refine⟨by rw[World.size_setCell];exact h.lt,fun i x hi => ?_⟩
 have hil:i<l.length:=by
  have:=(List.getElem?_eq_some_iff.1 hi).1
  rwa [List.length_set] at this
 have h0:=h.at_ i l[i] (List.getElem?_eq_getElem hil)
 refine⟨?_,by rw[World.frozen?_setCell];exact h0.2⟩
 by_cases hij:i=j
 ·subst hij
  rw[List.getElem?_set_self hil] at hi
  obtain rfl:y=x:=Option.some.inj hi
  exact World.cell?_setCell_same' _ _ _ (by rw[h0.1];rfl)
 ·rw[List.getElem?_set_ne (fun e=>hij e.symm)] at hi
  rw[World.cell?_setCell_other (h:=fun e=>hij (by cases e;rfl))]
  exact(h.at_ i x hi).1
theorem RB.of_block{w w':World}{b:Nat}{l:List UInt8}(h:RB w b l)(hb:w'.heap[b]? = w.heap[b]?)(hs:w.heap.size≤w'.heap.size):RB w' b l :=
 ⟨Nat.lt_of_lt_of_le h.lt hs,fun j x hj=>⟨(World.cell?_of_block (a:=⟨b,j,none⟩) hb).trans (h.at_ j x hj).1,(World.frozen?_of_block (a:=⟨b,j,none⟩) hb).trans (h.at_ j x hj).2⟩⟩
theorem qt1(s:ByteArray)(w:World) : ∃ C W1,(convert 9 43 (.string s)).run Tryz.prog w=.ok (.slice (some ⟨w.heap.size,0,none⟩) s.size C) W1∧RB W1 w.heap.size s.data.toList∧Below w.heap.size w W1:=by
 have h:=run_bytes_of_string (P:=Tryz.prog) w 9 43 5 s Tryz.underlying9 Tryz.underlying43 Tryz.underlying5
 refine⟨_,_,h,⟨?_,fun j x hj => ?_⟩,?_⟩
 ·show w.heap.size<(w.heap.push _).size
  rw[Array.size_push];omega
 ·have hjl:=(List.getElem?_eq_some_iff.1 hj).1
  have hjs:j<s.data.size:=by rw[←Array.length_toList];exact hjl
  refine⟨?_,?_⟩
  ·refine(World.cell?_alloc_mark w.drew _ _ _ j).trans ?_
   rw[bytesRow_at s _ j hjs]
   rw[List.getElem?_eq_getElem hjl] at hj
   have:s.data[j]=x:=by rw[←Array.getElem_toList];exact Option.some.inj hj
   rw[this]
  ·refine(World.frozen?_alloc_mark w.drew _ _ _ _ j).trans ?_
   have:j<(bytesRow s (grownCap w s.size 0 5)).size:=by
    unfold bytesRow
    rw[Array.size_append,Array.size_map];omega
   rw[decide_eq_false (by omega)];rfl
 ·exact(Below.refl _ w).drew.alloc (Nat.le_refl _) _
theorem qi2{w:World}{b:Nat}{l:List UInt8}(h:RB w b l)(C:Nat):(convert 43 9 (.slice (some ⟨b,0,none⟩) l.length C)).run Tryz.prog w=.ok (.string ⟨l.toArray⟩) w :=
 run_convert_bytes_back (P:=Tryz.prog) w 43 9 5 ⟨b,0,none⟩ C l Tryz.underlying43 Tryz.underlying5 Tryz.underlying9 (fun j hj=>by
  have:=(h.at_ j l[j] (List.getElem?_eq_getElem hj)).1
  rw[Addr.add_lit,Nat.zero_add];exact this)
theorem qpu(c:UInt8)(w:World):Calls Tryz.prog 116 #[.int .u8 (c.toNat:Int)] w fun e w'=>e=.returned (.int .u8 ((sm c).toNat:Int))∧w'=w:=by
 have hc:=c.toNat_lt
 by_cases h1:65≤c.toNat
 ·have d1:decide ((65:Int)≤(c.toNat:Int))=true:=decide_eq_true (by omega)
  by_cases h2:c.toNat≤90
  ·have d2:decide ((c.toNat:Int)≤90)=true:=decide_eq_true (by omega)
   have HS:=hid (q2i ⟨h1,h2⟩)
   go_enter Tryz.func116,Tryz.ntmps116
   go_wp2
   go_ret
   exact⟨qak (by rw[HS.out];omega),rfl⟩
  ·have d2:decide ((c.toNat:Int)≤90)=false:=decide_eq_false (by omega)
   have HS:=hid (q0d (c:=c) (by omega))
   go_enter Tryz.func116,Tryz.ntmps116
   go_wp2
   go_ret
   exact⟨qak (by rw[HS.out]),rfl⟩
 ·have d1:decide ((65:Int)≤(c.toNat:Int))=false:=decide_eq_false (by omega)
  have HS:=hid (q0d (c:=c) (by omega))
  go_enter Tryz.func116,Tryz.ntmps116
  go_wp2
  go_ret
  exact⟨qak (by rw[HS.out]),rfl⟩
theorem qmq(c:UInt8)(w:World):Calls Tryz.prog 117 #[.int .u8 (c.toNat:Int)] w fun e w'=>e=.returned (.int .u8 ((cp c).toNat:Int))∧w'=w:=by
 have hc:=c.toNat_lt
 by_cases h1:97≤c.toNat
 ·have d1:decide ((97:Int)≤(c.toNat:Int))=true:=decide_eq_true (by omega)
  by_cases h2:c.toNat≤122
  ·have d2:decide ((c.toNat:Int)≤122)=true:=decide_eq_true (by omega)
   have HS:=hid (q1c ⟨h1,h2⟩)
   go_enter Tryz.func117,Tryz.ntmps117
   go_wp2
   go_ret
   exact⟨qak (by rw[HS.out];omega),rfl⟩
  ·have d2:decide ((c.toNat:Int)≤122)=false:=decide_eq_false (by omega)
   have HS:=hid (qyp (c:=c) (by omega))
   go_enter Tryz.func117,Tryz.ntmps117
   go_wp2
   go_ret
   exact⟨qak (by rw[HS.out]),rfl⟩
 ·have d1:decide ((97:Int)≤(c.toNat:Int))=false:=decide_eq_false (by omega)
  have HS:=hid (qyp (c:=c) (by omega))
  go_enter Tryz.func117,Tryz.ntmps117
  go_wp2
  go_ret
  exact⟨qak (by rw[HS.out]),rfl⟩
def bsl(l:List UInt8):ByteArray:=⟨l.toArray⟩
theorem qh0(fi:Nat)(g:UInt8→UInt8)(eg : ∀ args w,(callFunc fi args).run Tryz.prog w=.ok (.enter fi args) w)(hg : ∀ (c:UInt8) (w:World),Calls Tryz.prog fi #[.int .u8 (c.toNat:Int)] w fun e w'=>e=.returned (.int .u8 ((g c).toNat:Int))∧w'=w)
  (s:ByteArray) (w:World) (hs:s.size≤4294967281):Calls Tryz.prog 115 #[.string s,.func (.func fi) #[] #[]] w fun e w'=>e=.returned (.string (bsl (s.data.toList.map g)))∧Below w.heap.size w w':=by
 have HG:=hid hg
 clear hg
 obtain⟨C,W1,hconv,hrb,hb1⟩:=qt1 s w
 have hsz:=qag s
 have HZ:=hid hsz
 clear hsz
 have HR0:Hid (RB W1 w.heap.size (cs g 0 s.data.toList)):=hid (by rw[qt2];exact hrb)
 have HB1:=hid hb1
 clear hrb hb1
 go_enter Tryz.func115,Tryz.ntmps115
 go_wp2_with fail
 clear hconv
 go_loopw [12] (fun iv wr => ∃ i:Nat,iv=.int .i64 i∧i≤s.size∧Hid (RB wr w.heap.size (cs g i s.data.toList))∧Hid (Below w.heap.size w wr)) (fun i _=>s.size-(intOf i).toNat)
 case atStart=>exact⟨0,by go_num,Nat.zero_le _,HR0,HB1⟩
 case round =>
  obtain⟨i,rfl,hi,HR,HB⟩:=hrel
  by_cases hlt:i<s.size
  ·have hd:decide ((i:Int)<(s.size:Int))=true:=decide_eq_true (by omega)
   have hltI:(i:Int)<(s.size:Int):=by omega
   have hil:i<s.data.toList.length:=by rw[HZ.out];exact hlt
   obtain⟨hcell,hfz⟩:=HR.out.at_ i _ (q1d g hil)
   have hst:=HR.out.set (j:=i) (by rw[qng];exact hil) (g s.data.toList[i])
   rw[q1f g hil] at hst
   obtain⟨c,hc⟩ : ∃ c,s.data.toList[i]=c:=⟨_,rfl⟩
   rw[hc] at hcell hst
   have HST:=hid hst
   have hbs:=HB.out.size
   clear hst hc
   go_wp2_with fail
   refine(HG.out c _).mono ?_
   rintro e w3⟨rfl,rfl⟩
   go_wp2_with fail
   go_roundw
   case rel=>exact⟨i+1,by go_num,by omega,HST,hid (HB.out.setCell (p:=⟨w.heap.size,i,none⟩) (Nat.le_refl _) _)⟩
   case measure=>simp[intOf];omega
  ·have hd:decide ((i:Int)<(s.size:Int))=false:=decide_eq_false (by omega)
   obtain rfl:i=s.size:=by omega
   have hcv:=qi2 HR.out C
   rw[qng,qnf g (by rw[HZ.out];exact Nat.le_refl _),HZ.out] at hcv
   go_wp2_with fail
   go_ret
   exact⟨rfl,HB.out⟩
theorem qm0(s:ByteArray)(w:World)(hs:s.size≤4294967281):Calls Tryz.prog 75 #[.string s] w fun e w'=>e=.returned (.string (bsl (s.data.toList.map sm)))∧Below w.heap.size w w':=by
 have HM:=hid (fun w=>qh0 116 sm (enters_of Tryz.func116 (by kernel_rfl) rfl) qpu s w hs)
 go_enter Tryz.func75,Tryz.ntmps75
 go_wp2_with fail
 refine(HM.out _).mono ?_
 rintro e w1⟨rfl,hb1⟩
 go_wp2
 go_ret
 exact⟨rfl,hb1⟩
theorem qm7(s:ByteArray)(w:World)(hs:s.size≤4294967281):Calls Tryz.prog 76 #[.string s] w fun e w'=>e=.returned (.string (bsl (s.data.toList.map cp)))∧Below w.heap.size w w':=by
 have HM:=hid (fun w=>qh0 117 cp (enters_of Tryz.func117 (by kernel_rfl) rfl) qmq s w hs)
 go_enter Tryz.func76,Tryz.ntmps76
 go_wp2_with fail
 refine(HM.out _).mono ?_
 rintro e w1⟨rfl,hb1⟩
 go_wp2
 go_ret
 exact⟨rfl,hb1⟩
end Go.Proofs.YtldkgbnmaefaaaaGreatDoor.Sf
namespace Go.Proofs.YtldkgbnmaefaaaaGreatDoor.Sf
open Go.RowKit Go.Shelf
set_option linter.unusedVariables false
theorem qkq{P:Program}{C:World→Prop}{a:Act}{l:List Oper}{id:Nat}{R:Exit→Act→World→Prop}{w:World}(hm:P.follows .mixedOrders=true)(hB:Region.lexB .any l.toArray=true)(hC:C w.drew)
  (h:wpQuiet P l.toArray C (fun a' => ∀ w',C w'→R .normal a' w') l a):(Code.region id l.toArray true).wp P R a w :=
 wp_region_quiet (C:=C) hm hB hC (by simpa using h)
def Wz(w:World) := { W:World // Below w.heap.size w W }
theorem xed(s:ByteArray)(hs:s.size≤4294967281){w:World}(x:Wz w) :
  Calls Tryz.prog 76 #[.string s] x.1 fun e w''=>e=.returned (.string (bsl (s.data.toList.map cp))) ∧ ∃ y:Wz w,w''=y.1 :=
 (qm7 s x.1 hs).mono fun e w' ⟨he,hb⟩=>⟨he,⟨w',x.2.trans (hb.mono x.2.size)⟩,rfl⟩
theorem xdv(s:ByteArray)(hs:s.size≤4294967281){w:World}(x:Wz w) :
  Calls Tryz.prog 75 #[.string s] x.1 fun e w''=>e=.returned (.string (bsl (s.data.toList.map sm))) ∧ ∃ y:Wz w,w''=y.1 :=
 (qm0 s x.1 hs).mono fun e w' ⟨he,hb⟩=>⟨he,⟨w',x.2.trans (hb.mono x.2.size)⟩,rfl⟩
theorem qqc(l:List UInt8):(bsl l).size=l.length:=by rw[←qag];rfl
theorem xah:chg true=cp:=rfl
theorem xag:chg false=sm:=rfl
theorem qmz(s:ByteArray)(b:Bool)(w:World)(hs:s.size≤4294967281):Calls Tryz.prog 118 #[.string s,.bool b] w fun e w'=>e=.returned (.string (bsl (cs (chg b) 1 s.data.toList)))∧Below w.heap.size w w':=by
 by_cases h0:s.size=0
 ·have e1:s.toList.isEmpty=true:=by rw[Lib.toList_data,qgv h0];rfl
  have HO:Hid (bsl (cs (chg b) 1 s.data.toList)=⟨#[]⟩):=hid (by rw[qgv h0];rfl)
  go_enter Tryz.func118,Tryz.ntmps118
  go_wp2
  go_ret
  exact⟨qa4 HO.out.symm,Below.refl _ _⟩
 ·have e1:=qhz h0
  have a1:(1:Int)≤(s.size:Int):=by omega
  have a2:1≤s.size:=by omega
  have z0:(s.extract 0 1).size≤1:=by rw[ByteArray.size_extract];omega
  have z1:(s.extract 1 s.size).size≤s.size:=by rw[ByteArray.size_extract];omega
  have hx1:(s.extract 0 1).size≤4294967281:=by omega
  have ne : ∀ w:World,Nonempty (Wz w):=fun w=>⟨⟨w,Below.refl _ w⟩⟩
  cases b with
  |true =>
   have HO:=hid (q1e cp h0)
   have hz:(bsl ((s.extract 0 1).data.toList.map cp)).size+(s.extract 1 s.size).size≤9223372036854775807:=by
    rw[qqc,List.length_map,qag];omega
   have HCg:=hid xah
   have HU:=hid (fun(x:Wz w)=>xed (s.extract 0 1) hx1 x)
   obtain⟨u,hu⟩ : ∃ u,bsl ((s.extract 0 1).data.toList.map cp)=u:=⟨_,rfl⟩
   rw[hu] at hz HU
   have HO2:Hid (u++s.extract 1 s.size=bsl (cs (chg true) 1 s.data.toList)):=hid (by rw[←hu];exact HO.out)
   clear hu
   go_enter Tryz.func118,Tryz.ntmps118
   go_wp2
   have ne3:=ne w
   refine qkq (C:=fun W => ∃ x:Wz w,W=x.1) (by kernel_rfl) (by kernel_rfl) ⟨⟨_,(Below.refl _ w).drew⟩,rfl⟩ ?_
   repeat (go_big_quiet_step ((first | (go_at_call 76;with_reducible exact HU.out _))))
   refine wpQuiet_nil ?_
   intro w' hw'
   obtain⟨x,rfl⟩:=hw'
   go_wp2
   go_ret
   exact⟨qa4 HO2.out,x.2⟩
  |false =>
   have HO:=hid (q1e sm h0)
   have hz:(bsl ((s.extract 0 1).data.toList.map sm)).size+(s.extract 1 s.size).size≤9223372036854775807:=by
    rw[qqc,List.length_map,qag];omega
   have HCg:=hid xag
   have HU:=hid (fun(x:Wz w)=>xdv (s.extract 0 1) hx1 x)
   obtain⟨u,hu⟩ : ∃ u,bsl ((s.extract 0 1).data.toList.map sm)=u:=⟨_,rfl⟩
   rw[hu] at hz HU
   have HO2:Hid (u++s.extract 1 s.size=bsl (cs (chg false) 1 s.data.toList)):=hid (by rw[←hu];exact HO.out)
   clear hu
   go_enter Tryz.func118,Tryz.ntmps118
   go_wp2
   have ne3:=ne w
   refine qkq (C:=fun W => ∃ x:Wz w,W=x.1) (by kernel_rfl) (by kernel_rfl) ⟨⟨_,(Below.refl _ w).drew⟩,rfl⟩ ?_
   repeat (go_big_quiet_step ((first | (go_at_call 75;with_reducible exact HU.out _))))
   refine wpQuiet_nil ?_
   intro w' hw'
   obtain⟨x,rfl⟩:=hw'
   go_wp2
   go_ret
   exact⟨qa4 HO2.out,x.2⟩
theorem qya(s:ByteArray)(w:World)(hs:s.size≤4294967281):Calls Tryz.prog 79 #[.string s] w fun e w'=>e=.returned (.string (bsl (tr s.data.toList)))∧Below w.heap.size w w':=by
 have H:Hid (∀ w:World,Calls Tryz.prog 119 #[.string s,.string ⟨#[9,10,13,32]⟩] w fun e w'=>e=.returned (.string (bsl (tr s.data.toList)))∧Below w.heap.size w w') :=
  hid (fun w=>Any.strings_Trim_laid Tryz.lays160 (by kernel_rfl) s ⟨#[9,10,13,32]⟩ w (by omega) (by decide) (ascii_of_all (by decide)))
 go_enter Tryz.func79,Tryz.ntmps79
 go_wp2_with fail
 refine(H.out _).mono ?_
 rintro e w1⟨rfl,hb1⟩
 go_wp2
 go_ret
 exact⟨rfl,hb1⟩
theorem qhf(c:UInt8)(b:Bool)(w:World):Calls Tryz.prog 87 #[.int .u8 (c.toNat:Int),.bool b] w fun e w'=>e=.returned (.int .u8 ((chg b c).toNat:Int))∧w'=w:=by
 have hc:=c.toNat_lt
 cases b with
 |true =>
  by_cases h1:97≤c.toNat
  ·have d1:decide ((97:Int)≤(c.toNat:Int))=true:=decide_eq_true (by omega)
   by_cases h2:c.toNat≤122
   ·have d2:decide ((c.toNat:Int)≤122)=true:=decide_eq_true (by omega)
    have HS:Hid (((chg true c).toNat:Int)=_):=hid (q1c ⟨h1,h2⟩)
    go_enter Tryz.func87,Tryz.ntmps87
    go_wp2
    go_ret
    exact⟨qak (by rw[HS.out]),rfl⟩
   ·have d2:decide ((c.toNat:Int)≤122)=false:=decide_eq_false (by omega)
    have HS:Hid (chg true c=c):=hid (qyp (by omega))
    go_enter Tryz.func87,Tryz.ntmps87
    go_wp2
    go_ret
    exact⟨qak (by rw[HS.out]),rfl⟩
  ·have d1:decide ((97:Int)≤(c.toNat:Int))=false:=decide_eq_false (by omega)
   have HS:Hid (chg true c=c):=hid (qyp (by omega))
   go_enter Tryz.func87,Tryz.ntmps87
   go_wp2
   go_ret
   exact⟨qak (by rw[HS.out]),rfl⟩
 |false =>
  by_cases h1:65≤c.toNat
  ·have d1:decide ((65:Int)≤(c.toNat:Int))=true:=decide_eq_true (by omega)
   by_cases h2:c.toNat≤90
   ·have d2:decide ((c.toNat:Int)≤90)=true:=decide_eq_true (by omega)
    have HS:Hid (((chg false c).toNat:Int)=_):=hid (q2i ⟨h1,h2⟩)
    go_enter Tryz.func87,Tryz.ntmps87
    go_wp2
    go_ret
    exact⟨qak (by rw[HS.out]),rfl⟩
   ·have d2:decide ((c.toNat:Int)≤90)=false:=decide_eq_false (by omega)
    have HS:Hid (chg false c=c):=hid (q0d (by omega))
    go_enter Tryz.func87,Tryz.ntmps87
    go_wp2
    go_ret
    exact⟨qak (by rw[HS.out]),rfl⟩
  ·have d1:decide ((65:Int)≤(c.toNat:Int))=false:=decide_eq_false (by omega)
   have HS:Hid (chg false c=c):=hid (q0d (by omega))
   go_enter Tryz.func87,Tryz.ntmps87
   go_wp2
   go_ret
   exact⟨qak (by rw[HS.out]),rfl⟩
theorem qi1(s:ByteArray)(n:Nat)(b:Bool)(w:World)(hs:s.size≤4294967281)(hn:n≤4294967281):Calls Tryz.prog 42 #[.string s,.int .i64 (n:Int),.bool b] w fun e w'=>e=.returned (.string (bsl (cs (chg b) n s.data.toList)))∧Below w.heap.size w w':=by
 have HG:=hid (fun c w=>qhf c b w)
 obtain⟨g,hg⟩ : ∃ g,chg b=g:=⟨_,rfl⟩
 simp only[hg] at HG ⊢
 clear hg
 obtain⟨C,W1,hconv,hrb,hb1⟩:=qt1 s w
 have hsz:=qag s
 have HZ:=hid hsz
 clear hsz
 have HR0:Hid (RB W1 w.heap.size (cs g 0 s.data.toList)):=hid (by rw[qt2];exact hrb)
 have HB1:=hid hb1
 clear hrb hb1
 go_enter Tryz.func42,Tryz.ntmps42
 go_wp2_with fail
 clear hconv
 go_loopw [8] (fun iv wr => ∃ i:Nat,iv=.int .i64 i∧i≤s.size∧i≤n∧Hid (RB wr w.heap.size (cs g i s.data.toList))∧Hid (Below w.heap.size w wr)) (fun i _=>s.size-(intOf i).toNat)
 case atStart=>exact⟨0,by go_num,Nat.zero_le _,Nat.zero_le _,HR0,HB1⟩
 case round =>
  obtain⟨i,rfl,hi,hin,HR,HB⟩:=hrel
  by_cases hlt:i<s.size
  ·have hltI:(i:Int)<(s.size:Int):=by omega
   have hd:decide ((i:Int)<(s.size:Int))=true:=decide_eq_true hltI
   have hil:i<s.data.toList.length:=by rw[HZ.out];exact hlt
   by_cases hln:i<n
   ·have hlnI:(i:Int)<(n:Int):=by omega
    have hd2:decide ((i:Int)<(n:Int))=true:=decide_eq_true hlnI
    obtain⟨hcell,hfz⟩:=HR.out.at_ i _ (q1d g hil)
    have hst:=HR.out.set (j:=i) (by rw[qng];exact hil) (g s.data.toList[i])
    rw[q1f g hil] at hst
    obtain⟨c,hc⟩ : ∃ c,s.data.toList[i]=c:=⟨_,rfl⟩
    rw[hc] at hcell hst
    have HST:=hid hst
    have hbs:=HB.out.size
    clear hst hc
    go_wp2_with fail
    refine(HG.out c _).mono ?_
    rintro e w3⟨rfl,rfl⟩
    go_wp2_with fail
    go_roundw
    case rel=>exact⟨i+1,by go_num,by omega,by omega,HST,hid (HB.out.setCell (p:=⟨w.heap.size,i,none⟩) (Nat.le_refl _) _)⟩
    case measure=>simp[intOf];omega
   ·have hlnI : ¬ (i:Int)<(n:Int):=by omega
    have hd2:decide ((i:Int)<(n:Int))=false:=decide_eq_false hlnI
    obtain rfl:i=n:=by omega
    have hcv:=qi2 HR.out C
    rw[qng,HZ.out] at hcv
    go_wp2_with fail
    go_ret
    exact⟨rfl,HB.out⟩
  ·have hltI : ¬ (i:Int)<(s.size:Int):=by omega
   have hd:decide ((i:Int)<(s.size:Int))=false:=decide_eq_false hltI
   obtain rfl:i=s.size:=by omega
   have hcv:=qi2 HR.out C
   have hca:=(qnf g (n:=s.size) (l:=s.data.toList) (by rw[HZ.out];exact Nat.le_refl _)).trans (qnf g (n:=n) (l:=s.data.toList) (by rw[HZ.out];exact hin)).symm
   rw[qng,HZ.out,hca] at hcv
   clear hca
   go_wp2_with fail
   go_ret
   exact⟨rfl,HB.out⟩
theorem qrx(s:ByteArray)(w:World)(hs:s.size≤4294967281):Calls Tryz.prog 30 #[.string s] w fun e w'=>e=.returned (.string (bsl (s.data.toList.map sm)))∧Below w.heap.size w w':=by
 have HM:=hid (fun w=>qi1 s s.size false w hs hs)
 have HA:Hid (cs (chg false) s.size s.data.toList=s.data.toList.map sm):=hid (qnf _ (by rw[qag];exact Nat.le_refl _))
 rw[HA.out] at HM
 go_enter Tryz.func30,Tryz.ntmps30
 go_wp2_with fail
 refine(HM.out _).mono ?_
 rintro e w1⟨rfl,hb1⟩
 go_wp2
 go_ret
 exact⟨rfl,hb1⟩
theorem qkb(s:ByteArray)(w:World)(hs:s.size≤4294967281):Calls Tryz.prog 22 #[.string s] w fun e w'=>e=.returned (.string (bsl (s.data.toList.map cp)))∧Below w.heap.size w w':=by
 have HM:=hid (fun w=>qi1 s s.size true w hs hs)
 have HA:Hid (cs (chg true) s.size s.data.toList=s.data.toList.map cp):=hid (qnf _ (by rw[qag];exact Nat.le_refl _))
 rw[HA.out] at HM
 go_enter Tryz.func22,Tryz.ntmps22
 go_wp2_with fail
 refine(HM.out _).mono ?_
 rintro e w1⟨rfl,hb1⟩
 go_wp2
 go_ret
 exact⟨rfl,hb1⟩
theorem qka(s:ByteArray)(b:Bool)(w:World)(hs:s.size≤4294967281):Calls Tryz.prog 31 #[.string s,.bool b] w fun e w'=>e=.returned (.string (bsl (cs (chg b) 1 s.data.toList)))∧Below w.heap.size w w':=by
 have HM:=hid (fun w=>qi1 s 1 b w hs (by omega))
 go_enter Tryz.func31,Tryz.ntmps31
 go_wp2_with fail
 refine(HM.out _).mono ?_
 rintro e w1⟨rfl,hb1⟩
 go_wp2
 go_ret
 exact⟨rfl,hb1⟩
theorem qjs(c:UInt8)(w:World):Calls Tryz.prog 40 #[.int .u8 (c.toNat:Int)] w fun e w'=>e=.returned (.bool (spc c))∧w'=w:=by
 have HS:=hid (q2j c)
 by_cases h1:c.toNat=9
 ·have d1:((c.toNat:Int)==9)=true:=by rw[beq_iff_eq];omega
  have HQ:Hid (spc c=true):=hid (by rw[HS.out,d1];rfl)
  go_enter Tryz.func40,Tryz.ntmps40
  go_wp2
  go_ret
  exact⟨qaw HQ.out.symm,rfl⟩
 ·have d1:((c.toNat:Int)==9)=false:=by rw[beq_eq_false_iff_ne];omega
  by_cases h2:c.toNat=10
  ·have d2:((c.toNat:Int)==10)=true:=by rw[beq_iff_eq];omega
   have HQ:Hid (spc c=true):=hid (by rw[HS.out,d1,d2];rfl)
   go_enter Tryz.func40,Tryz.ntmps40
   go_wp2
   go_ret
   exact⟨qaw HQ.out.symm,rfl⟩
  ·have d2:((c.toNat:Int)==10)=false:=by rw[beq_eq_false_iff_ne];omega
   by_cases h3:c.toNat=13
   ·have d3:((c.toNat:Int)==13)=true:=by rw[beq_iff_eq];omega
    have HQ:Hid (spc c=true):=hid (by rw[HS.out,d1,d2,d3];rfl)
    go_enter Tryz.func40,Tryz.ntmps40
    go_wp2
    go_ret
    exact⟨qaw HQ.out.symm,rfl⟩
   ·have d3:((c.toNat:Int)==13)=false:=by rw[beq_eq_false_iff_ne];omega
    have HQ:Hid (spc c=((c.toNat:Int)==32)):=hid (by rw[HS.out,d1,d2,d3];rfl)
    go_enter Tryz.func40,Tryz.ntmps40
    go_wp2
    go_ret
    exact⟨qaw HQ.out.symm,rfl⟩
theorem qm5(s0:ByteArray)(w:World)(hs:s0.size≤4294967281):Calls Tryz.prog 19 #[.string s0] w fun e w'=>e=.returned (.string (bsl (tr s0.data.toList)))∧Below w.heap.size w w':=by
 have HT:Hid (tr s0.data.toList=trR (trL s0.data.toList)):=hid (by rw[qpx,qpy])
 go_enter Tryz.func19,Tryz.ntmps19
 go_wp2_with fail
 go_loopw [0] (fun sv wr => ∃ s:ByteArray,sv=.string s∧s.size≤4294967281∧Hid (trL s.data.toList=trL s0.data.toList)∧w=wr) (fun sv _=>match sv with | .string s=>s.size | _=>0)
 case atStart=>exact⟨s0,rfl,hs,hid rfl,rfl⟩
 case round =>
  obtain⟨s,rfl,hsz,HL,rfl⟩:=hrel
  by_cases h0:s.size=0
  ·have d0:decide ((0:Int)<(s.size:Int))=false:=decide_eq_false (by omega)
   have HF:Hid (s.data.toList=trL s0.data.toList):=hid (by rw[←HL.out,qgv h0];rfl)
   clear HL
   go_wp2_with fail
   have hszs:s.size≤4294967281:=hsz
   go_loopw [0] (fun sv wr => ∃ t:ByteArray,sv=.string t∧t.size≤4294967281∧Hid (trR t.data.toList=trR s.data.toList)∧w=wr) (fun sv _=>match sv with | .string s=>s.size | _=>0)
   case atStart=>exact⟨s,rfl,hszs,hid rfl,rfl⟩
   case round =>
    obtain⟨t,rfl,htz,HR,rfl⟩:=hrel
    by_cases k0:t.size=0
    ·have f0:decide ((0:Int)<(t.size:Int))=false:=decide_eq_false (by omega)
     have HE:Hid (t=bsl (tr s0.data.toList)):=hid (by
      apply qb4
      show t.data.toList=tr s0.data.toList
      rw[HT.out,←HF.out,←HR.out,qgv k0];rfl)
     go_wp2_with fail
     go_ret
     exact⟨qa4 HE.out,Below.refl _ _⟩
    ·have kpos:0<t.size:=by omega
     have kposI:(0:Int)<(t.size:Int):=by omega
     have f0:decide ((0:Int)<(t.size:Int))=true:=decide_eq_true kposI
     have KY:=hid (fun h=>qj0 kpos h)
     have KN:=hid (fun h=>qky kpos h)
     have hlast:t.size-1<t.size:=by omega
     obtain⟨c2,hc2⟩ : ∃ c,t[t.size-1]'hlast=c:=⟨_,rfl⟩
     have hget2 : ∀ h,t[t.size-1]'h=c2:=fun _=>hc2
     rw[hc2] at KY KN
     have KSp:=hid (fun w=>qjs c2 w)
     obtain⟨b2,hb2⟩ : ∃ b,spc c2=b:=⟨_,rfl⟩
     rw[hb2] at KSp KY KN
     have q1:(0:Int)≤(t.size:Int)-1:=by omega
     have q2:((t.size:Int)-1).toNat=t.size-1:=by omega
     have q3:(t.size:Int)-1<(t.size:Int):=by omega
     have q4:(t.size:Int)-1≤(t.size:Int):=by omega
     clear hb2 hc2
     cases b2 with
     |true =>
      have HR2:Hid (trR (t.extract 0 (t.size-1)).data.toList=trR s.data.toList):=hid ((KY.out rfl).symm.trans HR.out)
      have z2:(t.extract 0 (t.size-1)).size=t.size-1:=by rw[ByteArray.size_extract];omega
      clear KY KN k0
      go_wp2_with fail
      refine(KSp.out _).mono ?_
      rintro e w4⟨rfl,rfl⟩
      go_wp2_with fail
      go_roundw
      case rel=>exact⟨_,rfl,by omega,HR2,trivial⟩
      case measure=>show(t.extract 0 (t.size-1)).size<t.size;omega
     |false =>
      have HE:Hid (t=bsl (tr s0.data.toList)):=hid (by
       apply qb4
       show t.data.toList=tr s0.data.toList
       rw[HT.out,←HF.out,←HR.out,KN.out rfl])
      clear KY KN k0
      go_wp2_with fail
      refine(KSp.out _).mono ?_
      rintro e w4⟨rfl,rfl⟩
      go_wp2_with fail
      go_ret
      exact⟨qa4 HE.out,Below.refl _ _⟩
  ·have hpos:0<s.size:=by omega
   have hposI:(0:Int)<(s.size:Int):=by omega
   have d0:decide ((0:Int)<(s.size:Int))=true:=decide_eq_true hposI
   have HY:=hid (fun h=>qpw hpos h)
   have HN:=hid (fun h=>qsp hpos h)
   obtain⟨c,hc⟩ : ∃ c,s[0]'hpos=c:=⟨_,rfl⟩
   have hget : ∀ h,s[0]'h=c:=fun _=>hc
   rw[hc] at HY HN
   have HSp:=hid (fun w=>qjs c w)
   obtain⟨b,hb⟩ : ∃ b,spc c=b:=⟨_,rfl⟩
   rw[hb] at HSp HY HN
   clear hb hc
   cases b with
   |true =>
    have HL2:Hid (trL (s.extract 1 s.size).data.toList=trL s0.data.toList):=hid ((HY.out rfl).symm.trans HL.out)
    have a1:(1:Int)≤(s.size:Int):=by omega
    have a2:1≤s.size:=by omega
    have z1:(s.extract 1 s.size).size=s.size-1:=by rw[ByteArray.size_extract];omega
    clear HY HN h0
    go_wp2_with fail
    refine(HSp.out _).mono ?_
    rintro e w3⟨rfl,rfl⟩
    go_wp2_with fail
    go_roundw
    case rel=>exact⟨_,rfl,by omega,HL2,trivial⟩
    case measure=>show(s.extract 1 s.size).size<s.size;omega
   |false =>
    have HF:Hid (s.data.toList=trL s0.data.toList):=hid ((HN.out rfl).symm.trans HL.out)
    clear HY HN HL h0
    go_wp2_with fail
    refine(HSp.out _).mono ?_
    rintro e w3⟨rfl,hw3⟩
    subst w3
    go_wp2_with fail
    have hszs:s.size≤4294967281:=hsz
    go_loopw [0] (fun sv wr => ∃ t:ByteArray,sv=.string t∧t.size≤4294967281∧Hid (trR t.data.toList=trR s.data.toList)∧w=wr) (fun sv _=>match sv with | .string s=>s.size | _=>0)
    case atStart=>exact⟨s,rfl,hszs,hid rfl,rfl⟩
    case round =>
     obtain⟨t,rfl,htz,HR,rfl⟩:=hrel
     by_cases k0:t.size=0
     ·have f0:decide ((0:Int)<(t.size:Int))=false:=decide_eq_false (by omega)
      have HE:Hid (t=bsl (tr s0.data.toList)):=hid (by
       apply qb4
       show t.data.toList=tr s0.data.toList
       rw[HT.out,←HF.out,←HR.out,qgv k0];rfl)
      go_wp2_with fail
      go_ret
      exact⟨qa4 HE.out,Below.refl _ _⟩
     ·have kpos:0<t.size:=by omega
      have kposI:(0:Int)<(t.size:Int):=by omega
      have f0:decide ((0:Int)<(t.size:Int))=true:=decide_eq_true kposI
      have KY:=hid (fun h=>qj0 kpos h)
      have KN:=hid (fun h=>qky kpos h)
      have hlast:t.size-1<t.size:=by omega
      obtain⟨c2,hc2⟩ : ∃ c,t[t.size-1]'hlast=c:=⟨_,rfl⟩
      have hget2 : ∀ h,t[t.size-1]'h=c2:=fun _=>hc2
      rw[hc2] at KY KN
      have KSp:=hid (fun w=>qjs c2 w)
      obtain⟨b2,hb2⟩ : ∃ b,spc c2=b:=⟨_,rfl⟩
      rw[hb2] at KSp KY KN
      have q1:(0:Int)≤(t.size:Int)-1:=by omega
      have q2:((t.size:Int)-1).toNat=t.size-1:=by omega
      have q3:(t.size:Int)-1<(t.size:Int):=by omega
      have q4:(t.size:Int)-1≤(t.size:Int):=by omega
      clear hb2 hc2
      cases b2 with
      |true =>
       have HR2:Hid (trR (t.extract 0 (t.size-1)).data.toList=trR s.data.toList):=hid ((KY.out rfl).symm.trans HR.out)
       have z2:(t.extract 0 (t.size-1)).size=t.size-1:=by rw[ByteArray.size_extract];omega
       clear KY KN k0
       go_wp2_with fail
       refine(KSp.out _).mono ?_
       rintro e w4⟨rfl,rfl⟩
       go_wp2_with fail
       go_roundw
       case rel=>exact⟨_,rfl,by omega,HR2,trivial⟩
       case measure=>show(t.extract 0 (t.size-1)).size<t.size;omega
      |false =>
       have HE:Hid (t=bsl (tr s0.data.toList)):=hid (by
        apply qb4
        show t.data.toList=tr s0.data.toList
        rw[HT.out,←HF.out,←HR.out,KN.out rfl])
       clear KY KN k0
       go_wp2_with fail
       refine(KSp.out _).mono ?_
       rintro e w4⟨rfl,rfl⟩
       go_wp2_with fail
       go_ret
       exact⟨qa4 HE.out,Below.refl _ _⟩
end Go.Proofs.YtldkgbnmaefaaaaGreatDoor.Sf
namespace Go.Proofs.YtldkgbnmaefaaaaGreatDoor.Sf
def rl(s t u:ByteArray):List Nat→Nat→List UInt8
 | [],f=>(s.extract f s.size).data.toList
 |a :: l,f=>(s.extract f a).data.toList++(u.data.toList++rl s t u l (a+t.size))
theorem qop{s:ByteArray}{a b:Nat}(h:b≤s.size):(s.extract a b).data.toList.length=b-a:=by
 rw[qag,ByteArray.size_extract,Nat.min_eq_left h]
theorem q2c{s t u:ByteArray} : ∀ {l:List Nat} {f:Nat},Ok s t l f→((rl s t u l f).length:Int)=(s.size:Int)-f+(l.length:Int)*((u.size:Int)-t.size)
 | [],f,h=>by
  have h':f≤s.size:=h
  rw[rl,qop (Nat.le_refl _),List.length_nil];omega
 |a :: l,f,h=>by
  have ih:=q2c (u:=u) h.2.2.2.2
  have h1:=h.1
  have h2:=h.2.2.1
  rw[rl,List.length_append,List.length_append,qop (by omega),qag,List.length_cons,Int.natCast_add l.length,Int.add_mul]
  omega
theorem Ok.take{s t:ByteArray} : ∀ {l:List Nat} {f:Nat} (_:Ok s t l f) (n:Nat),Ok s t (l.take n) f
 | [],f,h,n=>by rw[List.take_nil];exact h
 |a :: l,f,h,0=>h.le
 |a :: l,f,h,n+1=>⟨h.1,h.2.1,h.2.2.1,h.2.2.2.1,Ok.take h.2.2.2.2 n⟩
theorem Ok.drop{s t:ByteArray}{a:Nat}{l:List Nat}{f:Nat}(h:Ok s t (a :: l) f):Ok s t l (a+t.size):=h.2.2.2.2
theorem qlj{s:ByteArray}{a b c:Nat}(h:a≤b)(h2:b≤c):(s.extract a b).data.toList++(s.extract b c).data.toList=(s.extract a c).data.toList:=by
 rw[ext_list,ext_list,ext_list,show c-a=(b-a)+(c-b) from by omega,List.take_add]
 congr 2
 rw[List.drop_drop];congr 1;omega
theorem Ok.mid{s t:ByteArray}{a:Nat}{l:List Nat}{f:Nat}(h:Ok s t (a :: l) f):(s.extract f a).data.toList++(t.data.toList++(s.extract (a+t.size) s.size).data.toList)=(s.extract f s.size).data.toList:=by
 have h1:=h.1
 have h2:=h.2.2.1
 have h3:t.data.toList=(s.extract a (a+t.size)).data.toList:=by rw[h.2.2.2.1]
 rw[h3,qlj (by omega) h2,qlj h1 (by omega)]
def qjq(t u:ByteArray)(n i:Nat):List UInt8:=if n<i then t.data.toList else if 0<i then u.data.toList else []
def wr(t u:ByteArray)(n:Nat)(l:List (ByteArray×Nat)):List UInt8:=l.flatMap (fun x=>qjq t u n x.2++x.1.data.toList)
theorem q8i(t u:ByteArray)(n:Nat)(l:List (ByteArray×Nat))(x:ByteArray×Nat):wr t u n (l++[x])=wr t u n l++(qjq t u n x.2++x.1.data.toList):=by simp[wr]
theorem qmw(t u:ByteArray)(n:Nat)(b:ByteArray)(l:List ByteArray)(i:Nat):wr t u n ((b :: l).zipIdx i)=qjq t u n i++(b.data.toList++wr t u n (l.zipIdx (i+1))):=by simp[wr]
theorem q2s(t u:ByteArray)(n:Nat)(i:Nat):wr t u n (([]:List ByteArray).zipIdx i)=[]:=rfl
theorem qxl{s t u:ByteArray}{n:Nat} : ∀ {l:List Nat} {f i:Nat},Ok s t l f→n<i→wr t u n ((dv s t l f).zipIdx i)=t.data.toList++(s.extract f s.size).data.toList
 | [],f,i,h,hi=>by rw[dv,qmw,q2s,List.append_nil,qjq,if_pos hi]
 |a :: l,f,i,h,hi=>by rw[dv,qmw,qxl h.drop (by omega),qjq,if_pos hi,h.mid]
theorem q2r{s t u:ByteArray}{n:Nat} : ∀ {l:List Nat} {f i:Nat},Ok s t l f→i≤n→wr t u n ((dv s t l f).zipIdx i)=qjq t u n i++rl s t u (l.take (n-i)) f
 | [],f,i,h,hi=>by rw[dv,qmw,q2s,List.append_nil,List.take_nil];rfl
 |a :: l,f,i,h,hi=>by
  rw[dv,qmw]
  by_cases h1:i=n
  ·subst h1
   rw[qxl h.drop (by omega),Nat.sub_self,List.take_zero,h.mid];rfl
  ·rw[q2r h.drop (by omega),show n-i=(n-(i+1))+1 from by omega,List.take_succ_cons,rl]
   congr 3
   rw[qjq,if_neg (by omega),if_pos (by omega)]
theorem xcj(s t u:ByteArray)(n:Nat):wr t u n ((parts s t).zipIdx)=rl s t u ((occ s t).take n) 0:=by
 have:=q2r (u:=u) (n:=n) (qje s t) (i:=0) (Nat.zero_le _)
 rw[Nat.sub_zero] at this
 exact this
def tm(s t:ByteArray)(m:Int):Nat:=if m<0 then (occ s t).length else min (occ s t).length m.toNat
def rpb(s t u:ByteArray)(m:Int):ByteArray:=⟨(rl s t u ((occ s t).take (tm s t m)) 0).toArray⟩
theorem qw6(s t:ByteArray)(m:Int):tm s t m≤(occ s t).length:=by unfold tm;split<;>omega
theorem qis(s t u:ByteArray)(m:Int):((rpb s t u m).size:Int)=(s.size:Int)+(tm s t m:Int)*((u.size:Int)-t.size):=by
 have h:=q2c (u:=u) ((qje s t).take (tm s t m))
 rw[List.length_take,Nat.min_eq_left (qw6 s t m)] at h
 rw[←qag]
 show((rl s t u ((occ s t).take (tm s t m)) 0).length:Int)=_
 rw[h];omega
end Go.Proofs.YtldkgbnmaefaaaaGreatDoor.Sf
