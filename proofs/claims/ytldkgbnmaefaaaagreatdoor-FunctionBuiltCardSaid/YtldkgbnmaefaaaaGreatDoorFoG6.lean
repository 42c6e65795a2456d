import Derived.Test.YtldkgbnmaefaaaaGreatDoorFoG5
import Derived.Test.YtldkgbnmaefaaaaGreatDoorFoG4
import Derived.Test.YtldkgbnmaefaaaaGreatDoorFoG3
set_option maxRecDepth 100000
set_option maxHeartbeats 4000000
open Go.Lib (hid)
namespace Go.Proofs.YtldkgbnmaefaaaaGreatDoor.Fo
open Go.RowKit Go.Proofs.YtldkgbnmaefaaaaGreatDoor.Nu
set_option linter.unusedVariables false
set_option linter.unusedSimpArgs false
theorem qxe(n:Nat)(hu1:LvF 147 (n+1) 6)(hu0:LvF 147 n 6)(hp:LvF 209 n 8):LvF 147 (n+2) 6:=by
 intro gp bt v L w l h hn
 have hgp:=h.lt
 have hbt:=h.lb
 have hQ6:=Q_6 (n+1) .bad l false
 have hQ7:=Q_7 n .bad l false
 have hz1:(w.alloc zno).heap.size=w.heap.size+1:=World.size_alloc _ _
 have hS1:Spr gp bt v L ((w.alloc zno).alloc (row uns 9)) l false:=(h.alloc _).alloc _
 have hB1:Below w.heap.size w ((w.alloc zno).alloc (row uns 9)):=((Below.refl _ w).alloc (Nat.le_refl _) _).alloc (by simp) _
 have hR1:((w.alloc zno).alloc (row uns 9)).heap[w.heap.size]? = some zno:=qbq (qaj _ _) _
 have HT:=hid (qnq hS1 (w.heap.size+1) uns (row_of (t:=9) (qgr (by simp) _)) (by decide))
 rw[show(uns:List Tok).length=4 from rfl] at HT
 generalize Q (n+2) 6 .bad l false=RR at hQ6 ⊢
 have HQ6:=hid hQ6
 have HQ7:=hid hQ7
 have HB1:=hid hB1;have HR1:=hid hR1;have HS1:=hid hS1
 have HU1:=hid hu1;have HU0:=hid hu0;have HPr:=hid hp
 clear h hQ6 hQ7 hB1 hR1 hS1 hu1 hu0 hp
 have hrl:=qn5 n 8 .bad l false
 unfold row sv at HT HB1 HR1 HS1
 simp only[uns,List.map_cons,List.map_nil] at HT HB1 HR1 HS1
 have hun:uns=[[45],[43],[110,111,116],[102,108,111,111,114]]:=rfl
 cases hq:qdt [[45],[43],[110,111,116],[102,108,111,111,114]] l false with
 |some y =>
  obtain⟨o,r⟩:=y
  rw[hq] at HT
  obtain⟨hl,ho,_⟩:=qfs hq
  have HE:Hid (RR=⟨.un o (Q (n+1) 6 .bad r false).t,(Q (n+1) 6 .bad r false).r,(Q (n+1) 6 .bad r false).b⟩):=hid (by rw[HQ6.out,hun,hq])
  subst hl
  simp only[List.length_cons] at hn
  clear hq hun ho hrl
  go_enter Tryz.func147,Tryz.ntmps147
  go_wp2_with fail
  (with_reducible refine HT.out.mono ?_)
  rintro e w2⟨rfl,hb2⟩
  have HTk:=hid (qmo (HS1.out.below hb2))
  have HB2:=hid hb2
  clear hb2
  go_wp2_with fail
  (with_reducible refine HTk.out.mono ?_)
  rintro e w3⟨rfl,hs3,hf3⟩
  unfold sv
  have HX:=hid (HU1.out gp bt v L w3 r hs3 (by omega))
  have hz2:=HB2.out.size
  have hz3:=hf3.size
  have hF3:Fr gp w.heap.size w w3:=(Fr.of (HB1.out.trans (HB2.out.mono HB1.out.size))).trans hf3 (Nat.le_trans HB1.out.size HB2.out.size)
  have hR3:w3.heap[w.heap.size]? = some zno:=(hf3.block _ (Nat.lt_of_lt_of_le (qac HR1.out) hz2) (by omega)).trans ((HB2.out.block _ (qac HR1.out)).trans HR1.out)
  have hl3:=qac hR3
  have HF3:=hid hF3;have HR3:=hid hR3
  clear hs3 hf3 hF3 hR3
  go_wp2_with fail
  (with_reducible refine HX.out.mono ?_)
  rintro e w4⟨xv,rfl,hx4,hs4,hf4⟩
  obtain⟨o1,t1,A1,k1,c1,rfl⟩:=hx4.form
  have hR4:w4.heap[w.heap.size]? = some zno:=(hf4.block _ hl3 (by omega)).trans HR3.out
  have hy:=Rd.imp (X':=fun i=>w.heap.size<i) hx4 (fun i hi=>Nat.lt_of_lt_of_le hl3 hi)
  have HP:=hid (qub o hR4 hs4 (HF3.out.trans hf4 HF3.out.size) hy hgp hbt)
  obtain⟨p0,p1,p2,pf⟩:=c3 hR4
  have pf0:=pf 0;have pf1:=pf 1;have pf2:=pf 2
  have hl4:=qac hR4
  clear hR4 hy hx4 hs4 hf4
  go_wp2_with fail
  obtain⟨hz,hp⟩:=HP.out
  unfold ro at hz hp
  generalize((((w4.setCell ⟨w.heap.size,0,none⟩ (.string ⟨o.toArray⟩)).setCell ⟨w.heap.size,1,none⟩ (.string ⟨#[]⟩)).setCell ⟨w.heap.size,2,none⟩ (.slice (some ⟨w4.heap.size,0,none⟩) 1 1)).alloc (.cells #[.string o1,.string t1,.slice A1 k1 c1] 86))=W9 at hz hp ⊢
  obtain⟨z0,z1,z2,_⟩:=c3 hz
  refine bodyPost_ret (v := .agg #[.string ⟨o.toArray⟩,.string ⟨#[]⟩,.slice (some ⟨w4.heap.size,0,none⟩) 1 1]) (by simp[results,Tryz.results147,go_sem,z0,z1,z2]) rfl ?_
  rw[HE.out]
  exact hp
 |none =>
  rw[hq] at HT
  have HE6:Hid (RR=Q (n+1) 7 .bad l false):=hid (by rw[HQ6.out,hun,hq])
  obtain⟨Y,hY⟩ : ∃ Y,Q n 8 .bad l false=Y:=⟨_,rfl⟩
  rw[hY] at hrl HQ7
  have HY:=hid hY
  clear hq hun hY
  go_enter Tryz.func147,Tryz.ntmps147
  go_wp2_with fail
  (with_reducible refine HT.out.mono ?_)
  rintro e w2⟨rfl,hb2⟩
  have hS2:=HS1.out.below hb2
  have HX:=hid (HPr.out gp bt v L w2 l hS2 (by omega))
  rw[HY.out] at HX
  have hF2:Fr gp w.heap.size w w2:=Fr.of (HB1.out.trans (hb2.mono HB1.out.size))
  have hR2:w2.heap[w.heap.size]? = some zno:=(hb2.block _ (qac HR1.out)).trans HR1.out
  have hl2:=qac hR2
  have HF2:=hid hF2;have HR2:=hid hR2
  clear hb2 hS2 hF2 hR2
  go_wp2_with fail
  (with_reducible refine HX.out.mono ?_)
  rintro e w3⟨xv,rfl,hx3,hs3,hf3⟩
  obtain⟨o1,t1,A1,k1,c1,rfl⟩:=hx3.form
  have hsz:=hf3.size
  have hO:Op1 gp bt v L w w3.heap.size Y.t ((w3.alloc (ro o1 t1 A1 k1 c1)).alloc (row [[94]] 9)) o1 t1 A1 k1 c1 Y.r Y.b:=by
   refine Op1.below ⟨hs3.alloc _,qbq ((hf3.block _ hl2 (by omega)).trans HR2.out) _,qaj _ _,?_,(HF2.out.trans hf3 HF2.out.size).alloc (by omega) _,by omega⟩ ((Below.refl _ _).alloc (Nat.le_refl _) _)
   exact Rd.keep (X:=fun i=>w2.heap.size≤i) (fun i _ hl=>Below.heap_alloc _ _ _ hl) (fun i hi _=>by omega) _ _ hx3
  have HT2:=hid (qnq hO.st (w3.heap.size+1) [[94]] (row_of (t:=9) (qgr (by simp) _)) (by decide))
  rw[show([[94]]:List Tok).length=1 from rfl] at HT2
  have HO:=hid hO
  clear hx3 hs3 hf3 hO
  unfold row sv at HT2 HO
  simp only[List.map_cons,List.map_nil] at HT2 HO
  unfold ro at HT2
  cases hq:qdt [[94]] Y.r Y.b with
  |none =>
   have HE:Hid (RR=Y):=hid (by rw[HE6.out,HQ7.out,hq])
   rw[hq] at HT2
   go_wp2_with fail
   (with_reducible refine HT2.out.mono ?_)
   rintro e w5⟨rfl,hb5⟩
   have hO2:=HO.out.below hb5
   obtain⟨p0,p1,p2,pf⟩:=c3 hO2.res
   have pf0:=pf 0;have pf1:=pf 1;have pf2:=pf 2
   have hv2:=hO2.var
   unfold ro at hv2
   obtain⟨q0,q1,q2,qf⟩:=c3 hv2
   have hlr:=qac hO2.res
   have hlv:=qac hv2
   have HP:=hid (qe3 hO2.res hgp hbt hO2.st hO2.fr hO2.rd)
   clear hb5 hO2 hv2
   go_wp2_with fail
   obtain⟨hz,hp⟩:=HP.out
   generalize(((w5.setCell ⟨w.heap.size,0,none⟩ (.string o1)).setCell ⟨w.heap.size,1,none⟩ (.string t1)).setCell ⟨w.heap.size,2,none⟩ (.slice A1 k1 c1))=W9 at hz hp ⊢
   obtain⟨z0,z1,z2,_⟩:=c3 hz
   refine bodyPost_ret (v := .agg #[.string o1,.string t1,.slice A1 k1 c1]) (by simp[results,Tryz.results147,go_sem,z0,z1,z2]) rfl ?_
   rw[HE.out]
   exact hp
  |some y =>
   obtain⟨o,r⟩:=y
   rw[hq] at HT2
   obtain⟨hl,ho,hb⟩:=qfs hq
   have HE:Hid (RR=⟨.bin o Y.t (Q n 6 .bad r false).t,(Q n 6 .bad r false).r,(Q n 6 .bad r false).b⟩):=hid (by rw[HE6.out,HQ7.out,hq];simp only[hb])
   have hlen:r.length+1≤l.length:=by rw[hl] at hrl;simpa using hrl
   rw[hl,hb] at HO
   have ho:o=[94]:=by simpa using ho
   subst ho
   clear hq hl hb
   go_wp2_with fail
   (with_reducible refine HT2.out.mono ?_)
   rintro e w5⟨rfl,hb5⟩
   have hO5:=HO.out.below hb5
   have s1:=hO5.st.c1
   have sf:=hO5.st.f 1
   have hs6:=hO5.st.step
   have hmx:=hO5.st.mx
   obtain⟨i,hi⟩ : ∃ i,L.length-(([94]:Tok) :: r).length=i:=⟨_,rfl⟩
   rw[hi] at s1 hs6
   have hi6:i≤600:=by omega
   have hO6:=hO5.fr' hgp (Fr.setCell w5.heap.size w5 1 (.int .i64 ((i:Int)+1))) hs6
   have HO6:=hid hO6
   have hv6:=hO6.var
   unfold ro at hv6
   obtain⟨q0,q1,q2,qf⟩:=c3 hv6
   have hlv:=qac hv6
   have HQ3:Hid (Calls Tryz.prog 147 #[.pointer (some ⟨gp,0,none⟩)] (w5.setCell ⟨gp,1,none⟩ (.int .i64 ((i:Int)+1))).drew (PoR gp bt v L (w5.setCell ⟨gp,1,none⟩ (.int .i64 ((i:Int)+1))).drew (Q n 6 .bad r false))):=hid
    (HU0.out gp bt v L (w5.setCell ⟨gp,1,none⟩ (.int .i64 ((i:Int)+1))).drew r (hs6.keep rfl rfl (Nat.le_refl _)) (by omega))
   clear hb5 hO5 hs6 hi hO6 hv6
   go_wp2_with fail
   go_region_with (first
    |(go_at_call 147;(with_reducible refine HQ3.out.mono ?_);rintro e w7 ⟨xv,rfl,hx4,hs4,hf4⟩;obtain⟨o2,t2,A2,k2,c2,rfl⟩:=hx4.form
      have hO4:=HO6.out.fr' hgp (W':=w7) ⟨hf4.os,hf4.tape,hf4.output,hf4.size,hf4.block⟩ hs4
      obtain⟨y0,y1,y2,yf⟩:=c3 (show w7.heap[w3.heap.size]? = some (.cells #[.string o1,.string t1,.slice A1 k1 c1] 86) from hO4.var)
      obtain⟨p0,p1,p2,pf⟩:=c3 hO4.res
      have pf0:=pf 0;have pf1:=pf 1;have pf2:=pf 2
      have hl4:=qac hO4.res
      have hl5:=qac hO4.var))
   all_goals
    have hy:=Rd.imp (X':=fun i=>w.heap.size<i) hx4 (fun i hi=>Nat.lt_of_lt_of_le (qac HO6.out.res) hi)
    have HP:Hid (((((w7.setCell ⟨w.heap.size,0,none⟩ (.string ⟨#[94]⟩)).setCell ⟨w.heap.size,1,none⟩ (.string ⟨#[]⟩)).setCell ⟨w.heap.size,2,none⟩ (.slice (some ⟨w7.heap.size,0,none⟩) 2 2)).alloc (qpz o1 t1 A1 k1 c1 o2 t2 A2 k2 c2)).heap[w.heap.size]? = some (.cells #[.string ⟨#[94]⟩,.string ⟨#[]⟩,.slice (some ⟨w7.heap.size,0,none⟩) 2 2] 86) ∧
     PoR gp bt v L w ⟨.bin [94] Y.t (Q n 6 .bad r false).t,(Q n 6 .bad r false).r,(Q n 6 .bad r false).b⟩ (.returned (.agg #[.string ⟨#[94]⟩,.string ⟨#[]⟩,.slice (some ⟨w7.heap.size,0,none⟩) 2 2])) ((((w7.setCell ⟨w.heap.size,0,none⟩ (.string ⟨#[94]⟩)).setCell ⟨w.heap.size,1,none⟩ (.string ⟨#[]⟩)).setCell ⟨w.heap.size,2,none⟩ (.slice (some ⟨w7.heap.size,0,none⟩) 2 2)).alloc (qpz o1 t1 A1 k1 c1 o2 t2 A2 k2 c2))):=hid (quc [94] hO4 hy hgp hbt)
    clear hy hO4 hx4 hs4 hf4 y0 y1 y2 yf p0 p1 p2 pf pf0 pf1 pf2
    go_wp2_with fail
    obtain⟨hz,hp⟩:=HP.out
    generalize((((w7.setCell ⟨w.heap.size,0,none⟩ (.string ⟨#[94]⟩)).setCell ⟨w.heap.size,1,none⟩ (.string ⟨#[]⟩)).setCell ⟨w.heap.size,2,none⟩ (.slice (some ⟨w7.heap.size,0,none⟩) 2 2)).alloc (qpz o1 t1 A1 k1 c1 o2 t2 A2 k2 c2))=W9 at hz hp ⊢
    obtain⟨z0,z1,z2,_⟩:=c3 hz
    refine bodyPost_ret (v := .agg #[.string ⟨#[94]⟩,.string ⟨#[]⟩,.slice (some ⟨w7.heap.size,0,none⟩) 2 2]) (by simp[results,Tryz.results147,go_sem,z0,z1,z2]) rfl ?_
    rw[HE.out]
    exact hp
end Go.Proofs.YtldkgbnmaefaaaaGreatDoor.Fo
namespace Go.Proofs.YtldkgbnmaefaaaaGreatDoor.Fo
open Go.RowKit Go.Proofs.YtldkgbnmaefaaaaGreatDoor.Nu
set_option linter.unusedVariables false
set_option linter.unusedSimpArgs false
theorem qza{t:Tok}(h:0<t.length) : ∃ c r,t=c :: r∧qia t=isD c:=by
 cases t with
 |nil=>simp at h
 |cons c r=>exact⟨c,r,rfl,rfl⟩
theorem qpd(n:Nat)(hf:LvL n 0):LvF 209 (n+1) 8:=by
 intro gp bt v L w l h hn
 have hgp:=h.lt
 have hbt:=h.lb
 have hz1:(w.alloc zno).heap.size=w.heap.size+1:=World.size_alloc _ _
 have hS1:Spr gp bt v L (w.alloc zno) l false:=h.alloc _
 have hB1:Below w.heap.size w (w.alloc zno):=(Below.refl _ w).alloc (Nat.le_refl _) _
 have hR1:(w.alloc zno).heap[w.heap.size]? = some zno:=qaj _ _
 have h0:=h.c0
 have h1:=h.c1
 have h2:=h.c2
 have f2:=h.f 2
 cases l with
 |nil =>
  obtain⟨A,c,rfl,hc1,hc2⟩:=h.len
  have hz:L.length-([]:List Tok).length=L.length:=rfl
  rw[hz] at h1
  have hd:decide ((L.length:Int)≥(L.length:Int))=true:=by simp
  rw[xe0]
  have HS1:=hid hS1
  clear h hS1 hB1 hR1 hf
  go_enter Tryz.func209,Tryz.ntmps209
  go_wp2_with fail
  go_quiet (fail)
  go_wp2_with fail
  have hB:=below_drewN (B:=(w.alloc zno).heap.size) (Below.refl _ (w.alloc zno)) nq
  have hs:=(HS1.out.below hB).fail
  have hF:Fr gp w.heap.size w (((w.alloc zno).drewN nq).setCell ⟨gp,2,none⟩ (.bool true)):=(Fr.of ((Below.refl w.heap.size w).alloc (Nat.le_refl _) _)).trans ((Fr.of (n:=w.heap.size) (below_drewN (Below.refl _ _) nq)).trans (Fr.setCell _ _ _ _) (Nat.le_refl _)) (Nat.le_refl _)
  have hr:(((w.alloc zno).drewN nq).setCell ⟨gp,2,none⟩ (.bool true)).heap[w.heap.size]? = some zno:=(Below.heap_setCell _ _ _ _ (by show w.heap.size≠gp;omega)).trans (qaj w zno)
  obtain⟨hz,hp⟩:=qe3 (T := .bad) hr hgp hbt hs hF (rfl:Rd (fun i=>w.heap.size<i) (((w.alloc zno).drewN nq).setCell ⟨gp,2,none⟩ (.bool true)) .bad (.agg #[.string ⟨#[]⟩,.string ⟨#[]⟩,.slice none 0 0]))
  clear hs hF hr
  generalize((((((w.alloc zno).drewN nq).setCell ⟨gp,2,none⟩ (.bool true)).setCell ⟨w.heap.size,0,none⟩ (.string ⟨#[]⟩)).setCell ⟨w.heap.size,1,none⟩ (.string ⟨#[]⟩)).setCell ⟨w.heap.size,2,none⟩ (.slice none 0 0))=W9 at hz hp ⊢
  obtain⟨z0,z1,z2,_⟩:=c3 hz
  exact bodyPost_ret (v := .agg #[.string ⟨#[]⟩,.string ⟨#[]⟩,.slice none 0 0]) (by simp[results,Tryz.results209,go_sem,z0,z1,z2]) rfl hp
 |cons t l =>
  obtain⟨a,c,hv,hc1,hc2,hlt,hcell⟩:=h.head
  obtain⟨i,hi⟩ : ∃ i,L.length-(t :: l).length=i:=⟨_,rfl⟩
  rw[hi] at h1 hlt hcell
  have hd:decide ((i:Int)≥(L.length:Int))=false:=by rw[decide_eq_false_iff_not];omega
  have hz:=h.nzl.1
  have HTk:Hid (∀ q,Calls Tryz.prog 149 #[.pointer (some ⟨gp,0,none⟩)] ((w.alloc zno).drewN q) fun e w'=>e=.returned (sv t)∧Spr gp bt v L w' l false∧Fr gp (w.alloc zno).heap.size (w.alloc zno) w'):=hid fun q=>(qmo (hS1.below (below_drewN (Below.refl _ _) q))).mono fun e w' ⟨a1,a2,a3⟩=>⟨a1,a2,⟨a3.os,a3.tape,a3.output,a3.size,a3.block⟩⟩
  subst hv
  have HB1:=hid hB1;have HR1:=hid hR1
  have HF:=hid hf
  clear h hS1 hB1 hR1 hf
  by_cases hp:t=[40]
  ·subst hp
   have hQ:=xc0 n .bad l
   generalize Q (n+1) 8 .bad ([40] :: l) false=RR at hQ ⊢
   have HQ:=hid hQ
   clear hQ
   go_enter Tryz.func209,Tryz.ntmps209
   go_wp2_with fail
   go_quiet (fail)
   go_wp2_with fail
   refine(HTk.out _).mono ?_
   rintro e w2⟨rfl,hs2,hf2⟩
   unfold sv
   have hz2:=hf2.size
   rw[hz1] at hz2
   have hF2:Fr gp w.heap.size w w2:=(Fr.of HB1.out).trans hf2 (by omega)
   have hR2:w2.heap[w.heap.size]? = some zno:=(hf2.block _ (by omega) (by omega)).trans HR1.out
   have hl2:=qac hR2
   simp only[List.length_cons] at hn
   have HX:Hid (Calls Tryz.prog 91 #[.pointer (some ⟨gp,0,none⟩),.int .i64 0] w2 (PoR gp bt (.slice (some ⟨bt,a,none⟩) L.length c) L w2 (Q n 0 .bad l false))):=hid (HF.out gp bt _ L w2 l hs2 (by omega))
   have HF2:=hid hF2;have HR2:=hid hR2
   clear hs2 hf2 hF2 hR2
   obtain⟨Y,hY⟩ : ∃ Y,Q n 0 .bad l false=Y:=⟨_,rfl⟩
   rw[hY] at HX
   have HY:=hid hY
   clear hY
   go_wp2_with fail
   (with_reducible refine HX.out.mono ?_)
   rintro e w3⟨xv,rfl,hx3,hs3,hf3⟩
   obtain⟨o1,t1,A1,k1,c1,rfl⟩:=hx3.form
   have hsz:=hf3.size
   have hO:Op1 gp bt (.slice (some ⟨bt,a,none⟩) L.length c) L w w3.heap.size Y.t ((w3.alloc (ro o1 t1 A1 k1 c1)).alloc (row [[41]] 9)) o1 t1 A1 k1 c1 Y.r Y.b:=by
    refine Op1.below ⟨hs3.alloc _,qbq ((hf3.block _ hl2 (by omega)).trans HR2.out) _,qaj _ _,?_,(HF2.out.trans hf3 HF2.out.size).alloc (by omega) _,by omega⟩ ((Below.refl _ _).alloc (Nat.le_refl _) _)
    exact Rd.keep (X:=fun i=>w2.heap.size≤i) (fun i _ hl=>Below.heap_alloc _ _ _ hl) (fun i hi _=>by omega) _ _ hx3
   have HT2:=hid (qnq hO.st (w3.heap.size+1) [[41]] (row_of (t:=9) (qgr (by simp) _)) (by decide))
   rw[show([[41]]:List Tok).length=1 from rfl] at HT2
   have HO:=hid hO
   clear hx3 hs3 hf3 hO
   unfold row sv at HT2 HO
   simp only[List.map_cons,List.map_nil] at HT2 HO
   unfold ro at HT2
   cases hq:qdt [[41]] Y.r Y.b with
   |none =>
    have HE:Hid (RR=⟨Y.t,Y.r,true⟩):=hid (by rw[HQ.out,HY.out,hq])
    rw[hq] at HT2
    go_wp2_with fail
    (with_reducible refine HT2.out.mono ?_)
    rintro e w5⟨rfl,hb5⟩
    have hO5:=HO.out.below hb5
    have s2:=hO5.st.c2
    have sf:=hO5.st.f 2
    have hO6:=hO5.fr' hgp (Fr.setCell w5.heap.size w5 2 (.bool true)) hO5.st.fail
    obtain⟨p0,p1,p2,pf⟩:=c3 hO6.res
    have pf0:=pf 0;have pf1:=pf 1;have pf2:=pf 2
    have hv2:=hO6.var
    unfold ro at hv2
    obtain⟨q0,q1,q2,qf⟩:=c3 hv2
    have hlr:=qac hO6.res
    have hlv:=qac hv2
    have HP:=hid (qe3 hO6.res hgp hbt hO6.st hO6.fr hO6.rd)
    clear hb5 hO5 hO6 hv2
    go_wp2_with fail
    obtain⟨hz,hp⟩:=HP.out
    generalize((((w5.setCell ⟨gp,2,none⟩ (.bool true)).setCell ⟨w.heap.size,0,none⟩ (.string o1)).setCell ⟨w.heap.size,1,none⟩ (.string t1)).setCell ⟨w.heap.size,2,none⟩ (.slice A1 k1 c1))=W9 at hz hp ⊢
    obtain⟨z0,z1,z2,_⟩:=c3 hz
    refine bodyPost_ret (v := .agg #[.string o1,.string t1,.slice A1 k1 c1]) (by simp[results,Tryz.results209,go_sem,z0,z1,z2]) rfl ?_
    rw[HE.out]
    exact hp
   |some y =>
    obtain⟨o,r⟩:=y
    rw[hq] at HT2
    obtain⟨hl,ho,hb⟩:=qfs hq
    have HE:Hid (RR=⟨.un [40] Y.t,r,false⟩):=hid (by rw[HQ.out,HY.out,hq])
    rw[hl,hb] at HO
    have ho:o=[41]:=by simpa using ho
    subst ho
    clear hq hl hb
    go_wp2_with fail
    (with_reducible refine HT2.out.mono ?_)
    rintro e w5⟨rfl,hb5⟩
    have hO5:=HO.out.below hb5
    have s1:=hO5.st.c1
    have sf:=hO5.st.f 1
    have hs6:=hO5.st.step
    have hmx:=hO5.st.mx
    obtain⟨i6,hi6⟩ : ∃ i,L.length-(([41]:Tok) :: r).length=i:=⟨_,rfl⟩
    rw[hi6] at s1 hs6
    have hj6:i6≤600:=by omega
    have hO6:=hO5.fr' hgp (Fr.setCell w5.heap.size w5 1 (.int .i64 ((i6:Int)+1))) hs6
    have hv6:=hO5.var
    unfold ro at hv6
    obtain⟨q0,q1,q2,qf⟩:=c3 hv6
    obtain⟨p0,p1,p2,pf⟩:=c3 hO5.res
    have pf0:=pf 0;have pf1:=pf 1;have pf2:=pf 2
    have hlr:=qac hO5.res
    have hlv:=qac hv6
    have hne1:w.heap.size≠gp:=by omega
    have hne2:gp≠w.heap.size:=by omega
    have hne3:w3.heap.size≠gp:=by omega
    have hne4:gp≠w3.heap.size:=by omega
    have HP:Hid ((((((w5.setCell ⟨gp,1,none⟩ (.int .i64 ((i6:Int)+1))).setCell ⟨w.heap.size,0,none⟩ (.string ⟨#[40]⟩)).setCell ⟨w.heap.size,1,none⟩ (.string ⟨#[]⟩)).setCell ⟨w.heap.size,2,none⟩ (.slice (some ⟨w5.heap.size,0,none⟩) 1 1)).alloc (.cells #[.string o1,.string t1,.slice A1 k1 c1] 86)).heap[w.heap.size]? = some (.cells #[.string ⟨#[40]⟩,.string ⟨#[]⟩,.slice (some ⟨w5.heap.size,0,none⟩) 1 1] 86) ∧
     PoR gp bt (.slice (some ⟨bt,a,none⟩) L.length c) L w ⟨.un [40] Y.t,r,false⟩ (.returned (.agg #[.string ⟨#[40]⟩,.string ⟨#[]⟩,.slice (some ⟨w5.heap.size,0,none⟩) 1 1])) (((((w5.setCell ⟨gp,1,none⟩ (.int .i64 ((i6:Int)+1))).setCell ⟨w.heap.size,0,none⟩ (.string ⟨#[40]⟩)).setCell ⟨w.heap.size,1,none⟩ (.string ⟨#[]⟩)).setCell ⟨w.heap.size,2,none⟩ (.slice (some ⟨w5.heap.size,0,none⟩) 1 1)).alloc (.cells #[.string o1,.string t1,.slice A1 k1 c1] 86))):=hid (by
     have h9:=qub [40] hO6.res hO6.st hO6.fr hO6.rd hgp hbt
     rw[szc] at h9
     exact h9)
    clear hb5 hO5 hs6 hi6 hO6 hv6
    go_wp2_with fail
    obtain⟨hz,hp⟩:=HP.out
    generalize(((((w5.setCell ⟨gp,1,none⟩ (.int .i64 ((i6:Int)+1))).setCell ⟨w.heap.size,0,none⟩ (.string ⟨#[40]⟩)).setCell ⟨w.heap.size,1,none⟩ (.string ⟨#[]⟩)).setCell ⟨w.heap.size,2,none⟩ (.slice (some ⟨w5.heap.size,0,none⟩) 1 1)).alloc (.cells #[.string o1,.string t1,.slice A1 k1 c1] 86))=W9 at hz hp ⊢
    obtain⟨z0,z1,z2,_⟩:=c3 hz
    refine bodyPost_ret (v := .agg #[.string ⟨#[40]⟩,.string ⟨#[]⟩,.slice (some ⟨w5.heap.size,0,none⟩) 1 1]) (by simp[results,Tryz.results209,go_sem,z0,z1,z2]) rfl ?_
    rw[HE.out]
    exact hp
  ·obtain⟨ch,rr,rfl,hnum⟩:=qza hz
   have hb40:((ch :: rr)==[40])=false:=beq_eq_false_iff_ne.2 hp
   have hQ:=xc1 n .bad (ch :: rr) l hp
   rw[hnum] at hQ
   generalize Q (n+1) 8 .bad ((ch :: rr) :: l) false=RR at hQ ⊢
   have HQ:=hid hQ
   clear hQ hp hnum hz
   have hget : ∀ h,(⟨(ch :: rr).toArray⟩:ByteArray)[0]'h=ch:=fun _=>rfl
   go_enter Tryz.func209,Tryz.ntmps209
   go_wp2_with fail
   go_quiet (fail)
   go_wp2_with fail
   refine(HTk.out _).mono ?_
   rintro e w2⟨rfl,hs2,hf2⟩
   unfold sv
   have hz2:=hf2.size
   rw[hz1] at hz2
   have hF2:Fr gp w.heap.size w w2:=(Fr.of HB1.out).trans hf2 (by omega)
   have hR2:w2.heap[w.heap.size]? = some zno:=(hf2.block _ (by omega) (by omega)).trans HR1.out
   have hl2:=qac hR2
   have s2:=hs2.c2
   have sf:=hs2.f 2
   have HS2:=hid hs2
   have HF2:=hid hF2;have HR2:=hid hR2
   clear hs2 hf2 hF2 hR2
   by_cases hlo:ch.toNat<48
   ·have d1:decide ((ch.toNat:Int)<48)=true:=by rw[decide_eq_true_iff];omega
    have e1:(ch.toNat:Int)<48:=by omega
    have hD:isD ch=false:=by unfold isD;rw[decide_eq_false_iff_not];omega
    have HE:Hid (RR=⟨.num (ch :: rr),l,true⟩):=hid (by rw[HQ.out,hD];rfl)
    have hr:(w2.setCell ⟨gp,2,none⟩ (.bool true)).heap[w.heap.size]? = some zno:=(Below.heap_setCell _ _ _ _ (by show w.heap.size≠gp;omega)).trans HR2.out
    obtain⟨p0,p1,p2,pf⟩:=c3 HR2.out
    have hne1:w.heap.size≠gp:=by omega
    have hne2:gp≠w.heap.size:=by omega
    have pf0:=pf 0;have pf1:=pf 1;have pf2:=pf 2
    have HP:=hid (qe3 (T := .num (ch :: rr)) hr hgp hbt HS2.out.fail (HF2.out.trans (Fr.setCell _ _ _ _) (Nat.le_refl _)) (rfl:Rd (fun i=>w.heap.size<i) (w2.setCell ⟨gp,2,none⟩ (.bool true)) (.num (ch :: rr)) (.agg #[.string ⟨#[]⟩,.string ⟨(ch :: rr).toArray⟩,.slice none 0 0])))
    clear hr hD
    go_wp2_with fail
    obtain⟨hz,hp⟩:=HP.out
    generalize((((w2.setCell ⟨gp,2,none⟩ (.bool true)).setCell ⟨w.heap.size,0,none⟩ (.string ⟨#[]⟩)).setCell ⟨w.heap.size,1,none⟩ (.string ⟨(ch :: rr).toArray⟩)).setCell ⟨w.heap.size,2,none⟩ (.slice none 0 0))=W9 at hz hp ⊢
    obtain⟨z0,z1,z2,_⟩:=c3 hz
    refine bodyPost_ret (v := .agg #[.string ⟨#[]⟩,.string ⟨(ch :: rr).toArray⟩,.slice none 0 0]) (by simp[results,Tryz.results209,go_sem,z0,z1,z2]) rfl ?_
    rw[HE.out]
    exact hp
   ·have d1:decide ((ch.toNat:Int)<48)=false:=by rw[decide_eq_false_iff_not];omega
    have e1 : ¬ (ch.toNat:Int)<48:=by omega
    have e1':48≤(ch.toNat:Int):=by omega
    by_cases hhi:57<ch.toNat
    ·have d2:decide ((ch.toNat:Int)>57)=true:=by rw[decide_eq_true_iff];omega
     have e2:57<(ch.toNat:Int):=by omega
     have hD:isD ch=false:=by unfold isD;rw[decide_eq_false_iff_not];omega
     have HE:Hid (RR=⟨.num (ch :: rr),l,true⟩):=hid (by rw[HQ.out,hD];rfl)
     have hr:(w2.setCell ⟨gp,2,none⟩ (.bool true)).heap[w.heap.size]? = some zno:=(Below.heap_setCell _ _ _ _ (by show w.heap.size≠gp;omega)).trans HR2.out
     obtain⟨p0,p1,p2,pf⟩:=c3 HR2.out
     have hne1:w.heap.size≠gp:=by omega
     have hne2:gp≠w.heap.size:=by omega
     have pf0:=pf 0;have pf1:=pf 1;have pf2:=pf 2
     have HP:=hid (qe3 (T := .num (ch :: rr)) hr hgp hbt HS2.out.fail (HF2.out.trans (Fr.setCell _ _ _ _) (Nat.le_refl _)) (rfl:Rd (fun i=>w.heap.size<i) (w2.setCell ⟨gp,2,none⟩ (.bool true)) (.num (ch :: rr)) (.agg #[.string ⟨#[]⟩,.string ⟨(ch :: rr).toArray⟩,.slice none 0 0])))
     clear hr hD
     go_wp2_with fail
     obtain⟨hz,hp⟩:=HP.out
     generalize((((w2.setCell ⟨gp,2,none⟩ (.bool true)).setCell ⟨w.heap.size,0,none⟩ (.string ⟨#[]⟩)).setCell ⟨w.heap.size,1,none⟩ (.string ⟨(ch :: rr).toArray⟩)).setCell ⟨w.heap.size,2,none⟩ (.slice none 0 0))=W9 at hz hp ⊢
     obtain⟨z0,z1,z2,_⟩:=c3 hz
     refine bodyPost_ret (v := .agg #[.string ⟨#[]⟩,.string ⟨(ch :: rr).toArray⟩,.slice none 0 0]) (by simp[results,Tryz.results209,go_sem,z0,z1,z2]) rfl ?_
     rw[HE.out]
     exact hp
    ·have d2:decide ((ch.toNat:Int)>57)=false:=by rw[decide_eq_false_iff_not];omega
     have e2 : ¬ 57<(ch.toNat:Int):=by omega
     have hD:isD ch=true:=by unfold isD;rw[decide_eq_true_iff];omega
     have HE:Hid (RR=⟨.num (ch :: rr),l,false⟩):=hid (by rw[HQ.out,hD];rfl)
     obtain⟨p0,p1,p2,pf⟩:=c3 HR2.out
     have pf0:=pf 0;have pf1:=pf 1;have pf2:=pf 2
     have HP:=hid (qe3 (T := .num (ch :: rr)) HR2.out hgp hbt HS2.out HF2.out (rfl:Rd (fun i=>w.heap.size<i) w2 (.num (ch :: rr)) (.agg #[.string ⟨#[]⟩,.string ⟨(ch :: rr).toArray⟩,.slice none 0 0])))
     clear hD
     go_wp2_with fail
     obtain⟨hz,hp⟩:=HP.out
     generalize(((w2.setCell ⟨w.heap.size,0,none⟩ (.string ⟨#[]⟩)).setCell ⟨w.heap.size,1,none⟩ (.string ⟨(ch :: rr).toArray⟩)).setCell ⟨w.heap.size,2,none⟩ (.slice none 0 0))=W9 at hz hp ⊢
     obtain⟨z0,z1,z2,_⟩:=c3 hz
     refine bodyPost_ret (v := .agg #[.string ⟨#[]⟩,.string ⟨(ch :: rr).toArray⟩,.slice none 0 0]) (by simp[results,Tryz.results209,go_sem,z0,z1,z2]) rfl ?_
     rw[HE.out]
     exact hp
end Go.Proofs.YtldkgbnmaefaaaaGreatDoor.Fo
namespace Go.Proofs.YtldkgbnmaefaaaaGreatDoor.Fo
open Go.RowKit Go.Proofs.YtldkgbnmaefaaaaGreatDoor.Nu
set_option linter.unusedVariables false
set_option linter.unusedSimpArgs false
theorem q5i(n:Nat)(hf:LvF 146 n 2):LvL n 2:=by
 intro gp bt v L w l h hn
 have hgp:=h.lt
 have hbt:=h.lb
 have hz1:(w.alloc zno).heap.size=w.heap.size+1:=World.size_alloc _ _
 have HX:=hid (hf gp bt v L (w.alloc zno) l (h.alloc _) hn)
 show Calls _ _ #[.pointer (some ⟨gp,0,none⟩),.int .i64 2] w _
 obtain⟨R,hR⟩ : ∃ R,Q n 2 .bad l false=R:=⟨_,rfl⟩
 rw[hR] at HX ⊢
 clear h hf hR
 go_enter Tryz.func91,Tryz.ntmps91
 go_wp2_with fail
 (with_reducible refine HX.out.mono ?_)
 rintro e w1⟨xv,rfl,hx,hs,hf1⟩
 obtain⟨o1,t1,A1,k1,c1,rfl⟩:=hx.form
 have hsz:=hf1.size
 rw[hz1] at hsz
 have hR1:w1.heap[w.heap.size]? = some zno:=(hf1.block _ (by omega) (by omega)).trans (qaj w zno)
 have hF:Fr gp w.heap.size w w1:=(Fr.of ((Below.refl w.heap.size w).alloc (Nat.le_refl _) _)).trans hf1 (by omega)
 obtain⟨p0,p1,p2,pf⟩:=c3 hR1
 have pf0:=pf 0;have pf1:=pf 1;have pf2:=pf 2
 have HP:=hid (qe3 hR1 hgp hbt hs hF (Rd.imp (X':=fun i=>w.heap.size<i) hx (fun i hi=>by rw[hz1] at hi;omega)))
 clear hx hs hf1 hR1 hF
 go_wp2_with fail
 obtain⟨hz,hp⟩:=HP.out
 generalize((w1.setCell ⟨w.heap.size,0,none⟩ (.string o1)).setCell ⟨w.heap.size,1,none⟩ (.string t1)).setCell ⟨w.heap.size,2,none⟩ (.slice A1 k1 c1)=W9 at hz hp ⊢
 obtain⟨z0,z1,z2,_⟩:=c3 hz
 exact bodyPost_ret (v := .agg #[.string o1,.string t1,.slice A1 k1 c1]) (by simp[results,Tryz.results91,go_sem,z0,z1,z2]) rfl hp
theorem q5j(n:Nat)(hf:LvF 147 n 6):LvL n 6:=by
 intro gp bt v L w l h hn
 have hgp:=h.lt
 have hbt:=h.lb
 have hz1:(w.alloc zno).heap.size=w.heap.size+1:=World.size_alloc _ _
 have HX:=hid (hf gp bt v L (w.alloc zno) l (h.alloc _) hn)
 show Calls _ _ #[.pointer (some ⟨gp,0,none⟩),.int .i64 6] w _
 obtain⟨R,hR⟩ : ∃ R,Q n 6 .bad l false=R:=⟨_,rfl⟩
 rw[hR] at HX ⊢
 clear h hf hR
 go_enter Tryz.func91,Tryz.ntmps91
 go_wp2_with fail
 (with_reducible refine HX.out.mono ?_)
 rintro e w1⟨xv,rfl,hx,hs,hf1⟩
 obtain⟨o1,t1,A1,k1,c1,rfl⟩:=hx.form
 have hsz:=hf1.size
 rw[hz1] at hsz
 have hR1:w1.heap[w.heap.size]? = some zno:=(hf1.block _ (by omega) (by omega)).trans (qaj w zno)
 have hF:Fr gp w.heap.size w w1:=(Fr.of ((Below.refl w.heap.size w).alloc (Nat.le_refl _) _)).trans hf1 (by omega)
 obtain⟨p0,p1,p2,pf⟩:=c3 hR1
 have pf0:=pf 0;have pf1:=pf 1;have pf2:=pf 2
 have HP:=hid (qe3 hR1 hgp hbt hs hF (Rd.imp (X':=fun i=>w.heap.size<i) hx (fun i hi=>by rw[hz1] at hi;omega)))
 clear hx hs hf1 hR1 hF
 go_wp2_with fail
 obtain⟨hz,hp⟩:=HP.out
 generalize((w1.setCell ⟨w.heap.size,0,none⟩ (.string o1)).setCell ⟨w.heap.size,1,none⟩ (.string t1)).setCell ⟨w.heap.size,2,none⟩ (.slice A1 k1 c1)=W9 at hz hp ⊢
 obtain⟨z0,z1,z2,_⟩:=c3 hz
 exact bodyPost_ret (v := .agg #[.string o1,.string t1,.slice A1 k1 c1]) (by simp[results,Tryz.results91,go_sem,z0,z1,z2]) rfl hp
structure AllR (n:Nat):Prop where
 lev : ∀ k,k≤6→LvL n k
 cmp:LvF 146 n 2
 un:LvF 147 n 6
 pr:LvF 209 n 8
theorem xe1(n:Nat):AllR n:=by
 induction n using Nat.strongRecOn with
 | _ n ih =>
  have hc:LvF 146 n 2:=by
   rcases n with _ | m
   ·intro gp bt v L w l h hn;omega
   ·exact qj2 m ((ih m (by omega)).lev 3 (by omega))
  have hp:LvF 209 n 8:=by
   rcases n with _ | m
   ·intro gp bt v L w l h hn;omega
   ·exact qpd m ((ih m (by omega)).lev 0 (by omega))
  have hu:LvF 147 n 6:=by
   rcases n with _ | _ | m
   ·intro gp bt v L w l h hn;omega
   ·intro gp bt v L w l h hn;omega
   ·exact qxe m (ih (m+1) (by omega)).un (ih m (by omega)).un (ih m (by omega)).pr
  refine⟨fun k hk => ?_,hc,hu,hp⟩
  by_cases h2:k=2
  ·subst h2;exact q5i n hc
  by_cases h6:k=6
  ·subst h6;exact q5j n hu
  rcases n with _ | m
  ·intro gp bt v L w l h hn;omega
  ·exact qzc m k (by omega) fun j hj=>(ih j (by omega)).lev (k+1) (by omega)
end Go.Proofs.YtldkgbnmaefaaaaGreatDoor.Fo
namespace Go.Proofs.YtldkgbnmaefaaaaGreatDoor.Fo
open Go.RowKit Go.Proofs.YtldkgbnmaefaaaaGreatDoor.Nu
set_option linter.unusedVariables false
set_option linter.unusedSimpArgs false
theorem r3{W:World}{g:Nat}{a b c:Value}{t:TypeId}(h:W.heap[g]? = some (.cells #[a,b,c] t)):W.cell? ⟨g,0,none⟩=some a∧W.cell? ⟨g,1,none⟩=some b∧W.cell? ⟨g,2,none⟩=some c∧g<W.heap.size:=by
 refine⟨?_,?_,?_,qac h⟩
 ·unfold World.cell?;rw[h];rfl
 ·unfold World.cell?;rw[h];rfl
 ·unfold World.cell?;rw[h];rfl
theorem r6{W:World}{g:Nat}{a b c d e f:Value}{t:TypeId}(h:W.heap[g]? = some (.cells #[a,b,c,d,e,f] t)):W.cell? ⟨g,0,none⟩=some a∧W.cell? ⟨g,1,none⟩=some b∧W.cell? ⟨g,2,none⟩=some c∧W.cell? ⟨g,3,none⟩=some d∧W.cell? ⟨g,4,none⟩=some e∧W.cell? ⟨g,5,none⟩=some f∧g<W.heap.size:=by
 refine⟨?_,?_,?_,?_,?_,?_,qac h⟩
 all_goals unfold World.cell?;rw[h];rfl
abbrev bx(a b c:Value):Obj := .cells #[a,b,c] 86
theorem qge : ∀ (x:T),x.wf→x.lv≤1000 → ∀ (X:Nat→Prop) (w:World) (v:Value),Rd X w x v →
  Calls Tryz.prog 46 #[v] w fun e w'=>e=.returned (.int .i64 (x.lv:Int))∧Below w.heap.size w w'
 | .bad,h,_,_,_,_,_=>absurd h (by simp[T.wf])
 | .num s,_,_,X,w,v,hR=>by
  obtain rfl:v=.agg #[.string ⟨#[]⟩,sv s,.slice none 0 0]:=hR
  have hl:((T.num s).lv:Int)=1:=rfl
  rw[hl]
  unfold sv
  go_enter Tryz.func46,Tryz.ntmps46
  go_wp2
  refine wp_loop_rounds 1 ?_
  rw[rounds_succ]
  go_wp2
  go_ret
  exact⟨rfl,(Below.refl _ w).alloc (Nat.le_refl _) _⟩
 | .un o x,hw,hl,X,w,v,⟨g,t,a,b,c,hv,hg,hc,hx⟩=>by
  subst hv
  have hlx:x.lv≤999:=by have:(T.un o x).lv=x.lv+1:=rfl;omega
  have hcast:((T.un o x).lv:Int)=(x.lv:Int)+1:=by show((x.lv+1:Nat):Int)=_;omega
  rw[hcast]
  obtain⟨q0,q1,q2,ql⟩:=r3 hc
  have hB:Below w.heap.size w (w.alloc (bx (sv o) (.string ⟨#[]⟩) (.slice (some ⟨g,0,none⟩) 1 1))):=(Below.refl _ w).alloc (Nat.le_refl _) _
  have HI:=hid (qge x hw.2 (by omega) X _ _ (hx.below hB))
  have HB:=hid hB
  have hm:max (0:Int) (x.lv:Int)=(x.lv:Int):=by omega
  generalize x.lv=d at HI hlx hm ⊢
  clear hx hc hB hl hcast
  unfold sv at HI HB ⊢
  go_enter Tryz.func46,Tryz.ntmps46
  go_wp2
  refine wp_loop_rounds 2 ?_
  rw[rounds_succ]
  go_wp2_with fail
  (with_reducible refine HI.out.mono ?_)
  rintro e w1⟨rfl,hb1⟩
  have hz1:=hb1.size
  simp only[World.size_alloc] at hz1
  obtain⟨y0,y1,y2,yl⟩:=r3 ((hb1.block w.heap.size (by simp)).trans (qaj w _))
  have HB1:=hid (HB.out.trans (hb1.mono HB.out.size))
  clear hb1
  go_wp2_with fail
  rw[rounds_succ]
  go_wp2_with fail
  go_ret
  exact⟨rfl,HB1.out⟩
 | .bin o x y,hw,hl,X,w,v,⟨g,t,a,b,c,a',b',c',hv,hg,hc,hx,hy⟩=>by
  subst hv
  have hlv:(T.bin o x y).lv=max x.lv y.lv+1:=rfl
  have hcast:((T.bin o x y).lv:Int)=max (x.lv:Int) (y.lv:Int)+1:=by rw[hlv];omega
  rw[hcast]
  obtain⟨q0,q1,q2,q3,q4,q5,ql⟩:=r6 hc
  have hB:Below w.heap.size w (w.alloc (bx (sv o) (.string ⟨#[]⟩) (.slice (some ⟨g,0,none⟩) 2 2))):=(Below.refl _ w).alloc (Nat.le_refl _) _
  have HI:=hid (qge x hw.2.1 (by omega) X _ _ (hx.below hB))
  have HJ:Hid (∀ W,Below w.heap.size w W→Calls Tryz.prog 46 #[.agg #[a',b',c']] W fun e w'=>e=.returned (.int .i64 (y.lv:Int))∧Below W.heap.size W w'):=hid fun W hW=>qge y hw.2.2 (by omega) X _ _ (hy.below hW)
  have HB:=hid hB
  have hX:x.lv≤1000:=by omega
  have hY:y.lv≤999:=by omega
  generalize x.lv=d at HI hX ⊢
  generalize y.lv=d2 at HJ hY ⊢
  have hm:max (0:Int) (d:Int)=(d:Int):=by omega
  obtain⟨mx,hmx⟩ : ∃ mx:Nat,max (d:Int) (d2:Int)=(mx:Int):=⟨max d d2,by omega⟩
  have hmx2:mx≤1000:=by omega
  have hB2:=HB.out
  clear hx hy hc hB hl hcast hlv hB2
  rw[hmx]
  have HM:=hid hmx
  have hG:=ql
  have HC:=hid (And.intro q3 (And.intro q4 q5))
  unfold sv at HI HB ⊢
  go_enter Tryz.func46,Tryz.ntmps46
  go_wp2
  refine wp_loop_rounds 3 ?_
  rw[rounds_succ]
  go_wp2_with fail
  (with_reducible refine HI.out.mono ?_)
  rintro e w1⟨rfl,hb1⟩
  have hz1:=hb1.size
  simp only[World.size_alloc] at hz1
  obtain⟨y0,y1,y2,yl⟩:=r3 ((hb1.block w.heap.size (by simp)).trans (qaj w _))
  have HB1:=hid (HB.out.trans (hb1.mono HB.out.size))
  have k3:w1.cell? ⟨g,3,none⟩=some a':=((HB1.out.cell (p:=⟨g,3,none⟩) hG)).trans HC.out.1
  have k4:w1.cell? ⟨g,4,none⟩=some b':=((HB1.out.cell (p:=⟨g,4,none⟩) hG)).trans HC.out.2.1
  have k5:w1.cell? ⟨g,5,none⟩=some c':=((HB1.out.cell (p:=⟨g,5,none⟩) hG)).trans HC.out.2.2
  have HJ1:=hid (HJ.out w1 HB1.out)
  have hb10:=HB1.out.block w.heap.size
  clear hb1 hb10
  go_wp2_with fail
  rw[rounds_succ]
  go_wp2_with fail
  (with_reducible refine HJ1.out.mono ?_)
  rintro e w2⟨rfl,hb2⟩
  obtain⟨z0,z1,z2⟩:=(⟨(hb2.cell (p:=⟨w.heap.size,0,none⟩) yl).trans y0,(hb2.cell (p:=⟨w.heap.size,1,none⟩) yl).trans y1,(hb2.cell (p:=⟨w.heap.size,2,none⟩) yl).trans y2⟩:w2.cell? ⟨w.heap.size,0,none⟩=_∧w2.cell? ⟨w.heap.size,1,none⟩=_∧w2.cell? ⟨w.heap.size,2,none⟩=_)
  have hz2:=hb2.size
  have HB2:=hid (HB1.out.trans (hb2.mono HB1.out.size))
  clear hb2 y0 y1 y2 k3 k4 k5
  go_wp2_with fail
  rw[rounds_succ]
  go_wp2_with fail
  go_ret
  exact⟨rfl,HB2.out⟩
end Go.Proofs.YtldkgbnmaefaaaaGreatDoor.Fo
namespace Go.Proofs.YtldkgbnmaefaaaaGreatDoor.Fo
open Go.RowKit Go.Proofs.YtldkgbnmaefaaaaGreatDoor.Nu
set_option linter.unusedVariables false
set_option linter.unusedSimpArgs false
def qmk(p:UInt8→Bool)(l:List UInt8)(i:Nat):Nat:=i+((l.drop i).takeWhile p).length
def inR(lo hi:Nat)(c:UInt8):Bool:=decide (lo≤c.toNat∧c.toNat≤hi)
theorem qz2{p:UInt8→Bool}{l:List UInt8}{i:Nat}{x:UInt8}(hx:l[i]? = some x)(h:p x=true):qmk p l (i+1)=qmk p l i:=by
 unfold qmk
 obtain⟨h1,h2⟩:=List.getElem?_eq_some_iff.1 hx
 rw[List.drop_eq_getElem_cons h1,h2,List.takeWhile_cons,if_pos h,List.length_cons]
 omega
theorem qjo{p:UInt8→Bool}{l:List UInt8}{i:Nat}{x:UInt8}(hx:l[i]? = some x)(h:p x=false):qmk p l i=i:=by
 unfold qmk
 obtain⟨h1,h2⟩:=List.getElem?_eq_some_iff.1 hx
 rw[List.drop_eq_getElem_cons h1,h2,List.takeWhile_cons,if_neg (by rw[h];decide)]
 simp
theorem qz1{p:UInt8→Bool}{l:List UInt8}{i:Nat}(h:l.length≤i):qmk p l i=i:=by
 unfold qmk;rw[List.drop_eq_nil_of_le h];simp
theorem qft(s:ByteArray)(i lo hi:Nat)(w:World)(hs:s.size≤1000)(hi2:i≤s.size)(hlo:lo≤255)(hhi:hi≤255) :
  Calls Tryz.prog 207 #[.string s,.int .i64 (i:Int),.int .u8 (lo:Int),.int .u8 (hi:Int)] w fun e w'=>e=.returned (.int .i64 (qmk (inR lo hi) s.data.toList i:Int))∧w'=w:=by
 have hsz:s.data.toList.length=s.size:=rfl
 have HZ:=hid hsz;clear hsz
 obtain⟨F,hF⟩ : ∃ F,qmk (inR lo hi) s.data.toList i=F:=⟨_,rfl⟩
 rw[hF]
 have HF:=hid hF;clear hF
 go_enter Tryz.func207,Tryz.ntmps207
 go_wp2_with fail
 go_loopw [1] (fun iv wr => ∃ k:Nat,iv=.int .i64 k∧k≤s.size∧Hid (qmk (inR lo hi) s.data.toList k=F)∧Hid (wr=w)) (fun iv _=>s.size-(intOf iv).toNat)
 case atStart=>exact⟨i,rfl,hi2,HF,hid rfl⟩
 case round =>
  obtain⟨k,rfl,hk,hr,hw⟩:=hrel
  have hw':=hw.out
  subst hw'
  by_cases hlt:k<s.size
  ·have hd:decide ((k:Int)<(s.size:Int))=true:=by rw[decide_eq_true_iff];omega
   have hkI:(k:Int)<(s.size:Int):=by omega
   have hc:s.data.toList[k]? = some (s[k]):=by
    rw[List.getElem?_eq_getElem (by rw[HZ.out];exact hlt)];rfl
   have HC:=hid hc;clear hc
   obtain⟨ch,hch⟩ : ∃ ch,s[k]=ch:=⟨_,rfl⟩
   rw[hch] at HC
   have hget : ∀ h,s[k]'h=ch:=fun _=>hch
   clear hch
   by_cases h1:lo≤ch.toNat
   ·have d1:decide ((ch.toNat:Int)≥(lo:Int))=true:=by rw[decide_eq_true_iff];omega
    have e1:(lo:Int)≤(ch.toNat:Int):=by omega
    by_cases h2:ch.toNat≤hi
    ·have d2:decide ((ch.toNat:Int)≤(hi:Int))=true:=by rw[decide_eq_true_iff];omega
     have e2:(ch.toNat:Int)≤(hi:Int):=by omega
     have HR:=hid ((qz2 HC.out (show inR lo hi ch=true by unfold inR;rw[decide_eq_true_iff];omega)).trans hr.out)
     clear hr
     go_wp2_with fail
     go_roundw
     case rel=>exact⟨k+1,by simp,by omega,HR,hid (by first | rfl | trivial)⟩
     case measure=>simp[intOf];omega
    ·have d2:decide ((ch.toNat:Int)≤(hi:Int))=false:=by rw[decide_eq_false_iff_not];omega
     have e2 : ¬ (ch.toNat:Int)≤(hi:Int):=by omega
     have HR:=hid ((qjo HC.out (show inR lo hi ch=false by unfold inR;rw[decide_eq_false_iff_not];omega)).symm.trans hr.out)
     clear hr
     go_wp2_with fail
     go_ret
     exact⟨by rw[←HR.out];rfl,by first | rfl | trivial⟩
   ·have d1:decide ((ch.toNat:Int)≥(lo:Int))=false:=by rw[decide_eq_false_iff_not];omega
    have e1 : ¬ (lo:Int)≤(ch.toNat:Int):=by omega
    have HR:=hid ((qjo HC.out (show inR lo hi ch=false by unfold inR;rw[decide_eq_false_iff_not];omega)).symm.trans hr.out)
    clear hr
    go_wp2_with fail
    go_ret
    exact⟨by rw[←HR.out];rfl,by first | rfl | trivial⟩
  ·have ek:k=s.size:=by omega
   subst ek
   have hd:decide ((s.size:Int)<(s.size:Int))=false:=by simp
   have HR:=hid ((qz1 (p:=inR lo hi) (l:=s.data.toList) (by rw[HZ.out];exact Nat.le_refl _)).symm.trans hr.out)
   clear hr hlt
   go_wp2_with fail
   go_ret
   exact⟨by rw[←HR.out];rfl,by first | rfl | trivial⟩
end Go.Proofs.YtldkgbnmaefaaaaGreatDoor.Fo
