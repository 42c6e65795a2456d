import Derived.Test.YtldkgbnmaefaaaaGreatDoorFoG2
import Derived.Lib.Strings
import Derived.Lib.IndexAny
import Derived.Shelf.Strings.SlTrimAscii
import Derived.Laws.OwnMore
import Derived.Laws.AppendOwn
import Derived.Maps.AppendAt
import Derived.OwnWalk
import Derived.Deep.RegionWith
set_option maxRecDepth 100000
set_option maxHeartbeats 4000000
open Go.Lib (hid)
namespace Go.Proofs.YtldkgbnmaefaaaaGreatDoor.Fo
open Go.RowKit Go.Proofs.YtldkgbnmaefaaaaGreatDoor.Nu
set_option linter.unusedVariables false
set_option linter.unusedSimpArgs false
theorem qcm(c:UInt8)(w:World):Calls Tryz.prog 247 #[.int .u8 c.toNat] w fun e w'=>e=.returned (.bool (isD c))∧w'=w:=by
 have h1:=UInt8.toNat_lt c
 by_cases ha:48≤c.toNat
 ·by_cases hb:c.toNat≤57
  ·have e:isD c=true:=by unfold isD;rw[decide_eq_true_iff];omega
   have HE:=hid e;clear e
   have d1:decide ((48:Int)≤(c.toNat:Int))=true:=by rw[decide_eq_true_iff];omega
   have d2:decide ((c.toNat:Int)≤(57:Int))=true:=by rw[decide_eq_true_iff];omega
   go_enter Tryz.func247,Tryz.ntmps247
   go_wp2
   go_ret
   rw[HE.out];simp
  ·have e:isD c=false:=by unfold isD;rw[decide_eq_false_iff_not];omega
   have HE:=hid e;clear e
   have d1:decide ((48:Int)≤(c.toNat:Int))=true:=by rw[decide_eq_true_iff];omega
   have d2:decide ((c.toNat:Int)≤(57:Int))=false:=by rw[decide_eq_false_iff_not];omega
   go_enter Tryz.func247,Tryz.ntmps247
   go_wp2
   go_ret
   rw[HE.out];simp
 ·have e:isD c=false:=by unfold isD;rw[decide_eq_false_iff_not];omega
  have HE:=hid e;clear e
  have d1:decide ((48:Int)≤(c.toNat:Int))=false:=by rw[decide_eq_false_iff_not];omega
  go_enter Tryz.func247,Tryz.ntmps247
  go_wp2
  go_ret
  rw[HE.out];simp
theorem xey(n:Nat)(x:T)(l:List Tok)(b:Bool):G (n+1) 8 x ([40] :: l) b=⟨.un [40] (G n 0 .bad l b).t,qt8 [41] (G n 0 .bad l b).r,qsy [41] (G n 0 .bad l b).r||(G n 0 .bad l b).b⟩:=by
 rw[q8p]
 unfold qt8 qsy
 cases h:next [[41]] (G n 0 .bad l b).r with
 |none=>rfl
 |some y=>rfl
theorem xdq{gp:Nat}{w:World}(v:Value)(hg:gp<w.heap.size):Fr gp (w.heap.size+1) (w.alloc zn) ((w.setCell ⟨gp,0,none⟩ v).alloc zn):=by
 have hz:(w.setCell ⟨gp,0,none⟩ v).heap.size=w.heap.size:=by simp[World.setCell]
 refine⟨rfl,rfl,rfl,by simp[World.setCell],fun k hk hne => ?_⟩
 rcases Nat.lt_or_ge k w.heap.size with h1 | h1
 ·rw[Below.heap_alloc _ _ _ (by omega),Below.heap_setCell _ _ _ _ hne,Below.heap_alloc _ _ _ h1]
 ·have:k=w.heap.size:=by omega
  subst this
  rw[qaj]
  have:=qaj (w.setCell ⟨gp,0,none⟩ v) zn
  rwa [hz] at this
theorem xfg(n:Nat)(ih : ∀ m,m<n→Lv 225 m 0):Lv 300 n 8:=by
 intro gp bt w v l b h hn hl
 obtain⟨n,rfl⟩ : ∃ j,n=j+1:=⟨n-1,by omega⟩
 have I1:=hid ih;clear ih
 cases l with
 |nil =>
  rw[xcz]
  obtain⟨A0,C0,rfl⟩:=h.t.nil
  have h2:=h.alloc zn
  have HX:=hid (qfp h2 [40] hl)
  have hgp:=h.lt;have hbt:=h.lb
  have c0:=h2.c0
  have hE:qt8 [40] []=[]∧qsy [40] []=true:=by exact⟨rfl,rfl⟩
  rw[hE.1,hE.2] at HX
  unfold sv at HX
  clear hE h h2
  go_enter Tryz.func300,Tryz.ntmps300
  go_wp2_with fail
  (with_reducible refine HX.out.mono ?_)
  rintro e w1⟨rfl,⟨u,hs⟩,hf⟩
  have hf1:Fr gp (w.heap.size+1) (w.alloc zn) w1:=hf.mono (by simp)
  obtain⟨z0,z1,z2,zf⟩:=c3 (qor hf1 hgp)
  have zf0:=zf 0;have zf1:=zf 1;have zf2:=zf 2
  obtain⟨y1,y2,y3,y4⟩:=fin (x := .bad) (o:=⟨#[]⟩) (A:=none) (k:=0) (c:=0) hs hgp hbt hf1 rfl
  have Y1:=hid y1;have Y:=hid (And.intro y2 (And.intro y3 y4))
  clear hs hf hf1 y1 y2 y3 y4
  unfold qf8 at Y1 Y
  rw[show((T.bad.lv:Nat):Int)=0 from rfl] at Y1 Y
  go_wp2_with fail
  generalize(((w1.setCell ⟨w.heap.size,0,none⟩ (.string ⟨#[]⟩)).setCell ⟨w.heap.size,1,none⟩ (.slice none 0 0)).setCell ⟨w.heap.size,2,none⟩ (.int .i64 0))=W9 at Y1 Y ⊢
  obtain⟨q0,q1,q2,_⟩:=c3 Y1.out
  refine bodyPost_ret (v := .agg #[.string ⟨#[]⟩,.slice none 0 0,.int .i64 0]) (by simp[results,Tryz.results300,go_sem,q0,q1,q2]) rfl ?_
  exact⟨_,_,rfl,Y.out.1,Y.out.2.1,Y.out.2.2⟩
 |cons t l =>
  obtain⟨a,C,rfl,hC1,hC2,hct,htl⟩:=h.t.tail
  have hnz:=h.nz t (by simp)
  simp only[List.length_cons] at hl hn
  obtain⟨c,t',rfl⟩ : ∃ c t',t=c :: t':=by
   cases t with
   |nil=>simp at hnz
   |cons c t'=>exact⟨c,t',rfl⟩
  have hct2:(w.alloc zn).cell? ⟨bt,a,none⟩=some (sv (c :: t')):=(World.cell?_of_block (w:=w) (Below.heap_alloc _ _ _ h.lb)).trans hct
  unfold sv at hct2
  clear hct
  have hsz:(⟨(c :: t').toArray⟩:ByteArray).size=t'.length+1:=by simp[ByteArray.size]
  obtain⟨S,hS⟩ : ∃ S:ByteArray,⟨(c :: t').toArray⟩=S:=⟨_,rfl⟩
  have h00 : ∀ (hh:0<S.size),(S[0]'hh)=c:=by subst hS;intro _;rfl
  have h01:0<S.size:=by rw[←hS,hsz];omega
  rw[hS] at hct2
  have hN:qia (c :: t')=isD c:=rfl
  have HK:=hid htl
  clear htl
  cases hd:isD c with
  |true =>
   rw[q8o _ _ _ _ _ (hN.trans hd)]
   have HD:=hid hd
   have h2:=h.alloc zn
   have c0:=h2.c0
   have f0:=h2.f 0
   have HM:Hid (∀ W,Calls Tryz.prog 282 #[.string S,.slice none 0 0] W fun e w'=>e=.returned (.agg #[.string S,.slice none 0 0,.int .i64 1])∧Below W.heap.size W w'):=hid fun W=>by
    have:=qr7 (c :: t') W
    unfold mkv sv at this
    rw[hS] at this
    exact this
   have H2:=hid h
   have hgp:=h.lt;have hbt:=h.lb
   have HS:=hid hS
   clear h h2 hd hN hS
   go_enter Tryz.func300,Tryz.ntmps300
   go_wp2_with fail
   (with_reducible refine(qcm c _).mono ?_)
   rintro e w0⟨rfl,rfl⟩
   rw[HD.out]
   go_wp2_with fail
   all_goals
    (with_reducible refine(HM.out _).mono ?_)
    rintro e w1⟨rfl,hb⟩
    have hs : ∃ u,St gp bt w1 u l b:=by
     first
      |exact⟨_,((H2.out.set HK.out (fun _ q=>List.mem_cons_of_mem _ q)).alloc zn).below hb⟩
      |exact⟨_,((H2.out.set (TS.none0 (by omega)) (fun _ q=>List.mem_cons_of_mem _ q)).alloc zn).below hb⟩
    obtain⟨u,hs⟩:=hs
    have hf1:Fr gp (w.heap.size+1) (w.alloc zn) w1:=(xdq _ hgp).trans (Fr.of (hb.mono (by simp[World.setCell]))) (Nat.le_refl _)
    obtain⟨z0,z1,z2,zf⟩:=c3 (qor hf1 hgp)
    have zf0:=zf 0;have zf1:=zf 1;have zf2:=zf 2
    obtain⟨y1,y2,y3,y4⟩:=fin (x := .num (c :: t')) (o:=S) (A:=none) (k:=0) (c:=0) hs hgp hbt hf1 (by rw[←HS.out];rfl)
    have Y1:=hid y1;have Y:=hid (And.intro y2 (And.intro y3 y4))
    clear hs hf1 y1 y2 y3 y4 hb
    unfold qf8 at Y1 Y
    rw[show(((T.num (c :: t')).lv:Nat):Int)=1 from rfl] at Y1 Y
    go_wp2_with fail
    generalize(((w1.setCell ⟨w.heap.size,0,none⟩ (.string S)).setCell ⟨w.heap.size,1,none⟩ (.slice none 0 0)).setCell ⟨w.heap.size,2,none⟩ (.int .i64 1))=W9 at Y1 Y ⊢
    obtain⟨q0,q1,q2,_⟩:=c3 Y1.out
    refine bodyPost_ret (v := .agg #[.string S,.slice none 0 0,.int .i64 1]) (by simp[results,Tryz.results300,go_sem,q0,q1,q2]) rfl ?_
    exact⟨_,_,rfl,Y.out.1,Y.out.2.1,Y.out.2.2⟩
  |false =>
   have HD:=hid hd
   by_cases hp:c :: t'=[40]
   ·rw[hp,xey]
    have h2:=h.alloc zn
    have HX:=hid (qfp h2 [40] hl)
    have hgp:=h.lt;have hbt:=h.lb
    have c0:=h2.c0
    have hE:qt8 [40] ((c :: t') :: l)=l∧qsy [40] ((c :: t') :: l)=false:=by rw[hp];exact⟨rfl,rfl⟩
    rw[hE.1,hE.2] at HX
    unfold sv at HX
    clear hE h h2 hN hd
    have I0:=I1.out n (by omega)
    have hG:=qj8 n 0 .bad l b
    have hL:=T.lv_sz (G n 0 .bad l b).t
    simp only[T.sz] at hG
    clear I1
    have I1:Hid (∀ W v,St gp bt W v l b→Calls Tryz.prog 225 #[.pointer (some ⟨gp,0,none⟩)] W (Post gp bt W (G n 0 .bad l b))):=hid fun W v h=>I0 gp bt W v l b h (by omega) (by omega)
    clear I0
    generalize G n 0 .bad l b=Y at I1 hG hL ⊢
    go_enter Tryz.func300,Tryz.ntmps300
    go_wp2_with fail
    (with_reducible refine(qcm c _).mono ?_)
    rintro e w0⟨rfl,rfl⟩
    rw[HD.out]
    go_wp2_with fail
    (with_reducible refine HX.out.mono ?_)
    rintro e w1⟨rfl,⟨u,hs⟩,hf⟩
    have HF1:Hid (Fr gp (w.heap.size+1) (w.alloc zn) w1):=hid (hf.mono (by simp))
    have hz1:=hf.size
    simp only[World.size_alloc] at hz1
    have HS1:=hid hs
    clear hs hf
    go_wp2_with fail
    (with_reducible refine(I1.out _ _ HS1.out).mono ?_)
    rintro e w3⟨xv,u3,rfl,hx3,hs3,hf3⟩
    obtain⟨o2,A2,k2,c2,rfl⟩:=hx3.form
    have hz3:=hf3.size
    have HX2:=hid (qfp (hs3.alloc (one o2 A2 k2 c2 Y.t.lv)) [41] (by omega))
    have HF3:Hid (Fr gp (w.heap.size+1) (w.alloc zn) (w3.alloc (one o2 A2 k2 c2 Y.t.lv))):=hid ((HF1.out.trans hf3 (by omega)).alloc (by omega) _)
    have HN3:Hid (Nd (w.heap.size+1 ≤ ·) (w3.alloc (one o2 A2 k2 c2 Y.t.lv)) Y.t (.agg #[.string o2,.slice A2 k2 c2,.int .i64 (Y.t.lv:Int)])):=hid ((hx3.imp fun i (hi:w1.heap.size≤i)=>by omega).below ((Below.refl _ w3).alloc (Nat.le_refl _) _))
    have hcI:(w3.alloc (one o2 A2 k2 c2 Y.t.lv)).heap[w3.heap.size]? = some (one o2 A2 k2 c2 Y.t.lv):=qaj _ _
    obtain⟨W3,hW3⟩ : ∃ W3,w3.alloc (one o2 A2 k2 c2 Y.t.lv)=W3:=⟨_,rfl⟩
    have hzW3:W3.heap.size=w3.heap.size+1:=by rw[←hW3];simp
    rw[hW3] at HX2 HF3 HN3 hcI
    have HCI:=hid hcI
    clear hx3 hs3 hf3 hcI
    unfold one at hW3
    unfold sv at HX2
    go_wp2_with fail
    (with_reducible refine HX2.out.mono ?_)
    rintro e w4⟨rfl,⟨u4,hs4⟩,hf4⟩
    have hz4:=hf4.size
    have hcI4:w4.heap[w3.heap.size]? = some (one o2 A2 k2 c2 Y.t.lv):=(hf4.block _ (by omega) (by omega)).trans HCI.out
    obtain⟨i0,i1,i2,_⟩:=c3 hcI4
    have HM:=hid (qkl [40] (w4.alloc (one o2 A2 k2 c2 Y.t.lv)) w4.heap.size _ o2 A2 k2 c2 Y.t.lv (qaj _ _) (by omega))
    have HF4:=hid (HF3.out.trans hf4 (by omega))
    have HN4:=hid (HN3.out.fr (by intro i hi;omega) hf4)
    have HS4:=hid hs4
    clear hs4 hf4 hcI4
    unfold one mkv sv at HM
    go_wp2_with fail
    (with_reducible refine HM.out.mono ?_)
    rintro e w5⟨rfl,hb5⟩
    have B34:Below w4.heap.size w4 w5:=((Below.refl _ w4).alloc (Nat.le_refl _) _).trans (hb5.mono (by simp))
    have F5:Fr gp (w.heap.size+1) (w.alloc zn) w5:=HF4.out.trans (Fr.of B34) (by omega)
    have hN5:=xa4 (X:=(w.heap.size+1 ≤ ·)) [40] (by omega) HN4.out hb5
    obtain⟨z0,z1,z2,zf⟩:=c3 (qor F5 hgp)
    have zf0:=zf 0;have zf1:=zf 1;have zf2:=zf 2
    obtain⟨y1,y2,y3,y4⟩:=fin (HS4.out.below B34) hgp hbt F5 hN5
    have Y1:=hid y1;have YY:=hid (And.intro y2 (And.intro y3 y4))
    clear y1 y2 y3 y4 hN5 F5 B34 hb5
    unfold qf8 at Y1 YY
    have hm2:((Y.t.lv:Nat):Int)+1=((T.un [40] Y.t).lv:Int):=by show _=((Y.t.lv+1:Nat):Int);simp
    go_wp2_with fail
    generalize(((w5.setCell ⟨w.heap.size,0,none⟩ (.string ⟨[40].toArray⟩)).setCell ⟨w.heap.size,1,none⟩ (.slice (some ⟨w4.heap.size,0,none⟩) 1 1)).setCell ⟨w.heap.size,2,none⟩ (.int .i64 ((T.un [40] Y.t).lv:Int)))=W9 at Y1 YY ⊢
    obtain⟨q0,q1,q2,_⟩:=c3 Y1.out
    refine bodyPost_ret (v := .agg #[.string ⟨#[40]⟩,.slice (some ⟨w4.heap.size,0,none⟩) 1 1,.int .i64 ((T.un [40] Y.t).lv:Int)]) (by simp[results,Tryz.results300,go_sem,q0,q1,q2]) rfl ?_
    exact⟨_,_,rfl,YY.out.1,YY.out.2.1,YY.out.2.2⟩
   ·rw[q8q _ _ _ _ _ (hN.trans hd) hp]
    clear hN hd
    have h2:=h.alloc zn
    have HX:=hid (qfp h2 [40] hl)
    have hgp:=h.lt;have hbt:=h.lb
    have c0:=h2.c0
    have hE:qt8 [40] ((c :: t') :: l)=((c :: t') :: l)∧qsy [40] ((c :: t') :: l)=true:=by unfold qt8 qsy;rw[show next [[40]] ((c :: t') :: l)=none from if_neg (by simpa using hp)];exact⟨rfl,rfl⟩
    rw[hE.1,hE.2] at HX
    unfold sv at HX
    clear hE h h2
    go_enter Tryz.func300,Tryz.ntmps300
    go_wp2_with fail
    (with_reducible refine(qcm c _).mono ?_)
    rintro e w0⟨rfl,rfl⟩
    rw[HD.out]
    go_wp2_with fail
    (with_reducible refine HX.out.mono ?_)
    rintro e w1⟨rfl,⟨u,hs⟩,hf⟩
    have hf1:Fr gp (w.heap.size+1) (w.alloc zn) w1:=hf.mono (by simp)
    obtain⟨z0,z1,z2,zf⟩:=c3 (qor hf1 hgp)
    have zf0:=zf 0;have zf1:=zf 1;have zf2:=zf 2
    obtain⟨y1,y2,y3,y4⟩:=fin (x := .bad) (o:=⟨#[]⟩) (A:=none) (k:=0) (c:=0) hs hgp hbt hf1 rfl
    have Y1:=hid y1;have Y:=hid (And.intro y2 (And.intro y3 y4))
    clear hs hf hf1 y1 y2 y3 y4
    unfold qf8 at Y1 Y
    rw[show((T.bad.lv:Nat):Int)=0 from rfl] at Y1 Y
    go_wp2_with fail
    generalize(((w1.setCell ⟨w.heap.size,0,none⟩ (.string ⟨#[]⟩)).setCell ⟨w.heap.size,1,none⟩ (.slice none 0 0)).setCell ⟨w.heap.size,2,none⟩ (.int .i64 0))=W9 at Y1 Y ⊢
    obtain⟨q0,q1,q2,_⟩:=c3 Y1.out
    refine bodyPost_ret (v := .agg #[.string ⟨#[]⟩,.slice none 0 0,.int .i64 0]) (by simp[results,Tryz.results300,go_sem,q0,q1,q2]) rfl ?_
    exact⟨_,_,rfl,Y.out.1,Y.out.2.1,Y.out.2.2⟩
end Go.Proofs.YtldkgbnmaefaaaaGreatDoor.Fo
namespace Go.Proofs.YtldkgbnmaefaaaaGreatDoor.Fo
open Go.RowKit Go.Proofs.YtldkgbnmaefaaaaGreatDoor.Nu
set_option linter.unusedVariables false
set_option linter.unusedSimpArgs false
theorem qe8(c:UInt8)(w:World):Calls Tryz.prog 249 #[.int .u8 c.toNat] w fun e w'=>e=.returned (.bool (isL c))∧w'=w:=by
 have h1:=UInt8.toNat_lt c
 by_cases ha:97≤c.toNat
 ·by_cases hb:c.toNat≤122
  ·have e:isL c=true:=by unfold isL;rw[decide_eq_true_iff];omega
   have HE:=hid e;clear e
   have d1:decide ((97:Int)≤(c.toNat:Int))=true:=by rw[decide_eq_true_iff];omega
   have d2:decide ((c.toNat:Int)≤(122:Int))=true:=by rw[decide_eq_true_iff];omega
   go_enter Tryz.func249,Tryz.ntmps249
   go_wp2
   go_ret
   rw[HE.out];simp
  ·have e:isL c=false:=by unfold isL;rw[decide_eq_false_iff_not];omega
   have HE:=hid e;clear e
   have d1:decide ((97:Int)≤(c.toNat:Int))=true:=by rw[decide_eq_true_iff];omega
   have d2:decide ((c.toNat:Int)≤(122:Int))=false:=by rw[decide_eq_false_iff_not];omega
   go_enter Tryz.func249,Tryz.ntmps249
   go_wp2
   go_ret
   rw[HE.out];simp
 ·have e:isL c=false:=by unfold isL;rw[decide_eq_false_iff_not];omega
  have HE:=hid e;clear e
  have d1:decide ((97:Int)≤(c.toNat:Int))=false:=by rw[decide_eq_false_iff_not];omega
  go_enter Tryz.func249,Tryz.ntmps249
  go_wp2
  go_ret
  rw[HE.out];simp
theorem qf9{p:UInt8→Bool} : ∀ {l:List UInt8} {k:Nat} {c:UInt8},(l.take k).all p=true→l[k]? = some c→p c=false→(l.takeWhile p).length=k
 | [],k,c,_,h,_=>by simp at h
 |a :: l,0,c,_,h,hp=>by simp at h;subst h;simp[hp]
 |a :: l,k+1,c,h1,h,hp=>by
  simp at h1 h
  rw[List.takeWhile_cons,if_pos h1.1,List.length_cons,qf9 (by simpa using h1.2) h hp]
theorem qff{p:UInt8→Bool} : ∀ {l:List UInt8},l.all p=true→(l.takeWhile p).length=l.length
 | [],_=>rfl
 |a :: l,h=>by
  rw[List.all_cons] at h
  cases hp:p a
  ·rw[hp] at h;simp at h
  ·rw[hp] at h
   rw[List.takeWhile_cons,if_pos hp,List.length_cons,List.length_cons,qff (by simpa using h)]
theorem qyf{p:UInt8→Bool}{l:List UInt8}{k:Nat}{x:UInt8}(h:(l.take k).all p=true)(hx:l[k]? = some x)(hd:p x=true):(l.take (k+1)).all p=true:=by
 rw[List.take_add_one,hx,List.all_append,h]
 simp[hd]
theorem qwk(f:FuncId)(eg : ∀ args w,(callFunc f args).run Tryz.prog w=.ok (.enter f args) w)(p:UInt8→Bool)(hp : ∀ c W,Calls Tryz.prog f #[.int .u8 c.toNat] W fun e w'=>e=.returned (.bool (p c))∧w'=W)(s:ByteArray)(hs:s.size≤1000)(w:World) :
  Calls Tryz.prog 279 #[.string s,.func (.func f) #[] #[]] w fun e w'=>e=.returned (.int .i64 ((s.data.toList.takeWhile p).length:Int))∧w'=w:=by
 have HP:=hid hp;clear hp
 have hsz:s.data.toList.length=s.size:=rfl
 have HZ:=hid hsz;clear hsz
 go_enter Tryz.func279,Tryz.ntmps279
 go_wp2_with fail
 go_loopw [5] (fun i wr => ∃ k:Nat,i=.int .i64 k∧k≤s.size∧Hid (wr=w)∧Hid ((s.data.toList.take k).all p=true)) (fun i _=>s.size-(intOf i).toNat)
 case atStart=>exact⟨0,rfl,Nat.zero_le _,hid rfl,hid (by simp)⟩
 case round =>
  obtain⟨k,rfl,hk,hw,ha⟩:=hrel
  have hw':=hw.out
  subst hw'
  by_cases hlt:k<s.size
  ·have hd:decide ((k:Int)<(s.size:Int))=true:=by rw[decide_eq_true_iff];omega
   have hc:s.data.toList[k]? = some (s[k]):=by
    rw[List.getElem?_eq_getElem (by rw[HZ.out];exact hlt)];rfl
   have HC:=hid hc;clear hc
   go_wp2_with fail
   refine(HP.out (s[k]) _).mono ?_
   rintro e w1⟨rfl,rfl⟩
   cases hq:p s[k] with
   |true =>
    have HQ:=hid hq;clear hq
    go_wp2_with fail
    go_roundw
    case rel=>exact⟨k+1,by simp,by omega,hid (by first | rfl | trivial),hid (qyf ha.out HC.out HQ.out)⟩
    case measure=>simp[intOf];omega
   |false =>
    have HQ:=hid (qf9 ha.out HC.out hq);clear hq
    go_wp2_with fail
    go_ret
    exact⟨by rw[HQ.out];rfl,rfl⟩
  ·have ek:k=s.size:=by omega
   subst ek
   have hd:decide ((s.size:Int)<(s.size:Int))=false:=by simp
   have HQ:=hid (qff (p:=p) (l:=s.data.toList) (by have:=ha.out;rwa [List.take_of_length_le (by rw[HZ.out];exact Nat.le_refl _)] at this))
   go_wp2_with fail
   go_ret
   exact⟨by rw[HQ.out,HZ.out];rfl,rfl⟩
theorem xex(s:ByteArray)(hs:s.size≤1000)(w:World):Calls Tryz.prog 279 #[.string s,.func (.func 247) #[] #[]] w fun e w'=>e=.returned (.int .i64 ((s.data.toList.takeWhile isD).length:Int))∧w'=w :=
 qwk 247 (fun _ _=>rfl) isD qcm s hs w
theorem xfm(s:ByteArray)(hs:s.size≤1000)(w:World):Calls Tryz.prog 279 #[.string s,.func (.func 249) #[] #[]] w fun e w'=>e=.returned (.int .i64 ((s.data.toList.takeWhile isL).length:Int))∧w'=w :=
 qwk 249 (fun _ _=>rfl) isL qe8 s hs w
theorem q4s(l:List UInt8):Lib.hasPrefix l [46]=decide (l.head? = some 46):=by
 cases l with
 |nil=>rfl
 |cons c l =>
  by_cases h:c=46
  ·subst h;rfl
  ·have h1:decide ((c :: l).head? = some 46)=false:=by rw[decide_eq_false_iff_not];simpa using h
   rw[h1]
   cases hp:Lib.hasPrefix (c :: l) [46] with
   |false=>rfl
   |true =>
    exfalso;apply h
    have h2:46=c:=by simpa [Lib.hasPrefix] using hp
    exact h2.symm
theorem qib(s:ByteArray)(hs:s.size≤1000)(w:World):Calls Tryz.prog 248 #[.string s] w fun e w'=>e=.returned (.int .i64 (qdw s.data.toList:Int))∧w'=w:=by
 have hsz:s.data.toList.length=s.size:=rfl
 obtain⟨W,hW⟩ : ∃ W,(s.data.toList.takeWhile isD).length=W:=⟨_,rfl⟩
 have hle:W≤s.size:=by rw[←hW,←hsz];exact qbn _ _
 have HR:=hid (xex s hs)
 rw[hW] at HR
 have he:(s.extract W s.size).data.toList=s.data.toList.drop W:=Lib.extract_to_end s W
 have HP:=hid (fun w=>Tryz.strings_HasPrefix (s.extract W s.size) ⟨#[46]⟩ w)
 rw[show((⟨#[46]⟩:ByteArray).data.toList)=[46] from rfl,he,q4s] at HP
 by_cases hd:(s.data.toList.drop W).head? = some 46
 ·have hlt:W<s.size:=by
   rcases Nat.lt_or_ge W s.size with h | h
   ·exact h
   ·rw[List.drop_eq_nil_of_le (by omega)] at hd;simp at hd
  have he1:(s.extract (W+1) s.size).data.toList=s.data.toList.drop (W+1):=Lib.extract_to_end s (W+1)
  have HR2:=hid (xex (s.extract (W+1) s.size) (by simp;omega))
  rw[he1] at HR2
  obtain⟨V,hV⟩ : ∃ V,((s.data.toList.drop (W+1)).takeWhile isD).length=V:=⟨_,rfl⟩
  have hle2:V≤s.size:=by
   have:=qbn isD (s.data.toList.drop (W+1))
   rw[List.length_drop] at this;omega
  rw[hV] at HR2
  have HN:Hid (qdw s.data.toList=if 9<W∨9<V then 0 else if V=0 then W else W+1+V):=hid (by unfold qdw;simp only[hW,if_pos hd,hV])
  rw[decide_eq_true hd] at HP
  clear hd he he1 hV hW hsz
  rw[HN.out]
  go_enter Tryz.func248,Tryz.ntmps248
  go_wp2_with fail
  refine(HR.out _).mono ?_
  rintro e w1⟨rfl,rfl⟩
  go_wp2_with fail
  refine(HP.out _).mono ?_
  rintro e w1⟨rfl,rfl⟩
  go_wp2_with fail
  refine(HR2.out _).mono ?_
  rintro e w1⟨rfl,rfl⟩
  by_cases h9:9<W
  ·have d1:decide ((W:Int)>9)=true:=by rw[decide_eq_true_iff];omega
   go_wp2
   go_ret
   first | exact⟨rfl,rfl⟩ | exact⟨by simp,rfl⟩
  ·have d1:decide ((W:Int)>9)=false:=by rw[decide_eq_false_iff_not];omega
   by_cases h8:9<V
   ·have d2:decide ((V:Int)>9)=true:=by rw[decide_eq_true_iff];omega
    go_wp2
    go_ret
    first | exact⟨rfl,rfl⟩ | exact⟨by simp,rfl⟩
   ·have d2:decide ((V:Int)>9)=false:=by rw[decide_eq_false_iff_not];omega
    by_cases h0:V=0
    ·subst h0
     go_wp2
     go_ret
     first | exact⟨rfl,rfl⟩ | exact⟨by simp,rfl⟩
    ·have d3:((V:Int)==0)=false:=by simpa using h0
     have HZ:=hid h0
     go_wp2
     go_ret
     first | exact⟨rfl,rfl⟩ | exact⟨by simp,rfl⟩
 ·have HN:Hid (qdw s.data.toList=if 9<W then 0 else W):=hid (by unfold qdw;simp only[hW,if_neg hd];by_cases h9:9<W<;>simp[h9])
  rw[decide_eq_false hd] at HP
  clear hd he hW hsz
  rw[HN.out]
  go_enter Tryz.func248,Tryz.ntmps248
  go_wp2_with fail
  refine(HR.out _).mono ?_
  rintro e w1⟨rfl,rfl⟩
  go_wp2_with fail
  refine(HP.out _).mono ?_
  rintro e w1⟨rfl,rfl⟩
  by_cases h9:9<W
  ·have d1:decide ((W:Int)>9)=true:=by rw[decide_eq_true_iff];omega
   go_wp2
   go_ret
   first | exact⟨rfl,rfl⟩ | exact⟨by simp,rfl⟩
  ·have d1:decide ((W:Int)>9)=false:=by rw[decide_eq_false_iff_not];omega
   go_wp2
   go_ret
   first | exact⟨rfl,rfl⟩ | exact⟨by simp,rfl⟩
theorem qu4(X:ByteArray)(u:List UInt8)(h:X.data.toList≠u):(X.toList==u)=false:=by
 rw[ByteArray.toList_eq];exact beq_eq_false_iff_ne.2 h
theorem qi0(X:ByteArray)(t:Tok)(h:X.data.toList=t):X=⟨t.toArray⟩:=by
 apply ByteArray.ext;apply Array.ext';simp[h]
theorem qj7(s:ByteArray)(hs:s.size≤1000)(w:World):Calls Tryz.prog 250 #[.string s] w fun e w'=>e=.returned (.int .i64 (qd3 s.data.toList:Int))∧w'=w:=by
 have hsz:s.data.toList.length=s.size:=rfl
 have hW:qd3 s.data.toList=if s.data.toList.take (s.data.toList.takeWhile isL).length∈qfg then (s.data.toList.takeWhile isL).length else 0:=rfl
 rw[hW]
 have hle:(s.data.toList.takeWhile isL).length≤s.size:=by rw[←hsz];exact qbn _ _
 have HR:=hid (xfm s hs)
 generalize(s.data.toList.takeWhile isL).length=W at hle HR ⊢
 have he:(s.extract 0 W).data.toList=s.data.toList.take W:=by simp
 generalize s.data.toList.take W=t at he ⊢
 by_cases hm:t∈qfg
 ·rw[if_pos hm]
  have HX:=hid (qi0 _ _ he)
  clear he hsz hW
  simp only[qfg,List.mem_cons,List.not_mem_nil,or_false] at hm
  rcases hm with rfl | rfl | rfl | rfl | rfl | rfl
  all_goals
   go_enter Tryz.func250,Tryz.ntmps250
   go_wp2_with fail
   refine(HR.out _).mono ?_
   rintro e w1⟨rfl,rfl⟩
   have hx:=HX.out
   go_wp2
   go_ret
   first | exact⟨rfl,rfl⟩ | exact⟨by simp,rfl⟩
 ·rw[if_neg hm]
  have hn : ∀ u∈qfg,((s.extract 0 W).toList==u)=false:=fun u hu=>qu4 _ _ (fun e=>hm (by rw[←he,e];exact hu))
  have n1:=hn [109,111,100] (by decide)
  have n2:=hn [97,110,100] (by decide)
  have n3:=hn [111,114] (by decide)
  have n4:=hn [110,111,116] (by decide)
  have n5:=hn [114,111,117,110,100] (by decide)
  have n6:=hn [102,108,111,111,114] (by decide)
  clear he hsz hW hm hn
  go_enter Tryz.func250,Tryz.ntmps250
  go_wp2_with fail
  refine(HR.out _).mono ?_
  rintro e w1⟨rfl,rfl⟩
  go_wp2
  go_ret
  exact⟨rfl,rfl⟩
end Go.Proofs.YtldkgbnmaefaaaaGreatDoor.Fo
namespace Go.Proofs.YtldkgbnmaefaaaaGreatDoor.Fo
open Go.RowKit Go.Proofs.YtldkgbnmaefaaaaGreatDoor.Nu
set_option linter.unusedVariables false
set_option linter.unusedSimpArgs false
theorem qj5(s:ByteArray)(h0:0<s.size)(hs:s.size≤1000)(w:World):Calls Tryz.prog 251 #[.string s] w fun e w'=>e=.returned (.int .i64 (qd2 s.data.toList:Int))∧w'=w:=by
 have hsz:s.data.toList.length=s.size:=rfl
 obtain⟨M,hM⟩ : ∃ M:Nat,min 2 s.size=M:=⟨_,rfl⟩
 have hM1:min (2:Int) (s.size:Int)=(M:Int):=by omega
 have hM2:M≤s.size:=by omega
 have ht:s.data.toList.take M=s.data.toList.take 2:=by
  rcases Nat.lt_or_ge s.size 2 with h | h
  ·rw[List.take_of_length_le (by omega),List.take_of_length_le (by omega)]
  ·rw[show M=2 by omega]
 have he:(s.extract 0 M).data.toList=s.data.toList.take M:=by simp
 rw[ht] at he
 have hh : ∃ c r,s.data.toList=c :: r:=by
  cases hq:s.data.toList with
  |nil=>rw[hq] at hsz;simp at hsz;omega
  |cons c r=>exact⟨c,r,rfl⟩
 obtain⟨c,r,hcr⟩:=hh
 have hS:qd2 s.data.toList=if s.data.toList.take 2∈qrj then 2 else (if c∈ones then 1 else 0):=by rw[hcr];rfl
 rw[hS]
 have h1:s.extract 0 1=⟨#[c]⟩:=by
  apply ByteArray.ext;apply Array.ext'
  rw[show(s.extract 0 1).data.toList=s.data.toList.take 1 by simp,hcr];rfl
 have HC:=hid (fun w=>Tryz.strings_Contains_one ⟨ones.toArray⟩ c w)
 rw[show((⟨ones.toArray⟩:ByteArray).data.toList)=ones from by simp,←Lib.contains_iff_indexByte] at HC
 generalize s.data.toList.take 2=t at he ⊢
 by_cases hm:t∈qrj
 ·rw[if_pos hm]
  have HX:=hid (qi0 _ _ he)
  clear he hsz hS ht hM hcr
  simp only[qrj,List.mem_cons,List.not_mem_nil,or_false] at hm
  rcases hm with rfl | rfl | rfl
  all_goals
   have hx:=HX.out
   go_enter Tryz.func251,Tryz.ntmps251
   go_wp2
   go_ret
   first | exact⟨rfl,rfl⟩ | exact⟨by simp,rfl⟩
 ·rw[if_neg hm]
  have hn : ∀ u∈qrj,((s.extract 0 M).toList==u)=false:=fun u hu=>qu4 _ _ (fun e=>hm (by rw[←he,e];exact hu))
  have n1:=hn [60,61] (by decide)
  have n2:=hn [62,61] (by decide)
  have n3:=hn [60,62] (by decide)
  have h01:(1:Int)≤(s.size:Int):=by omega
  clear he hsz hS ht hM hn hcr hm
  unfold ones at HC
  by_cases hc:c∈ones
  ·have hk:ones.contains c=true:=by simpa using hc
   have HK:=hid hk
   rw[if_pos hc]
   clear hc hk
   go_enter Tryz.func251,Tryz.ntmps251
   go_wp2_with fail
   refine(HC.out _).mono ?_
   rintro e w1⟨rfl,rfl⟩
   have hk2:=HK.out
   unfold ones at hk2
   rw[hk2]
   clear hk2
   go_wp2
   go_ret
   first | exact⟨rfl,rfl⟩ | exact⟨by simp,rfl⟩
  ·have hk:ones.contains c=false:=by simpa using hc
   have HK:=hid hk
   rw[if_neg hc]
   clear hc hk
   go_enter Tryz.func251,Tryz.ntmps251
   go_wp2_with fail
   refine(HC.out _).mono ?_
   rintro e w1⟨rfl,rfl⟩
   have hk2:=HK.out
   unfold ones at hk2
   rw[hk2]
   clear hk2
   go_wp2
   go_ret
   first | exact⟨rfl,rfl⟩ | exact⟨by simp,rfl⟩
theorem qjx(s:ByteArray)(h0:0<s.size)(hs:s.size≤1000)(w:World):Calls Tryz.prog 224 #[.string s] w fun e w'=>e=.returned (.int .i64 (qar s.data.toList:Int))∧w'=w:=by
 have hsz:s.data.toList.length=s.size:=rfl
 obtain⟨c,r,hcr⟩ : ∃ c r,s.data.toList=c :: r:=by
  cases hq:s.data.toList with
  |nil=>rw[hq] at hsz;simp at hsz;omega
  |cons c r=>exact⟨c,r,rfl⟩
 have h00:(s[0]'h0)=c:=by
  have:s.data.toList[0]? = some (s[0]'h0):=by rw[List.getElem?_eq_getElem (by rw[hsz];exact h0)];rfl
  rw[hcr] at this;simpa using this.symm
 have hT:qar s.data.toList=if isD c then qdw s.data.toList else if isL c then qd3 s.data.toList else qd2 s.data.toList:=by rw[hcr];rfl
 have HT:=hid hT
 have H1:=hid (qib s hs)
 have H2:=hid (qj7 s hs)
 have H3:=hid (qj5 s h0 hs)
 clear hcr hT hsz
 cases hd:isD c with
 |true =>
  have HD:=hid hd
  have e1:qar s.data.toList=qdw s.data.toList:=by rw[HT.out,hd];rfl
  rw[e1]
  clear hd e1
  go_enter Tryz.func224,Tryz.ntmps224
  go_wp2_with fail
  refine(qcm c _).mono ?_
  rintro e w1⟨rfl,rfl⟩
  rw[HD.out]
  go_wp2_with fail
  refine(H1.out _).mono ?_
  rintro e w1⟨rfl,rfl⟩
  go_wp2
  go_ret
  exact⟨rfl,rfl⟩
 |false =>
  have HD:=hid hd
  cases hl:isL c with
  |true =>
   have HL:=hid hl
   have e1:qar s.data.toList=qd3 s.data.toList:=by rw[HT.out,hd,hl];rfl
   rw[e1]
   clear hd hl e1
   go_enter Tryz.func224,Tryz.ntmps224
   go_wp2_with fail
   refine(qcm c _).mono ?_
   rintro e w1⟨rfl,rfl⟩
   rw[HD.out]
   go_wp2_with fail
   refine(qe8 c _).mono ?_
   rintro e w1⟨rfl,rfl⟩
   rw[HL.out]
   go_wp2_with fail
   refine(H2.out _).mono ?_
   rintro e w1⟨rfl,rfl⟩
   go_wp2
   go_ret
   exact⟨rfl,rfl⟩
  |false =>
   have HL:=hid hl
   have e1:qar s.data.toList=qd2 s.data.toList:=by rw[HT.out,hd,hl];rfl
   rw[e1]
   clear hd hl e1
   go_enter Tryz.func224,Tryz.ntmps224
   go_wp2_with fail
   refine(qcm c _).mono ?_
   rintro e w1⟨rfl,rfl⟩
   rw[HD.out]
   go_wp2_with fail
   refine(qe8 c _).mono ?_
   rintro e w1⟨rfl,rfl⟩
   rw[HL.out]
   go_wp2_with fail
   refine(H3.out _).mono ?_
   rintro e w1⟨rfl,rfl⟩
   go_wp2
   go_ret
   exact⟨rfl,rfl⟩
end Go.Proofs.YtldkgbnmaefaaaaGreatDoor.Fo
namespace Go.Proofs.YtldkgbnmaefaaaaGreatDoor.Fo
open Go.RowKit Go.Shelf Go.Proofs.YtldkgbnmaefaaaaGreatDoor.Nu
set_option linter.unusedVariables false
set_option linter.unusedSimpArgs false
theorem qri(s:ByteArray)(w:World):Calls Tryz.prog 223 #[.string s,.string ⟨#[9,10,32]⟩] w fun e w'=>e=.returned (.string ⟨(trimB s.data.toList).toArray⟩)∧Below w.heap.size w w':=by
 have h:=Any.strings_TrimLeft_laid Tryz.lays161 (by kernel_rfl) s ⟨#[9,10,32]⟩ w (by decide) (ascii_of_all (by decide))
 exact h
theorem qfq:(Tryz.prog.info? 9).map (fun i=>(i.zero,i.size,i.bytes))=some (some (.string ⟨#[]⟩),1,16):=by kernel_rfl
theorem info_parts{x:Option TypeInfo}{z:Option Value}{s b:Nat}(h:x.map (fun i=>(i.zero,i.size,i.bytes))=some (z,s,b)) : ∃ i,x=some i∧i.zero=z∧i.size=s∧i.bytes=b:=by
 cases x with
 |none=>cases h
 |some i=>simp at h;exact⟨i,rfl,h.1,h.2.1,h.2.2⟩
def strs(l:List Tok):List Value:=l.map sv
theorem qfb(w:World)(u:Value)(t:TypeId) : ∀ j x,[u][j]? = some x→(w.alloc (.cells #[u] t)).cell? ((⟨w.heap.size,0,none⟩:Addr).add j)=some x:=fun j x hj=>by
 cases j with
 |zero =>
  simp at hj;subst hj
  simp[Addr.add]
 |succ j=>simp at hj
theorem qbl{w:World}{base:Nat}{t:TypeId}{size:Nat}{v:Value}{n:Nat}{xs:List Value}(h:w.ownsRow base t size v n xs) : ∃ A c,v=.slice A n c:=by
 rcases h.2 with⟨rfl,rfl⟩ | ⟨g,cap,cur,rfl,_⟩
 ·exact⟨_,_,rfl⟩
 ·exact⟨_,_,rfl⟩
theorem qvj{w:World}{base:Nat}{t:TypeId}{v:Value}{l:List Tok}(h:w.ownsRow base t 1 v l.length (strs l))(hb:0<w.heap.size) : ∃ bt,bt<w.heap.size∧TS bt w v l:=by
 obtain⟨h1,h2⟩:=h
 rcases h2 with⟨rfl,h0⟩ | ⟨g,cap,cur,rfl,h3,h4,h5,h6,h7,h8⟩
 ·exact⟨0,hb,none,0,by rw[h0],by omega,by omega,fun h=>absurd h (by omega)⟩
 ·refine⟨g,(Array.getElem?_eq_some_iff.1 h4).1,some ⟨g,0,none⟩,cap,rfl,h5,by simpa [maxLen] using h6,fun _=>⟨0,rfl,fun j u hj => ?_⟩⟩
  unfold World.cell?
  rw[show(⟨g,0+j,none⟩:Addr).block=g from rfl,h4]
  have hlt:=(List.getElem?_eq_some_iff.1 hj).1
  have:(cur.toList.take (l.length*1))[j]? = (strs l)[j]? := by rw[h8]
  rw[List.getElem?_take,if_pos (by omega)] at this
  simp only[strs,List.getElem?_map,hj,Option.map_some] at this
  simpa using this
theorem own_below{w w':World}{base:Nat}{e:TypeId}{size:Nat}{v:Value}{n:Nat}{xs:List Value}(h:w.ownsRow base e size v n xs)(hb:Below w.heap.size w w'):w'.ownsRow base e size v n xs:=by
 obtain⟨h1,h2⟩:=h
 refine⟨h1,?_⟩
 rcases h2 with h | ⟨g,cap,cur,hv,h3,h4,h5⟩
 ·exact .inl h
 ·exact .inr ⟨g,cap,cur,hv,h3,(hb.block g (Array.getElem?_eq_some_iff.1 h4).1).trans h4,h5⟩
def Sp(w:World)(s:List UInt8)(e:Ending)(w':World):Prop:=Below w.heap.size w w'∧match qcy s with
 |none=>e=.returned (.tuple #[.slice none 0 0,.bool false])
 |some l => ∃ v,e=.returned (.tuple #[v,.bool true])∧w'.ownsRow w.heap.size 9 1 v l.length (strs l)
theorem qww(s:ByteArray)(hs:s.size≤400)(w:World):Calls Tryz.prog 179 #[.string s] w (Sp w s.data.toList):=by
 obtain⟨i0,hi,hz0,hz1,hz2⟩:=info_parts qfq
 have hbk : ∀ n:Nat,n≤4294967282→n*16≤140737488355328:=fun n h=>by omega
 have HBK:=hid hbk;clear hbk
 have hsz:s.data.toList.length=s.size:=rfl
 have h1:=qes s.data.toList
 have HT:=hid (qri s)
 have HL:Hid (qcy s.data.toList=toks (trimB s.data.toList)):=hid rfl
 generalize trimB s.data.toList=L0 at h1 HT HL
 have HS:Hid (L0.length≤400):=hid (by omega)
 clear h1 hsz
 go_enter Tryz.func179,Tryz.ntmps179
 go_wp2_with fail
 refine(HT.out _).mono ?_
 rintro e w1⟨rfl,hb⟩
 have HB:=hid hb
 clear hb
 go_wp2_with fail
 go_loopw [0,4] (fun x v wr => ∃ (X:ByteArray) (acc:List Tok),x=.string X∧Hid (acc.length+X.data.toList.length≤L0.length)∧Hid (wr.ownsRow w.heap.size 9 1 v acc.length (strs acc))∧Hid (Below w.heap.size w wr)∧Hid (qcy s.data.toList=(toks X.data.toList).map (acc ++ ·)))
  (fun x _ _=>match x with | .string X=>X.data.toList.length | _=>0)
 case atStart=>exact⟨⟨L0.toArray⟩,[],rfl,hid (by simp),hid (World.ownsRow_nil _ _ _ _),HB,hid (by rw[HL.out];simp)⟩
 case round =>
  obtain⟨X,acc,rfl,hle,hown,hbel,heq⟩:=hrel
  have hXs:X.data.toList.length=X.size:=rfl
  have hX4:acc.length+X.size≤400:=by have:=hle.out;have:=HS.out;omega
  obtain⟨VA,VC,hv⟩:=qbl hown.out
  subst hv
  by_cases h0:X.size=0
  ·have e0:X=⟨#[]⟩:=qi0 X [] (List.length_eq_zero_iff.1 (by omega))
   subst e0
   have HF:Hid (qcy s.data.toList=some acc):=hid (by rw[heq.out];simp[qrf])
   go_wp2_with fail
   go_ret2
   unfold Sp
   rw[HF.out]
   exact⟨hbel.out,_,rfl,hown.out⟩
  ·have hne:X.data.toList≠[]:=fun e=>h0 (by rw[←hXs,e];rfl)
   have q1:X.toList.isEmpty=false:=by
    rw[ByteArray.toList_eq]
    cases hq:X.data.toList with
    |nil=>exact absurd hq hne
    |cons c r=>rfl
   have q2:(X.toList==[])=false:=qu4 _ _ hne
   have HK:=hid (qjx X (by omega) (by omega))
   have hnl:=(qjw X.data.toList).1
   have HNE:=hid hne
   by_cases hn0:qar X.data.toList=0
   ·rw[hn0] at HK
    have HF:Hid (qcy s.data.toList=none):=hid (by rw[heq.out,qjz hne hn0];rfl)
    clear hne hnl hn0 heq
    go_wp2_with fail
    refine(HK.out _).mono ?_
    rintro e w2⟨rfl,rfl⟩
    go_wp2_with fail
    go_ret2
    unfold Sp
    rw[HF.out]
    exact⟨hbel.out,rfl⟩
   ·have HF:Hid (qcy s.data.toList=(toks (trimB (X.data.toList.drop (qar X.data.toList)))).map ((acc++[X.data.toList.take (qar X.data.toList)]) ++ ·)):=hid (by
     rw[heq.out,qjy hne hn0]
     simp[Option.map_map,Function.comp_def])
    have hle2:Hid ((acc++[X.data.toList.take (qar X.data.toList)]).length+(trimB (X.data.toList.drop (qar X.data.toList))).length≤L0.length):=hid (by
     have h1:=qes (X.data.toList.drop (qar X.data.toList))
     have h2:=hle.out
     rw[List.length_drop] at h1
     simp only[List.length_append,List.length_cons,List.length_nil]
     omega)
    have e1:(X.extract 0 (qar X.data.toList)).data.toList=X.data.toList.take (qar X.data.toList):=by simp
    have e2:(X.extract (qar X.data.toList) X.size).data.toList=X.data.toList.drop (qar X.data.toList):=Lib.extract_to_end X _
    have HX1:Hid (X.extract 0 (qar X.data.toList)=bs (X.data.toList.take (qar X.data.toList))):=hid (qi0 _ _ e1)
    have HT2:=hid (qri (X.extract (qar X.data.toList) X.size))
    rw[e2] at HT2
    have hm:Hid ((trimB (X.data.toList.drop (qar X.data.toList))).length<X.data.toList.length):=hid (by
     have h1:=qes (X.data.toList.drop (qar X.data.toList))
     rw[List.length_drop] at h1;omega)
    generalize trimB (X.data.toList.drop (qar X.data.toList))=R at HF hle2 HT2 hm
    generalize X.data.toList.take (qar X.data.toList)=tk at HF hle2 HX1
    generalize qar X.data.toList=n at HK hnl hn0 HX1 HT2
    have hn1:n≤X.size:=by omega
    have hn2:((n:Int)==0)=false:=by simpa using hn0
    clear hne hnl heq e1 e2
    go_wp2_with fail
    refine(HK.out _).mono ?_
    rintro e w2⟨rfl,rfl⟩
    have hbs:=hbel.out.size
    go_wp2_with (at_builtin;refine wpList_append_own _ rfl _ _ 22 rfl w.heap.size 9 i0 (.string ⟨#[]⟩) 1 16 Tryz.underlying22 hi hz0 hz1 hz2 rfl (by decide) _ _ _ rfl (hown.out.alloc _) ⟨w2.heap.size,0,none⟩ 1 1 [.string (X.extract 0 n)] rfl rfl (qfb _ _ _) (by simp[Value.oneCell']) (by unfold maxLen;omega) (HBK.out _ (by omega)) (by simp;omega) ?_)
    intro v' w3 hown' hgrow _
    have hb3:Below w.heap.size w w3:=(hbel.out.alloc (by omega) _).grown hgrow (by simp;omega) (fun k e=>(hown.out.lt k e).1)
    have HO:Hid (w3.ownsRow w.heap.size 9 1 v' (acc++[tk]).length (strs (acc++[tk]))):=hid (by
     have h:=hown'
     rw[HX1.out] at h
     simpa [strs,sv,bs] using h)
    have HB3:=hid hb3
    obtain⟨VA2,VC2,hv2⟩:=qbl hown'
    subst hv2
    clear hown' hgrow hb3
    go_wp2_with fail
    refine(HT2.out _).mono ?_
    rintro e w4⟨rfl,hb4⟩
    have HO4:=hid (own_below HO.out hb4)
    have HB4:=hid (HB3.out.trans (hb4.mono HB3.out.size))
    clear hb4
    go_wp2_with fail
    go_roundw
    case rel=>exact⟨⟨R.toArray⟩,acc++[tk],rfl,hid (by have:=hle2.out;simpa using this),HO4,HB4,hid (by rw[HF.out])⟩
    case measure =>
     have:=hm.out
     simpa using this
end Go.Proofs.YtldkgbnmaefaaaaGreatDoor.Fo
namespace Go.Proofs.YtldkgbnmaefaaaaGreatDoor.Fo
open Go.RowKit Go.Proofs.YtldkgbnmaefaaaaGreatDoor.Nu
set_option linter.unusedVariables false
set_option linter.unusedSimpArgs false
theorem xff(n:Nat)(ih1 : ∀ m,m<n→Lv 300 m 8)(ih2 : ∀ m,m<n→Lv 298 m 6):Lv 299 n 7:=by
 intro gp bt w v l b h hn hl
 obtain⟨n,rfl⟩ : ∃ j,n=j+1:=⟨n-1,by omega⟩
 have hGG:=G_7 n .bad l b
 generalize G (n+1) 7 .bad l b=RR at hGG ⊢
 have HQ:=hid (ih1 n (by omega) gp bt (w.alloc zn) v l b (h.alloc _) (by omega) hl)
 have hgp:=h.lt
 have hbt:=h.lb
 have hG:=qj8 n 8 .bad l b
 simp only[T.sz] at hG
 clear h ih1
 obtain⟨R,hR⟩ : ∃ R,G n 8 .bad l b=R:=⟨_,rfl⟩
 rw[hR] at HQ hG hGG
 have HGG:=hid hGG
 clear hR hGG
 have I2:=hid ih2;clear ih2
 have hL0:=T.lv_sz R.t
 go_enter Tryz.func299,Tryz.ntmps299
 go_wp2_with fail
 (with_reducible refine HQ.out.mono ?_)
 rintro e w1⟨x,u,rfl,hx,hs,hf⟩
 obtain⟨o1,A1,k1,c1,rfl⟩:=hx.form
 have hz1:=hf.size
 simp only[World.size_alloc] at hz1
 have hx1:Nd (w.heap.size+1 ≤ ·) w1 R.t (.agg #[.string o1,.slice A1 k1 c1,.int .i64 (R.t.lv:Int)]):=hx.imp fun i hi=>by simp at hi;omega
 obtain⟨wv,hwv⟩ : ∃ wv,w1.alloc (one o1 A1 k1 c1 R.t.lv)=wv:=⟨_,rfl⟩
 have hsv:St gp bt wv u R.r R.b:=hwv▸hs.alloc _
 have hzv:wv.heap.size=w1.heap.size+1:=by rw[←hwv];simp
 have HT:=hid (qg7 (hsv.alloc (row [[94]] 9)) (w1.heap.size+1) [[94]] (qfd wv _ hzv.symm _ _) (by decide) (by omega))
 have hcv:wv.heap[w1.heap.size]? = some (one o1 A1 k1 c1 R.t.lv):=by rw[←hwv];exact qaj _ _
 have hfa:Fr gp (w.heap.size+1) (w.alloc zn) wv:=by rw[←hwv];exact(hf.mono (by simp)).alloc (by omega) _
 have hfv:Fr gp (w.heap.size+1) (w.alloc zn) (wv.alloc (row [[94]] 9)):=hfa.alloc (by omega) _
 have hxa:Nd (w.heap.size+1 ≤ ·) wv R.t (.agg #[.string o1,.slice A1 k1 c1,.int .i64 (R.t.lv:Int)]):=by rw[←hwv];exact hx1.below ((Below.refl _ w1).alloc (Nat.le_refl _) _)
 have hxv:Nd (w.heap.size+1 ≤ ·) (wv.alloc (row [[94]] 9)) R.t (.agg #[.string o1,.slice A1 k1 c1,.int .i64 (R.t.lv:Int)]):=hxa.below ((Below.refl _ wv).alloc (Nat.le_refl _) _)
 have hcv2:(wv.alloc (row [[94]] 9)).heap[w1.heap.size]? = some (one o1 A1 k1 c1 R.t.lv):=(Below.heap_alloc _ _ _ (by omega)).trans hcv
 have HV:=hid (And.intro hfv (And.intro hxv hcv2))
 clear hs hf hx hx1 hsv hcv hfv hxv hcv2 hfa hxa
 obtain⟨W,hW⟩ : ∃ W,wv.alloc (row [[94]] 9)=W:=⟨_,rfl⟩
 rw[hW] at HT HV
 rw[show([[94]]:List Tok).length=1 from rfl] at HT
 have hzW:wv.heap.size<W.heap.size:=by rw[←hW];simp
 unfold row sv at hW
 unfold one at hwv
 simp only[List.map_cons,List.map_nil] at hW
 cases hq:next [[94]] R.r with
 |none =>
  rw[hq] at HT
  have HQN:=hid hq
  clear hq
  go_wp2_with fail
  (with_reducible refine HT.out.mono ?_)
  rintro e w2⟨rfl,hs,hf⟩
  obtain⟨hfv,hxv,hcv⟩:=HV.out
  have hf2:Fr gp (w.heap.size+1) (w.alloc zn) w2:=hfv.trans hf (by omega)
  obtain⟨z0,z1,z2,zf⟩:=c3 (qor hf2 hgp)
  have zf0:=zf 0;have zf1:=zf 1;have zf2:=zf 2
  obtain⟨v0,v1,v2,vf⟩:=c3 ((hf.block w1.heap.size (by omega) (by omega)).trans hcv)
  obtain⟨y1,y2,y3,y4⟩:=fin hs hgp hbt hf2 (hxv.fr (by intro i hi;omega) hf)
  have Y1:=hid y1;have Y:=hid (And.intro y2 (And.intro y3 y4))
  clear hs hf hfv hxv hcv hf2 y1 y2 y3 y4
  unfold qf8 at Y1 Y
  go_wp2_with fail
  generalize(((w2.setCell ⟨w.heap.size,0,none⟩ (.string o1)).setCell ⟨w.heap.size,1,none⟩ (.slice A1 k1 c1)).setCell ⟨w.heap.size,2,none⟩ (.int .i64 (R.t.lv:Int)))=W9 at Y1 Y ⊢
  obtain⟨q0,q1,q2,_⟩:=c3 Y1.out
  refine bodyPost_ret (v := .agg #[.string o1,.slice A1 k1 c1,.int .i64 (R.t.lv:Int)]) (by simp[results,Tryz.results299,go_sem,q0,q1,q2]) rfl ?_
  have e9:=HGG.out
  rw[HQN.out] at e9
  rw[e9]
  exact⟨_,_,rfl,Y.out.1,Y.out.2.1,Y.out.2.2⟩
 |some y =>
  obtain⟨o,r⟩:=y
  rw[hq] at HT
  have hlr:R.r.length=r.length+1:=by rw[(qdh hq).1];rfl
  have HQN:=hid hq
  clear hq
  go_wp2_with fail
  (with_reducible refine HT.out.mono ?_)
  rintro e w2⟨rfl,u2,hs,hf⟩
  unfold sv
  obtain⟨hfv,hxv,hcv⟩:=HV.out
  have hcl:w2.heap[w1.heap.size]? = some _:=(hf.block w1.heap.size (by omega) (by omega)).trans hcv
  obtain⟨v0,v1,v2,vf⟩:=c3 hcl
  have hf2:Fr gp (w.heap.size+1) (w.alloc zn) w2:=hfv.trans hf (by omega)
  have hz2:=hf.size
  have hx2:=hxv.fr (by intro i hi;omega) hf
  have HS2:=hid hs
  have HV2:=hid (And.intro hf2 (And.intro hx2 hcl))
  have HQ2:Hid (∀ W,W.heap=w2.heap→Calls Tryz.prog 298 #[.pointer (some ⟨gp,0,none⟩)] W (Post gp bt W (G n 6 .bad r R.b))):=hid fun W hW =>
   I2.out n (by omega) gp bt W u2 r R.b (HS2.out.keep (by rw[hW]) (by rw[hW]) (by rw[hW];exact Nat.le_refl _)) (by omega) (by omega)
  have hG2:=qj8 n 6 .bad r R.b
  have hL2:=T.lv_sz (G n 6 .bad r R.b).t
  simp only[T.sz] at hG2
  obtain⟨Y,hY⟩ : ∃ Y,G n 6 .bad r R.b=Y:=⟨_,rfl⟩
  rw[hY] at HQ2 hG2 hL2
  have HY:=hid hY
  clear hY
  have HM:Hid (∀ (W0 W:World) (o2:ByteArray) (A2:Option Addr) (k2 c2:Nat),W.heap=(W0.alloc (two o1 A1 k1 c1 R.t.lv o2 A2 k2 c2 Y.t.lv)).heap →
    Calls Tryz.prog 282 #[.string ⟨o.toArray⟩,.slice (some ⟨W0.heap.size,0,none⟩) 2 2] W fun e w'=>e=.returned (.agg #[.string ⟨o.toArray⟩,.slice (some ⟨W0.heap.size,0,none⟩) 2 2,.int .i64 ((max R.t.lv Y.t.lv+1:Nat):Int)])∧Below W.heap.size W w'):=hid fun W0 W o2 A2 k2 c2 hW =>
   qhs o W W0.heap.size _ o1 A1 k1 c1 R.t.lv o2 A2 k2 c2 _ (by rw[hW];exact qaj _ _) (by omega) (by omega)
  clear hs hf hfv hxv hcv hcl hf2 hx2 hG2 hL2
  go_wp2_with fail
  go_region_with (first
   |(go_at_call 282;refine(HM.out w3 _ o2 A2 k2 c2 (by rfl)).mono ?_;rintro e w4 ⟨rfl,hb4⟩;obtain⟨y0,y1,y2,yf⟩:=c3 (xeq (qor HV2.out.1 hgp) (by omega) hf3 (by rfl) hb4 (by rfl));have yf0:=yf 0;have yf1:=yf 1;have yf2:=yf 2)
   |(go_at_call 298;refine(HQ2.out _ (by rfl)).mono ?_;rintro e w3 ⟨xv,u3,rfl,hx3,hs3,hf3⟩;obtain⟨o2,A2,k2,c2,rfl⟩:=hx3.form;obtain⟨t0,t1,t2,tf⟩:=c3 ((hf3.block w1.heap.size (qac HV2.out.2.2) (by omega)).trans HV2.out.2.2)))
  all_goals
   have f3:Fr gp w2.heap.size w2 w3:=⟨hf3.os,hf3.tape,hf3.output,hf3.size,hf3.block⟩
   have hb : ∀ W:World,W.heap=(w3.alloc (two o1 A1 k1 c1 R.t.lv o2 A2 k2 c2 Y.t.lv)).heap→W.os=w3.os→W.tape=w3.tape→W.output=w3.output→Below W.heap.size W w4→Below (w3.alloc (two o1 A1 k1 c1 R.t.lv o2 A2 k2 c2 Y.t.lv)).heap.size (w3.alloc (two o1 A1 k1 c1 R.t.lv o2 A2 k2 c2 Y.t.lv)) w4 :=
    fun W h1 h2 h3 h4 h5=>⟨h5.os.trans h2,h5.tape.trans h3,h5.output.trans h4,by rw[←h1];exact h5.size,fun i hi=>by rw[←h1] at hi ⊢;exact h5.block i hi⟩
   have hb4':=hb _ rfl rfl rfl rfl hb4
   have hz3:=f3.size
   have B34:Below w3.heap.size w3 w4:=((Below.refl _ w3).alloc (Nat.le_refl _) _).trans (hb4'.mono (by simp))
   have F4:Fr gp (w.heap.size+1) (w.alloc zn) w4:=(HV2.out.1.trans f3 (by omega)).trans (Fr.of B34) (by omega)
   have hN4:=q1u (X:=(w.heap.size+1 ≤ ·)) o (by omega) (HV2.out.2.1.fr (by intro i hi;omega) f3) (hx3.imp fun i (hi:w2.heap.size≤i)=>by omega) hb4'
   obtain⟨y1,y2,y3,y4⟩:=fin (hs3.below B34) hgp hbt F4 hN4
   have Y1:=hid y1;have YY:=hid (And.intro y2 (And.intro y3 y4))
   clear y1 y2 y3 y4 hN4 F4 B34 hb4' hb f3 hb4 hf3 hx3 hs3
   unfold qf8 at Y1 YY
   have hm:(((max R.t.lv Y.t.lv+1:Nat):Int))=((T.bin o R.t Y.t).lv:Int):=rfl
   have hm2:(((max R.t.lv Y.t.lv:Nat):Int))+1=((T.bin o R.t Y.t).lv:Int):=by rw[←hm];simp
   try rw[hm2]
   generalize(((w4.setCell ⟨w.heap.size,0,none⟩ (.string ⟨o.toArray⟩)).setCell ⟨w.heap.size,1,none⟩ (.slice (some ⟨w3.heap.size,0,none⟩) 2 2)).setCell ⟨w.heap.size,2,none⟩ (.int .i64 ((T.bin o R.t Y.t).lv:Int)))=W9 at Y1 YY ⊢
   obtain⟨q0,q1,q2,_⟩:=c3 Y1.out
   clear hm hm2
   go_wp2_with fail
   refine bodyPost_ret (v := .agg #[.string ⟨o.toArray⟩,.slice (some ⟨w3.heap.size,0,none⟩) 2 2,.int .i64 ((T.bin o R.t Y.t).lv:Int)]) (by simp[results,Tryz.results299,go_sem,q0,q1,q2]) rfl ?_
   have e9:RR=⟨.bin o R.t Y.t,Y.r,Y.b⟩:=by
    have h:=HGG.out
    rw[HQN.out] at h
    rw[←HY.out];exact h
   rw[e9]
   exact⟨_,_,rfl,YY.out.1,YY.out.2.1,YY.out.2.2⟩
end Go.Proofs.YtldkgbnmaefaaaaGreatDoor.Fo
namespace Go.Proofs.YtldkgbnmaefaaaaGreatDoor.Fo
open Go.RowKit Go.Proofs.YtldkgbnmaefaaaaGreatDoor.Nu
set_option linter.unusedVariables false
set_option linter.unusedSimpArgs false
theorem xfa(n:Nat)(ih1 : ∀ m,m<n→Lv 293 m 3)(ih2 : ∀ m,m<n→Lv 293 m 3):Lv 283 n 2:=by
 intro gp bt w v l b h hn hl
 obtain⟨n,rfl⟩ : ∃ j,n=j+1:=⟨n-1,by omega⟩
 have hGG:=G_2 n .bad l b
 generalize G (n+1) 2 .bad l b=RR at hGG ⊢
 have HQ:=hid (ih1 n (by omega) gp bt (w.alloc zn) v l b (h.alloc _) (by omega) hl)
 have hgp:=h.lt
 have hbt:=h.lb
 have hG:=qj8 n 3 .bad l b
 simp only[T.sz] at hG
 clear h ih1
 obtain⟨R,hR⟩ : ∃ R,G n 3 .bad l b=R:=⟨_,rfl⟩
 rw[hR] at HQ hG hGG
 have HGG:=hid hGG
 clear hR hGG
 have I2:=hid ih2;clear ih2
 have hL0:=T.lv_sz R.t
 go_enter Tryz.func283,Tryz.ntmps283
 go_wp2_with fail
 (with_reducible refine HQ.out.mono ?_)
 rintro e w1⟨x,u,rfl,hx,hs,hf⟩
 obtain⟨o1,A1,k1,c1,rfl⟩:=hx.form
 have hz1:=hf.size
 simp only[World.size_alloc] at hz1
 have hx1:Nd (w.heap.size+1 ≤ ·) w1 R.t (.agg #[.string o1,.slice A1 k1 c1,.int .i64 (R.t.lv:Int)]):=hx.imp fun i hi=>by simp at hi;omega
 obtain⟨wv,hwv⟩ : ∃ wv,w1.alloc (one o1 A1 k1 c1 R.t.lv)=wv:=⟨_,rfl⟩
 have hsv:St gp bt wv u R.r R.b:=hwv▸hs.alloc _
 have hzv:wv.heap.size=w1.heap.size+1:=by rw[←hwv];simp
 have HT:=hid (qg7 (hsv.alloc (row qj1 9)) (w1.heap.size+1) qj1 (qfd wv _ hzv.symm _ _) (by decide) (by omega))
 have hcv:wv.heap[w1.heap.size]? = some (one o1 A1 k1 c1 R.t.lv):=by rw[←hwv];exact qaj _ _
 have hfa:Fr gp (w.heap.size+1) (w.alloc zn) wv:=by rw[←hwv];exact(hf.mono (by simp)).alloc (by omega) _
 have hfv:Fr gp (w.heap.size+1) (w.alloc zn) (wv.alloc (row qj1 9)):=hfa.alloc (by omega) _
 have hxa:Nd (w.heap.size+1 ≤ ·) wv R.t (.agg #[.string o1,.slice A1 k1 c1,.int .i64 (R.t.lv:Int)]):=by rw[←hwv];exact hx1.below ((Below.refl _ w1).alloc (Nat.le_refl _) _)
 have hxv:Nd (w.heap.size+1 ≤ ·) (wv.alloc (row qj1 9)) R.t (.agg #[.string o1,.slice A1 k1 c1,.int .i64 (R.t.lv:Int)]):=hxa.below ((Below.refl _ wv).alloc (Nat.le_refl _) _)
 have hcv2:(wv.alloc (row qj1 9)).heap[w1.heap.size]? = some (one o1 A1 k1 c1 R.t.lv):=(Below.heap_alloc _ _ _ (by omega)).trans hcv
 have HV:=hid (And.intro hfv (And.intro hxv hcv2))
 clear hs hf hx hx1 hsv hcv hfv hxv hcv2 hfa hxa
 obtain⟨W,hW⟩ : ∃ W,wv.alloc (row qj1 9)=W:=⟨_,rfl⟩
 rw[hW] at HT HV
 rw[show(qj1:List Tok).length=6 from rfl] at HT
 have hzW:wv.heap.size<W.heap.size:=by rw[←hW];simp
 unfold row sv at hW
 unfold one at hwv
 simp only[qj1,List.map_cons,List.map_nil] at hW
 cases hq:next qj1 R.r with
 |none =>
  rw[hq] at HT
  have HQN:=hid hq
  clear hq
  go_wp2_with fail
  (with_reducible refine HT.out.mono ?_)
  rintro e w2⟨rfl,hs,hf⟩
  obtain⟨hfv,hxv,hcv⟩:=HV.out
  have hf2:Fr gp (w.heap.size+1) (w.alloc zn) w2:=hfv.trans hf (by omega)
  obtain⟨z0,z1,z2,zf⟩:=c3 (qor hf2 hgp)
  have zf0:=zf 0;have zf1:=zf 1;have zf2:=zf 2
  obtain⟨v0,v1,v2,vf⟩:=c3 ((hf.block w1.heap.size (by omega) (by omega)).trans hcv)
  obtain⟨y1,y2,y3,y4⟩:=fin hs hgp hbt hf2 (hxv.fr (by intro i hi;omega) hf)
  have Y1:=hid y1;have Y:=hid (And.intro y2 (And.intro y3 y4))
  clear hs hf hfv hxv hcv hf2 y1 y2 y3 y4
  unfold qf8 at Y1 Y
  go_wp2_with fail
  generalize(((w2.setCell ⟨w.heap.size,0,none⟩ (.string o1)).setCell ⟨w.heap.size,1,none⟩ (.slice A1 k1 c1)).setCell ⟨w.heap.size,2,none⟩ (.int .i64 (R.t.lv:Int)))=W9 at Y1 Y ⊢
  obtain⟨q0,q1,q2,_⟩:=c3 Y1.out
  refine bodyPost_ret (v := .agg #[.string o1,.slice A1 k1 c1,.int .i64 (R.t.lv:Int)]) (by simp[results,Tryz.results283,go_sem,q0,q1,q2]) rfl ?_
  have e9:=HGG.out
  rw[HQN.out] at e9
  rw[e9]
  exact⟨_,_,rfl,Y.out.1,Y.out.2.1,Y.out.2.2⟩
 |some y =>
  obtain⟨o,r⟩:=y
  rw[hq] at HT
  have hlr:R.r.length=r.length+1:=by rw[(qdh hq).1];rfl
  have HQN:=hid hq
  clear hq
  go_wp2_with fail
  (with_reducible refine HT.out.mono ?_)
  rintro e w2⟨rfl,u2,hs,hf⟩
  unfold sv
  obtain⟨hfv,hxv,hcv⟩:=HV.out
  have hcl:w2.heap[w1.heap.size]? = some _:=(hf.block w1.heap.size (by omega) (by omega)).trans hcv
  obtain⟨v0,v1,v2,vf⟩:=c3 hcl
  have hf2:Fr gp (w.heap.size+1) (w.alloc zn) w2:=hfv.trans hf (by omega)
  have hz2:=hf.size
  have hx2:=hxv.fr (by intro i hi;omega) hf
  have HS2:=hid hs
  have HV2:=hid (And.intro hf2 (And.intro hx2 hcl))
  have HQ2:Hid (∀ W,W.heap=w2.heap→Calls Tryz.prog 293 #[.pointer (some ⟨gp,0,none⟩)] W (Post gp bt W (G n 3 .bad r R.b))):=hid fun W hW =>
   I2.out n (by omega) gp bt W u2 r R.b (HS2.out.keep (by rw[hW]) (by rw[hW]) (by rw[hW];exact Nat.le_refl _)) (by omega) (by omega)
  have hG2:=qj8 n 3 .bad r R.b
  have hL2:=T.lv_sz (G n 3 .bad r R.b).t
  simp only[T.sz] at hG2
  obtain⟨Y,hY⟩ : ∃ Y,G n 3 .bad r R.b=Y:=⟨_,rfl⟩
  rw[hY] at HQ2 hG2 hL2
  have HY:=hid hY
  clear hY
  have HM:Hid (∀ (W0 W:World) (o2:ByteArray) (A2:Option Addr) (k2 c2:Nat),W.heap=(W0.alloc (two o1 A1 k1 c1 R.t.lv o2 A2 k2 c2 Y.t.lv)).heap →
    Calls Tryz.prog 282 #[.string ⟨o.toArray⟩,.slice (some ⟨W0.heap.size,0,none⟩) 2 2] W fun e w'=>e=.returned (.agg #[.string ⟨o.toArray⟩,.slice (some ⟨W0.heap.size,0,none⟩) 2 2,.int .i64 ((max R.t.lv Y.t.lv+1:Nat):Int)])∧Below W.heap.size W w'):=hid fun W0 W o2 A2 k2 c2 hW =>
   qhs o W W0.heap.size _ o1 A1 k1 c1 R.t.lv o2 A2 k2 c2 _ (by rw[hW];exact qaj _ _) (by omega) (by omega)
  clear hs hf hfv hxv hcv hcl hf2 hx2 hG2 hL2
  go_wp2_with fail
  go_region_with (first
   |(go_at_call 282;refine(HM.out w3 _ o2 A2 k2 c2 (by rfl)).mono ?_;rintro e w4 ⟨rfl,hb4⟩;obtain⟨y0,y1,y2,yf⟩:=c3 (xeq (qor HV2.out.1 hgp) (by omega) hf3 (by rfl) hb4 (by rfl));have yf0:=yf 0;have yf1:=yf 1;have yf2:=yf 2)
   |(go_at_call 293;refine(HQ2.out _ (by rfl)).mono ?_;rintro e w3 ⟨xv,u3,rfl,hx3,hs3,hf3⟩;obtain⟨o2,A2,k2,c2,rfl⟩:=hx3.form;obtain⟨t0,t1,t2,tf⟩:=c3 ((hf3.block w1.heap.size (qac HV2.out.2.2) (by omega)).trans HV2.out.2.2)))
  all_goals
   have f3:Fr gp w2.heap.size w2 w3:=⟨hf3.os,hf3.tape,hf3.output,hf3.size,hf3.block⟩
   have hb : ∀ W:World,W.heap=(w3.alloc (two o1 A1 k1 c1 R.t.lv o2 A2 k2 c2 Y.t.lv)).heap→W.os=w3.os→W.tape=w3.tape→W.output=w3.output→Below W.heap.size W w4→Below (w3.alloc (two o1 A1 k1 c1 R.t.lv o2 A2 k2 c2 Y.t.lv)).heap.size (w3.alloc (two o1 A1 k1 c1 R.t.lv o2 A2 k2 c2 Y.t.lv)) w4 :=
    fun W h1 h2 h3 h4 h5=>⟨h5.os.trans h2,h5.tape.trans h3,h5.output.trans h4,by rw[←h1];exact h5.size,fun i hi=>by rw[←h1] at hi ⊢;exact h5.block i hi⟩
   have hb4':=hb _ rfl rfl rfl rfl hb4
   have hz3:=f3.size
   have B34:Below w3.heap.size w3 w4:=((Below.refl _ w3).alloc (Nat.le_refl _) _).trans (hb4'.mono (by simp))
   have F4:Fr gp (w.heap.size+1) (w.alloc zn) w4:=(HV2.out.1.trans f3 (by omega)).trans (Fr.of B34) (by omega)
   have hN4:=q1u (X:=(w.heap.size+1 ≤ ·)) o (by omega) (HV2.out.2.1.fr (by intro i hi;omega) f3) (hx3.imp fun i (hi:w2.heap.size≤i)=>by omega) hb4'
   obtain⟨y1,y2,y3,y4⟩:=fin (hs3.below B34) hgp hbt F4 hN4
   have Y1:=hid y1;have YY:=hid (And.intro y2 (And.intro y3 y4))
   clear y1 y2 y3 y4 hN4 F4 B34 hb4' hb f3 hb4 hf3 hx3 hs3
   unfold qf8 at Y1 YY
   have hm:(((max R.t.lv Y.t.lv+1:Nat):Int))=((T.bin o R.t Y.t).lv:Int):=rfl
   have hm2:(((max R.t.lv Y.t.lv:Nat):Int))+1=((T.bin o R.t Y.t).lv:Int):=by rw[←hm];simp
   try rw[hm2]
   generalize(((w4.setCell ⟨w.heap.size,0,none⟩ (.string ⟨o.toArray⟩)).setCell ⟨w.heap.size,1,none⟩ (.slice (some ⟨w3.heap.size,0,none⟩) 2 2)).setCell ⟨w.heap.size,2,none⟩ (.int .i64 ((T.bin o R.t Y.t).lv:Int)))=W9 at Y1 YY ⊢
   obtain⟨q0,q1,q2,_⟩:=c3 Y1.out
   clear hm hm2
   go_wp2_with fail
   refine bodyPost_ret (v := .agg #[.string ⟨o.toArray⟩,.slice (some ⟨w3.heap.size,0,none⟩) 2 2,.int .i64 ((T.bin o R.t Y.t).lv:Int)]) (by simp[results,Tryz.results283,go_sem,q0,q1,q2]) rfl ?_
   have e9:RR=⟨.bin o R.t Y.t,Y.r,Y.b⟩:=by
    have h:=HGG.out
    rw[HQN.out] at h
    rw[←HY.out];exact h
   rw[e9]
   exact⟨_,_,rfl,YY.out.1,YY.out.2.1,YY.out.2.2⟩
end Go.Proofs.YtldkgbnmaefaaaaGreatDoor.Fo
