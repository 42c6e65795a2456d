import Derived.Test.YtldkgbnmaefaaaaGreatDoorSfG3
import Derived.BigRegion
set_option maxRecDepth 100000
set_option maxHeartbeats 4000000
open Go.Lib (hid)
namespace Go.Proofs.YtldkgbnmaefaaaaGreatDoor.Sf
open Go.RowKit Go.Shelf
set_option linter.unusedVariables false
structure RG (w:World) (g c:Nat) (l:List Nat):Prop where
 le:l.length≤c
 mx:c≤9223372036854775807
 lt:g<w.heap.size
 at_ : ∀ (i a:Nat),l[i]? = some a→w.cell? ⟨g,i,none⟩=some (.int .i64 (a:Int))
theorem RG.keep{w w':World}{g c:Nat}{l:List Nat}(h:RG w g c l)(hb:Below w.heap.size w w'):RG w' g c l :=
 ⟨h.le,h.mx,Nat.lt_of_lt_of_le h.lt hb.size,fun i a hi=>(World.cell?_of_block (a:=⟨g,i,none⟩) (hb.block g h.lt)).trans (h.at_ i a hi)⟩
theorem xa8{w:World}{base:Nat}{t:TypeId}{v:Value}{l:List Nat}(h:w.ownsRow base t 1 v l.length (ints l))(hn:l.length≠0) : ∃ g c,v=.slice (some ⟨g,0,none⟩) l.length c∧RG w g c l:=by
 obtain⟨h1,h2⟩:=h
 rcases h2 with⟨rfl,h0⟩ | ⟨g,cap,cur,rfl,h3,h4,h5,h6,h7,h8⟩
 ·exact absurd h0 hn
 ·refine⟨g,cap,rfl,h5,by simpa [maxLen] using h6,(Array.getElem?_eq_some_iff.1 h4).1,fun i a hi => ?_⟩
  have hlt:=(List.getElem?_eq_some_iff.1 hi).1
  rw[cell_of_row w g i cur t (0,0) h4]
  have:(cur.toList.take (l.length*1))[i]? = (ints l)[i]? := by rw[h8]
  rw[List.getElem?_take,if_pos (by omega)] at this
  unfold ints at this
  rw[List.getElem?_map,hi,Option.map_some] at this
  simpa using this
theorem qcz(s:ByteArray)(w:World)(hs:s.size≤4294967281):Calls Tryz.prog 41 #[.string s] w fun e w' => ∃ g c,e=.returned (.slice (some ⟨g,0,none⟩) (rc s+1) c)∧RG w' g c (al s)∧Below w.heap.size w w':=by
 refine(qso s w hs).mono ?_
 rintro e w'⟨v,rfl,h,hb⟩
 obtain⟨g,c,rfl,hg⟩:=xa8 h (by rw[qe0];omega)
 exact⟨g,c,by rw[qe0],hg,hb⟩
theorem qed(s:ByteArray)(w:World)(hs:s.size≤4294967281):Calls Tryz.prog 21 #[.string s] w fun e w'=>e=.returned (.int .i64 (rc s))∧Below w.heap.size w w':=by
 have hrc:=qer s
 go_enter Tryz.func21,Tryz.ntmps21
 go_wp2_with fail
 refine(qcz s _ hs).mono ?_
 rintro e w1⟨g,c,rfl,hg,hb1⟩
 go_wp2
 go_ret
 exact⟨by go_num,hb1⟩
theorem xdn{s t:ByteArray}{i:Nat}(hi:i≤s.size)(h : ¬ (t.size:Int)≤(s.size:Int)-(i:Int)):qdr s t i=false:=by
 rw[Bool.eq_false_iff]
 intro hp
 have:=((qen hi).1 hp).1
 omega
theorem xdm{s t:ByteArray}{i:Nat}(hi:i≤s.size)(h:(t.size:Int)≤(s.size:Int)-(i:Int)):qdr s t i=((s.extract i (i+t.size)).toList==t.toList):=by
 rw[Bool.eq_iff_iff,beq_iff_eq,qen hi]
 constructor
 ·rintro⟨_,h2⟩;rw[h2]
 ·intro h2
  refine⟨by omega,qb4 ?_⟩
  rwa [Lib.toList_data,Lib.toList_data] at h2
theorem q1a(s t:ByteArray)(i:Nat)(w:World)(hs:s.size≤4294967281)(ht:t.size≤4294967281)(hi:i≤s.size):Calls Tryz.prog 89 #[.string s,.int .i64 (i:Int),.string t] w fun e w'=>e=.returned (.bool (qdr s t i))∧Below w.heap.size w w':=by
 by_cases h:(t.size:Int)≤(s.size:Int)-(i:Int)
 ·have h1:decide ((t.size:Int)≤(s.size:Int)-(i:Int))=true:=decide_eq_true h
  have HI:=hid (xdm hi h)
  have a1:(i:Int)+(t.size:Int)≤(s.size:Int):=by omega
  have a2:((i:Int)+(t.size:Int)).toNat=i+t.size:=by omega
  have a3:(i:Int)≤(i:Int)+(t.size:Int):=by omega
  go_enter Tryz.func89,Tryz.ntmps89
  go_wp2
  go_ret
  exact⟨by rw[HI.out];rfl,Below.refl _ _⟩
 ·have h1:decide ((t.size:Int)≤(s.size:Int)-(i:Int))=false:=decide_eq_false h
  have HI:=hid (xdn hi h)
  go_enter Tryz.func89,Tryz.ntmps89
  go_wp2
  go_ret
  exact⟨by rw[HI.out];rfl,Below.refl _ _⟩
theorem RG.ag{w:World}{g c:Nat}{s:ByteArray}(h:RG w g c (al s)){i:Nat}(hi:i≤rc s):w.cell? ⟨g,i,none⟩=some (.int .i64 (ag s i:Int)):=h.at_ i _ (q9u s hi)
theorem qs7(s t:ByteArray)(f:Int)(w:World)(hs:s.size≤4294967281)(ht:t.size≤4294967281)(hf:I64 f) :
  Calls Tryz.prog 59 #[.string s,.string t,.int .i64 f] w fun e w'=>e=.returned (.int .i64 (fnd s t f))∧Below w.heap.size w w':=by
 have hrc:=qer s
 obtain⟨hf1,hf2⟩:=hf
 obtain⟨F,hF⟩ : ∃ F:Nat,max 0 f=(F:Int):=⟨(max 0 f).toNat,by omega⟩
 have HN:=hid (fun h=>qqk (s:=s) (t:=t) (f:=f) h)
 have HY:=hid (fun p=>qql (s:=s) (t:=t) (f:=f) (p:=p))
 have hFf : ∀ j:Nat,f≤(j:Int)→F≤j:=fun j h=>by omega
 have hFf2 : ∀ j:Nat,F≤j→f≤(j:Int):=fun j h=>by omega
 have HFf:=hid hFf
 have HFf2:=hid hFf2
 clear hFf hFf2
 have hFb:F≤9223372036854775807:=by omega
 go_enter Tryz.func59,Tryz.ntmps59
 go_wp2_with fail
 refine(qcz s _ hs).mono ?_
 rintro e w1⟨g,c,rfl,hg,hb1⟩
 have HG:=hid hg
 have hcl:=hg.le
 rw[qe0] at hcl
 have hcm:=hg.mx
 clear hg
 go_wp2_with fail
 go_loopw [8] (fun i wr => ∃ p:Nat,i=.int .i64 p∧F≤p∧p≤9223372036854775807∧Hid (∀ j,F≤j→j<p→qdr s t (ag s j)=false)∧Hid (RG wr g c (al s))∧Hid (Below w.heap.size w wr)) (fun i _=>rc s+1-(intOf i).toNat)
 case atStart=>exact⟨F,by go_num,Nat.le_refl _,hFb,hid (fun j h1 h2=>by omega),HG,hid hb1⟩
 case round =>
  obtain⟨p,rfl,hp,hpb,HP,HR,HB⟩:=hrel
  by_cases hlt:p≤rc s
  ·have hd:decide ((p:Int)<(rc s:Int)+1)=true:=decide_eq_true (by omega)
   have a1:(p:Int)<(rc s:Int)+1:=by omega
   have hcell:=HR.out.ag hlt
   have hag:=qez s p
   have HA:=hid (fun w=>q1a s t (ag s p) w hs ht hag)
   obtain⟨a,ha⟩ : ∃ a,ag s p=a:=⟨_,rfl⟩
   obtain⟨b,hb⟩ : ∃ b,qdr s t (ag s p)=b:=⟨_,rfl⟩
   have HBv:=hid hb
   rw[hb] at HA
   rw[ha] at hcell HA
   clear hb ha hag
   cases b with
   |true =>
    have HF:Hid (fnd s t f=p):=hid (HY.out p hlt (HFf2.out p hp) HBv.out (fun j h1 h2=>HP.out j (HFf.out j h2) h1))
    go_wp2_with fail
    refine(HA.out _).mono ?_
    rintro e w3⟨rfl,hb3⟩
    go_wp2
    go_ret
    exact⟨by rw[HF.out];rfl,bnx HB.out hb3⟩
   |false =>
    have HP2:Hid (∀ j,F≤j→j<p+1→qdr s t (ag s j)=false):=hid (fun j h1 h2=>by
     rcases Nat.lt_or_ge j p with h3 | h3
     ·exact HP.out j h1 h3
     ·obtain rfl:j=p:=by omega
      exact HBv.out)
    go_wp2_with fail
    refine(HA.out _).mono ?_
    rintro e w3⟨rfl,hb3⟩
    have HR3:=hid (HR.out.keep hb3)
    have HB3:=hid (bnx HB.out hb3)
    clear hb3
    go_wp2_with fail
    go_roundw
    case rel=>exact⟨p+1,by go_num,by omega,by omega,HP2,HR3,HB3⟩
    case measure=>simp[intOf];omega
  ·have hd:decide ((p:Int)<(rc s:Int)+1)=false:=decide_eq_false (by omega)
   have HF:Hid (fnd s t f = -1):=hid (HN.out (fun j h1 h2=>HP.out j (HFf.out j h2) (by omega)))
   go_wp2_with fail
   go_ret
   exact⟨by rw[HF.out];rfl,HB.out⟩
theorem qk9(s:ByteArray)(F K:Nat):(ag s F:Int)≤(ag s (F+K):Int)∧(ag s (F+K):Int)≤(s.size:Int):=by
 have:=qk8 s (Nat.le_add_right F K)
 have:=qez s (F+K)
 omega
theorem qr1(s:ByteArray)(f n:Int)(w:World)(hs:s.size≤4294967281)(hf:I64 f)(hn:I64 n) :
  Calls Tryz.prog 58 #[.string s,.int .i64 f,.int .i64 n] w fun e w'=>e=.returned (.string (slice s f n))∧Below w.heap.size w w':=by
 obtain⟨hf1,hf2⟩:=hf
 obtain⟨hn1,hn2⟩:=hn
 have hrc:=qer s
 obtain⟨F,hF⟩ : ∃ F,slF s f=F:=⟨_,rfl⟩
 have ho:=fun h=>qwu (n:=n) hF h
 have hpo:=fun h=>qwv (n:=n) hF h
 have hne:=fun h=>qwt (n:=n) hF h
 have hsn:=fun h:n<0=>qpo (s:=s) (F:=F) h
 obtain⟨R,hR⟩ : ∃ R,rc s=R:=⟨_,rfl⟩
 have h1:=fun h:f<0=>qwo (s:=s) h
 have h2:=fun h : ¬ f<0=>qwp (s:=s) h
 rw[hF,hR] at h1
 rw[hF] at h2
 rw[hR] at ho hpo hsn hrc
 clear hF
 by_cases h:f<0
 ·have hm:=h1 h
  have hdf:decide (f<0)=true:=decide_eq_true h
  have hFR:F≤R:=by omega
  have hd:decide ((R:Int)<(F:Int))=false:=decide_eq_false (by omega)
  clear h1 h2 ho
  by_cases h3:n<0
  ·have hdn:decide (0≤n)=false:=decide_eq_false (by omega)
   have HO:=hid (hne h3)
   obtain⟨K,hK⟩ : ∃ K,slN s F n=K:=⟨_,rfl⟩
   have hsn:=hsn h3
   rw[hK] at HO hsn
   clear hpo hne hK
   have hKR:F+K≤R:=by omega
   obtain⟨X,hX⟩ : ∃ X:Int,max n (-(R:Int))=X:=⟨_,rfl⟩
   have hC:max 0 ((R:Int)-(F:Int)+X)=(K:Int):=by omega
   clear hsn
   have hT:(F:Int)+(K:Int)=((F+K:Nat):Int):=by omega
   obtain⟨T,hTT⟩ : ∃ T,F+K=T:=⟨_,rfl⟩
   rw[hTT] at hT HO
   have hp:=qk9 s F K
   rw[hTT] at hp
   obtain⟨A1,hA1⟩ : ∃ A,ag s F=A:=⟨_,rfl⟩
   obtain⟨A2,hA2⟩ : ∃ A,ag s T=A:=⟨_,rfl⟩
   rw[hA1,hA2] at hp HO
   obtain⟨hp1,hp2⟩:=hp
   have x1:(F:Int)<(R:Int)+1:=by omega
   have x2:(T:Int)<(R:Int)+1:=by omega
   go_enter Tryz.func58,Tryz.ntmps58
   go_wp2_with fail
   refine(qcz s _ hs).mono ?_
   rintro e w1⟨g,c,rfl,hg,hb1⟩
   have c1:=hg.ag (i:=F) (by omega)
   have c2:=hg.ag (i:=T) (by omega)
   have hcl:=hg.le
   rw[qe0,hR] at hcl
   have hcm:=hg.mx
   clear hg
   rw[hR]
   rw[hA1] at c1
   rw[hA2] at c2
   go_wp2
   go_region
   go_wp2
   go_ret
   exact⟨by rw[HO.out];rfl,hb1.drew⟩
  ·have hdn:decide (0≤n)=true:=decide_eq_true (by omega)
   have HO:=hid (hpo h3)
   obtain⟨K,hK⟩ : ∃ K,min n.toNat (R-F)=K:=⟨_,rfl⟩
   rw[hK] at HO
   have hC:min n ((R:Int)-(F:Int))=(K:Int):=by omega
   have hKR:F+K≤R:=by omega
   clear hpo hne hsn hK
   have hT:(F:Int)+(K:Int)=((F+K:Nat):Int):=by omega
   obtain⟨T,hTT⟩ : ∃ T,F+K=T:=⟨_,rfl⟩
   rw[hTT] at hT HO
   have hp:=qk9 s F K
   rw[hTT] at hp
   obtain⟨A1,hA1⟩ : ∃ A,ag s F=A:=⟨_,rfl⟩
   obtain⟨A2,hA2⟩ : ∃ A,ag s T=A:=⟨_,rfl⟩
   rw[hA1,hA2] at hp HO
   obtain⟨hp1,hp2⟩:=hp
   have x1:(F:Int)<(R:Int)+1:=by omega
   have x2:(T:Int)<(R:Int)+1:=by omega
   go_enter Tryz.func58,Tryz.ntmps58
   go_wp2_with fail
   refine(qcz s _ hs).mono ?_
   rintro e w1⟨g,c,rfl,hg,hb1⟩
   have c1:=hg.ag (i:=F) (by omega)
   have c2:=hg.ag (i:=T) (by omega)
   have hcl:=hg.le
   rw[qe0,hR] at hcl
   have hcm:=hg.mx
   clear hg
   rw[hR]
   rw[hA1] at c1
   rw[hA2] at c2
   go_wp2
   go_region
   go_wp2
   go_ret
   exact⟨by rw[HO.out];rfl,hb1.drew⟩
 ·obtain rfl:f=(F:Int):=h2 h
  have hdf:decide ((F:Int)<0)=false:=decide_eq_false (by omega)
  clear h1 h2
  by_cases h4:R<F
  ·have hd:decide ((R:Int)<(F:Int))=true:=decide_eq_true (by omega)
   have HO:=hid (ho h4)
   clear ho hpo hne hsn
   go_enter Tryz.func58,Tryz.ntmps58
   go_wp2_with fail
   refine(qcz s _ hs).mono ?_
   rintro e w1⟨g,c,rfl,hg,hb1⟩
   rw[hR]
   go_wp2
   go_ret
   exact⟨by rw[HO.out];rfl,hb1⟩
  ·have hd:decide ((R:Int)<(F:Int))=false:=decide_eq_false (by omega)
   clear ho
   by_cases h3:n<0
   ·have hdn:decide (0≤n)=false:=decide_eq_false (by omega)
    have HO:=hid (hne h3)
    obtain⟨K,hK⟩ : ∃ K,slN s F n=K:=⟨_,rfl⟩
    have hsn:=hsn h3
    rw[hK] at HO hsn
    clear hpo hne hK
    have hKR:F+K≤R:=by omega
    obtain⟨X,hX⟩ : ∃ X:Int,max n (-(R:Int))=X:=⟨_,rfl⟩
    have hC:max 0 ((R:Int)-(F:Int)+X)=(K:Int):=by omega
    clear hsn
    have hT:(F:Int)+(K:Int)=((F+K:Nat):Int):=by omega
    obtain⟨T,hTT⟩ : ∃ T,F+K=T:=⟨_,rfl⟩
    rw[hTT] at hT HO
    have hp:=qk9 s F K
    rw[hTT] at hp
    obtain⟨A1,hA1⟩ : ∃ A,ag s F=A:=⟨_,rfl⟩
    obtain⟨A2,hA2⟩ : ∃ A,ag s T=A:=⟨_,rfl⟩
    rw[hA1,hA2] at hp HO
    obtain⟨hp1,hp2⟩:=hp
    have x1:(F:Int)<(R:Int)+1:=by omega
    have x2:(T:Int)<(R:Int)+1:=by omega
    go_enter Tryz.func58,Tryz.ntmps58
    go_wp2_with fail
    refine(qcz s _ hs).mono ?_
    rintro e w1⟨g,c,rfl,hg,hb1⟩
    have c1:=hg.ag (i:=F) (by omega)
    have c2:=hg.ag (i:=T) (by omega)
    have hcl:=hg.le
    rw[qe0,hR] at hcl
    have hcm:=hg.mx
    clear hg
    rw[hR]
    rw[hA1] at c1
    rw[hA2] at c2
    go_wp2
    go_region
    go_wp2
    go_ret
    exact⟨by rw[HO.out];rfl,hb1.drew⟩
   ·have hdn:decide (0≤n)=true:=decide_eq_true (by omega)
    have HO:=hid (hpo h3)
    obtain⟨K,hK⟩ : ∃ K,min n.toNat (R-F)=K:=⟨_,rfl⟩
    rw[hK] at HO
    have hC:min n ((R:Int)-(F:Int))=(K:Int):=by omega
    have hKR:F+K≤R:=by omega
    clear hpo hne hsn hK
    have hT:(F:Int)+(K:Int)=((F+K:Nat):Int):=by omega
    obtain⟨T,hTT⟩ : ∃ T,F+K=T:=⟨_,rfl⟩
    rw[hTT] at hT HO
    have hp:=qk9 s F K
    rw[hTT] at hp
    obtain⟨A1,hA1⟩ : ∃ A,ag s F=A:=⟨_,rfl⟩
    obtain⟨A2,hA2⟩ : ∃ A,ag s T=A:=⟨_,rfl⟩
    rw[hA1,hA2] at hp HO
    obtain⟨hp1,hp2⟩:=hp
    have x1:(F:Int)<(R:Int)+1:=by omega
    have x2:(T:Int)<(R:Int)+1:=by omega
    go_enter Tryz.func58,Tryz.ntmps58
    go_wp2_with fail
    refine(qcz s _ hs).mono ?_
    rintro e w1⟨g,c,rfl,hg,hb1⟩
    have c1:=hg.ag (i:=F) (by omega)
    have c2:=hg.ag (i:=T) (by omega)
    have hcl:=hg.le
    rw[qe0,hR] at hcl
    have hcm:=hg.mx
    clear hg
    rw[hR]
    rw[hA1] at c1
    rw[hA2] at c2
    go_wp2
    go_region
    go_wp2
    go_ret
    exact⟨by rw[HO.out];rfl,hb1.drew⟩
end Go.Proofs.YtldkgbnmaefaaaaGreatDoor.Sf
namespace Go.Proofs.YtldkgbnmaefaaaaGreatDoor.Sf
open Go.RowKit Go.Shelf
set_option linter.unusedVariables false
theorem xa7{s t:ByteArray}{acc:List Nat}{p e a:Nat}(h:occ s t=acc++oc s t ((al s).drop p) e)(hp:p≤rc s)(ha:ag s p=a)(hn : ¬ (e≤a∧qdr s t a=true)):occ s t=acc++oc s t ((al s).drop (p+1)) e:=by
 rw[h,qve s t hp,ha,if_neg (fun hh=>hn ⟨hh.1.2,hh.2⟩)]
theorem q5o{s t:ByteArray}{acc:List Nat}{p e a:Nat}(h:occ s t=acc++oc s t ((al s).drop p) e)(hp:p≤rc s)(ha:ag s p=a)(ht:t.size≠0)(he:e≤a)(hy:qdr s t a=true):occ s t=(acc++[a])++oc s t ((al s).drop (p+1)) (a+t.size):=by
 rw[h,qve s t hp,ha,if_pos ⟨⟨ht,he⟩,hy⟩,List.append_assoc];rfl
theorem q4e{s t:ByteArray}{acc r:List Nat}(h:occ s t=acc++r):acc.length≤s.size:=by
 have:=qdi s t
 rw[h,List.length_append] at this;omega
theorem xa9{w:World}{base:Nat}{t:TypeId}{v:Value}{l:List Nat}(h:w.ownsRow base t 1 v l.length (ints l)) : ∃ A c,v=.slice A l.length c∧RI w A c l:=q1w h
theorem qol{s:ByteArray}(h:s.size=0):s.toList.isEmpty=true:=by
 rw[Lib.toList_data];cases hl:s.data.toList with
 |nil=>rfl
 |cons a l=>rw[←qag,hl] at h;cases h
theorem qb6(s t:ByteArray)(w:World)(hs:s.size≤1048576)(ht:t.size≤1048576) :
  Calls Tryz.prog 44 #[.string s,.string t] w fun e w' => ∃ A c,e=.returned (.slice A (occ s t).length c)∧RI w' A c (occ s t)∧Below w.heap.size w w':=by
 have hs4:s.size≤4294967281:=by omega
 have ht4:t.size≤4294967281:=by omega
 by_cases h0:t.size=0
 ·have e1:=qol h0
  have HO:=hid (q5n (s:=s) h0)
  clear h0
  go_enter Tryz.func44,Tryz.ntmps44
  go_wp2
  go_ret
  refine⟨none,0,by rw[HO.out];rfl,?_,Below.refl _ _⟩
  rw[HO.out]
  exact⟨Nat.le_refl _,by omega,fun i hi=>absurd hi (Nat.not_lt_zero _)⟩
 ·have e1:=qhz h0
  have HT0:=hid h0
  have hrc:=qer s
  obtain⟨i0,hi,hz0,hz1,hz2⟩:=info_parts quq
  have hbk : ∀ n:Nat,n≤4294967300→n*8≤140737488355328:=fun n h=>by omega
  have HBK:=hid hbk;clear hbk h0
  go_enter Tryz.func44,Tryz.ntmps44
  go_wp2_with fail
  refine(qcz s _ hs4).mono ?_
  rintro e w1⟨g,c,rfl,hg,hb1⟩
  have HG:=hid hg
  have hcl:=hg.le
  rw[qe0] at hcl
  have hcm:=hg.mx
  have hgl:=hg.lt
  have HB1:=hid hb1
  clear hg hb1
  go_wp2_with fail
  go_loopw [5,7,8] (fun v en iv wr => ∃ (p e:Nat) (acc:List Nat),iv=.int .i64 p∧en=.int .i64 e∧p≤rc s+1∧e≤s.size∧Hid (occ s t=acc++oc s t ((al s).drop p) e)∧Hid (Below w1.heap.size w1 wr)∧Hid (wr.ownsRow w1.heap.size 3 1 v acc.length (ints acc))) (fun _ _ i _=>rc s+1-(intOf i).toNat)
  case atStart=>exact⟨0,0,[],by go_num,rfl,Nat.zero_le _,Nat.zero_le _,hid (by rw[List.drop_zero,xa6];rfl),hid (Below.refl _ _),hid (World.ownsRow_nil _ _ _ _)⟩
  case round =>
   obtain⟨p,e,acc,rfl,rfl,hp,he,HP,HB,HO⟩:=hrel
   obtain⟨VA,VC,hv⟩:=qbl HO.out
   subst hv
   have hal:=q4e HP.out
   have hsz:=HB.out.size
   by_cases hlt:p≤rc s
   ·have hd:decide ((p:Int)<(rc s:Int)+1)=true:=decide_eq_true (by omega)
    have a1:(p:Int)<(rc s:Int)+1:=by omega
    have hcell:=(HG.out.keep HB.out).ag hlt
    have hag:=qez s p
    obtain⟨a,ha⟩ : ∃ a,ag s p=a:=⟨_,rfl⟩
    rw[ha] at hcell hag
    have HN:=hid (xa7 HP.out hlt ha)
    have HY:=hid (q5o HP.out hlt ha HT0.out)
    clear ha
    by_cases hea:e≤a
    ·have d2:decide ((e:Int)≤(a:Int))=true:=decide_eq_true (by omega)
     have HA:=hid (fun w=>q1a s t a w hs4 ht4 hag)
     have hin:=fun h:qdr s t a=true=>((qen hag).1 h).1
     have HIn:=hid hin
     clear hin
     obtain⟨b,hb⟩ : ∃ b,qdr s t a=b:=⟨_,rfl⟩
     rw[hb] at HA HN HY HIn
     clear hb
     cases b with
     |true =>
      have hat:=HIn.out rfl
      have HP2:=hid (HY.out hea rfl)
      clear HN HY HIn
      go_wp2_with fail
      refine(HA.out _).mono ?_
      rintro e w3⟨rfl,hb3⟩
      have HB3:=hid (HB.out.trans (hb3.mono HB.out.size))
      have HO3:=hid (own_below HO.out hb3)
      have hsz3:=HB3.out.size
      have hcell3:w3.cell? ⟨g,p,none⟩=some (.int .i64 (a:Int)):=(World.cell?_of_block (a:=⟨g,p,none⟩) (hb3.block g (by omega))).trans hcell
      clear hb3 hcell
      go_wp2_with (at_builtin;refine wpList_append_own _ rfl _ _ 32 rfl w1.heap.size 3 i0 (.int .i64 0) 1 8 Tryz.underlying32 hi hz0 hz1 hz2 rfl (by decide) _ _ _ rfl (HO3.out.alloc _) ⟨w3.heap.size,0,none⟩ 1 1 [.int .i64 (a:Int)] rfl rfl (qfb _ _ _) (by simp[Value.oneCell']) (by unfold maxLen;omega) (HBK.out _ (by omega)) (by simp;omega) ?_)
      intro v' w4 hown' hgrow _
      have hb4:Below w1.heap.size w1 w4:=(HB3.out.alloc (by omega) _).grown hgrow (by simp;omega) (fun k e=>by have:=(HO3.out.lt k e).1;omega)
      have HB4:=hid hb4
      have HO4:Hid (w4.ownsRow w1.heap.size 3 1 v' (acc++[a]).length (ints (acc++[a]))):=hid (by
       rw[qi9,List.length_append];exact hown')
      have hcell4:w4.cell? ⟨g,p,none⟩=some (.int .i64 (a:Int)):=by
       have h1:=(World.cell?_of_block (a:=⟨g,p,none⟩) (hb4.block g hgl))
       have h2:=(World.cell?_of_block (a:=⟨g,p,none⟩) (HB3.out.block g hgl))
       rw[h1,←h2];exact hcell3
      obtain⟨VA2,VC2,hv2⟩:=qbl hown'
      subst hv2
      clear hown' hgrow hb4 hcell3
      go_wp2_with fail
      go_roundw
      case rel=>exact⟨p+1,a+t.size,acc++[a],by go_num,by go_num,by omega,hat,HP2,HB4,HO4⟩
      case measure=>simp[intOf];omega
     |false =>
      have HP2:=hid (HN.out (fun h=>by cases h.2))
      clear HN HY HIn
      go_wp2_with fail
      refine(HA.out _).mono ?_
      rintro e w3⟨rfl,hb3⟩
      have HB3:=hid (HB.out.trans (hb3.mono HB.out.size))
      have HO3:=hid (own_below HO.out hb3)
      clear hb3 hcell
      go_wp2_with fail
      go_roundw
      case rel=>exact⟨p+1,e,acc,by go_num,rfl,by omega,he,HP2,HB3,HO3⟩
      case measure=>simp[intOf];omega
    ·have d2:decide ((e:Int)≤(a:Int))=false:=decide_eq_false (by omega)
     have HP2:=hid (HN.out (fun h=>hea h.1))
     clear HN HY
     go_wp2_with fail
     go_roundw
     case rel=>exact⟨p+1,e,acc,by go_num,rfl,by omega,he,HP2,HB,HO⟩
     case measure=>simp[intOf];omega
   ·have hd:decide ((p:Int)<(rc s:Int)+1)=false:=decide_eq_false (by omega)
    obtain rfl:p=rc s+1:=by omega
    have HE:Hid (occ s t=acc):=hid (by rw[HP.out,q5m,List.append_nil])
    obtain⟨A',C',hv',hri⟩:=xa9 HO.out
    have HRI:=hid hri
    have HV:=hid hv'
    clear hri hv'
    go_wp2_with fail
    go_ret
    exact⟨A',C',by rw[HE.out];exact congrArg _ HV.out,by rw[HE.out];exact HRI.out,HB1.out.trans (HB.out.mono HB1.out.size)⟩
theorem qrs(s t:ByteArray)(w:World)(hs:s.size≤1048576)(ht:t.size≤1048576) :
  Calls Tryz.prog 28 #[.string s,.string t] w fun e w'=>e=.returned (.int .i64 ((occ s t).length:Int))∧Below w.heap.size w w':=by
 go_enter Tryz.func28,Tryz.ntmps28
 go_wp2_with fail
 refine(qb6 s t _ hs ht).mono ?_
 rintro e w1⟨A,c,rfl,hr,hb1⟩
 go_wp2
 go_ret
 exact⟨rfl,hb1⟩
end Go.Proofs.YtldkgbnmaefaaaaGreatDoor.Sf
namespace Go.Proofs.YtldkgbnmaefaaaaGreatDoor.Sf
open Go.RowKit Go.Shelf
set_option linter.unusedVariables false
theorem xba{w:World}{base:Nat}{t:TypeId}{v:Value}{l:List ByteArray}(h:w.ownsRow base t 1 v l.length (strs l)) : ∃ A c,v=.slice A l.length c∧RS w A c l:=q1w h
theorem qzi{s t:ByteArray}{i:Nat}(h:i<(occ s t).length){f:Nat}(hf:f=pb t (occ s t) 0 i):f≤(occ s t)[i]∧(occ s t)[i]+t.size≤s.size∧(occ s t)[i]+t.size=pb t (occ s t) 0 (i+1):=by
 have:=(qje s t).at i h
 rw[getD_in h] at this
 refine⟨by omega,this.2.1,?_⟩
 unfold pb
 rw[if_neg (by omega),Nat.add_sub_cancel,getD_in h]
theorem xd0{s t:ByteArray}{i:Nat}(h:i≤(occ s t).length):pb t (occ s t) 0 i≤s.size:=by
 have:=(qje s t).pb_le h;omega
theorem qfi(s t:ByteArray)(w:World)(hs:s.size≤1048576)(ht:t.size≤1048576) :
  Calls Tryz.prog 103 #[.string s,.string t] w fun e w' => ∃ A c,e=.returned (.slice A (parts s t).length c)∧RS w' A c (parts s t)∧Below w.heap.size w w':=by
 obtain⟨i0,hi,hz0,hz1,hz2⟩:=info_parts qfq
 have hbk : ∀ n:Nat,n≤4294967300→n*16≤140737488355328:=fun n h=>by omega
 have HBK:=hid hbk;clear hbk
 have hol:=qdi s t
 have HPb:=hid (fun i h=>xd0 (s:=s) (t:=t) (i:=i) h)
 have HM:=hid (fun i h f hf=>qzi (s:=s) (t:=t) (i:=i) h (f:=f) hf)
 go_enter Tryz.func103,Tryz.ntmps103
 go_wp2_with fail
 refine(qb6 s t _ hs ht).mono ?_
 rintro e w1⟨A,c,rfl,hri,hb1⟩
 obtain⟨n,hn⟩ : ∃ n,(occ s t).length=n:=⟨_,rfl⟩
 have HR:=hid hri
 have HN:=hid hn
 rw[hn] at hol
 have hcl:=hri.le
 rw[hn] at hcl
 have hcm:=hri.mx
 have HB1:=hid hb1
 rw[hn]
 clear hri hb1 hn
 go_wp2_with fail
 go_loopw [5,7,8] (fun v fv iv wr => ∃ (i:Nat) (acc:List ByteArray),iv=.int .i64 i∧i≤n∧fv=.int .i64 (pb t (occ s t) 0 i:Nat)∧Hid (acc.length=i)∧Hid (parts s t=acc++dv s t ((occ s t).drop i) (pb t (occ s t) 0 i))∧Hid (Below w1.heap.size w1 wr)∧Hid (wr.ownsRow w1.heap.size 9 1 v acc.length (strs acc))) (fun _ _ i _=>n-(intOf i).toNat)
 case atStart=>exact⟨0,[],by go_num,Nat.zero_le _,rfl,hid rfl,hid rfl,hid (Below.refl _ _),hid (World.ownsRow_nil _ _ _ _)⟩
 case round =>
  obtain⟨i,acc,rfl,hi2,rfl,hal,HP,HB,HO⟩:=hrel
  obtain⟨VA,VC,hv⟩:=qbl HO.out
  subst hv
  have hsz:=HB.out.size
  have hal2:acc.length≤1048576:=by rw[hal.out];omega
  have hpb:=HPb.out i (by rw[HN.out];exact hi2)
  by_cases hlt:i<n
  ·have hd:decide ((i:Int)<(n:Int))=true:=decide_eq_true (by omega)
   have hlt2:i<(occ s t).length:=by rw[HN.out];exact hlt
   obtain⟨g,hA,hg1,hg2⟩:=HR.out.at_ i hlt2
   obtain⟨m1,m2,m3⟩:=HM.out i hlt2 _ rfl
   have HD:=hid (q4t (s:=s) (t:=t) (l:=occ s t) (i:=i) (f:=pb t (occ s t) 0 i) hlt2)
   have hcell:wr.cell? ⟨g,i,none⟩=some (.int .i64 ((occ s t)[i]:Int)):=(World.cell?_of_block (a:=⟨g,i,none⟩) (HB.out.block g hg1)).trans hg2
   subst hA
   obtain⟨a,ha⟩ : ∃ a,(occ s t)[i]=a:=⟨_,rfl⟩
   rw[ha] at HD m1 m2 m3 hcell
   obtain⟨f,hf⟩ : ∃ f,pb t (occ s t) 0 i=f:=⟨_,rfl⟩
   rw[hf] at HP HD m1 hpb
   rw[hf]
   have HP2:Hid (parts s t=(acc++[s.extract f a])++dv s t ((occ s t).drop (i+1)) (pb t (occ s t) 0 (i+1))):=hid (by
    rw[HP.out,HD.out,m3,List.append_assoc];rfl)
   have m4:(f:Int)≤(a:Int):=by omega
   have m5:(a:Int)≤(s.size:Int):=by omega
   have m6:a≤s.size:=by omega
   have hgl:g<wr.heap.size:=by omega
   have HM3:=hid m3
   clear ha hf hg2 m3
   go_wp2_with (at_builtin;refine wpList_append_own _ rfl _ _ 22 rfl w1.heap.size 9 i0 (.string ⟨#[]⟩) 1 16 Tryz.underlying22 hi hz0 hz1 hz2 rfl (by decide) _ _ _ rfl (HO.out.alloc _) ⟨wr.heap.size,0,none⟩ 1 1 [.string (s.extract f a)] rfl rfl (qfb _ _ _) (by simp[Value.oneCell']) (by unfold maxLen;omega) (HBK.out _ (by omega)) (by simp;omega) ?_)
   intro v' w4 hown' hgrow _
   have hb4:Below w1.heap.size w1 w4:=(HB.out.alloc (by omega) _).grown hgrow (by simp;omega) (fun k e=>by have:=(HO.out.lt k e).1;omega)
   have HB4:=hid hb4
   have HO4:Hid (w4.ownsRow w1.heap.size 9 1 v' (acc++[s.extract f a]).length (strs (acc++[s.extract f a]))):=hid (by
    rw[qnx,List.length_append];exact hown')
   have hcell4:w4.cell? ⟨g,i,none⟩=some (.int .i64 (a:Int)):=by
    have h1:=(World.cell?_of_block (a:=⟨g,i,none⟩) (hb4.block g hg1))
    have h2:=(World.cell?_of_block (a:=⟨g,i,none⟩) (HB.out.block g hg1))
    rw[h1,←h2];exact hcell
   obtain⟨VA2,VC2,hv2⟩:=qbl hown'
   subst hv2
   clear hown' hgrow hb4 hcell
   go_wp2_with fail
   go_roundw
   case rel=>exact⟨i+1,acc++[s.extract f a],by go_num,by omega,by rw[←HM3.out];go_num,hid (by rw[List.length_append,hal.out];rfl),HP2,HB4,HO4⟩
   case measure=>simp[intOf];omega
  ·have hd:decide ((i:Int)<(n:Int))=false:=decide_eq_false (by omega)
   obtain rfl:i=n:=by omega
   obtain⟨f,hf⟩ : ∃ f,pb t (occ s t) 0 i=f:=⟨_,rfl⟩
   rw[hf] at HP hpb
   rw[hf]
   have HP2:Hid (parts s t=acc++[s.extract f s.size]):=hid (by
    rw[HP.out,←HN.out,q4u])
   have m4:(f:Int)≤(s.size:Int):=by omega
   clear hf
   go_wp2_with (at_builtin;refine wpList_append_own _ rfl _ _ 22 rfl w1.heap.size 9 i0 (.string ⟨#[]⟩) 1 16 Tryz.underlying22 hi hz0 hz1 hz2 rfl (by decide) _ _ _ rfl (HO.out.alloc _) ⟨wr.heap.size,0,none⟩ 1 1 [.string (s.extract f s.size)] rfl rfl (qfb _ _ _) (by simp[Value.oneCell']) (by unfold maxLen;omega) (HBK.out _ (by omega)) (by simp;omega) ?_)
   intro v' w4 hown' hgrow _
   have hb4:Below w1.heap.size w1 w4:=(HB.out.alloc (by omega) _).grown hgrow (by simp;omega) (fun k e=>by have:=(HO.out.lt k e).1;omega)
   have HB4:=hid hb4
   have hO4:w4.ownsRow w1.heap.size 9 1 v' (parts s t).length (strs (parts s t)):=by
    rw[HP2.out,qnx,List.length_append];exact hown'
   obtain⟨A',C',hv',hri⟩:=xba hO4
   have HRI:=hid hri
   subst hv'
   clear hown' hgrow hb4 hO4 hri
   go_wp2_with fail
   go_ret
   exact⟨A',C',rfl,HRI.out,HB1.out.trans (HB4.out.mono HB1.out.size)⟩
theorem qnt{s t:ByteArray}{i:Int}{L K:Nat}(hL:(parts s t).length=L)(hk:(if i<0 then i+(L:Int) else i)=(K:Int))(h:K<L) : ∀ (j:Nat) (hj:j<(parts s t).length),j=K→(parts s t)[j]=part s t i:=by
 intro j hj hjk
 subst hjk
 have h2:(occ s t).length+1=L:=by rw[←qfc];exact hL
 unfold part
 simp only[h2,hk]
 rw[if_neg (by omega),Int.toNat_natCast,List.getD,List.getElem?_eq_getElem hj];rfl
theorem qnu{s t:ByteArray}{i:Int}{L:Nat}(hL:(parts s t).length=L)(h:(if i<0 then i+(L:Int) else i)<0∨(L:Int)≤(if i<0 then i+(L:Int) else i)):part s t i=⟨#[]⟩:=by
 have h2:(occ s t).length+1=L:=by rw[←qfc];exact hL
 unfold part
 simp only[h2]
 generalize(if i<0 then i+(L:Int) else i)=k at h
 split
 ·rfl
 ·rw[List.getD,List.getElem?_eq_none (by rw[hL];omega)];rfl
theorem qtg(s t:ByteArray)(i:Int)(w:World)(hs:s.size≤1048576)(ht:t.size≤1048576)(hi:I64 i) :
  Calls Tryz.prog 61 #[.string s,.string t,.int .i64 i] w fun e w'=>e=.returned (.string (part s t i))∧Below w.heap.size w w':=by
 obtain⟨hi1,hi2⟩:=hi
 have hol:=qdi s t
 have hpl:=qfc s t
 obtain⟨L,hL⟩ : ∃ L,(parts s t).length=L:=⟨_,rfl⟩
 have hLb:L≤1048577:=by omega
 have hLp:1≤L:=by omega
 clear hpl hol
 by_cases h:i<0
 ·have hd1:decide (i<0)=true:=decide_eq_true h
  by_cases h2 : -(L:Int)≤i
  ·have hd2:decide (-(L:Int)≤i)=true:=decide_eq_true h2
   obtain⟨K,hK⟩ : ∃ K:Nat,i+(L:Int)=(K:Int):=⟨(i+L).toNat,by omega⟩
   have hX:=hid (fun j hj=>qnt hL (K:=K) (by rw[if_pos h];exact hK) (by omega) j hj)
   obtain⟨x,hx⟩ : ∃ x,part s t i=x:=⟨_,rfl⟩
   rw[hx] at hX
   have HO:=hid hx
   have hd3:decide ((K:Int)<0)=false:=decide_eq_false (by omega)
   have hd4:decide ((L:Int)≤(K:Int))=false:=decide_eq_false (by omega)
   have hKL:(K:Int)<(L:Int):=by omega
   have hKL2 : ¬ L≤K:=by omega
   clear hx
   go_enter Tryz.func61,Tryz.ntmps61
   go_wp2_with fail
   refine(qfi s t _ hs ht).mono ?_
   rintro e w1⟨A,c,rfl,hr,hb1⟩
   obtain⟨g,hA,hg1,hcell⟩:=hr.at_ K (by rw[hL];omega)
   have hcl:=hr.le
   have hcm:=hr.mx
   rw[hL] at hcl
   subst hA
   rw[hL]
   rw[hX.out K (by rw[hL];omega) rfl] at hcell
   clear hr
   go_wp2
   go_ret
   exact⟨by rw[HO.out];rfl,hb1⟩
  ·have hd2:decide (-(L:Int)≤i)=false:=decide_eq_false h2
   have HO:=hid (qnu (s:=s) (t:=t) (i:=i) hL (.inl (by rw[if_pos h];omega)))
   go_enter Tryz.func61,Tryz.ntmps61
   go_wp2_with fail
   refine(qfi s t _ hs ht).mono ?_
   rintro e w1⟨A,c,rfl,hr,hb1⟩
   rw[hL]
   clear hr
   go_wp2
   go_ret
   exact⟨by rw[HO.out];rfl,hb1⟩
 ·obtain⟨K,rfl⟩ : ∃ K:Nat,i=(K:Int):=⟨i.toNat,by omega⟩
  have hd1:decide ((K:Int)<0)=false:=decide_eq_false h
  by_cases h2:K<L
  ·have hX:=hid (fun j hj=>qnt hL (i:=(K:Int)) (K:=K) (if_neg h) h2 j hj)
   obtain⟨x,hx⟩ : ∃ x,part s t (K:Int)=x:=⟨_,rfl⟩
   rw[hx] at hX
   have HO:=hid hx
   have hd4:decide ((L:Int)≤(K:Int))=false:=decide_eq_false (by omega)
   have hKL:(K:Int)<(L:Int):=by omega
   have hKL2 : ¬ L≤K:=by omega
   clear hx
   go_enter Tryz.func61,Tryz.ntmps61
   go_wp2_with fail
   refine(qfi s t _ hs ht).mono ?_
   rintro e w1⟨A,c,rfl,hr,hb1⟩
   obtain⟨g,hA,hg1,hcell⟩:=hr.at_ K (by rw[hL];omega)
   have hcl:=hr.le
   have hcm:=hr.mx
   rw[hL] at hcl
   subst hA
   rw[hL]
   rw[hX.out K (by rw[hL];omega) rfl] at hcell
   clear hr
   go_wp2
   go_ret
   exact⟨by rw[HO.out];rfl,hb1⟩
  ·have hd4:decide ((L:Int)≤(K:Int))=true:=decide_eq_true (by omega)
   have HO:=hid (qnu (s:=s) (t:=t) (i:=(K:Int)) hL (.inr (by rw[if_neg h];omega)))
   have hKL2:L≤K:=by omega
   go_enter Tryz.func61,Tryz.ntmps61
   go_wp2_with fail
   refine(qfi s t _ hs ht).mono ?_
   rintro e w1⟨A,c,rfl,hr,hb1⟩
   rw[hL]
   clear hr
   go_wp2
   go_ret
   exact⟨by rw[HO.out];rfl,hb1⟩
end Go.Proofs.YtldkgbnmaefaaaaGreatDoor.Sf
namespace Go.Proofs.YtldkgbnmaefaaaaGreatDoor.Sf
open Go.RowKit Go.Shelf
set_option linter.unusedVariables false
theorem q6a{f:ByteArray}(h:0<rc f)(i:Nat):(⟨(pdl f i).toArray⟩:ByteArray)++rn f (i%rc f)=⟨(pdl f (i+1)).toArray⟩:=by
 apply qb4
 rw[qbh]
 show pdl f i++_=pdl f (i+1)
 rw[ql1 h]
theorem qiq(f:ByteArray)(i:Nat):(⟨(pdl f i).toArray⟩:ByteArray).size=(pdl f i).length:=by rw[←qag]
theorem q6p(f:ByteArray)(k:Nat):(rn f k).size≤f.size:=by unfold rn;rw[ByteArray.size_extract];omega
def q2f(f:ByteArray)(n:Nat):ByteArray:=if 32768<(pdl f n).length then⟨#[]⟩ else⟨(pdl f n).toArray⟩
def q2e(f:ByteArray)(n:Nat):Bool:=if 32768<(pdl f n).length then false else true
theorem qhx(f:ByteArray)(n:Nat)(w:World)(hf:f.size≤1048576)(hf0:f.size≠0)(hn:n≤9223372036854775807) :
  Calls Tryz.prog 162 #[.int .i64 (n:Int),.string f] w fun e w'=>e=.returned (.tuple #[.string (q2f f n),.bool (q2e f n)])∧Below w.heap.size w w':=by
 have hrc:=qer f
 have hrp:=qq5 hf0
 have HS:Hid (q2f f n=if 32768<(pdl f n).length then⟨#[]⟩ else⟨(pdl f n).toArray⟩):=hid rfl
 have HE:Hid (q2e f n=if 32768<(pdl f n).length then false else true):=hid rfl
 have HAp:=hid (fun i=>q6a hrp i)
 have HMo:=hid (fun i h=>qzl hrp (n:=i) (m:=n) h)
 clear hf0
 go_enter Tryz.func162,Tryz.ntmps162
 go_wp2_with fail
 refine(qcz f _ (by omega)).mono ?_
 rintro e w1⟨g,c,rfl,hg,hb1⟩
 have HG:=hid hg
 have hcl:=hg.le
 rw[qe0] at hcl
 have hcm:=hg.mx
 have HB1:=hid hb1
 clear hg hb1
 obtain⟨R,hR⟩ : ∃ R,rc f=R:=⟨_,rfl⟩
 have HRR:=hid hR
 rw[hR] at hcl hrp hrc HAp
 rw[hR]
 clear hR
 go_wp2_with fail
 go_loopw [7,8] (fun ov iv wr => ∃ (i:Nat) (o:ByteArray),iv=.int .i64 i∧i≤n∧ov=.string o∧o.size≤32768∧Hid (o=⟨(pdl f i).toArray⟩)∧Hid (RG wr g c (al f))∧Hid (Below w.heap.size w wr)) (fun _ i _=>n-(intOf i).toNat)
 case atStart=>exact⟨0,_,by go_num,Nat.zero_le _,rfl,Nat.zero_le _,hid (by rw[qir]),HG,HB1⟩
 case round =>
  obtain⟨i,o,rfl,hi,rfl,ho,HO,HR,HB⟩:=hrel
  by_cases hlt:i<n
  ·have hd:decide ((i:Int)<(n:Int))=true:=decide_eq_true (by omega)
   obtain⟨k,hk⟩ : ∃ k,i%R=k:=⟨_,rfl⟩
   have hkR:k<R:=by rw[←hk];exact Nat.mod_lt _ hrp
   have hmd:(i:Int).tmod (R:Int)=(k:Int):=by rw[←hk];rfl
   have hnz : ¬ ((R:Int)=0):=by omega
   have c1:=HR.out.ag (i:=k) (by rw[HRR.out];omega)
   have c2:=HR.out.ag (i:=k+1) (by rw[HRR.out];omega)
   have hm1:=qk8 f (Nat.le_add_right k 1)
   have hm2:=qez f (k+1)
   have HX:=hid (HAp.out i)
   have HRn:Hid (rn f k=f.extract (ag f k) (ag f (k+1))):=hid rfl
   rw[hk,←HO.out,HRn.out] at HX
   have hzs:=q6p f k
   rw[HRn.out] at hzs
   have hz:=congrArg ByteArray.size HX.out
   rw[qiq] at hz
   obtain⟨A1,hA1⟩ : ∃ A,ag f k=A:=⟨_,rfl⟩
   obtain⟨A2,hA2⟩ : ∃ A,ag f (k+1)=A:=⟨_,rfl⟩
   rw[hA1] at c1
   rw[hA2] at c2
   rw[hA1,hA2] at HX hm1 hzs hz
   rw[hA2] at hm2
   have hp1:(A1:Int)≤(A2:Int):=by omega
   have hp2:(A2:Int)≤(f.size:Int):=by omega
   have x1:(k:Int)<(R:Int)+1:=by omega
   have x2:(k:Int)+1<(R:Int)+1:=by omega
   have x3:((k:Int)+1).toNat=k+1:=by omega
   have x4:(0:Int)≤(k:Int)+1:=by omega
   have s1:o.size+(f.extract A1 A2).size≤9223372036854775807:=by omega
   obtain⟨O2,hO2⟩ : ∃ O2,o++f.extract A1 A2=O2:=⟨_,rfl⟩
   have HO2:=hid hO2
   rw[hO2] at hz
   rw[hO2] at HX
   clear hk hA1 hA2 hO2
   by_cases hb:32768<O2.size
   ·have hd2:decide ((32768:Int)<(O2.size:Int))=true:=decide_eq_true (by omega)
    have hm:=HMo.out (i+1) hlt
    have HS2:Hid (q2f f n=⟨#[]⟩):=hid (by rw[HS.out,if_pos (by omega)])
    have HE2:Hid (q2e f n=false):=hid (by rw[HE.out,if_pos (by omega)])
    clear hm hz hzs
    go_wp2
    go_region
    simp only[HO2.out]
    go_wp2
    go_ret2
    exact⟨by rw[HS2.out,HE2.out];rfl,HB.out.drew⟩
   ·have hd2:decide ((32768:Int)<(O2.size:Int))=false:=decide_eq_false (by omega)
    clear hz hzs
    go_wp2
    go_region
    simp only[HO2.out]
    go_wp2
    go_roundw
    case rel=>exact⟨i+1,O2,by go_num,by omega,rfl,by omega,HX,hid (HR.out.keep ((Below.refl _ _).drew)),hid HB.out.drew⟩
    case measure=>simp[intOf];omega
  ·have hd:decide ((i:Int)<(n:Int))=false:=decide_eq_false (by omega)
   obtain rfl:i=n:=by omega
   have hz:(pdl f i).length≤32768:=by
    have:=ho;rw[HO.out,qiq] at this;exact this
   have HS2:Hid (q2f f i=o):=hid (by rw[HS.out,if_neg (by omega),HO.out])
   have HE2:Hid (q2e f i=true):=hid (by rw[HE.out,if_neg (by omega)])
   clear hz
   go_wp2_with fail
   go_ret2
   exact⟨by rw[HS2.out,HE2.out];rfl,HB.out⟩
end Go.Proofs.YtldkgbnmaefaaaaGreatDoor.Sf
namespace Go.Proofs.YtldkgbnmaefaaaaGreatDoor.Sf
open Go.RowKit Go.Shelf
set_option linter.unusedVariables false
theorem qkk{s f:ByteArray}{n:Int}(h:n≤(rc s:Int)):lack s f n=0:=by unfold lack;split<;>omega
theorem qqq{s f:ByteArray}{n:Int}(h:f.size=0):lack s f n=0:=if_pos h
theorem qqp{s f:ByteArray}{n:Int}{m:Nat}(h:f.size≠0)(hm:n-(rc s:Int)=(m:Int)):lack s f n=m:=by unfold lack;rw[if_neg h];omega
theorem qip{s f:ByteArray}{n:Int}(hs:s.size≤400)(h:lack s f n=0):pL s f n=s∧pR s f n=s∧qio s f n=0:=by
 have hb : ¬ qbk s f n:=by unfold qbk;rw[h,qir];show ¬ 32768<s.size+0;omega
 have hp:qfy s f n=⟨#[]⟩:=by unfold qfy;rw[h,qir]
 refine⟨?_,?_,if_neg hb⟩
 ·unfold pL;rw[if_neg hb,hp];apply qb4;rw[qbh];rfl
 ·unfold pR;rw[if_neg hb,hp];apply qb4;rw[qbh];exact List.append_nil _
theorem qts(s:ByteArray):s++(⟨#[]⟩:ByteArray)=s:=by apply qb4;rw[qbh];exact List.append_nil _
theorem qu8(s:ByteArray):(⟨#[]⟩:ByteArray)++s=s:=by apply qb4;rw[qbh];rfl
theorem qth(s f:ByteArray)(n:Int)(w:World)(hs:s.size≤400)(hf:f.size≤1048576)(hn:I64 n) :
  Calls Tryz.prog 105 #[.string s,.int .i64 n,.string f,.bool true] w fun e w'=>e=.returned (.tuple #[.string (pL s f n),.int .i64 (qio s f n)])∧Below w.heap.size w w':=by
 obtain⟨hn1,hn2⟩:=hn
 have hrc:=qer s
 have HL:=hid (fun w=>qed s w (by omega))
 have hls:=fun h=>qkk (s:=s) (f:=f) (n:=n) h
 have hle:=fun h=>qqq (s:=s) (f:=f) (n:=n) h
 have hlb:=fun m h hm=>qqp (s:=s) (f:=f) (n:=n) (m:=m) h hm
 obtain⟨R,hR⟩ : ∃ R,rc s=R:=⟨_,rfl⟩
 rw[hR] at HL hrc hls
 simp only[hR] at hlb
 clear hR
 have n0:(⟨#[]⟩:ByteArray).size=0:=rfl
 by_cases h1:n≤(R:Int)
 ·have d1:decide ((R:Int)<n)=false:=decide_eq_false (by omega)
  have hno:=qip hs (hls h1)
  have H1:=hid hno.1
  have H2:=hid hno.2.2
  clear hls hle hlb hno
  go_enter Tryz.func105,Tryz.ntmps105
  go_wp2_with fail
  refine(HL.out _).mono ?_
  rintro e w1⟨rfl,hb1⟩
  go_wp2
  go_ret2
  exact⟨by rw[H1.out,H2.out,qu8];rfl,hb1⟩
 ·have d1:decide ((R:Int)<n)=true:=decide_eq_true (by omega)
  by_cases h0:f.size=0
  ·have e1:f.toList.isEmpty=true:=by
    rw[Lib.toList_data];cases hl:f.data.toList with
    |nil=>rfl
    |cons a l=>rw[←qag,hl] at h0;cases h0
   have hno:=qip hs (hle h0)
   have H1:=hid hno.1
   have H2:=hid hno.2.2
   clear hls hle hlb hno h0
   go_enter Tryz.func105,Tryz.ntmps105
   go_wp2_with fail
   refine(HL.out _).mono ?_
   rintro e w1⟨rfl,hb1⟩
   go_wp2
   go_ret2
   exact⟨by rw[H1.out,H2.out,qu8];rfl,hb1⟩
  ·have e1:=qhz h0
   obtain⟨m,hm⟩ : ∃ m:Nat,n-(R:Int)=(m:Int):=⟨(n-R).toNat,by omega⟩
   have hlk:=hlb m h0 hm
   have HP:=hid (fun w=>qhx f m w hf h0 (by omega))
   have hbig:qbk s f n↔32768<s.size+(pdl f m).length:=by unfold qbk;rw[hlk]
   have hpb:qfy s f n=⟨(pdl f m).toArray⟩:=by unfold qfy;rw[hlk]
   clear hls hle hlb hlk h0
   by_cases hb1:32768<(pdl f m).length
   ·have hbb:qbk s f n:=hbig.2 (by omega)
    have H1:Hid (pL s f n=⟨#[]⟩):=hid (if_pos hbb)
    have H2:Hid (qio s f n=3):=hid (if_pos hbb)
    have r1:q2f f m=⟨#[]⟩:=if_pos hb1
    have r2:q2e f m=false:=if_pos hb1
    rw[r1,r2] at HP
    clear hbig hpb hb1 hbb r1 r2
    go_enter Tryz.func105,Tryz.ntmps105
    go_wp2_with fail
    refine(HL.out _).mono ?_
    rintro e w1⟨rfl,hb1⟩
    go_wp2_with fail
    refine(HP.out _).mono ?_
    rintro e w2⟨rfl,hb2⟩
    go_wp2
    go_ret2
    exact⟨by rw[H1.out,H2.out];rfl,bnx hb1 hb2⟩
   ·have r1:q2f f m=⟨(pdl f m).toArray⟩:=if_neg hb1
    have r2:q2e f m=true:=if_neg hb1
    have hz:=qiq f m
    rw[←hpb] at r1 hz
    rw[r1,r2] at HP
    by_cases hb2:32768<s.size+(pdl f m).length
    ·have hbb:qbk s f n:=hbig.2 hb2
     have H1:Hid (pL s f n=⟨#[]⟩):=hid (if_pos hbb)
     have H2:Hid (qio s f n=3):=hid (if_pos hbb)
     obtain⟨p,hp⟩ : ∃ p,qfy s f n=p:=⟨_,rfl⟩
     rw[hp] at HP hz
     have d2:decide ((32768:Int)-(s.size:Int)<(p.size:Int))=true:=decide_eq_true (by omega)
     clear hbig hpb hb1 hbb r1 r2 hp hz hb2
     go_enter Tryz.func105,Tryz.ntmps105
     go_wp2_with fail
     refine(HL.out _).mono ?_
     rintro e w1⟨rfl,hb1⟩
     go_wp2_with fail
     refine(HP.out _).mono ?_
     rintro e w2⟨rfl,hb2⟩
     go_wp2
     go_ret2
     exact⟨by rw[H1.out,H2.out];rfl,bnx hb1 hb2⟩
    ·have hbb : ¬ qbk s f n:=fun h=>hb2 (hbig.1 h)
     have H1:Hid (pL s f n=qfy s f n++s):=hid (if_neg hbb)
     have H2:Hid (qio s f n=0):=hid (if_neg hbb)
     obtain⟨p,hp⟩ : ∃ p,qfy s f n=p:=⟨_,rfl⟩
     rw[hp] at HP hz H1
     have d2:decide ((32768:Int)-(s.size:Int)<(p.size:Int))=false:=decide_eq_false (by omega)
     have hsz:p.size+s.size≤32768:=by omega
     have hsz2:s.size+p.size≤32768:=by omega
     clear hbig hpb hb1 hbb r1 r2 hp hz hb2
     go_enter Tryz.func105,Tryz.ntmps105
     go_wp2_with fail
     refine(HL.out _).mono ?_
     rintro e w1⟨rfl,hb1⟩
     go_wp2_with fail
     refine(HP.out _).mono ?_
     rintro e w2⟨rfl,hb2⟩
     go_wp2
     go_ret2
     exact⟨by rw[H1.out,H2.out];rfl,bnx hb1 hb2⟩
theorem qm3(s f:ByteArray)(n:Int)(w:World)(hs:s.size≤400)(hf:f.size≤1048576)(hn:I64 n) :
  Calls Tryz.prog 63 #[.string s,.int .i64 n,.string f] w fun e w'=>e=.returned (.tuple #[.string (pL s f n),.int .i64 (qio s f n)])∧Below w.heap.size w w':=by
 go_enter Tryz.func63,Tryz.ntmps63
 go_wp2_with fail
 refine(qth s f n _ hs hf hn).mono ?_
 rintro e w1⟨rfl,hb1⟩
 go_wp2
 go_ret2
 exact⟨rfl,hb1⟩
theorem qti(s f:ByteArray)(n:Int)(w:World)(hs:s.size≤400)(hf:f.size≤1048576)(hn:I64 n) :
  Calls Tryz.prog 105 #[.string s,.int .i64 n,.string f,.bool false] w fun e w'=>e=.returned (.tuple #[.string (pR s f n),.int .i64 (qio s f n)])∧Below w.heap.size w w':=by
 obtain⟨hn1,hn2⟩:=hn
 have hrc:=qer s
 have HL:=hid (fun w=>qed s w (by omega))
 have hls:=fun h=>qkk (s:=s) (f:=f) (n:=n) h
 have hle:=fun h=>qqq (s:=s) (f:=f) (n:=n) h
 have hlb:=fun m h hm=>qqp (s:=s) (f:=f) (n:=n) (m:=m) h hm
 obtain⟨R,hR⟩ : ∃ R,rc s=R:=⟨_,rfl⟩
 rw[hR] at HL hrc hls
 simp only[hR] at hlb
 clear hR
 have n0:(⟨#[]⟩:ByteArray).size=0:=rfl
 by_cases h1:n≤(R:Int)
 ·have d1:decide ((R:Int)<n)=false:=decide_eq_false (by omega)
  have hno:=qip hs (hls h1)
  have H1:=hid hno.2.1
  have H2:=hid hno.2.2
  clear hls hle hlb hno
  go_enter Tryz.func105,Tryz.ntmps105
  go_wp2_with fail
  refine(HL.out _).mono ?_
  rintro e w1⟨rfl,hb1⟩
  go_wp2
  go_ret2
  exact⟨by rw[H1.out,H2.out,qts];rfl,hb1⟩
 ·have d1:decide ((R:Int)<n)=true:=decide_eq_true (by omega)
  by_cases h0:f.size=0
  ·have e1:f.toList.isEmpty=true:=by
    rw[Lib.toList_data];cases hl:f.data.toList with
    |nil=>rfl
    |cons a l=>rw[←qag,hl] at h0;cases h0
   have hno:=qip hs (hle h0)
   have H1:=hid hno.2.1
   have H2:=hid hno.2.2
   clear hls hle hlb hno h0
   go_enter Tryz.func105,Tryz.ntmps105
   go_wp2_with fail
   refine(HL.out _).mono ?_
   rintro e w1⟨rfl,hb1⟩
   go_wp2
   go_ret2
   exact⟨by rw[H1.out,H2.out,qts];rfl,hb1⟩
  ·have e1:=qhz h0
   obtain⟨m,hm⟩ : ∃ m:Nat,n-(R:Int)=(m:Int):=⟨(n-R).toNat,by omega⟩
   have hlk:=hlb m h0 hm
   have HP:=hid (fun w=>qhx f m w hf h0 (by omega))
   have hbig:qbk s f n↔32768<s.size+(pdl f m).length:=by unfold qbk;rw[hlk]
   have hpb:qfy s f n=⟨(pdl f m).toArray⟩:=by unfold qfy;rw[hlk]
   clear hls hle hlb hlk h0
   by_cases hb1:32768<(pdl f m).length
   ·have hbb:qbk s f n:=hbig.2 (by omega)
    have H1:Hid (pR s f n=⟨#[]⟩):=hid (if_pos hbb)
    have H2:Hid (qio s f n=3):=hid (if_pos hbb)
    have r1:q2f f m=⟨#[]⟩:=if_pos hb1
    have r2:q2e f m=false:=if_pos hb1
    rw[r1,r2] at HP
    clear hbig hpb hb1 hbb r1 r2
    go_enter Tryz.func105,Tryz.ntmps105
    go_wp2_with fail
    refine(HL.out _).mono ?_
    rintro e w1⟨rfl,hb1⟩
    go_wp2_with fail
    refine(HP.out _).mono ?_
    rintro e w2⟨rfl,hb2⟩
    go_wp2
    go_ret2
    exact⟨by rw[H1.out,H2.out];rfl,bnx hb1 hb2⟩
   ·have r1:q2f f m=⟨(pdl f m).toArray⟩:=if_neg hb1
    have r2:q2e f m=true:=if_neg hb1
    have hz:=qiq f m
    rw[←hpb] at r1 hz
    rw[r1,r2] at HP
    by_cases hb2:32768<s.size+(pdl f m).length
    ·have hbb:qbk s f n:=hbig.2 hb2
     have H1:Hid (pR s f n=⟨#[]⟩):=hid (if_pos hbb)
     have H2:Hid (qio s f n=3):=hid (if_pos hbb)
     obtain⟨p,hp⟩ : ∃ p,qfy s f n=p:=⟨_,rfl⟩
     rw[hp] at HP hz
     have d2:decide ((32768:Int)-(s.size:Int)<(p.size:Int))=true:=decide_eq_true (by omega)
     clear hbig hpb hb1 hbb r1 r2 hp hz hb2
     go_enter Tryz.func105,Tryz.ntmps105
     go_wp2_with fail
     refine(HL.out _).mono ?_
     rintro e w1⟨rfl,hb1⟩
     go_wp2_with fail
     refine(HP.out _).mono ?_
     rintro e w2⟨rfl,hb2⟩
     go_wp2
     go_ret2
     exact⟨by rw[H1.out,H2.out];rfl,bnx hb1 hb2⟩
    ·have hbb : ¬ qbk s f n:=fun h=>hb2 (hbig.1 h)
     have H1:Hid (pR s f n=s++qfy s f n):=hid (if_neg hbb)
     have H2:Hid (qio s f n=0):=hid (if_neg hbb)
     obtain⟨p,hp⟩ : ∃ p,qfy s f n=p:=⟨_,rfl⟩
     rw[hp] at HP hz H1
     have d2:decide ((32768:Int)-(s.size:Int)<(p.size:Int))=false:=decide_eq_false (by omega)
     have hsz:p.size+s.size≤32768:=by omega
     have hsz2:s.size+p.size≤32768:=by omega
     clear hbig hpb hb1 hbb r1 r2 hp hz hb2
     go_enter Tryz.func105,Tryz.ntmps105
     go_wp2_with fail
     refine(HL.out _).mono ?_
     rintro e w1⟨rfl,hb1⟩
     go_wp2_with fail
     refine(HP.out _).mono ?_
     rintro e w2⟨rfl,hb2⟩
     go_wp2
     go_ret2
     exact⟨by rw[H1.out,H2.out];rfl,bnx hb1 hb2⟩
theorem qk6(s f:ByteArray)(n:Int)(w:World)(hs:s.size≤400)(hf:f.size≤1048576)(hn:I64 n) :
  Calls Tryz.prog 64 #[.string s,.int .i64 n,.string f] w fun e w'=>e=.returned (.tuple #[.string (pR s f n),.int .i64 (qio s f n)])∧Below w.heap.size w w':=by
 go_enter Tryz.func64,Tryz.ntmps64
 go_wp2_with fail
 refine(qti s f n _ hs hf hn).mono ?_
 rintro e w1⟨rfl,hb1⟩
 go_wp2
 go_ret2
 exact⟨rfl,hb1⟩
end Go.Proofs.YtldkgbnmaefaaaaGreatDoor.Sf
