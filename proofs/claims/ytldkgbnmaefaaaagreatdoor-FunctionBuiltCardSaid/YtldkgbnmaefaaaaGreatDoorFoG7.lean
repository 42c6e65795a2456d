import Derived.Test.YtldkgbnmaefaaaaGreatDoorFoG6
import Derived.Test.YtldkgbnmaefaaaaGreatDoorFoG5
import Derived.Test.YtldkgbnmaefaaaaGreatDoorFoG3
import Derived.Test.YtldkgbnmaefaaaaGreatDoorFoG4
set_option maxRecDepth 100000
set_option maxHeartbeats 4000000
open Go.Lib (hid)
namespace Go.Proofs.YtldkgbnmaefaaaaGreatDoor.Fo
open Go.RowKit Go.Proofs.YtldkgbnmaefaaaaGreatDoor.Nu
set_option linter.unusedVariables false
set_option linter.unusedSimpArgs false
def nx(l:List UInt8)(i:Nat):Nat:=if qar l=0 then 0 else i+qar l
theorem nx0{l:List UInt8}{i:Nat}(h:qar l=0):nx l i=0:=by unfold nx;rw[if_pos h]
theorem nxp{l:List UInt8}{i m:Nat}(h:qar l=m)(hm:0<m):nx l i=i+m:=by unfold nx;rw[h,if_neg (by omega)]
theorem qmr(c:UInt8)(l:List UInt8):qar (c :: l)=if isD c then qdw (c :: l) else if isL c then qd3 (c :: l) else qd2 (c :: l):=rfl
theorem qzg(s:ByteArray)(i:Nat)(w:World)(hs:s.size≤1000)(hi:i<s.size)(c:UInt8)(hc:s.data.toList[i]? = some c)(hD:isD c=true) :
  Calls Tryz.prog 145 #[.string s,.int .i64 (i:Int)] w fun e w'=>e=.returned (.int .i64 (nx (s.data.toList.drop i) i:Int))∧Below w.heap.size w w':=by
 have hsz:s.data.toList.length=s.size:=rfl
 obtain⟨W,hW⟩ : ∃ W,((s.data.toList.drop i).takeWhile isD).length=W:=⟨_,rfl⟩
 have hcons:s.data.toList.drop i=c :: s.data.toList.drop (i+1):=by
  obtain⟨h1,h2⟩:=List.getElem?_eq_some_iff.1 hc
  rw[List.drop_eq_getElem_cons h1,h2]
 have hW1:1≤W:=by rw[←hW,hcons,List.takeWhile_cons,if_pos hD];simp
 have hWl:i+W≤s.size:=by
  have:=qbn isD (s.data.toList.drop i)
  rw[List.length_drop,hsz,hW] at this;omega
 have HR:=hid (qft s i 48 57 · hs (by omega) (by decide) (by decide))
 have hr:qmk (inR 48 57) s.data.toList i=i+W:=by unfold qmk;rw[←hW];rfl
 rw[hr] at HR
 have htl:qar (s.data.toList.drop i)=qdw (s.data.toList.drop i):=by rw[hcons,qmr,if_pos hD]
 obtain⟨E,hE⟩ : ∃ E,i+W=E:=⟨_,rfl⟩
 rw[hE] at HR hWl
 have d0:decide ((E:Int)>(i:Int))=true:=by rw[decide_eq_true_iff];omega
 have hdd:(s.data.toList.drop i).drop W=s.data.toList.drop E:=by rw[List.drop_drop,hE]
 have hnl:qdw (s.data.toList.drop i)=(let p:=if (s.data.toList.drop E).head? = some 46 then ((s.data.toList.drop (E+1)).takeWhile isD).length else 0;if 9<W∨9<p then 0 else if p=0 then W else W+1+p):=by
  unfold qdw
  simp only[hW,hdd]
  rw[List.drop_drop,show i+(W+1)=E+1 by omega]
 by_cases h9:9<W
 ·have HN:Hid (nx (s.data.toList.drop i) i=0):=hid (nx0 (htl.trans (by rw[hnl];simp only[h9,true_or,if_true])))
  have d1:decide ((E:Int)-(i:Int)>9)=true:=by rw[decide_eq_true_iff];omega
  clear hnl htl hdd hr hcons hW hsz
  go_enter Tryz.func145,Tryz.ntmps145
  go_wp2_with fail
  refine(HR.out _).mono ?_
  rintro e w1⟨rfl,rfl⟩
  go_wp2_with fail
  go_ret
  exact⟨by rw[HN.out];rfl,Below.refl _ _⟩
 ·have d1:decide ((E:Int)-(i:Int)>9)=false:=by rw[decide_eq_false_iff_not];omega
  by_cases hdot:(s.data.toList.drop E).head? = some 46
  ·have hElt:E<s.size:=by
    rcases Nat.lt_or_ge E s.size with h | h
    ·exact h
    ·rw[List.drop_eq_nil_of_le (by omega)] at hdot;simp at hdot
   have hget : ∀ h,s[E]'h=46:=fun h=>by
    rw[List.head?_drop,List.getElem?_eq_getElem (by rw[hsz];exact hElt)] at hdot
    exact Option.some.inj hdot
   have d2:decide ((E:Int)<(s.size:Int))=true:=by rw[decide_eq_true_iff];omega
   have e2:(E:Int)<(s.size:Int):=by omega
   obtain⟨V,hV⟩ : ∃ V,((s.data.toList.drop (E+1)).takeWhile isD).length=V:=⟨_,rfl⟩
   have hVl:E+1+V≤s.size:=by
    have:=qbn isD (s.data.toList.drop (E+1))
    rw[List.length_drop,hsz,hV] at this;omega
   have HR2:Hid (∀ w,Calls Tryz.prog 207 #[.string s,.int .i64 ((E:Int)+1),.int .u8 48,.int .u8 57] w fun e w'=>e=.returned (.int .i64 ((E+1+V:Nat):Int))∧w'=w):=hid fun w=>by
    have h:=qft s (E+1) 48 57 w hs (by omega) (by decide) (by decide)
    rw[show qmk (inR 48 57) s.data.toList (E+1)=E+1+V by unfold qmk;rw[←hV];rfl] at h
    exact h
   simp only[if_pos hdot,hV] at hnl
   obtain⟨F,hF⟩ : ∃ F,E+1+V=F:=⟨_,rfl⟩
   rw[hF] at HR2 hVl
   by_cases h8:9<V
   ·have HN:Hid (nx (s.data.toList.drop i) i=0):=hid (nx0 (htl.trans (by rw[hnl,if_pos (Or.inr h8)])))
    have d3:decide ((F:Int)-(E:Int)-1>9)=true:=by rw[decide_eq_true_iff];omega
    clear hnl htl hdd hr hcons hW hsz hdot hV
    go_enter Tryz.func145,Tryz.ntmps145
    go_wp2_with fail
    refine(HR.out _).mono ?_
    rintro e w1⟨rfl,rfl⟩
    go_wp2_with fail
    refine(HR2.out _).mono ?_
    rintro e w1⟨rfl,rfl⟩
    go_wp2_with fail
    go_ret
    exact⟨by rw[HN.out];rfl,Below.refl _ _⟩
   ·have d3:decide ((F:Int)-(E:Int)-1>9)=false:=by rw[decide_eq_false_iff_not];omega
    by_cases h0:V=0
    ·have HN:Hid (nx (s.data.toList.drop i) i=E):=hid ((nxp (htl.trans (by rw[hnl,if_neg (by omega),if_pos h0])) hW1).trans hE)
     have d4:decide ((F:Int)>(E:Int)+1)=false:=by rw[decide_eq_false_iff_not];omega
     clear hnl htl hdd hr hcons hW hsz hdot hV
     go_enter Tryz.func145,Tryz.ntmps145
     go_wp2_with fail
     refine(HR.out _).mono ?_
     rintro e w1⟨rfl,rfl⟩
     go_wp2_with fail
     refine(HR2.out _).mono ?_
     rintro e w1⟨rfl,rfl⟩
     go_wp2_with fail
     go_ret
     exact⟨by rw[HN.out];rfl,Below.refl _ _⟩
    ·have HN:Hid (nx (s.data.toList.drop i) i=F):=hid ((nxp (m:=W+1+V) (htl.trans (by rw[hnl,if_neg (by omega),if_neg h0])) (by omega)).trans (by omega))
     have d4:decide ((F:Int)>(E:Int)+1)=true:=by rw[decide_eq_true_iff];omega
     clear hnl htl hdd hr hcons hW hsz hdot hV
     go_enter Tryz.func145,Tryz.ntmps145
     go_wp2_with fail
     refine(HR.out _).mono ?_
     rintro e w1⟨rfl,rfl⟩
     go_wp2_with fail
     refine(HR2.out _).mono ?_
     rintro e w1⟨rfl,rfl⟩
     go_wp2_with fail
     go_ret
     exact⟨by rw[HN.out];rfl,Below.refl _ _⟩
  ·simp only[if_neg hdot] at hnl
   have HN:Hid (nx (s.data.toList.drop i) i=E):=hid ((nxp (m:=W) (htl.trans (by rw[hnl,if_neg (by omega)];rfl)) hW1).trans hE)
   by_cases hElt:E<s.size
   ·have d2:decide ((E:Int)<(s.size:Int))=true:=by rw[decide_eq_true_iff];omega
    have e2:(E:Int)<(s.size:Int):=by omega
    obtain⟨ch,hch⟩ : ∃ ch,s[E]=ch:=⟨_,rfl⟩
    have hget : ∀ h,s[E]'h=ch:=fun _=>hch
    have hne:((ch.toNat:Int)==46)=false:=beq_eq_false_iff_ne.2 fun h=>hdot (by
     rw[List.head?_drop,List.getElem?_eq_getElem (by rw[hsz];exact hElt)]
     have:s[E]=46:=by rw[hch];exact UInt8.toNat_inj.1 (by simpa using (by omega:ch.toNat=46))
     exact congrArg some this)
    clear hnl htl hdd hr hcons hW hsz hdot hch
    go_enter Tryz.func145,Tryz.ntmps145
    go_wp2_with fail
    refine(HR.out _).mono ?_
    rintro e w1⟨rfl,rfl⟩
    go_wp2_with fail
    go_ret
    exact⟨by rw[HN.out];rfl,Below.refl _ _⟩
   ·have d2:decide ((E:Int)<(s.size:Int))=false:=by rw[decide_eq_false_iff_not];omega
    clear hnl htl hdd hr hcons hW hsz hdot
    go_enter Tryz.func145,Tryz.ntmps145
    go_wp2_with fail
    refine(HR.out _).mono ?_
    rintro e w1⟨rfl,rfl⟩
    go_wp2_with fail
    go_ret
    exact⟨by rw[HN.out];rfl,Below.refl _ _⟩
theorem xcr(s:ByteArray)(i n:Nat)(h:i+n≤s.size):s.extract i (i+n)=⟨((s.data.toList.drop i).take n).toArray⟩:=by
 refine qi0 _ _ ?_
 simp[List.extract_eq_take_drop]
theorem qo0(w:World)(S:List Tok)(hl:S.length≤100)(x:ByteArray)(t:Tok)(hx:x=⟨t.toArray⟩)(B:Bool)(hB:decide (t∈S)=B) :
  Calls Tryz.prog 208 #[.slice (some ⟨w.heap.size,0,none⟩) S.length S.length,.string x] (w.alloc (row S 9)) fun e w'=>e=.returned (.bool B)∧w'=w.alloc (row S 9):=by
 rw[hx,←hB]
 exact qum (w.alloc (row S 9)) w.heap.size S t (qwg w S _) hl
theorem xaw(w:World)(g:Nat)(hg:w.heap.size=g)(S:List Tok)(hl:S.length≤100)(x:ByteArray)(t:Tok)(hx:x=⟨t.toArray⟩)(B:Bool)(hB:decide (t∈S)=B) :
  Calls Tryz.prog 208 #[.slice (some ⟨g,0,none⟩) S.length S.length,.string x] (w.alloc (row S 9)) fun e w'=>e=.returned (.bool B)∧w'=w.alloc (row S 9):=hg▸qo0 w S hl x t hx B hB
theorem qu7(s:ByteArray)(i:Nat)(w:World)(hs:s.size≤1000)(hi:i<s.size)(c:UInt8)(hc:s.data.toList[i]? = some c)(hD:isD c=false)(hL:isL c=true) :
  Calls Tryz.prog 145 #[.string s,.int .i64 (i:Int)] w fun e w'=>e=.returned (.int .i64 (nx (s.data.toList.drop i) i:Int))∧Below w.heap.size w w':=by
 have hsz:s.data.toList.length=s.size:=rfl
 obtain⟨W,hW⟩ : ∃ W,((s.data.toList.drop i).takeWhile isL).length=W:=⟨_,rfl⟩
 have hcons:s.data.toList.drop i=c :: s.data.toList.drop (i+1):=by
  obtain⟨h1,h2⟩:=List.getElem?_eq_some_iff.1 hc
  rw[List.drop_eq_getElem_cons h1,h2]
 have hW1:1≤W:=by rw[←hW,hcons,List.takeWhile_cons,if_pos hL];simp
 have hWl:i+W≤s.size:=by
  have:=qbn isL (s.data.toList.drop i)
  rw[List.length_drop,hsz,hW] at this;omega
 have HR0:=hid (qft s i 48 57 · hs (by omega) (by decide) (by decide))
 rw[show qmk (inR 48 57) s.data.toList i=i from qjo hc (show inR 48 57 c=false from hD)] at HR0
 have HR:=hid (qft s i 97 122 · hs (by omega) (by decide) (by decide))
 rw[show qmk (inR 97 122) s.data.toList i=i+W by unfold qmk;rw[←hW];rfl] at HR
 have htl:qar (s.data.toList.drop i)=if (s.data.toList.drop i).take W∈qfg then W else 0:=by
  conv=>lhs;rw[hcons,qmr,if_neg (by rw[hD];decide),if_pos hL,←hcons]
  unfold qd3
  simp only[hW]
 obtain⟨B,hB⟩ : ∃ B,decide ((s.data.toList.drop i).take W∈qfg)=B:=⟨_,rfl⟩
 have HX:=hid (qo0 w qfg (by decide) (s.extract i (i+W)) _ (xcr s i W hWl) B hB)
 obtain⟨E,hE⟩ : ∃ E,i+W=E:=⟨_,rfl⟩
 rw[hE] at HR HX hWl
 have d0:decide ((i:Int)>(i:Int))=false:=by simp
 have d1:decide ((E:Int)>(i:Int))=true:=by rw[decide_eq_true_iff];omega
 have hb1:(i:Int)≤(E:Int):=by omega
 have hb2:(E:Int)≤(s.size:Int):=by omega
 have hb3:i≤E:=by omega
 rw[show(qfg:List Tok).length=6 from rfl] at HX
 unfold row sv at HX
 simp only[qfg,List.map_cons,List.map_nil] at HX
 cases B with
 |true =>
  have hm:=of_decide_eq_true hB
  have HN:Hid (nx (s.data.toList.drop i) i=E):=hid ((nxp (htl.trans (if_pos hm)) hW1).trans hE)
  clear htl hm hcons hW hsz hB
  go_enter Tryz.func145,Tryz.ntmps145
  go_wp2_with fail
  refine(HR0.out _).mono ?_
  rintro e w1⟨rfl,rfl⟩
  go_wp2_with fail
  refine(HR.out _).mono ?_
  rintro e w1⟨rfl,rfl⟩
  go_wp2_with fail
  (with_reducible refine HX.out.mono ?_)
  rintro e w1⟨rfl,rfl⟩
  go_wp2_with fail
  go_ret
  exact⟨by rw[HN.out];rfl,(Below.refl _ _).alloc (Nat.le_refl _) _⟩
 |false =>
  have hm:=of_decide_eq_false hB
  have HN:Hid (nx (s.data.toList.drop i) i=0):=hid (nx0 (htl.trans (if_neg hm)))
  clear htl hm hcons hW hsz hB
  go_enter Tryz.func145,Tryz.ntmps145
  go_wp2_with fail
  refine(HR0.out _).mono ?_
  rintro e w1⟨rfl,rfl⟩
  go_wp2_with fail
  refine(HR.out _).mono ?_
  rintro e w1⟨rfl,rfl⟩
  go_wp2_with fail
  (with_reducible refine HX.out.mono ?_)
  rintro e w1⟨rfl,rfl⟩
  go_wp2_with fail
  go_ret
  exact⟨by rw[HN.out];rfl,(Below.refl _ _).alloc (Nat.le_refl _) _⟩
def qsb:List Tok:=[[43],[45],[42],[47],[94],[40],[41],[61],[60],[62]]
theorem qvi(c:UInt8):[c]∈qsb↔c∈ones:=by simp[qsb,ones]
theorem qu6(s:ByteArray)(i:Nat)(w:World)(hs:s.size≤1000)(hi:i<s.size)(c:UInt8)(hc:s.data.toList[i]? = some c)(hD:isD c=false)(hL:isL c=false) :
  Calls Tryz.prog 145 #[.string s,.int .i64 (i:Int)] w fun e w'=>e=.returned (.int .i64 (nx (s.data.toList.drop i) i:Int))∧Below w.heap.size w w':=by
 have hsz:s.data.toList.length=s.size:=rfl
 have hcons:s.data.toList.drop i=c :: s.data.toList.drop (i+1):=by
  obtain⟨h1,h2⟩:=List.getElem?_eq_some_iff.1 hc
  rw[List.drop_eq_getElem_cons h1,h2]
 have HR0:=hid (qft s i 48 57 · hs (by omega) (by decide) (by decide))
 rw[show qmk (inR 48 57) s.data.toList i=i from qjo hc (show inR 48 57 c=false from hD)] at HR0
 have HR:=hid (qft s i 97 122 · hs (by omega) (by decide) (by decide))
 rw[show qmk (inR 97 122) s.data.toList i=i from qjo hc (show inR 97 122 c=false from hL)] at HR
 have htl:qar (s.data.toList.drop i)=if (s.data.toList.drop i).take 2∈qrj then 2 else if c∈ones then 1 else 0:=by
  conv=>lhs;rw[hcons,qmr,if_neg (by rw[hD];decide),if_neg (by rw[hL];decide),←hcons]
  unfold qd2
  by_cases h:(s.data.toList.drop i).take 2∈qrj
  ·rw[if_pos h,if_pos h]
  ·rw[if_neg h,if_neg h,hcons]
 have ht1:(s.data.toList.drop i).take 1=[c]:=by rw[hcons];rfl
 obtain⟨B1,hB1⟩ : ∃ B,decide ((s.data.toList.drop i).take 1∈qsb)=B:=⟨_,rfl⟩
 have H1:=hid (fun w g hg=>xaw w g hg qsb (by decide) (s.extract i (i+1)) _ (xcr s i 1 (by omega)) B1 hB1)
 rw[show(qsb:List Tok).length=10 from rfl] at H1
 rw[ht1] at hB1
 have hB1':decide (c∈ones)=B1:=by rw[←hB1];exact decide_eq_decide.2 (qvi c).symm
 unfold row sv at H1
 simp only[qsb,List.map_cons,List.map_nil] at H1
 have d0:decide ((i:Int)>(i:Int))=false:=by simp
 have hb0:(i:Int)+1≤(s.size:Int):=by omega
 by_cases h2:i+2≤s.size
 ·have d2:decide ((i:Int)+2≤(s.size:Int))=true:=by rw[decide_eq_true_iff];omega
  have hb2:(i:Int)+2≤(s.size:Int):=by omega
  obtain⟨B2,hB2⟩ : ∃ B,decide ((s.data.toList.drop i).take 2∈qrj)=B:=⟨_,rfl⟩
  have H2:=hid (qo0 w qrj (by decide) (s.extract i (i+2)) _ (xcr s i 2 h2) B2 hB2)
  rw[show(qrj:List Tok).length=3 from rfl] at H2
  unfold row sv at H2
  simp only[qrj,List.map_cons,List.map_nil] at H2
  cases B2 with
  |true =>
   have HN:Hid (nx (s.data.toList.drop i) i=i+2):=hid (nxp (htl.trans (if_pos (of_decide_eq_true hB2))) (by decide))
   clear htl hcons hsz hB2 hB1 hB1' ht1
   go_enter Tryz.func145,Tryz.ntmps145
   go_wp2_with fail
   refine(HR0.out _).mono ?_
   rintro e w1⟨rfl,rfl⟩
   go_wp2_with fail
   refine(HR.out _).mono ?_
   rintro e w1⟨rfl,rfl⟩
   go_wp2_with fail
   (with_reducible refine H2.out.mono ?_)
   rintro e w1⟨rfl,rfl⟩
   go_wp2_with fail
   go_ret
   exact⟨by rw[HN.out];rfl,(Below.refl _ _).alloc (Nat.le_refl _) _⟩
  |false =>
   have hn2:=of_decide_eq_false hB2
   cases B1 with
   |true =>
    have HN:Hid (nx (s.data.toList.drop i) i=i+1):=hid (nxp (htl.trans (by rw[if_neg hn2,if_pos (of_decide_eq_true hB1')])) (by decide))
    clear htl hcons hsz hB2 hB1 hB1' ht1 hn2
    go_enter Tryz.func145,Tryz.ntmps145
    go_wp2_with fail
    refine(HR0.out _).mono ?_
    rintro e w1⟨rfl,rfl⟩
    go_wp2_with fail
    refine(HR.out _).mono ?_
    rintro e w1⟨rfl,rfl⟩
    go_wp2_with fail
    (with_reducible refine H2.out.mono ?_)
    rintro e w1⟨rfl,rfl⟩
    go_wp2_with fail
    (with_reducible refine(H1.out _ _ (World.size_alloc _ _)).mono ?_)
    rintro e w1⟨rfl,rfl⟩
    go_wp2_with fail
    go_ret
    exact⟨by rw[HN.out];rfl,((Below.refl _ _).alloc (Nat.le_refl _) _).alloc (by simp) _⟩
   |false =>
    have HN:Hid (nx (s.data.toList.drop i) i=0):=hid (nx0 (htl.trans (by rw[if_neg hn2,if_neg (of_decide_eq_false hB1')])))
    clear htl hcons hsz hB2 hB1 hB1' ht1 hn2
    go_enter Tryz.func145,Tryz.ntmps145
    go_wp2_with fail
    refine(HR0.out _).mono ?_
    rintro e w1⟨rfl,rfl⟩
    go_wp2_with fail
    refine(HR.out _).mono ?_
    rintro e w1⟨rfl,rfl⟩
    go_wp2_with fail
    (with_reducible refine H2.out.mono ?_)
    rintro e w1⟨rfl,rfl⟩
    go_wp2_with fail
    (with_reducible refine(H1.out _ _ (World.size_alloc _ _)).mono ?_)
    rintro e w1⟨rfl,rfl⟩
    go_wp2_with fail
    go_ret
    exact⟨by rw[HN.out];rfl,((Below.refl _ _).alloc (Nat.le_refl _) _).alloc (by simp) _⟩
 ·have d2:decide ((i:Int)+2≤(s.size:Int))=false:=by rw[decide_eq_false_iff_not];omega
  have hn2 : ¬ (s.data.toList.drop i).take 2∈qrj:=fun h=>by
   have : ∀ t∈qrj,t.length=2:=by decide
   have h3:=this _ h
   rw[List.length_take,List.length_drop,hsz] at h3
   omega
  cases B1 with
  |true =>
   have HN:Hid (nx (s.data.toList.drop i) i=i+1):=hid (nxp (htl.trans (by rw[if_neg hn2,if_pos (of_decide_eq_true hB1')])) (by decide))
   clear htl hcons hsz hB1 hB1' ht1 hn2
   go_enter Tryz.func145,Tryz.ntmps145
   go_wp2_with fail
   refine(HR0.out _).mono ?_
   rintro e w1⟨rfl,rfl⟩
   go_wp2_with fail
   refine(HR.out _).mono ?_
   rintro e w1⟨rfl,rfl⟩
   go_wp2_with fail
   (with_reducible refine(H1.out _ _ rfl).mono ?_)
   rintro e w1⟨rfl,rfl⟩
   go_wp2_with fail
   go_ret
   exact⟨by rw[HN.out];rfl,(Below.refl _ _).alloc (Nat.le_refl _) _⟩
  |false =>
   have HN:Hid (nx (s.data.toList.drop i) i=0):=hid (nx0 (htl.trans (by rw[if_neg hn2,if_neg (of_decide_eq_false hB1')])))
   clear htl hcons hsz hB1 hB1' ht1 hn2
   go_enter Tryz.func145,Tryz.ntmps145
   go_wp2_with fail
   refine(HR0.out _).mono ?_
   rintro e w1⟨rfl,rfl⟩
   go_wp2_with fail
   refine(HR.out _).mono ?_
   rintro e w1⟨rfl,rfl⟩
   go_wp2_with fail
   (with_reducible refine(H1.out _ _ rfl).mono ?_)
   rintro e w1⟨rfl,rfl⟩
   go_wp2_with fail
   go_ret
   exact⟨by rw[HN.out];rfl,(Below.refl _ _).alloc (Nat.le_refl _) _⟩
theorem qzf(s:ByteArray)(i:Nat)(w:World)(hs:s.size≤1000)(hi:i<s.size) :
  Calls Tryz.prog 145 #[.string s,.int .i64 (i:Int)] w fun e w'=>e=.returned (.int .i64 (nx (s.data.toList.drop i) i:Int))∧Below w.heap.size w w':=by
 obtain⟨c,hc⟩ : ∃ c,s.data.toList[i]? = some c:=⟨_,List.getElem?_eq_getElem (show i<s.data.toList.length from hi)⟩
 cases hD:isD c with
 |true=>exact qzg s i w hs hi c hc hD
 |false=>cases hL:isL c with
  |true=>exact qu7 s i w hs hi c hc hD hL
  |false=>exact qu6 s i w hs hi c hc hD hL
end Go.Proofs.YtldkgbnmaefaaaaGreatDoor.Fo
namespace Go.Proofs.YtldkgbnmaefaaaaGreatDoor.Fo
open Go.RowKit Go.Shelf Go.Proofs.YtldkgbnmaefaaaaGreatDoor.Nu
set_option linter.unusedVariables false
set_option linter.unusedSimpArgs false
theorem qxa{c:UInt8}{l:List UInt8}(h:c.toNat=9∨c.toNat=10∨c.toNat=32):trimB (c :: l)=trimB l:=by
 have hc:c=9∨c=10∨c=32:=by
  rcases h with h | h | h
  ·exact .inl (UInt8.toNat_inj.1 h)
  ·exact .inr (.inl (UInt8.toNat_inj.1 h))
  ·exact .inr (.inr (UInt8.toNat_inj.1 h))
 unfold trimB Lib.trimLeftS
 rw[List.dropWhile_cons]
 rcases hc with rfl | rfl | rfl<;>rfl
theorem q0i{c:UInt8}{l:List UInt8}(h1:c.toNat≠9)(h2:c.toNat≠10)(h3:c.toNat≠32):trimB (c :: l)=c :: l:=by
 have hc:bls.contains c=false:=by
  cases hq:bls.contains c
  ·rfl
  ·have:c=9∨c=10∨c=32:=by simpa [bls] using hq
   rcases this with rfl | rfl | rfl
   ·exact absurd rfl h1
   ·exact absurd rfl h2
   ·exact absurd rfl h3
 unfold trimB Lib.trimLeftS
 rw[List.dropWhile_cons,hc]
 rfl
theorem qhc(s:ByteArray)(hs:s.size≤400)(w:World):Calls Tryz.prog 90 #[.string s] w (Sp w s.data.toList):=by
 obtain⟨i0,hi,hz0,hz1,hz2⟩:=info_parts qfq
 have hbk : ∀ n:Nat,n≤4294967282→n*16≤140737488355328:=fun n h=>by omega
 have HBK:=hid hbk;clear hbk
 have hsz:s.data.toList.length=s.size:=rfl
 have HZ:=hid hsz;clear hsz
 go_enter Tryz.func90,Tryz.ntmps90
 go_wp2_with fail
 go_loopw [4,5,6] (fun v iv _ wr => ∃ (k:Nat) (acc:List Tok),iv=.int .i64 k∧k≤s.size∧Hid (acc.length≤k)∧Hid (wr.ownsRow w.heap.size 9 1 v acc.length (strs acc))∧Hid (Below w.heap.size w wr)∧Hid (qcy s.data.toList=(toks (trimB (s.data.toList.drop k))).map (acc ++ ·)))
  (fun _ iv _ _=>s.size-(intOf iv).toNat)
 case atStart=>exact⟨0,[],rfl,Nat.zero_le _,hid (by simp),hid (World.ownsRow_nil _ _ _ _),hid (Below.refl _ _),hid (by simp[qcy])⟩
 case round =>
  obtain⟨k,acc,rfl,hk,hal,hown,hbel,heq⟩:=hrel
  obtain⟨VA,VC,hv⟩:=qbl hown.out
  subst hv
  by_cases hlt:k<s.size
  ·have hd:decide ((k:Int)<(s.size:Int))=true:=by rw[decide_eq_true_iff];omega
   have hkI:(k:Int)<(s.size:Int):=by omega
   obtain⟨c,hc⟩ : ∃ c,s[k]=c:=⟨_,rfl⟩
   have hget : ∀ h,s[k]'h=c:=fun _=>hc
   have hcons:s.data.toList.drop k=c :: s.data.toList.drop (k+1):=by
    rw[List.drop_eq_getElem_cons (by rw[HZ.out];exact hlt)]
    exact congrArg (· :: _) hc
   clear hc
   by_cases hbl:c.toNat=9∨c.toNat=10∨c.toNat=32
   ·have HF:Hid (qcy s.data.toList=(toks (trimB (s.data.toList.drop (k+1)))).map (acc ++ ·)):=hid (by rw[heq.out,hcons,qxa hbl])
    have HAL:Hid (acc.length≤k+1):=hid (by have:=hal.out;omega)
    clear heq hcons
    by_cases b1:c.toNat=9
    ·have e1:((c.toNat:Int)==9)=true:=by simpa using (by omega:(c.toNat:Int)=9)
     clear hbl b1
     go_wp2_with fail
     go_roundw
     case rel=>exact⟨k+1,acc,by simp,by omega,HAL,hown,hbel,HF⟩
     case measure=>simp[intOf];omega
    ·have e1:((c.toNat:Int)==9)=false:=beq_eq_false_iff_ne.2 (by omega)
     by_cases b2:c.toNat=10
     ·have e2:((c.toNat:Int)==10)=true:=by simpa using (by omega:(c.toNat:Int)=10)
      clear hbl b1 b2
      go_wp2_with fail
      go_roundw
      case rel=>exact⟨k+1,acc,by simp,by omega,HAL,hown,hbel,HF⟩
      case measure=>simp[intOf];omega
     ·have e2:((c.toNat:Int)==10)=false:=beq_eq_false_iff_ne.2 (by omega)
      have e3:((c.toNat:Int)==32)=true:=by simpa using (by omega:(c.toNat:Int)=32)
      clear hbl b1 b2
      go_wp2_with fail
      go_roundw
      case rel=>exact⟨k+1,acc,by simp,by omega,HAL,hown,hbel,HF⟩
      case measure=>simp[intOf];omega
   ·have e1:((c.toNat:Int)==9)=false:=beq_eq_false_iff_ne.2 (by omega)
    have e2:((c.toNat:Int)==10)=false:=beq_eq_false_iff_ne.2 (by omega)
    have e3:((c.toNat:Int)==32)=false:=beq_eq_false_iff_ne.2 (by omega)
    have htr:trimB (s.data.toList.drop k)=s.data.toList.drop k:=by rw[hcons];exact q0i (by omega) (by omega) (by omega)
    have hne:s.data.toList.drop k≠[]:=by rw[hcons];simp
    have HNx:=hid (qzf s k wr (by omega) hlt)
    have hle:=(qjw (s.data.toList.drop k)).1
    rw[List.length_drop,HZ.out] at hle
    rw[htr] at heq
    by_cases hn0:qar (s.data.toList.drop k)=0
    ·rw[nx0 hn0] at HNx
     have HF:Hid (qcy s.data.toList=none):=hid (by rw[heq.out,qjz hne hn0];rfl)
     clear hne hn0 heq htr hcons hbl hle
     go_wp2_with fail
     refine HNx.out.mono ?_
     rintro e w2⟨rfl,hb2⟩
     have HB2:=hid (hbel.out.trans (hb2.mono hbel.out.size))
     clear hb2
     go_wp2_with fail
     go_ret2
     unfold Sp
     rw[HF.out]
     exact⟨HB2.out,rfl⟩
    ·rw[nxp rfl (Nat.pos_of_ne_zero hn0)] at HNx
     have HF:Hid (qcy s.data.toList=(toks (trimB (s.data.toList.drop (k+qar (s.data.toList.drop k))))).map ((acc++[(s.data.toList.drop k).take (qar (s.data.toList.drop k))]) ++ ·)):=hid (by
      rw[heq.out,qjy hne hn0,List.drop_drop]
      simp[Option.map_map,Function.comp_def])
     have HX1:Hid (s.extract k (k+qar (s.data.toList.drop k))=bs ((s.data.toList.drop k).take (qar (s.data.toList.drop k)))):=hid (xcr s k _ (by omega))
     generalize(s.data.toList.drop k).take (qar (s.data.toList.drop k))=tk at HF HX1
     have hn1:1≤qar (s.data.toList.drop k):=Nat.pos_of_ne_zero hn0
     generalize qar (s.data.toList.drop k)=n at HF HX1 HNx hle hn1
     obtain⟨E,hE⟩ : ∃ E,k+n=E:=⟨_,rfl⟩
     rw[hE] at HF HX1 HNx
     have hE1:k<E:=by omega
     have hE2:E≤s.size:=by omega
     have hE3:(k:Int)≤(E:Int):=by omega
     have hE4:(E:Int)≤(s.size:Int):=by omega
     have hE5:k≤E:=by omega
     have hE0:((E:Int)==0)=false:=beq_eq_false_iff_ne.2 (by omega)
     have hacc:acc.length≤400:=by have:=hal.out;omega
     have HAL:Hid ((acc++[tk]).length≤E):=hid (by have:=hal.out;simp;omega)
     clear hne hn0 heq htr hcons hbl hle hE
     go_wp2_with fail
     refine HNx.out.mono ?_
     rintro e w2⟨rfl,hb2⟩
     have hown2:=own_below hown.out hb2
     have HO2:=hid hown2
     have HB2:=hid (hbel.out.trans (hb2.mono hbel.out.size))
     have hbs:=HB2.out.size
     clear hb2 hown2
     go_wp2_with (at_builtin;refine wpList_append_own _ rfl _ _ 22 rfl w.heap.size 9 i0 (.string ⟨#[]⟩) 1 16 Tryz.underlying22 hi hz0 hz1 hz2 rfl (by decide) _ _ _ rfl (HO2.out.alloc _) ⟨w2.heap.size,0,none⟩ 1 1 [.string (s.extract k E)] rfl rfl (qfb _ _ _) (by simp[Value.oneCell']) (by unfold maxLen;omega) (HBK.out _ (by omega)) (by simp;omega) ?_)
     intro v' w3 hown' hgrow _
     have hb3:Below w.heap.size w w3:=(HB2.out.alloc (by omega) _).grown hgrow (by simp;omega) (fun k e=>(HO2.out.lt k e).1)
     have HO:Hid (w3.ownsRow w.heap.size 9 1 v' (acc++[tk]).length (strs (acc++[tk]))):=hid (by
      have h:=hown'
      rw[HX1.out] at h
      simpa [strs,sv,bs] using h)
     have HB3:=hid hb3
     obtain⟨VA2,VC2,hv2⟩:=qbl hown'
     subst hv2
     clear hown' hgrow hb3
     go_wp2_with fail
     go_roundw
     case rel=>exact⟨E,acc++[tk],rfl,hE2,HAL,HO,HB3,HF⟩
     case measure=>simp[intOf];omega
  ·have ek:k=s.size:=by omega
   subst ek
   have hd:decide ((s.size:Int)<(s.size:Int))=false:=by simp
   have HF:Hid (qcy s.data.toList=some acc):=hid (by rw[heq.out,List.drop_eq_nil_of_le (by rw[HZ.out];exact Nat.le_refl _)];show(toks []).map _=_;simp[qrf])
   clear heq hlt
   go_wp2_with fail
   go_ret2
   unfold Sp
   rw[HF.out]
   exact⟨hbel.out,_,rfl,hown.out⟩
end Go.Proofs.YtldkgbnmaefaaaaGreatDoor.Fo
namespace Go.Proofs.YtldkgbnmaefaaaaGreatDoor.Fo
open Go.RowKit Go.Proofs.YtldkgbnmaefaaaaGreatDoor.Nu
set_option linter.unusedVariables false
set_option linter.unusedSimpArgs false
def zr:Value := .agg #[.string ⟨#[]⟩,.string ⟨#[]⟩,.slice none 0 0]
def qw9(l:List Tok):Res:=Q (fuel l) 0 .bad l false
theorem xby{l:List Tok}(h:qn3 l=true):(qw9 l).t=(top l).t∧(qw9 l).b=false∧(qw9 l).r=[]:=by
 rw[qfv] at h
 have h2:(top l).b=false∧(top l).r=[]:=by simpa using h
 rcases GQ (fuel l) 0 .bad l with⟨h3,h4⟩ | ⟨h3,h4⟩
 ·have e:qw9 l=top l:=h4
  rw[e];exact⟨rfl,h2⟩
 ·exact absurd (h2.1.symm.trans h3) (by decide)
theorem xbx{l:List Tok}(h:qn3 l=false):(qw9 l).b=true∨((qw9 l).b=false∧0<(qw9 l).r.length):=by
 rw[qfv] at h
 have h2:(top l).b=false→(top l).r≠[]:=by simpa using h
 rcases GQ (fuel l) 0 .bad l with⟨h3,h4⟩ | ⟨h3,h4⟩
 ·have e:qw9 l=top l:=h4
  rw[e]
  exact .inr ⟨h3,List.length_pos_iff.2 (h2 h3)⟩
 ·exact .inl h4
theorem qv2{w W:World}(hb:Below w.heap.size w W){a b c:Value}(hr:W.heap[w.heap.size]? = some (.cells #[a,b,c] 86))(x y z:Value)(o:Obj) :
  ((((W.setCell ⟨w.heap.size,0,none⟩ x).setCell ⟨w.heap.size,1,none⟩ y).setCell ⟨w.heap.size,2,none⟩ z).alloc o).heap[w.heap.size]? = some (.cells #[x,y,z] 86) ∧
  Below w.heap.size w ((((W.setCell ⟨w.heap.size,0,none⟩ x).setCell ⟨w.heap.size,1,none⟩ y).setCell ⟨w.heap.size,2,none⟩ z).alloc o) ∧
  ∀ (T:T) (v:Value),Rd (w.heap.size < ·) W T v→Rd (w.heap.size ≤ ·) ((((W.setCell ⟨w.heap.size,0,none⟩ x).setCell ⟨w.heap.size,1,none⟩ y).setCell ⟨w.heap.size,2,none⟩ z).alloc o) T v:=by
 have hl:=qac hr
 have hB:=((hb.setCell (p:=⟨w.heap.size,0,none⟩) (Nat.le_refl _) x).setCell (p:=⟨w.heap.size,1,none⟩) (Nat.le_refl _) y).setCell (p:=⟨w.heap.size,2,none⟩) (Nat.le_refl _) z
 refine⟨?_,hB.alloc hB.size o,fun T v hR=>Rd.keep (X:=fun i=>w.heap.size<i) (fun i hi hl2 => ?_) (fun i hi _=>Nat.le_of_lt hi) _ _ hR⟩
 ·rw[Below.heap_alloc _ _ _ (by simpa [World.setCell] using hl)]
  exact q2g hr _ _ _
 ·rw[Below.heap_alloc _ _ _ (by simpa [World.setCell] using hl2)]
  exact qa8 (by omega) _ _ _
theorem qq2(l:List Tok)(hz : ∀ t∈l,0<t.length∧t.length≤19)(hl:l.length≤400)(w1:World)(bt:Nat)(v:Value)(ht:TS bt w1 v l)(hbt:bt<w1.heap.size) :
  Calls Tryz.prog 91 #[.pointer (some ⟨w1.heap.size,0,none⟩),.int .i64 0] (w1.alloc (.cells #[v,.int .i64 0,.bool false] 119)) (PoR w1.heap.size bt v l (w1.alloc (.cells #[v,.int .i64 0,.bool false] 119)) (qw9 l)):=by
 have hS:Spr w1.heap.size bt v l (w1.alloc (.cells #[v,.int .i64 0,.bool false] 119)) l false:=by
  refine⟨?_,ht.keep (Below.heap_alloc _ _ _ hbt),by simp,Nat.le_refl _,by omega,by omega,by simp;omega,hz⟩
  rw[Nat.sub_self]
  exact qaj _ _
 exact(xe1 (fuel l)).lev 0 (by omega) w1.heap.size bt v l _ l hS (by unfold fuel;omega)
theorem qrr(s:ByteArray)(hs:s.size≤400)(w:World)(hq:qcy s.data.toList=none):Calls Tryz.prog 45 #[.string s] w fun e w'=>e=.returned (.tuple #[zr,.int .i64 1])∧Below w.heap.size w w':=by
 have HS:=hid (fun w=>qhc s hs w)
 have HQ:=hid hq
 clear hq
 go_enter Tryz.func45,Tryz.ntmps45
 go_wp2_with fail
 refine(HS.out _).mono ?_
 rintro e w1⟨hb,hp⟩
 rw[HQ.out] at hp
 obtain rfl:=hp
 have hr1:w1.heap[w.heap.size]? = some zno:=(hb.block _ (by simp)).trans (qaj _ _)
 have hz1:=qac hr1
 obtain⟨q0,q1,q2,qf⟩:=c3 hr1
 have f0:=qf 0;have f1:=qf 1;have f2:=qf 2
 have HB:=hid (qap hb)
 have HR:=hid hr1
 clear hb hr1 qf
 go_wp2_with fail
 obtain⟨z,zb,_⟩:=qv2 HB.out HR.out (.string ⟨#[]⟩) (.string ⟨#[]⟩) (.slice none 0 0) (.cells #[.slice none 0 0,.int .i64 0,.bool false] 119)
 generalize((((w1.setCell ⟨w.heap.size,0,none⟩ (.string ⟨#[]⟩)).setCell ⟨w.heap.size,1,none⟩ (.string ⟨#[]⟩)).setCell ⟨w.heap.size,2,none⟩ (.slice none 0 0)).alloc (.cells #[.slice none 0 0,.int .i64 0,.bool false] 119))=W9 at z zb ⊢
 obtain⟨z0,z1,z2,_⟩:=c3 z
 exact bodyPost_ret (v := .tuple #[zr,.int .i64 1]) (by simp[results,Tryz.results45,go_sem,z0,z1,z2,zr]) rfl ⟨rfl,zb⟩
theorem qxv(s:ByteArray)(hs:s.size≤400)(w:World)(l:List Tok)(hq:qcy s.data.toList=some l)(hB:qn3 l=true):Calls Tryz.prog 45 #[.string s] w fun e w' => ∃ x,e=.returned (.tuple #[x,.int .i64 0])∧Rd (w.heap.size ≤ ·) w' (top l).t x∧Below w.heap.size w w':=by
 have HS:=hid (fun w=>qhc s hs w)
 have HQ:=hid hq
 obtain⟨hl1,hl2⟩:=qg6 hq
 have hsz:s.data.toList.length=s.size:=rfl
 have HL:=hid (qq2 l hl2 (by omega))
 obtain⟨e1,e2,e3⟩:=xby hB
 rw[show qw9 l=⟨(top l).t,[],false⟩ by rw[←e1,←e2,←e3]] at HL
 generalize(top l).t=T at HL ⊢
 clear hq hl1 hl2 hsz e1 e2 e3 hB
 go_enter Tryz.func45,Tryz.ntmps45
 go_wp2_with fail
 refine(HS.out _).mono ?_
 rintro e w1⟨hb,hp⟩
 rw[HQ.out] at hp
 obtain⟨v,rfl,hown⟩:=hp
 obtain⟨VA,VC,hv⟩:=qbl hown
 subst hv
 have hr1:w1.heap[w.heap.size]? = some zno:=(hb.block _ (by simp)).trans (qaj _ _)
 have hz1:=qac hr1
 obtain⟨bt,hbt,hts⟩:=qvj hown (by omega)
 have HL1:=hid (HL.out w1 bt _ hts hbt)
 have HB:=hid (qap hb)
 have HR:=hid hr1
 clear hb hr1 hown hts HL
 go_wp2_with fail
 (with_reducible refine HL1.out.mono ?_)
 rintro e w2⟨x,rfl,hx,hs2,hf⟩
 obtain⟨o1,t1,A1,k1,d1,rfl⟩:=hx.form
 have b0:=hs2.c0;have b1:=hs2.c1;have b2:=hs2.c2
 simp only[List.length_nil,Nat.sub_zero] at b1
 have hlt2:=hs2.lt
 have hr2:w2.heap[w.heap.size]? = some zno:=(hf.block _ (by simp;omega) (by omega)).trans ((Below.heap_alloc _ _ _ hz1).trans HR.out)
 have hl0:w.heap.size<w2.heap.size:=qac hr2
 obtain⟨q0,q1,q2,qf⟩:=c3 hr2
 have f0:=qf 0;have f1:=qf 1;have f2:=qf 2
 have hd:decide ((l.length:Int)<(l.length:Int))=false:=by simp
 have HX:=hid (Rd.imp (X':=(w.heap.size < ·)) hx fun i hi=>by simp at hi;omega)
 have HB2:=hid ((HB.out.alloc HB.out.size (.cells #[.slice VA l.length VC,.int .i64 0,.bool false] 119)).trans ((hf.mono (m:=w.heap.size) (by simp;omega)).below (by omega)))
 have HR2:=hid hr2
 clear hx hs2 hf hr2 qf
 go_wp2_with fail
 obtain⟨z,zb,zx⟩:=qv2 HB2.out HR2.out (.string o1) (.string t1) (.slice A1 k1 d1) (.cells #[.string o1,.string t1,.slice A1 k1 d1] 86)
 have zx:=zx _ _ HX.out
 generalize((((w2.setCell ⟨w.heap.size,0,none⟩ (.string o1)).setCell ⟨w.heap.size,1,none⟩ (.string t1)).setCell ⟨w.heap.size,2,none⟩ (.slice A1 k1 d1)).alloc (.cells #[.string o1,.string t1,.slice A1 k1 d1] 86))=W9 at z zb zx ⊢
 obtain⟨z0,z1,z2,_⟩:=c3 z
 exact bodyPost_ret (v := .tuple #[.agg #[.string o1,.string t1,.slice A1 k1 d1],.int .i64 0]) (by simp[results,Tryz.results45,go_sem,z0,z1,z2]) rfl ⟨_,rfl,zx,zb⟩
theorem qs6(s:ByteArray)(hs:s.size≤400)(w:World)(l:List Tok)(hq:qcy s.data.toList=some l)(hB:qn3 l=false):Calls Tryz.prog 45 #[.string s] w fun e w'=>e=.returned (.tuple #[zr,.int .i64 1])∧Below w.heap.size w w':=by
 have HS:=hid (fun w=>qhc s hs w)
 have HQ:=hid hq
 obtain⟨hl1,hl2⟩:=qg6 hq
 have hsz:s.data.toList.length=s.size:=rfl
 have HL:=hid (qq2 l hl2 (by omega))
 have hQ:=xbx hB
 generalize qw9 l=R at HL hQ
 clear hq hl1 hl2 hsz hB
 go_enter Tryz.func45,Tryz.ntmps45
 go_wp2_with fail
 refine(HS.out _).mono ?_
 rintro e w1⟨hb,hp⟩
 rw[HQ.out] at hp
 obtain⟨v,rfl,hown⟩:=hp
 obtain⟨VA,VC,hv⟩:=qbl hown
 subst hv
 have hr1:w1.heap[w.heap.size]? = some zno:=(hb.block _ (by simp)).trans (qaj _ _)
 have hz1:=qac hr1
 obtain⟨bt,hbt,hts⟩:=qvj hown (by omega)
 have HL1:=hid (HL.out w1 bt _ hts hbt)
 have HB:=hid (qap hb)
 have HR:=hid hr1
 clear hb hr1 hown hts HL
 go_wp2_with fail
 (with_reducible refine HL1.out.mono ?_)
 rintro e w2⟨x,rfl,hx,hs2,hf⟩
 obtain⟨o1,t1,A1,k1,d1,rfl⟩:=hx.form
 have b0:=hs2.c0;have b1:=hs2.c1;have b2:=hs2.c2
 have hle:=hs2.le
 have hd:R.b=false→decide (((l.length-R.r.length:Nat):Int)<(l.length:Int))=true:=fun h=>by
  rcases hQ with h2 | h2
  ·rw[h] at h2;cases h2
  ·rw[decide_eq_true_iff];have:=h2.2;omega
 have hlt2:=hs2.lt
 have hr2:w2.heap[w.heap.size]? = some zno:=(hf.block _ (by simp;omega) (by omega)).trans ((Below.heap_alloc _ _ _ hz1).trans HR.out)
 have hl0:w.heap.size<w2.heap.size:=qac hr2
 obtain⟨q0,q1,q2,qf⟩:=c3 hr2
 have f0:=qf 0;have f1:=qf 1;have f2:=qf 2
 have HB2:=hid ((HB.out.alloc HB.out.size (.cells #[.slice VA l.length VC,.int .i64 0,.bool false] 119)).trans ((hf.mono (m:=w.heap.size) (by simp;omega)).below (by omega)))
 have HR2:=hid hr2
 clear hx hs2 hf hr2 qf hQ
 obtain⟨z,zb,_⟩:=qv2 HB2.out HR2.out (.string ⟨#[]⟩) (.string ⟨#[]⟩) (.slice none 0 0) (.cells #[.string o1,.string t1,.slice A1 k1 d1] 86)
 cases hb:R.b with
 |true =>
  rw[hb] at b2
  clear hd
  go_wp2_with fail
  generalize((((w2.setCell ⟨w.heap.size,0,none⟩ (.string ⟨#[]⟩)).setCell ⟨w.heap.size,1,none⟩ (.string ⟨#[]⟩)).setCell ⟨w.heap.size,2,none⟩ (.slice none 0 0)).alloc (.cells #[.string o1,.string t1,.slice A1 k1 d1] 86))=W9 at z zb ⊢
  obtain⟨z0,z1,z2,_⟩:=c3 z
  exact bodyPost_ret (v := .tuple #[zr,.int .i64 1]) (by simp[results,Tryz.results45,go_sem,z0,z1,z2,zr]) rfl ⟨rfl,zb⟩
 |false =>
  rw[hb] at b2
  have hd:=hd hb
  obtain⟨i,hi⟩ : ∃ i:Nat,l.length-R.r.length=i:=⟨_,rfl⟩
  rw[hi] at b1 hd
  have hi2:(i:Int)<(l.length:Int):=by simpa using hd
  go_wp2_with fail
  generalize((((w2.setCell ⟨w.heap.size,0,none⟩ (.string ⟨#[]⟩)).setCell ⟨w.heap.size,1,none⟩ (.string ⟨#[]⟩)).setCell ⟨w.heap.size,2,none⟩ (.slice none 0 0)).alloc (.cells #[.string o1,.string t1,.slice A1 k1 d1] 86))=W9 at z zb ⊢
  obtain⟨z0,z1,z2,_⟩:=c3 z
  exact bodyPost_ret (v := .tuple #[zr,.int .i64 1]) (by simp[results,Tryz.results45,go_sem,z0,z1,z2,zr]) rfl ⟨rfl,zb⟩
end Go.Proofs.YtldkgbnmaefaaaaGreatDoor.Fo
