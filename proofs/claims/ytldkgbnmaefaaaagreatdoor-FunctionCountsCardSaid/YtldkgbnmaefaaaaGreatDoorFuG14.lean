import Derived.Test.YtldkgbnmaefaaaaGreatDoorFuG13
import Derived.Test.YtldkgbnmaefaaaaGreatDoorFuG9
import Derived.Test.YtldkgbnmaefaaaaGreatDoorNuG3
import Derived.Test.YtldkgbnmaefaaaaGreatDoorSfG4
set_option maxRecDepth 100000
set_option maxHeartbeats 4000000
open Go.Lib (hid)
namespace Go.Proofs.YtldkgbnmaefaaaaGreatDoor.Fu
set_option linter.unusedVariables false
theorem xeb{l:List UInt8}(h : ∀ b∈l,Sf.spc b=false):Sf.tr l=l:=by
 have hd : ∀ m:List UInt8,(∀ b∈m,Sf.spc b=false)→m.dropWhile Sf.spc=m:=by
  intro m hm
  cases m with
  |nil=>rfl
  |cons a r=>rw[List.dropWhile_cons_of_neg (by rw[hm a List.mem_cons_self];decide)]
 rw[Sf.qpx]
 have e:Sf.trR l=l:=by
  unfold Sf.trR
  rw[hd l.reverse (fun b hb=>h b (List.mem_reverse.1 hb)),List.reverse_reverse]
 rw[e]
 exact hd l h
theorem q7b{b:UInt8}(h:Nu.isD b=true):Sf.spc b=false:=by
 unfold Nu.isD at h
 have h2:=of_decide_eq_true h
 rw[Sf.q2j]
 have h9:((b.toNat:Int)==9)=false:=by rw[beq_eq_false_iff_ne];omega
 have h10:((b.toNat:Int)==10)=false:=by rw[beq_eq_false_iff_ne];omega
 have h13:((b.toNat:Int)==13)=false:=by rw[beq_eq_false_iff_ne];omega
 have h32:((b.toNat:Int)==32)=false:=by rw[beq_eq_false_iff_ne];omega
 rw[h9,h10,h13,h32];rfl
theorem qo4(n:Nat):(Nu.itS (n:Int)).data.toList=Lib.decDigits n:=by rw[Nu.qgt,Nu.qcs]
theorem q7j(n:Nat):trm (Nu.itS (n:Int))=Nu.itS (n:Int):=by
 unfold trm
 apply Nu.qc9
 rw[qo4]
 show Sf.tr (Lib.decDigits n)=_
 exact xeb fun b hb=>q7b (List.all_eq_true.1 (Nu.qix n) b hb)
theorem qvk{n:Nat}(h:n≤1000):Nu.parse (Lib.decDigits n)=⟨(n:Int),1,0⟩:=by
 have e:Nu.qsz (n:Int) 1 0=Lib.decDigits n:=by
  unfold Nu.qsz Nu.body
  rw[if_neg (by omega)]
  simp
 rw[←e]
 exact Nu.qsc ⟨by omega,by omega,by omega,by omega,by simp⟩ (by omega) (by decide) (by simp;omega)
theorem qil{n:Nat}(h:n≤1000)(x:Int):qbi (trm (Nu.itS (n:Int))) x=⟨(n:Int),0⟩:=by
 have h1:=(Nu.qdc (n:=(n:Int)) (by omega)).1
 rw[q7j]
 unfold qbi
 rw[if_neg (by omega),qo4,qvk h,if_pos rfl,if_pos rfl]
theorem q5b(x:Int):qbi (trm em) x=⟨x,0⟩:=by
 unfold qbi
 have h:=qbd em
 have h2:em.size=0:=rfl
 rw[if_pos (by omega)]
theorem qyt:(⟨#[48]⟩:BA)=Nu.itS ((0:Nat):Int):=by
 apply Nu.qc9
 rw[qo4,Nu.qcg (by omega)]
 rfl
theorem qys{n:Nat}(h:n≤1000):(Nu.itS (n:Int)).size≤20:=(Nu.qdc (n:=(n:Int)) (by omega)).2
theorem qwn(s:BA)(k:Nat):Sf.slF s (k:Int)=k:=by unfold Sf.slF;rw[if_neg (by omega)];omega
theorem qwq(s:BA)(F n:Nat):Sf.slN s F (n:Int)=n:=by unfold Sf.slN;rw[if_neg (by omega)];omega
theorem qyu(s:BA)(k:Nat)(hs:s.size≤400):Sf.slice s ((0:Nat):Int) (k:Int)++Sf.slice s (k:Int) 32768=s:=by
 have h1:Sf.slice s ((0:Nat):Int) (k:Int)=s.extract 0 (Sf.ag s k):=by
  unfold Sf.slice Sf.sl
  rw[qwn,qwq,Sf.qla,Nat.zero_add]
 have h2:Sf.slice s (k:Int) 32768=s.extract (Sf.ag s k) s.size:=by
  unfold Sf.slice
  rw[qwn,show(32768:Int)=((32768:Nat):Int) from rfl,qwq,Sf.xbv]
  have:=Sf.qer s;omega
 rw[h1,h2]
 apply Sf.qb4
 rw[Nu.qbh,Sf.qlj (Nat.zero_le _) (Sf.qez s k),Sf.qt9]
def star:BA:=⟨#[42]⟩
theorem q7c:Sf.Pl star:=by
 rw[Sf.xbe]
 intro b hb
 have:b=42:=by simpa [star] using hb
 subst this;decide
theorem qqv{s:BA}(hs:s.size≤400){n:Nat}(hn:n≤1000):Sf.qio s (fill star) (n:Int)=0∧((Sf.pL s (fill star) (n:Int)).size:Int)=(s.size:Int)+max 0 ((n:Int)-(Sf.rc s:Int)):=by
 have hf:fill star=star:=if_neg (by decide)
 have hl:(Sf.pdl star (Sf.lack s star (n:Int))).length=Sf.lack s star (n:Int):=Sf.qse q7c (by decide) _
 have hk:Sf.lack s star (n:Int)=(max (n:Int) (Sf.rc s)-Sf.rc s).toNat:=if_neg (by decide)
 have hb : ¬ Sf.qbk s star (n:Int):=by
  unfold Sf.qbk
  rw[hl,hk];omega
 rw[hf]
 refine⟨if_neg hb,?_⟩
 have e:Sf.pL s star (n:Int)=Sf.qfy s star (n:Int)++s:=if_neg hb
 have e2:(Sf.qfy s star (n:Int)).size=Sf.lack s star (n:Int):=by
  rw[←Sf.qag];exact hl
 rw[e,ByteArray.size_append,e2,hk]
 omega
theorem xaj{s:BA}(hs:s.size≤300){n:Nat}(hn:n≤63):qai 5 [⟨0,0⟩,⟨2,0⟩,⟨1,0⟩] [s,Nu.itS (n:Int),star]=⟨Sf.pL (trm s) (fill star) (n:Int),0⟩:=by
 have hz:=qbd s
 rw[qfo]
 have r0:raw [s,Nu.itS (n:Int),star] 0=s:=rfl
 have r1:raw [s,Nu.itS (n:Int),star] 1=Nu.itS (n:Int):=rfl
 have r2:raw [s,Nu.itS (n:Int),star] 2=star:=rfl
 rw[r0,r1,r2,qil (by omega),if_pos rfl,(qqv (s:=trm s) (by omega) (n:=n) (by omega)).1]
theorem q4p{s:BA}{n:Nat}(hn:n≤63):qai 1 [⟨0,0⟩,⟨2,0⟩,⟨2,32768⟩] [s,⟨#[48]⟩,Nu.itS (n:Int)]=⟨Sf.slice (trm s) ((0:Nat):Int) (n:Int),0⟩:=by
 rw[qkh]
 have r0:raw [s,⟨#[48]⟩,Nu.itS (n:Int)] 0=s:=rfl
 have r1:raw [s,⟨#[48]⟩,Nu.itS (n:Int)] 1=Nu.itS ((0:Nat):Int):=qyt
 have r2:raw [s,⟨#[48]⟩,Nu.itS (n:Int)] 2=Nu.itS (n:Int):=rfl
 rw[r0,r1,r2,qil (by omega),qil (by omega),if_pos rfl,if_pos rfl]
theorem q4q{s:BA}{n:Nat}(hn:n≤63):qai 1 [⟨0,0⟩,⟨2,0⟩,⟨2,32768⟩] [s,Nu.itS (n:Int)]=⟨Sf.slice (trm s) (n:Int) 32768,0⟩:=by
 rw[qkh]
 have r0:raw [s,Nu.itS (n:Int)] 0=s:=rfl
 have r1:raw [s,Nu.itS (n:Int)] 1=Nu.itS (n:Int):=rfl
 have r2:raw [s,Nu.itS (n:Int)] 2=em:=rfl
 rw[r0,r1,r2,qil (by omega),q5b,if_pos rfl,if_pos rfl]
theorem xai(s:BA):qai 0 [⟨0,0⟩] [s]=⟨Nu.itS (Sf.rc (trm s)),0⟩:=qqe [s]
theorem xdo(s:BA):qai 8 [⟨0,0⟩] [s]=⟨Sf.bsl ((trm s).data.toList.map Sf.cp),0⟩:=qyv [s]
end Go.Proofs.YtldkgbnmaefaaaaGreatDoor.Fu
namespace Go.Proofs.YtldkgbnmaefaaaaGreatDoor.Fu
open Go.RowKit
set_option linter.unusedVariables false
set_option linter.unusedSimpArgs false
theorem qy9(n:Int):bits .and .i64 n 63=n%64:=by
 have h7:(BitVec.ofInt 64 63).toNat=2^6-1:=by decide
 have key:(BitVec.ofInt 64 n &&& BitVec.ofInt 64 63).toNat=(n%((2^64:Nat):Int)).toNat%2^6:=by
  rw[BitVec.toNat_and,BitVec.toNat_ofInt,h7,Nat.and_two_pow_sub_one_eq_mod]
 show IntKind.i64.wrap ((BitVec.ofInt 64 n &&& BitVec.ofInt 64 63).toNat:Nat)=n%64
 rw[key,IntKind.wrap_i64]
 omega
theorem qgl{k:Nat}{y:Row}(hy:tbl[k]? = some y)(l:List BA)(hl:Ord l){E:Array Value}(hE:E=(l.map Value.string).toArray){r:An}(hr:qai k y.ps l=r)(W:World)(hT:Tb W) :
  Calls Tryz.prog 11 #[.string y.name,.slice (some ⟨W.heap.size,0,none⟩) l.length l.length] (W.alloc (.cells E 9)) (fun e w'=>e=.returned (qbc r)∧Below (W.alloc (.cells E 9)).heap.size (W.alloc (.cells E 9)) w'):=by
 subst hE hr
 exact qgd k y hy _ l _ (Rd.new l rfl (by have:=hl.len;omega)) hl (hT.below ((Below.refl _ W).alloc (Nat.le_refl _) _))
theorem qns{l:List BA}(h:l.length≤40)(h2 : ∀ s∈l,s.size≤350):Ord l:=⟨h,fun i=>by
 by_cases hi:i<l.length
 ·rw[qbm hi];exact h2 _ (List.getElem_mem hi)
 ·rw[qjn hi];exact Nat.zero_le _⟩
structure CoH (s D T P a b C U:BA):Prop where
 c1 : ∀ (W:World),Tb W→Calls Tryz.prog 11 #[.string ⟨#[112,97,100,108,101,102,116]⟩,.slice (some ⟨W.heap.size,0,none⟩) 3 3] (W.alloc (.cells #[.string s,.string D,.string ⟨#[42]⟩] 9)) (fun e w'=>e=.returned (.tuple #[.string P,.int .i64 0])∧Below (W.alloc (.cells #[.string s,.string D,.string ⟨#[42]⟩] 9)).heap.size (W.alloc (.cells #[.string s,.string D,.string ⟨#[42]⟩] 9)) w')
 c2 : ∀ (W:World),Tb W→Calls Tryz.prog 11 #[.string ⟨#[115,117,98]⟩,.slice (some ⟨W.heap.size,0,none⟩) 3 3] (W.alloc (.cells #[.string s,.string ⟨#[48]⟩,.string D] 9)) (fun e w'=>e=.returned (.tuple #[.string a,.int .i64 0])∧Below (W.alloc (.cells #[.string s,.string ⟨#[48]⟩,.string D] 9)).heap.size (W.alloc (.cells #[.string s,.string ⟨#[48]⟩,.string D] 9)) w')
 c3 : ∀ (W:World),Tb W→Calls Tryz.prog 11 #[.string ⟨#[115,117,98]⟩,.slice (some ⟨W.heap.size,0,none⟩) 2 2] (W.alloc (.cells #[.string s,.string D] 9)) (fun e w'=>e=.returned (.tuple #[.string b,.int .i64 0])∧Below (W.alloc (.cells #[.string s,.string D] 9)).heap.size (W.alloc (.cells #[.string s,.string D] 9)) w')
 c4 : ∀ (W:World),Tb W→Calls Tryz.prog 11 #[.string ⟨#[108,101,110]⟩,.slice (some ⟨W.heap.size,0,none⟩) 1 1] (W.alloc (.cells #[.string s] 9)) (fun e w'=>e=.returned (.tuple #[.string C,.int .i64 0])∧Below (W.alloc (.cells #[.string s] 9)).heap.size (W.alloc (.cells #[.string s] 9)) w')
 c5 : ∀ (W:World),Tb W→Calls Tryz.prog 11 #[.string ⟨#[117,99]⟩,.slice (some ⟨W.heap.size,0,none⟩) 1 1] (W.alloc (.cells #[.string s] 9)) (fun e w'=>e=.returned (.tuple #[.string U,.int .i64 0])∧Below (W.alloc (.cells #[.string s] 9)).heap.size (W.alloc (.cells #[.string s] 9)) w')
theorem coh(s:BA)(hs:s.size≤200)(m:Nat)(hm:m≤63):CoH s (Nu.itS (m:Int)) (trm s) (Sf.pL (trm s) (fill star) (m:Int)) (Sf.slice (trm s) ((0:Nat):Int) (m:Int)) (Sf.slice (trm s) (m:Int) 32768) (Nu.itS (Sf.rc (trm s))) (Sf.bsl ((trm s).data.toList.map Sf.cp)):=by
 have hD:=qys (n:=m) (by omega)
 refine⟨fun W hT => ?_,fun W hT => ?_,fun W hT => ?_,fun W hT => ?_,fun W hT => ?_⟩
 ·exact qgl (k:=5) rfl [s,Nu.itS (m:Int),star] (qns (by simp) (by intro x hx;simp only[List.mem_cons,List.not_mem_nil,or_false] at hx;rcases hx with rfl | rfl | rfl;omega;omega;decide)) rfl (xaj (by omega) hm) W hT
 ·exact qgl (k:=1) rfl [s,⟨#[48]⟩,Nu.itS (m:Int)] (qns (by simp) (by intro x hx;simp only[List.mem_cons,List.not_mem_nil,or_false] at hx;rcases hx with rfl | rfl | rfl;omega;decide;omega)) rfl (q4p hm) W hT
 ·exact qgl (k:=1) rfl [s,Nu.itS (m:Int)] (qns (by simp) (by intro x hx;simp only[List.mem_cons,List.not_mem_nil,or_false] at hx;rcases hx with rfl | rfl;omega;omega)) rfl (q4q hm) W hT
 ·exact qgl (k:=0) rfl [s] (qns (by simp) (by intro x hx;simp only[List.mem_cons,List.not_mem_nil,or_false] at hx;rcases hx with rfl;omega)) rfl (xai s) W hT
 ·exact qgl (k:=8) rfl [s] (qns (by simp) (by intro x hx;simp only[List.mem_cons,List.not_mem_nil,or_false] at hx;rcases hx with rfl;omega)) rfl (xdo s) W hT
theorem FunctionCounts_any(s:BA)(n:Int)(w:World)(hT:Tb w) :
  Calls Tryz.prog 7 #[.string s,.int .i64 n] w fun e w'=>e=.returned (.bool true)∧Below w.heap.size w w':=by
 have HK:=hid (fun(W:World) (hW:Below w.heap.size w W)=>qgu W (hT.below hW))
 have HTb:=hid (fun(W:World) (hW:Below w.heap.size w W)=>hT.below hW)
 by_cases h:200<s.size
 ·have hd:(200:Int)<(s.size:Int):=by omega
  clear h hT
  go_enter Tryz.func7,Tryz.ntmps7
  go_wp2_with fail
  (with_reducible refine(HK.out _ (Below.refl _ _)).mono ?_)
  rintro e w1⟨rfl,hb1⟩
  go_wp2
  go_ret
  exact⟨rfl,hb1⟩
 ·have hd : ¬ (200:Int)<(s.size:Int):=by omega
  have hand:=qy9 n
  obtain⟨m,hm⟩ : ∃ m:Nat,n%64=(m:Int):=⟨(n%64).toNat,by omega⟩
  have hm2:m≤63:=by omega
  rw[hm] at hand
  have HC:=hid (coh s (by omega) m hm2)
  have hle:=qbd s
  have hp:=(qqv (s:=trm s) (by omega) (n:=m) (by omega)).2
  have hab0:=qyu (trm s) m (by omega)
  have hrc:=Sf.qer (trm s)
  have HTr0:=hid (fun w=>Sf.qm5 s w (by omega))
  have HDm0:=hid (fun w=>Nu.qb3 (m:Int) w (by omega))
  have HLn:=hid (fun w=>Sf.qed (trm s) w (by omega))
  have HDr0:=hid (fun w=>Nu.qb3 (Sf.rc (trm s):Int) w (by omega))
  have HUp:=hid (fun w=>Sf.qkb (trm s) w (by omega))
  have HTr:Hid (∀ w,Calls Tryz.prog 19 #[.string s] w fun e w'=>e=.returned (.string (trm s))∧Below w.heap.size w w'):=hid (fun w=>HTr0.out w)
  have HDm:Hid (∀ w,Calls Tryz.prog 20 #[.int .i64 (m:Int)] w fun e w'=>e=.returned (.string (Nu.itS (m:Int)))∧Below w.heap.size w w'):=hid (fun w=>HDm0.out w)
  have HDr:Hid (∀ w,Calls Tryz.prog 20 #[.int .i64 (Sf.rc (trm s):Int)] w fun e w'=>e=.returned (.string (Nu.itS (Sf.rc (trm s))))∧Below w.heap.size w w'):=hid (fun w=>HDr0.out w)
  obtain⟨P,hP⟩ : ∃ P,Sf.pL (trm s) (fill star) (m:Int)=P:=⟨_,rfl⟩
  obtain⟨a,ha⟩ : ∃ a,Sf.slice (trm s) ((0:Nat):Int) (m:Int)=a:=⟨_,rfl⟩
  obtain⟨b,hb⟩ : ∃ b,Sf.slice (trm s) (m:Int) 32768=b:=⟨_,rfl⟩
  obtain⟨U,hU⟩ : ∃ U,Sf.bsl ((trm s).data.toList.map Sf.cp)=U:=⟨_,rfl⟩
  obtain⟨D,hD⟩ : ∃ D,Nu.itS (m:Int)=D:=⟨_,rfl⟩
  obtain⟨C,hC⟩ : ∃ C,Nu.itS (Sf.rc (trm s))=C:=⟨_,rfl⟩
  rw[hP] at hp
  rw[ha,hb] at hab0
  rw[hP,ha,hb,hU,hD,hC] at HC
  rw[hU] at HUp
  rw[hD] at HDm
  rw[hC] at HDr
  have hsz:a.size+b.size=(trm s).size:=by rw[←hab0,ByteArray.size_append]
  have hab:((a++b).toList==(trm s).toList)=true:=by rw[hab0];exact beq_self_eq_true _
  have hCC:(C.toList==C.toList)=true:=beq_self_eq_true _
  have hUU:(U.toList==U.toList)=true:=beq_self_eq_true _
  have hT2:(trm s).size≤200:=by omega
  obtain⟨R,hR⟩ : ∃ R,Sf.rc (trm s)=R:=⟨_,rfl⟩
  rw[hR] at hrc hp HLn HDr
  clear hP ha hb hU hD hC hR hab0 hm h hle hT HTr0 HDm0 HDr0
  generalize trm s=T at *
  have hR2:R≤200:=by omega
  have hpp:((P.size:Int)==(T.size:Int)+max 0 ((m:Int)-(R:Int)))=true:=by rw[beq_iff_eq];exact hp
  have hsz2:a.size+b.size≤200:=by omega
  go_enter Tryz.func7,Tryz.ntmps7
  go_wp2_with fail
  (with_reducible refine(HTr.out _).mono ?_)
  rintro e w1⟨rfl,b1⟩
  have B1:=hid b1
  clear b1
  go_wp2_with fail
  (with_reducible refine(HDm.out _).mono ?_)
  rintro e w2⟨rfl,b2⟩
  have B2:=hid (B1.out.trans (b2.mono B1.out.size))
  clear b2 B1
  go_wp2_with fail
  (with_reducible refine(HC.out.c1 _ (HTb.out _ B2.out)).mono ?_)
  rintro e w3⟨rfl,b3⟩
  have B3:=hid (B2.out.trans ((bxb b3).mono B2.out.size))
  clear b3 B2
  go_wp2_with fail
  (with_reducible refine(HDm.out _).mono ?_)
  rintro e w4⟨rfl,b4⟩
  have B4:=hid (B3.out.trans (b4.mono B3.out.size))
  clear b4 B3
  go_wp2_with fail
  (with_reducible refine(HC.out.c2 _ (HTb.out _ B4.out)).mono ?_)
  rintro e w5⟨rfl,b5⟩
  have B5:=hid (B4.out.trans ((bxb b5).mono B4.out.size))
  clear b5 B4
  go_wp2_with fail
  (with_reducible refine(HDm.out _).mono ?_)
  rintro e w6⟨rfl,b6⟩
  have B6:=hid (B5.out.trans (b6.mono B5.out.size))
  clear b6 B5
  go_wp2_with fail
  (with_reducible refine(HC.out.c3 _ (HTb.out _ B6.out)).mono ?_)
  rintro e w7⟨rfl,b7⟩
  have B7:=hid (B6.out.trans ((bxb b7).mono B6.out.size))
  clear b7 B6
  go_wp2_with fail
  (with_reducible refine(HC.out.c4 _ (HTb.out _ B7.out)).mono ?_)
  rintro e w8⟨rfl,b8⟩
  have B8:=hid (B7.out.trans ((bxb b8).mono B7.out.size))
  clear b8 B7
  go_wp2_with fail
  (with_reducible refine(HC.out.c5 _ (HTb.out _ B8.out)).mono ?_)
  rintro e w9⟨rfl,b9⟩
  have B9:=hid (B8.out.trans ((bxb b9).mono B8.out.size))
  clear b9 B8
  go_wp2_with fail
  (with_reducible refine(HLn.out _).mono ?_)
  rintro e w10⟨rfl,b10⟩
  have B10:=hid (B9.out.trans (b10.mono B9.out.size))
  clear b10 B9
  go_wp2_with fail
  (with_reducible refine(HDr.out _).mono ?_)
  rintro e w11⟨rfl,b11⟩
  have B11:=hid (B10.out.trans (b11.mono B10.out.size))
  clear b11 B10
  go_wp2_with fail
  (with_reducible refine(HUp.out _).mono ?_)
  rintro e w12⟨rfl,b12⟩
  have B12:=hid (B11.out.trans (b12.mono B11.out.size))
  clear b12 B11
  go_wp2_with fail
  (with_reducible refine(HLn.out _).mono ?_)
  rintro e w13⟨rfl,b13⟩
  have B13:=hid (B12.out.trans (b13.mono B12.out.size))
  clear b13 B12
  go_wp2_with fail
  (with_reducible refine(HK.out _ B13.out).mono ?_)
  rintro e w14⟨rfl,b14⟩
  have B14:=hid (B13.out.trans (b14.mono B13.out.size))
  clear b14 B13
  go_wp2
  go_ret
  exact⟨rfl,B14.out⟩
end Go.Proofs.YtldkgbnmaefaaaaGreatDoor.Fu
