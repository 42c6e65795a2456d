import Derived.WalkKit
import Derived.Lib.ItoaNum
import Derived.Test.YtldkgbnmaefaaaaGreatDoorChecked
import Derived.WalkSpells
import Derived.WalkLawsBesides
import Derived.Outline
import Derived.Deep.QuietTactic
import Derived.BigQuiet
import Derived.Lib.Hide
import Derived.IntWalk
import Derived.Deep.RegionHeld3
set_option maxRecDepth 100000
set_option maxHeartbeats 4000000
open Go.Lib (hid)
namespace Go.Proofs.YtldkgbnmaefaaaaGreatDoor.Nu
def gc(a b:Int):Int:=(Int.gcd a b:Int)
def sn(n d:Int):Int:=if d<0 then -n else n
def sd(d:Int):Int:=if d<0 then -d else d
def fn(n d:Int):Int:=sn n d / gc n d
def fd(n d:Int):Int:=sd d / gc n d
structure R3 where
 n:Int
 d:Int
 e:Int
def okB(n d:Int):Bool:=decide (1≤d∧d≤1000000000 ∧ -1000000000≤n∧n≤1000000000∧Int.gcd n d=1)
def q1m(n d:Int):Bool:=decide (-1000000000≤fn n d∧fn n d≤1000000000∧fd n d≤1000000000)
def fit(n d:Int):R3:=if q1m n d then⟨fn n d,fd n d,0⟩ else⟨0,0,15⟩
structure Ok (n d:Int):Prop where
 d1:1≤d
 d2:d≤1000000000
 n1 : -1000000000≤n
 n2:n≤1000000000
 g:Int.gcd n d=1
theorem qan{n d:Int}:okB n d=true↔Ok n d:=by
 unfold okB;rw[decide_eq_true_iff]
 exact⟨fun⟨a,b,c,e,f⟩=>⟨a,b,c,e,f⟩,fun⟨a,b,c,e,f⟩=>⟨a,b,c,e,f⟩⟩
theorem qnn(n:Int){d:Int}(h:d≠0):1≤gc n d:=by
 have:=Int.gcd_pos_of_ne_zero_right n h;unfold gc;omega
theorem xbr{d:Int}(h:d≠0):1≤sd d:=by unfold sd;split<;>omega
theorem xav(n d:Int):gc n d ∣ sn n d:=by
 unfold gc sn;split
 ·exact Int.dvd_neg.2 (Int.gcd_dvd_left ..)
 ·exact Int.gcd_dvd_left ..
theorem xau(n d:Int):gc n d ∣ sd d:=by
 unfold gc sd;split
 ·exact Int.dvd_neg.2 (Int.gcd_dvd_right ..)
 ·exact Int.gcd_dvd_right ..
theorem xas(n d:Int):fn n d*gc n d=sn n d:=Int.ediv_mul_cancel (xav n d)
theorem q1l(n d:Int):fd n d*gc n d=sd d:=Int.ediv_mul_cancel (xau n d)
theorem q1q(n d:Int):Int.gcd (sn n d) (sd d)=Int.gcd n d:=by
 unfold sn sd;split<;>simp
theorem qqf(n:Int){d:Int}(h:d≠0):1≤fd n d:=by
 have h1:=q1l n d;have h2:=xbr h;have h3:=qnn n h
 rcases (show fd n d<1∨1≤fd n d by omega) with h4 | h4
 ·have:fd n d*gc n d≤0:=Int.mul_nonpos_of_nonpos_of_nonneg (by omega) (by omega)
  omega
 ·exact h4
theorem fg(n:Int){d:Int}(h:d≠0):Int.gcd (fn n d) (fd n d)=1:=by
 have h1:0<Int.gcd (sn n d) (sd d):=by rw[q1q];have:=qnn n h;unfold gc at this;omega
 have:=Int.gcd_ediv_gcd_ediv_gcd h1
 rw[q1q] at this
 exact this
theorem xea(n d:Int):sn n d*d=n*sd d:=by
 unfold sn sd;split
 ·rw[Int.neg_mul,Int.mul_neg]
 ·rfl
theorem q1k(n:Int){d:Int}(h:d≠0):fn n d*d=n*fd n d:=by
 have h1:=xas n d;have h2:=q1l n d;have h3:=xea n d;have h4:=qnn n h
 have:(fn n d*d)*gc n d=(n*fd n d)*gc n d:=by
  rw[Int.mul_right_comm,h1,h3,Int.mul_assoc,h2]
 exact Int.eq_of_mul_eq_mul_right (by omega) this
theorem q1j{a b c:Int}(h:Int.gcd a b=1)(hd:b ∣ a*c):b ∣ c:=by
 have h1:(b:Int) ∣ (Int.gcd b a:Int)*c:=Int.dvd_gcd_mul_iff_dvd_mul.2 hd
 rw[Int.gcd_comm,h] at h1
 simpa using h1
theorem lone{a b c e:Int}(h1:Int.gcd a b=1)(h2:Int.gcd c e=1)(hb:1≤b)(he:1≤e)(h:a*e=c*b):a=c∧b=e:=by
 have d1:b ∣ e:=q1j h1 ⟨c,by rw[h,Int.mul_comm]⟩
 have d2:e ∣ b:=q1j h2 ⟨a,by rw[←h,Int.mul_comm]⟩
 have hbe:b=e:=Int.le_antisymm (Int.le_of_dvd (by omega) d1) (Int.le_of_dvd (by omega) d2)
 subst hbe
 exact⟨Int.eq_of_mul_eq_mul_right (by omega) h,rfl⟩
theorem Ok.lone{a b c e:Int}(h1:Ok a b)(h2:Ok c e)(h:a*e=c*b):a=c∧b=e:=Nu.lone h1.g h2.g h1.d1 h2.d1 h
theorem q1n{n d a b:Int}(hd:d≠0)(h:Ok a b)(hc:a*d=n*b):fit n d=⟨a,b,0⟩:=by
 have h1:=q1k n hd
 have h2:fn n d*b=a*fd n d:=by
  have:(fn n d*b)*d=(a*fd n d)*d:=by
   rw[Int.mul_right_comm,h1,Int.mul_right_comm a,hc];exact Int.mul_right_comm ..
  exact Int.eq_of_mul_eq_mul_right hd this
 obtain⟨e1,e2⟩:=Nu.lone (fg n hd) h.g (qqf n hd) h.d1 h2
 have hB:q1m n d=true:=by
  unfold q1m;rw[decide_eq_true_iff,e1,e2];exact⟨h.n1,h.n2,h.d2⟩
 unfold fit;rw[if_pos hB,e1,e2]
theorem quf(n:Int){d:Int}(hd:d≠0):((fit n d).e=0∧Ok (fit n d).n (fit n d).d∧(fit n d).n*d=n*(fit n d).d)∨(fit n d=⟨0,0,15⟩ ∧ ∀ a b,Ok a b→a*d≠n*b):=by
 cases hB:q1m n d
 ·right
  have h0:fit n d=⟨0,0,15⟩:=by unfold fit;rw[if_neg (by rw[hB];simp)]
  refine⟨h0,fun a b hab hc => ?_⟩
  have:=q1n hd hab hc
  rw[h0] at this
  simp at this
 ·left
  have h0:fit n d=⟨fn n d,fd n d,0⟩:=by unfold fit;rw[if_pos hB]
  unfold q1m at hB;rw[decide_eq_true_iff] at hB
  rw[h0]
  exact⟨rfl,⟨qqf n hd,hB.2.2,hB.1,hB.2.1,fg n hd⟩,q1k n hd⟩
theorem qki{n d:Int}(hd:d≠0)(h:(fit n d).e=0):Ok (fit n d).n (fit n d).d∧(fit n d).n*d=n*(fit n d).d:=by
 rcases quf n hd with⟨_,h1,h2⟩ | ⟨h1,_⟩
 ·exact⟨h1,h2⟩
 ·rw[h1] at h;simp at h
theorem qlm{n d:Int}(h:(fit n d).e≠0):fit n d=⟨0,0,15⟩:=by
 unfold fit at h ⊢;split
 ·rename_i hB;rw[if_pos hB] at h;exact absurd rfl h
 ·rfl
end Go.Proofs.YtldkgbnmaefaaaaGreatDoor.Nu
namespace Go.Proofs.YtldkgbnmaefaaaaGreatDoor.Nu
def add(a p b q:Int):R3:=if okB a p&&okB b q then fit (a*q+b*p) (p*q) else⟨0,0,7⟩
def sub(a p b q:Int):R3:=if okB a p&&okB b q then fit (a*q-b*p) (p*q) else⟨0,0,7⟩
def mul(a p b q:Int):R3:=if okB a p&&okB b q then fit (a*b) (p*q) else⟨0,0,7⟩
def div(a p b q:Int):R3:=if okB a p&&okB b q then (if b=0 then⟨0,0,16⟩ else fit (a*q) (p*b)) else⟨0,0,7⟩
def mod(a p b q:Int):R3:=if okB a p&&okB b q then (if b=0 then⟨0,0,16⟩ else fit (Int.fmod (a*q) (b*p)) (p*q)) else⟨0,0,7⟩
def cmp(a p b q:Int):Int:=if okB a p&&okB b q then (if a*q<b*p then -1 else if b*p<a*q then 1 else 0) else 0
def inB(i:Int):Bool:=decide (-1000000000≤i∧i≤1000000000)
def make(n d:Int):R3:=if inB n&&inB d then (if d=0 then⟨0,0,16⟩ else fit n d) else⟨0,0,2⟩
def pw(k:Nat):Int:=10^k
def un(n d:Int)(k:Nat):Int:=(2*n.natAbs*pw k+d) / (2*d)
def ud(n d:Int)(k:Nat):Int:=if n<0 then-un n d k else un n d k
def rnd(n d k:Int):R3:=if okB n d then (if 0≤k∧k≤9 then fit (ud n d k.toNat) (pw k.toNat) else⟨0,0,2⟩) else⟨0,0,7⟩
theorem Ok.ne{n d:Int}(h:Ok n d):d≠0:=by have:=h.d1;omega
theorem q0x{a p b q:Int}(h1:Ok a p)(h2:Ok b q):add a p b q=fit (a*q+b*p) (p*q):=by
 unfold add;rw[qan.2 h1,qan.2 h2];rfl
theorem qw0{a p b q:Int}(h1:Ok a p)(h2:Ok b q):sub a p b q=fit (a*q-b*p) (p*q):=by
 unfold sub;rw[qan.2 h1,qan.2 h2];rfl
theorem qu3{a p b q:Int}(h1:Ok a p)(h2:Ok b q):mul a p b q=fit (a*b) (p*q):=by
 unfold mul;rw[qan.2 h1,qan.2 h2];rfl
theorem q1g{a p b q:Int}(h1:Ok a p)(h2:Ok b q)(hb:b≠0):div a p b q=fit (a*q) (p*b):=by
 unfold div;rw[qan.2 h1,qan.2 h2];simp[hb]
theorem q1t{a p b q:Int}(h1:Ok a p)(h2:Ok b q)(hb:b≠0):mod a p b q=fit (Int.fmod (a*q) (b*p)) (p*q):=by
 unfold mod;rw[qan.2 h1,qan.2 h2];simp[hb]
theorem qkm{p q:Int}(h1:p≠0)(h2:q≠0):p*q≠0:=Int.mul_ne_zero h1 h2
theorem qvg:Ok 0 1:=⟨by omega,by omega,by omega,by omega,by decide⟩
structure Sm (n d:Int):Prop where
 ok:Ok n d
 n1 : -1999≤n
 n2:n≤1999
 d2:d≤1024
end Go.Proofs.YtldkgbnmaefaaaaGreatDoor.Nu
namespace Go.Proofs.YtldkgbnmaefaaaaGreatDoor.Nu
structure Mo (xn xd yn yd:Int) (r:R3):Prop where
 e:r.e=0
 ok:Ok r.n r.d
 sub : ∃ s:R3,sub xn xd r.n r.d=s∧s.e=0∧Ok s.n s.d ∧ ∃ k,div s.n s.d yn yd=⟨k,1,0⟩
 pos:0<yn→0≤cmp r.n r.d 0 1∧cmp r.n r.d yn yd<0
 neg:yn<0→cmp r.n r.d 0 1≤0∧0<cmp r.n r.d yn yd
theorem qot{a b:Int}(h:b<0):b<Int.fmod a b∧Int.fmod a b≤0:=by
 have e:Int.fmod a b = - Int.fmod (-a) (-b):=by rw[Int.neg_fmod_neg,Int.neg_neg]
 have h1:=Int.fmod_nonneg_of_pos (-a) (show 0 < -b by omega)
 have h2:=Int.fmod_lt_of_pos (-a) (show 0 < -b by omega)
 omega
structure Ne (n d:Int) (k:Nat) (r:R3):Prop where
 e:r.e=0
 ok:Ok r.n r.d
 mul : ∃ u,mul r.n r.d (pw k) 1=⟨u,1,0⟩
 half:okB 1 (2*pw k)=true
 m:sub 0 1 1 (2*pw k)=⟨-1,2*pw k,0⟩
 near:(sub n d r.n r.d).e=0→cmp (sub n d r.n r.d).n (sub n d r.n r.d).d 1 (2*pw k)≤0∧0≤cmp (sub n d r.n r.d).n (sub n d r.n r.d).d (-1) (2*pw k)
end Go.Proofs.YtldkgbnmaefaaaaGreatDoor.Nu
namespace Go.Proofs.YtldkgbnmaefaaaaGreatDoor.Nu
def qg9:Nat→Nat→List UInt8
 | 0,_=>[]
 |k+1,x=>qg9 k (x / 10)++[UInt8.ofNat (48+x%10)]
theorem qcg{x:Nat}(h:x<10):Lib.decDigits x=[UInt8.ofNat (48+x)]:=Lib.decDigits_one h
theorem qe2{x:Nat}(h:10≤x):Lib.decDigits x=Lib.decDigits (x / 10)++[UInt8.ofNat (48+x%10)]:=by
 conv=>lhs;rw[Lib.decDigits,dif_neg (by omega)]
theorem qt4 : ∀ (k x:Nat),x<10^k→Lib.decDigits (10^k+x)=49 :: qg9 k x
 | 0,x,h=>by
  have:x=0:=by simpa using h
  subst this
  rw[qcg (by decide)];rfl
 |k+1,x,h=>by
  rw[Nat.pow_succ] at h
  have e:10^(k+1)+x=10*10^k+x:=by rw[Nat.pow_succ,Nat.mul_comm]
  have hp:1≤10^k:=Nat.one_le_pow _ _ (by decide)
  rw[e,qe2 (by omega),show(10*10^k+x) / 10=10^k+x / 10 by omega,show(10*10^k+x)%10=x%10 by omega,qt4 k (x / 10) (by omega)]
  rfl
theorem qni : ∀ k,qg9 k 0=List.replicate k 48
 | 0=>rfl
 |k+1=>by rw[qg9,Nat.zero_div,qni k,List.replicate_succ'];rfl
theorem qf3(x:Nat):1≤(Lib.decDigits x).length:=by rw[Lib.decDigits_length];exact Lib.nDigits_pos x
theorem pad : ∀ (k x:Nat),1≤k→x<10^k→(Lib.decDigits x).length≤k∧qg9 k x=List.replicate (k-(Lib.decDigits x).length) 48++Lib.decDigits x
 | 0,_,h,_=>by omega
 | 1,x,_,h=>by
  have hx:x<10:=by simpa using h
  rw[qcg hx]
  refine⟨by simp,?_⟩
  simp[qg9,Nat.mod_eq_of_lt hx]
 |k+2,x,_,h=>by
  by_cases hx:x<10
  ·rw[qcg hx]
   refine⟨by simp,?_⟩
   rw[qg9,show x / 10=0 by omega,qni,Nat.mod_eq_of_lt hx];rfl
  ·have h2:x<10*10^(k+1):=by rw[Nat.pow_succ] at h;omega
   obtain⟨a,b⟩:=pad (k+1) (x / 10) (by omega) (by omega)
   rw[qe2 (by omega),List.length_append,List.length_singleton]
   refine⟨by omega,?_⟩
   rw[qg9,b,show k+2-((Lib.decDigits (x / 10)).length+1)=k+1-(Lib.decDigits (x / 10)).length by omega,List.append_assoc]
def body(v k:Nat):List UInt8:=Lib.decDigits (v / 10^k)++(if k=0 then [] else 46 :: qg9 k (v%10^k))
def qsz(n:Int)(d:Int)(k:Nat):List UInt8:=(if n<0 then [45] else [])++body (n.natAbs*(10^k / d.toNat)) k
def isD(c:UInt8):Bool:=decide (48≤c.toNat∧c.toNat≤57)
def qbw(a:Nat)(l:List UInt8):Nat:=l.foldl (fun a c=>10*a+(c.toNat-48)) a
def val(l:List UInt8):Nat:=qbw 0 l
def adB(l:List UInt8):Bool:=decide (1≤l.length∧l.length≤9)&&l.all isD
def idB(w p:List UInt8)(pt:Bool):Bool:=if pt then (w.isEmpty||adB w)&&adB p else adB w
def cut:List UInt8→List UInt8×List UInt8×Bool
 | []=>([],[],false)
 |c :: r=>if c=46 then ([],r,true) else (c :: (cut r).1,(cut r).2.1,(cut r).2.2)
def qaf(neg:Bool)(l:List UInt8):R3 :=
 if idB (cut l).1 (cut l).2.1 (cut l).2.2 then fit (if neg then -(val ((cut l).1++(cut l).2.1):Int) else (val ((cut l).1++(cut l).2.1):Int)) (pw (cut l).2.1.length) else⟨0,0,1⟩
def parse(l:List UInt8):R3:=if l.head? = some 45 then qaf true (l.drop 1) else if l.head? = some 43 then qaf false (l.drop 1) else qaf false l
theorem qcj(a:Nat)(l m:List UInt8):qbw a (l++m)=qbw (qbw a l) m:=by unfold qbw;rw[List.foldl_append]
theorem qur:isD 46=false:=by decide
theorem qi4 : ∀ (a b:List UInt8),a.all isD=true→cut (a++46 :: b)=(a,b,true)
 | [],b,_=>by simp[cut]
 |c :: a,b,h=>by
  rw[List.all_cons,Bool.and_eq_true] at h
  have hc:c≠46:=fun e=>by rw[e,qur] at h;exact absurd h.1 (by decide)
  rw[List.cons_append,cut,if_neg hc,qi4 a b h.2]
theorem qlf : ∀ (a:List UInt8),a.all isD=true→cut a=(a,[],false)
 | [],_=>rfl
 |c :: a,h=>by
  rw[List.all_cons,Bool.and_eq_true] at h
  have hc:c≠46:=fun e=>by rw[e,qur] at h;exact absurd h.1 (by decide)
  rw[cut,if_neg hc,qlf a h.2]
theorem qg2(k:Nat):pw k=((10^k:Nat):Int):=by unfold pw;rw[Int.natCast_pow];rfl
def fmt(n d:Int):List UInt8 :=
 if okB n d then (match (List.range 10).find? (fun k=>pw k%d==0) with | some k=>qsz n d k | none=>Lib.itoa n++47 :: Lib.itoa d) else []
theorem qr3{d:Int}{k:Nat}(hk:k≤9)(h:pw k%d=0)(hj : ∀ j,j<k→pw j%d≠0):(List.range 10).find? (fun k=>pw k%d==0)=some k:=by
 rw[List.find?_range_eq_some]
 refine⟨by simp[h],by simp;omega,fun j hj'=>by simp[hj j hj']⟩
theorem qud{d:Int}(hj : ∀ j,j<10→pw j%d≠0):(List.range 10).find? (fun k=>pw k%d==0)=none:=by
 rw[List.find?_eq_none]
 intro j hj'
 simp at hj' ⊢
 exact hj j hj'
theorem q1o{n d:Int}(h:Ok n d){k:Nat}(hk:k≤9)(h0:pw k%d=0)(hj : ∀ j,j<k→pw j%d≠0):fmt n d=qsz n d k:=by
 unfold fmt;rw[qan.2 h,qr3 hk h0 hj];rfl
theorem qqi{n d:Int}(h:Ok n d)(hj : ∀ j,j<10→pw j%d≠0):fmt n d=Lib.itoa n++47 :: Lib.itoa d:=by
 unfold fmt;rw[qan.2 h,qud hj];rfl
end Go.Proofs.YtldkgbnmaefaaaaGreatDoor.Nu
namespace Go.Proofs.YtldkgbnmaefaaaaGreatDoor.Nu
open Go.RowKit
theorem qak{k:IntKind}{a b:Int}(h:a=b):Ending.returned (.int k a)=.returned (.int k b):=by rw[h]
theorem qaw{a b:Bool}(h:a=b):Ending.returned (.bool a)=.returned (.bool b):=by rw[h]
theorem qa4{a b:ByteArray}(h:a=b):Ending.returned (.string a)=.returned (.string b):=by rw[h]
theorem below_drewN{B:Nat}{a w:World}(h:Below B a w)(n:Nat):Below B a (w.drewN n):=⟨h.os,h.tape,h.output,h.size,h.block⟩
theorem qmm(i:Int)(w:World)(h1 : -4611686018427387904≤i)(h2:i≤4611686018427387904):Calls Tryz.prog 228 #[.int .i64 i] w fun e w'=>e=.returned (.int .i64 (i.natAbs:Int))∧w=w':=by
 go_enter Tryz.func228,Tryz.ntmps228
 go_wp2
 all_goals go_ret
 all_goals exact⟨qak (by omega),rfl⟩
theorem qf0(i:Int)(w:World)(h1 : -4611686018427387904≤i)(h2:i≤4611686018427387904):Calls Tryz.prog 96 #[.int .i64 i] w fun e w'=>e=.returned (.int .i64 (i.natAbs:Int))∧w=w':=by
 go_enter Tryz.func96,Tryz.ntmps96
 go_wp2
 all_goals go_ret
 all_goals exact⟨qak (by omega),rfl⟩
theorem qbv(i:Int)(w:World):Calls Tryz.prog 206 #[.int .i64 i] w fun e w'=>e=.returned (.bool (inB i))∧w=w':=by
 unfold inB
 by_cases h1 : -1000000000≤i
 ·go_enter Tryz.func206,Tryz.ntmps206
  go_wp2
  go_ret
  exact⟨qaw (by simp[h1]),rfl⟩
 ·go_enter Tryz.func206,Tryz.ntmps206
  go_wp2
  go_ret
  exact⟨qaw (by simp;omega),rfl⟩
theorem qqn{a b:Int}(_h:b≠0):Int.gcd b (a.tmod b)=Int.gcd a b:=by
 rw[Int.gcd_comm a b]
 unfold Int.gcd
 rw[Int.natAbs_tmod,Nat.gcd_comm b.natAbs (a.natAbs%b.natAbs),←Nat.gcd_rec]
theorem qpt(a:Int){b:Int}(h:b≠0):(a.tmod b).natAbs<b.natAbs:=by
 rw[Int.natAbs_tmod];exact Nat.mod_lt _ (by omega)
theorem qf4(a b:Int)(w:World)(h1:a.natAbs≤4611686018427387904)(h2:b.natAbs≤4611686018427387904) :
  Calls Tryz.prog 205 #[.int .i64 a,.int .i64 b] w fun e w'=>e=.returned (.int .i64 (gc a b)) ∧ ∃ n,w'=w.drewN n:=by
 go_enter Tryz.func205,Tryz.ntmps205
 go_wp2
 go_loopw [0,1] (fun x y wr => ∃ (p q:Int) (nq:Nat),x=.int .i64 p∧y=.int .i64 q∧p.natAbs≤4611686018427387904∧q.natAbs≤4611686018427387904∧Hid (Int.gcd p q=Int.gcd a b)∧Hid (wr=w.drewN nq)) (fun _ y _=>(intOf y).natAbs)
 case atStart=>exact⟨a,b,0,rfl,rfl,h1,h2,hid rfl,hid rfl⟩
 case round =>
  obtain⟨p,q,nq,rfl,rfl,h3,h4,HG,HW⟩:=hrel
  by_cases hq:q=0
  ·subst hq
   go_wp2_with fail
   refine(qmm _ _ (by omega) (by omega)).mono ?_
   rintro e w'⟨rfl,rfl⟩
   go_wp2
   go_ret
   exact⟨qak (by unfold gc;rw[←HG.out];simp),nq,HW.out⟩
  ·have hd:(q != 0)=true:=by rw[bne_iff_ne];exact hq
   have hlt:=qpt p hq
   have hs:=qqn (a:=p) hq
   have HS:=hid hs;clear hs
   go_wp2
   go_region
   go_wp2
   go_roundw
   case rel=>exact⟨q,_,nq+1,rfl,rfl,h4,by omega,hid (HS.out.trans HG.out),hid (by first | rfl | (rw[HW.out];rfl))⟩
   case measure=>simp only[intOf];exact hlt
end Go.Proofs.YtldkgbnmaefaaaaGreatDoor.Nu
namespace Go.Proofs.YtldkgbnmaefaaaaGreatDoor.Nu
open Go.RowKit
theorem qoy(a b:Int)(w:World)(h0:0≤a)(h0':0≤b)(h1:a≤4611686018427387904)(h2:b≤4611686018427387904) :
  Calls Tryz.prog 95 #[.int .i64 a,.int .i64 b] w fun e w'=>e=.returned (.int .i64 (gc a b)) ∧ ∃ n,w'=w.drewN n:=by
 go_enter Tryz.func95,Tryz.ntmps95
 go_wp2
 go_loopw [0,1] (fun x y wr => ∃ (p q:Int) (nq:Nat),x=.int .i64 p∧y=.int .i64 q∧0≤p∧0≤q∧p≤4611686018427387904∧q≤4611686018427387904∧Hid (Int.gcd p q=Int.gcd a b)∧Hid (wr=w.drewN nq)) (fun _ y _=>(intOf y).natAbs)
 case atStart=>exact⟨a,b,0,rfl,rfl,h0,h0',h1,h2,hid rfl,hid rfl⟩
 case round =>
  obtain⟨p,q,nq,rfl,rfl,h5,h6,h3,h4,HG,HW⟩:=hrel
  by_cases hq:0<q
  ·have hd:decide (0<q)=true:=by simpa using hq
   have hlt:=qpt p (show q≠0 by omega)
   have hs:=qqn (a:=p) (show q≠0 by omega)
   have hm:p.tmod q=p%q:=Int.tmod_eq_emod_of_nonneg h5
   rw[hm] at hlt hs
   have h7:=Int.emod_nonneg p (show q≠0 by omega)
   have HS:=hid hs;clear hs hm
   go_wp2
   go_region
   go_wp2
   go_roundw
   case rel=>exact⟨q,_,nq+1,rfl,rfl,h6,h7,h4,by omega,hid (HS.out.trans HG.out),hid (by first | rfl | (rw[HW.out];rfl))⟩
   case measure=>simp only[intOf];exact hlt
  ·obtain rfl:q=0:=by omega
   go_wp2
   go_ret
   exact⟨qak (by unfold gc;rw[←HG.out];simp;omega),nq,HW.out⟩
theorem qv4(k:Nat):pw (k+1)=pw k*10:=by unfold pw;exact Int.pow_succ ..
theorem qf7{k:Nat}(h:k≤9):1≤pw k∧pw k≤1000000000:=by
 rw[qg2]
 have h1:1≤(10:Nat)^k:=Nat.one_le_pow _ _ (by decide)
 have h2:(10:Nat)^k≤10^9:=Nat.pow_le_pow_right (by decide) h
 omega
theorem qcu(k:Nat)(w:World)(h:k≤9):Calls Tryz.prog 144 #[.int .i64 (k:Int)] w fun e w'=>e=.returned (.int .i64 (pw k))∧w=w':=by
 go_enter Tryz.func144,Tryz.ntmps144
 go_wp2
 go_loop [3,5] (fun x y => ∃ j:Nat,j≤k∧x=.int .i64 (pw j)∧y=.int .i64 (j:Int)) (fun _ y=>k-(intOf y).toNat)
 case atStart=>exact⟨0,by omega,rfl,rfl⟩
 case round =>
  obtain⟨j,hj,rfl,rfl⟩:=hrel
  by_cases hlt:j<k
  ·obtain⟨b1,b2⟩:=qf7 (k:=j) (by omega)
   have hd:decide (j<k)=true:=by simpa using hlt
   have HS:=hid (qv4 j)
   go_wp2
   go_round
   case rel=>exact⟨j+1,by omega,by rw[HS.out],by go_num⟩
   case measure=>simp[intOf];omega
  ·obtain rfl:j=k:=by omega
   go_wp2
   go_ret
   exact⟨rfl,rfl⟩
theorem qcf(k:Nat)(w:World)(h:k≤9):Calls Tryz.prog 49 #[.int .i64 (k:Int)] w fun e w'=>e=.returned (.int .i64 (pw k))∧w=w':=by
 go_enter Tryz.func49,Tryz.ntmps49
 go_wp2
 go_loop [3,4] (fun x y => ∃ j:Nat,j≤k∧x=.int .i64 (pw j)∧y=.int .i64 (j:Int)) (fun _ y=>k-(intOf y).toNat)
 case atStart=>exact⟨0,by omega,rfl,rfl⟩
 case round =>
  obtain⟨j,hj,rfl,rfl⟩:=hrel
  by_cases hlt:j<k
  ·obtain⟨b1,b2⟩:=qf7 (k:=j) (by omega)
   have hd:decide (j<k)=true:=by simpa using hlt
   have HS:=hid (qv4 j)
   go_wp2
   go_round
   case rel=>exact⟨j+1,by omega,by rw[HS.out],by go_num⟩
   case measure=>simp[intOf];omega
  ·obtain rfl:j=k:=by omega
   go_wp2
   go_ret
   exact⟨rfl,rfl⟩
def odd(p q:Int):Bool:=(p.tmod q != 0)&&(decide (p<0) != decide (q<0))
theorem qqg(p:Int){q:Int}(hq:q≠0):Int.fdiv p q=if odd p q then p.tdiv q-1 else p.tdiv q:=by
 have hd:q ∣ p↔p.tmod q=0:=Int.dvd_iff_tmod_eq_zero
 unfold odd
 rw[Int.fdiv_eq_tdiv]
 by_cases hz:p.tmod q=0
 ·rw[if_pos (hd.2 hz)];simp[hz]
 ·rw[if_neg (fun h=>hz (hd.1 h))]
  have hb:(p.tmod q != 0)=true:=by rw[bne_iff_ne];exact hz
  rw[hb,Bool.true_and]
  by_cases h1:p<0
  ·rw[if_neg (show ¬ 0≤p by omega),show decide (p<0)=true by simpa using h1]
   by_cases h2:q<0
   ·rw[if_neg (show ¬ 0≤q by omega),show decide (q<0)=true by simpa using h2,Int.sign_eq_neg_one_of_neg h2];simp
   ·rw[if_pos (show 0≤q by omega),show decide (q<0)=false by simpa using h2,Int.sign_eq_one_of_pos (by omega)];simp
  ·rw[if_pos (show 0≤p by omega),show decide (p<0)=false by simpa using h1]
   by_cases h2:q<0
   ·rw[if_neg (show ¬ 0≤q by omega),show decide (q<0)=true by simpa using h2];simp
   ·rw[if_pos (show 0≤q by omega),show decide (q<0)=false by simpa using h2];simp
theorem qyx(p:Int){q:Int}(hq:q≠0):Int.fmod p q=if odd p q then p.tmod q+q else p.tmod q:=by
 have h1:=Int.fmod_add_mul_fdiv p q
 have h2:=Int.tmod_add_mul_tdiv p q
 rw[qqg p hq] at h1
 have h3:q*(p.tdiv q-1)=q*p.tdiv q-q:=by rw[Int.mul_sub,Int.mul_one]
 cases ho:odd p q
 ·rw[ho] at h1
  simp only[Bool.false_eq_true,if_false] at h1 ⊢
  generalize q*p.tdiv q=z at *
  generalize p.tmod q=y at *
  generalize p.fmod q=x at *
  omega
 ·rw[ho] at h1
  simp only[if_true] at h1 ⊢
  rw[h3] at h1
  generalize q*p.tdiv q=z at *
  generalize p.tmod q=y at *
  generalize p.fmod q=x at *
  omega
theorem qmp(p q:Int){B:Nat}(h:p.natAbs≤B):(p.tdiv q).natAbs≤B:=by
 rw[Int.natAbs_tdiv];exact Nat.le_trans (Nat.div_le_self _ _) h
theorem qw7(p:Int){q:Int}(h:p.tmod q≠0):decide (p.tmod q<0)=decide (p<0):=by
 by_cases h1:p<0
 ·have h2:p.tmod q≤0:=by
   have:=Int.tmod_nonneg (a := -p) q (by omega)
   rw[Int.neg_tmod] at this
   generalize p.tmod q=x at *
   omega
  have h3:p.tmod q<0:=by
   generalize p.tmod q=x at *
   omega
  rw[decide_eq_decide]
  exact⟨fun _=>h1,fun _=>h3⟩
 ·have:=Int.tmod_nonneg (a:=p) q (by omega)
  rw[decide_eq_decide]
  refine⟨fun h3 => ?_,fun h3=>absurd h3 h1⟩
  generalize p.tmod q=x at *
  omega
structure Dv (p q:Int) (b:Bool):Prop where
 r:(p.tmod q != 0)=b
 r':0≤p→(p%q != 0)=b
theorem dv(p q:Int):Dv p q (p.tmod q != 0):=⟨rfl,fun h=>by rw[Int.tmod_eq_emod_of_nonneg h]⟩
theorem qnk(p q:Int)(w:World)(h1:p.natAbs≤4611686018427387904)(hq:q≠0) :
  Calls Tryz.prog 284 #[.int .i64 p,.int .i64 q] w fun e w'=>e=.returned (.int .i64 (Int.fdiv p q))∧w=w':=by
 have hF:=qqg p hq
 have hb:=qmp p q h1
 have e1:IntKind.i64.wrap (p.tdiv q)=p.tdiv q:=IntWalk.i64_in _ (by omega)
 have e2:IntKind.i64.wrap (p.tdiv q-1)=p.tdiv q-1:=IntWalk.i64_in _ (by omega)
 have hq0:(q==0)=false:=by simpa using hq
 have hv:=dv p q
 unfold odd at hF
 cases hz:(p.tmod q != 0)
 ·rw[hz] at hF hv
  by_cases h2:p<0
  ·have HF:=hid hF;have hr:=hv.r;clear hF hz hv
   go_enter Tryz.func284,Tryz.ntmps284
   go_wp2
   go_ret
   exact⟨qak (by rw[HF.out];simp),rfl⟩
  ·have h3:0≤p:=by omega
   have HT:=hid (Int.tdiv_eq_ediv_of_nonneg (b:=q) h3)
   have HF:=hid hF;have hr:=hv.r' h3;have hr2:=hv.r;clear hF hz hv
   go_enter Tryz.func284,Tryz.ntmps284
   go_wp2
   go_ret
   exact⟨qak (by rw[HF.out];simp[HT.out]),rfl⟩
 ·rw[hz] at hF hv
  by_cases h2:p<0
  ·have d1:decide (p<0)=true:=by simpa using h2
   by_cases h3:q<0
   ·have d2:decide (q<0)=true:=by simpa using h3
    rw[d1,d2] at hF
    have HF:=hid hF;have hr:=hv.r;clear hF hz hv
    go_enter Tryz.func284,Tryz.ntmps284
    go_wp2
    go_ret
    exact⟨qak (by rw[HF.out];simp),rfl⟩
   ·have d2:decide (q<0)=false:=by simpa using h3
    rw[d1,d2] at hF
    have HF:=hid hF;have hr:=hv.r;clear hF hz hv
    go_enter Tryz.func284,Tryz.ntmps284
    go_wp2
    go_ret
    exact⟨qak (by rw[HF.out];simp),rfl⟩
  ·have d1:decide (p<0)=false:=by simpa using h2
   have h5:0≤p:=by omega
   have HT:=hid (Int.tdiv_eq_ediv_of_nonneg (b:=q) h5)
   by_cases h3:q<0
   ·have d2:decide (q<0)=true:=by simpa using h3
    rw[d1,d2] at hF
    have HF:=hid hF;have hr:=hv.r' h5;have hr2:=hv.r;clear hF hz hv
    go_enter Tryz.func284,Tryz.ntmps284
    go_wp2
    go_ret
    exact⟨qak (by rw[HF.out];simp[HT.out]),rfl⟩
   ·have d2:decide (q<0)=false:=by simpa using h3
    rw[d1,d2] at hF
    have HF:=hid hF;have hr:=hv.r' h5;have hr2:=hv.r;clear hF hz hv
    go_enter Tryz.func284,Tryz.ntmps284
    go_wp2
    go_ret
    exact⟨qak (by rw[HF.out];simp[HT.out]),rfl⟩
theorem qna(p q:Int)(w:World)(h1:q.natAbs≤4611686018427387904)(hq:q≠0) :
  Calls Tryz.prog 210 #[.int .i64 p,.int .i64 q] w fun e w'=>e=.returned (.int .i64 (Int.fmod p q))∧w=w':=by
 have hF:=qyx p hq
 have hb:=qpt p hq
 have hq0:(q==0)=false:=by simpa using hq
 have hv:=dv p q
 unfold odd at hF
 cases hz:(p.tmod q != 0)
 ·rw[hz] at hF hv
  by_cases h2:p<0
  ·have HF:=hid hF;have hr:=hv.r;clear hF hz hv
   go_enter Tryz.func210,Tryz.ntmps210
   go_wp2
   go_ret
   exact⟨qak (by rw[HF.out];simp),rfl⟩
  ·have h3:0≤p:=by omega
   have HT:=hid (Int.tmod_eq_emod_of_nonneg (b:=q) h3)
   have HF:=hid hF;have hr:=hv.r' h3;have hr2:=hv.r;clear hF hz hv
   go_enter Tryz.func210,Tryz.ntmps210
   go_wp2
   go_ret
   exact⟨qak (by rw[HF.out];simp[HT.out]),rfl⟩
 ·have hs:=qw7 p (show p.tmod q≠0 from bne_iff_ne.1 hz)
  rw[hz] at hF hv
  by_cases h2:p<0
  ·have d1:decide (p<0)=true:=by simpa using h2
   rw[d1] at hs
   have e2:IntKind.i64.wrap (p.tmod q+q)=p.tmod q+q:=IntWalk.i64_in _ (by generalize p.tmod q=x at *;omega)
   by_cases h3:q<0
   ·have d2:decide (q<0)=true:=by simpa using h3
    rw[d1,d2] at hF
    have HF:=hid hF;have hr:=hv.r;clear hF hz hv
    go_enter Tryz.func210,Tryz.ntmps210
    go_wp2
    go_ret
    exact⟨qak (by rw[HF.out];simp),rfl⟩
   ·have d2:decide (q<0)=false:=by simpa using h3
    rw[d1,d2] at hF
    have HF:=hid hF;have hr:=hv.r;clear hF hz hv
    go_enter Tryz.func210,Tryz.ntmps210
    go_wp2
    go_ret
    exact⟨qak (by rw[HF.out];simp),rfl⟩
  ·have d1:decide (p<0)=false:=by simpa using h2
   have h5:0≤p:=by omega
   have hT:=Int.tmod_eq_emod_of_nonneg (b:=q) h5
   rw[d1,hT] at hs
   rw[hT] at hb
   have e2:IntKind.i64.wrap (p%q+q)=p%q+q:=IntWalk.i64_in _ (by generalize p%q=x at *;omega)
   have HT:=hid hT;clear hT
   by_cases h3:q<0
   ·have d2:decide (q<0)=true:=by simpa using h3
    rw[d1,d2] at hF
    have HF:=hid hF;have hr:=hv.r' h5;have hr2:=hv.r;clear hF hz hv
    go_enter Tryz.func210,Tryz.ntmps210
    go_wp2
    go_ret
    exact⟨qak (by rw[HF.out];simp[HT.out]),rfl⟩
   ·have d2:decide (q<0)=false:=by simpa using h3
    rw[d1,d2] at hF
    have HF:=hid hF;have hr:=hv.r' h5;have hr2:=hv.r;clear hF hz hv
    go_enter Tryz.func210,Tryz.ntmps210
    go_wp2
    go_ret
    exact⟨qak (by rw[HF.out];simp[HT.out]),rfl⟩
end Go.Proofs.YtldkgbnmaefaaaaGreatDoor.Nu
namespace Go.Proofs.YtldkgbnmaefaaaaGreatDoor.Nu
open Go.RowKit
theorem qov(n d:Int):(sn n d).tdiv (gc n d)=fn n d:=by unfold fn;exact Int.tdiv_eq_ediv_of_dvd (xav n d)
theorem qoq(n d:Int):(sd d).tdiv (gc n d)=fd n d:=by unfold fd;exact Int.tdiv_eq_ediv_of_dvd (xau n d)
theorem q1p(n d:Int):gc (-n) (-d)=gc n d:=by unfold gc;simp
theorem xar(n d:Int){B:Nat}(h:n.natAbs≤B):(fn n d).natAbs≤B:=by
 rw[←qov];refine qmp _ _ ?_
 unfold sn;split<;>omega
theorem xao(n d:Int){B:Nat}(h:d.natAbs≤B):(fd n d).natAbs≤B:=by
 rw[←qoq];refine qmp _ _ ?_
 unfold sd;split<;>omega
theorem que{n d:Int}(hd:d≠0):q1m n d=(inB (fn n d)&&inB (fd n d)):=by
 have:=qqf n hd
 unfold q1m inB
 rw[Bool.eq_iff_iff];simp;omega
theorem qa2{w W:World}(h:Below w.heap.size w W)(u v:Value):Below w.heap.size w ((W.setCell ⟨w.heap.size,0,none⟩ u).setCell ⟨w.heap.size,1,none⟩ v) :=
 (h.setCell (Nat.le_refl _) _).setCell (Nat.le_refl _) _
theorem qe4(n d:Int)(w:World)(h1:n.natAbs≤4000000000000000000)(h2:d.natAbs≤4000000000000000000)(hd:d≠0) :
  Calls Tryz.prog 143 #[.int .i64 n,.int .i64 d] w fun e w'=>e=.returned (.tuple #[.agg #[.int .i64 (fit n d).n,.int .i64 (fit n d).d],.int .i64 (fit n d).e])∧Below w.heap.size w w':=by
 have hg:=qnn n hd
 have hB:=que (n:=n) hd
 have ef:=qov n d;have ed:=qoq n d
 have b1:=xar n d h1;have b2:=xao n d h2
 have e1:IntKind.i64.wrap (fn n d)=fn n d:=IntWalk.i64_in _ (by omega)
 have e2:IntKind.i64.wrap (fd n d)=fd n d:=IntWalk.i64_in _ (by omega)
 have hg0:(gc n d==0)=false:=by rw[beq_eq_false_iff_ne];omega
 by_cases hs:d<0
 ·have es:sn n d = -n:=by unfold sn;rw[if_pos hs]
  have es2:sd d = -d:=by unfold sd;rw[if_pos hs]
  rw[es] at ef;rw[es2] at ed
  have ed2:(-d) / gc n d=fd n d:=by unfold fd;rw[es2]
  clear es es2
  go_enter Tryz.func143,Tryz.ntmps143
  go_wp2_with fail
  refine(qf4 (-n) (-d) _ (by omega) (by omega)).mono ?_
  rintro e w'⟨rfl,k,rfl⟩
  have EN:=q1p n d
  go_wp2
  go_region
  go_wp2_with fail
  refine(qbv _ _).mono ?_
  rintro e w'⟨rfl,rfl⟩
  cases hi1:inB (fn n d)
  ·rw[hi1] at hB
   have HF:Hid (fit n d=⟨0,0,15⟩):=hid (by unfold fit;rw[hB];rfl)
   clear hB
   go_wp2
   exact bodyPost_ret (v := .tuple #[.agg #[.int .i64 0,.int .i64 0],.int .i64 15]) (by simp[results,Tryz.results143,go_sem]) rfl ⟨by rw[HF.out],qa2 (below_drewN ((Below.refl _ _).alloc (Nat.le_refl _) _) _) _ _⟩
  ·rw[hi1] at hB
   go_wp2_with fail
   refine(qbv _ _).mono ?_
   rintro e w'⟨rfl,rfl⟩
   cases hi2:inB (fd n d)
   ·rw[hi2] at hB
    have HF:Hid (fit n d=⟨0,0,15⟩):=hid (by unfold fit;rw[hB];rfl)
    clear hB
    go_wp2
    exact bodyPost_ret (v := .tuple #[.agg #[.int .i64 0,.int .i64 0],.int .i64 15]) (by simp[results,Tryz.results143,go_sem]) rfl ⟨by rw[HF.out],qa2 (below_drewN ((Below.refl _ _).alloc (Nat.le_refl _) _) _) _ _⟩
   ·rw[hi2] at hB
    have HF:Hid (fit n d=⟨fn n d,fd n d,0⟩):=hid (by unfold fit;rw[hB];rfl)
    clear hB
    go_wp2
    exact bodyPost_ret (v := .tuple #[.agg #[.int .i64 (fn n d),.int .i64 (fd n d)],.int .i64 0]) (by simp[results,Tryz.results143,go_sem]) rfl ⟨by rw[HF.out],qa2 (below_drewN ((Below.refl _ _).alloc (Nat.le_refl _) _) _) _ _⟩
 ·have es:sn n d=n:=by unfold sn;rw[if_neg hs]
  have es2:sd d=d:=by unfold sd;rw[if_neg hs]
  rw[es] at ef;rw[es2] at ed
  have ed2:d / gc n d=fd n d:=by unfold fd;rw[es2]
  have ef2:n / gc n d=fn n d:=by unfold fn;rw[es]
  clear es es2
  go_enter Tryz.func143,Tryz.ntmps143
  go_wp2_with fail
  refine(qf4 n d _ (by omega) (by omega)).mono ?_
  rintro e w'⟨rfl,k,rfl⟩
  go_wp2
  go_region
  go_wp2_with fail
  refine(qbv _ _).mono ?_
  rintro e w'⟨rfl,rfl⟩
  cases hi1:inB (fn n d)
  ·rw[hi1] at hB
   have HF:Hid (fit n d=⟨0,0,15⟩):=hid (by unfold fit;rw[hB];rfl)
   clear hB
   go_wp2
   exact bodyPost_ret (v := .tuple #[.agg #[.int .i64 0,.int .i64 0],.int .i64 15]) (by simp[results,Tryz.results143,go_sem]) rfl ⟨by rw[HF.out],qa2 (below_drewN ((Below.refl _ _).alloc (Nat.le_refl _) _) _) _ _⟩
  ·rw[hi1] at hB
   go_wp2_with fail
   refine(qbv _ _).mono ?_
   rintro e w'⟨rfl,rfl⟩
   cases hi2:inB (fd n d)
   ·rw[hi2] at hB
    have HF:Hid (fit n d=⟨0,0,15⟩):=hid (by unfold fit;rw[hB];rfl)
    clear hB
    go_wp2
    exact bodyPost_ret (v := .tuple #[.agg #[.int .i64 0,.int .i64 0],.int .i64 15]) (by simp[results,Tryz.results143,go_sem]) rfl ⟨by rw[HF.out],qa2 (below_drewN ((Below.refl _ _).alloc (Nat.le_refl _) _) _) _ _⟩
   ·rw[hi2] at hB
    have HF:Hid (fit n d=⟨fn n d,fd n d,0⟩):=hid (by unfold fit;rw[hB];rfl)
    clear hB
    go_wp2
    exact bodyPost_ret (v := .tuple #[.agg #[.int .i64 (fn n d),.int .i64 (fd n d)],.int .i64 0]) (by simp[results,Tryz.results143,go_sem]) rfl ⟨by rw[HF.out],qa2 (below_drewN ((Below.refl _ _).alloc (Nat.le_refl _) _) _) _ _⟩
end Go.Proofs.YtldkgbnmaefaaaaGreatDoor.Nu
namespace Go.Proofs.YtldkgbnmaefaaaaGreatDoor.Nu
open Go.RowKit
theorem qqt(n d:Int):okB n d=(decide (0<d)&&(inB d&&(inB n&&(gc n d==1)))):=by
 unfold okB inB gc
 rw[Bool.eq_iff_iff];simp;omega
theorem qm8(n d:Int)(w:World) :
  Calls Tryz.prog 182 #[.agg #[.int .i64 n,.int .i64 d]] w fun e w'=>e=.returned (.bool (okB n d))∧Below w.heap.size w w':=by
 have hO:=qqt n d
 cases h1:decide (0<d)
 ·rw[h1] at hO
  have HO:=hid hO;clear hO
  go_enter Tryz.func182,Tryz.ntmps182
  go_wp2
  go_ret
  exact⟨qaw (by rw[HO.out];rfl),(Below.refl _ _).alloc (Nat.le_refl _) _⟩
 ·rw[h1] at hO
  cases h2:inB d
  ·rw[h2] at hO
   have HO:=hid hO;clear hO
   go_enter Tryz.func182,Tryz.ntmps182
   go_wp2_with fail
   refine(qbv _ _).mono ?_
   rintro e w'⟨rfl,rfl⟩
   go_wp2
   go_ret
   exact⟨qaw (by rw[HO.out];rfl),(Below.refl _ _).alloc (Nat.le_refl _) _⟩
  ·rw[h2] at hO
   cases h3:inB n
   ·rw[h3] at hO
    have HO:=hid hO;clear hO
    go_enter Tryz.func182,Tryz.ntmps182
    go_wp2_with fail
    refine(qbv _ _).mono ?_
    rintro e w'⟨rfl,rfl⟩
    go_wp2_with fail
    refine(qbv _ _).mono ?_
    rintro e w'⟨rfl,rfl⟩
    go_wp2
    go_ret
    exact⟨qaw (by rw[HO.out];rfl),(Below.refl _ _).alloc (Nat.le_refl _) _⟩
   ·rw[h3] at hO
    have hn:n.natAbs≤1000000000:=by unfold inB at h3;simp at h3;omega
    have hd:d.natAbs≤1000000000:=by unfold inB at h2;simp at h2;omega
    have HO:=hid hO;clear hO
    go_enter Tryz.func182,Tryz.ntmps182
    go_wp2_with fail
    refine(qbv _ _).mono ?_
    rintro e w'⟨rfl,rfl⟩
    go_wp2_with fail
    refine(qbv _ _).mono ?_
    rintro e w'⟨rfl,rfl⟩
    go_wp2_with fail
    refine(qf4 _ _ _ (by omega) (by omega)).mono ?_
    rintro e w'⟨rfl,k,rfl⟩
    go_wp2
    go_ret
    exact⟨qaw (by rw[HO.out];rfl),below_drewN ((Below.refl _ _).alloc (Nat.le_refl _) _) _⟩
theorem xat(n d:Int):gc (n.natAbs:Int) d=gc n d:=by unfold gc Int.gcd;rw[Int.natAbs_natCast]
theorem xc9(n:Int)(w:World)(h:n.natAbs≤1000000000):Calls Tryz.prog 96 #[.int .i64 n] w fun e w'=>e=.returned (.int .i64 (n.natAbs:Int)) ∧ ∃ k,w'=w.drewN k :=
 (qf0 n w (by omega) (by omega)).mono fun _ _ ⟨he,hw⟩=>⟨he,0,hw.symm⟩
theorem xdr(n d:Int)(w:World)(h:n.natAbs≤1000000000)(h1:1≤d)(h2:d≤1000000000):Calls Tryz.prog 95 #[.int .i64 (n.natAbs:Int),.int .i64 d] w fun e w'=>e=.returned (.int .i64 (gc n d)) ∧ ∃ k,w'=w.drewN k:=by
 have:=qoy (n.natAbs:Int) d w (by omega) (by omega) (by omega) (by omega)
 rw[xat] at this
 exact this
theorem qhw(n d:Int)(w:World) :
  Calls Tryz.prog 48 #[.agg #[.int .i64 n,.int .i64 d]] w fun e w'=>e=.returned (.bool (okB n d))∧Below w.heap.size w w':=by
 have hO:=qqt n d
 by_cases h1:1≤d
 ·by_cases h2:d≤1000000000
  ·by_cases h3 : -1000000000≤n
   ·by_cases h4:n≤1000000000
    ·have hO2:okB n d=(gc n d==1):=by
      rw[hO,show decide (0<d)=true by rw[decide_eq_true_iff];omega,show inB d=true by unfold inB;rw[decide_eq_true_iff];omega,show inB n=true by unfold inB;rw[decide_eq_true_iff];omega];rfl
     have HO:=hid hO2;clear hO hO2
     have hna:n.natAbs≤1000000000:=by omega
     go_enter Tryz.func48,Tryz.ntmps48
     go_wp2
     go_quiet ((first | (go_at_call 96;exact(Calls.quiet_of (xc9 n _ hna))) | (go_at_call 95;exact(Calls.quiet_of (xdr n d _ hna h1 h2)))))
     go_wp2
     go_ret
     exact⟨qaw (by rw[HO.out]),below_drewN ((Below.refl _ _).alloc (Nat.le_refl _) _) _⟩
    ·have hd:decide (n≤1000000000)=false:=by simpa using h4
     have HO:=hid (show okB n d=false by rw[hO,show inB n=false by unfold inB;rw[decide_eq_false_iff_not];omega];simp);clear hO
     go_enter Tryz.func48,Tryz.ntmps48
     go_wp2
     go_quiet ((fail))
     go_wp2
     go_ret
     exact⟨qaw (by rw[HO.out]),below_drewN ((Below.refl _ _).alloc (Nat.le_refl _) _) _⟩
   ·have hd:decide (-1000000000≤n)=false:=by simpa using h3
    have HO:=hid (show okB n d=false by rw[hO];unfold inB;simp;omega);clear hO
    go_enter Tryz.func48,Tryz.ntmps48
    go_wp2
    go_quiet ((fail))
    go_wp2
    go_ret
    exact⟨qaw (by rw[HO.out]),below_drewN ((Below.refl _ _).alloc (Nat.le_refl _) _) _⟩
  ·have hd:decide (d≤1000000000)=false:=by simpa using h2
   have HO:=hid (show okB n d=false by rw[hO];unfold inB;simp;omega);clear hO
   go_enter Tryz.func48,Tryz.ntmps48
   go_wp2
   go_quiet ((fail))
   go_wp2
   go_ret
   exact⟨qaw (by rw[HO.out]),below_drewN ((Below.refl _ _).alloc (Nat.le_refl _) _) _⟩
 ·have hd:decide (1≤d)=false:=by simpa using h1
  have HO:=hid (show okB n d=false by rw[hO];unfold inB;simp;omega);clear hO
  go_enter Tryz.func48,Tryz.ntmps48
  go_wp2
  go_quiet ((fail))
  go_wp2
  go_ret
  exact⟨qaw (by rw[HO.out]),below_drewN ((Below.refl _ _).alloc (Nat.le_refl _) _) _⟩
end Go.Proofs.YtldkgbnmaefaaaaGreatDoor.Nu
namespace Go.Proofs.YtldkgbnmaefaaaaGreatDoor.Nu
open Go.RowKit
theorem qad{W w1:World}(hb:Below W.heap.size W w1):(∀ b o,b<W.heap.size→w1.cell? ⟨b,o,none⟩=W.cell? ⟨b,o,none⟩)∧(∀ b o,b<W.heap.size→w1.frozen? ⟨b,o,none⟩=W.frozen? ⟨b,o,none⟩) :=
 ⟨fun b o h=>hb.cell (p:=⟨b,o,none⟩) h,fun b o h=>hb.frozen (p:=⟨b,o,none⟩) h⟩
theorem qa5{n d:Int}(h:okB n d=true)(w:World):Calls Tryz.prog 182 #[.agg #[.int .i64 n,.int .i64 d]] w fun e w'=>e=.returned (.bool true)∧Below w.heap.size w w' :=
 (qm8 n d w).mono fun _ _ ⟨he,hb⟩=>⟨by rw[he,h],hb⟩
theorem qco{n d:Int}(h:okB n d=false)(w:World):Calls Tryz.prog 182 #[.agg #[.int .i64 n,.int .i64 d]] w fun e w'=>e=.returned (.bool false)∧Below w.heap.size w w' :=
 (qm8 n d w).mono fun _ _ ⟨he,hb⟩=>⟨by rw[he,h],hb⟩
theorem qal{n d:Int}(h:okB n d=true)(w:World):Calls Tryz.prog 48 #[.agg #[.int .i64 n,.int .i64 d]] w fun e w'=>e=.returned (.bool true)∧Below w.heap.size w w' :=
 (qhw n d w).mono fun _ _ ⟨he,hb⟩=>⟨by rw[he,h],hb⟩
theorem qbe{n d:Int}(h:okB n d=false)(w:World):Calls Tryz.prog 48 #[.agg #[.int .i64 n,.int .i64 d]] w fun e w'=>e=.returned (.bool false)∧Below w.heap.size w w' :=
 (qhw n d w).mono fun _ _ ⟨he,hb⟩=>⟨by rw[he,h],hb⟩
structure Pr (a p b q:Int):Prop where
 aq:(a*q).natAbs≤1000000000000000000
 bp:(b*p).natAbs≤1000000000000000000
 pq:(p*q).natAbs≤1000000000000000000
 ab:(a*b).natAbs≤1000000000000000000
 pb:(p*b).natAbs≤1000000000000000000
 pq1:1≤p*q
theorem qf6{x y:Int}(hx:x.natAbs≤1000000000)(hy:y.natAbs≤1000000000):(x*y).natAbs≤1000000000000000000:=by
 rw[Int.natAbs_mul];exact Nat.mul_le_mul hx hy
theorem qjk{a p b q:Int}(h1:okB a p=true)(h2:okB b q=true):Pr a p b q:=by
 rw[qan] at h1 h2
 have a1:=h1.n1;have a2:=h1.n2;have a3:=h1.d1;have a4:=h1.d2
 have b1:=h2.n1;have b2:=h2.n2;have b3:=h2.d1;have b4:=h2.d2
 exact⟨qf6 (by omega) (by omega),qf6 (by omega) (by omega),qf6 (by omega) (by omega),qf6 (by omega) (by omega),qf6 (by omega) (by omega),
  by have:=Int.mul_pos (show 0<p by omega) (show 0<q by omega);omega⟩
theorem qav{w w1:World}{A B R:Obj}(hb:Below (((w.alloc A).alloc B).alloc R).heap.size (((w.alloc A).alloc B).alloc R) w1):Below w.heap.size w w1 :=
 ((((Below.refl _ w).alloc (Nat.le_refl _) A).alloc (by simp) B).alloc (by simp;omega) R).trans (hb.mono (by simp;omega))
theorem qbp{w w1:World}{A B R:Obj}(hb:Below (((w.alloc A).alloc B).alloc R).heap.size (((w.alloc A).alloc B).alloc R) w1):w.heap.size<w1.heap.size∧w.heap.size+1<w1.heap.size∧w.heap.size+1+1<w1.heap.size:=by
 have:=hb.size;simp at this;omega
theorem qdj{w w1 w2:World}(h:w.heap.size+1+1<w1.heap.size)(hb:Below w1.heap.size w1 w2):w.heap.size<w2.heap.size∧w.heap.size+1<w2.heap.size∧w.heap.size+1+1<w2.heap.size:=by
 have:=hb.size;omega
theorem qc7{w W:World}(h:Below w.heap.size w W)(u v:Value):Below w.heap.size w ((W.setCell ⟨w.heap.size+1+1,0,none⟩ u).setCell ⟨w.heap.size+1+1,1,none⟩ v) :=
 (h.setCell (show w.heap.size≤w.heap.size+1+1 by omega) _).setCell (show w.heap.size≤w.heap.size+1+1 by omega) _
end Go.Proofs.YtldkgbnmaefaaaaGreatDoor.Nu
namespace Go.Proofs.YtldkgbnmaefaaaaGreatDoor.Nu
open Go.RowKit
theorem qk0(a p b q:Int)(w:World) :
  Calls Tryz.prog 259 #[.agg #[.int .i64 a,.int .i64 p],.agg #[.int .i64 b,.int .i64 q]] w fun e w'=>e=.returned (.tuple #[.agg #[.int .i64 (add a p b q).n,.int .i64 (add a p b q).d],.int .i64 (add a p b q).e])∧Below w.heap.size w w':=by
 cases h1:okB a p
 ·have HA:Hid (add a p b q=⟨0,0,7⟩):=hid (by unfold add;rw[h1];rfl)
  have V1:=hid h1;clear h1
  go_enter Tryz.func259,Tryz.ntmps259
  go_wp2_with fail
  refine(qco V1.out _).mono ?_
  rintro e w1⟨rfl,hb⟩
  obtain⟨hc,hf⟩:=qad hb
  have HB:=hid (qav hb)
  go_wp2
  exact bodyPost_ret (v := .tuple #[.agg #[.int .i64 0,.int .i64 0],.int .i64 7]) (by simp[results,Tryz.results259,go_sem,hc]) rfl ⟨by rw[HA.out],qc7 HB.out _ _⟩
 ·cases h2:okB b q
  ·have HA:Hid (add a p b q=⟨0,0,7⟩):=hid (by unfold add;rw[h1,h2];rfl)
   have V1:=hid h1;clear h1
   have V2:=hid h2;clear h2
   go_enter Tryz.func259,Tryz.ntmps259
   go_wp2_with fail
   refine(qa5 V1.out _).mono ?_
   rintro e w1⟨rfl,hb⟩
   obtain⟨hc,hf⟩:=qad hb
   obtain⟨z0,z1,z2⟩:=qbp hb
   have HB:=hid (qav hb)
   go_wp2_with fail
   refine(qco V2.out _).mono ?_
   rintro e w2⟨rfl,hb2⟩
   obtain⟨hc2,hf2⟩:=qad hb2
   have HB2:=hid (HB.out.trans (hb2.mono HB.out.size))
   go_wp2
   exact bodyPost_ret (v := .tuple #[.agg #[.int .i64 0,.int .i64 0],.int .i64 7]) (by simp[results,Tryz.results259,go_sem,hc,hc2,z2]) rfl ⟨by rw[HA.out],qc7 HB2.out _ _⟩
  ·have hP:=qjk h1 h2
   have HA:Hid (add a p b q=fit (a*q+b*p) (p*q)):=hid (by unfold add;rw[h1,h2];rfl)
   have q1:=hP.aq;have q2:=hP.bp;have q3:=hP.pq;have q4:=hP.ab;have q5:=hP.pq1
   have V1:=hid h1;clear h1
   have V2:=hid h2;clear h2
   have e0:IntKind.i64.wrap (a*q)=a*q:=IntWalk.i64_in _ (by omega)
   have e1:IntKind.i64.wrap (b*p)=b*p:=IntWalk.i64_in _ (by omega)
   have e2:IntKind.i64.wrap (a*q+b*p)=a*q+b*p:=IntWalk.i64_in _ (by omega)
   have e3:IntKind.i64.wrap (p*q)=p*q:=IntWalk.i64_in _ (by omega)
   go_enter Tryz.func259,Tryz.ntmps259
   go_wp2_with fail
   refine(qa5 V1.out _).mono ?_
   rintro e w1⟨rfl,hb⟩
   obtain⟨hc,hf⟩:=qad hb
   obtain⟨z0,z1,z2⟩:=qbp hb
   have HB:=hid (qav hb)
   go_wp2_with fail
   refine(qa5 V2.out _).mono ?_
   rintro e w2⟨rfl,hb2⟩
   obtain⟨hc2,hf2⟩:=qad hb2
   obtain⟨y0,y1,y2⟩:=qdj z2 hb2
   have HB2:=hid (HB.out.trans (hb2.mono HB.out.size))
   go_wp2_with fail
   refine(qe4 (a*q+b*p) (p*q) _ (by omega) (by omega) (by omega)).mono ?_
   rintro e w3⟨rfl,hb3⟩
   obtain⟨hc3,hf3⟩:=qad hb3
   have HB3:=hid (HB2.out.trans (hb3.mono HB2.out.size))
   go_wp2
   exact bodyPost_ret (v := .tuple #[.agg #[.int .i64 (fit (a*q+b*p) (p*q)).n,.int .i64 (fit (a*q+b*p) (p*q)).d],.int .i64 (fit (a*q+b*p) (p*q)).e]) (by simp[results,Tryz.results259,go_sem,hc,hc2,hc3,z2,y2]) rfl ⟨by rw[HA.out],qc7 HB3.out _ _⟩
theorem qs4(a p b q:Int)(w:World) :
  Calls Tryz.prog 260 #[.agg #[.int .i64 a,.int .i64 p],.agg #[.int .i64 b,.int .i64 q]] w fun e w'=>e=.returned (.tuple #[.agg #[.int .i64 (mul a p b q).n,.int .i64 (mul a p b q).d],.int .i64 (mul a p b q).e])∧Below w.heap.size w w':=by
 cases h1:okB a p
 ·have HA:Hid (mul a p b q=⟨0,0,7⟩):=hid (by unfold mul;rw[h1];rfl)
  have V1:=hid h1;clear h1
  go_enter Tryz.func260,Tryz.ntmps260
  go_wp2_with fail
  refine(qco V1.out _).mono ?_
  rintro e w1⟨rfl,hb⟩
  obtain⟨hc,hf⟩:=qad hb
  have HB:=hid (qav hb)
  go_wp2
  exact bodyPost_ret (v := .tuple #[.agg #[.int .i64 0,.int .i64 0],.int .i64 7]) (by simp[results,Tryz.results260,go_sem,hc]) rfl ⟨by rw[HA.out],qc7 HB.out _ _⟩
 ·cases h2:okB b q
  ·have HA:Hid (mul a p b q=⟨0,0,7⟩):=hid (by unfold mul;rw[h1,h2];rfl)
   have V1:=hid h1;clear h1
   have V2:=hid h2;clear h2
   go_enter Tryz.func260,Tryz.ntmps260
   go_wp2_with fail
   refine(qa5 V1.out _).mono ?_
   rintro e w1⟨rfl,hb⟩
   obtain⟨hc,hf⟩:=qad hb
   obtain⟨z0,z1,z2⟩:=qbp hb
   have HB:=hid (qav hb)
   go_wp2_with fail
   refine(qco V2.out _).mono ?_
   rintro e w2⟨rfl,hb2⟩
   obtain⟨hc2,hf2⟩:=qad hb2
   have HB2:=hid (HB.out.trans (hb2.mono HB.out.size))
   go_wp2
   exact bodyPost_ret (v := .tuple #[.agg #[.int .i64 0,.int .i64 0],.int .i64 7]) (by simp[results,Tryz.results260,go_sem,hc,hc2,z2]) rfl ⟨by rw[HA.out],qc7 HB2.out _ _⟩
  ·have hP:=qjk h1 h2
   have HA:Hid (mul a p b q=fit (a*b) (p*q)):=hid (by unfold mul;rw[h1,h2];rfl)
   have q1:=hP.aq;have q2:=hP.bp;have q3:=hP.pq;have q4:=hP.ab;have q5:=hP.pq1
   have V1:=hid h1;clear h1
   have V2:=hid h2;clear h2
   have e0:IntKind.i64.wrap (a*b)=a*b:=IntWalk.i64_in _ (by omega)
   have e1:IntKind.i64.wrap (p*q)=p*q:=IntWalk.i64_in _ (by omega)
   go_enter Tryz.func260,Tryz.ntmps260
   go_wp2_with fail
   refine(qa5 V1.out _).mono ?_
   rintro e w1⟨rfl,hb⟩
   obtain⟨hc,hf⟩:=qad hb
   obtain⟨z0,z1,z2⟩:=qbp hb
   have HB:=hid (qav hb)
   go_wp2_with fail
   refine(qa5 V2.out _).mono ?_
   rintro e w2⟨rfl,hb2⟩
   obtain⟨hc2,hf2⟩:=qad hb2
   obtain⟨y0,y1,y2⟩:=qdj z2 hb2
   have HB2:=hid (HB.out.trans (hb2.mono HB.out.size))
   go_wp2_with fail
   refine(qe4 (a*b) (p*q) _ (by omega) (by omega) (by omega)).mono ?_
   rintro e w3⟨rfl,hb3⟩
   obtain⟨hc3,hf3⟩:=qad hb3
   have HB3:=hid (HB2.out.trans (hb3.mono HB2.out.size))
   go_wp2
   exact bodyPost_ret (v := .tuple #[.agg #[.int .i64 (fit (a*b) (p*q)).n,.int .i64 (fit (a*b) (p*q)).d],.int .i64 (fit (a*b) (p*q)).e]) (by simp[results,Tryz.results260,go_sem,hc,hc2,hc3,z2,y2]) rfl ⟨by rw[HA.out],qc7 HB3.out _ _⟩
end Go.Proofs.YtldkgbnmaefaaaaGreatDoor.Nu
