import Derived.Lib.Hide
import Derived.Lib.ItoaNum
import Derived.Test.YtldkgbnmaefaaaaGreatDoorChecked
import Derived.WalkKit
import Derived.WalkSpells
import Derived.WalkLawsBesides
import Derived.Outline
import Derived.Deep.QuietTactic
import Derived.BigQuiet
import Derived.IntWalk
import Derived.Lib.AppendIntMem
import Derived.RegionTactic
import Derived.ChangeAlike
set_option maxRecDepth 100000
set_option maxHeartbeats 4000000
open Go.Lib (hid)
namespace Go.Proofs.YtldkgbnmaefaaaaGreatDoor.Ca
def yl(y:Int):Int:=if y%4=0 then 366 else 365
def ml(y m:Int):Int:=if m=2 then (if y%4=0 then 29 else 28) else if m=4∨m=6∨m=9∨m=11 then 30 else 31
def dby(y:Int):Int:=365*(y-2000)+(y-2000+3) / 4
def cum(y m:Int):Int :=
 if m=1 then 0 else if m=2 then 31 else
  (if m=3 then 59 else if m=4 then 90 else if m=5 then 120 else if m=6 then 151 else if m=7 then 181 else if m=8 then 212 else if m=9 then 243 else if m=10 then 273 else if m=11 then 304 else if m=12 then 334 else 365)+(if y%4=0 then 1 else 0)
structure Ok (y m d:Int):Prop where
 y1:2000≤y
 y2:y≤2099
 m1:1≤m
 m2:m≤12
 d1:1≤d
 d2:d≤ml y m
def dn(y m d:Int):Int:=dby y+cum y m+d-1
theorem qcd(y:Int):365≤yl y∧yl y≤366:=by unfold yl;split<;>omega
theorem qbf(y m:Int):28≤ml y m∧ml y m≤31:=by unfold ml;repeat' split<;>omega
theorem qfn(y:Int):dby (y+1)=dby y+yl y:=by unfold dby yl;split<;>omega
theorem qeh:dby 2000=0:=by decide
theorem q4r:dby 2100=36525:=by decide
theorem qb0{a b:Int}(h:a≤b):dby a≤dby b:=by unfold dby;omega
theorem xa2{m:Int}(h1:1≤m)(h2:m≤12):m=1∨m=2∨m=3∨m=4∨m=5∨m=6∨m=7∨m=8∨m=9∨m=10∨m=11∨m=12:=by omega
theorem qhh(y:Int):cum y 1=0:=by unfold cum;simp
theorem qoj(y:Int):cum y 13=yl y:=by unfold cum yl;simp;split<;>rfl
theorem qeg(y:Int){m:Int}(h1:1≤m)(h2:m≤12):cum y (m+1)=cum y m+ml y m:=by
 rcases xa2 h1 h2 with rfl | rfl | rfl | rfl | rfl | rfl | rfl | rfl | rfl | rfl | rfl | rfl<;>simp[cum,ml]<;>split<;>omega
theorem xak(y:Int) : ∀ (k:Nat) {m:Int},1≤m→m+k≤13→cum y m≤cum y (m+k):=by
 intro k
 induction k with
 |zero=>intro m h1 h2;simp
 |succ k ih =>
  intro m h1 h2
  have:=ih h1 (by omega)
  have e:=qeg y (m:=m+k) (by omega) (by omega)
  have g:=qbf y (m+k)
  rw[show m+((k+1:Nat):Int)=m+k+1 by omega]
  omega
theorem qef(y:Int){a b:Int}(h1:1≤a)(h:a≤b)(h2:b≤13):cum y a≤cum y b:=by
 have:=xak y (b-a).toNat h1 (by omega)
 rwa [show a+((b-a).toNat:Int)=b by omega] at this
theorem qi3(y:Int){m:Int}(h1:1≤m)(h2:m≤13):0≤cum y m∧cum y m≤366:=by
 have a:=qef y (a:=1) (b:=m) (by omega) h1 h2
 have b:=qef y (a:=m) (b:=13) h1 h2 (by omega)
 have:=qcd y
 rw[qhh] at a;rw[qoj] at b;omega
theorem Ok.in_month{y m d:Int}(h:Ok y m d):cum y m+d≤cum y (m+1):=by
 have:=qeg y h.m1 h.m2;have:=h.d2;omega
theorem Ok.in_year{y m d:Int}(h:Ok y m d):0≤cum y m+d-1∧cum y m+d≤yl y:=by
 have a:=h.in_month
 have b:=qef y (a:=m+1) (b:=13) (by have:=h.m1;omega) (by have:=h.m2;omega) (by omega)
 have c:=qi3 y h.m1 (by have:=h.m2;omega)
 rw[qoj] at b
 have:=h.d1
 omega
theorem Ok.day{y m d:Int}(h:Ok y m d):dby y≤dn y m d∧dn y m d<dby (y+1):=by
 have:=h.in_year
 rw[qfn];unfold dn;omega
theorem Ok.range{y m d:Int}(h:Ok y m d):0≤dn y m d∧dn y m d<36525:=by
 have a:=h.day
 have b:=qb0 h.y1
 have c:=qb0 (a:=y+1) (b:=2100) (by have:=h.y2;omega)
 rw[qeh] at b;rw[q4r] at c;omega
def yr(D:Int):Int:=2000+4*(D / 1461)+(if D%1461<366 then 0 else (D%1461-1) / 365)
theorem xel{D:Int}(h1:0≤D)(h2:D<36525):2000≤yr D∧yr D≤2099∧dby (yr D)≤D∧D<dby (yr D+1):=by
 unfold yr dby
 split<;>omega
theorem qze(y:Int){n:Int}(h1:0≤n)(h2:n<yl y) : ∃ m,1≤m∧m≤12∧cum y m≤n∧n<cum y (m+1):=by
 have key : ∀ k:Nat,k≤12→n<cum y (1+k) → ∃ m,1≤m∧m≤12∧cum y m≤n∧n<cum y (m+1):=by
  intro k
  induction k with
  |zero=>intro _ h;rw[show(1:Int)+((0:Nat):Int)=1 by omega,qhh] at h;omega
  |succ k ih =>
   intro hk h
   by_cases hc:n<cum y (1+k)
   ·exact ih (by omega) hc
   ·exact⟨1+k,by omega,by omega,by omega,by rw[show(1:Int)+k+1=1+((k+1:Nat):Int) by omega];exact h⟩
 exact key 12 (by omega) (by rw[show(1:Int)+((12:Nat):Int)=13 by omega,qoj];exact h2)
theorem xam{D:Int}(h1:0≤D)(h2:D<36525) : ∃ y m d,Ok y m d∧dn y m d=D:=by
 obtain⟨a,b,c,e⟩:=xel h1 h2
 rw[qfn] at e
 obtain⟨m,m1,m2,p,q⟩:=qze (yr D) (n:=D-dby (yr D)) (by omega) (by omega)
 rw[qeg _ m1 m2] at q
 exact⟨yr D,m,D-dby (yr D)-cum (yr D) m+1,⟨a,b,m1,m2,by omega,by omega⟩,by unfold dn;omega⟩
theorem q0v{y z D:Int}(a:dby y≤D)(b:D<dby (y+1))(c:dby z≤D)(d:D<dby (z+1)):y=z:=by
 rcases Int.lt_trichotomy y z with h | h | h
 ·have:=qb0 (a:=y+1) (b:=z) (by omega);omega
 ·exact h
 ·have:=qb0 (a:=z+1) (b:=y) (by omega);omega
theorem qu1{y m k n:Int}(m1:1≤m)(m2:m≤12)(k1:1≤k)(k2:k≤12)(a:cum y m≤n)(b:n<cum y (m+1))(c:cum y k≤n)(d:n<cum y (k+1)):m=k:=by
 rcases Int.lt_trichotomy m k with h | h | h
 ·have:=qef y (a:=m+1) (b:=k) (by omega) (by omega) (by omega);omega
 ·exact h
 ·have:=qef y (a:=k+1) (b:=m) (by omega) (by omega) (by omega);omega
theorem Ok.one{y m d z k e:Int}(h:Ok y m d)(g:Ok z k e)(he:dn y m d=dn z k e):y=z∧m=k∧d=e:=by
 have a:=h.day;have b:=g.day
 obtain rfl:=q0v a.1 a.2 (by rw[he];exact b.1) (by rw[he];exact b.2)
 have p:=h.in_month;have q:=g.in_month
 have:=h.d1;have:=g.d1
 unfold dn at he
 obtain rfl:=qu1 (y:=y) (n:=cum y m+d-1) h.m1 h.m2 g.m1 g.m2 (by omega) (by omega) (by omega) (by omega)
 exact⟨rfl,rfl,by omega⟩
def inst(y m d c:Int):Int:=dn y m d*1440+c
theorem qo2{n:Int}(h1:0≤n)(h2:n<52596000) : ∃ y m d c,Ok y m d∧0≤c∧c<1440∧n=inst y m d c:=by
 obtain⟨y,m,d,h,e⟩:=xam (D:=n / 1440) (by omega) (by omega)
 exact⟨y,m,d,n%1440,h,by omega,by omega,by unfold inst;omega⟩
theorem qas{y m d c:Int}(h:Ok y m d)(h1:0≤c)(h2:c<1440):0≤inst y m d c∧inst y m d c<52596000∧inst y m d c / 1440=dn y m d∧inst y m d c%1440=c:=by
 have:=h.range
 unfold inst;omega
end Go.Proofs.YtldkgbnmaefaaaaGreatDoor.Ca
namespace Go.Proofs.YtldkgbnmaefaaaaGreatDoor.Ca
def qhu:List UInt8→List (UInt8×Bool)
 | []=>[]
 | [c]=>[(c,false)]
 |c :: x :: r=>if c=92 then (x,true) :: qhu r else (c,false) :: qhu (x :: r)
def qbu(m:Int):List UInt8 :=
 if m=1 then [74,97,110,117,97,114,121] else if m=2 then [70,101,98,114,117,97,114,121] else if m=3 then [77,97,114,99,104]
 else if m=4 then [65,112,114,105,108] else if m=5 then [77,97,121] else if m=6 then [74,117,110,101] else if m=7 then [74,117,108,121]
 else if m=8 then [65,117,103,117,115,116] else if m=9 then [83,101,112,116,101,109,98,101,114] else if m=10 then [79,99,116,111,98,101,114]
 else if m=11 then [78,111,118,101,109,98,101,114] else [68,101,99,101,109,98,101,114]
def qb9(w:Int):List UInt8 :=
 if w=1 then [77,111,110,100,97,121] else if w=2 then [84,117,101,115,100,97,121] else if w=3 then [87,101,100,110,101,115,100,97,121]
 else if w=4 then [84,104,117,114,115,100,97,121] else if w=5 then [70,114,105,100,97,121] else if w=6 then [83,97,116,117,114,100,97,121]
 else [83,117,110,100,97,121]
def wd(D:Int):Int:=(D+5)%7+1
def two(n:Int):List UInt8:=if n<10 then 48 :: Lib.itoa n else Lib.itoa n
def qde(b:UInt8):Bool:=decide (b=89∨b=109∨b=110∨b=70∨b=77∨b=100∨b=106∨b=122∨b=78∨b=108∨b=68∨b=72∨b=71∨b=105)
def tx(y m d c:Int)(b:UInt8):List UInt8 :=
 if b=89 then Lib.itoa y else if b=109 then two m else if b=110 then Lib.itoa m else if b=70 then qbu m else if b=77 then (qbu m).take 3
 else if b=100 then two d else if b=106 then Lib.itoa d else if b=122 then Lib.itoa (cum y m+d-1) else if b=78 then Lib.itoa (wd (dn y m d))
 else if b=108 then qb9 (wd (dn y m d)) else if b=68 then (qb9 (wd (dn y m d))).take 3 else if b=72 then two (c / 60) else if b=71 then Lib.itoa (c / 60)
 else if b=105 then two (c%60) else []
def out(y m d c:Int)(x:UInt8×Bool):List UInt8:=if x.2 || !qde x.1 then [x.1] else tx y m d c x.1
def fmt(y m d c:Int)(l:List UInt8):List UInt8:=(qhu l).flatMap (out y m d c)
def cu(b:UInt8):Int:=if b=105 then 1 else if b=72∨b=71 then 2 else if b=100∨b=106∨b=122∨b=78∨b=108∨b=68 then 3 else if b=109∨b=110∨b=70∨b=77 then 4 else 5
def xee(u:Int)(x:UInt8×Bool):Int:=if x.2 then u else min u (cu x.1)
def unit(l:List UInt8):Int:=(qhu l).foldl xee 5
def sm(u m:Int):Int:=if 5≤u then 1 else m
def sd(u d:Int):Int:=if 4≤u then 1 else d
theorem qcg{x:Nat}(h:x<10):Lib.decDigits x=[UInt8.ofNat (48+x)]:=Lib.decDigits_one h
theorem qe2{x:Nat}(h:10≤x):Lib.decDigits x=Lib.decDigits (x / 10)++[UInt8.ofNat (48+x%10)]:=by
 conv=>lhs;rw[Lib.decDigits,dif_neg (by omega)]
theorem qcs{n:Int}(h:0≤n):Lib.itoa n=Lib.decDigits n.toNat:=by unfold Lib.itoa;rw[if_neg (by omega)]
theorem qhq{n:Int}(h1:0≤n)(h2:n<10):Lib.itoa n=[UInt8.ofNat (48+n.toNat)]:=by rw[qcs h1,qcg (by omega)]
theorem qlr{n:Int}(h:10≤n):Lib.itoa n=Lib.itoa (n / 10)++[UInt8.ofNat (48+(n%10).toNat)]:=by
 rw[qcs (by omega),qe2 (by omega),qcs (by omega),show(n / 10).toNat=n.toNat / 10 by omega,show(n%10).toNat=n.toNat%10 by omega]
theorem qls{n:Int}(h1:10≤n)(h2:n<100):Lib.itoa n=[UInt8.ofNat (48+(n / 10).toNat),UInt8.ofNat (48+(n%10).toNat)]:=by
 rw[qlr h1,qhq (by omega) (by omega)];rfl
theorem qhr{n:Int}(h1:100≤n)(h2:n<1000):Lib.itoa n=[UInt8.ofNat (48+(n / 100).toNat),UInt8.ofNat (48+(n / 10%10).toNat),UInt8.ofNat (48+(n%10).toNat)]:=by
 rw[qlr (by omega),qls (by omega) (by omega),show n / 10 / 10=n / 100 by omega];rfl
theorem qut{n:Int}(h1:1000≤n)(h2:n<10000):Lib.itoa n=[UInt8.ofNat (48+(n / 1000).toNat),UInt8.ofNat (48+(n / 100%10).toNat),UInt8.ofNat (48+(n / 10%10).toNat),UInt8.ofNat (48+(n%10).toNat)]:=by
 rw[qlr (by omega),qhr (by omega) (by omega),show n / 10 / 100=n / 1000 by omega,show n / 10 / 10=n / 100 by omega];rfl
theorem q2o{n:Int}(h1:0≤n)(h2:n<100):two n=[UInt8.ofNat (48+(n / 10).toNat),UInt8.ofNat (48+(n%10).toNat)]:=by
 unfold two
 split
 ·rw[qhq h1 (by omega),show n / 10=0 by omega,show n%10=n by omega];rfl
 ·rw[qls (by omega) h2]
theorem q0m{n:Int}(h1:0≤n)(h2:n<100):(Lib.itoa (100+n)).drop 1=two n:=by
 rw[qhr (by omega) (by omega),q2o h1 h2,show(100+n) / 10%10=n / 10 by omega,show(100+n)%10=n%10 by omega];rfl
def dvf(a:Int)(l:List UInt8):Int:=l.foldl (fun a c=>10*a+((c.toNat:Int)-48)) a
def dv(l:List UInt8):Int:=dvf 0 l
def isD(c:UInt8):Bool:=decide (48≤c.toNat∧c.toNat≤57)
def qin:List UInt8:=[48,48,48,48,45,48,48,45,48,48,32,48,48,58,48,48]
def fits(a b:UInt8):Bool:=if a=48 then isD b else decide (b=a)
def allFit:List UInt8→List UInt8→Bool
 |a :: l,b :: r=>fits a b&&allFit l r
 | _,_=>true
def form(l:List UInt8):Bool:=(l.length==10||l.length==16)&&allFit qin l
def okB(y m d:Int):Bool:=decide (2000≤y∧y≤2099∧1≤m∧m≤12∧1≤d∧d≤ml y m)
theorem qan{y m d:Int}:okB y m d=true↔Ok y m d:=by
 unfold okB;rw[decide_eq_true_iff]
 exact⟨fun⟨a,b,c,d,e,f⟩=>⟨a,b,c,d,e,f⟩,fun⟨a,b,c,d,e,f⟩=>⟨a,b,c,d,e,f⟩⟩
structure R2 where
 n:Int
 e:Int
def qlt(y m d c:Int):R2:=if okB y m d=true∧0≤c∧c<1440 then⟨inst y m d c,0⟩ else⟨0,2⟩
def hh(l:List UInt8):Int:=dv ((l.drop 11).take 2)
def mm(l:List UInt8):Int:=dv ((l.drop 14).take 2)
def parse(l:List UInt8):R2 :=
 if form l=true then (if 23<hh l∨59<mm l then⟨0,2⟩ else qlt (dv (l.take 4)) (dv ((l.drop 5).take 2)) (dv ((l.drop 8).take 2)) (hh l*60+mm l)) else⟨0,1⟩
theorem qjc{y m d c:Int}(h:Ok y m d)(h1:0≤c)(h2:c<1440):qlt y m d c=⟨inst y m d c,0⟩:=by unfold qlt;rw[if_pos ⟨qan.2 h,h1,h2⟩]
def hi(c:Int):List UInt8:=two (c / 60)++58 :: two (c%60)
end Go.Proofs.YtldkgbnmaefaaaaGreatDoor.Ca
namespace Go.Proofs.YtldkgbnmaefaaaaGreatDoor.Ca
open Go.RowKit
theorem qak{k:IntKind}{a b:Int}(h:a=b):Ending.returned (.int k a)=.returned (.int k b):=by rw[h]
theorem qaw{a b:Bool}(h:a=b):Ending.returned (.bool a)=.returned (.bool b):=by rw[h]
theorem qa4{a b:ByteArray}(h:a=b):Ending.returned (.string a)=.returned (.string b):=by rw[h]
theorem below_drewN{B:Nat}{a w:World}(h:Below B a w)(n:Nat):Below B a (w.drewN n):=⟨h.os,h.tape,h.output,h.size,h.block⟩
theorem qad{W w1:World}(hb:Below W.heap.size W w1):(∀ b o,b<W.heap.size→w1.cell? ⟨b,o,none⟩=W.cell? ⟨b,o,none⟩)∧(∀ b o,b<W.heap.size→w1.frozen? ⟨b,o,none⟩=W.frozen? ⟨b,o,none⟩) :=
 ⟨fun b o h=>hb.cell (p:=⟨b,o,none⟩) h,fun b o h=>hb.frozen (p:=⟨b,o,none⟩) h⟩
theorem qb5{W:World}{p:Addr}{v:Value}(h:W.cell? p=some v):p.block<W.heap.size:=by
 rcases Nat.lt_or_ge p.block W.heap.size with h1 | h1
 ·exact h1
 ·unfold World.cell? at h
  rw[Array.getElem?_eq_none h1] at h
  simp at h
structure Tb (w:World):Prop where
 tab:Lib.TabIs Tryz.prog w "internal/strconv.uint64pow10" .u64 Lib.pow10Tab
 md : ∀ i:Nat,i<12→w.cell? ⟨2,i,none⟩=some (.int .i64 (ml 2001 (i+1)))
 mn : ∀ i:Nat,i<12→w.cell? ⟨0,i,none⟩=some (.string ⟨(qbu (i+1)).toArray⟩)
 wn : ∀ i:Nat,i<7→w.cell? ⟨1,i,none⟩=some (.string ⟨(qb9 (i+1)).toArray⟩)
theorem Tb.below{w w':World}(h:Tb w)(hb:Below w.heap.size w w'):Tb w' :=
 ⟨Lib.tabBelow_of_tabIs h.tab w' hb,fun i hi=>(hb.cell (p:=⟨_,i,none⟩) (qb5 (h.md i hi))).trans (h.md i hi),fun i hi=>(hb.cell (p:=⟨_,i,none⟩) (qb5 (h.mn i hi))).trans (h.mn i hi),fun i hi=>(hb.cell (p:=⟨_,i,none⟩) (qb5 (h.wn i hi))).trans (h.wn i hi)⟩
theorem qqs(y:Int)(w:World)(h:0≤y):Calls Tryz.prog 267 #[.int .i64 y] w fun e w'=>e=.returned (.bool (decide (y%4=0)))∧w=w':=by
 go_enter Tryz.func267,Tryz.ntmps267
 go_wp2
 go_ret
 exact⟨qaw rfl,rfl⟩
theorem qdd(y:Int)(w:World)(h:0≤y):Calls Tryz.prog 230 #[.int .i64 y] w fun e w'=>e=.returned (.int .i64 (yl y))∧w=w':=by
 by_cases hy:y%4=0
 all_goals
  have e:yl y=if y%4=0 then 366 else 365:=rfl
  simp only[hy,if_true,if_false] at e
  have H:=hid e
  clear e
  have HC:=hid (fun w=>qqs y w h)
  simp only[hy,decide_true,decide_false] at HC
  clear hy
  go_enter Tryz.func230,Tryz.ntmps230
  go_wp2_with fail
  refine(HC.out _).mono ?_
  rintro e w'⟨rfl,rfl⟩
  go_wp2
  go_ret
  exact⟨qak H.out.symm,rfl⟩
theorem qlu{y m:Int}(h : ¬ (m=2∧y%4=0)):ml y m=ml 2001 m:=by
 unfold ml
 by_cases h2:m=2
 ·have : ¬ y%4=0:=fun e=>h ⟨h2,e⟩
  simp[h2,this]
 ·simp[h2]
theorem qbg(y m:Int)(w:World)(h:0≤y)(h1:1≤m)(h2:m≤12)(ht:Tb w):Calls Tryz.prog 231 #[.int .i64 y,.int .i64 m] w fun e w'=>e=.returned (.int .i64 (ml y m))∧w=w':=by
 obtain⟨k,hk,rfl⟩ : ∃ k:Nat,k<12∧m=(k:Int)+1:=⟨(m-1).toNat,by omega,by omega⟩
 have hc:=ht.md k hk
 have HC:=hid (fun w=>qqs y w h)
 by_cases hf:k=1
 ·subst hf
  by_cases hy:y%4=0
  ·have e:ml y ((1:Nat)+1)=29:=by unfold ml;simp[hy]
   have H:=hid e
   simp only[hy,decide_true] at HC
   clear e hy hc ht
   go_enter Tryz.func231,Tryz.ntmps231
   go_wp2_with fail
   refine(HC.out _).mono ?_
   rintro e w'⟨rfl,rfl⟩
   go_wp2
   go_ret
   exact⟨qak H.out.symm,rfl⟩
  ·have e:ml y ((1:Nat)+1)=ml 2001 ((1:Nat)+1):=qlu (fun h=>hy h.2)
   have H:=hid e
   simp only[hy,decide_false] at HC
   clear e hy ht
   go_enter Tryz.func231,Tryz.ntmps231
   go_wp2_with fail
   refine(HC.out _).mono ?_
   rintro e w'⟨rfl,rfl⟩
   go_wp2
   go_ret
   exact⟨qak H.out.symm,rfl⟩
 ·have e:ml y (k+1)=ml 2001 (k+1):=qlu (fun h=>hf (by omega))
  have H:=hid e
  have hd:decide ((k:Int)+1=2)=false:=by rw[decide_eq_false_iff_not];omega
  have hd2:decide ((k:Int)=1)=false:=by rw[decide_eq_false_iff_not];omega
  have hk':(k:Int)<12:=by omega
  clear e ht
  go_enter Tryz.func231,Tryz.ntmps231
  go_wp2_with fail
  go_ret
  exact⟨qak H.out.symm,rfl⟩
theorem qgs(n:Int)(w:World):Calls Tryz.prog 188 #[.int .i64 n] w fun e w'=>e=.returned (.bool (decide (0≤n∧n<52596000)))∧w=w':=by
 by_cases h1:0≤n
 ·go_enter Tryz.func188,Tryz.ntmps188
  go_wp2
  go_ret
  exact⟨qaw (by simp[h1]),rfl⟩
 ·go_enter Tryz.func188,Tryz.ntmps188
  go_wp2
  go_ret
  exact⟨qaw (by simp;omega),rfl⟩
theorem qi8(n:Int)(w:World):Calls Tryz.prog 53 #[.int .i64 n] w fun e w'=>e=.returned (.bool (decide (0≤n∧n<52596000)))∧w=w':=by
 by_cases h1:0≤n
 ·go_enter Tryz.func53,Tryz.ntmps53
  go_wp2
  go_ret
  exact⟨qaw (by simp[h1]),rfl⟩
 ·go_enter Tryz.func53,Tryz.ntmps53
  go_wp2
  go_ret
  exact⟨qaw (by simp;omega),rfl⟩
theorem qkj(n:Int)(w:World):Calls Tryz.prog 189 #[.int .i64 n] w fun e w'=>e=.returned (.bool (decide (1≤n∧n≤5)))∧w=w':=by
 by_cases h1:1≤n
 ·go_enter Tryz.func189,Tryz.ntmps189
  go_wp2
  go_ret
  exact⟨qaw (by simp[h1]),rfl⟩
 ·go_enter Tryz.func189,Tryz.ntmps189
  go_wp2
  go_ret
  exact⟨qaw (by simp;omega),rfl⟩
end Go.Proofs.YtldkgbnmaefaaaaGreatDoor.Ca
namespace Go.Proofs.YtldkgbnmaefaaaaGreatDoor.Ca
open Go.RowKit
theorem qap{w w1:World}{A:Obj}(hb:Below (w.alloc A).heap.size (w.alloc A) w1):Below w.heap.size w w1 :=
 ((Below.refl _ w).alloc (Nat.le_refl _) A).trans (hb.mono (by simp))
theorem qlv(y m:Int)(w:World)(h:0≤y)(h1:1≤m)(h2:m≤12)(ht:Tb w):Calls Tryz.prog 231 #[.int .i64 y,.int .i64 m] w fun e w'=>e=.returned (.int .i64 (ml y m)) ∧ ∃ k,w'=w.drewN k :=
 (qbg y m w h h1 h2 ht).mono fun _ _ ⟨he,hw⟩=>⟨he,0,hw.symm⟩
theorem qqt(y m d:Int):okB y m d=(decide (2000≤y)&&(decide (y≤2099)&&(decide (1≤m)&&(decide (m≤12)&&(decide (1≤d)&&decide (d≤ml y m)))))):=by
 unfold okB;rw[Bool.eq_iff_iff];simp
theorem qhn(y m d:Int)(w:World)(ht:Tb w) :
  Calls Tryz.prog 229 #[.agg #[.int .i64 y,.int .i64 m,.int .i64 d]] w fun e w'=>e=.returned (.bool (okB y m d))∧Below w.heap.size w w':=by
 have hO:=qqt y m d
 have hA : ∀ n,Tb ((w.alloc (.cells #[.int .i64 y,.int .i64 m,.int .i64 d] 95)).drewN n):=fun n=>ht.below (below_drewN ((Below.refl _ w).alloc (Nat.le_refl _) _) n)
 have HT:=hid hA
 clear hA
 cases h1:decide (2000≤y)
 ·rw[h1] at hO
  have HO:=hid hO;clear hO
  go_enter Tryz.func229,Tryz.ntmps229
  go_wp2
  go_quiet (fail)
  go_wp2
  go_ret
  exact⟨qaw (by rw[HO.out];rfl),below_drewN ((Below.refl _ _).alloc (Nat.le_refl _) _) _⟩
 ·cases h2:decide (y≤2099)
  ·rw[h1,h2] at hO
   have HO:=hid hO;clear hO
   go_enter Tryz.func229,Tryz.ntmps229
   go_wp2
   go_quiet (fail)
   go_wp2
   go_ret
   exact⟨qaw (by rw[HO.out];rfl),below_drewN ((Below.refl _ _).alloc (Nat.le_refl _) _) _⟩
  ·cases h3:decide (1≤m)
   ·rw[h1,h2,h3] at hO
    have HO:=hid hO;clear hO
    go_enter Tryz.func229,Tryz.ntmps229
    go_wp2
    go_quiet (fail)
    go_wp2
    go_ret
    exact⟨qaw (by rw[HO.out];rfl),below_drewN ((Below.refl _ _).alloc (Nat.le_refl _) _) _⟩
   ·cases h4:decide (m≤12)
    ·rw[h1,h2,h3,h4] at hO
     have HO:=hid hO;clear hO
     go_enter Tryz.func229,Tryz.ntmps229
     go_wp2
     go_quiet (fail)
     go_wp2
     go_ret
     exact⟨qaw (by rw[HO.out];rfl),below_drewN ((Below.refl _ _).alloc (Nat.le_refl _) _) _⟩
    ·cases h5:decide (1≤d)
     ·rw[h1,h2,h3,h4,h5] at hO
      have HO:=hid hO;clear hO
      go_enter Tryz.func229,Tryz.ntmps229
      go_wp2
      go_quiet (fail)
      go_wp2
      go_ret
      exact⟨qaw (by rw[HO.out];rfl),below_drewN ((Below.refl _ _).alloc (Nat.le_refl _) _) _⟩
     ·rw[h1,h2,h3,h4,h5] at hO
      have HO:=hid hO;clear hO
      have g1:2000≤y:=of_decide_eq_true h1
      have g3:1≤m:=of_decide_eq_true h3
      have g4:m≤12:=of_decide_eq_true h4
      go_enter Tryz.func229,Tryz.ntmps229
      go_wp2
      go_quiet ((go_at_call 231;exact(Calls.quiet_of (qlv y m _ (by omega) g3 g4 (HT.out _)))))
      go_wp2
      go_ret
      exact⟨qaw (by rw[HO.out];rfl),below_drewN ((Below.refl _ _).alloc (Nat.le_refl _) _) _⟩
theorem qds{y m d c:Int}(h : ¬ (okB y m d=true∧0≤c∧c<1440)):qlt y m d c=⟨0,2⟩:=by unfold qlt;rw[if_neg h]
theorem qfj(y m d c:Int)(w:World)(ht:Tb w) :
  Calls Tryz.prog 187 #[.agg #[.int .i64 y,.int .i64 m,.int .i64 d],.int .i64 c] w fun e w'=>e=.returned (.tuple #[.int .i64 (qlt y m d c).n,.int .i64 (qlt y m d c).e])∧Below w.heap.size w w':=by
 have HT:Hid (∀ w',Below w.heap.size w w'→Tb w'):=hid (fun w' hb=>ht.below hb)
 have HA:=hid (ht.below ((Below.refl _ w).alloc (Nat.le_refl _) (.cells #[.int .i64 y,.int .i64 m,.int .i64 d] 95)))
 cases h1:okB y m d
 ·have HN:=hid (qds (c:=c) (fun h=>by rw[h1] at h;cases h.1))
  have HC:=hid (fun w ht=>qhn y m d w ht)
  rw[h1] at HC
  clear h1
  go_enter Tryz.func187,Tryz.ntmps187
  go_wp2_with fail
  refine(HC.out _ HA.out).mono ?_
  rintro e w1⟨rfl,hb⟩
  go_wp2
  go_ret2
  exact⟨by rw[HN.out];rfl,qap hb⟩
 ·by_cases h2:0≤c∧c<1440
  ·obtain⟨c1,c2⟩:=h2
   have hk:=qan.1 h1
   have HR:=hid (qjc hk c1 c2)
   have hr:=hk.range
   have hY:=hk.y1
   have hY2:=hk.y2
   have hM:=hk.m1
   have hM2:=hk.m2
   have hd:=hk.d1
   have hd2:=hk.d2
   have hml:=qbf y m
   have HC:=hid (fun w ht=>qhn y m d w ht)
   rw[h1] at HC
   have HK:=hid hk
   have hD:inst y m d c=(d-1+dby y+cum y m)*1440+c:=by unfold inst dn;rw[show dby y+cum y m+d-1=d-1+dby y+cum y m by omega]
   have HD:=hid hD
   unfold dn at hr
   clear h1 hk hD
   go_enter Tryz.func187,Tryz.ntmps187
   go_wp2_with fail
   refine(HC.out _ HA.out).mono ?_
   rintro e w1⟨rfl,hb⟩
   obtain⟨hc,hf⟩:=qad hb
   have hz:w.heap.size<w1.heap.size:=by have:=hb.size;simp at this;omega
   have HB:=hid (qap hb)
   have HT1:=hid (HT.out _ HB.out)
   clear hb
   go_wp2
   go_loop [6,7] (fun a b => ∃ k:Int,2000≤k∧k≤y∧a=.int .i64 (d-1+dby k)∧b=.int .i64 k) (fun _ b=>(y-intOf b).toNat)
   case atStart=>exact⟨2000,by omega,by omega,by rw[qeh];go_num,rfl⟩
   case round =>
    obtain⟨k,k1,k2,rfl,rfl⟩:=hrel
    have b1:=qb0 k1
    have b2:=qb0 k2
    rw[qeh] at b1
    have b3:=qi3 y hM (by omega)
    have b4:=qcd k
    have HS:=hid (qfn k)
    by_cases hlt:k<y
    ·go_wp2_with fail
     refine(qdd k _ (by omega)).mono ?_
     rintro e w'⟨rfl,rfl⟩
     go_wp2
     go_round
     case rel=>exact⟨k+1,by omega,by omega,by rw[HS.out];go_num,rfl⟩
     case measure=>simp[intOf];omega
    ·obtain rfl:k=y:=by omega
     go_wp2
     go_loop [6,8] (fun a b => ∃ j:Int,1≤j∧j≤m∧a=.int .i64 (d-1+dby k+cum k j)∧b=.int .i64 j) (fun _ b=>(m-intOf b).toNat)
     case atStart=>exact⟨1,by omega,by omega,by rw[qhh];go_num,rfl⟩
     case round =>
      obtain⟨j,j1,j2,rfl,rfl⟩:=hrel
      have b5:=qi3 k j1 (by omega)
      have b6:=qbf k j
      have HU:=hid (qeg k j1 (by omega))
      by_cases hlt:j<m
      ·go_wp2_with fail
       refine(qbg k j _ (by omega) (by omega) (by omega) HT1.out).mono ?_
       rintro e w'⟨rfl,rfl⟩
       go_wp2
       go_round
       case rel=>exact⟨j+1,by omega,by omega,by rw[HU.out];go_num,rfl⟩
       case measure=>simp[intOf];omega
      ·obtain rfl:j=m:=by omega
       go_wp2
       go_ret2
       exact⟨by rw[HR.out,HD.out];rfl,HB.out⟩
  ·have HN:=hid (qds (y:=y) (m:=m) (d:=d) (c:=c) (fun h=>h2 h.2))
   have HC:=hid (fun w ht=>qhn y m d w ht)
   rw[h1] at HC
   clear h1
   by_cases h3:c<0
   ·clear h2
    go_enter Tryz.func187,Tryz.ntmps187
    go_wp2_with fail
    refine(HC.out _ HA.out).mono ?_
    rintro e w1⟨rfl,hb⟩
    go_wp2
    go_ret2
    exact⟨by rw[HN.out];rfl,qap hb⟩
   ·have h4:1440≤c:=by omega
    clear h2
    go_enter Tryz.func187,Tryz.ntmps187
    go_wp2_with fail
    refine(HC.out _ HA.out).mono ?_
    rintro e w1⟨rfl,hb⟩
    go_wp2
    go_ret2
    exact⟨by rw[HN.out];rfl,qap hb⟩
end Go.Proofs.YtldkgbnmaefaaaaGreatDoor.Ca
namespace Go.Proofs.YtldkgbnmaefaaaaGreatDoor.Ca
open Go.RowKit
def mom(y m d c:Int):Value := .agg #[.int .i64 y,.int .i64 m,.int .i64 d,.int .i64 (cum y m+d-1),.int .i64 (wd (dn y m d)),.int .i64 c]
theorem qh1{y m d c:Int}(hk:Ok y m d)(c1:0≤c)(c2:c<1440)(w:World)(ht:Tb w) :
  Calls Tryz.prog 191 #[.int .i64 (inst y m d c)] w fun e w'=>e=.returned (mom y m d c)∧Below w.heap.size w w':=by
 have HT:Hid (∀ w',Below w.heap.size w w'→Tb w'):=hid (fun w' hb=>ht.below hb)
 obtain⟨i1,i2,i3,i4⟩:=qas hk c1 c2
 have HK:=hid hk
 have hr:=hk.range
 have hY:=hk.y1
 have hY2:=hk.y2
 have hM:=hk.m1
 have hM2:=hk.m2
 have hd:=hk.d1
 have hday:=hk.day
 have hyr:=hk.in_year
 have hmo:=hk.in_month
 obtain⟨q1,q2⟩:=hday
 obtain⟨n,hn⟩ : ∃ n,inst y m d c=n:=⟨_,rfl⟩
 obtain⟨D,hD⟩ : ∃ D,dn y m d=D:=⟨_,rfl⟩
 rw[hn] at i1 i2 i3 i4
 rw[hD] at hr q1 q2 i3
 have e1:cum y m+d-1=D-dby y:=by rw[←hD];unfold dn;omega
 have HM:Hid (mom y m d c=.agg #[.int .i64 y,.int .i64 m,.int .i64 (D-dby y-cum y m+1),.int .i64 (D-dby y),.int .i64 ((D+5)%7+1),.int .i64 c]):=hid (by
  unfold mom wd;rw[hD,e1,show D-dby y-cum y m+1=d by omega])
 have p1:cum y m≤D-dby y:=by omega
 have p2:D-dby y<cum y (m+1):=by omega
 have b0:dby 2000=0:=qeh
 have I3:=hid i3
 have I4:=hid i4
 rw[hn]
 have HD:=hid hD
 have HE:=hid e1
 have HB0:=hid b0
 clear hn hD e1 i3 i4 b0 hk
 have i5:n / 1440=D:=I3.out
 have i6:n%1440=c:=I4.out
 go_enter Tryz.func191,Tryz.ntmps191
 go_wp2
 clear i5 i6
 go_loop [3,5] (fun a b => ∃ k:Int,2000≤k∧k≤y∧a=.int .i64 (D-dby k)∧b=.int .i64 k) (fun _ b=>(y-intOf b).toNat)
 case atStart=>exact⟨2000,by omega,by omega,by rw[HB0.out,I3.out];go_num,rfl⟩
 case round =>
  obtain⟨k,k1,k2,rfl,rfl⟩:=hrel
  have b1:=qb0 k1
  have b2:=qb0 k2
  have b0:=HB0.out
  rw[b0] at b1
  clear b0
  have b4:=qcd k
  have HS:=hid (qfn k)
  by_cases hlt:k<y
  ·have b5:=qb0 (a:=k+1) (b:=y) (by omega)
   rw[HS.out] at b5
   have g1:yl k≤D-dby k:=by omega
   go_wp2_with fail
   refine(qdd k _ (by omega)).mono ?_
   rintro e w'⟨rfl,rfl⟩
   go_wp2_with fail
   refine(qdd k _ (by omega)).mono ?_
   rintro e w'⟨rfl,rfl⟩
   go_wp2
   go_round
   case rel=>exact⟨k+1,by omega,by omega,by rw[HS.out];go_num,rfl⟩
   case measure=>simp[intOf];omega
  ·obtain rfl:k=y:=by omega
   rw[HS.out] at q2
   have g1:D-dby k<yl k:=by omega
   go_wp2_with fail
   refine(qdd k _ (by omega)).mono ?_
   rintro e w'⟨rfl,rfl⟩
   go_wp2
   have HT2:=hid (HT.out _ (((Below.refl _ w).alloc (Nat.le_refl _) (.cells #[.int .i64 0,.int .i64 0,.int .i64 0,.int .i64 0,.int .i64 0,.int .i64 0] 191)).alloc (by simp) (.cells #[.int .i64 0,.int .i64 0,.int .i64 0,.int .i64 (D-dby k),.int .i64 ((D+5)%7+1),.int .i64 c] 191)))
   go_loop [3,6] (fun a b => ∃ j:Int,1≤j∧j≤m∧a=.int .i64 (D-dby k-cum k j)∧b=.int .i64 j) (fun _ b=>(m-intOf b).toNat)
   case atStart=>exact⟨1,by omega,by omega,by rw[qhh];go_num,rfl⟩
   case round =>
    obtain⟨j,j1,j2,rfl,rfl⟩:=hrel
    have b5:=qi3 k j1 (by omega)
    have b6:=qbf k j
    have HU:=hid (qeg k j1 (by omega))
    by_cases hlt:j<m
    ·have b7:=qef k (a:=j+1) (b:=m) (by omega) (by omega) (by omega)
     rw[HU.out] at b7
     have g2:ml k j≤D-dby k-cum k j:=by omega
     go_wp2_with fail
     refine(qbg k j _ (by omega) (by omega) (by omega) HT2.out).mono ?_
     rintro e w'⟨rfl,rfl⟩
     go_wp2_with fail
     refine(qbg k j _ (by omega) (by omega) (by omega) HT2.out).mono ?_
     rintro e w'⟨rfl,rfl⟩
     go_wp2
     go_round
     case rel=>exact⟨j+1,by omega,by omega,by rw[HU.out];go_num,rfl⟩
     case measure=>simp[intOf];omega
    ·obtain rfl:j=m:=by omega
     rw[HU.out] at p2
     have g2:D-dby k-cum k j<ml k j:=by omega
     go_wp2_with fail
     refine(qbg k j _ (by omega) (by omega) (by omega) HT2.out).mono ?_
     rintro e w'⟨rfl,rfl⟩
     go_wp2
     refine bodyPost_ret (v := .agg #[.int .i64 k,.int .i64 j,.int .i64 (D-dby k-cum k j+1),.int .i64 (D-dby k),.int .i64 ((D+5)%7+1),.int .i64 c]) (by simp[results,Tryz.results191,go_sem]) rfl ⟨by rw[HM.out],?_⟩
     exact((Below.refl _ w).alloc (Nat.le_refl _) _).alloc (by simp) _
theorem qnp{n:Int}(h:0≤n∧n<52596000)(w:World):Calls Tryz.prog 188 #[.int .i64 n] w fun e w'=>e=.returned (.bool true)∧w=w':=by
 have:=qgs n w
 rwa [decide_eq_true h] at this
end Go.Proofs.YtldkgbnmaefaaaaGreatDoor.Ca
