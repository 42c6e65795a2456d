import Derived.Test.YtldkgbnmaefaaaaGreatDoorNuG1
import Derived.Lib.SlTrimSet
import Derived.Test.YtldkgbnmaefaaaaGreatDoorNuG2
import Derived.Deep.RegionWith
set_option maxRecDepth 100000
set_option maxHeartbeats 4000000
namespace Go.Proofs.YtldkgbnmaefaaaaGreatDoor.Fo
open Go.Proofs.YtldkgbnmaefaaaaGreatDoor.Nu
abbrev Tok:=List UInt8
def isL(c:UInt8):Bool:=decide (97≤c.toNat∧c.toNat≤122)
def bls:List UInt8:=[9,10,32]
def trimB(l:List UInt8):List UInt8:=Lib.trimLeftS l bls
def qds(l:List UInt8):Nat :=
 let w:=(l.takeWhile isD).length
 let p:=if (l.drop w).head? = some 46 then ((l.drop (w+1)).takeWhile isD).length else 0
 if 9<w∨9<p then 0 else if p=0 then w else w+1+p
def qe5:List Tok:=[[109,111,100],[97,110,100],[111,114],[110,111,116],[114,111,117,110,100],[102,108,111,111,114]]
def qd0(l:List UInt8):Nat:=let n:=(l.takeWhile isL).length;if l.take n∈qe5 then n else 0
def qqf:List Tok:=[[60,61],[62,61],[60,62]]
def ones:List UInt8:=[43,45,42,47,94,40,41,61,60,62]
def qdz(l:List UInt8):Nat:=if l.take 2∈qqf then 2 else match l with
 | []=>0
 |c :: _=>if c∈ones then 1 else 0
def qaq:List UInt8→Nat
 | []=>0
 |c :: l=>if isD c then qds (c :: l) else if isL c then qd0 (c :: l) else qdz (c :: l)
def qon:Nat→List UInt8→Option (List Tok)
 | 0,_=>none
 |n+1,l=>if l=[] then some [] else if qaq l=0 then none else (qon n (trimB (l.drop (qaq l)))).map (l.take (qaq l) :: ·)
def toks(l:List UInt8):Option (List Tok):=qon (l.length+1) l
def qcs(l:List UInt8):Option (List Tok):=toks (trimB l)
theorem qei(l:List UInt8):(trimB l).length≤l.length:=by
 unfold trimB Lib.trimLeftS;exact(List.dropWhile_sublist _).length_le
theorem qp8 : ∀ (n m:Nat) (l:List UInt8),l.length<n→l.length<m→qon n l=qon m l
 | 0,_,_,h,_=>absurd h (Nat.not_lt_zero _)
 | _+1,0,_,_,h=>absurd h (Nat.not_lt_zero _)
 |n+1,m+1,l,h1,h2=>by
  unfold qon
  split
  ·rfl
  ·rename_i h0
   split
   ·rfl
   ·rename_i ht
    have hl:0<l.length:=(List.length_pos_iff.2 h0)
    have:=qei (l.drop (qaq l))
    rw[List.length_drop] at this
    rw[qp8 n m _ (by omega) (by omega)]
theorem qqa:toks []=some []:=rfl
theorem qi1{l:List UInt8}(h:l≠[])(h2:qaq l=0):toks l=none:=by
 unfold toks qon;rw[if_neg h,if_pos h2]
theorem qi0{l:List UInt8}(h:l≠[])(h2:qaq l≠0):toks l=(toks (trimB (l.drop (qaq l)))).map (l.take (qaq l) :: ·):=by
 unfold toks
 rw[qon,if_neg h,if_neg h2]
 have hl:0<l.length:=(List.length_pos_iff.2 h)
 have:=qei (l.drop (qaq l))
 rw[List.length_drop] at this
 rw[qp8 l.length _ _ (by omega) (Nat.lt_succ_self _)]
theorem qbl(p:UInt8→Bool)(l:List UInt8):(l.takeWhile p).length≤l.length:=(List.takeWhile_sublist _).length_le
theorem qt3(l:List UInt8):qds l≤l.length∧qds l≤19:=by
 unfold qds
 have h1:=qbl isD l
 by_cases h4:(l.drop (l.takeWhile isD).length).head? = some 46
 ·have h5:=qbl isD (l.drop ((l.takeWhile isD).length+1))
  rw[List.length_drop] at h5
  have h6:(l.drop (l.takeWhile isD).length)≠[]:=fun e=>by rw[e] at h4;simp at h4
  have h7:=List.length_pos_iff.2 h6
  rw[List.length_drop] at h7
  simp only[if_pos h4]
  repeat' split
  all_goals omega
 ·simp only[if_neg h4,if_true]
  split<;>omega
theorem qrs(l:List UInt8):qd0 l≤l.length∧qd0 l≤19:=by
 unfold qd0
 have h1:=qbl isL l
 simp only
 split
 ·rename_i h
  have : ∀ t∈qe5,t.length≤19:=by decide
  have:=this _ h
  rw[List.length_take] at this
  omega
 ·omega
theorem qrl(l:List UInt8):qdz l≤l.length∧qdz l≤19:=by
 unfold qdz
 split
 ·rename_i h
  have : ∀ t∈qqf,t.length=2:=by decide
  have:=this _ h
  rw[List.length_take] at this
  omega
 ·split
  ·simp
  ·split
   ·simp
   ·simp
theorem qiy(l:List UInt8):qaq l≤l.length∧qaq l≤19:=by
 unfold qaq
 split
 ·simp
 ·split
  ·exact qt3 _
  ·split
   ·exact qrs _
   ·exact qrl _
theorem qp9 : ∀ (n:Nat) (l:List UInt8),l.length≤n → ∀ t,toks l=some t→t.length≤l.length ∧ ∀ x∈t,0<x.length∧x.length≤19
 |n,[],_,t,ht=>by cases ht;simp
 | 0,c :: l,h,t,ht=>absurd h (by simp)
 |n+1,c :: l,h,t,ht=>by
  by_cases h0:qaq (c :: l)=0
  ·rw[qi1 (by simp) h0] at ht;cases ht
  ·rw[qi0 (by simp) h0] at ht
   obtain⟨u,hu,rfl⟩:=Option.map_eq_some_iff.1 ht
   have h1:=qei ((c :: l).drop (qaq (c :: l)))
   have h2:=qiy (c :: l)
   rw[List.length_drop] at h1
   simp only[List.length_cons] at h1 h2 h
   obtain⟨h3,h4⟩:=qp9 n _ (by omega) u hu
   refine⟨by simp only[List.length_cons];omega,fun x hx => ?_⟩
   rcases List.mem_cons.1 hx with rfl | hx
   ·rw[List.length_take,List.length_cons];omega
   ·exact h4 x hx
inductive T
 |bad
 |num (s:Tok)
 |un (o:Tok) (x:T)
 |bin (o:Tok) (x y:T)
def T.lv:T→Nat
 | .bad=>0
 | .num _=>1
 | .un _ x=>x.lv+1
 | .bin _ x y=>max x.lv y.lv+1
def T.sz:T→Nat
 | .bad=>0
 | .num _=>1
 | .un _ x=>x.sz+1
 | .bin _ x y=>x.sz+y.sz+1
theorem T.lv_sz : ∀ x:T,x.lv≤x.sz
 | .bad=>Nat.le_refl _
 | .num _=>Nat.le_refl _
 | .un _ x=>by have:=x.lv_sz;simp only[T.lv,T.sz];omega
 | .bin _ x y=>by have:=x.lv_sz;have:=y.lv_sz;simp only[T.lv,T.sz];omega
structure Res where
 t:T
 r:List Tok
 b:Bool
def ops:Nat→List Tok
 | 0=>[[111,114]]
 | 1=>[[97,110,100]]
 | 3=>[[43],[45]]
 | 4=>[[42],[47],[109,111,100]]
 | 5=>[[114,111,117,110,100]]
 | _=>[]
def qi3:List Tok:=[[61],[60,62],[60],[62],[60,61],[62,61]]
def uns:List Tok:=[[45],[43],[110,111,116],[102,108,111,111,114]]
def next(these:List Tok):List Tok→Option (Tok×List Tok)
 | []=>none
 |o :: l=>if o∈these then some (o,l) else none
theorem qdc{s:List Tok}{l:List Tok}{o:Tok}{r:List Tok}(h:next s l=some (o,r)):l=o :: r∧o∈s:=by
 cases l with
 |nil=>cases h
 |cons a l =>
  change (if a∈s then some (a,l) else none)=_ at h
  by_cases ha:a∈s
  ·rw[if_pos ha] at h;cases h;exact⟨rfl,ha⟩
  ·rw[if_neg ha] at h;cases h
def G:Nat→Nat→T→List Tok→Bool→Res
 | 0,_,_,l,_=>⟨.bad,l,true⟩
 |n+1,2,_,l,b =>
  let x:=G n 3 .bad l b
  match next qi3 x.r with
  |some (o,r)=>let y:=G n 3 .bad r x.b;⟨.bin o x.t y.t,y.r,y.b⟩
  |none=>x
 |n+1,6,_,l,b =>
  match next uns l with
  |some (o,r)=>let x:=G n 6 .bad r b;⟨.un o x.t,x.r,x.b⟩
  |none=>G n 7 .bad l b
 |n+1,7,_,l,b =>
  let x:=G n 8 .bad l b
  match next [[94]] x.r with
  |some (o,r)=>let y:=G n 6 .bad r x.b;⟨.bin o x.t y.t,y.r,y.b⟩
  |none=>x
 |n+1,8,_,l,b =>
  match l with
  | []=>⟨.bad,[],true⟩
  |t :: l' =>
   if (t.head?.map isD).getD false then⟨.num t,l',b⟩ else
   if t=[40] then
    let x:=G n 0 .bad l' b
    match next [[41]] x.r with
    |some (_,r)=>⟨.un [40] x.t,r,x.b⟩
    |none=>⟨.un [40] x.t,x.r,true⟩
   else⟨.bad,t :: l',true⟩
 |n+1,k,x,l,b =>
  if k<10 then let y:=G n (k+1) .bad l b;G n (10+k) y.t y.r y.b else
  match next (ops (k-10)) l with
  |some (o,r)=>let y:=G n (k-9) .bad r b;G n k (.bin o x y.t) y.r y.b
  |none=>⟨x,l,b⟩
theorem G_2(n:Nat)(x:T)(l:List Tok)(b:Bool):G (n+1) 2 x l b=(match next qi3 (G n 3 .bad l b).r with
  |some (o,r)=>⟨.bin o (G n 3 .bad l b).t (G n 3 .bad r (G n 3 .bad l b).b).t,(G n 3 .bad r (G n 3 .bad l b).b).r,(G n 3 .bad r (G n 3 .bad l b).b).b⟩
  |none=>G n 3 .bad l b):=rfl
theorem G_6(n:Nat)(x:T)(l:List Tok)(b:Bool):G (n+1) 6 x l b=(match next uns l with
  |some (o,r)=>⟨.un o (G n 6 .bad r b).t,(G n 6 .bad r b).r,(G n 6 .bad r b).b⟩
  |none=>G n 7 .bad l b):=rfl
theorem G_7(n:Nat)(x:T)(l:List Tok)(b:Bool):G (n+1) 7 x l b=(match next [[94]] (G n 8 .bad l b).r with
  |some (o,r)=>⟨.bin o (G n 8 .bad l b).t (G n 6 .bad r (G n 8 .bad l b).b).t,(G n 6 .bad r (G n 8 .bad l b).b).r,(G n 6 .bad r (G n 8 .bad l b).b).b⟩
  |none=>G n 8 .bad l b):=rfl
def qhj(t:Tok):Bool:=(t.head?.map isD).getD false
theorem xah(n:Nat)(x:T)(b:Bool):G (n+1) 8 x [] b=⟨.bad,[],true⟩:=rfl
theorem q5o(n:Nat)(x:T)(t:Tok)(l:List Tok)(b:Bool)(h:qhj t=true):G (n+1) 8 x (t :: l) b=⟨.num t,l,b⟩:=by
 unfold qhj at h;show ite _ _ _=_;rw[if_pos h]
theorem q5p(n:Nat)(x:T)(l:List Tok)(b:Bool):G (n+1) 8 x ([40] :: l) b=(match next [[41]] (G n 0 .bad l b).r with
  |some (_,r)=>⟨.un [40] (G n 0 .bad l b).t,r,(G n 0 .bad l b).b⟩
  |none=>⟨.un [40] (G n 0 .bad l b).t,(G n 0 .bad l b).r,true⟩):=rfl
theorem q5q(n:Nat)(x:T)(t:Tok)(l:List Tok)(b:Bool)(h:qhj t=false)(h2:t≠[40]):G (n+1) 8 x (t :: l) b=⟨.bad,t :: l,true⟩:=by
 unfold qhj at h;show ite _ _ _=_;rw[if_neg (by rw[h];decide),if_neg h2]
theorem qwb(n k:Nat)(x:T)(l:List Tok)(b:Bool)(h:k<10)(h2:k≠2)(h6:k≠6)(h7:k≠7)(h8:k≠8) :
  G (n+1) k x l b=G n (10+k) (G n (k+1) .bad l b).t (G n (k+1) .bad l b).r (G n (k+1) .bad l b).b:=by
 match k,h,h2,h6,h7,h8 with
 | 0,_,_,_,_,_=>rfl
 | 1,_,_,_,_,_=>rfl
 | 3,_,_,_,_,_=>rfl
 | 4,_,_,_,_,_=>rfl
 | 5,_,_,_,_,_=>rfl
 | 9,_,_,_,_,_=>rfl
theorem q5k(n k:Nat)(x:T)(l:List Tok)(b:Bool):G (n+1) (10+k) x l b=(match next (ops k) l with
  |some (o,r)=>G n (10+k) (.bin o x (G n (k+1) .bad r b).t) (G n (k+1) .bad r b).r (G n (k+1) .bad r b).b
  |none=>⟨x,l,b⟩):=by
 rw[show 10+k=k+9+1 by omega]
 show(if k+9+1<10 then _ else _)=_
 rw[if_neg (by omega),show k+9+1-10=k by omega,show k+9+1-9=k+1 by omega]
theorem qja : ∀ (n k:Nat) (x:T) (l:List Tok) (b:Bool),(G n k x l b).t.sz+(G n k x l b).r.length≤x.sz+l.length
 | 0,k,x,l,b=>by simp only[G,T.sz];omega
 |n+1,k,x,l,b=>by
  have nx : ∀ {s:List Tok} {l:List Tok} {o:Tok} {r:List Tok},next s l=some (o,r)→l.length=r.length+1:=fun h=>by rw[(qdc h).1];rfl
  by_cases h2:k=2
  ·subst h2;rw[G_2]
   have h1:=qja n 3 .bad l b
   split
   ·rename_i o r h
    have h3:=qja n 3 .bad r (G n 3 .bad l b).b
    have h4:=nx h
    simp only[T.sz] at *;omega
   ·simp only[T.sz] at *;omega
  by_cases h6:k=6
  ·subst h6;rw[G_6]
   split
   ·rename_i o r h
    have h3:=qja n 6 .bad r b
    have h4:=nx h
    simp only[T.sz] at *;omega
   ·have h1:=qja n 7 .bad l b
    simp only[T.sz] at *;omega
  by_cases h7:k=7
  ·subst h7;rw[G_7]
   have h1:=qja n 8 .bad l b
   split
   ·rename_i o r h
    have h3:=qja n 6 .bad r (G n 8 .bad l b).b
    have h4:=nx h
    simp only[T.sz] at *;omega
   ·simp only[T.sz] at *;omega
  by_cases h8:k=8
  ·subst h8
   cases l with
   |nil=>rw[xah];simp only[T.sz,List.length_nil];omega
   |cons t l =>
    cases ht:qhj t
    ·by_cases hp:t=[40]
     ·subst hp;rw[q5p]
      have h1:=qja n 0 .bad l b
      split
      ·rename_i o r h
       have h4:=nx h
       simp only[T.sz,List.length_cons] at *;omega
      ·simp only[T.sz,List.length_cons] at *;omega
     ·rw[q5q _ _ _ _ _ ht hp];simp only[T.sz];omega
    ·rw[q5o _ _ _ _ _ ht];simp only[T.sz,List.length_cons];omega
  by_cases h:k<10
  ·rw[qwb n k x l b h h2 h6 h7 h8]
   have h1:=qja n (k+1) .bad l b
   have h3:=qja n (10+k) (G n (k+1) .bad l b).t (G n (k+1) .bad l b).r (G n (k+1) .bad l b).b
   simp only[T.sz] at *;omega
  ·obtain⟨j,rfl⟩ : ∃ j,k=10+j:=⟨k-10,by omega⟩
   rw[q5k]
   split
   ·rename_i o r h
    have h4:=nx h
    have h1:=qja n (j+1) .bad r b
    have h3:=qja n (10+j) (.bin o x (G n (j+1) .bad r b).t) (G n (j+1) .bad r b).r (G n (j+1) .bad r b).b
    simp only[T.sz] at *;omega
   ·simp only;omega
end Go.Proofs.YtldkgbnmaefaaaaGreatDoor.Fo
namespace Go.Proofs.YtldkgbnmaefaaaaGreatDoor.Fo
open Go.Proofs.YtldkgbnmaefaaaaGreatDoor.Nu
def tr(b:Bool):R3:=if b then⟨1,1,0⟩ else⟨0,1,0⟩
def pwr(a:R3):Nat→R3
 | 0=>⟨1,1,0⟩
 |k+1=>let r:=pwr a k;if r.e=0 then mul r.n r.d a.n a.d else r
def qal(o:Tok)(c:Int):Bool :=
 if o=[61] then decide (c=0) else if o=[60,62] then !decide (c=0) else if o=[60] then decide (c<0) else if o=[62] then decide (0<c) else if o=[60,61] then decide (c≤0) else decide (0≤c)
def ap1(o:Tok)(a:R3):R3 :=
 if o=[45] then sub 0 1 a.n a.d else if o=[110,111,116] then tr (decide (a.n=0)) else if o=[102,108,111,111,114] then⟨flr a.n a.d,1,0⟩ else a
def qp2(a c:R3):R3:=if c.d=1 then rnd a.n a.d c.n else⟨0,0,2⟩
def pwF(a c:R3):R3:=if c.d=1∧0≤c.n∧c.n≤30 then pwr a c.n.toNat else⟨0,0,2⟩
def ap2(o:Tok)(a c:R3):R3 :=
 if o=[43] then add a.n a.d c.n c.d else if o=[45] then sub a.n a.d c.n c.d else if o=[42] then mul a.n a.d c.n c.d else if o=[47] then div a.n a.d c.n c.d
 else if o=[109,111,100] then mod a.n a.d c.n c.d else if o=[114,111,117,110,100] then qp2 a c else if o=[94] then pwF a c
 else if o=[97,110,100] then tr (decide (a.n≠0)&&decide (c.n≠0)) else if o=[111,114] then tr (decide (a.n≠0)||decide (c.n≠0))
 else tr (qal o (cmp a.n a.d c.n c.d))
def val:T→R3
 | .bad=>⟨0,0,1⟩
 | .num s=>parse s
 | .un o x=>if (val x).e=0 then ap1 o (val x) else⟨0,0,(val x).e⟩
 | .bin o x y=>if (val x).e=0 then (if (val y).e=0 then ap2 o (val x) (val y) else⟨0,0,(val y).e⟩) else⟨0,0,(val x).e⟩
def fuel(l:List Tok):Nat:=20*l.length+20
def top(l:List Tok):Res:=G (fuel l) 0 .bad l false
def evT(l:List Tok):R3 :=
 if (top l).b=false∧(top l).r=[] then (if 20<(top l).t.lv then⟨0,0,17⟩ else val (top l).t) else⟨0,0,1⟩
def ev(s:List UInt8):R3 :=
 if 400<s.length then⟨0,0,3⟩ else match qcs s with
 |none=>⟨0,0,1⟩
 |some l=>evT l
end Go.Proofs.YtldkgbnmaefaaaaGreatDoor.Fo
namespace Go.Proofs.YtldkgbnmaefaaaaGreatDoor.Fo
open Go.RowKit Go.Proofs.YtldkgbnmaefaaaaGreatDoor.Nu
set_option linter.unusedVariables false
set_option linter.unusedSimpArgs false
def res(r:R3):Value := .tuple #[.agg #[.int .i64 r.n,.int .i64 r.d],.int .i64 r.e]
theorem qa6(i:Int)(w:World):Calls Tryz.prog 255 #[.int .i64 i] w fun e w'=>e=.returned (.agg #[.int .i64 i,.int .i64 1])∧Below w.heap.size w w':=by
 go_enter Tryz.func255,Tryz.ntmps255
 go_wp2
 exact bodyPost_ret (v := .agg #[.int .i64 i,.int .i64 1]) (by simp[results,Tryz.results255,go_sem]) rfl ⟨rfl,(Below.refl _ w).alloc (Nat.le_refl _) _⟩
theorem xb7{w W:World}(h:Below w.heap.size w W)(u v:Value):Below w.heap.size w ((W.setCell ⟨w.heap.size,0,none⟩ u).setCell ⟨w.heap.size,1,none⟩ v):=(h.setCell (Nat.le_refl _) _).setCell (Nat.le_refl _) _
theorem qbr(b:Bool)(w:World):Calls Tryz.prog 256 #[.bool b] w fun e w'=>e=.returned (.agg #[.int .i64 (tr b).n,.int .i64 1])∧Below w.heap.size w w':=by
 cases b
 all_goals
  go_enter Tryz.func256,Tryz.ntmps256
  go_wp2_with fail
  refine(qa6 _ _).mono ?_
  rintro e w1⟨rfl,hb⟩
  obtain⟨hc,hf⟩:=qad hb
  have hz:w.heap.size<w1.heap.size:=by have:=hb.size;simp at this;omega
  have HB:=Lib.hid (qao hb)
  go_wp2
  first
   |exact bodyPost_ret (v := .agg #[.int .i64 0,.int .i64 1]) (by simp[results,Tryz.results256,go_sem,hc]) rfl ⟨rfl,xb7 HB.out _ _⟩
   |exact bodyPost_ret (v := .agg #[.int .i64 1,.int .i64 1]) (by simp[results,Tryz.results256,go_sem,hc]) rfl ⟨rfl,xb7 HB.out _ _⟩
theorem qbq(n d:Int)(w:World):Calls Tryz.prog 257 #[.agg #[.int .i64 n,.int .i64 d]] w fun e w'=>e=.returned (.bool (decide (n≠0)))∧Below w.heap.size w w':=by
 by_cases hn:n=0
 ·subst hn
  go_enter Tryz.func257,Tryz.ntmps257
  go_wp2
  go_ret
  exact⟨rfl,(Below.refl _ w).alloc (Nat.le_refl _) _⟩
 ·have hd:(n==0)=false:=by simpa using hn
  have HN:=Lib.hid hn;clear hn
  go_enter Tryz.func257,Tryz.ntmps257
  go_wp2
  go_ret
  exact⟨by rw[decide_eq_true HN.out];simp[hd,bne],(Below.refl _ w).alloc (Nat.le_refl _) _⟩
theorem qxe(c:Int)(hc:c = -1∨c=0∨c=1)(w:World):Calls Tryz.prog 265 #[.string ⟨#[61]⟩,.int .i64 c] w fun e w'=>e=.returned (.bool (qal [61] c))∧w'=w:=by
 rcases hc with rfl | rfl | rfl
 all_goals
  go_enter Tryz.func265,Tryz.ntmps265
  go_wp2
  go_ret
  exact⟨rfl,rfl⟩
theorem qxj(c:Int)(hc:c = -1∨c=0∨c=1)(w:World):Calls Tryz.prog 265 #[.string ⟨#[60,62]⟩,.int .i64 c] w fun e w'=>e=.returned (.bool (qal [60,62] c))∧w'=w:=by
 rcases hc with rfl | rfl | rfl
 all_goals
  go_enter Tryz.func265,Tryz.ntmps265
  go_wp2
  go_ret
  exact⟨rfl,rfl⟩
theorem qxi(c:Int)(hc:c = -1∨c=0∨c=1)(w:World):Calls Tryz.prog 265 #[.string ⟨#[60]⟩,.int .i64 c] w fun e w'=>e=.returned (.bool (qal [60] c))∧w'=w:=by
 rcases hc with rfl | rfl | rfl
 all_goals
  go_enter Tryz.func265,Tryz.ntmps265
  go_wp2
  go_ret
  exact⟨rfl,rfl⟩
theorem qxg(c:Int)(hc:c = -1∨c=0∨c=1)(w:World):Calls Tryz.prog 265 #[.string ⟨#[62]⟩,.int .i64 c] w fun e w'=>e=.returned (.bool (qal [62] c))∧w'=w:=by
 rcases hc with rfl | rfl | rfl
 all_goals
  go_enter Tryz.func265,Tryz.ntmps265
  go_wp2
  go_ret
  exact⟨rfl,rfl⟩
theorem qxh(c:Int)(hc:c = -1∨c=0∨c=1)(w:World):Calls Tryz.prog 265 #[.string ⟨#[60,61]⟩,.int .i64 c] w fun e w'=>e=.returned (.bool (qal [60,61] c))∧w'=w:=by
 rcases hc with rfl | rfl | rfl
 all_goals
  go_enter Tryz.func265,Tryz.ntmps265
  go_wp2
  go_ret
  exact⟨rfl,rfl⟩
theorem qxf(c:Int)(hc:c = -1∨c=0∨c=1)(w:World):Calls Tryz.prog 265 #[.string ⟨#[62,61]⟩,.int .i64 c] w fun e w'=>e=.returned (.bool (qal [62,61] c))∧w'=w:=by
 rcases hc with rfl | rfl | rfl
 all_goals
  go_enter Tryz.func265,Tryz.ntmps265
  go_wp2
  go_ret
  exact⟨rfl,rfl⟩
theorem qd4(a p b q:Int):cmp a p b q = -1∨cmp a p b q=0∨cmp a p b q=1:=by
 unfold cmp;repeat' split
 all_goals omega
theorem q6v(a p b q:Int)(w:World):Calls Tryz.prog 227 #[.string ⟨#[43]⟩,.agg #[.int .i64 a,.int .i64 p],.agg #[.int .i64 b,.int .i64 q]] w fun e w'=>e=.returned (res (add a p b q))∧Below w.heap.size w w':=by
 go_enter Tryz.func227,Tryz.ntmps227
 go_wp2_with fail
 refine(qj0 a p b q _).mono ?_
 rintro e w1⟨rfl,hb⟩
 obtain⟨hc,hf⟩:=qad hb
 obtain⟨z0,z1,z2⟩:=qbn hb
 have HB:=Lib.hid (qau hb)
 go_wp2
 exact bodyPost_ret (v:=res (add a p b q)) (by simp[results,Tryz.results227,go_sem,hc,res]) rfl ⟨rfl,qcv HB.out _ _⟩
theorem q7d(a p b q:Int)(h:I64 b)(w:World):Calls Tryz.prog 227 #[.string ⟨#[45]⟩,.agg #[.int .i64 a,.int .i64 p],.agg #[.int .i64 b,.int .i64 q]] w fun e w'=>e=.returned (res (sub a p b q))∧Below w.heap.size w w':=by
 go_enter Tryz.func227,Tryz.ntmps227
 go_wp2_with fail
 refine(qsg a p b q _ h).mono ?_
 rintro e w1⟨rfl,hb⟩
 obtain⟨hc,hf⟩:=qad hb
 obtain⟨z0,z1,z2⟩:=qbn hb
 have HB:=Lib.hid (qau hb)
 go_wp2
 exact bodyPost_ret (v:=res (sub a p b q)) (by simp[results,Tryz.results227,go_sem,hc,res]) rfl ⟨rfl,qcv HB.out _ _⟩
theorem q7a(a p b q:Int)(w:World):Calls Tryz.prog 227 #[.string ⟨#[42]⟩,.agg #[.int .i64 a,.int .i64 p],.agg #[.int .i64 b,.int .i64 q]] w fun e w'=>e=.returned (res (mul a p b q))∧Below w.heap.size w w':=by
 go_enter Tryz.func227,Tryz.ntmps227
 go_wp2_with fail
 refine(qr1 a p b q _).mono ?_
 rintro e w1⟨rfl,hb⟩
 obtain⟨hc,hf⟩:=qad hb
 obtain⟨z0,z1,z2⟩:=qbn hb
 have HB:=Lib.hid (qau hb)
 go_wp2
 exact bodyPost_ret (v:=res (mul a p b q)) (by simp[results,Tryz.results227,go_sem,hc,res]) rfl ⟨rfl,qcv HB.out _ _⟩
theorem q6x(a p b q:Int)(w:World):Calls Tryz.prog 227 #[.string ⟨#[47]⟩,.agg #[.int .i64 a,.int .i64 p],.agg #[.int .i64 b,.int .i64 q]] w fun e w'=>e=.returned (res (div a p b q))∧Below w.heap.size w w':=by
 go_enter Tryz.func227,Tryz.ntmps227
 go_wp2_with fail
 refine(q0f a p b q _).mono ?_
 rintro e w1⟨rfl,hb⟩
 obtain⟨hc,hf⟩:=qad hb
 obtain⟨z0,z1,z2⟩:=qbn hb
 have HB:=Lib.hid (qau hb)
 go_wp2
 exact bodyPost_ret (v:=res (div a p b q)) (by simp[results,Tryz.results227,go_sem,hc,res]) rfl ⟨rfl,qcv HB.out _ _⟩
theorem q6y(a p b q:Int)(w:World):Calls Tryz.prog 227 #[.string ⟨#[109,111,100]⟩,.agg #[.int .i64 a,.int .i64 p],.agg #[.int .i64 b,.int .i64 q]] w fun e w'=>e=.returned (res (mod a p b q))∧Below w.heap.size w w':=by
 go_enter Tryz.func227,Tryz.ntmps227
 go_wp2_with fail
 refine(q0h a p b q _).mono ?_
 rintro e w1⟨rfl,hb⟩
 obtain⟨hc,hf⟩:=qad hb
 obtain⟨z0,z1,z2⟩:=qbn hb
 have HB:=Lib.hid (qau hb)
 go_wp2
 exact bodyPost_ret (v:=res (mod a p b q)) (by simp[results,Tryz.results227,go_sem,hc,res]) rfl ⟨rfl,qcv HB.out _ _⟩
end Go.Proofs.YtldkgbnmaefaaaaGreatDoor.Fo
namespace Go.Proofs.YtldkgbnmaefaaaaGreatDoor.Fo
open Go.RowKit Go.Proofs.YtldkgbnmaefaaaaGreatDoor.Nu
set_option linter.unusedVariables false
set_option linter.unusedSimpArgs false
theorem q6w(a p b q:Int)(w:World):Calls Tryz.prog 227 #[.string ⟨#[97,110,100]⟩,.agg #[.int .i64 a,.int .i64 p],.agg #[.int .i64 b,.int .i64 q]] w fun e w'=>e=.returned (res (tr (decide (a≠0)&&decide (b≠0))))∧Below w.heap.size w w':=by
 cases ha:decide (a≠0)
 ·have HA:=Lib.hid ha;clear ha
  rw[Bool.false_and]
  go_enter Tryz.func227,Tryz.ntmps227
  go_wp2_with fail
  refine(qbq a p _).mono ?_
  rintro e w1⟨rfl,hb⟩
  rw[HA.out]
  obtain⟨hc,hf⟩:=qad hb
  obtain⟨y0,y1,y2⟩:=qbn hb
  have HB:=Lib.hid (qau hb)
  go_wp2_with fail
  refine(qbr false _).mono ?_
  rintro e w9⟨rfl,hb9⟩
  obtain⟨hc9,hf9⟩:=qad hb9
  obtain⟨z0,z1,z2⟩:=qde y2 hb9
  have HB9:=Lib.hid (HB.out.trans (hb9.mono HB.out.size))
  go_wp2
  exact bodyPost_ret (v:=res (tr false)) (by simp[results,Tryz.results227,go_sem,hc9,hc,y2,res,tr]) rfl ⟨rfl,qcv HB9.out _ _⟩
 ·have HA:=Lib.hid ha;clear ha
  rw[Bool.true_and]
  cases hq:decide (b≠0)
  ·have HQ:=Lib.hid hq;clear hq
   go_enter Tryz.func227,Tryz.ntmps227
   go_wp2_with fail
   refine(qbq a p _).mono ?_
   rintro e w1⟨rfl,hb⟩
   rw[HA.out]
   obtain⟨hc,hf⟩:=qad hb
   obtain⟨y0,y1,y2⟩:=qbn hb
   have HB:=Lib.hid (qau hb)
   go_wp2_with fail
   refine(qbq b q _).mono ?_
   rintro e w2⟨rfl,hb2⟩
   rw[HQ.out]
   obtain⟨hc2,hf2⟩:=qad hb2
   obtain⟨x0,x1,x2⟩:=qde y2 hb2
   have HB2:=Lib.hid (HB.out.trans (hb2.mono HB.out.size))
   go_wp2_with fail
   refine(qbr false _).mono ?_
   rintro e w9⟨rfl,hb9⟩
   obtain⟨hc9,hf9⟩:=qad hb9
   obtain⟨z0,z1,z2⟩:=qde x2 hb9
   have HB9:=Lib.hid (HB2.out.trans (hb9.mono HB2.out.size))
   go_wp2
   exact bodyPost_ret (v:=res (tr false)) (by simp[results,Tryz.results227,go_sem,hc9,hc2,hc,y2,x2,res,tr]) rfl ⟨rfl,qcv HB9.out _ _⟩
  ·have HQ:=Lib.hid hq;clear hq
   go_enter Tryz.func227,Tryz.ntmps227
   go_wp2_with fail
   refine(qbq a p _).mono ?_
   rintro e w1⟨rfl,hb⟩
   rw[HA.out]
   obtain⟨hc,hf⟩:=qad hb
   obtain⟨y0,y1,y2⟩:=qbn hb
   have HB:=Lib.hid (qau hb)
   go_wp2_with fail
   refine(qbq b q _).mono ?_
   rintro e w2⟨rfl,hb2⟩
   rw[HQ.out]
   obtain⟨hc2,hf2⟩:=qad hb2
   obtain⟨x0,x1,x2⟩:=qde y2 hb2
   have HB2:=Lib.hid (HB.out.trans (hb2.mono HB.out.size))
   go_wp2_with fail
   refine(qbr true _).mono ?_
   rintro e w9⟨rfl,hb9⟩
   obtain⟨hc9,hf9⟩:=qad hb9
   obtain⟨z0,z1,z2⟩:=qde x2 hb9
   have HB9:=Lib.hid (HB2.out.trans (hb9.mono HB2.out.size))
   go_wp2
   exact bodyPost_ret (v:=res (tr true)) (by simp[results,Tryz.results227,go_sem,hc9,hc2,hc,y2,x2,res,tr]) rfl ⟨rfl,qcv HB9.out _ _⟩
theorem xa2(a p b q:Int)(w:World):Calls Tryz.prog 227 #[.string ⟨#[111,114]⟩,.agg #[.int .i64 a,.int .i64 p],.agg #[.int .i64 b,.int .i64 q]] w fun e w'=>e=.returned (res (tr (decide (a≠0)||decide (b≠0))))∧Below w.heap.size w w':=by
 cases ha:decide (a≠0)
 ·have HA:=Lib.hid ha;clear ha
  rw[Bool.false_or]
  cases hq:decide (b≠0)
  ·have HQ:=Lib.hid hq;clear hq
   go_enter Tryz.func227,Tryz.ntmps227
   go_wp2_with fail
   refine(qbq a p _).mono ?_
   rintro e w1⟨rfl,hb⟩
   rw[HA.out]
   obtain⟨hc,hf⟩:=qad hb
   obtain⟨y0,y1,y2⟩:=qbn hb
   have HB:=Lib.hid (qau hb)
   go_wp2_with fail
   refine(qbq b q _).mono ?_
   rintro e w2⟨rfl,hb2⟩
   rw[HQ.out]
   obtain⟨hc2,hf2⟩:=qad hb2
   obtain⟨x0,x1,x2⟩:=qde y2 hb2
   have HB2:=Lib.hid (HB.out.trans (hb2.mono HB.out.size))
   go_wp2_with fail
   refine(qbr false _).mono ?_
   rintro e w9⟨rfl,hb9⟩
   obtain⟨hc9,hf9⟩:=qad hb9
   obtain⟨z0,z1,z2⟩:=qde x2 hb9
   have HB9:=Lib.hid (HB2.out.trans (hb9.mono HB2.out.size))
   go_wp2
   exact bodyPost_ret (v:=res (tr false)) (by simp[results,Tryz.results227,go_sem,hc9,hc2,hc,y2,x2,res,tr]) rfl ⟨rfl,qcv HB9.out _ _⟩
  ·have HQ:=Lib.hid hq;clear hq
   go_enter Tryz.func227,Tryz.ntmps227
   go_wp2_with fail
   refine(qbq a p _).mono ?_
   rintro e w1⟨rfl,hb⟩
   rw[HA.out]
   obtain⟨hc,hf⟩:=qad hb
   obtain⟨y0,y1,y2⟩:=qbn hb
   have HB:=Lib.hid (qau hb)
   go_wp2_with fail
   refine(qbq b q _).mono ?_
   rintro e w2⟨rfl,hb2⟩
   rw[HQ.out]
   obtain⟨hc2,hf2⟩:=qad hb2
   obtain⟨x0,x1,x2⟩:=qde y2 hb2
   have HB2:=Lib.hid (HB.out.trans (hb2.mono HB.out.size))
   go_wp2_with fail
   refine(qbr true _).mono ?_
   rintro e w9⟨rfl,hb9⟩
   obtain⟨hc9,hf9⟩:=qad hb9
   obtain⟨z0,z1,z2⟩:=qde x2 hb9
   have HB9:=Lib.hid (HB2.out.trans (hb9.mono HB2.out.size))
   go_wp2
   exact bodyPost_ret (v:=res (tr true)) (by simp[results,Tryz.results227,go_sem,hc9,hc2,hc,y2,x2,res,tr]) rfl ⟨rfl,qcv HB9.out _ _⟩
 ·have HA:=Lib.hid ha;clear ha
  rw[Bool.true_or]
  go_enter Tryz.func227,Tryz.ntmps227
  go_wp2_with fail
  refine(qbq a p _).mono ?_
  rintro e w1⟨rfl,hb⟩
  rw[HA.out]
  obtain⟨hc,hf⟩:=qad hb
  obtain⟨y0,y1,y2⟩:=qbn hb
  have HB:=Lib.hid (qau hb)
  go_wp2_with fail
  refine(qbr true _).mono ?_
  rintro e w9⟨rfl,hb9⟩
  obtain⟨hc9,hf9⟩:=qad hb9
  obtain⟨z0,z1,z2⟩:=qde y2 hb9
  have HB9:=Lib.hid (HB.out.trans (hb9.mono HB.out.size))
  go_wp2
  exact bodyPost_ret (v:=res (tr true)) (by simp[results,Tryz.results227,go_sem,hc9,hc,y2,res,tr]) rfl ⟨rfl,qcv HB9.out _ _⟩
theorem xaw(a p b q:Int)(w:World):Calls Tryz.prog 227 #[.string ⟨#[61]⟩,.agg #[.int .i64 a,.int .i64 p],.agg #[.int .i64 b,.int .i64 q]] w fun e w'=>e=.returned (res (tr (qal [61] (cmp a p b q))))∧Below w.heap.size w w':=by
 have H3:=Lib.hid (fun w=>qxe (cmp a p b q) (qd4 a p b q) w)
 have HC:=Lib.hid (fun w=>qcx a p b q w)
 generalize cmp a p b q=c at H3 HC ⊢
 cases hh:qal [61] c
 all_goals
  have HH:=Lib.hid hh;clear hh
  go_enter Tryz.func227,Tryz.ntmps227
  go_wp2_with fail
  refine(HC.out _).mono ?_
  rintro e w1⟨rfl,hb⟩
  obtain⟨hc,hf⟩:=qad hb
  obtain⟨y0,y1,y2⟩:=qbn hb
  have HB:=Lib.hid (qau hb)
  go_wp2_with fail
  refine(H3.out _).mono ?_
  rintro e w2⟨rfl,rfl⟩
  rw[HH.out]
  go_wp2_with fail
  refine(qbr _ _).mono ?_
  rintro e w9⟨rfl,hb9⟩
  obtain⟨hc9,hf9⟩:=qad hb9
  obtain⟨z0,z1,z2⟩:=qde y2 hb9
  have HB9:=Lib.hid (HB.out.trans (hb9.mono HB.out.size))
  go_wp2
  first
   |exact bodyPost_ret (v:=res (tr false)) (by simp[results,Tryz.results227,go_sem,hc9,hc,y2,res,tr]) rfl ⟨rfl,qcv HB9.out _ _⟩
   |exact bodyPost_ret (v:=res (tr true)) (by simp[results,Tryz.results227,go_sem,hc9,hc,y2,res,tr]) rfl ⟨rfl,qcv HB9.out _ _⟩
theorem xa1(a p b q:Int)(w:World):Calls Tryz.prog 227 #[.string ⟨#[60,62]⟩,.agg #[.int .i64 a,.int .i64 p],.agg #[.int .i64 b,.int .i64 q]] w fun e w'=>e=.returned (res (tr (qal [60,62] (cmp a p b q))))∧Below w.heap.size w w':=by
 have H3:=Lib.hid (fun w=>qxj (cmp a p b q) (qd4 a p b q) w)
 have HC:=Lib.hid (fun w=>qcx a p b q w)
 generalize cmp a p b q=c at H3 HC ⊢
 cases hh:qal [60,62] c
 all_goals
  have HH:=Lib.hid hh;clear hh
  go_enter Tryz.func227,Tryz.ntmps227
  go_wp2_with fail
  refine(HC.out _).mono ?_
  rintro e w1⟨rfl,hb⟩
  obtain⟨hc,hf⟩:=qad hb
  obtain⟨y0,y1,y2⟩:=qbn hb
  have HB:=Lib.hid (qau hb)
  go_wp2_with fail
  refine(H3.out _).mono ?_
  rintro e w2⟨rfl,rfl⟩
  rw[HH.out]
  go_wp2_with fail
  refine(qbr _ _).mono ?_
  rintro e w9⟨rfl,hb9⟩
  obtain⟨hc9,hf9⟩:=qad hb9
  obtain⟨z0,z1,z2⟩:=qde y2 hb9
  have HB9:=Lib.hid (HB.out.trans (hb9.mono HB.out.size))
  go_wp2
  first
   |exact bodyPost_ret (v:=res (tr false)) (by simp[results,Tryz.results227,go_sem,hc9,hc,y2,res,tr]) rfl ⟨rfl,qcv HB9.out _ _⟩
   |exact bodyPost_ret (v:=res (tr true)) (by simp[results,Tryz.results227,go_sem,hc9,hc,y2,res,tr]) rfl ⟨rfl,qcv HB9.out _ _⟩
theorem xa0(a p b q:Int)(w:World):Calls Tryz.prog 227 #[.string ⟨#[60]⟩,.agg #[.int .i64 a,.int .i64 p],.agg #[.int .i64 b,.int .i64 q]] w fun e w'=>e=.returned (res (tr (qal [60] (cmp a p b q))))∧Below w.heap.size w w':=by
 have H3:=Lib.hid (fun w=>qxi (cmp a p b q) (qd4 a p b q) w)
 have HC:=Lib.hid (fun w=>qcx a p b q w)
 generalize cmp a p b q=c at H3 HC ⊢
 cases hh:qal [60] c
 all_goals
  have HH:=Lib.hid hh;clear hh
  go_enter Tryz.func227,Tryz.ntmps227
  go_wp2_with fail
  refine(HC.out _).mono ?_
  rintro e w1⟨rfl,hb⟩
  obtain⟨hc,hf⟩:=qad hb
  obtain⟨y0,y1,y2⟩:=qbn hb
  have HB:=Lib.hid (qau hb)
  go_wp2_with fail
  refine(H3.out _).mono ?_
  rintro e w2⟨rfl,rfl⟩
  rw[HH.out]
  go_wp2_with fail
  refine(qbr _ _).mono ?_
  rintro e w9⟨rfl,hb9⟩
  obtain⟨hc9,hf9⟩:=qad hb9
  obtain⟨z0,z1,z2⟩:=qde y2 hb9
  have HB9:=Lib.hid (HB.out.trans (hb9.mono HB.out.size))
  go_wp2
  first
   |exact bodyPost_ret (v:=res (tr false)) (by simp[results,Tryz.results227,go_sem,hc9,hc,y2,res,tr]) rfl ⟨rfl,qcv HB9.out _ _⟩
   |exact bodyPost_ret (v:=res (tr true)) (by simp[results,Tryz.results227,go_sem,hc9,hc,y2,res,tr]) rfl ⟨rfl,qcv HB9.out _ _⟩
theorem xay(a p b q:Int)(w:World):Calls Tryz.prog 227 #[.string ⟨#[62]⟩,.agg #[.int .i64 a,.int .i64 p],.agg #[.int .i64 b,.int .i64 q]] w fun e w'=>e=.returned (res (tr (qal [62] (cmp a p b q))))∧Below w.heap.size w w':=by
 have H3:=Lib.hid (fun w=>qxg (cmp a p b q) (qd4 a p b q) w)
 have HC:=Lib.hid (fun w=>qcx a p b q w)
 generalize cmp a p b q=c at H3 HC ⊢
 cases hh:qal [62] c
 all_goals
  have HH:=Lib.hid hh;clear hh
  go_enter Tryz.func227,Tryz.ntmps227
  go_wp2_with fail
  refine(HC.out _).mono ?_
  rintro e w1⟨rfl,hb⟩
  obtain⟨hc,hf⟩:=qad hb
  obtain⟨y0,y1,y2⟩:=qbn hb
  have HB:=Lib.hid (qau hb)
  go_wp2_with fail
  refine(H3.out _).mono ?_
  rintro e w2⟨rfl,rfl⟩
  rw[HH.out]
  go_wp2_with fail
  refine(qbr _ _).mono ?_
  rintro e w9⟨rfl,hb9⟩
  obtain⟨hc9,hf9⟩:=qad hb9
  obtain⟨z0,z1,z2⟩:=qde y2 hb9
  have HB9:=Lib.hid (HB.out.trans (hb9.mono HB.out.size))
  go_wp2
  first
   |exact bodyPost_ret (v:=res (tr false)) (by simp[results,Tryz.results227,go_sem,hc9,hc,y2,res,tr]) rfl ⟨rfl,qcv HB9.out _ _⟩
   |exact bodyPost_ret (v:=res (tr true)) (by simp[results,Tryz.results227,go_sem,hc9,hc,y2,res,tr]) rfl ⟨rfl,qcv HB9.out _ _⟩
theorem xaz(a p b q:Int)(w:World):Calls Tryz.prog 227 #[.string ⟨#[60,61]⟩,.agg #[.int .i64 a,.int .i64 p],.agg #[.int .i64 b,.int .i64 q]] w fun e w'=>e=.returned (res (tr (qal [60,61] (cmp a p b q))))∧Below w.heap.size w w':=by
 have H3:=Lib.hid (fun w=>qxh (cmp a p b q) (qd4 a p b q) w)
 have HC:=Lib.hid (fun w=>qcx a p b q w)
 generalize cmp a p b q=c at H3 HC ⊢
 cases hh:qal [60,61] c
 all_goals
  have HH:=Lib.hid hh;clear hh
  go_enter Tryz.func227,Tryz.ntmps227
  go_wp2_with fail
  refine(HC.out _).mono ?_
  rintro e w1⟨rfl,hb⟩
  obtain⟨hc,hf⟩:=qad hb
  obtain⟨y0,y1,y2⟩:=qbn hb
  have HB:=Lib.hid (qau hb)
  go_wp2_with fail
  refine(H3.out _).mono ?_
  rintro e w2⟨rfl,rfl⟩
  rw[HH.out]
  go_wp2_with fail
  refine(qbr _ _).mono ?_
  rintro e w9⟨rfl,hb9⟩
  obtain⟨hc9,hf9⟩:=qad hb9
  obtain⟨z0,z1,z2⟩:=qde y2 hb9
  have HB9:=Lib.hid (HB.out.trans (hb9.mono HB.out.size))
  go_wp2
  first
   |exact bodyPost_ret (v:=res (tr false)) (by simp[results,Tryz.results227,go_sem,hc9,hc,y2,res,tr]) rfl ⟨rfl,qcv HB9.out _ _⟩
   |exact bodyPost_ret (v:=res (tr true)) (by simp[results,Tryz.results227,go_sem,hc9,hc,y2,res,tr]) rfl ⟨rfl,qcv HB9.out _ _⟩
theorem xax(a p b q:Int)(w:World):Calls Tryz.prog 227 #[.string ⟨#[62,61]⟩,.agg #[.int .i64 a,.int .i64 p],.agg #[.int .i64 b,.int .i64 q]] w fun e w'=>e=.returned (res (tr (qal [62,61] (cmp a p b q))))∧Below w.heap.size w w':=by
 have H3:=Lib.hid (fun w=>qxf (cmp a p b q) (qd4 a p b q) w)
 have HC:=Lib.hid (fun w=>qcx a p b q w)
 generalize cmp a p b q=c at H3 HC ⊢
 cases hh:qal [62,61] c
 all_goals
  have HH:=Lib.hid hh;clear hh
  go_enter Tryz.func227,Tryz.ntmps227
  go_wp2_with fail
  refine(HC.out _).mono ?_
  rintro e w1⟨rfl,hb⟩
  obtain⟨hc,hf⟩:=qad hb
  obtain⟨y0,y1,y2⟩:=qbn hb
  have HB:=Lib.hid (qau hb)
  go_wp2_with fail
  refine(H3.out _).mono ?_
  rintro e w2⟨rfl,rfl⟩
  rw[HH.out]
  go_wp2_with fail
  refine(qbr _ _).mono ?_
  rintro e w9⟨rfl,hb9⟩
  obtain⟨hc9,hf9⟩:=qad hb9
  obtain⟨z0,z1,z2⟩:=qde y2 hb9
  have HB9:=Lib.hid (HB.out.trans (hb9.mono HB.out.size))
  go_wp2
  first
   |exact bodyPost_ret (v:=res (tr false)) (by simp[results,Tryz.results227,go_sem,hc9,hc,y2,res,tr]) rfl ⟨rfl,qcv HB9.out _ _⟩
   |exact bodyPost_ret (v:=res (tr true)) (by simp[results,Tryz.results227,go_sem,hc9,hc,y2,res,tr]) rfl ⟨rfl,qcv HB9.out _ _⟩
end Go.Proofs.YtldkgbnmaefaaaaGreatDoor.Fo
namespace Go.Proofs.YtldkgbnmaefaaaaGreatDoor.Fo
open Go.RowKit Go.Proofs.YtldkgbnmaefaaaaGreatDoor.Nu
set_option linter.unusedVariables false
set_option linter.unusedSimpArgs false
theorem qoe(a p b q:Int)(w:World):Calls Tryz.prog 263 #[.agg #[.int .i64 a,.int .i64 p],.agg #[.int .i64 b,.int .i64 q]] w fun e w'=>e=.returned (res (qp2 ⟨a,p,0⟩ ⟨b,q,0⟩))∧Below w.heap.size w w':=by
 by_cases hq:q=1
 ·subst hq
  have e1:qp2 ⟨a,p,0⟩ ⟨b,1,0⟩=rnd a p b:=if_pos rfl
  rw[e1]
  clear e1
  go_enter Tryz.func263,Tryz.ntmps263
  go_wp2_with fail
  refine(qh0 a p b _).mono ?_
  rintro e w1⟨rfl,hb⟩
  obtain⟨hc,hf⟩:=qad hb
  obtain⟨z0,z1,z2⟩:=qbn hb
  have HB:=Lib.hid (qau hb)
  go_wp2
  exact bodyPost_ret (v:=res (rnd a p b)) (by simp[results,Tryz.results263,go_sem,hc,res]) rfl ⟨rfl,qcv HB.out _ _⟩
 ·have e1:qp2 ⟨a,p,0⟩ ⟨b,q,0⟩=⟨0,0,2⟩:=if_neg hq
  rw[e1]
  have hd:(q==1)=false:=by simpa using hq
  clear e1 hq
  go_enter Tryz.func263,Tryz.ntmps263
  go_wp2
  exact bodyPost_ret (v:=res ⟨0,0,2⟩) (by simp[results,Tryz.results263,go_sem,res]) rfl ⟨rfl,(((Below.refl _ w).alloc (Nat.le_refl _) _).alloc (by simp) _).alloc (by simp;omega) _⟩
theorem qkh(n d:Int)(h:(fit n d).e≠0):fit n d=⟨0,0,(fit n d).e⟩:=by
 unfold fit at h ⊢
 cases hb:qzh n d
 ·rfl
 ·rw[hb] at h;exact absurd rfl h
theorem qtw(a p b q:Int)(h:(mul a p b q).e≠0):mul a p b q=⟨0,0,(mul a p b q).e⟩:=by
 unfold mul at h ⊢
 cases hb:(okB a p&&okB b q)
 ·rfl
 ·rw[hb] at h;exact qkh _ _ h
theorem qk1(a:R3)(k:Nat)(h:(pwr a k).e≠0) : ∀ j,pwr a (k+j)=pwr a k
 | 0=>rfl
 |j+1=>by rw[←Nat.add_assoc,pwr,qk1 a k h j];exact if_neg h
theorem qpy(a:R3)(k:Nat)(h:(pwr a k).e=0):pwr a (k+1)=mul (pwr a k).n (pwr a k).d a.n a.d:=if_pos h
def nb(n d:Int):Obj := .cells #[.int .i64 n,.int .i64 d] 63
theorem qa7{W:World}{g:Nat}{o:Obj}(h:W.heap[g]? = some o):g<W.heap.size:=(Array.getElem?_eq_some_iff.1 h).1
theorem c2{W:World}{c:Nat}{n d:Int}(h:W.heap[c]? = some (nb n d)):W.cell? ⟨c,0,none⟩=some (.int .i64 n)∧W.cell? ⟨c,1,none⟩=some (.int .i64 d)∧W.frozen? ⟨c,0,none⟩=false∧W.frozen? ⟨c,1,none⟩=false:=by
 refine⟨?_,?_,?_,?_⟩
 ·unfold World.cell?;rw[h];rfl
 ·unfold World.cell?;rw[h];rfl
 ·unfold World.frozen?;rw[h];rfl
 ·unfold World.frozen?;rw[h];rfl
theorem s2{W:World}{c:Nat}{n d:Int}(h:W.heap[c]? = some (nb n d))(n' d':Int):((W.setCell ⟨c,0,none⟩ (.int .i64 n')).setCell ⟨c,1,none⟩ (.int .i64 d')).heap[c]? = some (nb n' d'):=by
 simp only[World.setCell,Array.getElem?_modify,if_pos,h]
 rfl
theorem qyg{W:World}{c g:Nat}(h:g≠c)(u v:Value):((W.setCell ⟨c,0,none⟩ u).setCell ⟨c,1,none⟩ v).heap[g]? = W.heap[g]? := by
 rw[Below.heap_setCell _ _ _ _ h,Below.heap_setCell _ _ _ _ h]
theorem nh(w:World)(o:Obj):(w.alloc o).heap[w.heap.size]? = some o:=by
 show(w.heap.push o)[w.heap.size]? = _
 rw[Array.getElem?_push,if_pos rfl]
theorem hp3(w:World)(A B C:Obj):(((w.alloc A).alloc B).alloc C).heap[w.heap.size]? = some A∧(((w.alloc A).alloc B).alloc C).heap[w.heap.size+2]? = some C:=by
 constructor
 ·rw[Below.heap_alloc _ _ _ (by simp;omega),Below.heap_alloc _ _ _ (by simp)];exact nh _ _
 ·have:=nh ((w.alloc A).alloc B) C
  simp only[World.size_alloc] at this
  exact this
structure Rz (w wr:World) (pb:Nat) (a p n d:Int):Prop where
 x:wr.heap[w.heap.size]? = some (nb a p)
 r:wr.heap[w.heap.size+2]? = some (nb 0 0)
 g:wr.heap[pb]? = some (nb n d)
 bl:Below w.heap.size w wr
theorem quu(a p b q:Int)(w:World):Calls Tryz.prog 264 #[.agg #[.int .i64 a,.int .i64 p],.agg #[.int .i64 b,.int .i64 q]] w fun e w'=>e=.returned (res (pwF ⟨a,p,0⟩ ⟨b,q,0⟩))∧Below w.heap.size w w':=by
 by_cases hq:q=1∧0≤b∧b≤30
 ·obtain⟨rfl,h0,h30⟩:=hq
  have e1:pwF ⟨a,p,0⟩ ⟨b,1,0⟩=pwr ⟨a,p,0⟩ b.toNat:=if_pos ⟨rfl,h0,h30⟩
  rw[e1]
  clear e1
  obtain⟨B,rfl⟩ : ∃ B:Nat,b=(B:Int):=⟨b.toNat,by omega⟩
  rw[Int.toNat_natCast]
  have d1:decide ((B:Int)<0)=false:=by rw[decide_eq_false_iff_not];omega
  have d2:decide ((B:Int)>30)=false:=by rw[decide_eq_false_iff_not];omega
  have hB30:B≤30:=by omega
  clear h0 h30
  go_enter Tryz.func264,Tryz.ntmps264
  go_wp2_with fail
  refine(qa6 1 _).mono ?_
  rintro e w1⟨rfl,hb⟩
  have hz1:=hb.size
  simp only[World.size_alloc] at hz1
  obtain⟨hc,hf⟩:=qad hb
  have J0:Hid (∃ k:Nat,0=(k:Int)∧k≤B∧(pwr ⟨a,p,0⟩ k).e=0∧Rz w (w1.alloc (nb 1 1)) w1.heap.size a p (pwr ⟨a,p,0⟩ k).n (pwr ⟨a,p,0⟩ k).d):=Lib.hid ⟨0,rfl,Nat.zero_le _,rfl,(Below.heap_alloc _ _ _ (by omega)).trans ((hb.block _ (by simp;omega)).trans (hp3 w _ _ _).1),(Below.heap_alloc _ _ _ (by omega)).trans ((hb.block _ (by simp)).trans (hp3 w _ _ _).2),nh _ _,(qau hb).alloc (by omega) _⟩
  unfold nb at J0
  have hlt0:w.heap.size<w1.heap.size:=by omega
  have hlt1:w.heap.size+1<w1.heap.size:=by omega
  clear hb
  have HL:=Lib.hid hlt0
  go_wp2_with fail
  clear hc hf
  go_loopw [26] (fun i wr => ∃ k:Nat,i=.int .i64 k∧k≤B∧Hid ((pwr ⟨a,p,0⟩ k).e=0∧Rz w wr w1.heap.size a p (pwr ⟨a,p,0⟩ k).n (pwr ⟨a,p,0⟩ k).d)) (fun i _=>B-(intOf i).toNat)
  case atStart =>
   obtain⟨k,hk0,hk,h1,h2⟩:=J0.out
   have:k=0:=by omega
   subst this
   exact⟨0,rfl,hk,Lib.hid ⟨h1,h2⟩⟩
  case round =>
   obtain⟨k,rfl,hk,hS⟩:=hrel
   clear J0
   obtain⟨he,hz⟩:=hS.out
   clear hS
   obtain⟨g0,g1,g2,g3⟩:=c2 hz.g
   obtain⟨x0,x1,x2,x3⟩:=c2 hz.x
   obtain⟨r0,r1,r2,r3⟩:=c2 hz.r
   have hgl:=qa7 hz.g
   by_cases hlt:k<B
   ·have hd:decide ((k:Int)<(B:Int))=true:=by rw[decide_eq_true_iff];omega
    have hs:=qpy ⟨a,p,0⟩ k he
    have HE:=Lib.hid he
    have HZ:=Lib.hid hz
    generalize hN:(pwr ⟨a,p,0⟩ k).n=n at *
    generalize hD:(pwr ⟨a,p,0⟩ k).d=d at *
    have HS:=Lib.hid hs
    clear he hz hs
    go_wp2_with fail
    refine(qr1 n d a p _).mono ?_
    rintro e w2⟨rfl,hb2⟩
    have hz2:=hb2.size
    have kp : ∀ i,i<wr.heap.size→w2.heap[i]? = wr.heap[i]? := fun i hi=>hb2.block i hi
    have hw12:w1.heap.size<w2.heap.size:=by omega
    have hw22:w.heap.size+1+1<w2.heap.size:=by have:=qa7 HZ.out.r;omega
    have HB2:=Lib.hid hb2
    have hg2:=(kp _ (qa7 HZ.out.g)).trans HZ.out.g
    have hx2:=(kp _ (qa7 HZ.out.x)).trans HZ.out.x
    have hr2:=(kp _ (qa7 HZ.out.r)).trans HZ.out.r
    have HG2:=Lib.hid hg2;have HX2:=Lib.hid hx2;have HR2:=Lib.hid hr2
    obtain⟨m0,m1,m2,m3⟩:=c2 hg2
    obtain⟨n0,n1,n2,n3⟩:=c2 hr2
    clear hb2 kp hg2 hx2 hr2 g0 g1 g2 g3 x0 x1 x2 x3 r0 r1 r2 r3
    by_cases hm:(mul n d a p).e=0
    ·have HM:=Lib.hid hm
     have hr:Hid (∀ W:World,W.heap.size=w2.heap.size+1→(∀ i,i<w2.heap.size→i≠w1.heap.size→W.heap[i]? = w2.heap[i]?)→W.heap[w1.heap.size]? = some (nb (mul n d a p).n (mul n d a p).d)→W.os=w2.os→W.tape=w2.tape→W.output=w2.output →
       (pwr ⟨a,p,0⟩ (k+1)).e=0∧Rz w W w1.heap.size a p (pwr ⟨a,p,0⟩ (k+1)).n (pwr ⟨a,p,0⟩ (k+1)).d):=Lib.hid fun W q1 q2 q3 q4 q5 q6=>by
      have bl:=HZ.out.bl.trans (HB2.out.mono HZ.out.bl.size)
      rw[HS.out]
      exact⟨HM.out,(q2 _ (by omega) (by omega)).trans HX2.out,(q2 _ (by omega) (by omega)).trans HR2.out,q3,⟨q4.trans bl.os,q5.trans bl.tape,q6.trans bl.output,by rw[q1];omega,fun i hi=>(q2 i (by omega) (by omega)).trans (bl.block i hi)⟩⟩
     go_wp2_with fail
     go_roundw
     case rel =>
      refine⟨k+1,by simp,by omega,Lib.hid (hr.out _ (by simp[World.setCell]) (fun i hi hne => ?_) ?_ rfl rfl rfl)⟩
      ·rw[Below.heap_alloc _ _ _ (by simp[World.setCell];exact hi)];exact qyg hne _ _
      ·rw[Below.heap_alloc _ _ _ (by simp[World.setCell];omega)];exact s2 HG2.out _ _
     case measure=>simp[intOf];omega
    ·have HM:=Lib.hid (qtw n d a p hm)
     have hd2:((mul n d a p).e==0)=false:=by simpa using hm
     have hstop:pwr ⟨a,p,0⟩ B=⟨0,0,(mul n d a p).e⟩:=by
      have e2:B=(k+1)+(B-(k+1)):=by omega
      rw[e2,qk1 ⟨a,p,0⟩ (k+1) (by rw[HS.out];exact hm),HS.out]
      exact HM.out
     have HT:=Lib.hid hstop
     clear hm hstop
     have bl:=HZ.out.bl.trans (HB2.out.mono HZ.out.bl.size)
     have HBL:=Lib.hid bl
     clear bl
     go_wp2_with fail
     exact bodyPost_ret (v:=res ⟨0,0,(mul n d a p).e⟩) (by simp[results,Tryz.results264,go_sem,hw22,n0,n1,res]) rfl ⟨by rw[HT.out],(qcv HBL.out _ _).alloc (by simp[World.setCell];omega) _⟩
   ·have ek:k=B:=by omega
    subst ek
    have hd:decide ((k:Int)<(k:Int))=false:=by simp
    have HE:=Lib.hid he
    have HZ:=Lib.hid hz
    clear he hz
    go_wp2_with fail
    exact bodyPost_ret (v := .tuple #[.agg #[.int .i64 (pwr ⟨a,p,0⟩ k).n,.int .i64 (pwr ⟨a,p,0⟩ k).d],.int .i64 0]) (by simp[results,Tryz.results264,go_sem,r0,r1]) rfl ⟨by unfold res;rw[HE.out],qcv HZ.out.bl _ _⟩
 ·have e1:pwF ⟨a,p,0⟩ ⟨b,q,0⟩=⟨0,0,2⟩:=if_neg hq
  rw[e1]
  clear e1
  by_cases h1:q=1
  ·subst h1
   by_cases h2:b<0
   ·have d1:decide (b<0)=true:=decide_eq_true h2
    clear hq
    go_enter Tryz.func264,Tryz.ntmps264
    go_wp2
    exact bodyPost_ret (v:=res ⟨0,0,2⟩) (by simp[results,Tryz.results264,go_sem,res]) rfl ⟨rfl,(((Below.refl _ w).alloc (Nat.le_refl _) _).alloc (by simp) _).alloc (by simp;omega) _⟩
   ·have d1:decide (b<0)=false:=decide_eq_false h2
    have d2:decide (b>30)=true:=by rw[decide_eq_true_iff];omega
    clear hq h2
    go_enter Tryz.func264,Tryz.ntmps264
    go_wp2
    exact bodyPost_ret (v:=res ⟨0,0,2⟩) (by simp[results,Tryz.results264,go_sem,res]) rfl ⟨rfl,(((Below.refl _ w).alloc (Nat.le_refl _) _).alloc (by simp) _).alloc (by simp;omega) _⟩
  ·have hd:(q==1)=false:=by simpa using h1
   clear hq
   go_enter Tryz.func264,Tryz.ntmps264
   go_wp2
   exact bodyPost_ret (v:=res ⟨0,0,2⟩) (by simp[results,Tryz.results264,go_sem,res]) rfl ⟨rfl,(((Below.refl _ w).alloc (Nat.le_refl _) _).alloc (by simp) _).alloc (by simp;omega) _⟩
theorem q7c(a p b q:Int)(w:World):Calls Tryz.prog 227 #[.string ⟨#[114,111,117,110,100]⟩,.agg #[.int .i64 a,.int .i64 p],.agg #[.int .i64 b,.int .i64 q]] w fun e w'=>e=.returned (res (qp2 ⟨a,p,0⟩ ⟨b,q,0⟩))∧Below w.heap.size w w':=by
 have HC:=Lib.hid (fun w=>qoe a p b q w)
 generalize qp2 ⟨a,p,0⟩ ⟨b,q,0⟩=r at HC ⊢
 unfold res at HC
 go_enter Tryz.func227,Tryz.ntmps227
 go_wp2_with fail
 refine(HC.out _).mono ?_
 rintro e w1⟨rfl,hb⟩
 obtain⟨hc,hf⟩:=qad hb
 obtain⟨z0,z1,z2⟩:=qbn hb
 have HB:=Lib.hid (qau hb)
 go_wp2
 exact bodyPost_ret (v:=res r) (by simp[results,Tryz.results227,go_sem,hc,res]) rfl ⟨rfl,qcv HB.out _ _⟩
theorem q7b(a p b q:Int)(w:World):Calls Tryz.prog 227 #[.string ⟨#[94]⟩,.agg #[.int .i64 a,.int .i64 p],.agg #[.int .i64 b,.int .i64 q]] w fun e w'=>e=.returned (res (pwF ⟨a,p,0⟩ ⟨b,q,0⟩))∧Below w.heap.size w w':=by
 have HC:=Lib.hid (fun w=>quu a p b q w)
 generalize pwF ⟨a,p,0⟩ ⟨b,q,0⟩=r at HC ⊢
 unfold res at HC
 go_enter Tryz.func227,Tryz.ntmps227
 go_wp2_with fail
 refine(HC.out _).mono ?_
 rintro e w1⟨rfl,hb⟩
 obtain⟨hc,hf⟩:=qad hb
 obtain⟨z0,z1,z2⟩:=qbn hb
 have HB:=Lib.hid (qau hb)
 go_wp2
 exact bodyPost_ret (v:=res r) (by simp[results,Tryz.results227,go_sem,hc,res]) rfl ⟨rfl,qcv HB.out _ _⟩
theorem qmu{w W:World}(h:Below w.heap.size w W)(u v:Value):Below w.heap.size w ((W.setCell ⟨w.heap.size+1,0,none⟩ u).setCell ⟨w.heap.size+1,1,none⟩ v) :=
 (h.setCell (by show _≤w.heap.size+1;omega) _).setCell (by show _≤w.heap.size+1;omega) _
theorem qbv{w w1:World}{A B:Obj}(hb:Below ((w.alloc A).alloc B).heap.size ((w.alloc A).alloc B) w1):Below w.heap.size w w1 :=
 (((Below.refl _ w).alloc (Nat.le_refl _) A).alloc (by simp) B).trans (hb.mono (by simp;omega))
theorem qgm{w w1:World}{A B:Obj}(hb:Below ((w.alloc A).alloc B).heap.size ((w.alloc A).alloc B) w1):w.heap.size<w1.heap.size∧w.heap.size+1<w1.heap.size:=by
 have:=hb.size;simp at this;omega
theorem qpv(o:ByteArray)(ho:o=⟨#[43]⟩∨o=⟨#[40]⟩)(a p:Int)(w:World):Calls Tryz.prog 226 #[.string o,.agg #[.int .i64 a,.int .i64 p]] w fun e w'=>e=.returned (res ⟨a,p,0⟩)∧Below w.heap.size w w':=by
 rcases ho with rfl | rfl
 all_goals
  go_enter Tryz.func226,Tryz.ntmps226
  go_wp2
  exact bodyPost_ret (v:=res ⟨a,p,0⟩) (by simp[results,Tryz.results226,go_sem,res]) rfl ⟨rfl,((Below.refl _ w).alloc (Nat.le_refl _) _).alloc (by simp) _⟩
theorem q3i(a p:Int)(w:World):Calls Tryz.prog 226 #[.string ⟨#[110,111,116]⟩,.agg #[.int .i64 a,.int .i64 p]] w fun e w'=>e=.returned (res (tr (decide (a=0))))∧Below w.heap.size w w':=by
 have hn:decide (a=0) = !decide (a≠0):=by by_cases h:a=0<;>simp[h]
 rw[hn]
 clear hn
 cases ha:decide (a≠0)
 all_goals
  have HA:=Lib.hid ha;clear ha
  go_enter Tryz.func226,Tryz.ntmps226
  go_wp2_with fail
  refine(qbq a p _).mono ?_
  rintro e w1⟨rfl,hb⟩
  rw[HA.out]
  obtain⟨hc,hf⟩:=qad hb
  obtain⟨y0,y1⟩:=qgm hb
  have HB:=Lib.hid (qbv hb)
  go_wp2_with fail
  refine(qbr _ _).mono ?_
  rintro e w9⟨rfl,hb9⟩
  obtain⟨hc9,hf9⟩:=qad hb9
  have z1:w.heap.size+1<w9.heap.size:=Nat.lt_of_lt_of_le y1 hb9.size
  have HB9:=Lib.hid (HB.out.trans (hb9.mono HB.out.size))
  go_wp2
  first
   |exact bodyPost_ret (v:=res (tr false)) (by simp[results,Tryz.results226,go_sem,hc9,hc,y1,res,tr]) rfl ⟨rfl,qmu HB9.out _ _⟩
   |exact bodyPost_ret (v:=res (tr true)) (by simp[results,Tryz.results226,go_sem,hc9,hc,y1,res,tr]) rfl ⟨rfl,qmu HB9.out _ _⟩
theorem qun(a p:Int)(w:World):Calls Tryz.prog 226 #[.string ⟨#[102,108,111,111,114]⟩,.agg #[.int .i64 a,.int .i64 p]] w fun e w'=>e=.returned (res ⟨flr a p,1,0⟩)∧Below w.heap.size w w':=by
 go_enter Tryz.func226,Tryz.ntmps226
 go_wp2_with fail
 refine(qrz a p _).mono ?_
 rintro e w1⟨rfl,hb⟩
 obtain⟨hc,hf⟩:=qad hb
 obtain⟨y0,y1⟩:=qgm hb
 have HB:=Lib.hid (qbv hb)
 go_wp2_with fail
 refine(qa6 _ _).mono ?_
 rintro e w9⟨rfl,hb9⟩
 obtain⟨hc9,hf9⟩:=qad hb9
 have z1:w.heap.size+1<w9.heap.size:=Nat.lt_of_lt_of_le y1 hb9.size
 have HB9:=Lib.hid (HB.out.trans (hb9.mono HB.out.size))
 go_wp2
 exact bodyPost_ret (v:=res ⟨flr a p,1,0⟩) (by simp[results,Tryz.results226,go_sem,hc9,hc,y1,res]) rfl ⟨rfl,qmu HB9.out _ _⟩
end Go.Proofs.YtldkgbnmaefaaaaGreatDoor.Fo
