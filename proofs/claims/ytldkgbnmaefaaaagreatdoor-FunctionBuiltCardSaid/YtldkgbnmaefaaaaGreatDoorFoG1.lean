import Derived.Test.YtldkgbnmaefaaaaGreatDoorNuG1
import Derived.Lib.SlTrimSet
import Derived.Test.YtldkgbnmaefaaaaGreatDoorNuG2
import Derived.Deep.RegionWith
set_option maxRecDepth 100000
set_option maxHeartbeats 4000000
open Go.Lib (hid)
namespace Go.Proofs.YtldkgbnmaefaaaaGreatDoor.Fo
open Go.Proofs.YtldkgbnmaefaaaaGreatDoor.Nu
abbrev Tok:=List UInt8
def isL(c:UInt8):Bool:=decide (97≤c.toNat∧c.toNat≤122)
def bls:List UInt8:=[9,10,32]
def trimB(l:List UInt8):List UInt8:=Lib.trimLeftS l bls
def qdw(l:List UInt8):Nat :=
 let w:=(l.takeWhile isD).length
 let p:=if (l.drop w).head? = some 46 then ((l.drop (w+1)).takeWhile isD).length else 0
 if 9<w∨9<p then 0 else if p=0 then w else w+1+p
def qfg:List Tok:=[[109,111,100],[97,110,100],[111,114],[110,111,116],[114,111,117,110,100],[102,108,111,111,114]]
def qd3(l:List UInt8):Nat:=let n:=(l.takeWhile isL).length;if l.take n∈qfg then n else 0
def qrj:List Tok:=[[60,61],[62,61],[60,62]]
def ones:List UInt8:=[43,45,42,47,94,40,41,61,60,62]
def qd2(l:List UInt8):Nat:=if l.take 2∈qrj then 2 else match l with
 | []=>0
 |c :: _=>if c∈ones then 1 else 0
def qar:List UInt8→Nat
 | []=>0
 |c :: l=>if isD c then qdw (c :: l) else if isL c then qd3 (c :: l) else qd2 (c :: l)
def qpv:Nat→List UInt8→Option (List Tok)
 | 0,_=>none
 |n+1,l=>if l=[] then some [] else if qar l=0 then none else (qpv n (trimB (l.drop (qar l)))).map (l.take (qar l) :: ·)
def toks(l:List UInt8):Option (List Tok):=qpv (l.length+1) l
def qcy(l:List UInt8):Option (List Tok):=toks (trimB l)
theorem qes(l:List UInt8):(trimB l).length≤l.length:=by
 unfold trimB Lib.trimLeftS;exact(List.dropWhile_sublist _).length_le
theorem qrd : ∀ (n m:Nat) (l:List UInt8),l.length<n→l.length<m→qpv n l=qpv m l
 | 0,_,_,h,_=>absurd h (Nat.not_lt_zero _)
 | _+1,0,_,_,h=>absurd h (Nat.not_lt_zero _)
 |n+1,m+1,l,h1,h2=>by
  unfold qpv
  split
  ·rfl
  ·rename_i h0
   split
   ·rfl
   ·rename_i ht
    have hl:0<l.length:=(List.length_pos_iff.2 h0)
    have:=qes (l.drop (qar l))
    rw[List.length_drop] at this
    rw[qrd n m _ (by omega) (by omega)]
theorem qrf:toks []=some []:=rfl
theorem qjz{l:List UInt8}(h:l≠[])(h2:qar l=0):toks l=none:=by
 unfold toks qpv;rw[if_neg h,if_pos h2]
theorem qjy{l:List UInt8}(h:l≠[])(h2:qar l≠0):toks l=(toks (trimB (l.drop (qar l)))).map (l.take (qar l) :: ·):=by
 unfold toks
 rw[qpv,if_neg h,if_neg h2]
 have hl:0<l.length:=(List.length_pos_iff.2 h)
 have:=qes (l.drop (qar l))
 rw[List.length_drop] at this
 rw[qrd l.length _ _ (by omega) (Nat.lt_succ_self _)]
theorem qbn(p:UInt8→Bool)(l:List UInt8):(l.takeWhile p).length≤l.length:=(List.takeWhile_sublist _).length_le
theorem qva(l:List UInt8):qdw l≤l.length∧qdw l≤19:=by
 unfold qdw
 have h1:=qbn isD l
 by_cases h4:(l.drop (l.takeWhile isD).length).head? = some 46
 ·have h5:=qbn isD (l.drop ((l.takeWhile isD).length+1))
  rw[List.length_drop] at h5
  have h6:(l.drop (l.takeWhile isD).length)≠[]:=fun e=>by rw[e] at h4;simp at h4
  have h7:=List.length_pos_iff.2 h6
  rw[List.length_drop] at h7
  simp only[if_pos h4]
  repeat' split
  all_goals omega
 ·simp only[if_neg h4,if_true]
  split<;>omega
theorem qsu(l:List UInt8):qd3 l≤l.length∧qd3 l≤19:=by
 unfold qd3
 have h1:=qbn isL l
 simp only
 split
 ·rename_i h
  have : ∀ t∈qfg,t.length≤19:=by decide
  have:=this _ h
  rw[List.length_take] at this
  omega
 ·omega
theorem qsn(l:List UInt8):qd2 l≤l.length∧qd2 l≤19:=by
 unfold qd2
 split
 ·rename_i h
  have : ∀ t∈qrj,t.length=2:=by decide
  have:=this _ h
  rw[List.length_take] at this
  omega
 ·split
  ·simp
  ·split
   ·simp
   ·simp
theorem qjw(l:List UInt8):qar l≤l.length∧qar l≤19:=by
 unfold qar
 split
 ·simp
 ·split
  ·exact qva _
  ·split
   ·exact qsu _
   ·exact qsn _
theorem qre : ∀ (n:Nat) (l:List UInt8),l.length≤n → ∀ t,toks l=some t→t.length≤l.length ∧ ∀ x∈t,0<x.length∧x.length≤19
 |n,[],_,t,ht=>by cases ht;simp
 | 0,c :: l,h,t,ht=>absurd h (by simp)
 |n+1,c :: l,h,t,ht=>by
  by_cases h0:qar (c :: l)=0
  ·rw[qjz (by simp) h0] at ht;cases ht
  ·rw[qjy (by simp) h0] at ht
   obtain⟨u,hu,rfl⟩:=Option.map_eq_some_iff.1 ht
   have h1:=qes ((c :: l).drop (qar (c :: l)))
   have h2:=qjw (c :: l)
   rw[List.length_drop] at h1
   simp only[List.length_cons] at h1 h2 h
   obtain⟨h3,h4⟩:=qre n _ (by omega) u hu
   refine⟨by simp only[List.length_cons];omega,fun x hx => ?_⟩
   rcases List.mem_cons.1 hx with rfl | hx
   ·rw[List.length_take,List.length_cons];omega
   ·exact h4 x hx
inductive T
 |bad
 |num (s:Tok)
 |un (o:Tok) (x:T)
 |bin (o:Tok) (x y:T)
def T.lv:T→Nat
 | .bad=>0
 | .num _=>1
 | .un _ x=>x.lv+1
 | .bin _ x y=>max x.lv y.lv+1
def T.sz:T→Nat
 | .bad=>0
 | .num _=>1
 | .un _ x=>x.sz+1
 | .bin _ x y=>x.sz+y.sz+1
theorem T.lv_sz : ∀ x:T,x.lv≤x.sz
 | .bad=>Nat.le_refl _
 | .num _=>Nat.le_refl _
 | .un _ x=>by have:=x.lv_sz;simp only[T.lv,T.sz];omega
 | .bin _ x y=>by have:=x.lv_sz;have:=y.lv_sz;simp only[T.lv,T.sz];omega
structure Res where
 t:T
 r:List Tok
 b:Bool
def ops:Nat→List Tok
 | 0=>[[111,114]]
 | 1=>[[97,110,100]]
 | 3=>[[43],[45]]
 | 4=>[[42],[47],[109,111,100]]
 | 5=>[[114,111,117,110,100]]
 | _=>[]
def qj1:List Tok:=[[61],[60,62],[60],[62],[60,61],[62,61]]
def uns:List Tok:=[[45],[43],[110,111,116],[102,108,111,111,114]]
def next(these:List Tok):List Tok→Option (Tok×List Tok)
 | []=>none
 |o :: l=>if o∈these then some (o,l) else none
theorem qdh{s:List Tok}{l:List Tok}{o:Tok}{r:List Tok}(h:next s l=some (o,r)):l=o :: r∧o∈s:=by
 cases l with
 |nil=>cases h
 |cons a l =>
  change (if a∈s then some (a,l) else none)=_ at h
  by_cases ha:a∈s
  ·rw[if_pos ha] at h;cases h;exact⟨rfl,ha⟩
  ·rw[if_neg ha] at h;cases h
def G:Nat→Nat→T→List Tok→Bool→Res
 | 0,_,_,l,_=>⟨.bad,l,true⟩
 |n+1,2,_,l,b =>
  let x:=G n 3 .bad l b
  match next qj1 x.r with
  |some (o,r)=>let y:=G n 3 .bad r x.b;⟨.bin o x.t y.t,y.r,y.b⟩
  |none=>x
 |n+1,6,_,l,b =>
  match next uns l with
  |some (o,r)=>let x:=G n 6 .bad r b;⟨.un o x.t,x.r,x.b⟩
  |none=>G n 7 .bad l b
 |n+1,7,_,l,b =>
  let x:=G n 8 .bad l b
  match next [[94]] x.r with
  |some (o,r)=>let y:=G n 6 .bad r x.b;⟨.bin o x.t y.t,y.r,y.b⟩
  |none=>x
 |n+1,8,_,l,b =>
  match l with
  | []=>⟨.bad,[],true⟩
  |t :: l' =>
   if (t.head?.map isD).getD false then⟨.num t,l',b⟩ else
   if t=[40] then
    let x:=G n 0 .bad l' b
    match next [[41]] x.r with
    |some (_,r)=>⟨.un [40] x.t,r,x.b⟩
    |none=>⟨.un [40] x.t,x.r,true⟩
   else⟨.bad,t :: l',true⟩
 |n+1,k,x,l,b =>
  if k<10 then let y:=G n (k+1) .bad l b;G n (10+k) y.t y.r y.b else
  match next (ops (k-10)) l with
  |some (o,r)=>let y:=G n (k-9) .bad r b;G n k (.bin o x y.t) y.r y.b
  |none=>⟨x,l,b⟩
theorem G_2(n:Nat)(x:T)(l:List Tok)(b:Bool):G (n+1) 2 x l b=(match next qj1 (G n 3 .bad l b).r with
  |some (o,r)=>⟨.bin o (G n 3 .bad l b).t (G n 3 .bad r (G n 3 .bad l b).b).t,(G n 3 .bad r (G n 3 .bad l b).b).r,(G n 3 .bad r (G n 3 .bad l b).b).b⟩
  |none=>G n 3 .bad l b):=rfl
theorem G_6(n:Nat)(x:T)(l:List Tok)(b:Bool):G (n+1) 6 x l b=(match next uns l with
  |some (o,r)=>⟨.un o (G n 6 .bad r b).t,(G n 6 .bad r b).r,(G n 6 .bad r b).b⟩
  |none=>G n 7 .bad l b):=rfl
theorem G_7(n:Nat)(x:T)(l:List Tok)(b:Bool):G (n+1) 7 x l b=(match next [[94]] (G n 8 .bad l b).r with
  |some (o,r)=>⟨.bin o (G n 8 .bad l b).t (G n 6 .bad r (G n 8 .bad l b).b).t,(G n 6 .bad r (G n 8 .bad l b).b).r,(G n 6 .bad r (G n 8 .bad l b).b).b⟩
  |none=>G n 8 .bad l b):=rfl
def qia(t:Tok):Bool:=(t.head?.map isD).getD false
theorem xcz(n:Nat)(x:T)(b:Bool):G (n+1) 8 x [] b=⟨.bad,[],true⟩:=rfl
theorem q8o(n:Nat)(x:T)(t:Tok)(l:List Tok)(b:Bool)(h:qia t=true):G (n+1) 8 x (t :: l) b=⟨.num t,l,b⟩:=by
 unfold qia at h;show ite _ _ _=_;rw[if_pos h]
theorem q8p(n:Nat)(x:T)(l:List Tok)(b:Bool):G (n+1) 8 x ([40] :: l) b=(match next [[41]] (G n 0 .bad l b).r with
  |some (_,r)=>⟨.un [40] (G n 0 .bad l b).t,r,(G n 0 .bad l b).b⟩
  |none=>⟨.un [40] (G n 0 .bad l b).t,(G n 0 .bad l b).r,true⟩):=rfl
theorem q8q(n:Nat)(x:T)(t:Tok)(l:List Tok)(b:Bool)(h:qia t=false)(h2:t≠[40]):G (n+1) 8 x (t :: l) b=⟨.bad,t :: l,true⟩:=by
 unfold qia at h;show ite _ _ _=_;rw[if_neg (by rw[h];decide),if_neg h2]
theorem qxs(n k:Nat)(x:T)(l:List Tok)(b:Bool)(h:k<10)(h2:k≠2)(h6:k≠6)(h7:k≠7)(h8:k≠8) :
  G (n+1) k x l b=G n (10+k) (G n (k+1) .bad l b).t (G n (k+1) .bad l b).r (G n (k+1) .bad l b).b:=by
 match k,h,h2,h6,h7,h8 with
 | 0,_,_,_,_,_=>rfl
 | 1,_,_,_,_,_=>rfl
 | 3,_,_,_,_,_=>rfl
 | 4,_,_,_,_,_=>rfl
 | 5,_,_,_,_,_=>rfl
 | 9,_,_,_,_,_=>rfl
theorem q8k(n k:Nat)(x:T)(l:List Tok)(b:Bool):G (n+1) (10+k) x l b=(match next (ops k) l with
  |some (o,r)=>G n (10+k) (.bin o x (G n (k+1) .bad r b).t) (G n (k+1) .bad r b).r (G n (k+1) .bad r b).b
  |none=>⟨x,l,b⟩):=by
 rw[show 10+k=k+9+1 by omega]
 show(if k+9+1<10 then _ else _)=_
 rw[if_neg (by omega),show k+9+1-10=k by omega,show k+9+1-9=k+1 by omega]
theorem qj8 : ∀ (n k:Nat) (x:T) (l:List Tok) (b:Bool),(G n k x l b).t.sz+(G n k x l b).r.length≤x.sz+l.length
 | 0,k,x,l,b=>by simp only[G,T.sz];omega
 |n+1,k,x,l,b=>by
  have nx : ∀ {s:List Tok} {l:List Tok} {o:Tok} {r:List Tok},next s l=some (o,r)→l.length=r.length+1:=fun h=>by rw[(qdh h).1];rfl
  by_cases h2:k=2
  ·subst h2;rw[G_2]
   have h1:=qj8 n 3 .bad l b
   split
   ·rename_i o r h
    have h3:=qj8 n 3 .bad r (G n 3 .bad l b).b
    have h4:=nx h
    simp only[T.sz] at *;omega
   ·simp only[T.sz] at *;omega
  by_cases h6:k=6
  ·subst h6;rw[G_6]
   split
   ·rename_i o r h
    have h3:=qj8 n 6 .bad r b
    have h4:=nx h
    simp only[T.sz] at *;omega
   ·have h1:=qj8 n 7 .bad l b
    simp only[T.sz] at *;omega
  by_cases h7:k=7
  ·subst h7;rw[G_7]
   have h1:=qj8 n 8 .bad l b
   split
   ·rename_i o r h
    have h3:=qj8 n 6 .bad r (G n 8 .bad l b).b
    have h4:=nx h
    simp only[T.sz] at *;omega
   ·simp only[T.sz] at *;omega
  by_cases h8:k=8
  ·subst h8
   cases l with
   |nil=>rw[xcz];simp only[T.sz,List.length_nil];omega
   |cons t l =>
    cases ht:qia t
    ·by_cases hp:t=[40]
     ·subst hp;rw[q8p]
      have h1:=qj8 n 0 .bad l b
      split
      ·rename_i o r h
       have h4:=nx h
       simp only[T.sz,List.length_cons] at *;omega
      ·simp only[T.sz,List.length_cons] at *;omega
     ·rw[q8q _ _ _ _ _ ht hp];simp only[T.sz];omega
    ·rw[q8o _ _ _ _ _ ht];simp only[T.sz,List.length_cons];omega
  by_cases h:k<10
  ·rw[qxs n k x l b h h2 h6 h7 h8]
   have h1:=qj8 n (k+1) .bad l b
   have h3:=qj8 n (10+k) (G n (k+1) .bad l b).t (G n (k+1) .bad l b).r (G n (k+1) .bad l b).b
   simp only[T.sz] at *;omega
  ·obtain⟨j,rfl⟩ : ∃ j,k=10+j:=⟨k-10,by omega⟩
   rw[q8k]
   split
   ·rename_i o r h
    have h4:=nx h
    have h1:=qj8 n (j+1) .bad r b
    have h3:=qj8 n (10+j) (.bin o x (G n (j+1) .bad r b).t) (G n (j+1) .bad r b).r (G n (j+1) .bad r b).b
    simp only[T.sz] at *;omega
   ·simp only;omega
end Go.Proofs.YtldkgbnmaefaaaaGreatDoor.Fo
namespace Go.Proofs.YtldkgbnmaefaaaaGreatDoor.Fo
open Go.Proofs.YtldkgbnmaefaaaaGreatDoor.Nu
def tr(b:Bool):R3:=if b then⟨1,1,0⟩ else⟨0,1,0⟩
def pwr(a:R3):Nat→R3
 | 0=>⟨1,1,0⟩
 |k+1=>let r:=pwr a k;if r.e=0 then mul r.n r.d a.n a.d else r
def qam(o:Tok)(c:Int):Bool :=
 if o=[61] then decide (c=0) else if o=[60,62] then !decide (c=0) else if o=[60] then decide (c<0) else if o=[62] then decide (0<c) else if o=[60,61] then decide (c≤0) else decide (0≤c)
def ap1(o:Tok)(a:R3):R3 :=
 if o=[45] then sub 0 1 a.n a.d else if o=[110,111,116] then tr (decide (a.n=0)) else if o=[102,108,111,111,114] then⟨flr a.n a.d,1,0⟩ else a
def qq7(a c:R3):R3:=if c.d=1 then rnd a.n a.d c.n else⟨0,0,2⟩
def pwF(a c:R3):R3:=if c.d=1∧0≤c.n∧c.n≤30 then pwr a c.n.toNat else⟨0,0,2⟩
def ap2(o:Tok)(a c:R3):R3 :=
 if o=[43] then add a.n a.d c.n c.d else if o=[45] then sub a.n a.d c.n c.d else if o=[42] then mul a.n a.d c.n c.d else if o=[47] then div a.n a.d c.n c.d
 else if o=[109,111,100] then mod a.n a.d c.n c.d else if o=[114,111,117,110,100] then qq7 a c else if o=[94] then pwF a c
 else if o=[97,110,100] then tr (decide (a.n≠0)&&decide (c.n≠0)) else if o=[111,114] then tr (decide (a.n≠0)||decide (c.n≠0))
 else tr (qam o (cmp a.n a.d c.n c.d))
def val:T→R3
 | .bad=>⟨0,0,1⟩
 | .num s=>parse s
 | .un o x=>if (val x).e=0 then ap1 o (val x) else⟨0,0,(val x).e⟩
 | .bin o x y=>if (val x).e=0 then (if (val y).e=0 then ap2 o (val x) (val y) else⟨0,0,(val y).e⟩) else⟨0,0,(val x).e⟩
def fuel(l:List Tok):Nat:=20*l.length+20
def top(l:List Tok):Res:=G (fuel l) 0 .bad l false
def evT(l:List Tok):R3 :=
 if (top l).b=false∧(top l).r=[] then (if 20<(top l).t.lv then⟨0,0,17⟩ else val (top l).t) else⟨0,0,1⟩
def ev(s:List UInt8):R3 :=
 if 400<s.length then⟨0,0,3⟩ else match qcy s with
 |none=>⟨0,0,1⟩
 |some l=>evT l
end Go.Proofs.YtldkgbnmaefaaaaGreatDoor.Fo
namespace Go.Proofs.YtldkgbnmaefaaaaGreatDoor.Fo
open Go.RowKit Go.Proofs.YtldkgbnmaefaaaaGreatDoor.Nu
set_option linter.unusedVariables false
set_option linter.unusedSimpArgs false
def res(r:R3):Value := .tuple #[.agg #[.int .i64 r.n,.int .i64 r.d],.int .i64 r.e]
theorem qa6(i:Int)(w:World):Calls Tryz.prog 255 #[.int .i64 i] w fun e w'=>e=.returned (.agg #[.int .i64 i,.int .i64 1])∧Below w.heap.size w w':=by
 go_enter Tryz.func255,Tryz.ntmps255
 go_wp2
 exact bodyPost_ret (v := .agg #[.int .i64 i,.int .i64 1]) (by simp[results,Tryz.results255,go_sem]) rfl ⟨rfl,(Below.refl _ w).alloc (Nat.le_refl _) _⟩
theorem xew{w W:World}(h:Below w.heap.size w W)(u v:Value):Below w.heap.size w ((W.setCell ⟨w.heap.size,0,none⟩ u).setCell ⟨w.heap.size,1,none⟩ v):=(h.setCell (Nat.le_refl _) _).setCell (Nat.le_refl _) _
theorem qbt(b:Bool)(w:World):Calls Tryz.prog 256 #[.bool b] w fun e w'=>e=.returned (.agg #[.int .i64 (tr b).n,.int .i64 1])∧Below w.heap.size w w':=by
 cases b
 all_goals
  go_enter Tryz.func256,Tryz.ntmps256
  go_wp2_with fail
  refine(qa6 _ _).mono ?_
  rintro e w1⟨rfl,hb⟩
  obtain⟨hc,hf⟩:=qad hb
  have hz:w.heap.size<w1.heap.size:=by have:=hb.size;simp at this;omega
  have HB:=hid (qap hb)
  go_wp2
  first
   |exact bodyPost_ret (v := .agg #[.int .i64 0,.int .i64 1]) (by simp[results,Tryz.results256,go_sem,hc]) rfl ⟨rfl,xew HB.out _ _⟩
   |exact bodyPost_ret (v := .agg #[.int .i64 1,.int .i64 1]) (by simp[results,Tryz.results256,go_sem,hc]) rfl ⟨rfl,xew HB.out _ _⟩
theorem qbr(n d:Int)(w:World):Calls Tryz.prog 257 #[.agg #[.int .i64 n,.int .i64 d]] w fun e w'=>e=.returned (.bool (decide (n≠0)))∧Below w.heap.size w w':=by
 by_cases hn:n=0
 ·subst hn
  go_enter Tryz.func257,Tryz.ntmps257
  go_wp2
  go_ret
  exact⟨rfl,(Below.refl _ w).alloc (Nat.le_refl _) _⟩
 ·have hd:(n==0)=false:=by simpa using hn
  have HN:=hid hn;clear hn
  go_enter Tryz.func257,Tryz.ntmps257
  go_wp2
  go_ret
  exact⟨by rw[decide_eq_true HN.out];simp[hd,bne],(Below.refl _ w).alloc (Nat.le_refl _) _⟩
theorem qy3(c:Int)(hc:c = -1∨c=0∨c=1)(w:World):Calls Tryz.prog 265 #[.string ⟨#[61]⟩,.int .i64 c] w fun e w'=>e=.returned (.bool (qam [61] c))∧w'=w:=by
 rcases hc with rfl | rfl | rfl
 all_goals
  go_enter Tryz.func265,Tryz.ntmps265
  go_wp2
  go_ret
  exact⟨rfl,rfl⟩
theorem qy8(c:Int)(hc:c = -1∨c=0∨c=1)(w:World):Calls Tryz.prog 265 #[.string ⟨#[60,62]⟩,.int .i64 c] w fun e w'=>e=.returned (.bool (qam [60,62] c))∧w'=w:=by
 rcases hc with rfl | rfl | rfl
 all_goals
  go_enter Tryz.func265,Tryz.ntmps265
  go_wp2
  go_ret
  exact⟨rfl,rfl⟩
theorem qy7(c:Int)(hc:c = -1∨c=0∨c=1)(w:World):Calls Tryz.prog 265 #[.string ⟨#[60]⟩,.int .i64 c] w fun e w'=>e=.returned (.bool (qam [60] c))∧w'=w:=by
 rcases hc with rfl | rfl | rfl
 all_goals
  go_enter Tryz.func265,Tryz.ntmps265
  go_wp2
  go_ret
  exact⟨rfl,rfl⟩
theorem qy5(c:Int)(hc:c = -1∨c=0∨c=1)(w:World):Calls Tryz.prog 265 #[.string ⟨#[62]⟩,.int .i64 c] w fun e w'=>e=.returned (.bool (qam [62] c))∧w'=w:=by
 rcases hc with rfl | rfl | rfl
 all_goals
  go_enter Tryz.func265,Tryz.ntmps265
  go_wp2
  go_ret
  exact⟨rfl,rfl⟩
theorem qy6(c:Int)(hc:c = -1∨c=0∨c=1)(w:World):Calls Tryz.prog 265 #[.string ⟨#[60,61]⟩,.int .i64 c] w fun e w'=>e=.returned (.bool (qam [60,61] c))∧w'=w:=by
 rcases hc with rfl | rfl | rfl
 all_goals
  go_enter Tryz.func265,Tryz.ntmps265
  go_wp2
  go_ret
  exact⟨rfl,rfl⟩
theorem qy4(c:Int)(hc:c = -1∨c=0∨c=1)(w:World):Calls Tryz.prog 265 #[.string ⟨#[62,61]⟩,.int .i64 c] w fun e w'=>e=.returned (.bool (qam [62,61] c))∧w'=w:=by
 rcases hc with rfl | rfl | rfl
 all_goals
  go_enter Tryz.func265,Tryz.ntmps265
  go_wp2
  go_ret
  exact⟨rfl,rfl⟩
theorem qd8(a p b q:Int):cmp a p b q = -1∨cmp a p b q=0∨cmp a p b q=1:=by
 unfold cmp;repeat' split
 all_goals omega
theorem q9x(a p b q:Int)(w:World):Calls Tryz.prog 227 #[.string ⟨#[43]⟩,.agg #[.int .i64 a,.int .i64 p],.agg #[.int .i64 b,.int .i64 q]] w fun e w'=>e=.returned (res (add a p b q))∧Below w.heap.size w w':=by
 go_enter Tryz.func227,Tryz.ntmps227
 go_wp2_with fail
 refine(qk0 a p b q _).mono ?_
 rintro e w1⟨rfl,hb⟩
 obtain⟨hc,hf⟩:=qad hb
 obtain⟨z0,z1,z2⟩:=qbp hb
 have HB:=hid (qav hb)
 go_wp2
 exact bodyPost_ret (v:=res (add a p b q)) (by simp[results,Tryz.results227,go_sem,hc,res]) rfl ⟨rfl,qc7 HB.out _ _⟩
theorem xae(a p b q:Int)(h:I64 b)(w:World):Calls Tryz.prog 227 #[.string ⟨#[45]⟩,.agg #[.int .i64 a,.int .i64 p],.agg #[.int .i64 b,.int .i64 q]] w fun e w'=>e=.returned (res (sub a p b q))∧Below w.heap.size w w':=by
 go_enter Tryz.func227,Tryz.ntmps227
 go_wp2_with fail
 refine(qtj a p b q _ h).mono ?_
 rintro e w1⟨rfl,hb⟩
 obtain⟨hc,hf⟩:=qad hb
 obtain⟨z0,z1,z2⟩:=qbp hb
 have HB:=hid (qav hb)
 go_wp2
 exact bodyPost_ret (v:=res (sub a p b q)) (by simp[results,Tryz.results227,go_sem,hc,res]) rfl ⟨rfl,qc7 HB.out _ _⟩
theorem xab(a p b q:Int)(w:World):Calls Tryz.prog 227 #[.string ⟨#[42]⟩,.agg #[.int .i64 a,.int .i64 p],.agg #[.int .i64 b,.int .i64 q]] w fun e w'=>e=.returned (res (mul a p b q))∧Below w.heap.size w w':=by
 go_enter Tryz.func227,Tryz.ntmps227
 go_wp2_with fail
 refine(qs4 a p b q _).mono ?_
 rintro e w1⟨rfl,hb⟩
 obtain⟨hc,hf⟩:=qad hb
 obtain⟨z0,z1,z2⟩:=qbp hb
 have HB:=hid (qav hb)
 go_wp2
 exact bodyPost_ret (v:=res (mul a p b q)) (by simp[results,Tryz.results227,go_sem,hc,res]) rfl ⟨rfl,qc7 HB.out _ _⟩
theorem q9z(a p b q:Int)(w:World):Calls Tryz.prog 227 #[.string ⟨#[47]⟩,.agg #[.int .i64 a,.int .i64 p],.agg #[.int .i64 b,.int .i64 q]] w fun e w'=>e=.returned (res (div a p b q))∧Below w.heap.size w w':=by
 go_enter Tryz.func227,Tryz.ntmps227
 go_wp2_with fail
 refine(q2x a p b q _).mono ?_
 rintro e w1⟨rfl,hb⟩
 obtain⟨hc,hf⟩:=qad hb
 obtain⟨z0,z1,z2⟩:=qbp hb
 have HB:=hid (qav hb)
 go_wp2
 exact bodyPost_ret (v:=res (div a p b q)) (by simp[results,Tryz.results227,go_sem,hc,res]) rfl ⟨rfl,qc7 HB.out _ _⟩
theorem xaa(a p b q:Int)(w:World):Calls Tryz.prog 227 #[.string ⟨#[109,111,100]⟩,.agg #[.int .i64 a,.int .i64 p],.agg #[.int .i64 b,.int .i64 q]] w fun e w'=>e=.returned (res (mod a p b q))∧Below w.heap.size w w':=by
 go_enter Tryz.func227,Tryz.ntmps227
 go_wp2_with fail
 refine(q3a a p b q _).mono ?_
 rintro e w1⟨rfl,hb⟩
 obtain⟨hc,hf⟩:=qad hb
 obtain⟨z0,z1,z2⟩:=qbp hb
 have HB:=hid (qav hb)
 go_wp2
 exact bodyPost_ret (v:=res (mod a p b q)) (by simp[results,Tryz.results227,go_sem,hc,res]) rfl ⟨rfl,qc7 HB.out _ _⟩
end Go.Proofs.YtldkgbnmaefaaaaGreatDoor.Fo
namespace Go.Proofs.YtldkgbnmaefaaaaGreatDoor.Fo
open Go.RowKit Go.Proofs.YtldkgbnmaefaaaaGreatDoor.Nu
set_option linter.unusedVariables false
set_option linter.unusedSimpArgs false
theorem q9y(a p b q:Int)(w:World):Calls Tryz.prog 227 #[.string ⟨#[97,110,100]⟩,.agg #[.int .i64 a,.int .i64 p],.agg #[.int .i64 b,.int .i64 q]] w fun e w'=>e=.returned (res (tr (decide (a≠0)&&decide (b≠0))))∧Below w.heap.size w w':=by
 cases ha:decide (a≠0)
 ·have HA:=hid ha;clear ha
  rw[Bool.false_and]
  go_enter Tryz.func227,Tryz.ntmps227
  go_wp2_with fail
  refine(qbr a p _).mono ?_
  rintro e w1⟨rfl,hb⟩
  rw[HA.out]
  obtain⟨hc,hf⟩:=qad hb
  obtain⟨y0,y1,y2⟩:=qbp hb
  have HB:=hid (qav hb)
  go_wp2_with fail
  refine(qbt false _).mono ?_
  rintro e w9⟨rfl,hb9⟩
  obtain⟨hc9,hf9⟩:=qad hb9
  obtain⟨z0,z1,z2⟩:=qdj y2 hb9
  have HB9:=hid (HB.out.trans (hb9.mono HB.out.size))
  go_wp2
  exact bodyPost_ret (v:=res (tr false)) (by simp[results,Tryz.results227,go_sem,hc9,hc,y2,res,tr]) rfl ⟨rfl,qc7 HB9.out _ _⟩
 ·have HA:=hid ha;clear ha
  rw[Bool.true_and]
  cases hq:decide (b≠0)
  ·have HQ:=hid hq;clear hq
   go_enter Tryz.func227,Tryz.ntmps227
   go_wp2_with fail
   refine(qbr a p _).mono ?_
   rintro e w1⟨rfl,hb⟩
   rw[HA.out]
   obtain⟨hc,hf⟩:=qad hb
   obtain⟨y0,y1,y2⟩:=qbp hb
   have HB:=hid (qav hb)
   go_wp2_with fail
   refine(qbr b q _).mono ?_
   rintro e w2⟨rfl,hb2⟩
   rw[HQ.out]
   obtain⟨hc2,hf2⟩:=qad hb2
   obtain⟨x0,x1,x2⟩:=qdj y2 hb2
   have HB2:=hid (HB.out.trans (hb2.mono HB.out.size))
   go_wp2_with fail
   refine(qbt false _).mono ?_
   rintro e w9⟨rfl,hb9⟩
   obtain⟨hc9,hf9⟩:=qad hb9
   obtain⟨z0,z1,z2⟩:=qdj x2 hb9
   have HB9:=hid (HB2.out.trans (hb9.mono HB2.out.size))
   go_wp2
   exact bodyPost_ret (v:=res (tr false)) (by simp[results,Tryz.results227,go_sem,hc9,hc2,hc,y2,x2,res,tr]) rfl ⟨rfl,qc7 HB9.out _ _⟩
  ·have HQ:=hid hq;clear hq
   go_enter Tryz.func227,Tryz.ntmps227
   go_wp2_with fail
   refine(qbr a p _).mono ?_
   rintro e w1⟨rfl,hb⟩
   rw[HA.out]
   obtain⟨hc,hf⟩:=qad hb
   obtain⟨y0,y1,y2⟩:=qbp hb
   have HB:=hid (qav hb)
   go_wp2_with fail
   refine(qbr b q _).mono ?_
   rintro e w2⟨rfl,hb2⟩
   rw[HQ.out]
   obtain⟨hc2,hf2⟩:=qad hb2
   obtain⟨x0,x1,x2⟩:=qdj y2 hb2
   have HB2:=hid (HB.out.trans (hb2.mono HB.out.size))
   go_wp2_with fail
   refine(qbt true _).mono ?_
   rintro e w9⟨rfl,hb9⟩
   obtain⟨hc9,hf9⟩:=qad hb9
   obtain⟨z0,z1,z2⟩:=qdj x2 hb9
   have HB9:=hid (HB2.out.trans (hb9.mono HB2.out.size))
   go_wp2
   exact bodyPost_ret (v:=res (tr true)) (by simp[results,Tryz.results227,go_sem,hc9,hc2,hc,y2,x2,res,tr]) rfl ⟨rfl,qc7 HB9.out _ _⟩
theorem xdk(a p b q:Int)(w:World):Calls Tryz.prog 227 #[.string ⟨#[111,114]⟩,.agg #[.int .i64 a,.int .i64 p],.agg #[.int .i64 b,.int .i64 q]] w fun e w'=>e=.returned (res (tr (decide (a≠0)||decide (b≠0))))∧Below w.heap.size w w':=by
 cases ha:decide (a≠0)
 ·have HA:=hid ha;clear ha
  rw[Bool.false_or]
  cases hq:decide (b≠0)
  ·have HQ:=hid hq;clear hq
   go_enter Tryz.func227,Tryz.ntmps227
   go_wp2_with fail
   refine(qbr a p _).mono ?_
   rintro e w1⟨rfl,hb⟩
   rw[HA.out]
   obtain⟨hc,hf⟩:=qad hb
   obtain⟨y0,y1,y2⟩:=qbp hb
   have HB:=hid (qav hb)
   go_wp2_with fail
   refine(qbr b q _).mono ?_
   rintro e w2⟨rfl,hb2⟩
   rw[HQ.out]
   obtain⟨hc2,hf2⟩:=qad hb2
   obtain⟨x0,x1,x2⟩:=qdj y2 hb2
   have HB2:=hid (HB.out.trans (hb2.mono HB.out.size))
   go_wp2_with fail
   refine(qbt false _).mono ?_
   rintro e w9⟨rfl,hb9⟩
   obtain⟨hc9,hf9⟩:=qad hb9
   obtain⟨z0,z1,z2⟩:=qdj x2 hb9
   have HB9:=hid (HB2.out.trans (hb9.mono HB2.out.size))
   go_wp2
   exact bodyPost_ret (v:=res (tr false)) (by simp[results,Tryz.results227,go_sem,hc9,hc2,hc,y2,x2,res,tr]) rfl ⟨rfl,qc7 HB9.out _ _⟩
  ·have HQ:=hid hq;clear hq
   go_enter Tryz.func227,Tryz.ntmps227
   go_wp2_with fail
   refine(qbr a p _).mono ?_
   rintro e w1⟨rfl,hb⟩
   rw[HA.out]
   obtain⟨hc,hf⟩:=qad hb
   obtain⟨y0,y1,y2⟩:=qbp hb
   have HB:=hid (qav hb)
   go_wp2_with fail
   refine(qbr b q _).mono ?_
   rintro e w2⟨rfl,hb2⟩
   rw[HQ.out]
   obtain⟨hc2,hf2⟩:=qad hb2
   obtain⟨x0,x1,x2⟩:=qdj y2 hb2
   have HB2:=hid (HB.out.trans (hb2.mono HB.out.size))
   go_wp2_with fail
   refine(qbt true _).mono ?_
   rintro e w9⟨rfl,hb9⟩
   obtain⟨hc9,hf9⟩:=qad hb9
   obtain⟨z0,z1,z2⟩:=qdj x2 hb9
   have HB9:=hid (HB2.out.trans (hb9.mono HB2.out.size))
   go_wp2
   exact bodyPost_ret (v:=res (tr true)) (by simp[results,Tryz.results227,go_sem,hc9,hc2,hc,y2,x2,res,tr]) rfl ⟨rfl,qc7 HB9.out _ _⟩
 ·have HA:=hid ha;clear ha
  rw[Bool.true_or]
  go_enter Tryz.func227,Tryz.ntmps227
  go_wp2_with fail
  refine(qbr a p _).mono ?_
  rintro e w1⟨rfl,hb⟩
  rw[HA.out]
  obtain⟨hc,hf⟩:=qad hb
  obtain⟨y0,y1,y2⟩:=qbp hb
  have HB:=hid (qav hb)
  go_wp2_with fail
  refine(qbt true _).mono ?_
  rintro e w9⟨rfl,hb9⟩
  obtain⟨hc9,hf9⟩:=qad hb9
  obtain⟨z0,z1,z2⟩:=qdj y2 hb9
  have HB9:=hid (HB.out.trans (hb9.mono HB.out.size))
  go_wp2
  exact bodyPost_ret (v:=res (tr true)) (by simp[results,Tryz.results227,go_sem,hc9,hc,y2,res,tr]) rfl ⟨rfl,qc7 HB9.out _ _⟩
theorem xde(a p b q:Int)(w:World):Calls Tryz.prog 227 #[.string ⟨#[61]⟩,.agg #[.int .i64 a,.int .i64 p],.agg #[.int .i64 b,.int .i64 q]] w fun e w'=>e=.returned (res (tr (qam [61] (cmp a p b q))))∧Below w.heap.size w w':=by
 have H3:=hid (fun w=>qy3 (cmp a p b q) (qd8 a p b q) w)
 have HC:=hid (fun w=>qc8 a p b q w)
 generalize cmp a p b q=c at H3 HC ⊢
 cases hh:qam [61] c
 all_goals
  have HH:=hid hh;clear hh
  go_enter Tryz.func227,Tryz.ntmps227
  go_wp2_with fail
  refine(HC.out _).mono ?_
  rintro e w1⟨rfl,hb⟩
  obtain⟨hc,hf⟩:=qad hb
  obtain⟨y0,y1,y2⟩:=qbp hb
  have HB:=hid (qav hb)
  go_wp2_with fail
  refine(H3.out _).mono ?_
  rintro e w2⟨rfl,rfl⟩
  rw[HH.out]
  go_wp2_with fail
  refine(qbt _ _).mono ?_
  rintro e w9⟨rfl,hb9⟩
  obtain⟨hc9,hf9⟩:=qad hb9
  obtain⟨z0,z1,z2⟩:=qdj y2 hb9
  have HB9:=hid (HB.out.trans (hb9.mono HB.out.size))
  go_wp2
  first
   |exact bodyPost_ret (v:=res (tr false)) (by simp[results,Tryz.results227,go_sem,hc9,hc,y2,res,tr]) rfl ⟨rfl,qc7 HB9.out _ _⟩
   |exact bodyPost_ret (v:=res (tr true)) (by simp[results,Tryz.results227,go_sem,hc9,hc,y2,res,tr]) rfl ⟨rfl,qc7 HB9.out _ _⟩
theorem xdj(a p b q:Int)(w:World):Calls Tryz.prog 227 #[.string ⟨#[60,62]⟩,.agg #[.int .i64 a,.int .i64 p],.agg #[.int .i64 b,.int .i64 q]] w fun e w'=>e=.returned (res (tr (qam [60,62] (cmp a p b q))))∧Below w.heap.size w w':=by
 have H3:=hid (fun w=>qy8 (cmp a p b q) (qd8 a p b q) w)
 have HC:=hid (fun w=>qc8 a p b q w)
 generalize cmp a p b q=c at H3 HC ⊢
 cases hh:qam [60,62] c
 all_goals
  have HH:=hid hh;clear hh
  go_enter Tryz.func227,Tryz.ntmps227
  go_wp2_with fail
  refine(HC.out _).mono ?_
  rintro e w1⟨rfl,hb⟩
  obtain⟨hc,hf⟩:=qad hb
  obtain⟨y0,y1,y2⟩:=qbp hb
  have HB:=hid (qav hb)
  go_wp2_with fail
  refine(H3.out _).mono ?_
  rintro e w2⟨rfl,rfl⟩
  rw[HH.out]
  go_wp2_with fail
  refine(qbt _ _).mono ?_
  rintro e w9⟨rfl,hb9⟩
  obtain⟨hc9,hf9⟩:=qad hb9
  obtain⟨z0,z1,z2⟩:=qdj y2 hb9
  have HB9:=hid (HB.out.trans (hb9.mono HB.out.size))
  go_wp2
  first
   |exact bodyPost_ret (v:=res (tr false)) (by simp[results,Tryz.results227,go_sem,hc9,hc,y2,res,tr]) rfl ⟨rfl,qc7 HB9.out _ _⟩
   |exact bodyPost_ret (v:=res (tr true)) (by simp[results,Tryz.results227,go_sem,hc9,hc,y2,res,tr]) rfl ⟨rfl,qc7 HB9.out _ _⟩
theorem xdi(a p b q:Int)(w:World):Calls Tryz.prog 227 #[.string ⟨#[60]⟩,.agg #[.int .i64 a,.int .i64 p],.agg #[.int .i64 b,.int .i64 q]] w fun e w'=>e=.returned (res (tr (qam [60] (cmp a p b q))))∧Below w.heap.size w w':=by
 have H3:=hid (fun w=>qy7 (cmp a p b q) (qd8 a p b q) w)
 have HC:=hid (fun w=>qc8 a p b q w)
 generalize cmp a p b q=c at H3 HC ⊢
 cases hh:qam [60] c
 all_goals
  have HH:=hid hh;clear hh
  go_enter Tryz.func227,Tryz.ntmps227
  go_wp2_with fail
  refine(HC.out _).mono ?_
  rintro e w1⟨rfl,hb⟩
  obtain⟨hc,hf⟩:=qad hb
  obtain⟨y0,y1,y2⟩:=qbp hb
  have HB:=hid (qav hb)
  go_wp2_with fail
  refine(H3.out _).mono ?_
  rintro e w2⟨rfl,rfl⟩
  rw[HH.out]
  go_wp2_with fail
  refine(qbt _ _).mono ?_
  rintro e w9⟨rfl,hb9⟩
  obtain⟨hc9,hf9⟩:=qad hb9
  obtain⟨z0,z1,z2⟩:=qdj y2 hb9
  have HB9:=hid (HB.out.trans (hb9.mono HB.out.size))
  go_wp2
  first
   |exact bodyPost_ret (v:=res (tr false)) (by simp[results,Tryz.results227,go_sem,hc9,hc,y2,res,tr]) rfl ⟨rfl,qc7 HB9.out _ _⟩
   |exact bodyPost_ret (v:=res (tr true)) (by simp[results,Tryz.results227,go_sem,hc9,hc,y2,res,tr]) rfl ⟨rfl,qc7 HB9.out _ _⟩
theorem xdg(a p b q:Int)(w:World):Calls Tryz.prog 227 #[.string ⟨#[62]⟩,.agg #[.int .i64 a,.int .i64 p],.agg #[.int .i64 b,.int .i64 q]] w fun e w'=>e=.returned (res (tr (qam [62] (cmp a p b q))))∧Below w.heap.size w w':=by
 have H3:=hid (fun w=>qy5 (cmp a p b q) (qd8 a p b q) w)
 have HC:=hid (fun w=>qc8 a p b q w)
 generalize cmp a p b q=c at H3 HC ⊢
 cases hh:qam [62] c
 all_goals
  have HH:=hid hh;clear hh
  go_enter Tryz.func227,Tryz.ntmps227
  go_wp2_with fail
  refine(HC.out _).mono ?_
  rintro e w1⟨rfl,hb⟩
  obtain⟨hc,hf⟩:=qad hb
  obtain⟨y0,y1,y2⟩:=qbp hb
  have HB:=hid (qav hb)
  go_wp2_with fail
  refine(H3.out _).mono ?_
  rintro e w2⟨rfl,rfl⟩
  rw[HH.out]
  go_wp2_with fail
  refine(qbt _ _).mono ?_
  rintro e w9⟨rfl,hb9⟩
  obtain⟨hc9,hf9⟩:=qad hb9
  obtain⟨z0,z1,z2⟩:=qdj y2 hb9
  have HB9:=hid (HB.out.trans (hb9.mono HB.out.size))
  go_wp2
  first
   |exact bodyPost_ret (v:=res (tr false)) (by simp[results,Tryz.results227,go_sem,hc9,hc,y2,res,tr]) rfl ⟨rfl,qc7 HB9.out _ _⟩
   |exact bodyPost_ret (v:=res (tr true)) (by simp[results,Tryz.results227,go_sem,hc9,hc,y2,res,tr]) rfl ⟨rfl,qc7 HB9.out _ _⟩
theorem xdh(a p b q:Int)(w:World):Calls Tryz.prog 227 #[.string ⟨#[60,61]⟩,.agg #[.int .i64 a,.int .i64 p],.agg #[.int .i64 b,.int .i64 q]] w fun e w'=>e=.returned (res (tr (qam [60,61] (cmp a p b q))))∧Below w.heap.size w w':=by
 have H3:=hid (fun w=>qy6 (cmp a p b q) (qd8 a p b q) w)
 have HC:=hid (fun w=>qc8 a p b q w)
 generalize cmp a p b q=c at H3 HC ⊢
 cases hh:qam [60,61] c
 all_goals
  have HH:=hid hh;clear hh
  go_enter Tryz.func227,Tryz.ntmps227
  go_wp2_with fail
  refine(HC.out _).mono ?_
  rintro e w1⟨rfl,hb⟩
  obtain⟨hc,hf⟩:=qad hb
  obtain⟨y0,y1,y2⟩:=qbp hb
  have HB:=hid (qav hb)
  go_wp2_with fail
  refine(H3.out _).mono ?_
  rintro e w2⟨rfl,rfl⟩
  rw[HH.out]
  go_wp2_with fail
  refine(qbt _ _).mono ?_
  rintro e w9⟨rfl,hb9⟩
  obtain⟨hc9,hf9⟩:=qad hb9
  obtain⟨z0,z1,z2⟩:=qdj y2 hb9
  have HB9:=hid (HB.out.trans (hb9.mono HB.out.size))
  go_wp2
  first
   |exact bodyPost_ret (v:=res (tr false)) (by simp[results,Tryz.results227,go_sem,hc9,hc,y2,res,tr]) rfl ⟨rfl,qc7 HB9.out _ _⟩
   |exact bodyPost_ret (v:=res (tr true)) (by simp[results,Tryz.results227,go_sem,hc9,hc,y2,res,tr]) rfl ⟨rfl,qc7 HB9.out _ _⟩
theorem xdf(a p b q:Int)(w:World):Calls Tryz.prog 227 #[.string ⟨#[62,61]⟩,.agg #[.int .i64 a,.int .i64 p],.agg #[.int .i64 b,.int .i64 q]] w fun e w'=>e=.returned (res (tr (qam [62,61] (cmp a p b q))))∧Below w.heap.size w w':=by
 have H3:=hid (fun w=>qy4 (cmp a p b q) (qd8 a p b q) w)
 have HC:=hid (fun w=>qc8 a p b q w)
 generalize cmp a p b q=c at H3 HC ⊢
 cases hh:qam [62,61] c
 all_goals
  have HH:=hid hh;clear hh
  go_enter Tryz.func227,Tryz.ntmps227
  go_wp2_with fail
  refine(HC.out _).mono ?_
  rintro e w1⟨rfl,hb⟩
  obtain⟨hc,hf⟩:=qad hb
  obtain⟨y0,y1,y2⟩:=qbp hb
  have HB:=hid (qav hb)
  go_wp2_with fail
  refine(H3.out _).mono ?_
  rintro e w2⟨rfl,rfl⟩
  rw[HH.out]
  go_wp2_with fail
  refine(qbt _ _).mono ?_
  rintro e w9⟨rfl,hb9⟩
  obtain⟨hc9,hf9⟩:=qad hb9
  obtain⟨z0,z1,z2⟩:=qdj y2 hb9
  have HB9:=hid (HB.out.trans (hb9.mono HB.out.size))
  go_wp2
  first
   |exact bodyPost_ret (v:=res (tr false)) (by simp[results,Tryz.results227,go_sem,hc9,hc,y2,res,tr]) rfl ⟨rfl,qc7 HB9.out _ _⟩
   |exact bodyPost_ret (v:=res (tr true)) (by simp[results,Tryz.results227,go_sem,hc9,hc,y2,res,tr]) rfl ⟨rfl,qc7 HB9.out _ _⟩
end Go.Proofs.YtldkgbnmaefaaaaGreatDoor.Fo
namespace Go.Proofs.YtldkgbnmaefaaaaGreatDoor.Fo
open Go.RowKit Go.Proofs.YtldkgbnmaefaaaaGreatDoor.Nu
set_option linter.unusedVariables false
set_option linter.unusedSimpArgs false
theorem qpl(a p b q:Int)(w:World):Calls Tryz.prog 263 #[.agg #[.int .i64 a,.int .i64 p],.agg #[.int .i64 b,.int .i64 q]] w fun e w'=>e=.returned (res (qq7 ⟨a,p,0⟩ ⟨b,q,0⟩))∧Below w.heap.size w w':=by
 by_cases hq:q=1
 ·subst hq
  have e1:qq7 ⟨a,p,0⟩ ⟨b,1,0⟩=rnd a p b:=if_pos rfl
  rw[e1]
  clear e1
  go_enter Tryz.func263,Tryz.ntmps263
  go_wp2_with fail
  refine(qiw a p b _).mono ?_
  rintro e w1⟨rfl,hb⟩
  obtain⟨hc,hf⟩:=qad hb
  obtain⟨z0,z1,z2⟩:=qbp hb
  have HB:=hid (qav hb)
  go_wp2
  exact bodyPost_ret (v:=res (rnd a p b)) (by simp[results,Tryz.results263,go_sem,hc,res]) rfl ⟨rfl,qc7 HB.out _ _⟩
 ·have e1:qq7 ⟨a,p,0⟩ ⟨b,q,0⟩=⟨0,0,2⟩:=if_neg hq
  rw[e1]
  have hd:(q==1)=false:=by simpa using hq
  clear e1 hq
  go_enter Tryz.func263,Tryz.ntmps263
  go_wp2
  exact bodyPost_ret (v:=res ⟨0,0,2⟩) (by simp[results,Tryz.results263,go_sem,res]) rfl ⟨rfl,(((Below.refl _ w).alloc (Nat.le_refl _) _).alloc (by simp) _).alloc (by simp;omega) _⟩
theorem qlm(n d:Int)(h:(fit n d).e≠0):fit n d=⟨0,0,(fit n d).e⟩:=by
 unfold fit at h ⊢
 cases hb:q1m n d
 ·rfl
 ·rw[hb] at h;exact absurd rfl h
theorem qu2(a p b q:Int)(h:(mul a p b q).e≠0):mul a p b q=⟨0,0,(mul a p b q).e⟩:=by
 unfold mul at h ⊢
 cases hb:(okB a p&&okB b q)
 ·rfl
 ·rw[hb] at h;exact qlm _ _ h
theorem ql5(a:R3)(k:Nat)(h:(pwr a k).e≠0) : ∀ j,pwr a (k+j)=pwr a k
 | 0=>rfl
 |j+1=>by rw[←Nat.add_assoc,pwr,ql5 a k h j];exact if_neg h
theorem qq4(a:R3)(k:Nat)(h:(pwr a k).e=0):pwr a (k+1)=mul (pwr a k).n (pwr a k).d a.n a.d:=if_pos h
def nb(n d:Int):Obj := .cells #[.int .i64 n,.int .i64 d] 63
theorem qa7{W:World}{g:Nat}{o:Obj}(h:W.heap[g]? = some o):g<W.heap.size:=(Array.getElem?_eq_some_iff.1 h).1
theorem c2{W:World}{c:Nat}{n d:Int}(h:W.heap[c]? = some (nb n d)):W.cell? ⟨c,0,none⟩=some (.int .i64 n)∧W.cell? ⟨c,1,none⟩=some (.int .i64 d)∧W.frozen? ⟨c,0,none⟩=false∧W.frozen? ⟨c,1,none⟩=false:=by
 refine⟨?_,?_,?_,?_⟩
 ·unfold World.cell?;rw[h];rfl
 ·unfold World.cell?;rw[h];rfl
 ·unfold World.frozen?;rw[h];rfl
 ·unfold World.frozen?;rw[h];rfl
theorem s2{W:World}{c:Nat}{n d:Int}(h:W.heap[c]? = some (nb n d))(n' d':Int):((W.setCell ⟨c,0,none⟩ (.int .i64 n')).setCell ⟨c,1,none⟩ (.int .i64 d')).heap[c]? = some (nb n' d'):=by
 simp only[World.setCell,Array.getElem?_modify,if_pos,h]
 rfl
theorem q0a{W:World}{c g:Nat}(h:g≠c)(u v:Value):((W.setCell ⟨c,0,none⟩ u).setCell ⟨c,1,none⟩ v).heap[g]? = W.heap[g]? := by
 rw[Below.heap_setCell _ _ _ _ h,Below.heap_setCell _ _ _ _ h]
theorem nh(w:World)(o:Obj):(w.alloc o).heap[w.heap.size]? = some o:=by
 show(w.heap.push o)[w.heap.size]? = _
 rw[Array.getElem?_push,if_pos rfl]
theorem hp3(w:World)(A B C:Obj):(((w.alloc A).alloc B).alloc C).heap[w.heap.size]? = some A∧(((w.alloc A).alloc B).alloc C).heap[w.heap.size+2]? = some C:=by
 constructor
 ·rw[Below.heap_alloc _ _ _ (by simp;omega),Below.heap_alloc _ _ _ (by simp)];exact nh _ _
 ·have:=nh ((w.alloc A).alloc B) C
  simp only[World.size_alloc] at this
  exact this
structure Rz (w wr:World) (pb:Nat) (a p n d:Int):Prop where
 x:wr.heap[w.heap.size]? = some (nb a p)
 r:wr.heap[w.heap.size+2]? = some (nb 0 0)
 g:wr.heap[pb]? = some (nb n d)
 bl:Below w.heap.size w wr
theorem qv6(a p b q:Int)(w:World):Calls Tryz.prog 264 #[.agg #[.int .i64 a,.int .i64 p],.agg #[.int .i64 b,.int .i64 q]] w fun e w'=>e=.returned (res (pwF ⟨a,p,0⟩ ⟨b,q,0⟩))∧Below w.heap.size w w':=by
 by_cases hq:q=1∧0≤b∧b≤30
 ·obtain⟨rfl,h0,h30⟩:=hq
  have e1:pwF ⟨a,p,0⟩ ⟨b,1,0⟩=pwr ⟨a,p,0⟩ b.toNat:=if_pos ⟨rfl,h0,h30⟩
  rw[e1]
  clear e1
  obtain⟨B,rfl⟩ : ∃ B:Nat,b=(B:Int):=⟨b.toNat,by omega⟩
  rw[Int.toNat_natCast]
  have d1:decide ((B:Int)<0)=false:=by rw[decide_eq_false_iff_not];omega
  have d2:decide ((B:Int)>30)=false:=by rw[decide_eq_false_iff_not];omega
  have hB30:B≤30:=by omega
  clear h0 h30
  go_enter Tryz.func264,Tryz.ntmps264
  go_wp2_with fail
  refine(qa6 1 _).mono ?_
  rintro e w1⟨rfl,hb⟩
  have hz1:=hb.size
  simp only[World.size_alloc] at hz1
  obtain⟨hc,hf⟩:=qad hb
  have J0:Hid (∃ k:Nat,0=(k:Int)∧k≤B∧(pwr ⟨a,p,0⟩ k).e=0∧Rz w (w1.alloc (nb 1 1)) w1.heap.size a p (pwr ⟨a,p,0⟩ k).n (pwr ⟨a,p,0⟩ k).d):=hid ⟨0,rfl,Nat.zero_le _,rfl,(Below.heap_alloc _ _ _ (by omega)).trans ((hb.block _ (by simp;omega)).trans (hp3 w _ _ _).1),(Below.heap_alloc _ _ _ (by omega)).trans ((hb.block _ (by simp)).trans (hp3 w _ _ _).2),nh _ _,(qav hb).alloc (by omega) _⟩
  unfold nb at J0
  have hlt0:w.heap.size<w1.heap.size:=by omega
  have hlt1:w.heap.size+1<w1.heap.size:=by omega
  clear hb
  have HL:=hid hlt0
  go_wp2_with fail
  clear hc hf
  go_loopw [26] (fun i wr => ∃ k:Nat,i=.int .i64 k∧k≤B∧Hid ((pwr ⟨a,p,0⟩ k).e=0∧Rz w wr w1.heap.size a p (pwr ⟨a,p,0⟩ k).n (pwr ⟨a,p,0⟩ k).d)) (fun i _=>B-(intOf i).toNat)
  case atStart =>
   obtain⟨k,hk0,hk,h1,h2⟩:=J0.out
   have:k=0:=by omega
   subst this
   exact⟨0,rfl,hk,hid ⟨h1,h2⟩⟩
  case round =>
   obtain⟨k,rfl,hk,hS⟩:=hrel
   clear J0
   obtain⟨he,hz⟩:=hS.out
   clear hS
   obtain⟨g0,g1,g2,g3⟩:=c2 hz.g
   obtain⟨x0,x1,x2,x3⟩:=c2 hz.x
   obtain⟨r0,r1,r2,r3⟩:=c2 hz.r
   have hgl:=qa7 hz.g
   by_cases hlt:k<B
   ·have hd:decide ((k:Int)<(B:Int))=true:=by rw[decide_eq_true_iff];omega
    have hs:=qq4 ⟨a,p,0⟩ k he
    have HE:=hid he
    have HZ:=hid hz
    generalize hN:(pwr ⟨a,p,0⟩ k).n=n at *
    generalize hD:(pwr ⟨a,p,0⟩ k).d=d at *
    have HS:=hid hs
    clear he hz hs
    go_wp2_with fail
    refine(qs4 n d a p _).mono ?_
    rintro e w2⟨rfl,hb2⟩
    have hz2:=hb2.size
    have kp : ∀ i,i<wr.heap.size→w2.heap[i]? = wr.heap[i]? := fun i hi=>hb2.block i hi
    have hw12:w1.heap.size<w2.heap.size:=by omega
    have hw22:w.heap.size+1+1<w2.heap.size:=by have:=qa7 HZ.out.r;omega
    have HB2:=hid hb2
    have hg2:=(kp _ (qa7 HZ.out.g)).trans HZ.out.g
    have hx2:=(kp _ (qa7 HZ.out.x)).trans HZ.out.x
    have hr2:=(kp _ (qa7 HZ.out.r)).trans HZ.out.r
    have HG2:=hid hg2;have HX2:=hid hx2;have HR2:=hid hr2
    obtain⟨m0,m1,m2,m3⟩:=c2 hg2
    obtain⟨n0,n1,n2,n3⟩:=c2 hr2
    clear hb2 kp hg2 hx2 hr2 g0 g1 g2 g3 x0 x1 x2 x3 r0 r1 r2 r3
    by_cases hm:(mul n d a p).e=0
    ·have HM:=hid hm
     have hr:Hid (∀ W:World,W.heap.size=w2.heap.size+1→(∀ i,i<w2.heap.size→i≠w1.heap.size→W.heap[i]? = w2.heap[i]?)→W.heap[w1.heap.size]? = some (nb (mul n d a p).n (mul n d a p).d)→W.os=w2.os→W.tape=w2.tape→W.output=w2.output →
       (pwr ⟨a,p,0⟩ (k+1)).e=0∧Rz w W w1.heap.size a p (pwr ⟨a,p,0⟩ (k+1)).n (pwr ⟨a,p,0⟩ (k+1)).d):=hid fun W q1 q2 q3 q4 q5 q6=>by
      have bl:=HZ.out.bl.trans (HB2.out.mono HZ.out.bl.size)
      rw[HS.out]
      exact⟨HM.out,(q2 _ (by omega) (by omega)).trans HX2.out,(q2 _ (by omega) (by omega)).trans HR2.out,q3,⟨q4.trans bl.os,q5.trans bl.tape,q6.trans bl.output,by rw[q1];omega,fun i hi=>(q2 i (by omega) (by omega)).trans (bl.block i hi)⟩⟩
     go_wp2_with fail
     go_roundw
     case rel =>
      refine⟨k+1,by simp,by omega,hid (hr.out _ (by simp[World.setCell]) (fun i hi hne => ?_) ?_ rfl rfl rfl)⟩
      ·rw[Below.heap_alloc _ _ _ (by simp[World.setCell];exact hi)];exact q0a hne _ _
      ·rw[Below.heap_alloc _ _ _ (by simp[World.setCell];omega)];exact s2 HG2.out _ _
     case measure=>simp[intOf];omega
    ·have HM:=hid (qu2 n d a p hm)
     have hd2:((mul n d a p).e==0)=false:=by simpa using hm
     have hstop:pwr ⟨a,p,0⟩ B=⟨0,0,(mul n d a p).e⟩:=by
      have e2:B=(k+1)+(B-(k+1)):=by omega
      rw[e2,ql5 ⟨a,p,0⟩ (k+1) (by rw[HS.out];exact hm),HS.out]
      exact HM.out
     have HT:=hid hstop
     clear hm hstop
     have bl:=HZ.out.bl.trans (HB2.out.mono HZ.out.bl.size)
     have HBL:=hid bl
     clear bl
     go_wp2_with fail
     exact bodyPost_ret (v:=res ⟨0,0,(mul n d a p).e⟩) (by simp[results,Tryz.results264,go_sem,hw22,n0,n1,res]) rfl ⟨by rw[HT.out],(qc7 HBL.out _ _).alloc (by simp[World.setCell];omega) _⟩
   ·have ek:k=B:=by omega
    subst ek
    have hd:decide ((k:Int)<(k:Int))=false:=by simp
    have HE:=hid he
    have HZ:=hid hz
    clear he hz
    go_wp2_with fail
    exact bodyPost_ret (v := .tuple #[.agg #[.int .i64 (pwr ⟨a,p,0⟩ k).n,.int .i64 (pwr ⟨a,p,0⟩ k).d],.int .i64 0]) (by simp[results,Tryz.results264,go_sem,r0,r1]) rfl ⟨by unfold res;rw[HE.out],qc7 HZ.out.bl _ _⟩
 ·have e1:pwF ⟨a,p,0⟩ ⟨b,q,0⟩=⟨0,0,2⟩:=if_neg hq
  rw[e1]
  clear e1
  by_cases h1:q=1
  ·subst h1
   by_cases h2:b<0
   ·have d1:decide (b<0)=true:=decide_eq_true h2
    clear hq
    go_enter Tryz.func264,Tryz.ntmps264
    go_wp2
    exact bodyPost_ret (v:=res ⟨0,0,2⟩) (by simp[results,Tryz.results264,go_sem,res]) rfl ⟨rfl,(((Below.refl _ w).alloc (Nat.le_refl _) _).alloc (by simp) _).alloc (by simp;omega) _⟩
   ·have d1:decide (b<0)=false:=decide_eq_false h2
    have d2:decide (b>30)=true:=by rw[decide_eq_true_iff];omega
    clear hq h2
    go_enter Tryz.func264,Tryz.ntmps264
    go_wp2
    exact bodyPost_ret (v:=res ⟨0,0,2⟩) (by simp[results,Tryz.results264,go_sem,res]) rfl ⟨rfl,(((Below.refl _ w).alloc (Nat.le_refl _) _).alloc (by simp) _).alloc (by simp;omega) _⟩
  ·have hd:(q==1)=false:=by simpa using h1
   clear hq
   go_enter Tryz.func264,Tryz.ntmps264
   go_wp2
   exact bodyPost_ret (v:=res ⟨0,0,2⟩) (by simp[results,Tryz.results264,go_sem,res]) rfl ⟨rfl,(((Below.refl _ w).alloc (Nat.le_refl _) _).alloc (by simp) _).alloc (by simp;omega) _⟩
theorem xad(a p b q:Int)(w:World):Calls Tryz.prog 227 #[.string ⟨#[114,111,117,110,100]⟩,.agg #[.int .i64 a,.int .i64 p],.agg #[.int .i64 b,.int .i64 q]] w fun e w'=>e=.returned (res (qq7 ⟨a,p,0⟩ ⟨b,q,0⟩))∧Below w.heap.size w w':=by
 have HC:=hid (fun w=>qpl a p b q w)
 generalize qq7 ⟨a,p,0⟩ ⟨b,q,0⟩=r at HC ⊢
 unfold res at HC
 go_enter Tryz.func227,Tryz.ntmps227
 go_wp2_with fail
 refine(HC.out _).mono ?_
 rintro e w1⟨rfl,hb⟩
 obtain⟨hc,hf⟩:=qad hb
 obtain⟨z0,z1,z2⟩:=qbp hb
 have HB:=hid (qav hb)
 go_wp2
 exact bodyPost_ret (v:=res r) (by simp[results,Tryz.results227,go_sem,hc,res]) rfl ⟨rfl,qc7 HB.out _ _⟩
theorem xac(a p b q:Int)(w:World):Calls Tryz.prog 227 #[.string ⟨#[94]⟩,.agg #[.int .i64 a,.int .i64 p],.agg #[.int .i64 b,.int .i64 q]] w fun e w'=>e=.returned (res (pwF ⟨a,p,0⟩ ⟨b,q,0⟩))∧Below w.heap.size w w':=by
 have HC:=hid (fun w=>qv6 a p b q w)
 generalize pwF ⟨a,p,0⟩ ⟨b,q,0⟩=r at HC ⊢
 unfold res at HC
 go_enter Tryz.func227,Tryz.ntmps227
 go_wp2_with fail
 refine(HC.out _).mono ?_
 rintro e w1⟨rfl,hb⟩
 obtain⟨hc,hf⟩:=qad hb
 obtain⟨z0,z1,z2⟩:=qbp hb
 have HB:=hid (qav hb)
 go_wp2
 exact bodyPost_ret (v:=res r) (by simp[results,Tryz.results227,go_sem,hc,res]) rfl ⟨rfl,qc7 HB.out _ _⟩
theorem qnz{w W:World}(h:Below w.heap.size w W)(u v:Value):Below w.heap.size w ((W.setCell ⟨w.heap.size+1,0,none⟩ u).setCell ⟨w.heap.size+1,1,none⟩ v) :=
 (h.setCell (by show _≤w.heap.size+1;omega) _).setCell (by show _≤w.heap.size+1;omega) _
theorem qbz{w w1:World}{A B:Obj}(hb:Below ((w.alloc A).alloc B).heap.size ((w.alloc A).alloc B) w1):Below w.heap.size w w1 :=
 (((Below.refl _ w).alloc (Nat.le_refl _) A).alloc (by simp) B).trans (hb.mono (by simp;omega))
theorem qg5{w w1:World}{A B:Obj}(hb:Below ((w.alloc A).alloc B).heap.size ((w.alloc A).alloc B) w1):w.heap.size<w1.heap.size∧w.heap.size+1<w1.heap.size:=by
 have:=hb.size;simp at this;omega
theorem qq1(o:ByteArray)(ho:o=⟨#[43]⟩∨o=⟨#[40]⟩)(a p:Int)(w:World):Calls Tryz.prog 226 #[.string o,.agg #[.int .i64 a,.int .i64 p]] w fun e w'=>e=.returned (res ⟨a,p,0⟩)∧Below w.heap.size w w':=by
 rcases ho with rfl | rfl
 all_goals
  go_enter Tryz.func226,Tryz.ntmps226
  go_wp2
  exact bodyPost_ret (v:=res ⟨a,p,0⟩) (by simp[results,Tryz.results226,go_sem,res]) rfl ⟨rfl,((Below.refl _ w).alloc (Nat.le_refl _) _).alloc (by simp) _⟩
theorem q6d(a p:Int)(w:World):Calls Tryz.prog 226 #[.string ⟨#[110,111,116]⟩,.agg #[.int .i64 a,.int .i64 p]] w fun e w'=>e=.returned (res (tr (decide (a=0))))∧Below w.heap.size w w':=by
 have hn:decide (a=0) = !decide (a≠0):=by by_cases h:a=0<;>simp[h]
 rw[hn]
 clear hn
 cases ha:decide (a≠0)
 all_goals
  have HA:=hid ha;clear ha
  go_enter Tryz.func226,Tryz.ntmps226
  go_wp2_with fail
  refine(qbr a p _).mono ?_
  rintro e w1⟨rfl,hb⟩
  rw[HA.out]
  obtain⟨hc,hf⟩:=qad hb
  obtain⟨y0,y1⟩:=qg5 hb
  have HB:=hid (qbz hb)
  go_wp2_with fail
  refine(qbt _ _).mono ?_
  rintro e w9⟨rfl,hb9⟩
  obtain⟨hc9,hf9⟩:=qad hb9
  have z1:w.heap.size+1<w9.heap.size:=Nat.lt_of_lt_of_le y1 hb9.size
  have HB9:=hid (HB.out.trans (hb9.mono HB.out.size))
  go_wp2
  first
   |exact bodyPost_ret (v:=res (tr false)) (by simp[results,Tryz.results226,go_sem,hc9,hc,y1,res,tr]) rfl ⟨rfl,qnz HB9.out _ _⟩
   |exact bodyPost_ret (v:=res (tr true)) (by simp[results,Tryz.results226,go_sem,hc9,hc,y1,res,tr]) rfl ⟨rfl,qnz HB9.out _ _⟩
theorem qvx(a p:Int)(w:World):Calls Tryz.prog 226 #[.string ⟨#[102,108,111,111,114]⟩,.agg #[.int .i64 a,.int .i64 p]] w fun e w'=>e=.returned (res ⟨flr a p,1,0⟩)∧Below w.heap.size w w':=by
 go_enter Tryz.func226,Tryz.ntmps226
 go_wp2_with fail
 refine(qs2 a p _).mono ?_
 rintro e w1⟨rfl,hb⟩
 obtain⟨hc,hf⟩:=qad hb
 obtain⟨y0,y1⟩:=qg5 hb
 have HB:=hid (qbz hb)
 go_wp2_with fail
 refine(qa6 _ _).mono ?_
 rintro e w9⟨rfl,hb9⟩
 obtain⟨hc9,hf9⟩:=qad hb9
 have z1:w.heap.size+1<w9.heap.size:=Nat.lt_of_lt_of_le y1 hb9.size
 have HB9:=hid (HB.out.trans (hb9.mono HB.out.size))
 go_wp2
 exact bodyPost_ret (v:=res ⟨flr a p,1,0⟩) (by simp[results,Tryz.results226,go_sem,hc9,hc,y1,res]) rfl ⟨rfl,qnz HB9.out _ _⟩
end Go.Proofs.YtldkgbnmaefaaaaGreatDoor.Fo
