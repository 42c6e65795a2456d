import Derived.Test.YtldkgbnmaefaaaaGreatDoorFoG3
import Derived.RegionTactic
import Derived.Test.YtldkgbnmaefaaaaGreatDoorFoG1
import Derived.Deep.RegionWith
import Derived.Test.YtldkgbnmaefaaaaGreatDoorFoG2
import Derived.Test.YtldkgbnmaefaaaaGreatDoorNuG4
set_option maxRecDepth 100000
set_option maxHeartbeats 4000000
open Go.Lib (hid)
namespace Go.Proofs.YtldkgbnmaefaaaaGreatDoor.Fo
open Go.RowKit Go.Proofs.YtldkgbnmaefaaaaGreatDoor.Nu
set_option linter.unusedVariables false
set_option linter.unusedSimpArgs false
structure All (n:Nat):Prop where
 l0:Lv 225 n 0
 l1:Lv 253 n 1
 l2:Lv 283 n 2
 l3:Lv 293 n 3
 l4:Lv 296 n 4
 l5:Lv 297 n 5
 l6:Lv 298 n 6
 l7:Lv 299 n 7
 l8:Lv 300 n 8
theorem all(n:Nat):All n:=by
 induction n using Nat.strongRecOn with
 | _ n ih =>
  exact⟨xe8 n fun m hm=>(ih m hm).l1,xe9 n fun m hm=>(ih m hm).l2,xfa n (fun m hm=>(ih m hm).l3) fun m hm=>(ih m hm).l3,xfb n fun m hm=>(ih m hm).l4,
   xfc n fun m hm=>(ih m hm).l5,xfd n fun m hm=>(ih m hm).l6,xfe n (fun m hm=>(ih m hm).l6) fun m hm=>(ih m hm).l7,xff n (fun m hm=>(ih m hm).l8) (fun m hm=>(ih m hm).l6),xfg n fun m hm=>(ih m hm).l0⟩
def qn3(l:List Tok):Bool := !(top l).b&&(top l).r.isEmpty
theorem qjh{w W w1:World}{R:T}{o1:ByteArray}{A1:Option Addr}{k1 c1:Nat}(hB:Below w.heap.size w W)(hF:Fr (w.heap.size+1) W.heap.size W w1)(hz:W.heap.size=w.heap.size+2)(hr:W.heap[w.heap.size]? = some zn)
  (hx:Nd (W.heap.size ≤ ·) w1 R (.agg #[.string o1,.slice A1 k1 c1,.int .i64 (R.lv:Int)])) :
  (((qf8 w1 w.heap.size o1 A1 k1 c1 R.lv).alloc (.cells #[.string o1,.slice A1 k1 c1,.int .i64 (R.lv:Int)] 185)).drew).heap[w.heap.size]? = some (.cells #[.string o1,.slice A1 k1 c1,.int .i64 (R.lv:Int)] 185) ∧
  Nd (w.heap.size ≤ ·) (((qf8 w1 w.heap.size o1 A1 k1 c1 R.lv).alloc (.cells #[.string o1,.slice A1 k1 c1,.int .i64 (R.lv:Int)] 185)).drew) R (.agg #[.string o1,.slice A1 k1 c1,.int .i64 (R.lv:Int)]) ∧
  Below w.heap.size w (((qf8 w1 w.heap.size o1 A1 k1 c1 R.lv).alloc (.cells #[.string o1,.slice A1 k1 c1,.int .i64 (R.lv:Int)] 185)).drew):=by
 have hz1:=hF.size
 have h0:w1.heap[w.heap.size]? = some zn:=(hF.block _ (by omega) (by omega)).trans hr
 have zs:(qf8 w1 w.heap.size o1 A1 k1 c1 R.lv).heap.size=w1.heap.size:=by simp[qf8,World.setCell]
 have B9:Below w.heap.size w1 (qf8 w1 w.heap.size o1 A1 k1 c1 R.lv):=(((Below.refl w.heap.size w1).setCell (Nat.le_refl _) _).setCell (Nat.le_refl _) _).setCell (Nat.le_refl _) _
 refine⟨?_,?_,?_⟩
 ·show((qf8 w1 w.heap.size o1 A1 k1 c1 R.lv).alloc _).heap[w.heap.size]? = _
  rw[Below.heap_alloc _ _ _ (by omega)]
  exact q2g h0 _ _ _
 ·refine Nd.keep (X:=fun i=>W.heap.size≤i) (fun i hi hl => ?_) (fun i hi _=>by omega) _ _ hx
  show((qf8 w1 w.heap.size o1 A1 k1 c1 R.lv).alloc _).heap[i]? = _
  rw[Below.heap_alloc _ _ _ (by omega)]
  exact qa8 (by omega) _ _ _
 ·exact((hB.trans (((hF.mono (by omega)).below (by omega)).trans B9)).alloc (by omega) _).drew
theorem qvo(w:World)(bt:Nat)(v:Value)(l:List Tok)(ht:TS bt w v l)(hbt:bt<w.heap.size)(hz : ∀ t∈l,0<t.length∧t.length≤19)(hl:l.length≤400) :
  Calls Tryz.prog 180 #[v] w fun e w' => ∃ x,e=.returned (.tuple #[x,.bool (qn3 l)])∧Nd (w.heap.size ≤ ·) w' (top l).t x∧Below w.heap.size w w':=by
 obtain⟨W,hW⟩ : ∃ W,(w.alloc zn).alloc (xcx v false)=W:=⟨_,rfl⟩
 have B0:Below w.heap.size w W:=hW▸((Below.refl _ w).alloc (Nat.le_refl _) _).alloc (by simp) _
 have hzW:W.heap.size=w.heap.size+2:=by rw[←hW];simp
 have hS:St (w.heap.size+1) bt W v l false:=by
  refine⟨?_,ht.keep (B0.block _ hbt),by omega,by omega,hz⟩
  rw[←hW]
  have:=qaj (w.alloc zn) (xcx v false)
  rwa [World.size_alloc] at this
 have hr:W.heap[w.heap.size]? = some zn:=by rw[←hW,Below.heap_alloc _ _ _ (by simp)];exact qaj _ _
 have HQ:=hid ((all (fuel l)).l0 (w.heap.size+1) bt W v l false hS (by unfold fuel;omega) hl)
 have HR:Hid (G (fuel l) 0 .bad l false=top l):=hid rfl
 rw[HR.out] at HQ
 have HB0:=hid B0
 have HHr:=hid hr
 obtain⟨A,C,rfl,_⟩:=ht
 clear hS hr B0 HR
 unfold xcx at hW
 have HW:=hid hW
 clear hW
 go_enter Tryz.func180,Tryz.ntmps180
 go_wp2_with fail
 rw[HW.out]
 (with_reducible refine HQ.out.mono ?_)
 rintro e w1⟨x,u,rfl,hx,hs,hf⟩
 obtain⟨o1,A1,k1,c1,rfl⟩:=hx.form
 obtain⟨A2,C2,rfl,hu⟩:=hs.t
 have hz1:=hf.size
 have hlt0:w.heap.size<w1.heap.size:=by omega
 have hlt1:w.heap.size+1<w1.heap.size:=by omega
 have b0:=hs.c0
 have b1:=hs.c1
 obtain⟨z0,z1,z2,zf⟩:=c3 ((hf.block w.heap.size (by omega) (by omega)).trans HHr.out)
 have zf0:=zf 0;have zf1:=zf 1;have zf2:=zf 2
 have HX:=hid hx
 have HF:=hid hf
 clear hx hs hf hu
 cases hb:(top l).b with
 |true =>
  rw[hb] at b1
  go_wp2_with fail
  go_region
  go_wp2_with fail
  have F:=qjh HB0.out HF.out hzW HHr.out HX.out
  unfold qf8 at F
  generalize((((w1.setCell ⟨w.heap.size,0,none⟩ (.string o1)).setCell ⟨w.heap.size,1,none⟩ (.slice A1 k1 c1)).setCell ⟨w.heap.size,2,none⟩ (.int .i64 ((top l).t.lv:Int))).alloc (.cells #[.string o1,.slice A1 k1 c1,.int .i64 ((top l).t.lv:Int)] 185)).drew=W9 at F ⊢
  obtain⟨f1,f2,f3⟩:=F
  obtain⟨q0,q1,q2,_⟩:=c3 f1
  clear f1 z0 z1 z2 b0 b1
  refine bodyPost_ret (v := .tuple #[.agg #[.string o1,.slice A1 k1 c1,.int .i64 ((top l).t.lv:Int)],.bool false]) (by simp[results,Tryz.results180,go_sem,q0,q1,q2]<;>omega) rfl ?_
  rw[show qn3 l=false by unfold qn3;rw[hb];rfl]
  exact⟨_,rfl,f2,f3⟩
 |false =>
  rw[hb] at b1
  cases hr:(top l).r with
  |nil =>
   rw[hr] at b0
   simp only[List.length_nil] at b0
   go_wp2_with fail
   go_region
   go_wp2_with fail
   have F:=qjh HB0.out HF.out hzW HHr.out HX.out
   unfold qf8 at F
   generalize((((w1.setCell ⟨w.heap.size,0,none⟩ (.string o1)).setCell ⟨w.heap.size,1,none⟩ (.slice A1 k1 c1)).setCell ⟨w.heap.size,2,none⟩ (.int .i64 ((top l).t.lv:Int))).alloc (.cells #[.string o1,.slice A1 k1 c1,.int .i64 ((top l).t.lv:Int)] 185)).drew=W9 at F ⊢
   obtain⟨f1,f2,f3⟩:=F
   obtain⟨q0,q1,q2,_⟩:=c3 f1
   clear f1 z0 z1 z2 b0 b1
   refine bodyPost_ret (v := .tuple #[.agg #[.string o1,.slice A1 k1 c1,.int .i64 ((top l).t.lv:Int)],.bool true]) (by simp[results,Tryz.results180,go_sem,q0,q1,q2]<;>omega) rfl ?_
   rw[show qn3 l=true by unfold qn3;rw[hb,hr];rfl]
   exact⟨_,rfl,f2,f3⟩
  |cons t r =>
   rw[hr] at b0
   simp only[List.length_cons] at b0
   have hne:decide (((r.length:Int)+1)=0)=false:=by rw[decide_eq_false_iff_not];omega
   go_wp2_with fail
   go_region
   go_wp2_with fail
   have F:=qjh HB0.out HF.out hzW HHr.out HX.out
   unfold qf8 at F
   generalize((((w1.setCell ⟨w.heap.size,0,none⟩ (.string o1)).setCell ⟨w.heap.size,1,none⟩ (.slice A1 k1 c1)).setCell ⟨w.heap.size,2,none⟩ (.int .i64 ((top l).t.lv:Int))).alloc (.cells #[.string o1,.slice A1 k1 c1,.int .i64 ((top l).t.lv:Int)] 185)).drew=W9 at F ⊢
   obtain⟨f1,f2,f3⟩:=F
   obtain⟨q0,q1,q2,_⟩:=c3 f1
   clear f1 z0 z1 z2 b0 b1
   refine bodyPost_ret (v := .tuple #[.agg #[.string o1,.slice A1 k1 c1,.int .i64 ((top l).t.lv:Int)],.bool false]) (by simp[results,Tryz.results180,go_sem,q0,q1,q2]<;>omega) rfl ?_
   rw[show qn3 l=false by unfold qn3;rw[hb,hr];rfl]
   exact⟨_,rfl,f2,f3⟩
end Go.Proofs.YtldkgbnmaefaaaaGreatDoor.Fo
namespace Go.Proofs.YtldkgbnmaefaaaaGreatDoor.Fo
def qdt(these:List Tok)(l:List Tok)(b:Bool):Option (Tok×List Tok):=if b then none else next these l
def Q:Nat→Nat→T→List Tok→Bool→Res
 | 0,_,_,l,_=>⟨.bad,l,true⟩
 |n+1,2,_,l,b =>
  let x:=Q n 3 .bad l b
  match qdt qj1 x.r x.b with
  |some (o,r)=>let y:=Q n 3 .bad r x.b;⟨.bin o x.t y.t,y.r,y.b⟩
  |none=>x
 |n+1,6,_,l,b =>
  match qdt uns l b with
  |some (o,r)=>let x:=Q n 6 .bad r b;⟨.un o x.t,x.r,x.b⟩
  |none=>Q n 7 .bad l b
 |n+1,7,_,l,b =>
  let x:=Q n 8 .bad l b
  match qdt [[94]] x.r x.b with
  |some (o,r)=>let y:=Q n 6 .bad r x.b;⟨.bin o x.t y.t,y.r,y.b⟩
  |none=>x
 |n+1,8,_,l,b =>
  if b then⟨.bad,l,true⟩ else
  match l with
  | []=>⟨.bad,[],true⟩
  |t :: l' =>
   if t=[40] then
    let x:=Q n 0 .bad l' false
    match qdt [[41]] x.r x.b with
    |some (_,r)=>⟨.un [40] x.t,r,false⟩
    |none=>⟨x.t,x.r,true⟩
   else⟨.num t,l',!qia t⟩
 |n+1,k,x,l,b =>
  if k<10 then let y:=Q n (k+1) .bad l b;Q n (10+k) y.t y.r y.b else
  match qdt (ops (k-10)) l b with
  |some (o,r)=>let y:=Q n (k-9) .bad r b;Q n k (.bin o x y.t) y.r y.b
  |none=>⟨x,l,b⟩
theorem Q_2(n:Nat)(x:T)(l:List Tok)(b:Bool):Q (n+1) 2 x l b=(match qdt qj1 (Q n 3 .bad l b).r (Q n 3 .bad l b).b with
  |some (o,r)=>⟨.bin o (Q n 3 .bad l b).t (Q n 3 .bad r (Q n 3 .bad l b).b).t,(Q n 3 .bad r (Q n 3 .bad l b).b).r,(Q n 3 .bad r (Q n 3 .bad l b).b).b⟩
  |none=>Q n 3 .bad l b):=rfl
theorem Q_6(n:Nat)(x:T)(l:List Tok)(b:Bool):Q (n+1) 6 x l b=(match qdt uns l b with
  |some (o,r)=>⟨.un o (Q n 6 .bad r b).t,(Q n 6 .bad r b).r,(Q n 6 .bad r b).b⟩
  |none=>Q n 7 .bad l b):=rfl
theorem Q_7(n:Nat)(x:T)(l:List Tok)(b:Bool):Q (n+1) 7 x l b=(match qdt [[94]] (Q n 8 .bad l b).r (Q n 8 .bad l b).b with
  |some (o,r)=>⟨.bin o (Q n 8 .bad l b).t (Q n 6 .bad r (Q n 8 .bad l b).b).t,(Q n 6 .bad r (Q n 8 .bad l b).b).r,(Q n 6 .bad r (Q n 8 .bad l b).b).b⟩
  |none=>Q n 8 .bad l b):=rfl
theorem xeo(n:Nat)(x:T)(l:List Tok):Q (n+1) 8 x l true=⟨.bad,l,true⟩:=rfl
theorem xe0(n:Nat)(x:T):Q (n+1) 8 x [] false=⟨.bad,[],true⟩:=rfl
theorem xc0(n:Nat)(x:T)(l:List Tok):Q (n+1) 8 x ([40] :: l) false=(match qdt [[41]] (Q n 0 .bad l false).r (Q n 0 .bad l false).b with
  |some (_,r)=>⟨.un [40] (Q n 0 .bad l false).t,r,false⟩
  |none=>⟨(Q n 0 .bad l false).t,(Q n 0 .bad l false).r,true⟩):=rfl
theorem xc1(n:Nat)(x:T)(t:Tok)(l:List Tok)(h2:t≠[40]):Q (n+1) 8 x (t :: l) false=⟨.num t,l,!qia t⟩:=by
 show(if t=[40] then _ else _)=_;rw[if_neg h2]
theorem xcp(n k:Nat)(x:T)(l:List Tok)(b:Bool)(h:k<10)(h2:k≠2)(h6:k≠6)(h7:k≠7)(h8:k≠8) :
  Q (n+1) k x l b=Q n (10+k) (Q n (k+1) .bad l b).t (Q n (k+1) .bad l b).r (Q n (k+1) .bad l b).b:=by
 match k,h,h2,h6,h7,h8 with
 | 0,_,_,_,_,_=>rfl
 | 1,_,_,_,_,_=>rfl
 | 3,_,_,_,_,_=>rfl
 | 4,_,_,_,_,_=>rfl
 | 5,_,_,_,_,_=>rfl
 | 9,_,_,_,_,_=>rfl
theorem q8w(n k:Nat)(x:T)(l:List Tok)(b:Bool):Q (n+1) (10+k) x l b=(match qdt (ops k) l b with
  |some (o,r)=>Q n (10+k) (.bin o x (Q n (k+1) .bad r b).t) (Q n (k+1) .bad r b).r (Q n (k+1) .bad r b).b
  |none=>⟨x,l,b⟩):=by
 rw[show 10+k=k+9+1 by omega]
 show(if k+9+1<10 then _ else _)=_
 rw[if_neg (by omega),show k+9+1-10=k by omega,show k+9+1-9=k+1 by omega]
theorem qdb(s:List Tok)(l:List Tok):qdt s l true=none:=rfl
theorem qdu(s:List Tok)(l:List Tok):qdt s l false=next s l:=rfl
theorem qk4 : ∀ (n k:Nat) (x:T) (l:List Tok),(Q n k x l true).b=true
 | 0,_,_,_=>rfl
 |n+1,k,x,l=>by
  by_cases h2:k=2
  ·subst h2;rw[Q_2,qk4 n 3 .bad l,qdb];exact qk4 n 3 .bad l
  by_cases h6:k=6
  ·subst h6;rw[Q_6,qdb];exact qk4 n 7 .bad l
  by_cases h7:k=7
  ·subst h7;rw[Q_7,qk4 n 8 .bad l,qdb];exact qk4 n 8 .bad l
  by_cases h8:k=8
  ·subst h8;rw[xeo]
  by_cases h:k<10
  ·rw[xcp n k x l true h h2 h6 h7 h8,qk4 n (k+1) .bad l];exact qk4 n (10+k) _ _
  ·obtain⟨j,rfl⟩ : ∃ j,k=10+j:=⟨k-10,by omega⟩
   rw[q8w,qdb]
theorem qeu : ∀ (n k:Nat) (x:T) (l:List Tok),(G n k x l true).b=true
 | 0,_,_,_=>rfl
 |n+1,k,x,l=>by
  by_cases h2:k=2
  ·subst h2;rw[G_2,qeu n 3 .bad l];split
   ·exact qeu n 3 .bad _
   ·exact qeu n 3 .bad l
  by_cases h6:k=6
  ·subst h6;rw[G_6];split
   ·exact qeu n 6 .bad _
   ·exact qeu n 7 .bad l
  by_cases h7:k=7
  ·subst h7;rw[G_7,qeu n 8 .bad l];split
   ·exact qeu n 6 .bad _
   ·exact qeu n 8 .bad l
  by_cases h8:k=8
  ·subst h8
   cases l with
   |nil=>rfl
   |cons t l =>
    cases ht:qia t
    ·by_cases hp:t=[40]
     ·subst hp;rw[q8p];split
      ·exact qeu n 0 .bad l
      ·rfl
     ·rw[q8q _ _ _ _ _ ht hp]
    ·rw[q8o _ _ _ _ _ ht]
  by_cases h:k<10
  ·rw[qxs n k x l true h h2 h6 h7 h8,qeu n (k+1) .bad l];exact qeu n (10+k) _ _
  ·obtain⟨j,rfl⟩ : ∃ j,k=10+j:=⟨k-10,by omega⟩
   rw[q8k];split
   ·rw[qeu n (j+1) .bad];exact qeu n (10+j) _ _
   ·rfl
def Eqv(g q:Res):Prop:=(g.b=false∧q=g)∨(g.b=true∧q.b=true)
theorem Eqv.refl(g:Res):Eqv g g:=by cases h:g.b<;>simp[Eqv,h]
theorem GQ : ∀ (n k:Nat) (x:T) (l:List Tok),Eqv (G n k x l false) (Q n k x l false)
 | 0,_,_,_=>Eqv.refl _
 |n+1,k,x,l=>by
  by_cases h2:k=2
  ·subst h2;rw[G_2,Q_2]
   rcases GQ n 3 .bad l with⟨h1,h3⟩ | ⟨h1,h3⟩
   ·rw[h3,h1,qdu];rcases next qj1 (G n 3 .bad l false).r with _ | ⟨o,r⟩
    ·exact .inl ⟨h1,rfl⟩
    ·rcases GQ n 3 .bad r with⟨h4,h5⟩ | ⟨h4,h5⟩
     ·exact .inl ⟨h4,by simp only[h5]⟩
     ·exact .inr ⟨h4,h5⟩
   ·rw[h1,h3,qdb];split
    ·exact .inr ⟨qeu _ _ _ _,h3⟩
    ·exact .inr ⟨h1,h3⟩
  by_cases h6:k=6
  ·subst h6;rw[G_6,Q_6,qdu];rcases next uns l with _ | ⟨o,r⟩
   ·exact GQ n 7 .bad l
   ·rcases GQ n 6 .bad r with⟨h4,h5⟩ | ⟨h4,h5⟩
    ·exact .inl ⟨h4,by simp only[h5]⟩
    ·exact .inr ⟨h4,h5⟩
  by_cases h7:k=7
  ·subst h7;rw[G_7,Q_7]
   rcases GQ n 8 .bad l with⟨h1,h3⟩ | ⟨h1,h3⟩
   ·rw[h3,h1,qdu];rcases next [[94]] (G n 8 .bad l false).r with _ | ⟨o,r⟩
    ·exact .inl ⟨h1,rfl⟩
    ·rcases GQ n 6 .bad r with⟨h4,h5⟩ | ⟨h4,h5⟩
     ·exact .inl ⟨h4,by simp only[h5]⟩
     ·exact .inr ⟨h4,h5⟩
   ·rw[h1,h3,qdb];split
    ·exact .inr ⟨qeu _ _ _ _,h3⟩
    ·exact .inr ⟨h1,h3⟩
  by_cases h8:k=8
  ·subst h8
   cases l with
   |nil=>exact Eqv.refl _
   |cons t l =>
    by_cases hp:t=[40]
    ·subst hp;rw[q8p,xc0]
     rcases GQ n 0 .bad l with⟨h1,h3⟩ | ⟨h1,h3⟩
     ·rw[h3,h1,qdu];rcases next [[41]] (G n 0 .bad l false).r with _ | ⟨o,r⟩
      ·exact .inr ⟨rfl,rfl⟩
      ·exact .inl ⟨rfl,rfl⟩
     ·rw[h1,h3,qdb];rcases next [[41]] (G n 0 .bad l false).r with _ | ⟨o,r⟩<;>exact .inr ⟨rfl,rfl⟩
    ·rw[xc1 _ _ _ _ hp]
     cases ht:qia t
     ·rw[q8q _ _ _ _ _ ht hp];exact .inr ⟨rfl,rfl⟩
     ·rw[q8o _ _ _ _ _ ht];exact Eqv.refl _
  by_cases h:k<10
  ·rw[qxs n k x l false h h2 h6 h7 h8,xcp n k x l false h h2 h6 h7 h8]
   rcases GQ n (k+1) .bad l with⟨h1,h3⟩ | ⟨h1,h3⟩
   ·rw[h3,h1];exact GQ n (10+k) _ _
   ·rw[h1,h3];exact .inr ⟨qeu _ _ _ _,qk4 _ _ _ _⟩
  ·obtain⟨j,rfl⟩ : ∃ j,k=10+j:=⟨k-10,by omega⟩
   rw[q8k,q8w,qdu];rcases next (ops j) l with _ | ⟨o,r⟩
   ·exact Eqv.refl _
   ·rcases GQ n (j+1) .bad r with⟨h1,h3⟩ | ⟨h1,h3⟩
    ·simp only[h3,h1];exact GQ n (10+j) _ _
    ·simp only[h1,h3];exact .inr ⟨qeu _ _ _ _,qk4 _ _ _ _⟩
end Go.Proofs.YtldkgbnmaefaaaaGreatDoor.Fo
namespace Go.Proofs.YtldkgbnmaefaaaaGreatDoor.Fo
open Go.Proofs.YtldkgbnmaefaaaaGreatDoor.Nu
def qxq:List Tok:=[[43],[45],[42],[47],[109,111,100],[114,111,117,110,100],[94],[97,110,100],[111,114],[61],[60,62],[60],[62],[60,61],[62,61]]
def T.wf:T→Prop
 | .bad=>False
 | .num s=>s.length≤19
 | .un o x=>(o∈uns∨o=[40])∧x.wf
 | .bin o x y=>o∈qxq∧x.wf∧y.wf
theorem q5v(k:Nat) : ∀ o∈ops k,o∈qxq:=by
 unfold ops;split<;>decide
theorem qyo : ∀ o∈qj1,o∈qxq:=by decide
theorem qsw : ∀ (n k:Nat) (x:T) (l:List Tok) (b:Bool),k≠9→(∀ t∈l,t.length≤19)→(10≤k→b=false→x.wf) →
  (∀ t∈(G n k x l b).r,t.length≤19)∧((G n k x l b).b=false→(G n k x l b).t.wf)
 | 0,k,x,l,b,_,hl,_=>⟨hl,fun h=>by cases h⟩
 |n+1,k,x,l,b,hk9,hl,hx=>by
  have nx : ∀ {s:List Tok} {l:List Tok} {o:Tok} {r:List Tok},next s l=some (o,r)→(∀ t∈l,t.length≤19)→(∀ t∈r,t.length≤19):=fun h hl t ht=>hl t (by rw[(qdh h).1];exact List.mem_cons_of_mem _ ht)
  have mono : ∀ (n k:Nat) (x:T) (l:List Tok) (b:Bool),(G n k x l b).b=false→b=false:=fun n k x l b h=>by
   cases b
   ·rfl
   ·rw[qeu] at h;cases h
  by_cases h2:k=2
  ·subst h2;rw[G_2]
   have h1:=qsw n 3 .bad l b (by decide) hl (fun h=>absurd h (by decide))
   cases hq:next qj1 (G n 3 .bad l b).r with
   |none=>exact h1
   |some y =>
    obtain⟨o,r⟩:=y
    have h3:=qsw n 3 .bad r (G n 3 .bad l b).b (by decide) (nx hq h1.1) (fun h=>absurd h (by decide))
    exact⟨h3.1,fun h=>⟨qyo _ (qdh hq).2,h1.2 (mono _ _ _ _ _ h),h3.2 h⟩⟩
  by_cases h6:k=6
  ·subst h6;rw[G_6]
   cases hq:next uns l with
   |none=>exact qsw n 7 .bad l b (by decide) hl (fun h=>absurd h (by decide))
   |some y =>
    obtain⟨o,r⟩:=y
    have h3:=qsw n 6 .bad r b (by decide) (nx hq hl) (fun h=>absurd h (by decide))
    exact⟨h3.1,fun h=>⟨.inl (qdh hq).2,h3.2 h⟩⟩
  by_cases h7:k=7
  ·subst h7;rw[G_7]
   have h1:=qsw n 8 .bad l b (by decide) hl (fun h=>absurd h (by decide))
   cases hq:next [[94]] (G n 8 .bad l b).r with
   |none=>exact h1
   |some y =>
    obtain⟨o,r⟩:=y
    have h3:=qsw n 6 .bad r (G n 8 .bad l b).b (by decide) (nx hq h1.1) (fun h=>absurd h (by decide))
    exact⟨h3.1,fun h=>⟨by have:=(qdh hq).2;simp at this;subst this;decide,h1.2 (mono _ _ _ _ _ h),h3.2 h⟩⟩
  by_cases h8:k=8
  ·subst h8
   cases l with
   |nil=>rw[xcz];exact⟨hl,fun h=>by cases h⟩
   |cons t l =>
    have hl' : ∀ t∈l,t.length≤19:=fun u hu=>hl u (List.mem_cons_of_mem _ hu)
    cases ht:qia t
    ·by_cases hp:t=[40]
     ·subst hp;rw[q8p]
      have h1:=qsw n 0 .bad l b (by decide) hl' (fun h=>absurd h (by decide))
      cases hq:next [[41]] (G n 0 .bad l b).r with
      |none=>exact⟨h1.1,fun h=>by cases h⟩
      |some y =>
       obtain⟨o,r⟩:=y
       exact⟨nx hq h1.1,fun h=>⟨.inr rfl,h1.2 h⟩⟩
     ·rw[q8q _ _ _ _ _ ht hp];exact⟨hl,fun h=>by cases h⟩
    ·rw[q8o _ _ _ _ _ ht];exact⟨hl',fun _=>hl t (by simp)⟩
  by_cases h:k<10
  ·rw[qxs n k x l b h h2 h6 h7 h8]
   have kk:k+1≠9:=by omega
   have kl : ¬ (10≤k+1):=by omega
   have h1:=qsw n (k+1) .bad l b kk hl (fun h'=>absurd h' kl)
   have k9:10+k≠9:=by omega
   exact qsw n (10+k) _ _ _ k9 h1.1 (fun _ hb=>h1.2 hb)
  ·obtain⟨j,rfl⟩ : ∃ j,k=10+j:=⟨k-10,by omega⟩
   rw[q8k]
   cases hq:next (ops j) l with
   |none=>exact⟨hl,fun h=>hx (by omega) h⟩
   |some y =>
    obtain⟨o,r⟩:=y
    have hr:=nx hq hl
    have ho:=(qdh hq).2
    have hj:j<6:=by
     rcases Nat.lt_or_ge j 6 with h9 | h9
     ·exact h9
     ·unfold ops at ho;split at ho<;>first | omega | simp at ho
    have k9:j+1≠9:=by omega
    have kl : ¬ (10≤j+1):=by omega
    have h1:=qsw n (j+1) .bad r b k9 hr (fun h'=>absurd h' kl)
    exact qsw n (10+j) _ _ _ (show 10+j≠9 by omega) h1.1 (fun _ hb=>⟨q5v j _ ho,hx (by omega) (mono _ _ _ _ _ hb),h1.2 hb⟩)
theorem qeq{n d:Int}(h:okB n d=true):d≠0:=by have:=(qan.1 h).d1;omega
theorem qyh{a b:Bool}(h:(a&&b)=true):a=true∧b=true:=by cases a<;>cases b<;>simp_all
theorem q5u{c:Bool}{n d:Int}(hd:c=true→d≠0)(h:(if c then fit n d else (⟨0,0,7⟩:R3)).e=0):Ok (if c then fit n d else (⟨0,0,7⟩:R3)).n (if c then fit n d else (⟨0,0,7⟩:R3)).d:=by
 cases c
 ·simp at h
 ·exact(qki (hd rfl) h).1
theorem q0x{a p b q:Int}(h:(add a p b q).e=0):Ok (add a p b q).n (add a p b q).d:=q5u (fun h=>Int.mul_ne_zero (qeq (qyh h).1) (qeq (qyh h).2)) h
theorem qw0{a p b q:Int}(h:(sub a p b q).e=0):Ok (sub a p b q).n (sub a p b q).d:=q5u (fun h=>Int.mul_ne_zero (qeq (qyh h).1) (qeq (qyh h).2)) h
theorem qu3{a p b q:Int}(h:(mul a p b q).e=0):Ok (mul a p b q).n (mul a p b q).d:=q5u (fun h=>Int.mul_ne_zero (qeq (qyh h).1) (qeq (qyh h).2)) h
theorem q1g{a p b q:Int}(h:(div a p b q).e=0):Ok (div a p b q).n (div a p b q).d:=by
 unfold div at h ⊢
 cases hc:(okB a p&&okB b q)
 ·rw[hc] at h;simp at h
 ·rw[hc] at h
  by_cases hb:b=0
  ·subst hb;simp at h
  ·simp only[if_true,if_neg hb] at h ⊢
   exact(qki (Int.mul_ne_zero (qeq (qyh hc).1) hb) h).1
theorem q1t{a p b q:Int}(h:(mod a p b q).e=0):Ok (mod a p b q).n (mod a p b q).d:=by
 unfold mod at h ⊢
 cases hc:(okB a p&&okB b q)
 ·rw[hc] at h;simp at h
 ·rw[hc] at h
  by_cases hb:b=0
  ·subst hb;simp at h
  ·simp only[if_true,if_neg hb] at h ⊢
   exact(qki (Int.mul_ne_zero (qeq (qyh hc).1) (qeq (qyh hc).2)) h).1
theorem q1y(k:Nat):pw k≠0:=by
 unfold pw
 exact Int.ne_of_gt (Int.pow_pos (by decide))
theorem q6q{a c:R3}(h:(qq7 a c).e=0):Ok (qq7 a c).n (qq7 a c).d:=by
 unfold qq7 rnd at h ⊢
 by_cases hc:c.d=1
 ·simp only[if_pos hc] at h ⊢
  cases hk:okB a.n a.d
  ·rw[hk] at h;simp at h
  ·rw[hk] at h
   by_cases hq:0≤c.n∧c.n≤9
   ·simp only[if_true,if_pos hq] at h ⊢
    exact(qki (q1y _) h).1
   ·simp only[if_true,if_neg hq] at h;cases h
 ·simp only[if_neg hc] at h;cases h
theorem ok_one:Ok 1 1:=⟨by decide,by decide,by decide,by decide,by decide⟩
theorem qvg:Ok 0 1:=⟨by decide,by decide,by decide,by decide,by decide⟩
theorem q0h(b:Bool):Ok (tr b).n (tr b).d:=by cases b;exact qvg;exact ok_one
theorem xbl(a:R3) : ∀ k,(pwr a k).e=0→Ok (pwr a k).n (pwr a k).d
 | 0,_=>ok_one
 |k+1,h=>by
  unfold pwr at h ⊢
  by_cases hk:(pwr a k).e=0
  ·simp only[if_pos hk] at h ⊢;exact qu3 h
  ·simp only[if_neg hk] at h;exact absurd h hk
theorem xbj{a c:R3}(h:(pwF a c).e=0):Ok (pwF a c).n (pwF a c).d:=by
 unfold pwF at h ⊢
 by_cases hc:c.d=1∧0≤c.n∧c.n≤30
 ·simp only[if_pos hc] at h ⊢;exact xbl _ _ h
 ·simp only[if_neg hc] at h;cases h
theorem ql0{g:Bool}{l:List UInt8}(h:(qaf g l).e=0):Ok (qaf g l).n (qaf g l).d:=by
 unfold qaf at h ⊢
 split
 ·rename_i hc;rw[if_pos hc] at h;exact(qki (q1y _) h).1
 ·rename_i hc;rw[if_neg hc] at h;cases h
theorem qly{l:List UInt8}(h:(parse l).e=0):Ok (parse l).n (parse l).d:=by
 unfold parse at h ⊢
 split
 ·rename_i hc;rw[if_pos hc] at h;exact ql0 h
 ·rename_i hc;rw[if_neg hc] at h
  split
  ·rename_i hc2;rw[if_pos hc2] at h;exact ql0 h
  ·rename_i hc2;rw[if_neg hc2] at h;exact ql0 h
theorem xaq{n d:Int}(h:Ok n d):Ok (flr n d) 1:=by
 have e:flr n d=Int.fdiv n d:=by unfold flr;rw[qan.2 h];rfl
 have h1:=h.d1;have h2:=h.n1;have h3:=h.n2
 have e2:Int.fdiv n d=n / d:=Int.fdiv_eq_ediv_of_nonneg n (by omega)
 rw[e,e2]
 have h4 : -1000000000≤n / d:=(Int.le_ediv_iff_mul_le (by omega)).2 (by omega)
 have h5:n / d≤1000000000:=by
  have:=Int.ediv_le_ediv (c:=d) (by omega) h3
  refine Int.le_trans this ?_
  exact Int.ediv_le_self _ (by decide)
 exact⟨by decide,by decide,h4,h5,by simp⟩
theorem q9v{o:Tok}{a:R3}(ha:Ok a.n a.d)(h:(ap1 o a).e=0):Ok (ap1 o a).n (ap1 o a).d:=by
 unfold ap1 at h ⊢
 split
 ·rename_i hc;rw[if_pos hc] at h;exact qw0 h
 ·split
  ·exact q0h _
  ·split
   ·exact xaq ha
   ·exact ha
theorem q9w{o:Tok}{a c:R3}(h:(ap2 o a c).e=0):Ok (ap2 o a c).n (ap2 o a c).d:=by
 unfold ap2 at h ⊢
 split
 ·rename_i q;rw[if_pos q] at h;exact q0x h
 rename_i q;rw[if_neg q] at h;split
 ·rename_i q;rw[if_pos q] at h;exact qw0 h
 rename_i q;rw[if_neg q] at h;split
 ·rename_i q;rw[if_pos q] at h;exact qu3 h
 rename_i q;rw[if_neg q] at h;split
 ·rename_i q;rw[if_pos q] at h;exact q1g h
 rename_i q;rw[if_neg q] at h;split
 ·rename_i q;rw[if_pos q] at h;exact q1t h
 rename_i q;rw[if_neg q] at h;split
 ·rename_i q;rw[if_pos q] at h;exact q6q h
 rename_i q;rw[if_neg q] at h;split
 ·rename_i q;rw[if_pos q] at h;exact xbj h
 split
 ·exact q0h _
 split
 ·exact q0h _
 exact q0h _
theorem val_ok : ∀ (x:T),(val x).e=0→Ok (val x).n (val x).d
 | .bad,h=>by cases h
 | .num s,h=>qly h
 | .un o x,h=>by
  unfold val at h ⊢
  by_cases hx:(val x).e=0
  ·simp only[if_pos hx] at h ⊢;exact q9v (val_ok x hx) h
  ·simp only[if_neg hx] at h;exact absurd h hx
 | .bin o x y,h=>by
  unfold val at h ⊢
  by_cases hx:(val x).e=0
  ·by_cases hy:(val y).e=0
   ·simp only[if_pos hx,if_pos hy] at h ⊢;exact q9w h
   ·simp only[if_pos hx,if_neg hy] at h;exact absurd h hy
  ·simp only[if_neg hx] at h;exact absurd h hx
end Go.Proofs.YtldkgbnmaefaaaaGreatDoor.Fo
namespace Go.Proofs.YtldkgbnmaefaaaaGreatDoor.Fo
open Go.RowKit Go.Proofs.YtldkgbnmaefaaaaGreatDoor.Nu
set_option linter.unusedVariables false
set_option linter.unusedSimpArgs false
theorem qvy(a p:Int)(ha:I64 a)(w:World):Calls Tryz.prog 226 #[.string ⟨#[45]⟩,.agg #[.int .i64 a,.int .i64 p]] w fun e w'=>e=.returned (res (sub 0 1 a p))∧Below w.heap.size w w':=by
 have HS:Hid (∀ W,Calls Tryz.prog 254 #[.agg #[.int .i64 0,.int .i64 1],.agg #[.int .i64 a,.int .i64 p]] W fun e w'=>e=.returned (res (sub 0 1 a p))∧Below W.heap.size W w'):=hid fun W=>qtj 0 1 a p W ha
 generalize sub 0 1 a p=r at HS ⊢
 unfold res at HS
 go_enter Tryz.func226,Tryz.ntmps226
 go_wp2_with fail
 go_region_with (first
  |(go_at_call 254;refine(HS.out _).mono ?_;rintro e w2 ⟨rfl,hb2⟩;obtain⟨hc2,hf2⟩:=qad hb2;have z2:w.heap.size+1<w2.heap.size:=(Nat.lt_of_lt_of_le z1 hb2.size))
  |(go_at_call 255;refine(qa6 0 _).mono ?_;rintro e w1 ⟨rfl,hb⟩;obtain⟨hc,hf⟩:=qad hb;have z1:w.heap.size+1<w1.heap.size:=(by have:=hb.size;simp at this;omega)))
 all_goals
  have b1:Below w.heap.size w w1:=by
   first
    |exact qbz hb
    |exact((((Below.refl _ w).alloc (Nat.le_refl _) _).alloc (by simp) _).drew).trans (hb.mono (by simp;omega))
  have b2:Below w.heap.size w w2:=by
   first
    |exact b1.trans (hb2.mono b1.size)
    |exact b1.drew.trans (hb2.mono b1.size)
  have HB:=hid b2
  clear b1 b2 hb hb2
  go_wp2
  first
   |exact bodyPost_ret (v:=res r) (by simp[results,Tryz.results226,go_sem,hc2,hc,z1,res]) rfl ⟨rfl,qnz HB.out _ _⟩
   |exact bodyPost_ret (v:=res r) (by simp[results,Tryz.results226,go_sem,hc2,hc,z1,res]) rfl ⟨rfl,(qnz HB.out _ _).drew⟩
theorem qsf(o:Tok)(ho:o∈uns∨o=[40])(r:R3)(hr:Ok r.n r.d)(he:r.e=0)(w:World) :
  Calls Tryz.prog 226 #[.string ⟨o.toArray⟩,.agg #[.int .i64 r.n,.int .i64 r.d]] w fun e w'=>e=.returned (res (ap1 o r))∧Below w.heap.size w w':=by
 have hi:I64 r.n:=⟨by have:=hr.n1;omega,by have:=hr.n2;omega⟩
 obtain⟨a,p,e⟩:=r
 simp only at he
 subst he
 have:o=[45]∨o=[43]∨o=[110,111,116]∨o=[102,108,111,111,114]∨o=[40]:=by
  rcases ho with h | h
  ·simp only[uns,List.mem_cons,List.not_mem_nil,or_false] at h
   rcases h with h | h | h | h<;>simp[h]
  ·exact .inr (.inr (.inr (.inr h)))
 rcases this with rfl | rfl | rfl | rfl | rfl
 ·exact qvy a p hi w
 ·exact qq1 ⟨#[43]⟩ (.inl rfl) a p w
 ·exact q6d a p w
 ·exact qvx a p w
 ·exact qq1 ⟨#[40]⟩ (.inr rfl) a p w
theorem qtt(o:Tok)(ho:o∈qxq)(r s:R3)(hs:Ok s.n s.d)(he:r.e=0)(he2:s.e=0)(w:World) :
  Calls Tryz.prog 227 #[.string ⟨o.toArray⟩,.agg #[.int .i64 r.n,.int .i64 r.d],.agg #[.int .i64 s.n,.int .i64 s.d]] w fun e w'=>e=.returned (res (ap2 o r s))∧Below w.heap.size w w':=by
 have hi:I64 s.n:=⟨by have:=hs.n1;omega,by have:=hs.n2;omega⟩
 obtain⟨a,p,e⟩:=r
 obtain⟨b,q,e2⟩:=s
 simp only at he he2
 subst he he2
 simp only[qxq,List.mem_cons,List.not_mem_nil,or_false] at ho
 rcases ho with rfl | rfl | rfl | rfl | rfl | rfl | rfl | rfl | rfl | rfl | rfl | rfl | rfl | rfl | rfl
 ·exact q9x a p b q w
 ·exact xae a p b q hi w
 ·exact xab a p b q w
 ·exact q9z a p b q w
 ·exact xaa a p b q w
 ·exact xad a p b q w
 ·exact xac a p b q w
 ·exact q9y a p b q w
 ·exact xdk a p b q w
 ·exact xde a p b q w
 ·exact xdj a p b q w
 ·exact xdi a p b q w
 ·exact xdg a p b q w
 ·exact xdh a p b q w
 ·exact xdf a p b q w
end Go.Proofs.YtldkgbnmaefaaaaGreatDoor.Fo
namespace Go.Proofs.YtldkgbnmaefaaaaGreatDoor.Fo
open Go.RowKit Go.Proofs.YtldkgbnmaefaaaaGreatDoor.Nu
set_option linter.unusedVariables false
set_option linter.unusedSimpArgs false
def Vp(w:World)(x:T)(e:Ending)(w':World):Prop:=e=.returned (res (val x))∧Below w.heap.size w w'
theorem lt9{W:World}{g:Nat}{o:Obj}(h:W.heap[g]? = some o):g<W.heap.size:=(Array.getElem?_eq_some_iff.1 h).1
theorem q2b{w W:World}(h:Below w.heap.size w W)(u v:Value):Below w.heap.size w ((W.setCell ⟨w.heap.size+1,0,none⟩ u).setCell ⟨w.heap.size+1,1,none⟩ v):=qnz h u v
theorem hp4(w:World)(A B C D:Obj):((((w.alloc A).alloc B).alloc C).alloc D).heap[w.heap.size]? = some A∧((((w.alloc A).alloc B).alloc C).alloc D).heap[w.heap.size+1]? = some B∧((((w.alloc A).alloc B).alloc C).alloc D).heap[w.heap.size+1+1]? = some C:=by
 refine⟨?_,?_,?_⟩
 ·rw[Below.heap_alloc _ _ _ (by simp only[World.size_alloc];omega),Below.heap_alloc _ _ _ (by simp only[World.size_alloc];omega),Below.heap_alloc _ _ _ (by simp only[World.size_alloc];omega)];exact nh _ _
 ·rw[Below.heap_alloc _ _ _ (by simp only[World.size_alloc];omega),Below.heap_alloc _ _ _ (by simp only[World.size_alloc];omega)]
  have:=nh (w.alloc A) B
  simp only[World.size_alloc] at this
  exact this
 ·rw[Below.heap_alloc _ _ _ (by simp only[World.size_alloc];omega)]
  have:=nh ((w.alloc A).alloc B) C
  simp only[World.size_alloc] at this
  exact this
theorem s4{W:World}{c:Nat}{a b x y:Value}{t:TypeId}(h:W.heap[c]? = some (.cells #[a,b,x,y] t))(u v:Value):((W.setCell ⟨c,0,none⟩ u).setCell ⟨c,1,none⟩ v).heap[c]? = some (.cells #[u,v,x,y] t):=by
 simp only[World.setCell,Array.getElem?_modify,if_pos,h]
 rfl
structure Bk (w W:World) (o:Tok) (g k:Nat) (lv:Int) (a b c d:Int):Prop where
 n:W.heap[w.heap.size]? = some (.cells #[.string ⟨o.toArray⟩,.slice (some ⟨g,0,none⟩) k k,.int .i64 lv] 185)
 r:W.heap[w.heap.size+1]? = some (nb 0 0)
 v : ∃ t,W.heap[w.heap.size+1+1]? = some (.cells #[.int .i64 a,.int .i64 b,.int .i64 c,.int .i64 d] t)
theorem Bk.below{w W W':World}{o:Tok}{g k:Nat}{lv a b c d:Int}(h:Bk w W o g k lv a b c d)(hb:Below W.heap.size W W'):Bk w W' o g k lv a b c d :=
 ⟨(hb.block _ (lt9 h.n)).trans h.n,(hb.block _ (lt9 h.r)).trans h.r,h.v.elim fun t ht=>⟨t,(hb.block _ (lt9 ht)).trans ht⟩⟩
theorem Bk.set{w W:World}{o:Tok}{g k:Nat}{lv a b c d:Int}(h:Bk w W o g k lv a b c d)(u v:Int):Bk w ((W.setCell ⟨w.heap.size+1+1,0,none⟩ (.int .i64 u)).setCell ⟨w.heap.size+1+1,1,none⟩ (.int .i64 v)) o g k lv u v c d :=
 ⟨(q0a (by omega) _ _).trans h.n,(q0a (by omega) _ _).trans h.r,h.v.elim fun t ht=>⟨t,s4 ht _ _⟩⟩
theorem Bk.alloc{w W:World}{o:Tok}{g k:Nat}{lv a b c d:Int}(h:Bk w W o g k lv a b c d)(X:Obj):Bk w (W.alloc X) o g k lv a b c d:=h.below ((Below.refl _ W).alloc (Nat.le_refl _) X)
theorem Bk.facts{w W:World}{o:Tok}{g k:Nat}{lv a b c d:Int}(h:Bk w W o g k lv a b c d) :
  (W.cell? ⟨w.heap.size,0,none⟩=some (.string ⟨o.toArray⟩)∧W.cell? ⟨w.heap.size,1,none⟩=some (.slice (some ⟨g,0,none⟩) k k)∧W.cell? ⟨w.heap.size,2,none⟩=some (.int .i64 lv)) ∧
  (W.cell? ⟨w.heap.size+1,0,none⟩=some (.int .i64 0)∧W.cell? ⟨w.heap.size+1,1,none⟩=some (.int .i64 0)∧W.frozen? ⟨w.heap.size+1,0,none⟩=false∧W.frozen? ⟨w.heap.size+1,1,none⟩=false) ∧
  (W.cell? ⟨w.heap.size+1+1,0,none⟩=some (.int .i64 a)∧W.cell? ⟨w.heap.size+1+1,1,none⟩=some (.int .i64 b)∧W.cell? ⟨w.heap.size+1+1,2,none⟩=some (.int .i64 c)∧W.cell? ⟨w.heap.size+1+1,3,none⟩=some (.int .i64 d)) ∧
  (W.frozen? ⟨w.heap.size+1+1,0,none⟩=false∧W.frozen? ⟨w.heap.size+1+1,1,none⟩=false∧W.frozen? ⟨w.heap.size+1+1,2,none⟩=false∧W.frozen? ⟨w.heap.size+1+1,3,none⟩=false):=by
 obtain⟨t,hv⟩:=h.v
 have h1:=h.n
 have h2:=h.r
 unfold nb at h2
 refine⟨⟨?_,?_,?_⟩,⟨?_,?_,?_,?_⟩,⟨?_,?_,?_,?_⟩,?_,?_,?_,?_⟩
 all_goals
  first
   |(unfold World.cell?;first | (rw[h1];rfl) | (rw[h2];rfl) | (rw[hv];rfl))
   |(unfold World.frozen?;first | (rw[h1];rfl) | (rw[h2];rfl) | (rw[hv];rfl))
theorem qxi(s:Tok)(hs:s.length≤19)(w:World)(ht:Tb w):Calls Tryz.prog 181 #[.agg #[sv s,.slice none 0 0,.int .i64 1]] w (Vp w (.num s)):=by
 have HP:Hid (∀ W,Below w.heap.size w W→Calls Tryz.prog 88 #[.string ⟨s.toArray⟩] W fun e w'=>e=.returned (res (val (.num s)))∧Below W.heap.size W w'):=hid fun W hW=>by
  have:=qew ⟨s.toArray⟩ W (ht.below hW) (by simp[ByteArray.size];omega)
  exact this
 unfold Vp
 generalize val (.num s)=r at HP ⊢
 unfold res at HP
 unfold sv
 clear ht
 go_enter Tryz.func181,Tryz.ntmps181
 go_wp2_with fail
 refine wp_loop_rounds 1 ?_
 rw[rounds_succ]
 go_wp2_with fail
 refine(HP.out _ ?_).mono ?_
 ·exact(((Below.refl _ w).alloc (Nat.le_refl _) _).alloc (by simp) _).alloc (by simp;omega) _
 rintro e w1⟨rfl,hb⟩
 obtain⟨hc,hf⟩:=qad hb
 obtain⟨z0,z1,z2⟩:=qbp hb
 have HB:=hid (qav hb)
 go_wp2
 exact bodyPost_ret (v:=res r) (by simp[results,Tryz.results181,go_sem,hc,z1,res]) rfl ⟨rfl,q2b HB.out _ _⟩
theorem q0r(o:Tok)(ho:o∈uns∨o=[40])(x:T)(w:World)(ht:Tb w)(g:Nat)(t:TypeId)(oo:ByteArray)(A:Option Addr)(k c n:Nat)(lv:Int)(hg:w.heap[g]? = some (.cells #[.string oo,.slice A k c,.int .i64 (n:Int)] t))
  (ih : ∀ W,Below w.heap.size w W→Calls Tryz.prog 181 #[.agg #[.string oo,.slice A k c,.int .i64 (n:Int)]] W (Vp W x)) :
  Calls Tryz.prog 181 #[.agg #[sv o,.slice (some ⟨g,0,none⟩) 1 1,.int .i64 lv]] w (Vp w (.un o x)):=by
 have hgl:=lt9 hg
 have h0:w.cell? ⟨g,0,none⟩=some (.string oo):=by unfold World.cell?;rw[hg];rfl
 have h1:w.cell? ⟨g,1,none⟩=some (.slice A k c):=by unfold World.cell?;rw[hg];rfl
 have h2:w.cell? ⟨g,2,none⟩=some (.int .i64 (n:Int)):=by unfold World.cell?;rw[hg];rfl
 have hg1:g<w.heap.size+1:=by omega
 have hg2:g<w.heap.size+1+1:=by omega
 have hg3:g<w.heap.size+1+1+1:=by omega
 have hok:=val_ok x
 have HI:=hid ih
 have hv:val (.un o x)=if (val x).e=0 then ap1 o (val x) else⟨0,0,(val x).e⟩:=rfl
 unfold Vp at HI ⊢
 rw[hv]
 clear hv ih hg ht
 generalize val x=r at hok HI ⊢
 unfold res at HI
 unfold sv
 by_cases he:r.e=0
 ·have HA:Hid (∀ W,Calls Tryz.prog 226 #[.string ⟨o.toArray⟩,.agg #[.int .i64 r.n,.int .i64 r.d]] W fun e w'=>e=.returned (res (ap1 o r))∧Below W.heap.size W w'):=hid fun W=>qsf o ho r (hok he) he W
  rw[if_pos he]
  generalize ap1 o r=s at HA ⊢
  unfold res at HA
  clear hok ho
  go_enter Tryz.func181,Tryz.ntmps181
  go_wp2_with fail
  refine wp_loop_rounds 2 ?_
  rw[rounds_succ]
  go_wp2_with fail
  refine(HI.out _ ?_).mono ?_
  ·exact((((Below.refl _ w).alloc (Nat.le_refl _) _).alloc (by simp) _).alloc (by simp;omega) _).alloc (by simp;omega) _
  rintro e w1⟨rfl,hb⟩
  obtain⟨hc,hf⟩:=qad hb
  have HK:Hid (Bk w w1 o g 1 lv 0 0 0 0):=hid (Bk.below ⟨(hp4 w _ _ _ _).1,(hp4 w _ _ _ _).2.1,_,(hp4 w _ _ _ _).2.2⟩ hb)
  have hz1:=hb.size
  simp only[World.size_alloc] at hz1
  have z0:w.heap.size<w1.heap.size:=by omega
  have z1:w.heap.size+1<w1.heap.size:=by omega
  have z2:w.heap.size+1+1<w1.heap.size:=by omega
  have HB:Hid (Below w.heap.size w w1):=hid (((((Below.refl _ w).alloc (Nat.le_refl _) _).alloc (by simp) _).alloc (by simp;omega) _).alloc (by simp;omega) _ |>.trans (hb.mono (by simp;omega)))
  go_wp2_with fail
  rw[rounds_succ]
  go_wp2_with fail
  refine(HA.out _).mono ?_
  rintro e w2⟨rfl,hb2⟩
  obtain⟨hc2,hf2⟩:=qad hb2
  have HB2:=hid hb2
  have hz2:=hb2.size
  simp only[World.size_alloc,World.size_setCell] at hz2
  have y1:w.heap.size+1<w2.heap.size:=by omega
  have HK2:=hid (((HK.out.set _ _).alloc _).below hb2)
  obtain⟨⟨a0,a1,a2⟩,⟨r0,r1,rf0,rf1⟩,_⟩:=HK2.out.facts
  clear hb2
  go_wp2_with fail
  have b2:Below w.heap.size w w2:=(((HB.out.setCell (p:=⟨w.heap.size+1+1,0,none⟩) (by show _≤w.heap.size+1+1;omega) _).setCell (p:=⟨w.heap.size+1+1,1,none⟩) (by show _≤w.heap.size+1+1;omega) _).alloc (by simp[World.setCell];omega) _).trans (HB2.out.mono (by simp[World.setCell];omega))
  exact bodyPost_ret (v:=res s) (by simp[results,Tryz.results181,go_sem,r0,r1,y1,res]) rfl ⟨rfl,q2b b2 _ _⟩
 ·have hd:(r.e==0)=false:=by simpa using he
  rw[if_neg he]
  clear hok ho he
  go_enter Tryz.func181,Tryz.ntmps181
  go_wp2_with fail
  refine wp_loop_rounds 2 ?_
  rw[rounds_succ]
  go_wp2_with fail
  refine(HI.out _ ?_).mono ?_
  ·exact((((Below.refl _ w).alloc (Nat.le_refl _) _).alloc (by simp) _).alloc (by simp;omega) _).alloc (by simp;omega) _
  rintro e w1⟨rfl,hb⟩
  obtain⟨hc,hf⟩:=qad hb
  have HK:Hid (Bk w w1 o g 1 lv 0 0 0 0):=hid (Bk.below ⟨(hp4 w _ _ _ _).1,(hp4 w _ _ _ _).2.1,_,(hp4 w _ _ _ _).2.2⟩ hb)
  have hz1:=hb.size
  simp only[World.size_alloc] at hz1
  have z0:w.heap.size<w1.heap.size:=by omega
  have z1:w.heap.size+1<w1.heap.size:=by omega
  have z2:w.heap.size+1+1<w1.heap.size:=by omega
  have HB:Hid (Below w.heap.size w w1):=hid (((((Below.refl _ w).alloc (Nat.le_refl _) _).alloc (by simp) _).alloc (by simp;omega) _).alloc (by simp;omega) _ |>.trans (hb.mono (by simp;omega)))
  go_wp2_with fail
  exact bodyPost_ret (v:=res ⟨0,0,r.e⟩) (by simp[results,Tryz.results181,go_sem,hc,z1,res]) rfl ⟨rfl,(q2b HB.out _ _).alloc (by simp[World.setCell];omega) _⟩
theorem qxh(o:Tok)(ho:o∈qxq)(x y:T)(w:World)(g:Nat)(t:TypeId)(oo:ByteArray)(A:Option Addr)(k c n:Nat)(o2:ByteArray)(A2:Option Addr)(k2 c2 n2:Nat)(lv:Int)(hg:w.heap[g]? = some (.cells #[.string oo,.slice A k c,.int .i64 (n:Int),.string o2,.slice A2 k2 c2,.int .i64 (n2:Int)] t))
  (ih : ∀ W,Below w.heap.size w W→Calls Tryz.prog 181 #[.agg #[.string oo,.slice A k c,.int .i64 (n:Int)]] W (Vp W x))
  (ih2 : ∀ W,Below w.heap.size w W→Calls Tryz.prog 181 #[.agg #[.string o2,.slice A2 k2 c2,.int .i64 (n2:Int)]] W (Vp W y)) :
  Calls Tryz.prog 181 #[.agg #[sv o,.slice (some ⟨g,0,none⟩) 2 2,.int .i64 lv]] w (Vp w (.bin o x y)):=by
 have hgl:=lt9 hg
 have h0:w.cell? ⟨g,0,none⟩=some (.string oo):=by unfold World.cell?;rw[hg];rfl
 have h1:w.cell? ⟨g,1,none⟩=some (.slice A k c):=by unfold World.cell?;rw[hg];rfl
 have h2:w.cell? ⟨g,2,none⟩=some (.int .i64 (n:Int)):=by unfold World.cell?;rw[hg];rfl
 have h3:w.cell? ⟨g,3,none⟩=some (.string o2):=by unfold World.cell?;rw[hg];rfl
 have h4:w.cell? ⟨g,4,none⟩=some (.slice A2 k2 c2):=by unfold World.cell?;rw[hg];rfl
 have h5:w.cell? ⟨g,5,none⟩=some (.int .i64 (n2:Int)):=by unfold World.cell?;rw[hg];rfl
 have hg1:g<w.heap.size+1:=by omega
 have hg2:g<w.heap.size+1+1:=by omega
 have hg3:g<w.heap.size+1+1+1:=by omega
 have hok:=val_ok y
 have HI:=hid ih
 have HJ:=hid ih2
 have hv:val (.bin o x y)=if (val x).e=0 then (if (val y).e=0 then ap2 o (val x) (val y) else⟨0,0,(val y).e⟩) else⟨0,0,(val x).e⟩:=rfl
 unfold Vp at HI HJ ⊢
 rw[hv]
 clear hv ih ih2 hg
 generalize val x=r at HI ⊢
 generalize val y=r2 at hok HJ ⊢
 unfold res at HI HJ
 unfold sv
 by_cases he:r.e=0
 ·rw[if_pos he]
  by_cases he2:r2.e=0
  ·have HA:Hid (∀ W,Calls Tryz.prog 227 #[.string ⟨o.toArray⟩,.agg #[.int .i64 r.n,.int .i64 r.d],.agg #[.int .i64 r2.n,.int .i64 r2.d]] W fun e w'=>e=.returned (res (ap2 o r r2))∧Below W.heap.size W w'):=hid fun W=>qtt o ho r r2 (hok he2) he he2 W
   rw[if_pos he2]
   generalize ap2 o r r2=s at HA ⊢
   unfold res at HA
   clear hok ho
   go_enter Tryz.func181,Tryz.ntmps181
   go_wp2_with fail
   refine wp_loop_rounds 3 ?_
   rw[rounds_succ]
   go_wp2_with fail
   refine(HI.out _ ?_).mono ?_
   ·exact((((Below.refl _ w).alloc (Nat.le_refl _) _).alloc (by simp) _).alloc (by simp;omega) _).alloc (by simp;omega) _
   rintro e w1⟨rfl,hb⟩
   obtain⟨hc,hf⟩:=qad hb
   have HK:Hid (Bk w w1 o g 2 lv 0 0 0 0):=hid (Bk.below ⟨(hp4 w _ _ _ _).1,(hp4 w _ _ _ _).2.1,_,(hp4 w _ _ _ _).2.2⟩ hb)
   have hz1:=hb.size
   simp only[World.size_alloc] at hz1
   have z0:w.heap.size<w1.heap.size:=by omega
   have z1:w.heap.size+1<w1.heap.size:=by omega
   have z2:w.heap.size+1+1<w1.heap.size:=by omega
   have zg:g<w1.heap.size:=by omega
   have HB:Hid (Below w.heap.size w w1):=hid (((((Below.refl _ w).alloc (Nat.le_refl _) _).alloc (by simp) _).alloc (by simp;omega) _).alloc (by simp;omega) _ |>.trans (hb.mono (by simp;omega)))
   clear hb
   go_wp2_with fail
   rw[rounds_succ]
   go_wp2_with fail
   refine(HJ.out _ ?_).mono ?_
   ·exact(((HB.out.setCell (p:=⟨w.heap.size+1+1,0,none⟩) (by show _≤w.heap.size+1+1;omega) _).setCell (p:=⟨w.heap.size+1+1,1,none⟩) (by show _≤w.heap.size+1+1;omega) _).alloc (by simp[World.setCell];omega) _).alloc (by simp[World.setCell];omega) _
   rintro e w2⟨rfl,hb2⟩
   have HK2:=hid ((((HK.out.set _ _).alloc _).alloc _).below hb2)
   obtain⟨⟨a0,a1,a2⟩,⟨r0,r1,rf0,rf1⟩,⟨v0,v1,v2,v3⟩,vf0,vf1,vf2,vf3⟩:=HK2.out.facts
   have hz2:=hb2.size
   simp only[World.size_alloc,World.size_setCell] at hz2
   have y0:w.heap.size<w2.heap.size:=by omega
   have y1:w.heap.size+1<w2.heap.size:=by omega
   have y2:w.heap.size+1+1<w2.heap.size:=by omega
   have HB2:Hid (Below w.heap.size w w2):=hid ((((HB.out.setCell (p:=⟨w.heap.size+1+1,0,none⟩) (by show _≤w.heap.size+1+1;omega) _).setCell (p:=⟨w.heap.size+1+1,1,none⟩) (by show _≤w.heap.size+1+1;omega) _).alloc (by simp[World.setCell];omega) _).alloc (by simp[World.setCell];omega) _ |>.trans (hb2.mono (by simp[World.setCell];omega)))
   clear hb2
   go_wp2_with fail
   rw[rounds_succ]
   go_wp2_with fail
   refine(HA.out _).mono ?_
   rintro e w3⟨rfl,hb3⟩
   have hs3 : ∀ i,i≠w.heap.size+1+1 → ∀ u v:Value,((w2.setCell ⟨w.heap.size+1+1,2,none⟩ u).setCell ⟨w.heap.size+1+1,3,none⟩ v).heap[i]? = w2.heap[i]? := fun i hi u v=>by rw[Below.heap_setCell _ _ _ _ hi,Below.heap_setCell _ _ _ _ hi]
   have hr3:w3.heap[w.heap.size+1]? = some (nb 0 0):=(hb3.block _ (by simp[World.setCell];omega)).trans ((Below.heap_alloc _ _ _ (by simp[World.setCell];omega)).trans ((hs3 _ (by omega) _ _).trans HK2.out.r))
   obtain⟨r0,r1,rf0,rf1⟩:=Go.Proofs.YtldkgbnmaefaaaaGreatDoor.Fo.c2 hr3
   clear hs3 hr3
   have HB3:=hid hb3
   have hz3:=hb3.size
   simp only[World.size_alloc,World.size_setCell] at hz3
   have x1:w.heap.size+1<w3.heap.size:=by omega
   clear hb3
   go_wp2_with fail
   have b3:Below w.heap.size w w3:=(((HB2.out.setCell (p:=⟨w.heap.size+1+1,2,none⟩) (by show _≤w.heap.size+1+1;omega) _).setCell (p:=⟨w.heap.size+1+1,3,none⟩) (by show _≤w.heap.size+1+1;omega) _).alloc (by simp[World.setCell];omega) _).trans (HB3.out.mono (by simp[World.setCell];omega))
   exact bodyPost_ret (v:=res s) (by simp[results,Tryz.results181,go_sem,r0,r1,x1,res]) rfl ⟨rfl,q2b b3 _ _⟩
  ·have hd2:(r2.e==0)=false:=by simpa using he2
   rw[if_neg he2]
   clear hok ho he2
   go_enter Tryz.func181,Tryz.ntmps181
   go_wp2_with fail
   refine wp_loop_rounds 3 ?_
   rw[rounds_succ]
   go_wp2_with fail
   refine(HI.out _ ?_).mono ?_
   ·exact((((Below.refl _ w).alloc (Nat.le_refl _) _).alloc (by simp) _).alloc (by simp;omega) _).alloc (by simp;omega) _
   rintro e w1⟨rfl,hb⟩
   obtain⟨hc,hf⟩:=qad hb
   have HK:Hid (Bk w w1 o g 2 lv 0 0 0 0):=hid (Bk.below ⟨(hp4 w _ _ _ _).1,(hp4 w _ _ _ _).2.1,_,(hp4 w _ _ _ _).2.2⟩ hb)
   have hz1:=hb.size
   simp only[World.size_alloc] at hz1
   have z0:w.heap.size<w1.heap.size:=by omega
   have z1:w.heap.size+1<w1.heap.size:=by omega
   have z2:w.heap.size+1+1<w1.heap.size:=by omega
   have zg:g<w1.heap.size:=by omega
   have HB:Hid (Below w.heap.size w w1):=hid (((((Below.refl _ w).alloc (Nat.le_refl _) _).alloc (by simp) _).alloc (by simp;omega) _).alloc (by simp;omega) _ |>.trans (hb.mono (by simp;omega)))
   clear hb
   go_wp2_with fail
   rw[rounds_succ]
   go_wp2_with fail
   refine(HJ.out _ ?_).mono ?_
   ·exact(((HB.out.setCell (p:=⟨w.heap.size+1+1,0,none⟩) (by show _≤w.heap.size+1+1;omega) _).setCell (p:=⟨w.heap.size+1+1,1,none⟩) (by show _≤w.heap.size+1+1;omega) _).alloc (by simp[World.setCell];omega) _).alloc (by simp[World.setCell];omega) _
   rintro e w2⟨rfl,hb2⟩
   have HK2:=hid ((((HK.out.set _ _).alloc _).alloc _).below hb2)
   obtain⟨⟨a0,a1,a2⟩,⟨r0,r1,rf0,rf1⟩,⟨v0,v1,v2,v3⟩,vf0,vf1,vf2,vf3⟩:=HK2.out.facts
   have hz2:=hb2.size
   simp only[World.size_alloc,World.size_setCell] at hz2
   have y0:w.heap.size<w2.heap.size:=by omega
   have y1:w.heap.size+1<w2.heap.size:=by omega
   have y2:w.heap.size+1+1<w2.heap.size:=by omega
   have HB2:Hid (Below w.heap.size w w2):=hid ((((HB.out.setCell (p:=⟨w.heap.size+1+1,0,none⟩) (by show _≤w.heap.size+1+1;omega) _).setCell (p:=⟨w.heap.size+1+1,1,none⟩) (by show _≤w.heap.size+1+1;omega) _).alloc (by simp[World.setCell];omega) _).alloc (by simp[World.setCell];omega) _ |>.trans (hb2.mono (by simp[World.setCell];omega)))
   clear hb2
   go_wp2_with fail
   exact bodyPost_ret (v:=res ⟨0,0,r2.e⟩) (by simp[results,Tryz.results181,go_sem,r0,r1,y1,res]) rfl ⟨rfl,(q2b HB2.out _ _).alloc (by simp[World.setCell];omega) _⟩
 ·have hd:(r.e==0)=false:=by simpa using he
  rw[if_neg he]
  clear hok ho he
  go_enter Tryz.func181,Tryz.ntmps181
  go_wp2_with fail
  refine wp_loop_rounds 3 ?_
  rw[rounds_succ]
  go_wp2_with fail
  refine(HI.out _ ?_).mono ?_
  ·exact((((Below.refl _ w).alloc (Nat.le_refl _) _).alloc (by simp) _).alloc (by simp;omega) _).alloc (by simp;omega) _
  rintro e w1⟨rfl,hb⟩
  obtain⟨hc,hf⟩:=qad hb
  have HK:Hid (Bk w w1 o g 2 lv 0 0 0 0):=hid (Bk.below ⟨(hp4 w _ _ _ _).1,(hp4 w _ _ _ _).2.1,_,(hp4 w _ _ _ _).2.2⟩ hb)
  have hz1:=hb.size
  simp only[World.size_alloc] at hz1
  have z0:w.heap.size<w1.heap.size:=by omega
  have z1:w.heap.size+1<w1.heap.size:=by omega
  have z2:w.heap.size+1+1<w1.heap.size:=by omega
  have zg:g<w1.heap.size:=by omega
  have HB:Hid (Below w.heap.size w w1):=hid (((((Below.refl _ w).alloc (Nat.le_refl _) _).alloc (by simp) _).alloc (by simp;omega) _).alloc (by simp;omega) _ |>.trans (hb.mono (by simp;omega)))
  clear hb
  go_wp2_with fail
  exact bodyPost_ret (v:=res ⟨0,0,r.e⟩) (by simp[results,Tryz.results181,go_sem,hc,z1,res]) rfl ⟨rfl,(q2b HB.out _ _).alloc (by simp[World.setCell];omega) _⟩
theorem qbo : ∀ (x:T) (hx:x.wf) (X:Nat→Prop) (w:World) (v:Value),Nd X w x v→Tb w→Calls Tryz.prog 181 #[v] w (Vp w x)
 | .num s,hs,X,w,v,h,ht=>by rw[show v=_ from h];exact qxi s hs w ht
 | .un o x,hw,X,w,v,⟨g,t,a,b,c,e,_,hg,hx⟩,ht=>by
  rw[e]
  obtain⟨oo,A,k,c',e'⟩:=hx.form
  cases e'
  exact q0r o hw.1 x w ht g t oo A k c' _ _ hg (fun W hW=>qbo x hw.2 X W _ (hx.below hW) (ht.below hW))
 | .bin o x y,hw,X,w,v,⟨g,t,a,b,c,a',b',c',e,_,hg,hx,hy⟩,ht=>by
  rw[e]
  obtain⟨oo,A,k,c1,e1⟩:=hx.form
  obtain⟨o2,A2,k2,c2,e2⟩:=hy.form
  cases e1;cases e2
  exact qxh o hw.1 x y w g t oo A k c1 _ o2 A2 k2 c2 _ _ hg (fun W hW=>qbo x hw.2.1 X W _ (hx.below hW) (ht.below hW)) (fun W hW=>qbo y hw.2.2 X W _ (hy.below hW) (ht.below hW))
end Go.Proofs.YtldkgbnmaefaaaaGreatDoor.Fo
