import Derived.Test.YtldkgbnmaefaaaaGreatDoorFuG4
import Derived.Test.YtldkgbnmaefaaaaGreatDoorFoG1
set_option maxRecDepth 100000
set_option maxHeartbeats 4000000
namespace Go.Proofs.YtldkgbnmaefaaaaGreatDoor.Fu
open Go.RowKit
set_option linter.unusedVariables false
set_option linter.unusedSimpArgs false
theorem q7k(s:BA):trm (trm s)=trm s:=congrArg (fun x:List UInt8=>(⟨x.toArray⟩:BA)) (Sf.q7h s.data.toList)
theorem qh3(x:Int)(t:BA):(rd1 ⟨2,x⟩ t).e=(qbi (trm t) x).e:=by
 rw[qwc]
 by_cases h:(qbi (trm t) x).e=0
 ·rw[if_pos h,h]
 ·rw[if_neg h]
theorem qg3{x:Int}{t:BA}(h:(qbi (trm t) x).e=0):(rd1 ⟨2,x⟩ t).a=⟨em,(qbi (trm t) x).n⟩:=by
 rw[qwc,if_pos h]
theorem qe6(e:Int):(if e=0 then 0 else e)=e:=by
 by_cases h:e=0
 ·rw[if_pos h,h]
 ·rw[if_neg h]
theorem qqe(l:List BA):qai 0 [⟨0,0⟩] l=⟨Nu.itS (Sf.rc (trm (raw l 0))),0⟩:=by
 have h0:rdE l 0 [⟨0,0⟩]=0:=by
  simp only[rdE,qb1,qdn,if_true]
 unfold qai
 rw[if_pos h0]
 have a0:qce l [⟨0,0⟩] 0=⟨trm (raw l 0),0⟩:=by
  show(rd1 ⟨0,0⟩ (raw l 0)).a=_
  rw[qb1]
 rw[a0]
 rfl
theorem qi5(l:List BA):qai 2 [⟨0,0⟩,⟨1,0⟩] l=⟨Nu.itS ((Sf.occ (trm (raw l 0)) (raw l 1)).length:Int),0⟩:=by
 have h0:rdE l 0 [⟨0,0⟩,⟨1,0⟩]=0:=by
  simp only[rdE,qb1,qdn,if_true]
 unfold qai
 rw[if_pos h0]
 have a0:qce l [⟨0,0⟩,⟨1,0⟩] 0=⟨trm (raw l 0),0⟩:=by
  show(rd1 ⟨0,0⟩ (raw l 0)).a=_
  rw[qb1]
 have a1:qce l [⟨0,0⟩,⟨1,0⟩] 1=⟨raw l 1,0⟩:=by
  show(rd1 ⟨1,0⟩ (raw l 1)).a=_
  rw[qdn]
 rw[a0,a1]
 rfl
theorem q4v(l:List BA):qai 7 [⟨0,0⟩] l=⟨Sf.bsl ((trm (raw l 0)).data.toList.map Sf.sm),0⟩:=by
 have h0:rdE l 0 [⟨0,0⟩]=0:=by
  simp only[rdE,qb1,qdn,if_true]
 unfold qai
 rw[if_pos h0]
 have a0:qce l [⟨0,0⟩] 0=⟨trm (raw l 0),0⟩:=by
  show(rd1 ⟨0,0⟩ (raw l 0)).a=_
  rw[qb1]
 rw[a0]
 rfl
theorem qyv(l:List BA):qai 8 [⟨0,0⟩] l=⟨Sf.bsl ((trm (raw l 0)).data.toList.map Sf.cp),0⟩:=by
 have h0:rdE l 0 [⟨0,0⟩]=0:=by
  simp only[rdE,qb1,qdn,if_true]
 unfold qai
 rw[if_pos h0]
 have a0:qce l [⟨0,0⟩] 0=⟨trm (raw l 0),0⟩:=by
  show(rd1 ⟨0,0⟩ (raw l 0)).a=_
  rw[qb1]
 rw[a0]
 rfl
theorem qhk(l:List BA):qai 9 [⟨0,0⟩] l=⟨Sf.bsl (Sf.cs (Sf.chg false) 1 (trm (raw l 0)).data.toList),0⟩:=by
 have h0:rdE l 0 [⟨0,0⟩]=0:=by
  simp only[rdE,qb1,qdn,if_true]
 unfold qai
 rw[if_pos h0]
 have a0:qce l [⟨0,0⟩] 0=⟨trm (raw l 0),0⟩:=by
  show(rd1 ⟨0,0⟩ (raw l 0)).a=_
  rw[qb1]
 rw[a0]
 rfl
theorem qhm(l:List BA):qai 10 [⟨0,0⟩] l=⟨Sf.bsl (Sf.cs (Sf.chg true) 1 (trm (raw l 0)).data.toList),0⟩:=by
 have h0:rdE l 0 [⟨0,0⟩]=0:=by
  simp only[rdE,qb1,qdn,if_true]
 unfold qai
 rw[if_pos h0]
 have a0:qce l [⟨0,0⟩] 0=⟨trm (raw l 0),0⟩:=by
  show(rd1 ⟨0,0⟩ (raw l 0)).a=_
  rw[qb1]
 rw[a0]
 rfl
theorem qhj(l:List BA):qai 13 [⟨0,0⟩] l=qoo (trm (raw l 0)):=by
 have h0:rdE l 0 [⟨0,0⟩]=0:=by
  simp only[rdE,qb1,qdn,if_true]
 unfold qai
 rw[if_pos h0]
 have a0:qce l [⟨0,0⟩] 0=⟨trm (raw l 0),0⟩:=by
  show(rd1 ⟨0,0⟩ (raw l 0)).a=_
  rw[qb1]
 rw[a0]
 rfl
theorem qej(l:List BA):qai 16 [⟨0,0⟩,⟨0,0⟩] l=qgo (trm (raw l 0)) (trm (raw l 1)):=by
 have h0:rdE l 0 [⟨0,0⟩,⟨0,0⟩]=0:=by
  simp only[rdE,qb1,qdn,if_true]
 unfold qai
 rw[if_pos h0]
 have a0:qce l [⟨0,0⟩,⟨0,0⟩] 0=⟨trm (raw l 0),0⟩:=by
  show(rd1 ⟨0,0⟩ (raw l 0)).a=_
  rw[qb1]
 have a1:qce l [⟨0,0⟩,⟨0,0⟩] 1=⟨trm (raw l 1),0⟩:=by
  show(rd1 ⟨0,0⟩ (raw l 1)).a=_
  rw[qb1]
 rw[a0,a1]
 rfl
theorem qon(l:List BA):qai 11 [⟨0,0⟩] l=⟨trm (raw l 0),0⟩:=by
 have h0:rdE l 0 [⟨0,0⟩]=0:=by
  simp only[rdE,qb1,qdn,if_true]
 unfold qai
 rw[if_pos h0]
 have a0:qce l [⟨0,0⟩] 0=⟨trm (raw l 0),0⟩:=by
  show(rd1 ⟨0,0⟩ (raw l 0)).a=_
  rw[qb1]
 rw[a0]
 show(⟨trm (trm (raw l 0)),0⟩:An)=_
 rw[q7k]
theorem qt7(l:List BA):qai 3 [⟨0,0⟩,⟨1,0⟩,⟨2,0⟩] l=if (qbi (trm (raw l 2)) 0).e=0 then xbh (trm (raw l 0)) (raw l 1) (qbi (trm (raw l 2)) 0).n else⟨em,(qbi (trm (raw l 2)) 0).e⟩:=by
 have hE:rdE l 0 [⟨0,0⟩,⟨1,0⟩,⟨2,0⟩]=(qbi (trm (raw l 2)) 0).e:=by
  simp only[rdE,qb1,qdn,qh3,if_true,qe6]
 unfold qai
 rw[hE]
 by_cases h:(qbi (trm (raw l 2)) 0).e=0
 ·rw[if_pos h,if_pos h]
  have a0:qce l [⟨0,0⟩,⟨1,0⟩,⟨2,0⟩] 0=⟨trm (raw l 0),0⟩:=by
   show(rd1 ⟨0,0⟩ (raw l 0)).a=_
   rw[qb1]
  have a1:qce l [⟨0,0⟩,⟨1,0⟩,⟨2,0⟩] 1=⟨raw l 1,0⟩:=by
   show(rd1 ⟨1,0⟩ (raw l 1)).a=_
   rw[qdn]
  have a2:qce l [⟨0,0⟩,⟨1,0⟩,⟨2,0⟩] 2=⟨em,(qbi (trm (raw l 2)) 0).n⟩:=qg3 h
  rw[a0,a1,a2]
  rfl
 ·rw[if_neg h,if_neg h]
theorem qhl(l:List BA):qai 4 [⟨0,0⟩,⟨1,0⟩,⟨1,0⟩,⟨2,(-1)⟩] l=if (qbi (trm (raw l 3)) (-1)).e=0 then⟨Sf.rpS (trm (raw l 0)) (raw l 1) (raw l 2) (qbi (trm (raw l 3)) (-1)).n,Sf.rpE (trm (raw l 0)) (raw l 1) (raw l 2) (qbi (trm (raw l 3)) (-1)).n⟩ else⟨em,(qbi (trm (raw l 3)) (-1)).e⟩:=by
 have hE:rdE l 0 [⟨0,0⟩,⟨1,0⟩,⟨1,0⟩,⟨2,(-1)⟩]=(qbi (trm (raw l 3)) (-1)).e:=by
  simp only[rdE,qb1,qdn,qh3,if_true,qe6]
 unfold qai
 rw[hE]
 by_cases h:(qbi (trm (raw l 3)) (-1)).e=0
 ·rw[if_pos h,if_pos h]
  have a0:qce l [⟨0,0⟩,⟨1,0⟩,⟨1,0⟩,⟨2,(-1)⟩] 0=⟨trm (raw l 0),0⟩:=by
   show(rd1 ⟨0,0⟩ (raw l 0)).a=_
   rw[qb1]
  have a1:qce l [⟨0,0⟩,⟨1,0⟩,⟨1,0⟩,⟨2,(-1)⟩] 1=⟨raw l 1,0⟩:=by
   show(rd1 ⟨1,0⟩ (raw l 1)).a=_
   rw[qdn]
  have a2:qce l [⟨0,0⟩,⟨1,0⟩,⟨1,0⟩,⟨2,(-1)⟩] 2=⟨raw l 2,0⟩:=by
   show(rd1 ⟨1,0⟩ (raw l 2)).a=_
   rw[qdn]
  have a3:qce l [⟨0,0⟩,⟨1,0⟩,⟨1,0⟩,⟨2,(-1)⟩] 3=⟨em,(qbi (trm (raw l 3)) (-1)).n⟩:=qg3 h
  rw[a0,a1,a2,a3]
  rfl
 ·rw[if_neg h,if_neg h]
theorem qfo(l:List BA):qai 5 [⟨0,0⟩,⟨2,0⟩,⟨1,0⟩] l=if (qbi (trm (raw l 1)) 0).e=0 then⟨Sf.pL (trm (raw l 0)) (fill (raw l 2)) (qbi (trm (raw l 1)) 0).n,Sf.qio (trm (raw l 0)) (fill (raw l 2)) (qbi (trm (raw l 1)) 0).n⟩ else⟨em,(qbi (trm (raw l 1)) 0).e⟩:=by
 have hE:rdE l 0 [⟨0,0⟩,⟨2,0⟩,⟨1,0⟩]=(qbi (trm (raw l 1)) 0).e:=by
  simp only[rdE,qb1,qdn,qh3,if_true,qe6]
 unfold qai
 rw[hE]
 by_cases h:(qbi (trm (raw l 1)) 0).e=0
 ·rw[if_pos h,if_pos h]
  have a0:qce l [⟨0,0⟩,⟨2,0⟩,⟨1,0⟩] 0=⟨trm (raw l 0),0⟩:=by
   show(rd1 ⟨0,0⟩ (raw l 0)).a=_
   rw[qb1]
  have a2:qce l [⟨0,0⟩,⟨2,0⟩,⟨1,0⟩] 2=⟨raw l 2,0⟩:=by
   show(rd1 ⟨1,0⟩ (raw l 2)).a=_
   rw[qdn]
  have a1:qce l [⟨0,0⟩,⟨2,0⟩,⟨1,0⟩] 1=⟨em,(qbi (trm (raw l 1)) 0).n⟩:=qg3 h
  rw[a0,a1,a2]
  rfl
 ·rw[if_neg h,if_neg h]
theorem qf5(l:List BA):qai 6 [⟨0,0⟩,⟨2,0⟩,⟨1,0⟩] l=if (qbi (trm (raw l 1)) 0).e=0 then⟨Sf.pR (trm (raw l 0)) (fill (raw l 2)) (qbi (trm (raw l 1)) 0).n,Sf.qio (trm (raw l 0)) (fill (raw l 2)) (qbi (trm (raw l 1)) 0).n⟩ else⟨em,(qbi (trm (raw l 1)) 0).e⟩:=by
 have hE:rdE l 0 [⟨0,0⟩,⟨2,0⟩,⟨1,0⟩]=(qbi (trm (raw l 1)) 0).e:=by
  simp only[rdE,qb1,qdn,qh3,if_true,qe6]
 unfold qai
 rw[hE]
 by_cases h:(qbi (trm (raw l 1)) 0).e=0
 ·rw[if_pos h,if_pos h]
  have a0:qce l [⟨0,0⟩,⟨2,0⟩,⟨1,0⟩] 0=⟨trm (raw l 0),0⟩:=by
   show(rd1 ⟨0,0⟩ (raw l 0)).a=_
   rw[qb1]
  have a2:qce l [⟨0,0⟩,⟨2,0⟩,⟨1,0⟩] 2=⟨raw l 2,0⟩:=by
   show(rd1 ⟨1,0⟩ (raw l 2)).a=_
   rw[qdn]
  have a1:qce l [⟨0,0⟩,⟨2,0⟩,⟨1,0⟩] 1=⟨em,(qbi (trm (raw l 1)) 0).n⟩:=qg3 h
  rw[a0,a1,a2]
  rfl
 ·rw[if_neg h,if_neg h]
theorem qom(l:List BA):qai 12 [⟨0,0⟩,⟨1,0⟩,⟨2,0⟩] l=if (qbi (trm (raw l 2)) 0).e=0 then⟨Sf.part (trm (raw l 0)) (raw l 1) (qbi (trm (raw l 2)) 0).n,0⟩ else⟨em,(qbi (trm (raw l 2)) 0).e⟩:=by
 have hE:rdE l 0 [⟨0,0⟩,⟨1,0⟩,⟨2,0⟩]=(qbi (trm (raw l 2)) 0).e:=by
  simp only[rdE,qb1,qdn,qh3,if_true,qe6]
 unfold qai
 rw[hE]
 by_cases h:(qbi (trm (raw l 2)) 0).e=0
 ·rw[if_pos h,if_pos h]
  have a0:qce l [⟨0,0⟩,⟨1,0⟩,⟨2,0⟩] 0=⟨trm (raw l 0),0⟩:=by
   show(rd1 ⟨0,0⟩ (raw l 0)).a=_
   rw[qb1]
  have a1:qce l [⟨0,0⟩,⟨1,0⟩,⟨2,0⟩] 1=⟨raw l 1,0⟩:=by
   show(rd1 ⟨1,0⟩ (raw l 1)).a=_
   rw[qdn]
  have a2:qce l [⟨0,0⟩,⟨1,0⟩,⟨2,0⟩] 2=⟨em,(qbi (trm (raw l 2)) 0).n⟩:=qg3 h
  rw[a0,a1,a2]
  rfl
 ·rw[if_neg h,if_neg h]
theorem qli(l:List BA):qai 14 [⟨0,0⟩,⟨2,0⟩] l=if (qbi (trm (raw l 1)) 0).e=0 then xap (trm (raw l 0)) (qbi (trm (raw l 1)) 0).n else⟨em,(qbi (trm (raw l 1)) 0).e⟩:=by
 have hE:rdE l 0 [⟨0,0⟩,⟨2,0⟩]=(qbi (trm (raw l 1)) 0).e:=by
  simp only[rdE,qb1,qdn,qh3,if_true,qe6]
 unfold qai
 rw[hE]
 by_cases h:(qbi (trm (raw l 1)) 0).e=0
 ·rw[if_pos h,if_pos h]
  have a0:qce l [⟨0,0⟩,⟨2,0⟩] 0=⟨trm (raw l 0),0⟩:=by
   show(rd1 ⟨0,0⟩ (raw l 0)).a=_
   rw[qb1]
  have a1:qce l [⟨0,0⟩,⟨2,0⟩] 1=⟨em,(qbi (trm (raw l 1)) 0).n⟩:=qg3 h
  rw[a0,a1]
  rfl
 ·rw[if_neg h,if_neg h]
theorem qhi(l:List BA):qai 15 [⟨0,0⟩,⟨2,0⟩,⟨0,0⟩] l=if (qbi (trm (raw l 1)) 0).e=0 then qgn (trm (raw l 0)) (qbi (trm (raw l 1)) 0).n (trm (raw l 2)) else⟨em,(qbi (trm (raw l 1)) 0).e⟩:=by
 have hE:rdE l 0 [⟨0,0⟩,⟨2,0⟩,⟨0,0⟩]=(qbi (trm (raw l 1)) 0).e:=by
  simp only[rdE,qb1,qdn,qh3,if_true,qe6]
 unfold qai
 rw[hE]
 by_cases h:(qbi (trm (raw l 1)) 0).e=0
 ·rw[if_pos h,if_pos h]
  have a0:qce l [⟨0,0⟩,⟨2,0⟩,⟨0,0⟩] 0=⟨trm (raw l 0),0⟩:=by
   show(rd1 ⟨0,0⟩ (raw l 0)).a=_
   rw[qb1]
  have a2:qce l [⟨0,0⟩,⟨2,0⟩,⟨0,0⟩] 2=⟨trm (raw l 2),0⟩:=by
   show(rd1 ⟨0,0⟩ (raw l 2)).a=_
   rw[qb1]
  have a1:qce l [⟨0,0⟩,⟨2,0⟩,⟨0,0⟩] 1=⟨em,(qbi (trm (raw l 1)) 0).n⟩:=qg3 h
  rw[a0,a1,a2]
  rfl
 ·rw[if_neg h,if_neg h]
theorem qkh(l:List BA):qai 1 [⟨0,0⟩,⟨2,0⟩,⟨2,32768⟩] l=if (qbi (trm (raw l 1)) 0).e=0 then (if (qbi (trm (raw l 2)) 32768).e=0 then⟨Sf.slice (trm (raw l 0)) (qbi (trm (raw l 1)) 0).n (qbi (trm (raw l 2)) 32768).n,0⟩ else⟨em,(qbi (trm (raw l 2)) 32768).e⟩) else⟨em,(qbi (trm (raw l 1)) 0).e⟩:=by
 have hE:rdE l 0 [⟨0,0⟩,⟨2,0⟩,⟨2,32768⟩]=if (qbi (trm (raw l 1)) 0).e=0 then (qbi (trm (raw l 2)) 32768).e else (qbi (trm (raw l 1)) 0).e:=by
  simp only[rdE,qb1,qdn,qh3,if_true,qe6]
 unfold qai
 rw[hE]
 by_cases h:(qbi (trm (raw l 1)) 0).e=0
 ·rw[if_pos h,if_pos h]
  by_cases h2:(qbi (trm (raw l 2)) 32768).e=0
  ·rw[if_pos h2,if_pos h2]
   have a0:qce l [⟨0,0⟩,⟨2,0⟩,⟨2,32768⟩] 0=⟨trm (raw l 0),0⟩:=by
    show(rd1 ⟨0,0⟩ (raw l 0)).a=_
    rw[qb1]
   have a1:qce l [⟨0,0⟩,⟨2,0⟩,⟨2,32768⟩] 1=⟨em,(qbi (trm (raw l 1)) 0).n⟩:=qg3 h
   have a2:qce l [⟨0,0⟩,⟨2,0⟩,⟨2,32768⟩] 2=⟨em,(qbi (trm (raw l 2)) 32768).n⟩:=qg3 h2
   rw[a0,a1,a2]
   rfl
  ·rw[if_neg h2,if_neg h2]
 ·rw[if_neg h,if_neg h,if_neg h]
theorem qvl(l:List UInt8)(h:(Nu.parse l).e≠0):(Nu.parse l).n=0∧(Nu.parse l).d=0:=by
 have hb : ∀ neg l,(Nu.qaf neg l).e≠0→(Nu.qaf neg l).n=0∧(Nu.qaf neg l).d=0:=by
  intro neg l h
  unfold Nu.qaf at h ⊢
  split at h
  ·rename_i hc
   rw[if_pos hc]
   have:=Fo.qlm _ _ h
   exact⟨congrArg Nu.R3.n this,congrArg Nu.R3.d this⟩
  ·rename_i hc
   rw[if_neg hc]
   exact⟨rfl,rfl⟩
 unfold Nu.parse at h ⊢
 split
 ·rename_i hc;rw[if_pos hc] at h;exact hb _ _ h
 ·rename_i hc
  rw[if_neg hc] at h
  split
  ·rename_i hc2;rw[if_pos hc2] at h;exact hb _ _ h
  ·rename_i hc2;rw[if_neg hc2] at h;exact hb _ _ h
def Z(r:Nu.R3):Prop:=r.e≠0→r.n=0∧r.d=0
theorem qr4(n d:Int):Z (Nu.fit n d):=fun h=>by
 have:=Fo.qlm _ _ h
 exact⟨congrArg Nu.R3.n this,congrArg Nu.R3.d this⟩
theorem qlw(e:Int):Z ⟨0,0,e⟩:=fun _=>⟨rfl,rfl⟩
theorem xcv{r:Nu.R3}(h:r.e=0):Z r:=fun h2=>absurd h h2
theorem xda(a p b q:Int):Z (Nu.add a p b q):=by
 unfold Nu.add;split
 ·exact qr4 _ _
 ·exact qlw _
theorem xbw(a p b q:Int):Z (Nu.sub a p b q):=by
 unfold Nu.sub;split
 ·exact qr4 _ _
 ·exact qlw _
theorem xa3(a p b q:Int):Z (Nu.mul a p b q):=by
 unfold Nu.mul;split
 ·exact qr4 _ _
 ·exact qlw _
theorem xdp(a p b q:Int):Z (Nu.div a p b q):=by
 unfold Nu.div;split
 ·split
  ·exact qlw _
  ·exact qr4 _ _
 ·exact qlw _
theorem xdw(a p b q:Int):Z (Nu.mod a p b q):=by
 unfold Nu.mod;split
 ·split
  ·exact qlw _
  ·exact qr4 _ _
 ·exact qlw _
theorem xd9(a p k:Int):Z (Nu.rnd a p k):=by
 unfold Nu.rnd;split
 ·split
  ·exact qr4 _ _
  ·exact qlw _
 ·exact qlw _
theorem xbk(a:Nu.R3) : ∀ k,Z (Fo.pwr a k)
 | 0=>xcv rfl
 |k+1=>by
  unfold Fo.pwr
  simp only
  split
  ·exact xa3 _ _ _ _
  ·exact xbk a k
theorem xcy(b:Bool):Z (Fo.tr b):=by cases b<;>exact xcv rfl
theorem xdc(o:Fo.Tok){a:Nu.R3}(h:a.e=0):Z (Fo.ap1 o a):=by
 unfold Fo.ap1
 split
 ·exact xbw _ _ _ _
 split
 ·exact xcy _
 split
 ·exact xcv rfl
 ·exact xcv h
theorem xdd(o:Fo.Tok)(a c:Nu.R3):Z (Fo.ap2 o a c):=by
 unfold Fo.ap2
 split
 ·exact xda _ _ _ _
 split
 ·exact xbw _ _ _ _
 split
 ·exact xa3 _ _ _ _
 split
 ·exact xdp _ _ _ _
 split
 ·exact xdw _ _ _ _
 split
 ·unfold Fo.qq7
  split
  ·exact xd9 _ _ _
  ·exact qlw _
 split
 ·unfold Fo.pwF
  split
  ·exact xbk _ _
  ·exact qlw _
 split
 ·exact xcy _
 split
 ·exact xcy _
 ·exact xcy _
theorem xef : ∀ t:Fo.T,Z (Fo.val t)
 | .bad=>qlw _
 | .num s=>qvl s
 | .un o x=>by
  unfold Fo.val
  split
  ·rename_i h;exact xdc o h
  ·exact qlw _
 | .bin o x y=>by
  unfold Fo.val
  split
  ·split
   ·exact xdd _ _ _
   ·exact qlw _
  ·exact qlw _
theorem xe3(l:List UInt8):Z (Fo.ev l):=by
 unfold Fo.ev
 split
 ·exact qlw _
 split
 ·exact qlw _
 ·unfold Fo.evT
  split
  ·split
   ·exact qlw _
   ·exact xef _
  ·exact qlw _
theorem qyy:Nu.fmtS 0 0=em:=by
 have h:Nu.okB 0 0=false:=by decide
 unfold Nu.fmtS Nu.fmt
 rw[h];rfl
theorem qyw(s:BA)(hs:s.size≠0):qoo s=⟨Nu.fmtS (Fo.ev s.data.toList).n (Fo.ev s.data.toList).d,(Fo.ev s.data.toList).e⟩:=by
 unfold qoo
 rw[if_neg hs]
 by_cases h:(Fo.ev s.data.toList).e=0
 ·rw[if_pos h,h]
 ·rw[if_neg h]
  obtain⟨h1,h2⟩:=xe3 _ h
  rw[h1,h2,qyy]
end Go.Proofs.YtldkgbnmaefaaaaGreatDoor.Fu
