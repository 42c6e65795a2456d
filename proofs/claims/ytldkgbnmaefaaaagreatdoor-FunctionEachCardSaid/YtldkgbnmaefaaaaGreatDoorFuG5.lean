import Derived.Test.YtldkgbnmaefaaaaGreatDoorFuG4
import Derived.Test.YtldkgbnmaefaaaaGreatDoorFoG1
set_option maxRecDepth 100000
set_option maxHeartbeats 4000000
namespace Go.Proofs.YtldkgbnmaefaaaaGreatDoor.Fu
open Go.RowKit
set_option linter.unusedVariables false
set_option linter.unusedSimpArgs false
theorem q4m(s:BA):trm (trm s)=trm s:=congrArg (fun x:List UInt8=>(⟨x.toArray⟩:BA)) (Sf.q4l s.data.toList)
theorem qhd(x:Int)(t:BA):(rd1 ⟨2,x⟩ t).e=(qbi (trm t) x).e:=by
 rw[qu0]
 by_cases h:(qbi (trm t) x).e=0
 ·rw[if_pos h,h]
 ·rw[if_neg h]
theorem qgi{x:Int}{t:BA}(h:(qbi (trm t) x).e=0):(rd1 ⟨2,x⟩ t).a=⟨em,(qbi (trm t) x).n⟩:=by
 rw[qu0,if_pos h]
theorem qev(e:Int):(if e=0 then 0 else e)=e:=by
 by_cases h:e=0
 ·rw[if_pos h,h]
 ·rw[if_neg h]
theorem q7k(l:List BA):qa0 0 [⟨0,0⟩] l=⟨Nu.itS (Sf.rc (trm (raw l 0))),0⟩:=by
 have h0:rdE l 0 [⟨0,0⟩]=0:=by
  simp only[rdE,qby,qdi,if_true]
 unfold qa0
 rw[if_pos h0]
 have a0:qb9 l [⟨0,0⟩] 0=⟨trm (raw l 0),0⟩:=by
  show(rd1 ⟨0,0⟩ (raw l 0)).a=_
  rw[qby]
 rw[a0]
 rfl
theorem qs2(l:List BA):qa0 2 [⟨0,0⟩,⟨1,0⟩] l=⟨Nu.itS ((Sf.occ (trm (raw l 0)) (raw l 1)).length:Int),0⟩:=by
 have h0:rdE l 0 [⟨0,0⟩,⟨1,0⟩]=0:=by
  simp only[rdE,qby,qdi,if_true]
 unfold qa0
 rw[if_pos h0]
 have a0:qb9 l [⟨0,0⟩,⟨1,0⟩] 0=⟨trm (raw l 0),0⟩:=by
  show(rd1 ⟨0,0⟩ (raw l 0)).a=_
  rw[qby]
 have a1:qb9 l [⟨0,0⟩,⟨1,0⟩] 1=⟨raw l 1,0⟩:=by
  show(rd1 ⟨1,0⟩ (raw l 1)).a=_
  rw[qdi]
 rw[a0,a1]
 rfl
theorem xa7(l:List BA):qa0 7 [⟨0,0⟩] l=⟨Sf.bsl ((trm (raw l 0)).data.toList.map Sf.sm),0⟩:=by
 have h0:rdE l 0 [⟨0,0⟩]=0:=by
  simp only[rdE,qby,qdi,if_true]
 unfold qa0
 rw[if_pos h0]
 have a0:qb9 l [⟨0,0⟩] 0=⟨trm (raw l 0),0⟩:=by
  show(rd1 ⟨0,0⟩ (raw l 0)).a=_
  rw[qby]
 rw[a0]
 rfl
theorem xa8(l:List BA):qa0 8 [⟨0,0⟩] l=⟨Sf.bsl ((trm (raw l 0)).data.toList.map Sf.cp),0⟩:=by
 have h0:rdE l 0 [⟨0,0⟩]=0:=by
  simp only[rdE,qby,qdi,if_true]
 unfold qa0
 rw[if_pos h0]
 have a0:qb9 l [⟨0,0⟩] 0=⟨trm (raw l 0),0⟩:=by
  show(rd1 ⟨0,0⟩ (raw l 0)).a=_
  rw[qby]
 rw[a0]
 rfl
theorem qq0(l:List BA):qa0 9 [⟨0,0⟩] l=⟨Sf.bsl (Sf.cs (Sf.chg false) 1 (trm (raw l 0)).data.toList),0⟩:=by
 have h0:rdE l 0 [⟨0,0⟩]=0:=by
  simp only[rdE,qby,qdi,if_true]
 unfold qa0
 rw[if_pos h0]
 have a0:qb9 l [⟨0,0⟩] 0=⟨trm (raw l 0),0⟩:=by
  show(rd1 ⟨0,0⟩ (raw l 0)).a=_
  rw[qby]
 rw[a0]
 rfl
theorem qq3(l:List BA):qa0 10 [⟨0,0⟩] l=⟨Sf.bsl (Sf.cs (Sf.chg true) 1 (trm (raw l 0)).data.toList),0⟩:=by
 have h0:rdE l 0 [⟨0,0⟩]=0:=by
  simp only[rdE,qby,qdi,if_true]
 unfold qa0
 rw[if_pos h0]
 have a0:qb9 l [⟨0,0⟩] 0=⟨trm (raw l 0),0⟩:=by
  show(rd1 ⟨0,0⟩ (raw l 0)).a=_
  rw[qby]
 rw[a0]
 rfl
theorem qqz(l:List BA):qa0 13 [⟨0,0⟩] l=qnk (trm (raw l 0)):=by
 have h0:rdE l 0 [⟨0,0⟩]=0:=by
  simp only[rdE,qby,qdi,if_true]
 unfold qa0
 rw[if_pos h0]
 have a0:qb9 l [⟨0,0⟩] 0=⟨trm (raw l 0),0⟩:=by
  show(rd1 ⟨0,0⟩ (raw l 0)).a=_
  rw[qby]
 rw[a0]
 rfl
theorem qkd(l:List BA):qa0 16 [⟨0,0⟩,⟨0,0⟩] l=qf7 (trm (raw l 0)) (trm (raw l 1)):=by
 have h0:rdE l 0 [⟨0,0⟩,⟨0,0⟩]=0:=by
  simp only[rdE,qby,qdi,if_true]
 unfold qa0
 rw[if_pos h0]
 have a0:qb9 l [⟨0,0⟩,⟨0,0⟩] 0=⟨trm (raw l 0),0⟩:=by
  show(rd1 ⟨0,0⟩ (raw l 0)).a=_
  rw[qby]
 have a1:qb9 l [⟨0,0⟩,⟨0,0⟩] 1=⟨trm (raw l 1),0⟩:=by
  show(rd1 ⟨0,0⟩ (raw l 1)).a=_
  rw[qby]
 rw[a0,a1]
 rfl
theorem q1x(l:List BA):qa0 11 [⟨0,0⟩] l=⟨trm (raw l 0),0⟩:=by
 have h0:rdE l 0 [⟨0,0⟩]=0:=by
  simp only[rdE,qby,qdi,if_true]
 unfold qa0
 rw[if_pos h0]
 have a0:qb9 l [⟨0,0⟩] 0=⟨trm (raw l 0),0⟩:=by
  show(rd1 ⟨0,0⟩ (raw l 0)).a=_
  rw[qby]
 rw[a0]
 show(⟨trm (trm (raw l 0)),0⟩:An)=_
 rw[q4m]
theorem q7l(l:List BA):qa0 3 [⟨0,0⟩,⟨1,0⟩,⟨2,0⟩] l=if (qbi (trm (raw l 2)) 0).e=0 then q8n (trm (raw l 0)) (raw l 1) (qbi (trm (raw l 2)) 0).n else⟨em,(qbi (trm (raw l 2)) 0).e⟩:=by
 have hE:rdE l 0 [⟨0,0⟩,⟨1,0⟩,⟨2,0⟩]=(qbi (trm (raw l 2)) 0).e:=by
  simp only[rdE,qby,qdi,qhd,if_true,qev]
 unfold qa0
 rw[hE]
 by_cases h:(qbi (trm (raw l 2)) 0).e=0
 ·rw[if_pos h,if_pos h]
  have a0:qb9 l [⟨0,0⟩,⟨1,0⟩,⟨2,0⟩] 0=⟨trm (raw l 0),0⟩:=by
   show(rd1 ⟨0,0⟩ (raw l 0)).a=_
   rw[qby]
  have a1:qb9 l [⟨0,0⟩,⟨1,0⟩,⟨2,0⟩] 1=⟨raw l 1,0⟩:=by
   show(rd1 ⟨1,0⟩ (raw l 1)).a=_
   rw[qdi]
  have a2:qb9 l [⟨0,0⟩,⟨1,0⟩,⟨2,0⟩] 2=⟨em,(qbi (trm (raw l 2)) 0).n⟩:=qgi h
  rw[a0,a1,a2]
  rfl
 ·rw[if_neg h,if_neg h]
theorem qq2(l:List BA):qa0 4 [⟨0,0⟩,⟨1,0⟩,⟨1,0⟩,⟨2,(-1)⟩] l=if (qbi (trm (raw l 3)) (-1)).e=0 then⟨Sf.rpS (trm (raw l 0)) (raw l 1) (raw l 2) (qbi (trm (raw l 3)) (-1)).n,Sf.rpE (trm (raw l 0)) (raw l 1) (raw l 2) (qbi (trm (raw l 3)) (-1)).n⟩ else⟨em,(qbi (trm (raw l 3)) (-1)).e⟩:=by
 have hE:rdE l 0 [⟨0,0⟩,⟨1,0⟩,⟨1,0⟩,⟨2,(-1)⟩]=(qbi (trm (raw l 3)) (-1)).e:=by
  simp only[rdE,qby,qdi,qhd,if_true,qev]
 unfold qa0
 rw[hE]
 by_cases h:(qbi (trm (raw l 3)) (-1)).e=0
 ·rw[if_pos h,if_pos h]
  have a0:qb9 l [⟨0,0⟩,⟨1,0⟩,⟨1,0⟩,⟨2,(-1)⟩] 0=⟨trm (raw l 0),0⟩:=by
   show(rd1 ⟨0,0⟩ (raw l 0)).a=_
   rw[qby]
  have a1:qb9 l [⟨0,0⟩,⟨1,0⟩,⟨1,0⟩,⟨2,(-1)⟩] 1=⟨raw l 1,0⟩:=by
   show(rd1 ⟨1,0⟩ (raw l 1)).a=_
   rw[qdi]
  have a2:qb9 l [⟨0,0⟩,⟨1,0⟩,⟨1,0⟩,⟨2,(-1)⟩] 2=⟨raw l 2,0⟩:=by
   show(rd1 ⟨1,0⟩ (raw l 2)).a=_
   rw[qdi]
  have a3:qb9 l [⟨0,0⟩,⟨1,0⟩,⟨1,0⟩,⟨2,(-1)⟩] 3=⟨em,(qbi (trm (raw l 3)) (-1)).n⟩:=qgi h
  rw[a0,a1,a2,a3]
  rfl
 ·rw[if_neg h,if_neg h]
theorem qq1(l:List BA):qa0 5 [⟨0,0⟩,⟨2,0⟩,⟨1,0⟩] l=if (qbi (trm (raw l 1)) 0).e=0 then⟨Sf.pL (trm (raw l 0)) (fill (raw l 2)) (qbi (trm (raw l 1)) 0).n,Sf.qii (trm (raw l 0)) (fill (raw l 2)) (qbi (trm (raw l 1)) 0).n⟩ else⟨em,(qbi (trm (raw l 1)) 0).e⟩:=by
 have hE:rdE l 0 [⟨0,0⟩,⟨2,0⟩,⟨1,0⟩]=(qbi (trm (raw l 1)) 0).e:=by
  simp only[rdE,qby,qdi,qhd,if_true,qev]
 unfold qa0
 rw[hE]
 by_cases h:(qbi (trm (raw l 1)) 0).e=0
 ·rw[if_pos h,if_pos h]
  have a0:qb9 l [⟨0,0⟩,⟨2,0⟩,⟨1,0⟩] 0=⟨trm (raw l 0),0⟩:=by
   show(rd1 ⟨0,0⟩ (raw l 0)).a=_
   rw[qby]
  have a2:qb9 l [⟨0,0⟩,⟨2,0⟩,⟨1,0⟩] 2=⟨raw l 2,0⟩:=by
   show(rd1 ⟨1,0⟩ (raw l 2)).a=_
   rw[qdi]
  have a1:qb9 l [⟨0,0⟩,⟨2,0⟩,⟨1,0⟩] 1=⟨em,(qbi (trm (raw l 1)) 0).n⟩:=qgi h
  rw[a0,a1,a2]
  rfl
 ·rw[if_neg h,if_neg h]
theorem qnj(l:List BA):qa0 6 [⟨0,0⟩,⟨2,0⟩,⟨1,0⟩] l=if (qbi (trm (raw l 1)) 0).e=0 then⟨Sf.pR (trm (raw l 0)) (fill (raw l 2)) (qbi (trm (raw l 1)) 0).n,Sf.qii (trm (raw l 0)) (fill (raw l 2)) (qbi (trm (raw l 1)) 0).n⟩ else⟨em,(qbi (trm (raw l 1)) 0).e⟩:=by
 have hE:rdE l 0 [⟨0,0⟩,⟨2,0⟩,⟨1,0⟩]=(qbi (trm (raw l 1)) 0).e:=by
  simp only[rdE,qby,qdi,qhd,if_true,qev]
 unfold qa0
 rw[hE]
 by_cases h:(qbi (trm (raw l 1)) 0).e=0
 ·rw[if_pos h,if_pos h]
  have a0:qb9 l [⟨0,0⟩,⟨2,0⟩,⟨1,0⟩] 0=⟨trm (raw l 0),0⟩:=by
   show(rd1 ⟨0,0⟩ (raw l 0)).a=_
   rw[qby]
  have a2:qb9 l [⟨0,0⟩,⟨2,0⟩,⟨1,0⟩] 2=⟨raw l 2,0⟩:=by
   show(rd1 ⟨1,0⟩ (raw l 2)).a=_
   rw[qdi]
  have a1:qb9 l [⟨0,0⟩,⟨2,0⟩,⟨1,0⟩] 1=⟨em,(qbi (trm (raw l 1)) 0).n⟩:=qgi h
  rw[a0,a1,a2]
  rfl
 ·rw[if_neg h,if_neg h]
theorem q1w(l:List BA):qa0 12 [⟨0,0⟩,⟨1,0⟩,⟨2,0⟩] l=if (qbi (trm (raw l 2)) 0).e=0 then⟨Sf.part (trm (raw l 0)) (raw l 1) (qbi (trm (raw l 2)) 0).n,0⟩ else⟨em,(qbi (trm (raw l 2)) 0).e⟩:=by
 have hE:rdE l 0 [⟨0,0⟩,⟨1,0⟩,⟨2,0⟩]=(qbi (trm (raw l 2)) 0).e:=by
  simp only[rdE,qby,qdi,qhd,if_true,qev]
 unfold qa0
 rw[hE]
 by_cases h:(qbi (trm (raw l 2)) 0).e=0
 ·rw[if_pos h,if_pos h]
  have a0:qb9 l [⟨0,0⟩,⟨1,0⟩,⟨2,0⟩] 0=⟨trm (raw l 0),0⟩:=by
   show(rd1 ⟨0,0⟩ (raw l 0)).a=_
   rw[qby]
  have a1:qb9 l [⟨0,0⟩,⟨1,0⟩,⟨2,0⟩] 1=⟨raw l 1,0⟩:=by
   show(rd1 ⟨1,0⟩ (raw l 1)).a=_
   rw[qdi]
  have a2:qb9 l [⟨0,0⟩,⟨1,0⟩,⟨2,0⟩] 2=⟨em,(qbi (trm (raw l 2)) 0).n⟩:=qgi h
  rw[a0,a1,a2]
  rfl
 ·rw[if_neg h,if_neg h]
theorem qw6(l:List BA):qa0 14 [⟨0,0⟩,⟨2,0⟩] l=if (qbi (trm (raw l 1)) 0).e=0 then q7o (trm (raw l 0)) (qbi (trm (raw l 1)) 0).n else⟨em,(qbi (trm (raw l 1)) 0).e⟩:=by
 have hE:rdE l 0 [⟨0,0⟩,⟨2,0⟩]=(qbi (trm (raw l 1)) 0).e:=by
  simp only[rdE,qby,qdi,qhd,if_true,qev]
 unfold qa0
 rw[hE]
 by_cases h:(qbi (trm (raw l 1)) 0).e=0
 ·rw[if_pos h,if_pos h]
  have a0:qb9 l [⟨0,0⟩,⟨2,0⟩] 0=⟨trm (raw l 0),0⟩:=by
   show(rd1 ⟨0,0⟩ (raw l 0)).a=_
   rw[qby]
  have a1:qb9 l [⟨0,0⟩,⟨2,0⟩] 1=⟨em,(qbi (trm (raw l 1)) 0).n⟩:=qgi h
  rw[a0,a1]
  rfl
 ·rw[if_neg h,if_neg h]
theorem qqy(l:List BA):qa0 15 [⟨0,0⟩,⟨2,0⟩,⟨0,0⟩] l=if (qbi (trm (raw l 1)) 0).e=0 then qf6 (trm (raw l 0)) (qbi (trm (raw l 1)) 0).n (trm (raw l 2)) else⟨em,(qbi (trm (raw l 1)) 0).e⟩:=by
 have hE:rdE l 0 [⟨0,0⟩,⟨2,0⟩,⟨0,0⟩]=(qbi (trm (raw l 1)) 0).e:=by
  simp only[rdE,qby,qdi,qhd,if_true,qev]
 unfold qa0
 rw[hE]
 by_cases h:(qbi (trm (raw l 1)) 0).e=0
 ·rw[if_pos h,if_pos h]
  have a0:qb9 l [⟨0,0⟩,⟨2,0⟩,⟨0,0⟩] 0=⟨trm (raw l 0),0⟩:=by
   show(rd1 ⟨0,0⟩ (raw l 0)).a=_
   rw[qby]
  have a2:qb9 l [⟨0,0⟩,⟨2,0⟩,⟨0,0⟩] 2=⟨trm (raw l 2),0⟩:=by
   show(rd1 ⟨0,0⟩ (raw l 2)).a=_
   rw[qby]
  have a1:qb9 l [⟨0,0⟩,⟨2,0⟩,⟨0,0⟩] 1=⟨em,(qbi (trm (raw l 1)) 0).n⟩:=qgi h
  rw[a0,a1,a2]
  rfl
 ·rw[if_neg h,if_neg h]
theorem qze(l:List BA):qa0 1 [⟨0,0⟩,⟨2,0⟩,⟨2,32768⟩] l=if (qbi (trm (raw l 1)) 0).e=0 then (if (qbi (trm (raw l 2)) 32768).e=0 then⟨Sf.slice (trm (raw l 0)) (qbi (trm (raw l 1)) 0).n (qbi (trm (raw l 2)) 32768).n,0⟩ else⟨em,(qbi (trm (raw l 2)) 32768).e⟩) else⟨em,(qbi (trm (raw l 1)) 0).e⟩:=by
 have hE:rdE l 0 [⟨0,0⟩,⟨2,0⟩,⟨2,32768⟩]=if (qbi (trm (raw l 1)) 0).e=0 then (qbi (trm (raw l 2)) 32768).e else (qbi (trm (raw l 1)) 0).e:=by
  simp only[rdE,qby,qdi,qhd,if_true,qev]
 unfold qa0
 rw[hE]
 by_cases h:(qbi (trm (raw l 1)) 0).e=0
 ·rw[if_pos h,if_pos h]
  by_cases h2:(qbi (trm (raw l 2)) 32768).e=0
  ·rw[if_pos h2,if_pos h2]
   have a0:qb9 l [⟨0,0⟩,⟨2,0⟩,⟨2,32768⟩] 0=⟨trm (raw l 0),0⟩:=by
    show(rd1 ⟨0,0⟩ (raw l 0)).a=_
    rw[qby]
   have a1:qb9 l [⟨0,0⟩,⟨2,0⟩,⟨2,32768⟩] 1=⟨em,(qbi (trm (raw l 1)) 0).n⟩:=qgi h
   have a2:qb9 l [⟨0,0⟩,⟨2,0⟩,⟨2,32768⟩] 2=⟨em,(qbi (trm (raw l 2)) 32768).n⟩:=qgi h2
   rw[a0,a1,a2]
   rfl
  ·rw[if_neg h2,if_neg h2]
 ·rw[if_neg h,if_neg h,if_neg h]
theorem qud(l:List UInt8)(h:(Nu.parse l).e≠0):(Nu.parse l).n=0∧(Nu.parse l).d=0:=by
 have hb : ∀ neg l,(Nu.qaf neg l).e≠0→(Nu.qaf neg l).n=0∧(Nu.qaf neg l).d=0:=by
  intro neg l h
  unfold Nu.qaf at h ⊢
  split at h
  ·rename_i hc
   rw[if_pos hc]
   have:=Fo.qkh _ _ h
   exact⟨congrArg Nu.R3.n this,congrArg Nu.R3.d this⟩
  ·rename_i hc
   rw[if_neg hc]
   exact⟨rfl,rfl⟩
 unfold Nu.parse at h ⊢
 split
 ·rename_i hc;rw[if_pos hc] at h;exact hb _ _ h
 ·rename_i hc
  rw[if_neg hc] at h
  split
  ·rename_i hc2;rw[if_pos hc2] at h;exact hb _ _ h
  ·rename_i hc2;rw[if_neg hc2] at h;exact hb _ _ h
def Z(r:Nu.R3):Prop:=r.e≠0→r.n=0∧r.d=0
theorem qq5(n d:Int):Z (Nu.fit n d):=fun h=>by
 have:=Fo.qkh _ _ h
 exact⟨congrArg Nu.R3.n this,congrArg Nu.R3.d this⟩
theorem qks(e:Int):Z ⟨0,0,e⟩:=fun _=>⟨rfl,rfl⟩
theorem xad{r:Nu.R3}(h:r.e=0):Z r:=fun h2=>absurd h h2
theorem xas(a p b q:Int):Z (Nu.add a p b q):=by
 unfold Nu.add;split
 ·exact qq5 _ _
 ·exact qks _
theorem q9c(a p b q:Int):Z (Nu.sub a p b q):=by
 unfold Nu.sub;split
 ·exact qq5 _ _
 ·exact qks _
theorem q8c(a p b q:Int):Z (Nu.mul a p b q):=by
 unfold Nu.mul;split
 ·exact qq5 _ _
 ·exact qks _
theorem xa6(a p b q:Int):Z (Nu.div a p b q):=by
 unfold Nu.div;split
 ·split
  ·exact qks _
  ·exact qq5 _ _
 ·exact qks _
theorem xbe(a p b q:Int):Z (Nu.mod a p b q):=by
 unfold Nu.mod;split
 ·split
  ·exact qks _
  ·exact qq5 _ _
 ·exact qks _
theorem xbo(a p k:Int):Z (Nu.rnd a p k):=by
 unfold Nu.rnd;split
 ·split
  ·exact qq5 _ _
  ·exact qks _
 ·exact qks _
theorem q8q(a:Nu.R3) : ∀ k,Z (Fo.pwr a k)
 | 0=>xad rfl
 |k+1=>by
  unfold Fo.pwr
  simp only
  split
  ·exact q8c _ _ _ _
  ·exact q8q a k
theorem xag(b:Bool):Z (Fo.tr b):=by cases b<;>exact xad rfl
theorem xau(o:Fo.Tok){a:Nu.R3}(h:a.e=0):Z (Fo.ap1 o a):=by
 unfold Fo.ap1
 split
 ·exact q9c _ _ _ _
 split
 ·exact xag _
 split
 ·exact xad rfl
 ·exact xad h
theorem xav(o:Fo.Tok)(a c:Nu.R3):Z (Fo.ap2 o a c):=by
 unfold Fo.ap2
 split
 ·exact xas _ _ _ _
 split
 ·exact q9c _ _ _ _
 split
 ·exact q8c _ _ _ _
 split
 ·exact xa6 _ _ _ _
 split
 ·exact xbe _ _ _ _
 split
 ·unfold Fo.qp2
  split
  ·exact xbo _ _ _
  ·exact qks _
 split
 ·unfold Fo.pwF
  split
  ·exact q8q _ _
  ·exact qks _
 split
 ·exact xag _
 split
 ·exact xag _
 ·exact xag _
theorem xbt : ∀ t:Fo.T,Z (Fo.val t)
 | .bad=>qks _
 | .num s=>qud s
 | .un o x=>by
  unfold Fo.val
  split
  ·rename_i h;exact xau o h
  ·exact qks _
 | .bin o x y=>by
  unfold Fo.val
  split
  ·split
   ·exact xav _ _ _
   ·exact qks _
  ·exact qks _
theorem xce(l:List UInt8):Z (Fo.ev l):=by
 unfold Fo.ev
 split
 ·exact qks _
 split
 ·exact qks _
 ·unfold Fo.evT
  split
  ·split
   ·exact qks _
   ·exact xbt _
  ·exact qks _
theorem qw9:Nu.fmtS 0 0=em:=by
 have h:Nu.okB 0 0=false:=by decide
 unfold Nu.fmtS Nu.fmt
 rw[h];rfl
theorem qw7(s:BA)(hs:s.size≠0):qnk s=⟨Nu.fmtS (Fo.ev s.data.toList).n (Fo.ev s.data.toList).d,(Fo.ev s.data.toList).e⟩:=by
 unfold qnk
 rw[if_neg hs]
 by_cases h:(Fo.ev s.data.toList).e=0
 ·rw[if_pos h,h]
 ·rw[if_neg h]
  obtain⟨h1,h2⟩:=xce _ h
  rw[h1,h2,qw9]
end Go.Proofs.YtldkgbnmaefaaaaGreatDoor.Fu
