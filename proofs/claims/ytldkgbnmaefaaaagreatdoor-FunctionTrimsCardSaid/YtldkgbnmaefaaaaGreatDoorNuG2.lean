import Derived.Test.YtldkgbnmaefaaaaGreatDoorNuG1
import Derived.Test.YtldkgbnmaefaaaaGreatDoorShelf
import Derived.Deep.RegionWith
set_option maxRecDepth 100000
set_option maxHeartbeats 4000000
open Go.Lib (hid)
namespace Go.Proofs.YtldkgbnmaefaaaaGreatDoor.Nu
open Go.RowKit
def I64(x:Int):Prop := -9223372036854775808≤x∧x≤9223372036854775807
theorem q5p(b q:Int):okB (-b) q=okB b q:=by
 unfold okB;rw[Bool.eq_iff_iff];simp;omega
theorem q4f(a p b q:Int):add a p (-b) q=sub a p b q:=by
 unfold add sub;rw[q5p,Int.neg_mul,←Int.sub_eq_add_neg]
theorem qvf(q:Int):okB (-9223372036854775808) q=false:=by
 unfold okB;rw[decide_eq_false_iff_not];omega
theorem qu5:IntKind.i64.wrap (- (-9223372036854775808)) = -9223372036854775808:=by decide
theorem qtp(a p q:Int):add a p (-9223372036854775808) q=sub a p (-9223372036854775808) q:=by
 unfold add sub;rw[qvf];simp
def ng(b:Int):Int:=IntKind.i64.wrap (-b)
theorem q9t(a p b q:Int)(h:I64 b):add a p (ng b) q=sub a p b q:=by
 unfold ng
 by_cases hb:b = -9223372036854775808
 ·subst hb;rw[qu5,qtp]
 ·unfold I64 at h
  rw[IntWalk.i64_in _ (by omega),q4f]
theorem qtj(a p b q:Int)(w:World)(h:I64 b) :
  Calls Tryz.prog 254 #[.agg #[.int .i64 a,.int .i64 p],.agg #[.int .i64 b,.int .i64 q]] w fun e w'=>e=.returned (.tuple #[.agg #[.int .i64 (sub a p b q).n,.int .i64 (sub a p b q).d],.int .i64 (sub a p b q).e])∧Below w.heap.size w w':=by
 have HA:=hid (q9t a p b q h);clear h
 have e1:IntKind.i64.wrap (-b)=ng b:=rfl
 have HX:=hid e1
 go_enter Tryz.func254,Tryz.ntmps254
 go_wp2_with fail
 refine(qk0 a p (ng b) q _).mono ?_
 rintro e w1⟨rfl,hb⟩
 obtain⟨hc,hf⟩:=qad hb
 obtain⟨z0,z1,z2⟩:=qbp hb
 have HB:=hid (qav hb)
 go_wp2
 exact bodyPost_ret (v := .tuple #[.agg #[.int .i64 (add a p (ng b) q).n,.int .i64 (add a p (ng b) q).d],.int .i64 (add a p (ng b) q).e]) (by simp[results,Tryz.results254,go_sem,hc]) rfl ⟨by rw[HA.out],qc7 HB.out _ _⟩
def chk(a p b q:Int):Int:=if okB a p&&okB b q then (if b=0 then 16 else 0) else 7
theorem qbz{w w1:World}{A B:Obj}(hb:Below ((w.alloc A).alloc B).heap.size ((w.alloc A).alloc B) w1):Below w.heap.size w w1 :=
 (((Below.refl _ w).alloc (Nat.le_refl _) A).alloc (by simp) B).trans (hb.mono (by simp;omega))
theorem qg5{w w1:World}{A B:Obj}(hb:Below ((w.alloc A).alloc B).heap.size ((w.alloc A).alloc B) w1):w.heap.size<w1.heap.size∧w.heap.size+1<w1.heap.size:=by
 have:=hb.size;simp at this;omega
theorem q2h{w w1 w2:World}(h:w.heap.size+1<w1.heap.size)(hb:Below w1.heap.size w1 w2):w.heap.size<w2.heap.size∧w.heap.size+1<w2.heap.size:=by
 have:=hb.size;omega
theorem qld(a p b q:Int)(w:World) :
  Calls Tryz.prog 285 #[.agg #[.int .i64 a,.int .i64 p],.agg #[.int .i64 b,.int .i64 q]] w fun e w'=>e=.returned (.int .i64 (chk a p b q))∧Below w.heap.size w w':=by
 cases h1:okB a p
 ·have HA:Hid (chk a p b q=7):=hid (by unfold chk;rw[h1];rfl)
  have V1:=hid h1;clear h1
  go_enter Tryz.func285,Tryz.ntmps285
  go_wp2_with fail
  refine(qco V1.out _).mono ?_
  rintro e w1⟨rfl,hb⟩
  obtain⟨hc,hf⟩:=qad hb
  go_wp2
  go_ret
  exact⟨qak (by rw[HA.out]),qbz hb⟩
 ·cases h2:okB b q
  ·have HA:Hid (chk a p b q=7):=hid (by unfold chk;rw[h1,h2];rfl)
   have V1:=hid h1;clear h1
   have V2:=hid h2;clear h2
   go_enter Tryz.func285,Tryz.ntmps285
   go_wp2_with fail
   refine(qa5 V1.out _).mono ?_
   rintro e w1⟨rfl,hb⟩
   obtain⟨hc,hf⟩:=qad hb
   obtain⟨z0,z1⟩:=qg5 hb
   have HB:=hid (qbz hb)
   go_wp2_with fail
   refine(qco V2.out _).mono ?_
   rintro e w2⟨rfl,hb2⟩
   go_wp2
   go_ret
   exact⟨qak (by rw[HA.out]),HB.out.trans (hb2.mono HB.out.size)⟩
  ·by_cases hz:b=0
   ·subst hz
    have HA:Hid (chk a p 0 q=16):=hid (by unfold chk;rw[h1,h2];rfl)
    have V1:=hid h1;clear h1
    have V2:=hid h2;clear h2
    go_enter Tryz.func285,Tryz.ntmps285
    go_wp2_with fail
    refine(qa5 V1.out _).mono ?_
    rintro e w1⟨rfl,hb⟩
    obtain⟨hc,hf⟩:=qad hb
    obtain⟨z0,z1⟩:=qg5 hb
    have HB:=hid (qbz hb)
    go_wp2_with fail
    refine(qa5 V2.out _).mono ?_
    rintro e w2⟨rfl,hb2⟩
    obtain⟨hc2,hf2⟩:=qad hb2
    go_wp2
    go_ret
    exact⟨qak (by rw[HA.out]),HB.out.trans (hb2.mono HB.out.size)⟩
   ·have HA:Hid (chk a p b q=0):=hid (by unfold chk;rw[h1,h2];simp[hz])
    have hz0:(b==0)=false:=by simpa using hz
    have V1:=hid h1;clear h1
    have V2:=hid h2;clear h2
    have HZ:=hid hz;clear hz
    go_enter Tryz.func285,Tryz.ntmps285
    go_wp2_with fail
    refine(qa5 V1.out _).mono ?_
    rintro e w1⟨rfl,hb⟩
    obtain⟨hc,hf⟩:=qad hb
    obtain⟨z0,z1⟩:=qg5 hb
    have HB:=hid (qbz hb)
    go_wp2_with fail
    refine(qa5 V2.out _).mono ?_
    rintro e w2⟨rfl,hb2⟩
    obtain⟨hc2,hf2⟩:=qad hb2
    go_wp2
    go_ret
    exact⟨qak (by rw[HA.out]),HB.out.trans (hb2.mono HB.out.size)⟩
theorem q2x(a p b q:Int)(w:World) :
  Calls Tryz.prog 261 #[.agg #[.int .i64 a,.int .i64 p],.agg #[.int .i64 b,.int .i64 q]] w fun e w'=>e=.returned (.tuple #[.agg #[.int .i64 (div a p b q).n,.int .i64 (div a p b q).d],.int .i64 (div a p b q).e])∧Below w.heap.size w w':=by
 by_cases hk:chk a p b q=0
 ·have h12:okB a p=true∧okB b q=true∧b≠0:=by
   unfold chk at hk;cases h1:okB a p<;>cases h2:okB b q<;>simp[h1,h2] at hk ⊢
   intro hb;simp[hb] at hk
  obtain⟨h1,h2,hz⟩:=h12
  have hP:=qjk h1 h2
  have HA:Hid (div a p b q=fit (a*q) (p*b)):=hid (by unfold div;rw[h1,h2];simp[hz])
  have q1:=hP.aq;have q2:=hP.pb
  have hne:p*b≠0:=qkm (qan.1 h1).ne hz
  have e0:IntKind.i64.wrap (a*q)=a*q:=IntWalk.i64_in _ (by omega)
  have e1:IntKind.i64.wrap (p*b)=p*b:=IntWalk.i64_in _ (by omega)
  have HN:=hid hne
  clear h1 h2 hz hP hne
  go_enter Tryz.func261,Tryz.ntmps261
  go_wp2_with fail
  refine(qld a p b q _).mono ?_
  rintro e w1⟨rfl,hb⟩
  obtain⟨hc,hf⟩:=qad hb
  obtain⟨z0,z1,z2⟩:=qbp hb
  have HB:=hid (qav hb)
  go_wp2_with fail
  refine(qe4 (a*q) (p*b) _ (by omega) (by omega) HN.out).mono ?_
  rintro e w3⟨rfl,hb3⟩
  obtain⟨hc3,hf3⟩:=qad hb3
  have HB3:=hid (HB.out.trans (hb3.mono HB.out.size))
  go_wp2
  exact bodyPost_ret (v := .tuple #[.agg #[.int .i64 (fit (a*q) (p*b)).n,.int .i64 (fit (a*q) (p*b)).d],.int .i64 (fit (a*q) (p*b)).e]) (by simp[results,Tryz.results261,go_sem,hc,hc3,z2]) rfl ⟨by rw[HA.out],qc7 HB3.out _ _⟩
 ·have HA:Hid (div a p b q=⟨0,0,chk a p b q⟩):=hid (by
   unfold chk at hk;unfold div chk;cases h1:okB a p<;>cases h2:okB b q<;>simp[h1,h2] at hk ⊢
   simp[hk])
  have hk1:(chk a p b q != 0)=true:=by rw[bne_iff_ne];exact hk
  have HK:=hid hk;clear hk
  go_enter Tryz.func261,Tryz.ntmps261
  go_wp2_with fail
  refine(qld a p b q _).mono ?_
  rintro e w1⟨rfl,hb⟩
  obtain⟨hc,hf⟩:=qad hb
  obtain⟨z0,z1,z2⟩:=qbp hb
  have HB:=hid (qav hb)
  go_wp2
  exact bodyPost_ret (v := .tuple #[.agg #[.int .i64 0,.int .i64 0],.int .i64 (chk a p b q)]) (by simp[results,Tryz.results261,go_sem,hc]) rfl ⟨by rw[HA.out],qc7 HB.out _ _⟩
end Go.Proofs.YtldkgbnmaefaaaaGreatDoor.Nu
namespace Go.Proofs.YtldkgbnmaefaaaaGreatDoor.Nu
open Go.RowKit
theorem qox(n d:Int):gc (n.natAbs:Int) d=gc n d:=by unfold gc Int.gcd;rw[Int.natAbs_natCast]
theorem q4y(n d:Int):gc ((-n).natAbs:Int) (-d)=gc n d:=by rw[qox,q1p]
theorem q5a(n d:Int):gc (n.natAbs:Int) (-d)=gc n d:=by rw[qox];unfold gc;simp
theorem qcc(n d:Int)(w:World)(h1:n.natAbs≤4000000000000000000)(h2:d.natAbs≤4000000000000000000)(hd:d≠0) :
  Calls Tryz.prog 151 #[.int .i64 n,.int .i64 d] w fun e w'=>e=.returned (.tuple #[.agg #[.int .i64 (fit n d).n,.int .i64 (fit n d).d],.int .i64 (fit n d).e])∧Below w.heap.size w w':=by
 have hg:=qnn n hd
 have hB:=que (n:=n) hd
 have hfp:=qqf n hd
 have ef:=qov n d;have ed:=qoq n d
 have b1:=xar n d h1;have b2:=xao n d h2
 have e1:IntKind.i64.wrap (fn n d)=fn n d:=IntWalk.i64_in _ (by omega)
 have e2:IntKind.i64.wrap (fd n d)=fd n d:=IntWalk.i64_in _ (by omega)
 have hg0:(gc n d==0)=false:=by rw[beq_eq_false_iff_ne];omega
 by_cases hs:d<0
 ·have es:sn n d = -n:=by unfold sn;rw[if_pos hs]
  have es2:sd d = -d:=by unfold sd;rw[if_pos hs]
  rw[es] at ef;rw[es2] at ed
  have ed2:(-d) / gc n d=fd n d:=by unfold fd;rw[es2]
  clear es es2
  have EN:=q4y n d
  have EN2:=q5a n d
  go_enter Tryz.func151,Tryz.ntmps151
  go_wp2_with fail
  refine(qf0 (-n) _ (by omega) (by omega)).mono ?_
  rintro e w'⟨rfl,rfl⟩
  go_wp2_with fail
  refine(qoy _ (-d) _ (by omega) (by omega) (by omega) (by omega)).mono ?_
  rintro e w'⟨rfl,k,rfl⟩
  go_wp2
  go_region
  go_wp2_with fail
  refine(qf0 (fn n d) _ (by omega) (by omega)).mono ?_
  rintro e w'⟨rfl,rfl⟩
  by_cases hi1:1000000000<((fn n d).natAbs:Int)
  ·have HF:Hid (fit n d=⟨0,0,15⟩):=hid (by unfold fit;rw[hB,show inB (fn n d)=false by unfold inB;rw[decide_eq_false_iff_not];omega];rfl)
   clear hB
   go_wp2
   exact bodyPost_ret (v := .tuple #[.agg #[.int .i64 0,.int .i64 0],.int .i64 15]) (by simp[results,Tryz.results151,go_sem]) rfl ⟨by rw[HF.out],qa2 (below_drewN ((Below.refl _ _).alloc (Nat.le_refl _) _) _) _ _⟩
  ·have hj1:inB (fn n d)=true:=by unfold inB;rw[decide_eq_true_iff];omega
   have hd1:decide (1000000000<((fn n d).natAbs:Int))=false:=by simpa using hi1
   rw[hj1] at hB
   by_cases hi2:1000000000<fd n d
   ·have HF:Hid (fit n d=⟨0,0,15⟩):=hid (by unfold fit;rw[hB,show inB (fd n d)=false by unfold inB;rw[decide_eq_false_iff_not];omega];rfl)
    clear hB
    go_wp2
    exact bodyPost_ret (v := .tuple #[.agg #[.int .i64 0,.int .i64 0],.int .i64 15]) (by simp[results,Tryz.results151,go_sem]) rfl ⟨by rw[HF.out],qa2 (below_drewN ((Below.refl _ _).alloc (Nat.le_refl _) _) _) _ _⟩
   ·have HF:Hid (fit n d=⟨fn n d,fd n d,0⟩):=hid (by unfold fit;rw[hB,show inB (fd n d)=true by unfold inB;rw[decide_eq_true_iff];omega];rfl)
    clear hB
    go_wp2
    exact bodyPost_ret (v := .tuple #[.agg #[.int .i64 (fn n d),.int .i64 (fd n d)],.int .i64 0]) (by simp[results,Tryz.results151,go_sem]) rfl ⟨by rw[HF.out],qa2 (below_drewN ((Below.refl _ _).alloc (Nat.le_refl _) _) _) _ _⟩
 ·have es:sn n d=n:=by unfold sn;rw[if_neg hs]
  have es2:sd d=d:=by unfold sd;rw[if_neg hs]
  rw[es] at ef;rw[es2] at ed
  have ed2:d / gc n d=fd n d:=by unfold fd;rw[es2]
  have ef2:n / gc n d=fn n d:=by unfold fn;rw[es]
  clear es es2
  have EN:=qox n d
  go_enter Tryz.func151,Tryz.ntmps151
  go_wp2_with fail
  refine(qf0 n _ (by omega) (by omega)).mono ?_
  rintro e w'⟨rfl,rfl⟩
  go_wp2_with fail
  refine(qoy _ d _ (by omega) (by omega) (by omega) (by omega)).mono ?_
  rintro e w'⟨rfl,k,rfl⟩
  go_wp2
  go_region
  go_wp2_with fail
  refine(qf0 (fn n d) _ (by omega) (by omega)).mono ?_
  rintro e w'⟨rfl,rfl⟩
  by_cases hi1:1000000000<((fn n d).natAbs:Int)
  ·have HF:Hid (fit n d=⟨0,0,15⟩):=hid (by unfold fit;rw[hB,show inB (fn n d)=false by unfold inB;rw[decide_eq_false_iff_not];omega];rfl)
   clear hB
   go_wp2
   exact bodyPost_ret (v := .tuple #[.agg #[.int .i64 0,.int .i64 0],.int .i64 15]) (by simp[results,Tryz.results151,go_sem]) rfl ⟨by rw[HF.out],qa2 (below_drewN ((Below.refl _ _).alloc (Nat.le_refl _) _) _) _ _⟩
  ·have hj1:inB (fn n d)=true:=by unfold inB;rw[decide_eq_true_iff];omega
   have hd1:decide (1000000000<((fn n d).natAbs:Int))=false:=by simpa using hi1
   rw[hj1] at hB
   by_cases hi2:1000000000<fd n d
   ·have HF:Hid (fit n d=⟨0,0,15⟩):=hid (by unfold fit;rw[hB,show inB (fd n d)=false by unfold inB;rw[decide_eq_false_iff_not];omega];rfl)
    clear hB
    go_wp2
    exact bodyPost_ret (v := .tuple #[.agg #[.int .i64 0,.int .i64 0],.int .i64 15]) (by simp[results,Tryz.results151,go_sem]) rfl ⟨by rw[HF.out],qa2 (below_drewN ((Below.refl _ _).alloc (Nat.le_refl _) _) _) _ _⟩
   ·have HF:Hid (fit n d=⟨fn n d,fd n d,0⟩):=hid (by unfold fit;rw[hB,show inB (fd n d)=true by unfold inB;rw[decide_eq_true_iff];omega];rfl)
    clear hB
    go_wp2
    exact bodyPost_ret (v := .tuple #[.agg #[.int .i64 (fn n d),.int .i64 (fd n d)],.int .i64 0]) (by simp[results,Tryz.results151,go_sem]) rfl ⟨by rw[HF.out],qa2 (below_drewN ((Below.refl _ _).alloc (Nat.le_refl _) _) _) _ _⟩
end Go.Proofs.YtldkgbnmaefaaaaGreatDoor.Nu
namespace Go.Proofs.YtldkgbnmaefaaaaGreatDoor.Nu
open Go.RowKit
theorem qk5(a p b q:Int)(w:World) :
  Calls Tryz.prog 157 #[.agg #[.int .i64 a,.int .i64 p],.agg #[.int .i64 b,.int .i64 q]] w fun e w'=>e=.returned (.tuple #[.agg #[.int .i64 (add a p b q).n,.int .i64 (add a p b q).d],.int .i64 (add a p b q).e])∧Below w.heap.size w w':=by
 cases h1:okB a p
 ·have HA:Hid (add a p b q=⟨0,0,7⟩):=hid (by unfold add;rw[h1];rfl)
  have V1:=hid h1;clear h1
  go_enter Tryz.func157,Tryz.ntmps157
  go_wp2_with fail
  refine(qbe V1.out _).mono ?_
  rintro e w1⟨rfl,hb⟩
  obtain⟨hc,hf⟩:=qad hb
  have HB:=hid (qav hb)
  go_wp2
  exact bodyPost_ret (v := .tuple #[.agg #[.int .i64 0,.int .i64 0],.int .i64 7]) (by simp[results,Tryz.results157,go_sem,hc]) rfl ⟨by rw[HA.out],qc7 HB.out _ _⟩
 ·cases h2:okB b q
  ·have HA:Hid (add a p b q=⟨0,0,7⟩):=hid (by unfold add;rw[h1,h2];rfl)
   have V1:=hid h1;clear h1
   have V2:=hid h2;clear h2
   go_enter Tryz.func157,Tryz.ntmps157
   go_wp2_with fail
   refine(qal V1.out _).mono ?_
   rintro e w1⟨rfl,hb⟩
   obtain⟨hc,hf⟩:=qad hb
   obtain⟨z0,z1,z2⟩:=qbp hb
   have HB:=hid (qav hb)
   go_wp2_with fail
   refine(qbe V2.out _).mono ?_
   rintro e w2⟨rfl,hb2⟩
   obtain⟨hc2,hf2⟩:=qad hb2
   have HB2:=hid (HB.out.trans (hb2.mono HB.out.size))
   go_wp2
   exact bodyPost_ret (v := .tuple #[.agg #[.int .i64 0,.int .i64 0],.int .i64 7]) (by simp[results,Tryz.results157,go_sem,hc,hc2,z2]) rfl ⟨by rw[HA.out],qc7 HB2.out _ _⟩
  ·have hP:=qjk h1 h2
   have HA:Hid (add a p b q=fit (a*q+b*p) (p*q)):=hid (by unfold add;rw[h1,h2];rfl)
   have q1:=hP.aq;have q2:=hP.bp;have q3:=hP.pq;have q4:=hP.ab;have q5:=hP.pq1
   have V1:=hid h1;clear h1
   have V2:=hid h2;clear h2
   have e0:IntKind.i64.wrap (a*q)=a*q:=IntWalk.i64_in _ (by omega)
   have e1:IntKind.i64.wrap (b*p)=b*p:=IntWalk.i64_in _ (by omega)
   have e2:IntKind.i64.wrap (a*q+b*p)=a*q+b*p:=IntWalk.i64_in _ (by omega)
   have e3:IntKind.i64.wrap (p*q)=p*q:=IntWalk.i64_in _ (by omega)
   go_enter Tryz.func157,Tryz.ntmps157
   go_wp2_with fail
   refine(qal V1.out _).mono ?_
   rintro e w1⟨rfl,hb⟩
   obtain⟨hc,hf⟩:=qad hb
   obtain⟨z0,z1,z2⟩:=qbp hb
   have HB:=hid (qav hb)
   go_wp2_with fail
   refine(qal V2.out _).mono ?_
   rintro e w2⟨rfl,hb2⟩
   obtain⟨hc2,hf2⟩:=qad hb2
   obtain⟨y0,y1,y2⟩:=qdj z2 hb2
   have HB2:=hid (HB.out.trans (hb2.mono HB.out.size))
   go_wp2_with fail
   refine(qcc (a*q+b*p) (p*q) _ (by omega) (by omega) (by omega)).mono ?_
   rintro e w3⟨rfl,hb3⟩
   obtain⟨hc3,hf3⟩:=qad hb3
   have HB3:=hid (HB2.out.trans (hb3.mono HB2.out.size))
   go_wp2
   exact bodyPost_ret (v := .tuple #[.agg #[.int .i64 (fit (a*q+b*p) (p*q)).n,.int .i64 (fit (a*q+b*p) (p*q)).d],.int .i64 (fit (a*q+b*p) (p*q)).e]) (by simp[results,Tryz.results157,go_sem,hc,hc2,hc3,z2,y2]) rfl ⟨by rw[HA.out],qc7 HB3.out _ _⟩
theorem qp6(a p b q:Int)(w:World) :
  Calls Tryz.prog 153 #[.agg #[.int .i64 a,.int .i64 p],.agg #[.int .i64 b,.int .i64 q]] w fun e w'=>e=.returned (.tuple #[.agg #[.int .i64 (sub a p b q).n,.int .i64 (sub a p b q).d],.int .i64 (sub a p b q).e])∧Below w.heap.size w w':=by
 cases h1:okB a p
 ·have HA:Hid (sub a p b q=⟨0,0,7⟩):=hid (by unfold sub;rw[h1];rfl)
  have V1:=hid h1;clear h1
  go_enter Tryz.func153,Tryz.ntmps153
  go_wp2_with fail
  refine(qbe V1.out _).mono ?_
  rintro e w1⟨rfl,hb⟩
  obtain⟨hc,hf⟩:=qad hb
  have HB:=hid (qav hb)
  go_wp2
  exact bodyPost_ret (v := .tuple #[.agg #[.int .i64 0,.int .i64 0],.int .i64 7]) (by simp[results,Tryz.results153,go_sem,hc]) rfl ⟨by rw[HA.out],qc7 HB.out _ _⟩
 ·cases h2:okB b q
  ·have HA:Hid (sub a p b q=⟨0,0,7⟩):=hid (by unfold sub;rw[h1,h2];rfl)
   have V1:=hid h1;clear h1
   have V2:=hid h2;clear h2
   go_enter Tryz.func153,Tryz.ntmps153
   go_wp2_with fail
   refine(qal V1.out _).mono ?_
   rintro e w1⟨rfl,hb⟩
   obtain⟨hc,hf⟩:=qad hb
   obtain⟨z0,z1,z2⟩:=qbp hb
   have HB:=hid (qav hb)
   go_wp2_with fail
   refine(qbe V2.out _).mono ?_
   rintro e w2⟨rfl,hb2⟩
   obtain⟨hc2,hf2⟩:=qad hb2
   have HB2:=hid (HB.out.trans (hb2.mono HB.out.size))
   go_wp2
   exact bodyPost_ret (v := .tuple #[.agg #[.int .i64 0,.int .i64 0],.int .i64 7]) (by simp[results,Tryz.results153,go_sem,hc,hc2,z2]) rfl ⟨by rw[HA.out],qc7 HB2.out _ _⟩
  ·have hP:=qjk h1 h2
   have HA:Hid (sub a p b q=fit (a*q-b*p) (p*q)):=hid (by unfold sub;rw[h1,h2];rfl)
   have q1:=hP.aq;have q2:=hP.bp;have q3:=hP.pq;have q4:=hP.ab;have q5:=hP.pq1
   have V1:=hid h1;clear h1
   have V2:=hid h2;clear h2
   have e0:IntKind.i64.wrap (a*q)=a*q:=IntWalk.i64_in _ (by omega)
   have e1:IntKind.i64.wrap (b*p)=b*p:=IntWalk.i64_in _ (by omega)
   have e2:IntKind.i64.wrap (a*q-b*p)=a*q-b*p:=IntWalk.i64_in _ (by omega)
   have e3:IntKind.i64.wrap (p*q)=p*q:=IntWalk.i64_in _ (by omega)
   go_enter Tryz.func153,Tryz.ntmps153
   go_wp2_with fail
   refine(qal V1.out _).mono ?_
   rintro e w1⟨rfl,hb⟩
   obtain⟨hc,hf⟩:=qad hb
   obtain⟨z0,z1,z2⟩:=qbp hb
   have HB:=hid (qav hb)
   go_wp2_with fail
   refine(qal V2.out _).mono ?_
   rintro e w2⟨rfl,hb2⟩
   obtain⟨hc2,hf2⟩:=qad hb2
   obtain⟨y0,y1,y2⟩:=qdj z2 hb2
   have HB2:=hid (HB.out.trans (hb2.mono HB.out.size))
   go_wp2_with fail
   refine(qcc (a*q-b*p) (p*q) _ (by omega) (by omega) (by omega)).mono ?_
   rintro e w3⟨rfl,hb3⟩
   obtain⟨hc3,hf3⟩:=qad hb3
   have HB3:=hid (HB2.out.trans (hb3.mono HB2.out.size))
   go_wp2
   exact bodyPost_ret (v := .tuple #[.agg #[.int .i64 (fit (a*q-b*p) (p*q)).n,.int .i64 (fit (a*q-b*p) (p*q)).d],.int .i64 (fit (a*q-b*p) (p*q)).e]) (by simp[results,Tryz.results153,go_sem,hc,hc2,hc3,z2,y2]) rfl ⟨by rw[HA.out],qc7 HB3.out _ _⟩
theorem qp5(a p b q:Int)(w:World) :
  Calls Tryz.prog 158 #[.agg #[.int .i64 a,.int .i64 p],.agg #[.int .i64 b,.int .i64 q]] w fun e w'=>e=.returned (.tuple #[.agg #[.int .i64 (mul a p b q).n,.int .i64 (mul a p b q).d],.int .i64 (mul a p b q).e])∧Below w.heap.size w w':=by
 cases h1:okB a p
 ·have HA:Hid (mul a p b q=⟨0,0,7⟩):=hid (by unfold mul;rw[h1];rfl)
  have V1:=hid h1;clear h1
  go_enter Tryz.func158,Tryz.ntmps158
  go_wp2_with fail
  refine(qbe V1.out _).mono ?_
  rintro e w1⟨rfl,hb⟩
  obtain⟨hc,hf⟩:=qad hb
  have HB:=hid (qav hb)
  go_wp2
  exact bodyPost_ret (v := .tuple #[.agg #[.int .i64 0,.int .i64 0],.int .i64 7]) (by simp[results,Tryz.results158,go_sem,hc]) rfl ⟨by rw[HA.out],qc7 HB.out _ _⟩
 ·cases h2:okB b q
  ·have HA:Hid (mul a p b q=⟨0,0,7⟩):=hid (by unfold mul;rw[h1,h2];rfl)
   have V1:=hid h1;clear h1
   have V2:=hid h2;clear h2
   go_enter Tryz.func158,Tryz.ntmps158
   go_wp2_with fail
   refine(qal V1.out _).mono ?_
   rintro e w1⟨rfl,hb⟩
   obtain⟨hc,hf⟩:=qad hb
   obtain⟨z0,z1,z2⟩:=qbp hb
   have HB:=hid (qav hb)
   go_wp2_with fail
   refine(qbe V2.out _).mono ?_
   rintro e w2⟨rfl,hb2⟩
   obtain⟨hc2,hf2⟩:=qad hb2
   have HB2:=hid (HB.out.trans (hb2.mono HB.out.size))
   go_wp2
   exact bodyPost_ret (v := .tuple #[.agg #[.int .i64 0,.int .i64 0],.int .i64 7]) (by simp[results,Tryz.results158,go_sem,hc,hc2,z2]) rfl ⟨by rw[HA.out],qc7 HB2.out _ _⟩
  ·have hP:=qjk h1 h2
   have HA:Hid (mul a p b q=fit (a*b) (p*q)):=hid (by unfold mul;rw[h1,h2];rfl)
   have q1:=hP.aq;have q2:=hP.bp;have q3:=hP.pq;have q4:=hP.ab;have q5:=hP.pq1
   have V1:=hid h1;clear h1
   have V2:=hid h2;clear h2
   have e0:IntKind.i64.wrap (a*b)=a*b:=IntWalk.i64_in _ (by omega)
   have e1:IntKind.i64.wrap (p*q)=p*q:=IntWalk.i64_in _ (by omega)
   go_enter Tryz.func158,Tryz.ntmps158
   go_wp2_with fail
   refine(qal V1.out _).mono ?_
   rintro e w1⟨rfl,hb⟩
   obtain⟨hc,hf⟩:=qad hb
   obtain⟨z0,z1,z2⟩:=qbp hb
   have HB:=hid (qav hb)
   go_wp2_with fail
   refine(qal V2.out _).mono ?_
   rintro e w2⟨rfl,hb2⟩
   obtain⟨hc2,hf2⟩:=qad hb2
   obtain⟨y0,y1,y2⟩:=qdj z2 hb2
   have HB2:=hid (HB.out.trans (hb2.mono HB.out.size))
   go_wp2_with fail
   refine(qcc (a*b) (p*q) _ (by omega) (by omega) (by omega)).mono ?_
   rintro e w3⟨rfl,hb3⟩
   obtain⟨hc3,hf3⟩:=qad hb3
   have HB3:=hid (HB2.out.trans (hb3.mono HB2.out.size))
   go_wp2
   exact bodyPost_ret (v := .tuple #[.agg #[.int .i64 (fit (a*b) (p*q)).n,.int .i64 (fit (a*b) (p*q)).d],.int .i64 (fit (a*b) (p*q)).e]) (by simp[results,Tryz.results158,go_sem,hc,hc2,hc3,z2,y2]) rfl ⟨by rw[HA.out],qc7 HB3.out _ _⟩
end Go.Proofs.YtldkgbnmaefaaaaGreatDoor.Nu
namespace Go.Proofs.YtldkgbnmaefaaaaGreatDoor.Nu
open Go.RowKit
theorem qt0{a p b q:Int}(h1:okB a p=true)(h2:okB b q=true):Lib.compareInt (a*q) (b*p)=cmp a p b q:=by
 unfold Lib.compareInt cmp;rw[h1,h2];simp
theorem qc8(a p b q:Int)(w:World) :
  Calls Tryz.prog 266 #[.agg #[.int .i64 a,.int .i64 p],.agg #[.int .i64 b,.int .i64 q]] w fun e w'=>e=.returned (.int .i64 (cmp a p b q))∧Below w.heap.size w w':=by
 cases h1:okB a p
 ·have HA:Hid (cmp a p b q=0):=hid (by unfold cmp;rw[h1];rfl)
  have V1:=hid h1;clear h1
  go_enter Tryz.func266,Tryz.ntmps266
  go_wp2_with fail
  refine(qco V1.out _).mono ?_
  rintro e w1⟨rfl,hb⟩
  go_wp2
  go_ret
  exact⟨qak (by rw[HA.out]),qbz hb⟩
 ·cases h2:okB b q
  ·have HA:Hid (cmp a p b q=0):=hid (by unfold cmp;rw[h1,h2];rfl)
   have V1:=hid h1;clear h1
   have V2:=hid h2;clear h2
   go_enter Tryz.func266,Tryz.ntmps266
   go_wp2_with fail
   refine(qa5 V1.out _).mono ?_
   rintro e w1⟨rfl,hb⟩
   obtain⟨hc,hf⟩:=qad hb
   obtain⟨z0,z1⟩:=qg5 hb
   have HB:=hid (qbz hb)
   go_wp2_with fail
   refine(qco V2.out _).mono ?_
   rintro e w2⟨rfl,hb2⟩
   go_wp2
   go_ret
   exact⟨qak (by rw[HA.out]),HB.out.trans (hb2.mono HB.out.size)⟩
  ·have hP:=qjk h1 h2
   have HL:=hid (qt0 h1 h2)
   have q1:=hP.aq;have q2:=hP.bp
   have e0:IntKind.i64.wrap (a*q)=a*q:=IntWalk.i64_in _ (by omega)
   have e1:IntKind.i64.wrap (b*p)=b*p:=IntWalk.i64_in _ (by omega)
   have V1:=hid h1;clear h1
   have V2:=hid h2;clear h2 hP
   go_enter Tryz.func266,Tryz.ntmps266
   go_wp2_with fail
   refine(qa5 V1.out _).mono ?_
   rintro e w1⟨rfl,hb⟩
   obtain⟨hc,hf⟩:=qad hb
   obtain⟨z0,z1⟩:=qg5 hb
   have HB:=hid (qbz hb)
   go_wp2_with fail
   refine(qa5 V2.out _).mono ?_
   rintro e w2⟨rfl,hb2⟩
   obtain⟨hc2,hf2⟩:=qad hb2
   obtain⟨y0,y1⟩:=q2h z1 hb2
   have HB2:=hid (HB.out.trans (hb2.mono HB.out.size))
   go_wp2_with fail
   refine(Tryz.cmp_Compare_int _ _ _).mono ?_
   rintro e w3⟨rfl,hw3⟩
   go_wp2
   go_ret
   exact⟨qak HL.out,by first | exact HB2.out | (rw[hw3];exact HB2.out)⟩
theorem qaz(a p b q:Int)(w:World) :
  Calls Tryz.prog 156 #[.agg #[.int .i64 a,.int .i64 p],.agg #[.int .i64 b,.int .i64 q]] w fun e w'=>e=.returned (.int .i64 (cmp a p b q))∧Below w.heap.size w w':=by
 cases h1:okB a p
 ·have HA:Hid (cmp a p b q=0):=hid (by unfold cmp;rw[h1];rfl)
  have V1:=hid h1;clear h1
  go_enter Tryz.func156,Tryz.ntmps156
  go_wp2_with fail
  refine(qbe V1.out _).mono ?_
  rintro e w1⟨rfl,hb⟩
  go_wp2
  go_ret
  exact⟨qak (by rw[HA.out]),qbz hb⟩
 ·cases h2:okB b q
  ·have HA:Hid (cmp a p b q=0):=hid (by unfold cmp;rw[h1,h2];rfl)
   have V1:=hid h1;clear h1
   have V2:=hid h2;clear h2
   go_enter Tryz.func156,Tryz.ntmps156
   go_wp2_with fail
   refine(qal V1.out _).mono ?_
   rintro e w1⟨rfl,hb⟩
   obtain⟨hc,hf⟩:=qad hb
   obtain⟨z0,z1⟩:=qg5 hb
   have HB:=hid (qbz hb)
   go_wp2_with fail
   refine(qbe V2.out _).mono ?_
   rintro e w2⟨rfl,hb2⟩
   go_wp2
   go_ret
   exact⟨qak (by rw[HA.out]),HB.out.trans (hb2.mono HB.out.size)⟩
  ·have hP:=qjk h1 h2
   have HL:=hid (qt0 h1 h2)
   have q1:=hP.aq;have q2:=hP.bp
   have e0:IntKind.i64.wrap (a*q)=a*q:=IntWalk.i64_in _ (by omega)
   have e1:IntKind.i64.wrap (b*p)=b*p:=IntWalk.i64_in _ (by omega)
   have V1:=hid h1;clear h1
   have V2:=hid h2;clear h2 hP
   go_enter Tryz.func156,Tryz.ntmps156
   go_wp2_with fail
   refine(qal V1.out _).mono ?_
   rintro e w1⟨rfl,hb⟩
   obtain⟨hc,hf⟩:=qad hb
   obtain⟨z0,z1⟩:=qg5 hb
   have HB:=hid (qbz hb)
   go_wp2_with fail
   refine(qal V2.out _).mono ?_
   rintro e w2⟨rfl,hb2⟩
   obtain⟨hc2,hf2⟩:=qad hb2
   obtain⟨y0,y1⟩:=q2h z1 hb2
   have HB2:=hid (HB.out.trans (hb2.mono HB.out.size))
   go_wp2
   go_region
   go_wp2
   all_goals go_ret
   all_goals exact⟨qak (by rw[←HL.out];unfold Lib.compareInt;repeat' split;all_goals (first | rfl | omega)),below_drewN HB2.out 1⟩
end Go.Proofs.YtldkgbnmaefaaaaGreatDoor.Nu
namespace Go.Proofs.YtldkgbnmaefaaaaGreatDoor.Nu
open Go.RowKit
theorem qap{w w1:World}{A:Obj}(hb:Below (w.alloc A).heap.size (w.alloc A) w1):Below w.heap.size w w1 :=
 ((Below.refl _ w).alloc (Nat.le_refl _) A).trans (hb.mono (by simp))
theorem qg4{w w1:World}{A:Obj}(hb:Below (w.alloc A).heap.size (w.alloc A) w1):w.heap.size<w1.heap.size:=by
 have:=hb.size;simp at this;omega
def flr(n d:Int):Int:=if okB n d then Int.fdiv n d else 0
def flE(n d:Int):Int:=if okB n d then 0 else 7
theorem qs2(n d:Int)(w:World) :
  Calls Tryz.prog 258 #[.agg #[.int .i64 n,.int .i64 d]] w fun e w'=>e=.returned (.tuple #[.int .i64 (flr n d),.int .i64 (flE n d)])∧Below w.heap.size w w':=by
 cases h1:okB n d
 ·have HA:Hid (flr n d=0∧flE n d=7):=hid (by unfold flr flE;rw[h1];exact⟨rfl,rfl⟩)
  have V1:=hid h1;clear h1
  go_enter Tryz.func258,Tryz.ntmps258
  go_wp2_with fail
  refine(qco V1.out _).mono ?_
  rintro e w1⟨rfl,hb⟩
  obtain⟨hc,hf⟩:=qad hb
  go_wp2
  go_ret2
  exact⟨by rw[HA.out.1,HA.out.2];rfl,qap hb⟩
 ·have HA:Hid (flr n d=Int.fdiv n d∧flE n d=0):=hid (by unfold flr flE;rw[h1];exact⟨rfl,rfl⟩)
  have hO:=qan.1 h1
  have q1:=hO.n1;have q2:=hO.n2;have q3:=hO.d1
  have V1:=hid h1;clear h1 hO
  go_enter Tryz.func258,Tryz.ntmps258
  go_wp2_with fail
  refine(qa5 V1.out _).mono ?_
  rintro e w1⟨rfl,hb⟩
  obtain⟨hc,hf⟩:=qad hb
  have z0:=qg4 hb
  have HB:=hid (qap hb)
  go_wp2_with fail
  refine(qnk n d _ (by omega) (by omega)).mono ?_
  rintro e w2⟨rfl,rfl⟩
  go_wp2
  go_ret2
  exact⟨by rw[HA.out.1,HA.out.2];rfl,HB.out⟩
theorem q4x(n d:Int)(hd:d≠0):(n-Int.fmod n d).tdiv d=Int.fdiv n d:=by
 have h:=Int.fmod_add_mul_fdiv n d
 have e:n-Int.fmod n d=d*Int.fdiv n d:=by
  generalize d*n.fdiv d=z at *
  generalize n.fmod d=y at *
  omega
 rw[e,Int.mul_tdiv_cancel_left _ hd]
theorem q4n(p q:Int)(w:World)(h1:q.natAbs≤4611686018427387904)(hq:q≠0) :
  Calls Tryz.prog 210 #[.int .i64 p,.int .i64 q] w fun e w'=>e=.returned (.int .i64 (Int.fmod p q)) ∧ ∃ k,w'=w.drewN k :=
 (qna p q w h1 hq).mono fun _ _ ⟨he,hw⟩=>⟨he,0,hw.symm⟩
theorem qrw(n d:Int)(w:World) :
  Calls Tryz.prog 155 #[.agg #[.int .i64 n,.int .i64 d]] w fun e w'=>e=.returned (.tuple #[.int .i64 (flr n d),.int .i64 (flE n d)])∧Below w.heap.size w w':=by
 cases h1:okB n d
 ·have HA:Hid (flr n d=0∧flE n d=7):=hid (by unfold flr flE;rw[h1];exact⟨rfl,rfl⟩)
  have V1:=hid h1;clear h1
  go_enter Tryz.func155,Tryz.ntmps155
  go_wp2_with fail
  refine(qbe V1.out _).mono ?_
  rintro e w1⟨rfl,hb⟩
  obtain⟨hc,hf⟩:=qad hb
  go_wp2
  go_ret2
  exact⟨by rw[HA.out.1,HA.out.2];rfl,qap hb⟩
 ·have HA:Hid (flr n d=Int.fdiv n d∧flE n d=0):=hid (by unfold flr flE;rw[h1];exact⟨rfl,rfl⟩)
  have hO:=qan.1 h1
  have q1:=hO.n1;have q2:=hO.n2;have q3:=hO.d1;have q4:=hO.d2
  have hm1:=Int.fmod_nonneg_of_pos n (show 0<d by omega)
  have hm2:=Int.fmod_lt_of_pos n (show 0<d by omega)
  have e1:IntKind.i64.wrap (n-Int.fmod n d)=n-Int.fmod n d:=IntWalk.i64_in _ (by generalize n.fmod d=y at *;omega)
  have hb0:=qmp (n-Int.fmod n d) d (B:=3000000000) (by generalize n.fmod d=y at *;omega)
  have e2:=q4x n d (by omega)
  rw[e2] at hb0
  have e3:IntKind.i64.wrap (Int.fdiv n d)=Int.fdiv n d:=IntWalk.i64_in _ (by generalize n.fdiv d=y at *;omega)
  have hd0:(d==0)=false:=by rw[beq_eq_false_iff_ne];omega
  have V1:=hid h1;clear h1 hO hm1 hm2 hb0
  go_enter Tryz.func155,Tryz.ntmps155
  go_wp2_with fail
  refine(qal V1.out _).mono ?_
  rintro e w1⟨rfl,hb⟩
  obtain⟨hc,hf⟩:=qad hb
  have z0:=qg4 hb
  have HB:=hid (qap hb)
  go_wp2
  go_quiet ((go_at_call 210;exact(Calls.quiet_of (q4n n d _ (by omega) (by omega)))))
  go_wp2
  go_ret2
  exact⟨by rw[HA.out.1,HA.out.2];rfl,below_drewN HB.out _⟩
end Go.Proofs.YtldkgbnmaefaaaaGreatDoor.Nu
namespace Go.Proofs.YtldkgbnmaefaaaaGreatDoor.Nu
open Go.RowKit
theorem qnz{w W:World}(h:Below w.heap.size w W)(u v:Value):Below w.heap.size w ((W.setCell ⟨w.heap.size+1,0,none⟩ u).setCell ⟨w.heap.size+1,1,none⟩ v) :=
 (h.setCell (show w.heap.size≤w.heap.size+1 by omega) _).setCell (show w.heap.size≤w.heap.size+1 by omega) _
theorem qdx{W w1:World}{n:Nat}(hb:Below (W.drewN n).heap.size (W.drewN n) w1):(∀ b o,b<W.heap.size→w1.cell? ⟨b,o,none⟩=W.cell? ⟨b,o,none⟩)∧(∀ b o,b<W.heap.size→w1.frozen? ⟨b,o,none⟩=W.frozen? ⟨b,o,none⟩) :=
 ⟨fun b o h=>(hb.cell (p:=⟨b,o,none⟩) (by simpa using h)).trans (by simp),fun b o h=>(hb.frozen (p:=⟨b,o,none⟩) (by simpa using h)).trans (by first | rfl | simp)⟩
theorem qfu{w w1 w2:World}{n:Nat}(h:w.heap.size+1<w1.heap.size)(hb:Below (w1.drewN n).heap.size (w1.drewN n) w2):w.heap.size+1<w2.heap.size:=by
 have:=hb.size;simp at this;omega
theorem qwm(n:Int)(w:World)(h:n.natAbs≤1000000000):Calls Tryz.prog 228 #[.int .i64 n] w fun e w'=>e=.returned (.int .i64 (n.natAbs:Int)) ∧ ∃ k,w'=w.drewN k :=
 (qmm n w (by omega) (by omega)).mono fun _ _ ⟨he,hw⟩=>⟨he,0,hw.symm⟩
theorem q0w(n:Int)(w:World)(h:n.natAbs≤1000000000):Calls Tryz.prog 96 #[.int .i64 n] w fun e w'=>e=.returned (.int .i64 (n.natAbs:Int)) ∧ ∃ k,w'=w.drewN k :=
 (qf0 n w (by omega) (by omega)).mono fun _ _ ⟨he,hw⟩=>⟨he,0,hw.symm⟩
theorem qiw(n d k:Int)(w:World) :
  Calls Tryz.prog 184 #[.agg #[.int .i64 n,.int .i64 d],.int .i64 k] w fun e w'=>e=.returned (.tuple #[.agg #[.int .i64 (rnd n d k).n,.int .i64 (rnd n d k).d],.int .i64 (rnd n d k).e])∧Below w.heap.size w w':=by
 cases h1:okB n d
 ·have HA:Hid (rnd n d k=⟨0,0,7⟩):=hid (by unfold rnd;rw[h1];rfl)
  have V1:=hid h1;clear h1
  go_enter Tryz.func184,Tryz.ntmps184
  go_wp2_with fail
  refine(qco V1.out _).mono ?_
  rintro e w1⟨rfl,hb⟩
  obtain⟨hc,hf⟩:=qad hb
  have HB:=hid (qbz hb)
  go_wp2
  exact bodyPost_ret (v := .tuple #[.agg #[.int .i64 0,.int .i64 0],.int .i64 7]) (by simp[results,Tryz.results184,go_sem,hc]) rfl ⟨by rw[HA.out],qnz HB.out _ _⟩
 ·by_cases hk:0≤k∧k≤9
  ·obtain⟨j,rfl⟩ : ∃ j:Nat,k=(j:Int):=⟨k.toNat,by omega⟩
   have hj:j≤9:=by omega
   obtain⟨p1,p2⟩:=qf7 hj
   have hO:=qan.1 h1
   have q1:=hO.n1;have q2:=hO.n2;have q3:=hO.d1;have q4:=hO.d2
   have hM:=qf6 (x:=(n.natAbs:Int)) (y:=pw j) (by omega) (by omega)
   have hM0:0≤(n.natAbs:Int)*pw j:=Int.mul_nonneg (by omega) (by omega)
   have hA:(2*(n.natAbs:Int))*pw j=2*((n.natAbs:Int)*pw j):=Int.mul_assoc ..
   have u0:0≤un n d j:=Int.ediv_nonneg (by rw[hA];omega) (by omega)
   have u1:un n d j≤3000000000000000000:=Int.le_trans (Int.ediv_le_self _ (by rw[hA];omega)) (by rw[hA];omega)
   have e0:IntKind.i64.wrap (2*(n.natAbs:Int))=2*(n.natAbs:Int):=IntWalk.i64_in _ (by omega)
   have e1:IntKind.i64.wrap (2*(n.natAbs:Int)*pw j)=2*(n.natAbs:Int)*pw j:=IntWalk.i64_in _ (by rw[hA];omega)
   have e2:IntKind.i64.wrap (2*(n.natAbs:Int)*pw j+d)=2*(n.natAbs:Int)*pw j+d:=IntWalk.i64_in _ (by rw[hA];omega)
   have e3:IntKind.i64.wrap (2*d)=2*d:=IntWalk.i64_in _ (by omega)
   have e4:(2*(n.natAbs:Int)*pw j+d).tdiv (2*d)=un n d j:=Int.tdiv_eq_ediv_of_nonneg (by rw[hA];omega)
   have e5:(2*(n.natAbs:Int)*pw j+d) / (2*d)=un n d j:=rfl
   have e6:IntKind.i64.wrap (un n d j)=un n d j:=IntWalk.i64_in _ (by omega)
   have e7:(2*d==0)=false:=by rw[beq_eq_false_iff_ne];omega
   have hX:0≤2*(n.natAbs:Int)*pw j+d:=by rw[hA];omega
   have HA:Hid (rnd n d (j:Int)=fit (ud n d j) (pw j)):=hid (by unfold rnd;rw[h1,if_pos rfl,if_pos ⟨by omega,by omega⟩];rfl)
   have V1:=hid h1;clear h1 hO hA hM hM0
   have HE5:=hid e5;clear e5
   by_cases hn:n<0
   ·have HU:Hid (ud n d j = - un n d j):=hid (by unfold ud;rw[if_pos hn])
    have e8:IntKind.i64.wrap (-(un n d j))=ud n d j:=by rw[IntWalk.i64_in _ (by omega),HU.out]
    have e9 : - un n d j=ud n d j:=HU.out.symm
    have hub:(ud n d j).natAbs≤4000000000000000000:=by rw[HU.out];omega
    go_enter Tryz.func184,Tryz.ntmps184
    go_wp2_with fail
    refine(qa5 V1.out _).mono ?_
    rintro e w1⟨rfl,hb⟩
    obtain⟨hc,hf⟩:=qad hb
    obtain⟨z0,z1⟩:=qg5 hb
    have HB:=hid (qbz hb)
    go_wp2_with fail
    refine(qcu j _ hj).mono ?_
    rintro e w2⟨rfl,rfl⟩
    go_wp2
    go_quiet ((go_at_call 228;exact(Calls.quiet_of (qwm n _ (by omega)))))
    go_wp2_with fail
    refine(qe4 (ud n d j) (pw j) _ hub (by omega) (by omega)).mono ?_
    rintro e w3⟨rfl,hb3⟩
    obtain⟨hc3,hf3⟩:=qdx hb3
    have k1:=qfu z1 hb3
    have HB3:=hid ((below_drewN HB.out _).trans (hb3.mono (below_drewN HB.out _).size))
    go_wp2
    exact bodyPost_ret (v := .tuple #[.agg #[.int .i64 (fit (ud n d j) (pw j)).n,.int .i64 (fit (ud n d j) (pw j)).d],.int .i64 (fit (ud n d j) (pw j)).e]) (by simp[results,Tryz.results184,go_sem,hc,hc3,z1]) rfl ⟨by rw[HA.out],qnz HB3.out _ _⟩
   ·have HU:Hid (ud n d j=un n d j):=hid (by unfold ud;rw[if_neg hn])
    have hd0:decide (n<0)=false:=by simpa using hn
    have hub:(ud n d j).natAbs≤4000000000000000000:=by rw[HU.out];omega
    have e9:un n d j=ud n d j:=HU.out.symm
    rw[e9] at e4 e6
    clear e9
    go_enter Tryz.func184,Tryz.ntmps184
    go_wp2_with fail
    refine(qa5 V1.out _).mono ?_
    rintro e w1⟨rfl,hb⟩
    obtain⟨hc,hf⟩:=qad hb
    obtain⟨z0,z1⟩:=qg5 hb
    have HB:=hid (qbz hb)
    go_wp2_with fail
    refine(qcu j _ hj).mono ?_
    rintro e w2⟨rfl,rfl⟩
    go_wp2
    go_quiet ((go_at_call 228;exact(Calls.quiet_of (qwm n _ (by omega)))))
    go_wp2_with fail
    refine(qe4 (ud n d j) (pw j) _ hub (by omega) (by omega)).mono ?_
    rintro e w3⟨rfl,hb3⟩
    obtain⟨hc3,hf3⟩:=qdx hb3
    have k1:=qfu z1 hb3
    have HB3:=hid ((below_drewN HB.out _).trans (hb3.mono (below_drewN HB.out _).size))
    go_wp2
    exact bodyPost_ret (v := .tuple #[.agg #[.int .i64 (fit (ud n d j) (pw j)).n,.int .i64 (fit (ud n d j) (pw j)).d],.int .i64 (fit (ud n d j) (pw j)).e]) (by simp[results,Tryz.results184,go_sem,hc,hc3,z1]) rfl ⟨by rw[HA.out],qnz HB3.out _ _⟩
  ·have HA:Hid (rnd n d k=⟨0,0,2⟩):=hid (by unfold rnd;rw[h1,if_pos rfl,if_neg hk])
   have V1:=hid h1;clear h1
   by_cases hk0:k<0
   ·clear hk
    go_enter Tryz.func184,Tryz.ntmps184
    go_wp2_with fail
    refine(qa5 V1.out _).mono ?_
    rintro e w1⟨rfl,hb⟩
    obtain⟨hc,hf⟩:=qad hb
    have HB:=hid (qbz hb)
    go_wp2
    exact bodyPost_ret (v := .tuple #[.agg #[.int .i64 0,.int .i64 0],.int .i64 2]) (by simp[results,Tryz.results184,go_sem,hc]) rfl ⟨by rw[HA.out],qnz HB.out _ _⟩
   ·have hk9:9<k:=by omega
    have hd0:decide (k<0)=false:=by simpa using hk0
    clear hk
    go_enter Tryz.func184,Tryz.ntmps184
    go_wp2_with fail
    refine(qa5 V1.out _).mono ?_
    rintro e w1⟨rfl,hb⟩
    obtain⟨hc,hf⟩:=qad hb
    have HB:=hid (qbz hb)
    go_wp2
    exact bodyPost_ret (v := .tuple #[.agg #[.int .i64 0,.int .i64 0],.int .i64 2]) (by simp[results,Tryz.results184,go_sem,hc]) rfl ⟨by rw[HA.out],qnz HB.out _ _⟩
theorem qhb(n d k:Int)(w:World) :
  Calls Tryz.prog 104 #[.agg #[.int .i64 n,.int .i64 d],.int .i64 k] w fun e w'=>e=.returned (.tuple #[.agg #[.int .i64 (rnd n d k).n,.int .i64 (rnd n d k).d],.int .i64 (rnd n d k).e])∧Below w.heap.size w w':=by
 cases h1:okB n d
 ·have HA:Hid (rnd n d k=⟨0,0,7⟩):=hid (by unfold rnd;rw[h1];rfl)
  have V1:=hid h1;clear h1
  go_enter Tryz.func104,Tryz.ntmps104
  go_wp2_with fail
  refine(qbe V1.out _).mono ?_
  rintro e w1⟨rfl,hb⟩
  obtain⟨hc,hf⟩:=qad hb
  have HB:=hid (qbz hb)
  go_wp2
  exact bodyPost_ret (v := .tuple #[.agg #[.int .i64 0,.int .i64 0],.int .i64 7]) (by simp[results,Tryz.results104,go_sem,hc]) rfl ⟨by rw[HA.out],qnz HB.out _ _⟩
 ·by_cases hk:0≤k∧k≤9
  ·obtain⟨j,rfl⟩ : ∃ j:Nat,k=(j:Int):=⟨k.toNat,by omega⟩
   have hj:j≤9:=by omega
   obtain⟨p1,p2⟩:=qf7 hj
   have hO:=qan.1 h1
   have q1:=hO.n1;have q2:=hO.n2;have q3:=hO.d1;have q4:=hO.d2
   have hM:=qf6 (x:=(n.natAbs:Int)) (y:=pw j) (by omega) (by omega)
   have hM0:0≤(n.natAbs:Int)*pw j:=Int.mul_nonneg (by omega) (by omega)
   have hA:(2*(n.natAbs:Int))*pw j=2*((n.natAbs:Int)*pw j):=Int.mul_assoc ..
   have u0:0≤un n d j:=Int.ediv_nonneg (by rw[hA];omega) (by omega)
   have u1:un n d j≤3000000000000000000:=Int.le_trans (Int.ediv_le_self _ (by rw[hA];omega)) (by rw[hA];omega)
   have e0:IntKind.i64.wrap (2*(n.natAbs:Int))=2*(n.natAbs:Int):=IntWalk.i64_in _ (by omega)
   have e1:IntKind.i64.wrap (2*(n.natAbs:Int)*pw j)=2*(n.natAbs:Int)*pw j:=IntWalk.i64_in _ (by rw[hA];omega)
   have e2:IntKind.i64.wrap (2*(n.natAbs:Int)*pw j+d)=2*(n.natAbs:Int)*pw j+d:=IntWalk.i64_in _ (by rw[hA];omega)
   have e3:IntKind.i64.wrap (2*d)=2*d:=IntWalk.i64_in _ (by omega)
   have e4:(2*(n.natAbs:Int)*pw j+d).tdiv (2*d)=un n d j:=Int.tdiv_eq_ediv_of_nonneg (by rw[hA];omega)
   have e5:(2*(n.natAbs:Int)*pw j+d) / (2*d)=un n d j:=rfl
   have e6:IntKind.i64.wrap (un n d j)=un n d j:=IntWalk.i64_in _ (by omega)
   have e7:(2*d==0)=false:=by rw[beq_eq_false_iff_ne];omega
   have hX:0≤2*(n.natAbs:Int)*pw j+d:=by rw[hA];omega
   have HA:Hid (rnd n d (j:Int)=fit (ud n d j) (pw j)):=hid (by unfold rnd;rw[h1,if_pos rfl,if_pos ⟨by omega,by omega⟩];rfl)
   have V1:=hid h1;clear h1 hO hA hM hM0
   have HE5:=hid e5;clear e5
   by_cases hn:n<0
   ·have HU:Hid (ud n d j = - un n d j):=hid (by unfold ud;rw[if_pos hn])
    have e8:IntKind.i64.wrap (-(un n d j))=ud n d j:=by rw[IntWalk.i64_in _ (by omega),HU.out]
    have e9 : - un n d j=ud n d j:=HU.out.symm
    have hub:(ud n d j).natAbs≤4000000000000000000:=by rw[HU.out];omega
    go_enter Tryz.func104,Tryz.ntmps104
    go_wp2_with fail
    refine(qal V1.out _).mono ?_
    rintro e w1⟨rfl,hb⟩
    obtain⟨hc,hf⟩:=qad hb
    obtain⟨z0,z1⟩:=qg5 hb
    have HB:=hid (qbz hb)
    go_wp2_with fail
    refine(qcf j _ hj).mono ?_
    rintro e w2⟨rfl,rfl⟩
    go_wp2
    go_quiet ((go_at_call 96;exact(Calls.quiet_of (q0w n _ (by omega)))))
    go_wp2_with fail
    refine(qcc (ud n d j) (pw j) _ hub (by omega) (by omega)).mono ?_
    rintro e w3⟨rfl,hb3⟩
    obtain⟨hc3,hf3⟩:=qdx hb3
    have k1:=qfu z1 hb3
    have HB3:=hid ((below_drewN HB.out _).trans (hb3.mono (below_drewN HB.out _).size))
    go_wp2
    exact bodyPost_ret (v := .tuple #[.agg #[.int .i64 (fit (ud n d j) (pw j)).n,.int .i64 (fit (ud n d j) (pw j)).d],.int .i64 (fit (ud n d j) (pw j)).e]) (by simp[results,Tryz.results104,go_sem,hc,hc3,z1]) rfl ⟨by rw[HA.out],qnz HB3.out _ _⟩
   ·have HU:Hid (ud n d j=un n d j):=hid (by unfold ud;rw[if_neg hn])
    have hd0:decide (n<0)=false:=by simpa using hn
    have hub:(ud n d j).natAbs≤4000000000000000000:=by rw[HU.out];omega
    have e9:un n d j=ud n d j:=HU.out.symm
    rw[e9] at e4 e6
    clear e9
    go_enter Tryz.func104,Tryz.ntmps104
    go_wp2_with fail
    refine(qal V1.out _).mono ?_
    rintro e w1⟨rfl,hb⟩
    obtain⟨hc,hf⟩:=qad hb
    obtain⟨z0,z1⟩:=qg5 hb
    have HB:=hid (qbz hb)
    go_wp2_with fail
    refine(qcf j _ hj).mono ?_
    rintro e w2⟨rfl,rfl⟩
    go_wp2
    go_quiet ((go_at_call 96;exact(Calls.quiet_of (q0w n _ (by omega)))))
    go_wp2_with fail
    refine(qcc (ud n d j) (pw j) _ hub (by omega) (by omega)).mono ?_
    rintro e w3⟨rfl,hb3⟩
    obtain⟨hc3,hf3⟩:=qdx hb3
    have k1:=qfu z1 hb3
    have HB3:=hid ((below_drewN HB.out _).trans (hb3.mono (below_drewN HB.out _).size))
    go_wp2
    exact bodyPost_ret (v := .tuple #[.agg #[.int .i64 (fit (ud n d j) (pw j)).n,.int .i64 (fit (ud n d j) (pw j)).d],.int .i64 (fit (ud n d j) (pw j)).e]) (by simp[results,Tryz.results104,go_sem,hc,hc3,z1]) rfl ⟨by rw[HA.out],qnz HB3.out _ _⟩
  ·have HA:Hid (rnd n d k=⟨0,0,2⟩):=hid (by unfold rnd;rw[h1,if_pos rfl,if_neg hk])
   have V1:=hid h1;clear h1
   by_cases hk0:k<0
   ·clear hk
    go_enter Tryz.func104,Tryz.ntmps104
    go_wp2_with fail
    refine(qal V1.out _).mono ?_
    rintro e w1⟨rfl,hb⟩
    obtain⟨hc,hf⟩:=qad hb
    have HB:=hid (qbz hb)
    go_wp2
    exact bodyPost_ret (v := .tuple #[.agg #[.int .i64 0,.int .i64 0],.int .i64 2]) (by simp[results,Tryz.results104,go_sem,hc]) rfl ⟨by rw[HA.out],qnz HB.out _ _⟩
   ·have hk9:9<k:=by omega
    have hd0:decide (k<0)=false:=by simpa using hk0
    clear hk
    go_enter Tryz.func104,Tryz.ntmps104
    go_wp2_with fail
    refine(qal V1.out _).mono ?_
    rintro e w1⟨rfl,hb⟩
    obtain⟨hc,hf⟩:=qad hb
    have HB:=hid (qbz hb)
    go_wp2
    exact bodyPost_ret (v := .tuple #[.agg #[.int .i64 0,.int .i64 0],.int .i64 2]) (by simp[results,Tryz.results104,go_sem,hc]) rfl ⟨by rw[HA.out],qnz HB.out _ _⟩
end Go.Proofs.YtldkgbnmaefaaaaGreatDoor.Nu
namespace Go.Proofs.YtldkgbnmaefaaaaGreatDoor.Nu
open Go.RowKit
theorem xa1(x y:Int):x-y*Int.fdiv x y=Int.fmod x y:=by
 have:=Int.fmod_add_mul_fdiv x y
 generalize y*x.fdiv y=z at *
 generalize x.fmod y=u at *
 omega
theorem qui(x:Int){y:Int}(h:y≠0):(Int.fmod x y).natAbs≤y.natAbs:=by
 by_cases hy:0<y
 ·have h1:=Int.fmod_nonneg_of_pos x hy
  have h2:=Int.fmod_lt_of_pos x hy
  generalize x.fmod y=u at *
  omega
 ·have:=qot (a:=x) (b:=y) (by omega)
  generalize x.fmod y=u at *
  omega
theorem q3a(a p b q:Int)(w:World) :
  Calls Tryz.prog 262 #[.agg #[.int .i64 a,.int .i64 p],.agg #[.int .i64 b,.int .i64 q]] w fun e w'=>e=.returned (.tuple #[.agg #[.int .i64 (mod a p b q).n,.int .i64 (mod a p b q).d],.int .i64 (mod a p b q).e])∧Below w.heap.size w w':=by
 by_cases hk:chk a p b q=0
 ·have h12:okB a p=true∧okB b q=true∧b≠0:=by
   unfold chk at hk;cases h1:okB a p<;>cases h2:okB b q<;>simp[h1,h2] at hk ⊢
   intro hb;simp[hb] at hk
  obtain⟨h1,h2,hz⟩:=h12
  have hP:=qjk h1 h2
  have HA:Hid (mod a p b q=fit (Int.fmod (a*q) (b*p)) (p*q)):=hid (by unfold mod;rw[h1,h2];simp[hz])
  have q1:=hP.aq;have q2:=hP.bp;have q3:=hP.pq;have q5:=hP.pq1
  have hne:b*p≠0:=qkm hz (qan.1 h1).ne
  have hm:=qui (a*q) hne
  have hmp:=xa1 (a*q) (b*p)
  have hml:((b*p)*Int.fdiv (a*q) (b*p)).natAbs≤2000000000000000000:=by
   generalize(b*p)*Int.fdiv (a*q) (b*p)=z at *
   generalize Int.fmod (a*q) (b*p)=u at *
   omega
  have e0:IntKind.i64.wrap (a*q)=a*q:=IntWalk.i64_in _ (by omega)
  have e1:IntKind.i64.wrap (b*p)=b*p:=IntWalk.i64_in _ (by omega)
  have e2:IntKind.i64.wrap (p*q)=p*q:=IntWalk.i64_in _ (by omega)
  have e3:IntKind.i64.wrap ((b*p)*Int.fdiv (a*q) (b*p))=(b*p)*Int.fdiv (a*q) (b*p):=IntWalk.i64_in _ (by
   generalize(b*p)*Int.fdiv (a*q) (b*p)=z at *
   omega)
  have e4:IntKind.i64.wrap (a*q-(b*p)*Int.fdiv (a*q) (b*p))=Int.fmod (a*q) (b*p):=by rw[hmp];exact IntWalk.i64_in _ (by
   generalize Int.fmod (a*q) (b*p)=u at *
   omega)
  have hm2:(Int.fmod (a*q) (b*p)).natAbs≤4000000000000000000:=by omega
  have HN:=hid hne
  have HM:=hid hm2
  clear h1 h2 hz hP hne hm hmp hml hm2
  go_enter Tryz.func262,Tryz.ntmps262
  go_wp2_with fail
  refine(qld a p b q _).mono ?_
  rintro e w1⟨rfl,hb⟩
  obtain⟨hc,hf⟩:=qad hb
  obtain⟨z0,z1,z2⟩:=qbp hb
  have HB:=hid (qav hb)
  go_wp2
  go_region
  go_wp2
  go_region_with (first | (go_at_call 284;refine(qnk (a*q) (b*p) _ (by omega) HN.out).mono ?_;rintro e w' ⟨rfl,rfl⟩) | (go_at_call 143;refine(qe4 (Int.fmod (a*q) (b*p)) (p*q) _ HM.out (by omega) (by omega)).mono ?_;rintro e w3 ⟨rfl,hb3⟩;obtain⟨hc3,hf3⟩:=qdx (W:=w1) (n:=2) hb3))
  all_goals
   have HB3:=hid ((below_drewN HB.out 2).trans (hb3.mono (below_drewN HB.out 2).size))
   go_wp2
   exact bodyPost_ret (v := .tuple #[.agg #[.int .i64 (fit (Int.fmod (a*q) (b*p)) (p*q)).n,.int .i64 (fit (Int.fmod (a*q) (b*p)) (p*q)).d],.int .i64 (fit (Int.fmod (a*q) (b*p)) (p*q)).e]) (by simp[results,Tryz.results262,go_sem,hc,hc3,z2]) rfl ⟨by rw[HA.out],qc7 HB3.out _ _⟩
 ·have HA:Hid (mod a p b q=⟨0,0,chk a p b q⟩):=hid (by
   unfold chk at hk;unfold mod chk;cases h1:okB a p<;>cases h2:okB b q<;>simp[h1,h2] at hk ⊢
   simp[hk])
  have hk1:(chk a p b q != 0)=true:=by rw[bne_iff_ne];exact hk
  have HK:=hid hk;clear hk
  go_enter Tryz.func262,Tryz.ntmps262
  go_wp2_with fail
  refine(qld a p b q _).mono ?_
  rintro e w1⟨rfl,hb⟩
  obtain⟨hc,hf⟩:=qad hb
  obtain⟨z0,z1,z2⟩:=qbp hb
  have HB:=hid (qav hb)
  go_wp2
  exact bodyPost_ret (v := .tuple #[.agg #[.int .i64 0,.int .i64 0],.int .i64 (chk a p b q)]) (by simp[results,Tryz.results262,go_sem,hc]) rfl ⟨by rw[HA.out],qc7 HB.out _ _⟩
end Go.Proofs.YtldkgbnmaefaaaaGreatDoor.Nu
