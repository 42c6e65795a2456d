import Derived.Test.YtldkgbnmaefaaaaGreatDoorFuG13
import Derived.Test.YtldkgbnmaefaaaaGreatDoorFuG9
import Derived.Laws.BytesString
import Derived.Laws.OwnMore
import Derived.Laws.Cells
set_option maxRecDepth 100000
set_option maxHeartbeats 4000000
open Go.Lib (hid)
namespace Go.Proofs.YtldkgbnmaefaaaaGreatDoor.Fu
open Go.RowKit
set_option linter.unusedVariables false
set_option linter.unusedSimpArgs false
theorem xfi : ∀ x∈qdv,∀ y∈qdv,y≠x++⟨#[120]⟩:=by
 have:(qdv.all fun x=>qdv.all fun y => !decide (y=x++⟨#[120]⟩))=true:=by decide
 intro x hx y hy
 have h2:=List.all_eq_true.1 (List.all_eq_true.1 this x hx) y hy
 simpa using h2
theorem xdx : ∀ x∈tbl,x.name≠⟨#[]⟩:=by
 have:(tbl.all fun x => !decide (x.name=⟨#[]⟩))=true:=by decide
 intro x hx
 have h2:=List.all_eq_true.1 this x hx
 simpa using h2
theorem xdy{S:BA}(hS:S∈qdv) : ∀ x∈tbl,x.name≠S++⟨#[120]⟩:=fun x hx=>xfi S hS _ (qw3 _ ⟨x,hx,rfl⟩)
theorem xb6:(Tryz.prog.info? 5).map (fun i=>(i.zero,i.size,i.bytes))=some (some (.int .u8 0),1,1):=by kernel_rfl
def emL:List BA:=List.replicate 41 em
theorem qt6:madeCells (Value.string ⟨#[]⟩).cells 41=(emL.map Value.string).toArray:=by kernel_rfl
theorem xfh(w:World):(Instr.makeSlice 22 (.int .i64 41) (.int .i64 41)).run Tryz.prog w=.ok (.slice (some ⟨w.heap.size,0,none⟩) 41 41) (w.alloc (.cells (emL.map Value.string).toArray 9)):=by
 obtain⟨i0,hi0,hz0,hz1,hz2⟩:=info_parts qpq
 have h:=run_makeSlice (P:=Tryz.prog) (w:=w) 22 9 i0 _ Tryz.underlying22 hi0 hz0 .i64 .i64 41 41 (by omega) (by omega) (by rw[hz1];decide) (by rw[hz2];decide) (by omega)
 rw[hz1] at h
 rw[h]
 have e:(41:Int).toNat*1=41:=rfl
 rw[e,qt6]
 rfl
def big:BA:=(List.replicate 32769 (0:Int)).foldl (fun r n=>r.push (UInt8.ofNat n.toNat)) ByteArray.empty
theorem qv3(l:List Int) : ∀ r:BA,(l.foldl (fun r n=>r.push (UInt8.ofNat n.toNat)) r).size=r.size+l.length:=by
 induction l with
 |nil=>intro r;rfl
 |cons a l ih =>
  intro r
  rw[List.foldl_cons,ih,List.length_cons]
  have:(r.push (UInt8.ofNat a.toNat)).size=r.size+1:=Array.size_push _
  omega
theorem qyk:big.size=32769:=by
 unfold big
 rw[qv3,List.length_replicate]
 rfl
def qnd:Obj := .cells (madeCells (Value.int .u8 0).cells 32769) 5
theorem mkB(w:World):(Instr.makeSlice 43 (.int .i64 32769) (.int .i64 32769)).run Tryz.prog w=.ok (.slice (some ⟨w.heap.size,0,none⟩) 32769 32769) (w.alloc qnd):=by
 obtain⟨i0,hi0,hz0,hz1,hz2⟩:=info_parts xb6
 have h:=run_makeSlice (P:=Tryz.prog) (w:=w) 43 5 i0 _ Tryz.underlying43 hi0 hz0 .i64 .i64 32769 32769 (by omega) (by omega) (by rw[hz1];decide) (by rw[hz2];decide) (by omega)
 rw[hz1] at h
 rw[h]
 have e:(32769:Int).toNat*1=32769:=rfl
 rw[e]
 rfl
theorem qm9(b j:Nat):(⟨b,0,none⟩:Addr).add j=⟨b,j,none⟩:=by unfold Addr.add;split<;>simp_all
theorem q5k(z:Value){n j:Nat}(h:j<n):(madeCells #[z] n)[j]? = some z:=by
 have h2:=toList_madeCells_one z n
 rw[←Array.getElem?_toList,h2,List.getElem?_replicate,if_pos h]
theorem qzd{w:World}{b n:Nat}{z:Value}{t:TypeId}(hb:w.heap[b]? = some (.cells (madeCells #[z] n) t)):(loadCells ⟨b,0,none⟩ n).run Tryz.prog w=.ok (List.replicate n z).toArray w:=by
 have h:=run_loadCells_list (P:=Tryz.prog) (w:=w) ⟨b,0,none⟩ (List.replicate n z) (fun j v hj=>by
  rw[qm9]
  rw[List.getElem?_replicate] at hj
  by_cases hjn:j<n
  ·rw[if_pos hjn] at hj
   cases hj
   exact qab hb (q5k z hjn)
  ·rw[if_neg hjn] at hj;cases hj)
 rw[List.length_replicate] at h
 exact h
theorem xal{w:World}{b n:Nat}{t:TypeId}(hb:w.heap[b]? = some (.cells (madeCells #[.int .u8 0] n) t)):(convert 43 9 (.slice (some ⟨b,0,none⟩) n n)).run Tryz.prog w=.ok (.string ((List.replicate n (0:Int)).foldl (fun r n=>r.push (UInt8.ofNat n.toNat)) ByteArray.empty)) w:=by
 have hl:=qzd hb
 rw[show List.replicate n (Value.int .u8 0)=(List.replicate n (0:Int)).map (Value.int .u8) by rw[List.map_replicate]] at hl
 rw[run_convert_bytes_string w 43 9 5 _ n n Tryz.underlying43 Tryz.underlying5 Tryz.underlying9,run_bytesToString w ⟨b,0,none⟩ n n _ hl]
theorem cvB{w:World}{b:Nat}(hb:w.heap[b]? = some qnd):(convert 43 9 (.slice (some ⟨b,0,none⟩) 32769 32769)).run Tryz.prog w=.ok (.string big) w:=xal hb
theorem cvN(w:World):(convert 43 9 (.slice (some ⟨w.heap.size,0,none⟩) 32769 32769)).run Tryz.prog (w.alloc qnd)=.ok (.string big) (w.alloc qnd):=cvB (heap_alloc_new w _)
theorem q4o(y:Row)(hmem:y∈tbl)(E:Array Value)(hE:E=(emL.map Value.string).toArray):Hid (∀ W:World,Calls Tryz.prog 11 #[.string y.name,.slice (some ⟨W.heap.size,0,none⟩) 41 41] (W.alloc (.cells E 9)) (fun e w'=>e=.returned (qbc ⟨em,8⟩)∧Below (W.alloc (.cells E 9)).heap.size (W.alloc (.cells E 9)) w')):=by
 subst hE
 exact hid (fun(W:World)=>qha y hmem (.slice (some ⟨W.heap.size,0,none⟩) 41 41) emL 8 (if_pos (by decide)) (by decide) (W.alloc (.cells (emL.map Value.string).toArray 9)) (Rd.new emL rfl (by decide)))
theorem qyl(y:Row)(hmem:y∈tbl)(Z:BA)(hz:32768<Z.size):Hid (∀ (W:World) (b:Nat),W.heap.size=b→Calls Tryz.prog 11 #[.string y.name,.slice (some ⟨b,0,none⟩) 2 2] (W.alloc (.cells #[.string ⟨#[120]⟩,.string Z] 9)) (fun e w'=>e=.returned (qbc ⟨em,3⟩)∧Below (W.alloc (.cells #[.string ⟨#[120]⟩,.string Z] 9)).heap.size (W.alloc (.cells #[.string ⟨#[120]⟩,.string Z] 9)) w')):=by
 refine hid (fun(W:World) b hb => ?_)
 subst hb
 refine qha y hmem (.slice (some ⟨W.heap.size,0,none⟩) 2 2) [⟨#[120]⟩,Z] 3 ?_ (by decide) (W.alloc (.cells #[.string ⟨#[120]⟩,.string Z] 9)) (Rd.new [⟨#[120]⟩,Z] rfl (by simp))
 exact(if_neg (by simp)).trans (if_pos ⟨Z,List.mem_cons_of_mem _ List.mem_cons_self,hz⟩)
theorem q4j(w:World)(o:Obj):(w.alloc o).heap.size=w.heap.size+1:=World.size_alloc _ _
theorem qzh : ∀ x∈qdv,x.size≤10:=by decide
theorem FunctionLimits_any(n:Int)(w:World)(hT:Tb w) :
  Calls Tryz.prog 8 #[.int .i64 n] w fun e w'=>e=.returned (.bool true)∧Below w.heap.size w w':=by
 have HK:=hid (fun(W:World) (hW:Below w.heap.size w W)=>qgu W (hT.below hW))
 have hand:=qno n
 have hlt:=q1v n
 have hmi:=qu9 n
 have hlen:nmI n<qdv.length:=by rw[qck];exact hlt
 obtain⟨i,hi⟩ : ∃ i,nmI n=i:=⟨_,rfl⟩
 rw[hi] at hlt hmi hlen
 obtain⟨m,hm⟩ : ∃ m,n%65536=m:=⟨_,rfl⟩
 rw[hm] at hand hmi
 have hm0:0≤m:=by omega
 have hm1:m<65536:=by omega
 have HX:Hid (qdv[i]? = some qdv[i]):=hid (List.getElem?_eq_getElem hlen)
 have HM:Hid (qdv[i]∈qdv):=hid (List.getElem_mem hlen)
 generalize qdv[i]=S at HX HM
 have hmi2:m%17=(i:Int):=hmi.symm
 have hii:(i:Int)<17:=by omega
 clear hT hi hm hlen hmi
 have HSz : ∀ x∈qdv,x.size≤10:=qzh
 go_enter Tryz.func8,Tryz.ntmps8
 go_wp2_with fail
 refine(qfk _).mono ?_
 rintro e w2⟨g,rfl,hR5,b2⟩
 have c0:=qzv hR5 i S HX.out
 have B2:=hid b2
 clear b2 hR5
 obtain⟨Z,hZ⟩ : ∃ Z,Z=big:=⟨_,rfl⟩
 obtain⟨EB,hEB⟩ : ∃ EB,EB=qnd:=⟨_,rfl⟩
 obtain⟨E41,hE41⟩ : ∃ E:Array Value,E=(emL.map Value.string).toArray:=⟨_,rfl⟩
 have q41:=xfh
 have qB:=mkB
 have qC:=cvN
 rw[←hZ] at qC
 rw[←hEB] at qB qC
 rw[←hE41] at q41
 have hz:32768<Z.size:=by rw[hZ,qyk];omega
 obtain⟨k,y,hy,hyn⟩:=qo7 HM.out
 have hmem:y∈tbl:=List.mem_of_getElem? hy
 have HC1:=q4o y hmem E41 hE41
 have HC2:=qyl y hmem Z hz
 have HC3:=hid (fun(v:Value) (W:World)=>qev (S++⟨#[120]⟩) (xdy HM.out) v W)
 have HC4:=hid (fun(v:Value) (W:World)=>qev ⟨#[]⟩ xdx v W)
 rw[hyn] at HC1 HC2
 unfold qbc em at HC1 HC2 HC3 HC4
 clear hy hyn hmem hZ hEB hE41
 have hSs:S.size≤10:=HSz S HM.out
 go_wp2_with fail
 (with_reducible refine(HC1.out _).mono ?_)
 rintro e w3⟨rfl,b3⟩
 have B3:=hid (B2.out.trans ((bxb b3).mono B2.out.size))
 clear b3
 go_wp2_with fail
 (with_reducible refine(HC2.out _ _ (q4j _ _)).mono ?_)
 rintro e w4⟨rfl,b4⟩
 have B4:=hid (B3.out.trans ((bxb (bxb b4)).mono B3.out.size))
 clear b4
 go_wp2_with fail
 (with_reducible refine(HC3.out _ _).mono ?_)
 rintro e w5⟨rfl,b5⟩
 have B5:=hid (B4.out.trans ((bxb b5).mono B4.out.size))
 clear b5
 go_wp2_with fail
 (with_reducible refine(HC4.out _ _).mono ?_)
 rintro e w6⟨rfl,b6⟩
 have B6:=hid (B5.out.trans (b6.mono B5.out.size))
 clear b6
 go_wp2_with fail
 (with_reducible refine(HK.out _ B6.out).mono ?_)
 rintro e w7⟨rfl,b7⟩
 have B7:=hid (B6.out.trans (b7.mono B6.out.size))
 clear b7
 go_wp2
 go_ret
 exact⟨rfl,B7.out⟩
end Go.Proofs.YtldkgbnmaefaaaaGreatDoor.Fu
