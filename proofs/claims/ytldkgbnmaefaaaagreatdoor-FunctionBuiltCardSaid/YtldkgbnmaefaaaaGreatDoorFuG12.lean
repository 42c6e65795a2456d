import Derived.Test.YtldkgbnmaefaaaaGreatDoorFuG8
import Derived.Test.YtldkgbnmaefaaaaGreatDoorFuG9
import Derived.Laws.Rows
set_option maxRecDepth 100000
set_option maxHeartbeats 4000000
open Go.Lib (hid)
namespace Go.Proofs.YtldkgbnmaefaaaaGreatDoor.Fu
open Go.RowKit
set_option linter.unusedVariables false
set_option linter.unusedSimpArgs false
theorem qv8(k:Nat)(y:Row)(hy:tbl[k]? = some y)(v:Value)(l:List BA)(w:World)(hv:Rd w w.heap.size v l)(hl:Ord l) :
  Calls Tryz.prog 12 #[.string y.name,v] w fun e w'=>e=.returned (qbc (qai k y.ps l))∧Below w.heap.size w w':=by
 match k,hy with
 | 0,hy=>cases hy;exact qv9 v l w hv hl
 | 1,hy=>cases hy;exact qwb v l w hv hl
 | 2,hy=>cases hy;exact qnv v l w hv hl
 | 3,hy=>cases hy;exact qwa v l w hv hl
 | 4,hy=>cases hy;exact qma v l w hv hl
 | 5,hy=>cases hy;exact ql9 v l w hv hl
 | 6,hy=>cases hy;exact qj4 v l w hv hl
 | 7,hy=>cases hy;exact qzt v l w hv hl
 | 8,hy=>cases hy;exact qzu v l w hv hl
 | 9,hy=>cases hy;exact ql8 v l w hv hl
 | 10,hy=>cases hy;exact qmb v l w hv hl
 | 11,hy=>cases hy;exact qsl v l w hv hl
 | 12,hy=>cases hy;exact qsk v l w hv hl
 | 13,hy=>cases hy;exact ql7 v l w hv hl
 | 14,hy=>cases hy;exact qpg v l w hv hl
 | 15,hy=>cases hy;exact ql6 v l w hv hl
 | 16,hy=>cases hy;exact qic v l w hv hl
 |(n+17),hy=>exact absurd hy (by simp[tbl])
theorem qmc(s:BA)(hs : ∀ x∈qdv,x≠s)(v:Value)(w:World) :
  Calls Tryz.prog 12 #[.string s,v] w fun e w'=>e=.returned (qbc ⟨em,4⟩)∧Below w.heap.size w w':=by
 have HK:=hid (fun w=>qau s false (fun h=>absurd rfl (hs s h)) (fun _=>rfl) w)
 clear hs
 unfold qbc em
 go_enter Tryz.func12,Tryz.ntmps12
 go_wp2_with fail
 (with_reducible refine(HK.out _).mono ?_)
 rintro e w1⟨rfl,hb⟩
 have HB:=hid hb
 clear hb
 go_wp2
 go_ret2
 exact⟨rfl,HB.out⟩
theorem qsj(s:BA)(hs:s∈qdv)(v:Value)(l:List BA)(w:World)(hv:Rd w w.heap.size v l)(hl:40<l.length) :
  Calls Tryz.prog 12 #[.string s,v] w fun e w'=>e=.returned (qbc ⟨em,8⟩)∧Below w.heap.size w w':=by
 have HK:=hid (fun w=>qau s true (fun _=>rfl) (fun h=>absurd rfl (h s hs)) w)
 obtain⟨A,c,rfl,hlc,hcm,hcell⟩:=hv.ex
 have hki:(40:Int)<(l.length:Int):=by omega
 clear hs hv hcell
 unfold qbc em
 go_enter Tryz.func12,Tryz.ntmps12
 go_wp2_with fail
 (with_reducible refine(HK.out _).mono ?_)
 rintro e w1⟨rfl,hb⟩
 have HB:=hid hb
 clear hb
 go_wp2
 go_ret2
 exact⟨rfl,HB.out⟩
theorem both(s:BA)(v:Value)(l:List BA)(w:World)(hv:Rd w w.heap.size v l)(hl:Ex l)(hT:Tb w) :
  ∃ r:An,(∀ W,Below w.heap.size w W→Calls Tryz.prog 11 #[.string s,v] W fun e w'=>e=.returned (qbc r)∧Below W.heap.size W w') ∧
   (∀ W,Below w.heap.size w W→Calls Tryz.prog 12 #[.string s,v] W fun e w'=>e=.returned (qbc r)∧Below W.heap.size W w'):=by
 by_cases hk : ∃ (k:Nat) (y:Row),tbl[k]? = some y∧y.name=s
 ·obtain⟨k,y,hy,rfl⟩:=hk
  have hmem:y∈tbl:=List.mem_of_getElem? hy
  by_cases h40:40<l.length
  ·exact⟨⟨em,8⟩,fun W hW=>qha y hmem v l 8 (if_pos h40) (by decide) W (hv.up hW),fun W hW=>qsj _ (qw3 _ ⟨y,hmem,rfl⟩) v l W (hv.up hW) h40⟩
  ·have ho:Ord l:=⟨by omega,hl.sz⟩
   exact⟨_,fun W hW=>qgd k y hy v l W (hv.up hW) ho (hT.below hW),fun W hW=>qv8 k y hy v l W (hv.up hW) ho⟩
 ·have h1 : ∀ x∈tbl,x.name≠s:=fun x hx hn=>hk (by
   obtain⟨k,hk2,hky⟩:=List.getElem_of_mem hx
   exact⟨k,x,by rw[List.getElem?_eq_getElem hk2,hky],hn⟩)
  have h2 : ∀ x∈qdv,x≠s:=fun x hx hn=>by
   subst hn
   exact hk (qo7 hx)
  exact⟨⟨em,4⟩,fun W hW=>qev s h1 v W,fun W hW=>qmc s h2 v W⟩
end Go.Proofs.YtldkgbnmaefaaaaGreatDoor.Fu
namespace Go.Proofs.YtldkgbnmaefaaaaGreatDoor.Fu
open Go.RowKit
open Go.Proofs.YtldkgbnmaefaaaaGreatDoor.Nu (qak below_drewN)
set_option linter.unusedVariables false
set_option linter.unusedSimpArgs false
theorem qup(n:Int):bits .and .i64 n 16777215=n%16777216:=by
 have h7:(BitVec.ofInt 64 16777215).toNat=2^24-1:=by decide
 have key:(BitVec.ofInt 64 n &&& BitVec.ofInt 64 16777215).toNat=(n%((2^64:Nat):Int)).toNat%2^24:=by
  rw[BitVec.toNat_and,BitVec.toNat_ofInt,h7,Nat.and_two_pow_sub_one_eq_mod]
 show IntKind.i64.wrap ((BitVec.ofInt 64 n &&& BitVec.ofInt 64 16777215).toNat:Nat)=n%16777216
 rw[key,IntKind.wrap_i64]
 omega
structure Sl (w0:World) (A:Option Addr) (n c:Nat):Prop where
 le:n≤c
 mx:c≤maxLen
 at_:0<n → ∃ ad,A=some ad∧ad.block<w0.heap.size ∧ ∀ i,i<n → ∃ z:Int,w0.cell? (ad.add i)=some (.int .i64 z)
structure Tp (w0:World) (A:Option Addr) (n c b:Nat) (W:World):Prop where
 c0:W.cell? ⟨b,0,none⟩=some (.slice A n c)
 c1 : ∃ k:Nat,k≤n∧W.cell? ⟨b,1,none⟩=some (.int .i64 k)
 f1:W.frozen? ⟨b,1,none⟩=false
 bl:Below w0.heap.size w0 W
 lb:w0.heap.size≤b
 lt:b<W.heap.size
structure Only (b:Nat) (W W':World):Prop where
 size:W'.heap.size=W.heap.size
 block : ∀ g,g≠b→W'.heap[g]? = W.heap[g]?
theorem Tp.below{w0 W W':World}{A:Option Addr}{n c b:Nat}(h:Tp w0 A n c b W)(hb:Below W.heap.size W W'):Tp w0 A n c b W':=by
 obtain⟨k,hk,h1⟩:=h.c1
 exact⟨(hb.cell (p:=⟨b,0,none⟩) h.lt).trans h.c0,⟨k,hk,(hb.cell (p:=⟨b,1,none⟩) h.lt).trans h1⟩,(hb.frozen (p:=⟨b,1,none⟩) h.lt).trans h.f1,h.bl.trans (hb.mono h.bl.size),h.lb,Nat.lt_of_lt_of_le h.lt hb.size⟩
theorem add_block(a:Addr)(n:Nat):(a.add n).block=a.block:=by unfold Addr.add;split<;>rfl
theorem size_setCell(W:World)(p:Addr)(u:Value):(W.setCell p u).heap.size=W.heap.size:=by simp[World.setCell]
theorem Tp.store{w0 W:World}{A:Option Addr}{n c b:Nat}(h:Tp w0 A n c b W){k:Nat}(hk:k<n):Tp w0 A n c b (W.setCell ⟨b,1,none⟩ (.int .i64 ((k:Int)+1))):=by
 obtain⟨k',_,h1⟩:=h.c1
 refine⟨?_,⟨k+1,by omega,?_⟩,?_,h.bl.setCell (p:=⟨b,1,none⟩) h.lb _,h.lb,by rw[size_setCell];exact h.lt⟩
 ·rw[World.cell?_setCell_other W ⟨b,1,none⟩ ⟨b,0,none⟩ _ (by simp)];exact h.c0
 ·rw[World.cell?_setCell_same' W ⟨b,1,none⟩ _ (by rw[h1];rfl)];simp
 ·rw[World.frozen?_setCell];exact h.f1
theorem Tp.other{w0 W:World}{A:Option Addr}{n c b:Nat}(h:Tp w0 A n c b W){p:Addr}(hp:p.block≠b)(hw:w0.heap.size≤p.block)(u:Value):Tp w0 A n c b (W.setCell p u):=by
 obtain⟨k,hk,h1⟩:=h.c1
 have hf : ∀ q:Addr,q.block=b→(W.setCell p u).cell? q=W.cell? q:=fun q hq=>World.cell?_setCell_other W p q u (fun e=>hp (by rw[←e] at hq;exact hq))
 exact⟨(hf ⟨b,0,none⟩ rfl).trans h.c0,⟨k,hk,(hf ⟨b,1,none⟩ rfl).trans h1⟩,by rw[World.frozen?_setCell];exact h.f1,h.bl.setCell hw u,h.lb,by rw[size_setCell];exact h.lt⟩
theorem q3b(A:Option Addr)(n c:Nat)(w:World) :
  Calls Tryz.prog 16 #[.slice A n c] w fun e w'=>e=.returned (.pointer (some ⟨w.heap.size,0,none⟩))∧Tp w A n c w.heap.size w':=by
 go_enter Tryz.func16,Tryz.ntmps16
 go_wp2
 go_ret
 exact⟨rfl,by simp,⟨0,Nat.zero_le _,by simp⟩,by simp,(Below.refl _ _).alloc (Nat.le_refl _) _,Nat.le_refl _,by simp⟩
theorem qk2(w0:World)(A:Option Addr)(n c b m:Nat)(W:World)(hs:Sl w0 A n c)(h:Tp w0 A n c b W)(hm:1≤m)(hm2:m≤100) :
  Calls Tryz.prog 17 #[.pointer (some ⟨b,0,none⟩),.int .i64 (m:Int)] W fun e W' => ∃ r:Nat,r<m∧e=.returned (.int .i64 (r:Int))∧Tp w0 A n c b W'∧Only b W W':=by
 obtain⟨k,hk,c1⟩:=h.c1
 have c0:=h.c0
 have f1:=h.f1
 have hmx:=hs.mx
 have hle:=hs.le
 unfold maxLen at hmx
 by_cases hlt:k<n
 ·obtain⟨ad,rfl,hadb,hz⟩:=hs.at_ (by omega)
  obtain⟨z,hzc⟩:=hz k hlt
  clear hz
  have hzW:W.cell? (ad.add k)=some (.int .i64 z):=(h.bl.cell (p:=ad.add k) (by rw[add_block];exact hadb)).trans hzc
  have hand:=qup z
  have g1 : ¬ (n:Int)≤(k:Int):=by omega
  have g2:(k:Int)<(n:Int):=by omega
  have g3:(0:Int)≤z%16777216:=by omega
  have g4:z%16777216<16777216:=by omega
  go_enter Tryz.func17,Tryz.ntmps17
  go_wp2
  go_quiet (fail)
  go_wp2
  go_quiet (fail)
  go_wp2
  go_ret
  have q1:0≤z%16777216%(m:Int):=Int.emod_nonneg _ (by omega)
  have q2:z%16777216%(m:Int)<(m:Int):=Int.emod_lt_of_pos _ (by omega)
  exact⟨(z%16777216%(m:Int)).toNat,by omega,qak (by rw[Int.toNat_of_nonneg q1]),(h.below (below_drewN (Below.refl _ _) _)).store hlt,⟨size_setCell (W.drewN _) _ _,fun g hg=>Below.heap_setCell (W.drewN _) ⟨b,1,none⟩ _ g hg⟩⟩
 ·have g1:(n:Int)≤(k:Int):=by omega
  go_enter Tryz.func17,Tryz.ntmps17
  go_wp2
  go_quiet (fail)
  go_wp2
  go_ret
  exact⟨0,by omega,rfl,h.below (below_drewN (Below.refl _ _) nq),⟨rfl,fun _ _=>rfl⟩⟩
theorem q8u(w0:World)(A:Option Addr)(n c b g m:Nat)(cs:Array Value)(W:World)(hs:Sl w0 A n c)(h:Tp w0 A n c b W)(hg:g≠b){t:TypeId}{fr:Nat×Nat}
  (hc:W.heap[g]? = some (.cells cs t fr)) (hm:1≤m) (hm2:m≤100) (hcs : ∀ r,r<m → ∃ x:BA,x.size≤20∧cs[r]? = some (.string x)) :
  Calls Tryz.prog 18 #[.pointer (some ⟨b,0,none⟩),.slice (some ⟨g,0,none⟩) m m] W fun e W' => ∃ x:BA,x.size≤20∧e=.returned (.string x)∧Tp w0 A n c b W'∧Only b W W':=by
 go_enter Tryz.func18,Tryz.ntmps18
 go_wp2_with fail
 (with_reducible refine(qk2 w0 A n c b m _ hs h hm hm2).mono ?_)
 rintro e w1⟨r,hr,rfl,ht1,ho1⟩
 obtain⟨x,hx,hxc⟩:=hcs r hr
 have hcell:w1.cell? ⟨g,r,none⟩=some (.string x):=by rw[cell_of_row w1 g r cs t fr ((ho1.block g hg).trans hc)];exact hxc
 have hri:(r:Int)<(m:Int):=by omega
 clear hxc
 have HT:=hid ht1;have HO:=hid ho1
 clear ht1 ho1 hc hcs
 go_wp2
 go_ret
 exact⟨x,hx,rfl,HT.out,HO.out⟩
def ofC:Array Value := #[.string ⟨#[]⟩,.string ⟨#[49]⟩,.string ⟨#[45,49]⟩,.string ⟨#[32,50,32]⟩,.string ⟨#[97,98,99,32,100,101,102]⟩,.string ⟨#[48]⟩,.string ⟨#[51,46,48]⟩,.string ⟨#[49,46,53]⟩,.string ⟨#[45]⟩,.string ⟨#[97]⟩,.string ⟨#[98,32,99]⟩,.string ⟨#[50,48,50,52,45,48,50,45,50,57]⟩,.string ⟨#[50,48,48,48,45,48,49,45,48,49,32,49,50,58,51,48]⟩,.string ⟨#[89,45,109,45,100]⟩,.string ⟨#[100,97,121]⟩,.string ⟨#[109,111,110,116,104]⟩,.string ⟨#[49,43,50,42,51]⟩,.string ⟨#[120]⟩,.string ⟨#[195,169,195,169]⟩,.string ⟨#[57,57]⟩]
theorem xdz{r:Nat}(h:r<20) : ∃ x:BA,x.size≤20∧ofC[r]? = some (.string x):=by
 rcases (by omega:r=0∨r=1∨r=2∨r=3∨r=4∨r=5∨r=6∨r=7∨r=8∨r=9∨r=10∨r=11∨r=12∨r=13∨r=14∨r=15∨r=16∨r=17∨r=18∨r=19) with rfl | rfl | rfl | rfl | rfl | rfl | rfl | rfl | rfl | rfl | rfl | rfl | rfl | rfl | rfl | rfl | rfl | rfl | rfl | rfl
 ·exact⟨⟨#[]⟩,by decide,rfl⟩
 ·exact⟨⟨#[49]⟩,by decide,rfl⟩
 ·exact⟨⟨#[45,49]⟩,by decide,rfl⟩
 ·exact⟨⟨#[32,50,32]⟩,by decide,rfl⟩
 ·exact⟨⟨#[97,98,99,32,100,101,102]⟩,by decide,rfl⟩
 ·exact⟨⟨#[48]⟩,by decide,rfl⟩
 ·exact⟨⟨#[51,46,48]⟩,by decide,rfl⟩
 ·exact⟨⟨#[49,46,53]⟩,by decide,rfl⟩
 ·exact⟨⟨#[45]⟩,by decide,rfl⟩
 ·exact⟨⟨#[97]⟩,by decide,rfl⟩
 ·exact⟨⟨#[98,32,99]⟩,by decide,rfl⟩
 ·exact⟨⟨#[50,48,50,52,45,48,50,45,50,57]⟩,by decide,rfl⟩
 ·exact⟨⟨#[50,48,48,48,45,48,49,45,48,49,32,49,50,58,51,48]⟩,by decide,rfl⟩
 ·exact⟨⟨#[89,45,109,45,100]⟩,by decide,rfl⟩
 ·exact⟨⟨#[100,97,121]⟩,by decide,rfl⟩
 ·exact⟨⟨#[109,111,110,116,104]⟩,by decide,rfl⟩
 ·exact⟨⟨#[49,43,50,42,51]⟩,by decide,rfl⟩
 ·exact⟨⟨#[120]⟩,by decide,rfl⟩
 ·exact⟨⟨#[195,169,195,169]⟩,by decide,rfl⟩
 ·exact⟨⟨#[57,57]⟩,by decide,rfl⟩
theorem q8t(w0:World)(A:Option Addr)(n c b g:Nat)(W:World)(hs:Sl w0 A n c)(h:Tp w0 A n c b W)(hg:g≠b){t:TypeId}{fr:Nat×Nat}(hc:W.heap[g]? = some (.cells ofC t fr)) :
  Calls Tryz.prog 18 #[.pointer (some ⟨b,0,none⟩),.slice (some ⟨g,0,none⟩) 20 20] W fun e W' => ∃ x:BA,x.size≤20∧e=.returned (.string x)∧Tp w0 A n c b W'∧Only b W W' :=
 q8u w0 A n c b g 20 ofC W hs h hg hc (by decide) (by decide) fun r hr=>xdz hr
theorem q8r(w0:World)(A:Option Addr)(n c b:Nat)(W:World)(hs:Sl w0 A n c)(h:Tp w0 A n c b W) :
  Calls Tryz.prog 17 #[.pointer (some ⟨b,0,none⟩),.int .i64 6] W fun e W' => ∃ r:Nat,r<6∧e=.returned (.int .i64 (r:Int))∧Tp w0 A n c b W'∧Only b W W':=qk2 w0 A n c b 6 W hs h (by decide) (by decide)
theorem q3c(w0:World)(A:Option Addr)(n c b:Nat)(W:World)(hs:Sl w0 A n c)(h:Tp w0 A n c b W) :
  Calls Tryz.prog 17 #[.pointer (some ⟨b,0,none⟩),.int .i64 17] W fun e W' => ∃ r:Nat,r<17∧e=.returned (.int .i64 (r:Int))∧Tp w0 A n c b W'∧Only b W W':=qk2 w0 A n c b 17 W hs h (by decide) (by decide)
theorem Rd.only{w w':World}{l:List BA}{g n c b:Nat}(h:Rd w w.heap.size (.slice (some ⟨g,0,none⟩) n c) l)(hg:g≠b)(ho:Only b w w'):Rd w' w'.heap.size (.slice (some ⟨g,0,none⟩) n c) l:=by
 obtain⟨A,c',h1,h2,h3,h4⟩:=h.ex
 refine⟨A,c',h1,h2,h3,fun hn => ?_⟩
 obtain⟨g',o,h5,h6,h7⟩:=h4 hn
 injection h1 with h8
 rw[h5] at h8
 injection h8 with h8
 injection h8 with h8 h9
 subst h8 h9
 exact⟨g,0,h5,by rw[ho.size];exact h6,fun i x hx=>(World.cell?_of_block (ho.block g hg)).trans (h7 i x hx)⟩
end Go.Proofs.YtldkgbnmaefaaaaGreatDoor.Fu
namespace Go.Proofs.YtldkgbnmaefaaaaGreatDoor.Fu
open Go.RowKit
set_option linter.unusedVariables false
set_option linter.unusedSimpArgs false
theorem qh9.only{w w':World}{base b:Nat}{v:Value}{l:List BA}(h:qh9 w base v l)(hb:b<base)(ho:Only b w w'):qh9 w' base v l:=by
 refine⟨h.1,?_⟩
 rcases h.2 with h2 | ⟨g,cap,cur,h3,h4,h5,h6⟩
 ·exact .inl h2
 ·exact .inr ⟨g,cap,cur,h3,h4,(ho.block g (by omega)).trans h5,h6⟩
theorem Tp.far{w0 W W':World}{A:Option Addr}{n c b B:Nat}(h:Tp w0 A n c b W)(hb:Below B W W')(hB:b<B):Tp w0 A n c b W':=by
 obtain⟨k,hk,h1⟩:=h.c1
 have hl:=h.lb
 exact⟨(hb.cell (p:=⟨b,0,none⟩) hB).trans h.c0,⟨k,hk,(hb.cell (p:=⟨b,1,none⟩) hB).trans h1⟩,(hb.frozen (p:=⟨b,1,none⟩) hB).trans h.f1,h.bl.trans (hb.mono (by omega)),h.lb,Nat.lt_of_lt_of_le h.lt hb.size⟩
theorem Tp.ne{w0 W:World}{A:Option Addr}{n c b g m k:Nat}{l:List BA}(h:Tp w0 A n c b W)(hr:Rd W W.heap.size (.slice (some ⟨g,0,none⟩) m k) l)(h0:0<l.length):g≠b:=by
 intro e
 have h1:=qzv hr 0 l[0] (List.getElem?_eq_getElem h0)
 rw[e,h.c0] at h1
 cases h1
structure BuS (w0:World) (A:Option Addr) (n c b base:Nat) (W:World) (v:Value) (l:List BA):Prop where
 tp:Tp w0 A n c b W
 own:qh9 W base v l
 le:base≤W.heap.size
 sz : ∀ x∈l,x.size≤20
theorem BuS.ex{w0 W:World}{A:Option Addr}{n c b base:Nat}{v:Value}{l:List BA}(h:BuS w0 A n c b base W v l)(hl:l.length≤6):Ex l:=⟨by omega,fun i=>by
 by_cases hi:i<l.length
 ·rw[qbm hi];have:=h.sz _ (List.getElem_mem hi);omega
 ·rw[qjn hi];exact Nat.zero_le _⟩
theorem FunctionBuilt_any(A:Option Addr)(n c:Nat)(w:World)(hs:Sl w A n c)(hT:Tb w) :
  Calls Tryz.prog 5 #[.slice A n c] w fun e w'=>e=.returned (.bool true)∧Below w.heap.size w w':=by
 have HK:=hid (fun(W:World) (hW:Below w.heap.size w W)=>qgu W (hT.below hW))
 have HTb:=hid (fun(W:World) (hW:Below w.heap.size w W)=>hT.below hW)
 have HS:=hid hs
 have hle:=hs.le
 have hmx:=hs.mx
 unfold maxLen at hmx
 clear hs hT
 go_enter Tryz.func5,Tryz.ntmps5
 go_wp2_with fail
 (with_reducible refine(q3b A n c w).mono ?_)
 rintro e w1⟨rfl,ht1⟩
 obtain⟨b,hb⟩ : ∃ b,w.heap.size=b:=⟨_,rfl⟩
 rw[hb] at ht1 ⊢
 have H1:=hid ht1
 have HB:=hid hb
 clear ht1 hb
 go_wp2_with fail
 refine(qfk _).mono ?_
 rintro e w2⟨g,rfl,hR2,b2⟩
 have ht2:=H1.out.below b2
 have hgb:=ht2.ne hR2 (by rw[qck];omega)
 have H2:=hid ht2
 have R2:=hid hR2
 clear ht2 hR2 b2 H1
 go_wp2_with fail
 (with_reducible refine(q3c w A n c b _ HS.out H2.out).mono ?_)
 rintro e w3⟨r,hr,rfl,ht3,ho3⟩
 have hrl:r<qdv.length:=by rw[qck];exact hr
 have c0:=qzv (R2.out.only hgb ho3) r qdv[r] (List.getElem?_eq_getElem hrl)
 generalize qdv[r]=S at c0
 have hri:(r:Int)<17:=by omega
 have hlt3:=ht3.lt
 have H3:=hid ht3
 clear ht3 ho3 hrl R2 H2
 have HB0:=hid (fun(s:BA) (u:Value) (l:List BA) (W:World) (hv:Rd W W.heap.size u l) (h:Ex l) (hW:Below w.heap.size w W)=>both s u l W hv h (HTb.out W hW))
 clear hgb HTb
 go_wp2_with fail
 clear hri c0
 go_loopw [6,7] (fun av iv wr => ∃ (k:Nat) (L:List BA),iv=.int .i64 (k:Int)∧k≤5∧L.length=k∧Hid (BuS w A n c b w3.heap.size wr av L)) (fun _ i _=>6-(intOf i).toNat)
 case atStart=>exact⟨0,[],by go_num,by omega,rfl,hid ⟨H3.out,qh9.nil _ _,Nat.le_refl _,by simp⟩⟩
 case round =>
  obtain⟨k,L,rfl,hk,hL,HL⟩:=hrel
  have HLn:=hid hL
  clear hL
  obtain⟨A9,c9,hv9,hc9,hm9⟩:=HL.out.own.form
  subst hv9
  go_wp2_with fail
  (with_reducible refine(q8r w A n c b _ HS.out HL.out.tp).mono ?_)
  rintro e w4⟨q,hq,rfl,ht4,ho4⟩
  have H4:Hid (BuS w A n c b w3.heap.size w4 (.slice A9 L.length c9) L):=hid ⟨ht4,HL.out.own.only hlt3 ho4,by rw[ho4.size];exact HL.out.le,HL.out.sz⟩
  clear ht4 ho4 HL
  by_cases hlt:k<q
  ·have hki:(k:Int)<(q:Int):=by omega
   have hb4:=H4.out.tp.lt
   have T5:=hid (H4.out.tp.below (qbx w4 (.cells ofC 9)))
   go_wp2_with fail
   refine(q8t w A n c b w4.heap.size _ HS.out T5.out (by omega) (heap_alloc_new w4 _)).mono ?_
   rintro e w5⟨x,hx,rfl,ht5,ho5⟩
   have bn:=qbx w5 (.cells #[.string x] 9)
   have hle5:w3.heap.size≤w5.heap.size:=by rw[ho5.size];exact Nat.le_trans H4.out.le (qbx w4 (.cells ofC 9)).size
   have o5:=(H4.out.own.below (qbx w4 (.cells ofC 9))).only hlt3 ho5
   obtain⟨v',w',r1,o1,q1⟩:=qml (w5.alloc (.cells #[.string x] 9)) 22 (.slice A9 L.length c9) (.slice (some ⟨w5.heap.size,0,none⟩) 1 1) L [x] w3.heap.size (o5.below bn) (Rd.new [x] rfl (by show 1≤100000;omega)) (by rw[HLn.out];omega) (by show 1≤1000;omega) (Nat.le_trans hle5 bn.size)
   have R1:=hid r1
   have H6:Hid (BuS w A n c b w3.heap.size w' v' (L++[x])):=hid ⟨(ht5.below bn).far q1 hlt3,o1,Nat.le_trans (Nat.le_trans hle5 bn.size) q1.size,fun z hz=>by
    rcases List.mem_append.1 hz with h | h
    ·exact H4.out.sz z h
    ·rw[List.mem_singleton] at h;subst h;exact hx⟩
   have hk5:k+1≤5:=by omega
   have hL2:(L++[x]).length=k+1:=by rw[List.length_append,HLn.out];rfl
   clear r1 o1 q1 bn o5 ht5 ho5 hle5 H4 T5
   go_wp2_with (at_builtin;refine qhv rfl (.tmp 28) (.tmp 32) _ rfl rfl rfl R1.out ?_)
   go_roundw
   case rel=>exact⟨k+1,L++[x],by go_num,hk5,hL2,H6⟩
   case measure=>simp[intOf];omega
  ·have hki : ¬ (k:Int)<(q:Int):=by omega
   obtain⟨r,hC,hR⟩:=HB0.out S _ L w4 H4.out.own.rd (H4.out.ex (by rw[HLn.out];omega)) (HB.out▸H4.out.tp.bl)
   have B4:Hid (Below w.heap.size w w4):=hid H4.out.tp.bl
   unfold qbc at hC hR
   have heq:(r.s.toList==r.s.toList)=true:=by simp
   have hee:(r.e==r.e)=true:=by simp
   have HC:=hid hC
   have HR:=hid hR
   clear hC hR HB0 H4 H3 hlt3
   go_wp2_with fail
   (with_reducible refine(HC.out _ (Below.refl _ _)).mono ?_)
   rintro e w5⟨rfl,b5⟩
   have B5:=hid b5
   clear b5
   go_wp2_with fail
   (with_reducible refine(HR.out _ B5.out).mono ?_)
   rintro e w6⟨rfl,b6⟩
   have B6:=hid (B4.out.trans ((B5.out.trans (b6.mono B5.out.size)).mono B4.out.size))
   clear b6
   go_wp2_with fail
   (with_reducible refine(HK.out _ B6.out).mono ?_)
   rintro e w7⟨rfl,b7⟩
   have B7:=hid (B6.out.trans (b7.mono B6.out.size))
   clear b7
   go_wp2
   go_ret
   exact⟨rfl,HB.out▸B7.out⟩
end Go.Proofs.YtldkgbnmaefaaaaGreatDoor.Fu
