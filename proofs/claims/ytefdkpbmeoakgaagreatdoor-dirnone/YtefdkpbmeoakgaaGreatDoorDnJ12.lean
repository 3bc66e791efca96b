/- Joined: DNew, DFull. -/
import Derived.Test.YtefdkpbmeoakgaaGreatDoorDnJ8
import Derived.Test.YtefdkpbmeoakgaaGreatDoorDnJ4
import Derived.BigRegion
import Derived.Test.YtefdkpbmeoakgaaGreatDoorDnJ1
/- The contract of New. -/
namespace Go.Proofs.YtefdkpbmeoakgaaGreatDoor
set_option maxRecDepth 100000
set_option maxHeartbeats 8000000
open Go.RowKit Go.Shelf
set_option linter.unusedVariables false
def newE (b bl:Int):Int:=if ajL b bl 2 4=true then 1 else if 1048576<b*bl then 5 else 0
theorem ahz {b bl:Int}(h:newE b bl=0):eF b bl 2 4≠1/\eF b bl 2 4≠5/\isSize b/\1<=bl/\bl<=4096/\b*bl<=1048576:=by
 unfold newE at h
 unfold eF
 by_cases h1:ajL b bl 2 4=true
 ·rw[if_pos h1] at h;omega
 ·rw[if_neg h1] at h
  by_cases h2:1048576<b*bl
  ·rw[if_pos h2] at h;omega
  ·rw[if_neg h1,if_neg h2]
   have h3:¬ eY b bl 2 4:=fun x=>h1 (je.2 x)
   unfold eY at h3
   simp only[not_or,Classical.not_not] at h3
   refine⟨by split<;>omega,by split<;>omega,h3.1,by omega,by omega,by omega⟩
def Dev.new (blk n:Nat):Dev:=⟨blk,n,fun _=>List.replicate blk 0,fun _=>[],-1,false,0⟩
def af6 (h h0 blk:Nat):Mem:=⟨h,fun i=>(h0+i,blk),fun _=>.slice none 0 0,false,0⟩
structure yh (w:World) (g h h0 blk n k:Nat) (u:World):Prop where
 dev:u.rowIs g 92 6 (xA (Dev.new blk n) (af6 h h0 blk))
 pla:u.rowIs h 95 (2*n) (fun j=>if j%2=0/\j / 2<k then .slice (some ⟨h0+j / 2,0,none⟩) blk blk else .slice none 0 0)
 row:∀ i,i<k->Block u (h0+i) (List.replicate blk 0)
 siz:u.heap.size=h0+k
 bel:Below w.heap.size w u
 g1:w.heap.size<=g
 g2:w.heap.size<=h
 g3:g<h0
 g4:h<h0
theorem yh.step {w g h h0 blk n k u}(H:yh w g h h0 blk n k u)(hk:k<n) :
  yh w g h h0 blk n (k+1) ((u.alloc (.cells (madeCells #[.int .u8 0] blk) 5)).setCell ⟨h,k*2,none⟩ (.slice (some ⟨u.heap.size,0,none⟩) blk blk)):=by
 have hs:=H.siz
 have hne:g≠h:=fA H.pla H.dev (by decide)
 refine⟨(H.dev.alloc _).setOther hne _,((H.pla.alloc _).set (k*2) _).congr (fun j hj=>?_),fun i hi=>?_,?_,?_,H.g1,H.g2,H.g3,H.g4⟩
 ·by_cases e:j=k*2
  ·have e1:j%2=0/\j / 2<k+1:=by omega
   have e2:h0+j / 2=u.heap.size:=by omega
   rw[if_pos e,if_pos e1,e2]
  ·rw[if_neg e]
   by_cases e1:j%2=0/\j / 2<k
   ·rw[if_pos e1,if_pos (by omega)]
   ·rw[if_neg e1,if_neg (by omega)]
 ·unfold Block
  rw[Below.heap_setCell _ _ _ _ (by have:=H.g4;simp only;omega)]
  by_cases e:i<k
  ·rw[Below.heap_alloc _ _ _ (by omega)]
   exact H.row i e
  ·obtain rfl:i=k:=by omega
   rw[← hs,World.alloc_heap_new,← Array.toArray_toList (xs:=madeCells #[.int .u8 0] blk),toList_madeCells_one]
   simp
 ·simp[World.setCell];omega
 ·exact(H.bel.alloc H.bel.size _).setCell H.g2 _
theorem yh.drew {w g h h0 blk n k u}(H:yh w g h h0 blk n k u):yh w g h h0 blk n k u.drew:=⟨H.dev.drew,H.pla.drew,H.row,H.siz,H.bel.drew,H.g1,H.g2,H.g3,H.g4⟩
theorem yh.done {w g h h0 blk n u}(H:yh w g h h0 blk n n u)(h1:1<=n)(h2:n<=4096)(h3:1<=blk)(h4:blk<=4096) :
  Dv u (fun k=>w.heap.size<=k/\k<u.heap.size) g (Dev.new blk n):=by
 have hb:=H.bel.size
 have hs:=H.siz
 refine⟨af6 h h0 blk,H.dev,H.pla.congr (fun j hj=>?_),⟨H.g1,H.dev.lt⟩,⟨H.g2,H.pla.lt⟩,fun i hi=>?_,fun i hi=>WR.nil _ _ _,fun i j k _ _ e _=>?_,fun k hk=>hk.2,.inr ⟨rfl,rfl,by simp[af6],by simp[af6]⟩,⟨h1,h2,h3,h4,fun i hi=>by simp[Dev.new],by simp[Dev.new],by simp[Dev.new]⟩⟩
 ·simp only[tX,af6,Dev.new]
  by_cases e:j%2=0
  ·rw[if_pos e,if_pos ⟨e,by omega⟩]
  ·rw[if_neg e,if_neg (fun x=>e x.1)]
 ·have hr:=H.row i hi
  have g3:=H.g3
  have g1:=H.g1
  exact⟨⟨by simp[Dev.new],_,hr,by simp[Dev.new,List.take_replicate]⟩,⟨by simp only[af6];omega,hr.lt⟩,Nat.le_refl _,by simp only[af6];unfold maxLen;omega,fun z hz=>by
   simp only[Dev.new] at hz
   have:=List.eq_of_mem_replicate hz
   omega⟩
 ·simp[af6,Value.ownBlock] at e
theorem infoP:(Tryz.prog.info? 95).map (fun i=>(i.zero,i.size,i.bytes))=some (some (.agg #[.slice none 0 0,.slice none 0 0]),2,48):=by kernel_rfl
theorem zo (n:Nat)(hn:n<=4096)(w:World):(Instr.makeSlice 90 (.int .i64 (n:Int)) (.int .i64 (n:Int))).run Tryz.prog w=.ok (.slice (some ⟨w.heap.size,0,none⟩) n n) (w.alloc (.cells (madeCells #[.slice none 0 0,.slice none 0 0] (n*2)) 95)):=by
 obtain⟨i0,hi,hz0,hz1,hz2⟩:=info_parts infoP
 have hr:=run_make (P:=Tryz.prog) w 90 95 i0 _ Tryz.underlying90 hi hz0 .i64 .i64 n n (by omega) (Int.le_refl _) (by rw[hz2];omega) (by omega)
 simp only[Int.toNat_natCast,hz1] at hr
 exact hr
theorem yh.start (w w1:World)(hb:Below w.heap.size w w1)(blk n:Nat) :
  yh w (w1.heap.size+1) w1.heap.size (w1.heap.size+2) blk n 0 ((w1.alloc (.cells (madeCells #[.slice none 0 0,.slice none 0 0] (n*2)) 95)).alloc (.cells #[.int .i64 blk,.slice (some ⟨w1.heap.size,0,none⟩) n n,.bool false,.int .i64 0,.bool false,.int .i64 0] 92)):=by
 have hs:=hb.size
 have e1:(w1.alloc (.cells (madeCells #[.slice none 0 0,.slice none 0 0] (n*2)) 95)).heap.size=w1.heap.size+1:=by simp
 refine⟨?_,?_,fun i hi=>by omega,by simp,(hb.alloc hs _).alloc (by rw[e1];omega) _,by omega,hs,by omega,by omega⟩
 ·have:=World.rowIs_alloc (w1.alloc (.cells (madeCells #[.slice none 0 0,.slice none 0 0] (n*2)) 95)) #[.int .i64 blk,.slice (some ⟨w1.heap.size,0,none⟩) n n,.bool false,.int .i64 0,.bool false,.int .i64 0] 92 (xA (Dev.new blk n) (af6 w1.heap.size (w1.heap.size+2) blk)) (fun j hj=>by
   have:j=0\/j=1\/j=2\/j=3\/j=4\/j=5:=by simp at hj;omega
   rcases this with rfl | rfl | rfl | rfl | rfl | rfl<;>rfl)
  rwa [e1] at this
 ·refine World.rowIs.alloc ?_ _
  refine⟨madeCells #[.slice none 0 0,.slice none 0 0] (n*2),World.alloc_heap_new _ _,by rw[size_madeCells,Nat.mul_comm],fun j hj=>?_⟩
  have hj2:j%2=0\/j%2=1:=by omega
  have e0:¬ (j%2=0/\j / 2<0):=by omega
  simp only[if_neg e0]
  simp[madeCells,show j<n*2 by omega]
  rcases hj2 with e | e<;>simp[e]
theorem ajk (blk n:Nat)(w:World)(h:newE blk n=0) :
  Calls Tryz.prog 14 #[.int .i64 blk,.int .i64 n] w fun e w'=>∃ g S,e=.returned (.tuple #[.pointer (some ⟨g,0,none⟩),.int .i64 0])/\Dv w' S g (Dev.new blk n)/\(∀ k,S k->w.heap.size<=k)/\Below w.heap.size w w':=by
 have K:=hide (uy blk n 2 4 w)
 obtain⟨q1,q2,hsz,hn1,hn2,_⟩:=ahz h
 have akU:1<=blk/\blk<=4096:=by unfold isSize at hsz;omega
 have ak0:1<=n/\n<=4096:=by omega
 have d1:(eF blk n 2 4==1)=false:=by simpa using q1
 have d2:(eF blk n 2 4==5)=false:=by simpa using q2
 have hmk:=zo n ak0.2
 have hrow:=run_make_row' (P:=Tryz.prog) 71 5 (.int .u8 0) 1 Tryz.underlying71 info5 rfl .i64 .i64 blk (by omega) (by omega)
 have KI:Hid (∀ w1,Below w.heap.size w w1->yh w (w1.heap.size+1) w1.heap.size (w1.heap.size+2) blk n 0 _):=fun w1 hb=>yh.start w w1 hb blk n
 have KS:Hid (∀ u g h h0 k,yh w g h h0 blk n k u->k<n->yh w g h h0 blk n (k+1) ((u.alloc (.cells (madeCells #[.int .u8 0] blk) 5)).setCell ⟨h,k*2,none⟩ (.slice (some ⟨u.heap.size,0,none⟩) blk blk))):=fun u g h h0 k H hk=>H.step hk
 have KD:Hid (∀ u g h h0,yh w g h h0 blk n n u->∃ S,Dv u S g (Dev.new blk n)/\(∀ k,S k->w.heap.size<=k)/\Below w.heap.size w u):=fun u g h h0 H=>⟨_,H.done ak0.1 ak0.2 akU.1 akU.2,fun k hk=>hk.1,H.bel⟩
 generalize hP:oZ blk n 2 4=P at *
 generalize eF blk n 2 4=q at *
 clear h hP q1 q2 hsz hn1 hn2
 go_enter Tryz.func14,Tryz.ntmps14
 go_wp2_with fail
 go_at_call 40
 refine(ah K).mono ?_
 rintro e w1 ⟨rfl,hb⟩
 have X:=hide hb
 clear K hb
 go_upto_region 4 with fail
 have X2:=hide ((ah X).alloc (ah X).size (.cells (Pc P) 24))
 change Code.wp _ _ _ _ (w1.alloc (.cells (Pc P) 24))
 generalize w1.alloc (.cells (Pc P) 24)=w2 at *
 clear X
 have I0:=hide (ah KI w2 (ah X2))
 clear KI X2
 go_upto_region 5 with fail
 change Code.wp _ _ _ _ ((w2.alloc (.cells (madeCells #[.slice none 0 0,.slice none 0 0] (n*2)) 95)).alloc (.cells #[.int .i64 blk,.slice (some ⟨w2.heap.size,0,none⟩) n n,.bool false,.int .i64 0,.bool false,.int .i64 0] 92))
 generalize (w2.alloc (.cells (madeCells #[.slice none 0 0,.slice none 0 0] (n*2)) 95)).alloc (.cells #[.int .i64 blk,.slice (some ⟨w2.heap.size,0,none⟩) n n,.bool false,.int .i64 0,.bool false,.int .i64 0] 92)=w3 at *
 generalize w2.heap.size+1=g at *
 generalize w2.heap.size+2=h0 at *
 generalize w2.heap.size=h at *
 have c1:w3.cell? ⟨g,1,none⟩=some (.slice (some ⟨h,0,none⟩) n n):=(ah I0).dev.cell (i:=1) (by omega)
 go_upto_region 6 with fail
 clear c1 hmk d1 d2
 go_loopw [33] (fun i wr=>∃ k:Nat,k<=n/\i=.int .i64 (k:Int)/\Hid (yh w g h h0 blk n k wr)) (fun i _=>n - (intOf i).toNat)
 case atStart=>exact⟨0,Nat.zero_le _,rfl,I0⟩
 case round =>
  obtain⟨k,hk,rfl,hI⟩:=hrel
  clear I0
  by_cases hlt:k<n
  ·have I2:=hide (ah KS wr g h h0 k (ah hI) hlt)
   have c1:wr.drew.cell? ⟨g,1,none⟩=some (.slice (some ⟨h,0,none⟩) n n):=(ah hI).dev.cell (i:=1) (by omega)
   have c2:∀ o,(wr.alloc o).cell? ⟨g,1,none⟩=some (.slice (some ⟨h,0,none⟩) n n):=fun o=>((ah hI).dev.alloc o).cell (i:=1) (by omega)
   obtain⟨v0,c3⟩:∃ v0,∀ o,(wr.alloc o).cell? ⟨h,k*2,none⟩=some v0:=⟨_,fun o=>((ah hI).pla.alloc o).cell (i:=k*2) (by omega)⟩
   have c4:∀ o,(wr.alloc o).frozen? ⟨h,k*2,none⟩=false:=fun o=>((ah hI).pla.alloc o).frozen _
   clear KS KD hI
   go_upto_region 8 with fail
   have I3:=hide (ah I2).drew
   clear I2
   go_region
   go_wp2_with fail
   exact⟨⟨k+1,by omega,by go_num,I3⟩,by simp[intOf];omega⟩
  ·obtain rfl:k=n:=by omega
   obtain⟨S,x1,x2,x3⟩:=ah KD wr g h h0 (ah hI)
   have F:=hide x1
   have F2:=hide x2
   have F3:=hide x3
   clear KS KD x1 x2 x3 hI
   go_wp2_with fail
   go_ret2
   exact⟨g,S,rfl,ah F,ah F2,ah F3⟩
def fl (x:Int):List Int:=List.replicate 64 x
theorem aj9 (x:Int):(fl x).length=64:=by simp[fl]
end Go.Proofs.YtefdkpbmeoakgaaGreatDoor
