/- Joined: DWait, DWrite, DCrash, DWaiting. -/
import Derived.Test.YtefdkpbmeoakgaaGreatDoorDnJ5
import Derived.Deep.RegionLaw
import Derived.Test.YtefdkpbmeoakgaaGreatDoorDnJ1
/- The contract of wait, where there is room. -/
namespace Go.Proofs.YtefdkpbmeoakgaaGreatDoor
set_option maxRecDepth 100000
set_option maxHeartbeats 8000000
open Go.RowKit Go.Shelf
set_option linter.unusedVariables false
def Dev.add (D:Dev) (i:Nat) (zs:List Int):Dev:={ D with Y:=fun j=>if j=i then D.Y i++[zs] else D.Y j }
theorem ajs:(Tryz.prog.info? 71).map (fun i=>(i.zero,i.size,i.bytes))=some (some (.slice none 0 0),1,24):=by kernel_rfl
theorem DvM.aeI {w S g D m}(h:DvM w S g D m){i k:Nat}(hi:i<D.n)(e:(m.W i).ownBlock=some k):S k/\∃ cur,w.heap[k]?=some (.cells cur 71):=by
 obtain⟨a,c,e1,_,_,_,hx⟩:=(h.wai i hi).shape
 rw[e1] at e
 cases a with
 | none=>simp[Value.ownBlock] at e
 | some x =>
  obtain⟨k2,cur,rfl,hs,hh,_⟩:=hx x rfl
  simp[Value.ownBlock] at e
  subst e
  exact⟨hs,cur,hh⟩
theorem DvM.waits {w w1:World}{S g D m}(h:DvM w S g D m){i:Nat}(hi:i<D.n)(hy:(D.Y i).length<400)(hb:Below w.heap.size w w1){zs:List Int}(hB:Block w1 w.heap.size zs)(hl:zs.length=D.blk)(hz:∀ z∈zs,0<=z/\z<=255) :
  ∃ a' c' w2,(∀ ty,(Builtin.append_ #[93,93] ty #[m.W i,.slice (some ⟨w1.heap.size,0,none⟩) 1 1]).run Tryz.prog (w1.alloc (.cells #[.slice (some ⟨w.heap.size,0,none⟩) D.blk D.blk] 71))=.ok (.slice a' ((D.Y i).length+1) c') w2) /\
   w2.cell? ⟨m.h,2*i+1,none⟩=some (m.W i)/\w2.frozen? ⟨m.h,2*i+1,none⟩=false /\
   Hid (∃ S',Dv (w2.setCell ⟨m.h,2*i+1,none⟩ (.slice a' ((D.Y i).length+1) c')) S' g (D.add i zs)/\Nx S w S' (w2.setCell ⟨m.h,2*i+1,none⟩ (.slice a' ((D.Y i).length+1) c'))):=by
 have hb1:Below w1.heap.size w1 (w1.alloc (.cells #[.slice (some ⟨w.heap.size,0,none⟩) D.blk D.blk] 71)):=(Below.refl _ _).alloc (Nat.le_refl _) _
 have hb2:Below w.heap.size w (w1.alloc (.cells #[.slice (some ⟨w.heap.size,0,none⟩) D.blk D.blk] 71)):=hb.alloc hb.size _
 have hnew:(w1.alloc (.cells #[.slice (some ⟨w.heap.size,0,none⟩) D.blk D.blk] 71)).cell? ⟨w1.heap.size,0,none⟩=some (.slice (some ⟨w.heap.size,0,none⟩) D.blk D.blk) :=
  (World.rowIs_alloc w1 #[.slice (some ⟨w.heap.size,0,none⟩) D.blk D.blk] 71 (fun _=>.slice (some ⟨w.heap.size,0,none⟩) D.blk D.blk) (fun j hj=>by simp at hj;subst hj;rfl)).cell (i:=0) (by simp)
 have hB2:Block (w1.alloc (.cells #[.slice (some ⟨w.heap.size,0,none⟩) D.blk D.blk] 71)) w.heap.size zs:=hB.below hb1 hB.lt
 have hg1:=h.grow hb2
 have hrow:=bP.new (S:=S) hB2 hl h.ok.b2 hz
 generalize w1.alloc (.cells #[.slice (some ⟨w.heap.size,0,none⟩) D.blk D.blk] 71)=u at *
 obtain⟨R,hR,hRa,hRo⟩:=hg1.wai i hi
 obtain⟨v',w2,hr,ho,hgr,hcase⟩:=oz 93 71 (.slice none 0 0) 24 Tryz.underlying93 ajs rfl hR ⟨w1.heap.size,0,none⟩ 1 1 [.slice (some ⟨w.heap.size,0,none⟩) D.blk D.blk] rfl (by omega) (by
   intro j x hj
   cases j with
   | zero=>simp at hj;subst hj;simpa [Addr.add] using hnew
   | succ j=>simp at hj) (by intro x hx;simp at hx;subst hx;rfl) (by unfold maxLen;omega) (by omega)
 obtain⟨a',c',rfl⟩:∃ a' c',v'=.slice a' ((D.Y i).length+1) c':=by
  rcases ho.2 with ⟨_,h0⟩ | ⟨gg,cc,_,rfl,_⟩
  ·omega
  ·exact⟨_,_,rfl⟩
 have k5:∀ k c,exS S w u k->u.heap[k]?=some (Obj.cells c 5)->w2.heap[k]?=u.heap[k]?:=by
  intro k c hk hc
  refine hgr.block k (Array.getElem?_eq_some_iff.1 hc).1 (fun e=>?_)
  obtain⟨_,cur,hh⟩:=hg1.aeI hi e.symm
  rw[hc] at hh
  cases hh
 have kh:w2.heap[m.h]?=u.heap[m.h]?:=by
  refine hgr.block m.h hg1.pla.lt (fun e=>?_)
  obtain⟨_,cur,hh⟩:=hg1.aeI hi e.symm
  exact row_ne hg1.pla hh (by decide) rfl
 have kg:w2.heap[g]?=u.heap[g]?:=by
  refine hgr.block g hg1.dev.lt (fun e=>?_)
  obtain⟨_,cur,hh⟩:=hg1.aeI hi e.symm
  exact row_ne hg1.dev hh (by decide) rfl
 have hsub:∀ k,exS S w u k->exS S w w2 k:=fun k hk=>by
  rcases hk with hk | hk
  ·exact .inl hk
  ·exact .inr ⟨hk.1,Nat.lt_of_lt_of_le hk.2 hgr.size⟩
 have hlt:∀ k,exS S w w2 k->k<w2.heap.size:=fun k hk=>by
  rcases hk with hk | hk
  ·exact Nat.lt_of_lt_of_le (hg1.lt k (.inl hk)) hgr.size
  ·exact hk.2
 have hown':∀ k,(Value.slice a' ((D.Y i).length+1) c').ownBlock=some k->exS S w w2 k:=by
  intro k e
  rcases hcase with ⟨e1,_⟩ | ⟨k',e1,e2,_⟩
  ·rw[e1] at e
   exact hsub k (hg1.aeI hi e).1
  ·rw[e1] at e
   cases e
   refine .inr ⟨Nat.le_trans hb2.size e2,?_⟩
   rcases ho.2 with ⟨_,h0⟩ | ⟨gg,cc,cur,e3,_,hh,_⟩
   ·omega
   ·rw[e3] at e1
    simp[Value.ownBlock] at e1
    subst e1
    exact(Array.getElem?_eq_some_iff.1 hh).1
 have hWR:WR w2 (exS S w w2) D.blk (.slice a' ((D.Y i).length+1) c') (D.Y i++[zs]):=by
  have hRl:R.length=(D.Y i).length:=by simpa using hR.1
  refine⟨R++[(w.heap.size,D.blk)],?_,?_,hown'⟩
  ·rw[List.map_append,List.length_append]
   exact ho
  ·intro j hj
   simp only[List.length_append,List.length_cons,List.length_nil] at hj
   by_cases hj2:j<(D.Y i).length
   ·rw[List.getElem?_append_left (by omega),List.getElem?_append_left hj2]
    exact(hRa j hj2).kept k5 hsub
   ·obtain rfl:j=(D.Y i).length:=by omega
    rw[List.getElem?_append_right (by omega),List.getElem?_append_right (by omega),hRl]
    simpa using hrow.kept k5 hsub
 refine⟨a',c',w2,hr,?_,?_,?_⟩
 ·rw[World.cell?_of_block (a:=⟨m.h,2*i+1,none⟩) kh];exact(hg1.place hi).2.1
 ·rw[World.frozen?_of_block (a:=⟨m.h,2*i+1,none⟩) kh];exact(hg1.place hi).2.2 _
 ·
  have ne:∀ (k':Nat) c t,t≠95->w2.heap[k']?=some (Obj.cells c t)->(w2.setCell ⟨m.h,2*i+1,none⟩ (.slice a' ((D.Y i).length+1) c')).heap[k']?=w2.heap[k']?:=fun k' c t ht hh =>
   Below.heap_setCell _ _ _ _ (row_ne (hg1.pla.of_block kh) hh (fun e=>ht e.symm))
  have hoth:∀ j k,j<D.n->j≠i->(m.W j).ownBlock=some k->w2.heap[k]?=u.heap[k]?/\(Value.slice a' ((D.Y i).length+1) c').ownBlock≠some k:=by
   intro j k hj hji e
   have hku:k<u.heap.size:=hg1.lt k (hg1.aeI hj e).1
   have hne:(m.W i).ownBlock≠some k:=fun e2=>hji (hg1.one j i k hj hi e e2)
   refine⟨hgr.block k hku (fun e2=>hne e2.symm),?_⟩
   rcases hcase with ⟨e1,_⟩ | ⟨k',e1,e2,_⟩
   ·rw[e1];exact hne
   ·rw[e1];intro e3;cases e3;omega
  refine⟨exS S w w2,⟨{ m with W:=fun j=>if j=i then .slice a' ((D.Y i).length+1) c' else m.W j },?_⟩,?_⟩
  ·have w5:∀ k c,exS S w w2 k->w2.heap[k]?=some (Obj.cells c 5)->(w2.setCell ⟨m.h,2*i+1,none⟩ (.slice a' ((D.Y i).length+1) c')).heap[k]?=w2.heap[k]?:=fun k c _ hc=>ne k c 5 (by decide) hc
   have wW:∀ {v:Value} {Z:List (List Int)},WR w2 (exS S w w2) D.blk v Z->WR (w2.setCell ⟨m.h,2*i+1,none⟩ (.slice a' ((D.Y i).length+1) c')) (exS S w w2) D.blk v Z:=by
    intro v Z hw
    refine hw.kept w5 (fun k' e=>?_) (fun _ h=>h)
    obtain⟨a,c,e1,_,_,_,hx⟩:=hw.shape
    rw[e1] at e
    cases a with
    | none=>simp[Value.ownBlock] at e
    | some x =>
     obtain⟨k2,cur,rfl,_,hh,_⟩:=hx x rfl
     simp[Value.ownBlock] at e
     subst e
     exact ne _ _ _ (by decide) hh
   refine⟨((hg1.dev.of_block kg).setOther (fA (hg1.pla.of_block kh) (hg1.dev.of_block kg) (by decide)) _),((hg1.pla.of_block kh).set (2*i+1) _).congr (fun j hj=>?_),hsub _ hg1.sg,hsub _ hg1.sh,?_,?_,?_,fun k hk=>by simpa [World.setCell] using hlt k hk,h.fuse,⟨h.ok.n1,h.ok.n2,h.ok.b1,h.ok.b2,fun j hj=>?_,h.ok.f1,h.ok.f2⟩⟩
   ·simp only[tX,Dev.add]
    by_cases e:j=2*i+1
    ·subst e
     have e1:(2*i+1)%2=1:=by omega
     have e2:(2*i+1) / 2=i:=by omega
     simp[e1,e2]
    ·rw[if_neg e]
     by_cases e1:j%2=0
     ·simp[e1]
     ·have e2:¬ j / 2=i:=by omega
      simp[e1,e2]
   ·intro j hj
    exact((hg1.arr j hj).kept k5 hsub).kept w5 (fun _ h=>h)
   ·intro j hj
    simp only[Dev.add]
    by_cases e:j=i
    ·subst e
     simp only[if_true]
     exact wW hWR
    ·simp only[if_neg e]
     exact wW ((hg1.wai j hj).kept k5 (fun k ek=>(hoth j k hj e ek).1) hsub)
   ·intro x y k hx hy ea eb
    by_cases e1:x=i
    ·by_cases e2:y=i
     ·omega
     ·simp only[e1,if_true] at ea
      simp only[if_neg e2] at eb
      exact absurd ea (hoth y k hy e2 eb).2
    ·by_cases e2:y=i
     ·simp only[e2,if_true] at eb
      simp only[if_neg e1] at ea
      exact absurd eb (hoth x k hx e1 ea).2
     ·simp only[if_neg e1] at ea
      simp only[if_neg e2] at eb
      exact h.one x y k hx hy ea eb
   ·simp only[Dev.add]
    by_cases e:j=i
    ·simp only[e,if_true,List.length_append,List.length_cons,List.length_nil];omega
    ·simp only[if_neg e];exact h.ok.y j hj
  ·refine⟨(⟨hgr.os.trans hb2.os,hgr.tape.trans hb2.tape,hgr.output.trans hb2.output,Nat.le_trans hb2.size hgr.size,fun k hk hn=>?_⟩:Fr S w w2).setCell h.sh _,fun k hk hS=>?_⟩
   ·refine(hgr.block k (Nat.lt_of_lt_of_le hk hb2.size) (fun e=>hn ?_)).trans (hb2.block k hk)
    rcases(hg1.aeI hi e.symm).1 with hs | hs
    ·exact hs
    ·omega
   ·rcases hS with hS | hS
    ·exact hS
    ·omega
theorem ac2 (o i h:Nat)(a:Option Addr)(cap:Nat)(zs:List Int)(S:Nat->Prop)(g:Nat)(D:Dev)(m:Mem)(w:World)(hD:DvM w S g D m)(hi:i<D.n)(ho:o=2*i)(hh:h=m.h)(hy:(D.Y i).length<400)(hr:Row w.heap.size w a D.blk cap zs) :
  Calls Tryz.prog 112 #[.pointer (some ⟨h,o,none⟩),.slice a D.blk cap] w fun e w'=>e=.returned (.tuple #[])/\∃ S',Dv w' S' g (D.add i zs)/\Nx S w S' w':=by
 subst hh
 obtain⟨c0,c1,f⟩:=hD.place hi
 have C:=hide ((mO _ _ _ _ w.drew hr).mono (fun e w' h=>(⟨h.1,h.2.1,vk h.2.2⟩:e=.returned (.slice (some ⟨w.heap.size,0,none⟩) D.blk D.blk)/\Block w' w.heap.size zs/\Below w.heap.size w w')))
 have KL:Hid (∀ w1,Below w.heap.size w w1->Block w1 w.heap.size zs->w1.cell? ⟨m.h,2*i+1,none⟩=some (m.W i)/\(w1.alloc (.cells #[.slice (some ⟨w.heap.size,0,none⟩) D.blk D.blk] 71)).cell? ⟨m.h,2*i+1,none⟩=some (m.W i)/\_):=fun w1 hb hB=>⟨((hD.grow hb).place hi).2.1,((hD.grow (hb.alloc hb.size _)).place hi).2.1,hD.waits hi hy hb hB hr.1 hr.2.2.2.1⟩
 obtain⟨aw,cw,ew,hc,hm,_⟩:=(hD.wai i hi).shape
 rw[ew] at KL c1
 rw[← ho] at KL c0 c1
 have n1:((((D.Y i).length:Nat):Int)==400)=false:=by simp;omega
 unfold maxLen at hm
 generalize (D.Y i).length=lw at *
 generalize hq:D.add i zs=D' at *
 generalize m.A i=r at *
 obtain⟨r1,r2⟩:=r
 generalize m.h=hh at *
 generalize D.n=nn at *
 generalize D.blk=bb at *
 clear hD hr hq ew f ho
 go_enter Tryz.func112,Tryz.ntmps112
 go_upto_region 3 with fail
 have c1':w.drew.cell? ⟨hh,o+1,none⟩=some (.slice aw lw cw):=c1
 clear c1 c0
 go_region_law (first
  | (refine jo (by rfl) _ _ _ (by rfl) _ _ _ (by rfl) (by rfl) (ah R) ?_;clear R)
  | (go_simp;go_at_call 115;refine(ah C).mono ?_;rintro e w1 ⟨rfl,hB,hb⟩;obtain⟨d1,d0,a',c',w2,R',d2,d3,d4⟩:=ah KL w1 hb hB;have R:=hide R';clear C KL hB hb R'))
 all_goals
  go_wp2_with fail
  go_end0
  exact⟨rfl,ah d4⟩
def Out (S:Nat->Prop) (len:Nat) (a:Option Addr):Prop:=0<len->∀ x,a=some x->¬ S x.block
theorem Row.nx {S S':Nat->Prop}{w w':World}{a len cap zs}(h:Row w.heap.size w a len cap zs)(hx:Nx S w S' w')(ho:Out S len a):Row w'.heap.size w' a len cap zs:=by
 obtain⟨h1,h2,h3,h4,h5⟩:=h
 refine⟨h1,h2,h3,h4,fun hp=>?_⟩
 obtain⟨b,off,e,hlt,hc⟩:=h5 hp
 have hk:=hx.keep hlt (ho hp _ e)
 exact⟨b,off,e,hk.2.2,fun j hj=>(World.cell?_of_block (a:=⟨b,off+j,none⟩) hk.1).trans (hc j hj)⟩
theorem yR {D:Dev}{i:Nat}(hi:i<D.n):aiS D i D.blk=0:=by unfold aiS;rw[if_neg (by omega)];simp
theorem aaR (g i:Nat)(a:Option Addr)(cap:Nat)(S:Nat->Prop)(D:Dev)(w:World)(hD:Dv w S g D)(hi:i<D.n)(hb:D.aaj) :
  Calls Tryz.prog 71 #[.pointer (some ⟨g,0,none⟩),.int .i64 i,.slice a D.blk cap] w fun e w'=>e=.returned (.int .i64 7)/\Dv w' S g D.die/\Nx S w S w':=by
 have H:=jW g i a D.blk cap S D w hD
 rw[yR hi] at H
 replace H:=hide H
 have K:=hide (xU g S D w hD hb)
 clear hD hb
 generalize D.blk=bb at *
 go_enter Tryz.func71,Tryz.ntmps71
 go_wp2_with fail
 go_at_call 110
 refine(ah H).mono ?_
 rintro e w' ⟨rfl,rfl⟩
 clear H
 go_wp2_with fail
 go_at_call 111
 refine(ah K).mono ?_
 rintro e w' ⟨rfl,h1⟩
 have F:=hide h1
 clear K h1
 go_wp2
 go_ret
 exact⟨rfl,ah F⟩
theorem aeL (g i:Nat)(a:Option Addr)(cap:Nat)(zs:List Int)(S:Nat->Prop)(D:Dev)(w:World)(hD:Dv w S g D)(hi:i<D.n)(hb:¬ D.aaj)(hr:Row w.heap.size w a D.blk cap zs)(ho:Out S D.blk a)(hy:(D.Y i).length<400) :
  Calls Tryz.prog 71 #[.pointer (some ⟨g,0,none⟩),.int .i64 i,.slice a D.blk cap] w fun e w'=>e=.returned (.int .i64 0)/\∃ S',Dv w' S' g (D.eU.add i zs)/\Nx S w S' w':=by
 have H:=jW g i a D.blk cap S D w hD
 rw[yR hi] at H
 replace H:=hide H
 have K:=hide (mQ g S D w hD hb)
 have KW:Hid (∀ w1,Dv w1 S g D.eU->Nx S w S w1->∃ h n,w1.cell? ⟨g,1,none⟩=some (.slice (some ⟨h,0,none⟩) n n)/\i<n/\n<=4096/\∀ o,o=2*i ->
   Calls Tryz.prog 112 #[.pointer (some ⟨h,o,none⟩),.slice a D.blk cap] w1 fun e w'=>e=.returned (.tuple #[])/\∃ S',Dv w' S' g (D.eU.add i zs)/\Nx S w S' w'):=by
  intro w1 hD1 hx
  obtain⟨m,hm⟩:=hD1
  refine⟨m.h,D.n,hm.cells.2.1,hi,hm.ok.n2,fun o ho2=>?_⟩
  refine(ac2 o i m.h a cap zs S g D.eU m w1 hm hi ho2 rfl hy (hr.nx hx ho)).mono ?_
  rintro e w' ⟨e1,S',h1,h2⟩
  exact⟨e1,S',h1,hx.trans h2⟩
 clear hD hb hr ho hy
 generalize D.eU.add i zs=D' at *
 generalize D.eU=D1 at *
 generalize D.blk=bb at *
 go_enter Tryz.func71,Tryz.ntmps71
 go_wp2_with fail
 go_at_call 110
 refine(ah H).mono ?_
 rintro e w' ⟨rfl,rfl⟩
 clear H
 go_wp2_with fail
 go_at_call 111
 refine(ah K).mono ?_
 rintro e w1 ⟨rfl,h1,h2⟩
 obtain⟨h,n,c1,hin,hn,KW2⟩:=ah KW w1 h1 h2
 replace KW:=hide KW2
 clear K h1 h2 KW2
 go_wp2_with fail
 go_at_call 112
 refine(ah KW _ (by omega)).mono ?_
 rintro e w2 ⟨rfl,h3⟩
 have F:=hide h3
 clear KW h3
 go_wp2
 go_ret
 exact⟨rfl,ah F⟩
def Dev.cO (D:Dev) (k:Nat):Dev:={ D with X:=fun i=>if i<k then D.rd i else D.X i,Y:=fun i=>if i<k then [] else D.Y i }
def Dev.flush (D:Dev):Dev:=D.cO D.n
theorem zT (D:Dev):D.cO 0=D:=by cases D;simp[Dev.cO]
theorem abQ (D:Dev)(k:Nat):(D.cO k).settle k ((D.Y k).length:Int)=D.cO (k+1):=by
 unfold Dev.settle
 have hy:(D.cO k).Y k=D.Y k:=by simp[Dev.cO]
 have hx:(D.cO k).X k=D.X k:=by simp[Dev.cO]
 have hp:(D.cO k).pick k ((D.Y k).length:Int)=D.rd k:=by
  unfold Dev.pick Dev.rd
  rw[hy,hx]
  by_cases h0:D.Y k=[]
  ·simp[h0]
  ·have hl:0<(D.Y k).length:=List.length_pos_iff.2 h0
   rw[if_neg (by omega),List.getLast?_eq_getElem?,show min ((D.Y k).length:Int).toNat (D.Y k).length - 1=(D.Y k).length - 1 by omega]
 rw[hp]
 simp only[Dev.cO]
 congr 1
 ·funext j
  by_cases e:j=k
  ·subst e;simp
  ·by_cases e2:j<k
   ·simp[e,e2,show j<k+1 by omega]
   ·simp[e,e2,show ¬ j<k+1 by omega]
 ·funext j
  by_cases e:j=k
  ·subst e;simp
  ·by_cases e2:j<k
   ·simp[e,e2,show j<k+1 by omega]
   ·simp[e,e2,show ¬ j<k+1 by omega]
theorem Dv.at {w S g D}(h:Dv w S g D){k:Nat}(hk:k<D.n) :
  ∃ h' aw cw,w.cell? ⟨g,1,none⟩=some (.slice (some ⟨h',0,none⟩) D.n D.n)/\w.cell? ⟨h',2*k+1,none⟩=some (.slice aw (D.Y k).length cw)/\(∀ o (j:Int),o=2*k->Calls Tryz.prog 113 #[.pointer (some ⟨h',o,none⟩),.int .i64 j] w fun e w'=>e=.returned (.tuple #[])/\Dv w' S g (D.settle k j)/\Nx S w S w'):=by
 obtain⟨m,h⟩:=h
 obtain⟨aw,cw,ew,_⟩:=(h.wai k hk).shape
 refine⟨m.h,aw,cw,h.cells.2.1,?_,fun o j ho=>abg o k m.h j S g D m w h hk ho rfl⟩
 rw[(h.place hk).2.1,ew]
theorem abR (g:Nat)(S:Nat->Prop)(D:Dev)(w:World)(hD:Dv w S g D)(hb:D.aaj) :
  Calls Tryz.prog 72 #[.pointer (some ⟨g,0,none⟩)] w fun e w'=>e=.returned (.int .i64 7)/\Dv w' S g D.die/\Nx S w S w':=by
 have K:=hide (xU g S D w hD hb)
 clear hD hb
 go_enter Tryz.func72,Tryz.ntmps72
 go_wp2_with fail
 go_at_call 111
 refine(ah K).mono ?_
 rintro e w' ⟨rfl,h1⟩
 have F:=hide h1
 clear K h1
 go_wp2
 go_ret
 exact⟨rfl,ah F⟩
theorem aga (g:Nat)(S:Nat->Prop)(D:Dev)(w:World)(hD:Dv w S g D)(hb:¬ D.aaj) :
  Calls Tryz.prog 72 #[.pointer (some ⟨g,0,none⟩)] w fun e w'=>e=.returned (.int .i64 0)/\Dv w' S g D.eU.flush/\Nx S w S w':=by
 have K:=hide (mQ g S D w hD hb)
 have hn:=hD.ok.n2
 have hE:Hid (D.eU.flush=D.eU.cO D.n):=rfl
 obtain⟨nn,hN⟩:∃ nn,nn=D.n:=⟨_,rfl⟩
 have KS:Hid (∀ wr k,k<nn->Dv wr S g (D.eU.cO k)->∃ h' aw cw,wr.cell? ⟨g,1,none⟩=some (.slice (some ⟨h',0,none⟩) nn nn)/\wr.cell? ⟨h',k*2+1,none⟩=some (.slice aw (D.eU.Y k).length cw)/\Hid (Calls Tryz.prog 113 #[.pointer (some ⟨h',k*2,none⟩),.int .i64 ((D.eU.Y k).length:Int)] wr fun e w'=>e=.returned (.tuple #[])/\Dv w' S g (D.eU.cO (k+1))/\Nx S wr S w')):=by
  intro wr k hk h
  obtain⟨h',aw,cw,x1,x2,x3⟩:=h.at (k:=k) (by rw[hN] at hk;exact hk)
  have e1:(D.eU.cO k).n=nn:=by rw[hN];rfl
  have e2:(D.eU.cO k).Y k=D.eU.Y k:=by simp[Dev.cO]
  rw[e1] at x1
  rw[e2,Nat.mul_comm 2 k] at x2
  have x4:=x3 (k*2) ((D.eU.Y k).length:Int) (Nat.mul_comm _ _)
  rw[abQ] at x4
  exact⟨h',aw,cw,x1,x2,x4⟩
 have KC:Hid (∀ wr,Dv wr S g (D.eU.cO 0)->∃ h',wr.cell? ⟨g,1,none⟩=some (.slice (some ⟨h',0,none⟩) nn nn)):=by
  intro wr h
  obtain⟨m,h⟩:=h
  rw[hN]
  exact⟨m.h,h.cells.2.1⟩
 rw[← zT D.eU] at K
 rw[← hN] at hn hE
 clear hb hN hD
 generalize D.eU=D1 at *
 rw[ah hE]
 clear hE
 go_enter Tryz.func72,Tryz.ntmps72
 go_wp2_with fail
 go_at_call 111
 refine(ah K).mono ?_
 rintro e w1 ⟨rfl,h1,h2⟩
 obtain⟨h',c1⟩:=ah KC w1 h1
 have F:=hide h1
 have Nn:=hide h2
 clear K KC h1 h2
 go_upto_region 7 with fail
 clear c1
 go_loopw [18] (fun i wr=>∃ k:Nat,k<=nn/\i=.int .i64 (k:Int)/\Hid (Dv wr S g (D1.cO k))/\Hid (Nx S w S wr)) (fun i _=>nn - (intOf i).toNat)
 case atStart=>exact⟨0,Nat.zero_le _,rfl,F,Nn⟩
 case round =>
  obtain⟨k,hk,rfl,hF,hX⟩:=hrel
  clear F Nn
  by_cases hlt:k<nn
  ·obtain⟨h',aw,cw,x1,x2,x3⟩:=ah KS wr k hlt (ah hF)
   generalize (D1.Y k).length=ly at *
   clear KS
   go_wp2_with fail
   go_at_call 113
   refine(ah x3).mono ?_
   rintro e w2 ⟨rfl,h3,h4⟩
   have F2:=hide h3
   have X2:=hide ((ah hX).trans h4)
   clear x3 h3 h4 hF hX x1 x2
   go_wp2_with fail
   exact⟨⟨k+1,by omega,by go_num,F2,X2⟩,by simp[intOf];omega⟩
  ·obtain rfl:k=nn:=by omega
   clear KS
   go_wp2_with fail
   go_ret
   exact⟨rfl,ah hF,ah hX⟩
theorem jh.amx {w a len zs}(h:jh w a len zs){cap:Nat}(hc:len<=cap)(hl:0<len):jh w (cutAt a cap 1) (len - 1) (zs.drop 1):=by
 refine⟨by simp[h.1],fun hp=>?_⟩
 obtain⟨b,off,rfl,hcs⟩:=h.2 (by omega)
 refine⟨b,off+1,?_,fun j hj=>?_⟩
 ·unfold cutAt
  rw[if_neg (by omega),Option.map_some,Nat.mul_one,World.aF]
 ·rw[Nat.add_assoc,hcs (1+j) (by omega),List.getElem?_drop]
theorem sizeOf3 (w:World):(sizeOf (Tryz.prog.elem 102)).run Tryz.prog w=.ok 1 w:=by kernel_rfl
theorem ak7:Tryz.prog.underlying 102=some (.slice (Tryz.prog.elem 102)):=by kernel_rfl
theorem afk (a:Option Addr)(len cap:Nat)(h:1<=len)(w:World) :
  (Instr.slice 102 (.slice a len cap) (some (.int .i64 1)) none none).run Tryz.prog w=.ok (.slice (cutAt a cap 1) (len - 1) (cap - 1)) w:=by
 have:=run_slice_l (P:=Tryz.prog) (w:=w) 102 a len cap ak7 .i64 1 (by omega) (by omega)
 rw[this,sizeOf3]
 simp only[Result.andThen,sliced]
 simp[cutAt]
def Gr (B:Nat) (w:World) (v:Value) (L:List Int):Prop:=w.ownsRow B 3 1 v L.length (L.map (Value.int .i64))
theorem Gr.own {B w v L}(h:Gr B w v L):∃ a c,v=.slice a L.length c/\qE B w a L.length c L:=by
 obtain⟨h1,h2⟩:=h
 rcases h2 with ⟨rfl,h0⟩ | ⟨g,cap,cur,rfl,hg,hh,h2,h3,hc,ht⟩
 ·exact⟨none,0,by rw[h0],rfl,by omega,by unfold maxLen;omega,.inl ⟨rfl,h0,rfl⟩⟩
 ·exact⟨_,cap,rfl,rfl,h2,h3,.inr ⟨g,cur,rfl,hg,hh,by simpa using hc,by simpa using ht⟩⟩
theorem Gr.shape {B w v L}(h:Gr B w v L):∃ a c,v=.slice a L.length c:=by
 obtain⟨a,c,e,_⟩:=h.own
 exact⟨a,c,e⟩
theorem Gr.later {B}{w w':World}{v L}(h:Gr B w v L)(hb:Below w.heap.size w w'):Gr B w' v L:=by
 refine uf h (fun g cur hg hh=>hb.block g (Array.getElem?_eq_some_iff.1 hh).1)
end Go.Proofs.YtefdkpbmeoakgaaGreatDoor
