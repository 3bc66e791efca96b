/- Joined: GBack, GGet, GPut, GPutAll, CNum, CRef. -/
import Derived.Test.YtefdkpbmeoakgaaGreatDoorDnJ1
import Derived.RangeFuncNested
import Derived.RangeFuncBound
import Derived.RangeFuncCalls
import Derived.RangeFuncLeaves
import Derived.Shelf.Abstract
import Derived.Shelf.RegionOpen
import Derived.OwnWalkIn
import Derived.TacticsInMore
import Derived.LoopNIn
import Derived.LoopIn
/- The contract of slices.Backward at byte slices that are not empty. -/
namespace Go.Proofs.YtefdkpbmeoakgaaGreatDoor
set_option maxRecDepth 100000
set_option maxHeartbeats 8000000
open Go.RowKit Go.Shelf
set_option linter.unusedVariables false
attribute [local go_sem] Oper.semAt_some
abbrev Pt (len:Nat):={ p:Nat×Int // p.1<len/\0<=p.2/\p.2<=255 }
def desc (len k:Nat):List Nat:=(List.range k).map (fun j=>len - 1 - j)
theorem aem (len k:Nat):desc len (k+1)=desc len k++[len - 1 - k]:=by simp[desc,List.range_succ]
def Came (len:Nat) (good:Nat->Int->Prop) (k:Nat) (pre:List (Pt len)):Prop :=
 pre.map (fun x=>x.1.1)=desc len k/\∀ x∈pre,good x.1.1 x.1.2
theorem Came.nil (len:Nat)(good:Nat->Int->Prop):Came len good 0 []:=⟨by simp[desc],by simp⟩
theorem Came.snoc {len:Nat}{good:Nat->Int->Prop}{k:Nat}{pre:List (Pt len)}(h:Came len good k pre)(x:Pt len)(hi:x.1.1=len - 1 - k)(hg:good x.1.1 x.1.2):Came len good (k+1) (pre++[x]):=by
 refine⟨by rw[aem,← h.1,← hi];simp,?_⟩
 intro y hy
 rcases List.mem_append.1 hy with hy | hy
 ·exact h.2 y hy
 ·simp at hy;subst hy;exact hg
theorem Came.length {len:Nat}{good:Nat->Int->Prop}{k:Nat}{pre:List (Pt len)}(h:Came len good k pre):pre.length=k:=by
 have:=congrArg List.length h.1
 simpa [desc] using this
def Reads (Bs b off len cap:Nat) (good:Nat->Int->Prop) (W:World):Prop :=
 W.cell? ⟨Bs,0,none⟩=some (.slice (some ⟨b,off,none⟩) len cap)/\∀ j,j<len->∃ z:Int,0<=z/\z<=255/\good j z/\W.cell? ⟨b,off+j,none⟩=some (.int .u8 z)
theorem ags (F:Fence)(n:Nat)(h34:F.fn 197)(hro:F.round=none)(hn:1<=n)(l Bs b off len cap:Nat)(good:Nat->Int->Prop)(hl:len<=maxLen)(Kp:World->World->Prop)
  (hK:∀ A B,Kp A B->Reads Bs b off len cap good A->Reads Bs b off len cap good B) (J Jx:List (Pt len)->World->Prop)
  (hY:∀ pre x W,J pre W->pre.length<len->YieldAt F (n - 1) Tryz.prog l #[.int .i64 (x.1.1:Int),.int .u8 x.1.2] W fun e W' =>
   (e=.returned (.bool true)/\J (pre++[x]) W'/\Kp W W')\/(e=.returned (.bool false)/\Jx (pre++[x]) W'))
  (W:World) (hR:Reads Bs b off len cap good W) (h0:J [] W) :
  CallsIn F n Tryz.prog 197 #[.func (.yield l) #[] #[],.pointer (some ⟨Bs,0,none⟩)] W fun e W'=>(∃ v,e=.returned v) /\
   ((∃ ys,Came len good len ys/\J ys W')\/(∃ pre,(∃ k,k<=len/\Came len good k pre)/\Jx pre W')):=by
 unfold maxLen at hl
 have hb0:=hR.1
 refine callsIn_of_wp Tryz.func197 rfl h34 ?_ hro
 simp only[Tryz.ntmps197,List.size_toArray,List.length_cons,List.length_nil,Nat.reduceAdd,Nat.reduceSub,Array.replicate_succ,Array.replicate_zero,List.push_toArray,List.append_toArray,List.nil_append,List.cons_append]
 gi_wp2
 gi_loopw [3] (fun i wr=>∃ m:Nat,m<=len/\i=.int .i64 ((m:Int) - 1)/\(∃ pre,Came len good (len - m) pre/\J pre wr)/\Reads Bs b off len cap good wr)
  (fun i _=>(intOf i+1).toNat)
 case atStart=>exact⟨len,Nat.le_refl _,rfl,⟨[],by rw[Nat.sub_self];exact Came.nil _ _,h0⟩,hR⟩
 case round =>
  obtain⟨m,hm,rfl,⟨pre,hpre,hJs⟩,hRs⟩:=hrel
  clear hb0
  by_cases hlt:0<m
  ·obtain⟨z,hz0,hz1,hg,hcz⟩:=hRs.2 (m - 1) (by omega)
   obtain⟨fn,tmps,assign,body,hy,hRd⟩:=hY pre ⟨(m - 1,z),by omega,hz0,hz1⟩ wr hJs (by rw[hpre.length];omega)
   obtain⟨q,rfl⟩:∃ q,m=q+1:=⟨m - 1,by omega⟩
   have hb1:=hRs.1
   simp only[Nat.add_sub_cancel] at hcz hg hRd hy
   have hi:((q+1:Nat):Int) - 1=(q:Int):=by omega
   rw[hi]
   have hq:q<len:=by omega
   gi_wp2
   refine hRd.mono ?_
   rintro e W3 (⟨rfl,hJ3,hk3⟩ | ⟨rfl,hJx3⟩)
   ·gi_wp2
    go_roundw
    case rel=>exact⟨q,by omega,rfl,⟨_,(by have:=hpre.snoc ⟨(q,z),by omega,hz0,hz1⟩ (by simp;omega) hg;rwa [show len - (q+1)+1=len - q by omega] at this),hJ3⟩,hK _ _ hk3 hRs⟩
    case measure=>simp[intOf]
   ·gi_wp2
    refine bodyPost_ret (results_none rfl _ _ _) rfl ?_
    exact⟨⟨_,rfl⟩,.inr ⟨_,⟨len - (q+1)+1,by omega,hpre.snoc ⟨(q,z),by omega,hz0,hz1⟩ (by simp;omega) hg⟩,hJx3⟩⟩
  ·obtain rfl:m=0:=by omega
   gi_wp2
   go_end0
   exact⟨⟨_,rfl⟩,.inl ⟨_,hpre,hJs⟩⟩
theorem ae4 (F:Fence)(n:Nat)(h24:F.fn 167)(hro:F.round=none)(a:Option Addr)(len cap:Nat)(w:World) :
  CallsIn F n Tryz.prog 167 #[.slice a len cap] w fun e w'=>e=.returned (.func (.func 197) #[] #[.pointer (some ⟨w.heap.size,0,none⟩)])/\w'=w.alloc (.cells #[.slice a len cap] 71):=by
 refine callsIn_of_wp Tryz.func167 rfl h24 ?_ hro
 simp only[Tryz.ntmps167,List.size_toArray,List.length_cons,List.length_nil,Nat.reduceAdd,Nat.reduceSub,Array.replicate_succ,Array.replicate_zero,List.push_toArray,List.append_toArray,List.nil_append,List.cons_append]
 gi_wp2
 go_ret
 exact⟨rfl,rfl⟩
theorem sO (F:Fence)(n:Nat)(h34:F.fn 197)(hro:F.round=none)(hn:1<=n)(Bs b off len cap:Nat)(good:Nat->Int->Prop)(hl:len<=maxLen)(w:World)(hBs:Bs<w.heap.size)(hb:b<w.heap.size)
  (Kp:World->World->Prop) (hK:∀ A B,Kp A B->Reads Bs b off len cap good A->Reads Bs b off len cap good B) (hR:Reads Bs b off len cap good w) :
  SeqStopsK F n Tryz.prog 197 #[.pointer (some ⟨Bs,0,none⟩)] (fun x:Pt len=>#[Value.int .i64 (x.1.1:Int),Value.int .u8 x.1.2]) Kp (fun ys=>Came len good len ys)
   (fun pre=>∃ k,k<=len/\Came len good k pre) len w:=fun l J Jx W hW _ _ hY h0=>by
 have hR':Reads Bs b off len cap good W:=⟨(hW.cell (p:=⟨Bs,0,none⟩) hBs).trans hR.1,fun j hj=>by
  obtain⟨z,h1,h2,h3,h4⟩:=hR.2 j hj
  exact⟨z,h1,h2,h3,(hW.cell (p:=⟨b,off+j,none⟩) hb).trans h4⟩⟩
 exact ags F n h34 hro hn l Bs b off len cap good hl Kp hK J Jx hY W hR' h0
attribute [local go_sem] Oper.semAt_some
def ak (zs:List Int) (at' n:Int):Int:=if dO zs.length at' n=0 then num ((zs.drop at'.toNat).take n.toNat) else 0
theorem aey {len:Nat}{l:List Int}{ys:List (Pt len)}(h:Came len (fun j z=>z=l[j]?.getD 0) len ys)(hl:l.length=len):ys.map (fun x=>x.1.2)=l.reverse:=by
 have h1:ys.map (fun x=>x.1.2)=(ys.map (fun x=>x.1.1)).map (fun j=>l[j]?.getD 0):=by
  rw[List.map_map]
  exact List.map_congr_left (fun x hx=>h.2 x hx)
 rw[h1,h.1,desc]
 apply List.ext_getElem
 ·simp[hl]
 ·intro i h2 h3
  have:i<len:=by simpa using h2
  have h4:len - 1 - i<l.length:=by omega
  simp only[List.getElem_map,List.getElem_range,List.getElem_reverse,List.getElem?_eq_getElem h4,Option.getD_some]
  congr 1;omega
theorem aj3 (b off len cap wd at0:Nat)(zs:List Int)(w:World)(hr:Row w.heap.size w (some ⟨b,off,none⟩) len cap zs)(hw:wd=1\/wd=2\/wd=4)(hat:at0+wd<=len) :
  CallsIn Fence.wide 3 Tryz.prog 174 #[.slice (some ⟨b,off,none⟩) len cap,.int .i64 (at0:Int),.int .i64 (wd:Int)] w fun e w' =>
   e=.returned (.tuple #[.int .i64 (num ((zs.drop at0).take wd)),.int .i64 0])/\Below w.heap.size w w':=by
 obtain⟨hlen,hlc,hcm,hby,hcell⟩:=hr
 have he:dO len (at0:Int) (wd:Int)=0:=by
  unfold dO
  rcases hw with rfl | rfl | rfl
  ·rw[if_pos (by omega)];exact dA (by omega) (by omega) (by omega)
  ·rw[if_neg (by omega),if_pos (by omega)];exact dA (by omega) (by omega) (by omega)
  ·rw[if_neg (by omega),if_neg (by omega),if_pos (by omega)];exact dA (by omega) (by omega) (by omega)
 have h1:1<=3:=by omega
 refine callsIn_of_wp_marks Tryz.func174 rfl trivial ?_ rfl
 simp only[Tryz.ntmps174,List.size_toArray,List.length_cons,List.length_nil,Nat.reduceAdd,Nat.reduceSub,Array.replicate_succ,Array.replicate_zero,List.push_toArray,List.append_toArray,List.nil_append,List.cons_append]
 gi_wp2_with (first
  | (refine⟨trivial,?_⟩;gi_at_call 165;refine(callsIn_wide.2 (bU _ _ _ _ _ _ (by unfold maxLen;omega) (by omega))).mono ?_;rintro e w' ⟨rfl,rfl⟩;rw[he])
  | (refine⟨trivial,?_⟩;gi_at_call 167;refine(ae4 _ _ trivial rfl _ _ _ _).mono ?_;rintro e w' ⟨rfl,rfl⟩))
 have bV:=Boxed.new w 3 (.int .i64 0)
 have bN:=Boxed.new (w.alloc (zI 0)) 71 (.slice (some ⟨b,off+at0,none⟩) wd (cap - at0))
 rw[World.size_alloc] at bN
 have hB0:Below w.heap.size w ((w.alloc (zI 0)).alloc (.cells #[.slice (some ⟨b,off+at0,none⟩) wd (cap - at0)] 71)):=((Below.refl _ w).alloc (Nat.le_refl _) _).alloc (by simp) _
 obtain⟨b',off',e,hbl,hcs⟩:=hcell (by omega)
 cases e
 have hR:Reads (w.heap.size+1) b (off+at0) wd (cap - at0) (fun j z=>z=((zs.drop at0).take wd)[j]?.getD 0) ((w.alloc (zI 0)).alloc (.cells #[.slice (some ⟨b,off+at0,none⟩) wd (cap - at0)] 71)):=by
  refine⟨bN.cell,fun j hj=>⟨zs[at0+j]?.getD 0,?_,?_,?_,?_⟩⟩
  ·rw[List.getElem?_eq_getElem (by omega)];exact(hby _ (List.getElem_mem _)).1
  ·rw[List.getElem?_eq_getElem (by omega)];exact(hby _ (List.getElem_mem _)).2
  ·show _=((zs.drop at0).take wd)[j]?.getD 0
   rw[List.getElem?_take_of_lt hj,List.getElem?_drop]
  ·rw[hB0.cell (p:=⟨b,off+at0+j,none⟩) hbl,Nat.add_assoc];exact hcs _ (by omega)
 have ami:∀ pre:List (Pt wd),pre.length<wd->0<=aeJ (pre.map (fun x=>x.1.2))/\aeJ (pre.map (fun x=>x.1.2))<16777216:=by
  intro pre hp
  have hb:=abG (pre.map (fun x=>x.1.2)) (by intro z hz;simp only[List.mem_map] at hz;obtain⟨x,_,rfl⟩:=hz;exact x.2.2)
  refine⟨hb.1,Int.lt_of_lt_of_le hb.2 ?_⟩
  rw[List.length_map]
  have h3:pre.length<=3:=by omega
  have:(256:Int) ^ pre.length<=256 ^ 3:=by exact_mod_cast Nat.pow_le_pow_right (by omega) h3
  omega
 refine wpIn_rangeFunc_ownG rfl h1 (gf:=197) (lb:=#[.pointer (some ⟨w.heap.size+1,0,none⟩)]) rfl trivial (enters_of Tryz.func197 (by kernel_rfl) rfl)
  (sO Fence.wide 2 trivial rfl (by omega) (w.heap.size+1) b (off+at0) wd (cap - at0) (fun j z=>z=((zs.drop at0).take wd)[j]?.getD 0) (by unfold maxLen;omega) _ (by simp) (by simp;omega)
   (fun A B=>Below w.heap.size A B/\B.heap[w.heap.size+1]?=A.heap[w.heap.size+1]?)
   (fun A B hk hr=>⟨(World.cell?_of_block hk.2).trans hr.1,fun j hj=>by
    obtain⟨z,h1,h2,h3,h4⟩:=hr.2 j hj
    exact⟨z,h1,h2,h3,(hk.1.cell (p:=⟨b,off+at0+j,none⟩) hbl).trans h4⟩⟩) hR)
  (fun h k=>⟨h.1.trans k.1,k.2.trans h.2⟩) (fun W l o o' hl h1 h2 h3=>⟨belowK_b (w:=w) (Nat.le_refl _) W l o o' (by simp at hl;omega) h1 h2 h3,World.putObj_heap_other (by simp at hl;omega)⟩) (Below.refl _ _) (fun _=>rfl)
  (fun pre W=>(W.cell? ⟨w.heap.size,0,none⟩=some (.int .i64 (aeJ (pre.map (fun x=>x.1.2))))/\W.frozen? ⟨w.heap.size,0,none⟩=false)/\Below w.heap.size w W)
  (fun _ _ _=>False)
  (OwnFrom.and (Own.from (fun s A B row hs hg hr=>⟨cell_kept hs.1 hg hr,(frozen_kept hs.1 hg hr).trans hs.2⟩) _) (ownFrom_below (Nat.le_refl _) (by simp;omega)))
  (fun _ _ _ _ _ hs _ _=>hs)
  ⟨⟨(bV.alloc _).cell,(bV.alloc _).frozen⟩,hB0⟩
  (fun x=>{ tmps:=#[.slice (some ⟨b,off,none⟩) len cap,.int .i64 at0,.int .i64 wd,undef,undef,undef,.int .i64 0,.int .i64 0,.int .i64 0,.pointer (some ⟨w.heap.size,0,none⟩),undef,.int .u8 x.1.2,
   .slice (some ⟨b,off,none⟩) len cap,.int .i64 at0,.int .i64 wd,.int .i64 0,.int .i64 0,.bool false,undef,.slice (some ⟨b,off,none⟩) len cap,.int .i64 at0,.int .i64 at0,.int .i64 wd,.int .i64 (at0+wd),
   .slice (some ⟨b,off+at0,none⟩) wd (cap - at0),.func (.func 197) #[] #[.pointer (some ⟨w.heap.size+1,0,none⟩)],.int .i64 (x.1.1:Int),.int .u8 x.1.2,undef,undef,undef,undef,undef,undef],defers:=[] }) ?assign ?body ?done ?stop
 case assign =>
  intro l x W K hK
  gi_wp2
  exact hK
 case body =>
  rintro l pre x W ⟨⟨hc,hf⟩,hB⟩ hlt
  have hp:=ami pre hlt
  have hx:=x.2.2
  have ho:=ahw _ _ hp.1 hp.2 hx.1 hx.2
  gi_wp2
  exact⟨(KeepsOthers.setCell _ _ _).from _,⟨(Below.refl w.heap.size W).setCell (p:=⟨w.heap.size,0,none⟩) (Nat.le_refl _) _,Below.heap_setCell _ _ _ _ (by simp)⟩,
   ⟨by rw[List.map_append,List.map_cons,List.map_nil,wQ];exact World.cell?_setCell_same' _ _ _ (by rw[hc];rfl),by rw[World.frozen?_setCell];exact hf⟩,hB.setCell (p:=⟨w.heap.size,0,none⟩) (Nat.le_refl _) _⟩
 case done =>
  rintro D ys W hD hS ⟨⟨hc,_⟩,hB⟩ hK
  gi_wp2
  refine⟨by simp,.inl ⟨_,_,rfl,run_takeDeferred hK,?_⟩⟩
  have hv:aeJ (ys.map (fun x=>x.1.2))=num ((zs.drop at0).take wd):=by rw[aey hS (by simp;omega),nG]
  rw[hv] at *
  refine⟨_,?_,rfl,hB.trans (belowK_b (w:=w) (Nat.le_refl _) W D _ _ (by simp at hD;omega) hK rfl rfl)⟩
  simp[results,Tryz.results174,go_sem]
 case stop =>
  rintro D c pre W _ _ h _
  exact h.elim
theorem adU (a:Option Addr)(len cap:Nat)(at' n:Int)(w:World)(hl:len<=maxLen)(ha:at'<=9223372036854775807)(he:(dO len at' n==0)=false) :
  Calls Tryz.prog 174 #[.slice a len cap,.int .i64 at',.int .i64 n] w fun e w'=>e=.returned (.tuple #[.int .i64 0,.int .i64 (dO len at' n)])/\w=w':=by
 obtain⟨q,hq⟩:∃ q,dO len at' n=q:=⟨_,rfl⟩
 have hc:=bU a len cap at' n w hl ha
 rw[hq] at hc he ⊢
 clear hq
 refine(callsIn_wide (n:=3)).1 ?_
 refine callsIn_of_wp_marks Tryz.func174 rfl trivial ?_ rfl
 simp only[Tryz.ntmps174,List.size_toArray,List.length_cons,List.length_nil,Nat.reduceAdd,Nat.reduceSub,Array.replicate_succ,Array.replicate_zero,List.push_toArray,List.append_toArray,List.nil_append,List.cons_append]
 have hne:(q != 0)=true:=by simpa using he
 have HC:Hid _:=hc
 clear hc
 gi_wp2_with (refine⟨trivial,?_⟩;gi_at_call 165;refine(callsIn_wide.2 HC.out).mono ?_;rintro e w' ⟨rfl,rfl⟩)
 refine⟨_,?_,rfl,rfl⟩
 simp[results,Tryz.results174,go_sem]
theorem get_any (a:Option Addr)(len cap:Nat)(zs:List Int)(at' n:Int)(w:World)(hr:Row w.heap.size w a len cap zs)(ha:at'<=9223372036854775807) :
  Calls Tryz.prog 174 #[.slice a len cap,.int .i64 at',.int .i64 n] w fun e w'=>e=.returned (.tuple #[.int .i64 (ak zs at' n),.int .i64 (dO len at' n)])/\Below w.heap.size w w':=by
 have hlen:=hr.1
 have hcap:=hr.2.2.1
 have hlc:=hr.2.1
 rcases ny len at' n with h | h | ⟨h,at0,wd,rfl,rfl,hw,hat⟩
 ·refine(adU a len cap at' n w (by unfold maxLen;omega) ha (by rw[h];rfl)).mono ?_
  rintro e w' ⟨rfl,rfl⟩
  exact⟨lX (by unfold ak;rw[hlen,h,if_neg (by omega)]) rfl,Below.refl _ _⟩
 ·refine(adU a len cap at' n w (by unfold maxLen;omega) ha (by rw[h];rfl)).mono ?_
  rintro e w' ⟨rfl,rfl⟩
  exact⟨lX (by unfold ak;rw[hlen,h,if_neg (by omega)]) rfl,Below.refl _ _⟩
 ·obtain⟨b,off,rfl,_,_⟩:=hr.2.2.2.2 (by omega)
  refine(callsIn_wide.1 (aj3 b off len cap wd at0 zs w hr hw hat)).mono ?_
  rintro e w' ⟨rfl,hb⟩
  exact⟨lX (by unfold ak;rw[hlen,h,if_pos rfl,Int.toNat_natCast,Int.toNat_natCast]) h.symm,hb⟩
attribute [local go_sem] Oper.semAt_some
def gU (zs:List Int) (at':Nat) (v:Int) (js:List Nat):List Int:=js.foldl (fun l j=>l.set (at'+j) (v / 256 ^ j%256)) zs
theorem yV (zs:List Int)(at':Nat)(v:Int)(js:List Nat)(j:Nat):gU zs at' v (js++[j])=(gU zs at' v js).set (at'+j) (v / 256 ^ j%256):=by simp[gU]
theorem lu (zs:List Int)(at':Nat)(v:Int)(js:List Nat):(gU zs at' v js).length=zs.length:=by
 unfold gU
 induction js generalizing zs with
 | nil=>rfl
 | cons j r ih=>rw[List.foldl_cons,ih];simp
theorem yY (zs:List Int)(at':Nat)(v:Int)(js:List Nat)(h:∀ z∈zs,0<=z/\z<=255):∀ z∈gU zs at' v js,0<=z/\z<=255:=by
 unfold gU
 induction js generalizing zs with
 | nil=>exact h
 | cons j r ih =>
  rw[List.foldl_cons]
  refine ih _ (fun z hz=>?_)
  rcases List.mem_or_eq_of_mem_set hz with hz | rfl
  ·exact h z hz
  ·omega
theorem getElem?ai1 (zs:List Int)(at':Nat)(v:Int)(js:List Nat)(hj:∀ j∈js,at'+j<zs.length)(i:Nat) :
  (gU zs at' v js)[i]?=if at'<=i/\i - at'∈js then some (v / 256 ^ (i - at')%256) else zs[i]?:=by
 unfold gU
 induction js generalizing zs with
 | nil=>simp
 | cons j r ih =>
  rw[List.foldl_cons,ih _ (fun k hk=>by rw[List.length_set];exact hj k (by simp[hk]))]
  have h0:=hj j (by simp)
  by_cases h1:at'<=i/\i - at'∈r
  ·rw[if_pos h1,if_pos ⟨h1.1,by simp[h1.2]⟩]
  ·rw[if_neg h1,List.getElem?_set]
   by_cases h2:at'+j=i
   ·subst h2
    rw[if_pos rfl,if_pos h0,if_pos ⟨by omega,by simp⟩]
    simp
   ·rw[if_neg h2]
    rw[if_neg]
    rintro ⟨h3,h4⟩
    rcases List.mem_cons.1 h4 with h4 | h4
    ·omega
    ·exact h1 ⟨h3,h4⟩
theorem getElem?ai2 (k:Nat):∀ (v:Int) (j:Nat),j<k->(digits k v)[j]?=some (v / 256 ^ j%256):=by
 induction k with
 | zero=>intro v j h;omega
 | succ k ih =>
  intro v j h
  cases j with
  | zero=>simp[digits]
  | succ j =>
   rw[digits,List.getElem?_cons_succ,ih _ _ (by omega),Int.ediv_ediv_of_nonneg (by omega),Int.pow_succ,Int.mul_comm]
theorem yX (zs:List Int)(at' wd:Nat)(v:Int)(h:at'+wd<=zs.length):gU zs at' v (desc wd wd)=put zs at' (digits wd v):=by
 have hm:∀ j,j∈desc wd wd↔j<wd:=by
  intro j
  simp only[desc,List.mem_map,List.mem_range]
  constructor
  ·rintro ⟨k,hk,rfl⟩;omega
  ·intro hj;exact⟨wd - 1 - j,by omega,by omega⟩
 apply List.ext_getElem?
 intro i
 rw[getElem?ai1 _ _ _ _ (fun j hj=>by have:=(hm j).1 hj;omega)]
 by_cases h1:at'<=i/\i - at'∈desc wd wd
 ·rw[if_pos h1]
  have h2:=(hm _).1 h1.2
  have h3:(zs.take at').length=at':=by simp;omega
  rw[put,List.append_assoc,List.getElem?_append_right (by omega),h3,List.getElem?_append_left (by rw[length_digits];omega),getElem?ai2 _ _ _ h2]
 ·rw[if_neg h1,adh _ _ _ _ (by rw[length_digits];omega)]
  rw[length_digits]
  by_cases h2:i<at'
  ·exact .inl h2
  ·refine .inr ?_
   by_cases h3:at'+wd<=i
   ·exact h3
   ·exact absurd ⟨by omega,(hm _).2 (by omega)⟩ h1
theorem aiO (v:Int)(i:Nat)(hi:i<=3):Op.shift BinOp.shr .i64 v .i64 (IntKind.i64.wrap (8*(i:Int)))=pure (.int .i64 (v / 256 ^ i)):=by
 have e:IntKind.i64.wrap (8*(i:Int))=8*(i:Int):=by rw[IntKind.wrap_i64];omega
 rw[e,shift_shr _ _ _ _ (by omega) (by simp[IntKind.bits];omega)]
 have e2:(8*(i:Int)).toNat=8*i:=by omega
 rw[e2,Int.pow_mul]
 rfl
theorem aiZ (b off len cap wd at0 : Nat) (v : Int) (zs : List Int) (w : World) (hr : Row w.heap.size w (some ⟨b, off, none⟩) len cap zs) (hw : wd = 1 \/ wd = 2 \/ wd = 4) (hat : at0 + wd <= len) (hv0 : 0 <= v) (hv1 : v < 256 ^ wd) :
    CallsIn Fence.wide 3 Tryz.prog 124 #[.slice (some ⟨b, off, none⟩) len cap, .int .i64 (at0 : Int), .int .i64 (wd : Int), .int .i64 v] w fun e w' =>
      ∃ g, e = .returned (.tuple #[.slice (some ⟨g, 0, none⟩) len len, .int .i64 0]) /\ w.heap.size <= g /\ Block w' g (put zs at0 (digits wd v)) /\ Below w.heap.size w w' := by
  have he := kV hw hat
  have hra := hr.alloc (zI v)
  obtain ⟨hlen, hlc, hcm, hby, hcell⟩ := hr
  have h1 : 1 <= 3 := by omega
  have hq : v / 2 ^ (8 * wd) = 0 := by
    have e : (2 : Int) ^ (8 * wd) = 256 ^ wd := by rw [Int.pow_mul]; rfl
    rw [e]; exact Int.ediv_eq_zero_of_lt hv0 hv1
  have hvd : decide (v < 0) = false := by simp; omega
  refine callsIn_of_wp_marks Tryz.func124 rfl trivial ?_ rfl
  simp only [Tryz.ntmps124, List.size_toArray, List.length_cons, List.length_nil, Nat.reduceAdd, Nat.reduceSub, Array.replicate_succ, Array.replicate_zero, List.push_toArray, List.append_toArray, List.nil_append, List.cons_append]
  gi_wp2_with (first
    | (refine ⟨trivial, ?_⟩; gi_at_call 165; refine (callsIn_wide.2 (bU _ _ _ _ _ _ (by unfold maxLen; omega) (by omega))).mono ?_; rintro e w' ⟨rfl, rfl⟩; rw [he])
    | (refine ⟨trivial, ?_⟩; gi_at_call 166; refine (callsIn_wide.2 (afp _ _ _ _ _ (w.heap.size + 1) (by simp) hra)).mono ?_; rintro e w2 ⟨rfl, hg2, hb2⟩
       have hvc : w2.cell? ⟨w.heap.size, 0, none⟩ = some (.int .i64 v) := (hb2.cell (p := ⟨w.heap.size, 0, none⟩) (by simp)).trans (Boxed.new w 3 (.int .i64 v)).cell)
    | (refine ⟨trivial, ?_⟩; gi_at_call 167; refine (ae4 _ _ trivial rfl _ _ _ _).mono ?_; rintro e w' ⟨rfl, rfl⟩))
  have ak1 := hg2.out
  have hz2 := ak1.lt
  have hB2 : Below w.heap.size w w2 := ((Below.refl _ w).alloc (Nat.le_refl _) _).trans (hb2.mono (by omega))
  have hV2 : w2.heap[w.heap.size]? = some (.cells #[.int .i64 v] 3 (0, 0)) := (hb2.block _ (by omega)).trans (World.alloc_heap_new w _)
  obtain ⟨W0, hW0⟩ : ∃ W0, (w2.alloc (Obj.cells #[Value.slice (some ⟨w.heap.size + 1, at0, none⟩) wd (len - at0)] 71)).alloc (Obj.cells #[Value.slice (some ⟨w.heap.size + 1, at0, none⟩) wd (len - at0)] 71) = W0 := ⟨_, rfl⟩
  have hsz : W0.heap.size = w2.heap.size + 2 := by rw [← hW0]; simp
  have hb0 : Below w2.heap.size w2 W0 := by rw [← hW0]; exact ((Below.refl _ w2).alloc (Nat.le_refl _) _).alloc (by simp) _
  have hP0 : W0.heap[w2.heap.size]? = some (.cells #[Value.slice (some ⟨w.heap.size + 1, at0, none⟩) wd (len - at0)] 71 (0, 0)) := by
    rw [← hW0, Below.heap_alloc _ _ _ (by simp)]; exact World.alloc_heap_new w2 _
  have hS0 : W0.heap[w2.heap.size + 1]? = some (.cells #[Value.slice (some ⟨w.heap.size + 1, at0, none⟩) wd (len - at0)] 71 (0, 0)) := by
    rw [← hW0]
    have := World.alloc_heap_new (w2.alloc (Obj.cells #[Value.slice (some ⟨w.heap.size + 1, at0, none⟩) wd (len - at0)] 71)) (Obj.cells #[Value.slice (some ⟨w.heap.size + 1, at0, none⟩) wd (len - at0)] 71)
    rwa [World.size_alloc] at this
  have hV0 := (hb0.block _ (by omega)).trans hV2
  have hG0 : Block W0 (w.heap.size + 1) zs := ak1.below hb0 hz2
  have hBB : Below w.heap.size w W0 := hB2.trans (hb0.mono (by omega))
  rw [hW0]
  clear hW0 hvc hV2 hg2 ak1 hra hcell
  have hR : Reads (w2.heap.size + 1) (w.heap.size + 1) at0 wd (len - at0) (fun _ _ => True) W0 :=
    ⟨uK hS0, fun j hj => ⟨zs[at0 + j]?.getD 0, by rw [List.getElem?_eq_getElem (by omega)]; exact (hby _ (List.getElem_mem _)).1, by rw [List.getElem?_eq_getElem (by omega)]; exact (hby _ (List.getElem_mem _)).2, trivial, hG0.cell (by omega)⟩⟩
  refine wpIn_rangeFunc_ownG rfl h1 (gf := 197) (lb := #[.pointer (some ⟨w2.heap.size + 1, 0, none⟩)]) rfl trivial (enters_of Tryz.func197 (by kernel_rfl) rfl)
    (sO Fence.wide 2 trivial rfl (by omega) (w2.heap.size + 1) (w.heap.size + 1) at0 wd (len - at0) (fun _ _ => True) (by unfold maxLen; omega) W0 (by omega) (by omega)
      (fun A B => Below w.heap.size A B /\ B.heap[w2.heap.size + 1]? = A.heap[w2.heap.size + 1]? /\ ((∀ j, j < wd -> ∃ z : Int, 0 <= z /\ z <= 255 /\ A.cell? ⟨w.heap.size + 1, at0 + j, none⟩ = some (.int .u8 z)) -> (∀ j, j < wd -> ∃ z : Int, 0 <= z /\ z <= 255 /\ B.cell? ⟨w.heap.size + 1, at0 + j, none⟩ = some (.int .u8 z))))
      (fun A B hk hr => ⟨(World.cell?_of_block hk.2.1).trans hr.1, fun j hj => by
        obtain ⟨z, z1, z2, z3⟩ := hk.2.2 (fun j hj => by obtain ⟨z, z1, z2, _, z3⟩ := hr.2 j hj; exact ⟨z, z1, z2, z3⟩) j hj
        exact ⟨z, z1, z2, trivial, z3⟩⟩) hR)
    (fun h k => ⟨h.1.trans k.1, k.2.1.trans h.2.1, fun x => k.2.2 (h.2.2 x)⟩)
    (fun W l o o' hl g1 g2 g3 => ⟨belowK_b (w := w) (Nat.le_refl _) W l o o' (by omega) g1 g2 g3, World.putObj_heap_other (by omega), fun x j hj => by
      obtain ⟨z, z1, z2, z3⟩ := x j hj
      exact ⟨z, z1, z2, (World.cell?_of_block (World.putObj_heap_other (by show w.heap.size + 1 ≠ l; omega))).trans z3⟩⟩) (Below.refl _ _) (fun _ => rfl)
    (fun pre W => (W.heap[w.heap.size]? = some (.cells #[.int .i64 v] 3 (0, 0)) /\ W.heap[w2.heap.size]? = some (.cells #[Value.slice (some ⟨w.heap.size + 1, at0, none⟩) wd (len - at0)] 71 (0, 0)) /\
      Block W (w.heap.size + 1) (gU zs at0 v (pre.map (fun x => x.1.1)))) /\ Below w.heap.size w W)
    (fun _ _ _ => False)
    (OwnFrom.and (Own.from (fun s A B row hs hg hr => ⟨pV hs.1 hg hr, pV hs.2.1 hg hr, pV hs.2.2 hg hr⟩) _) (ownFrom_below (Nat.le_refl _) (by omega)))
    (fun _ _ _ _ _ hs _ _ => hs)
    ⟨⟨hV0, hP0, hG0⟩, hBB⟩
    (fun x => { tmps := #[.slice (some ⟨b, off, none⟩) len cap, .int .i64 at0, .int .i64 wd, .int .i64 v, undef, undef, undef, .pointer (some ⟨w.heap.size, 0, none⟩), .slice none 0 0, .int .i64 0, .int .i64 0, .slice (some ⟨w.heap.size + 1, 0, none⟩) len len,
      .pointer (some ⟨w2.heap.size, 0, none⟩), .int .i64 (x.1.1 : Int), .slice (some ⟨b, off, none⟩) len cap, .int .i64 at0, .int .i64 wd, .int .i64 0, .int .i64 0, .bool false, undef, .int .i64 v, .bool false, .bool false, .int .i64 v, .int .i64 wd,
      .int .i64 (8 * wd), .int .i64 0, .bool false, .bool false, .slice (some ⟨b, off, none⟩) len cap, .slice (some ⟨w.heap.size + 1, 0, none⟩) len len, .slice (some ⟨w.heap.size + 1, 0, none⟩) len len, .int .i64 at0, .int .i64 at0, .int .i64 wd, .int .i64 (at0 + wd),
      .slice (some ⟨w.heap.size + 1, at0, none⟩) wd (len - at0), .slice (some ⟨w.heap.size + 1, at0, none⟩) wd (len - at0), .func (.func 197) #[] #[.pointer (some ⟨w2.heap.size + 1, 0, none⟩)], .int .i64 (x.1.1 : Int), .int .u8 x.1.2,
      undef, undef, undef, undef, undef, undef, undef, undef, undef], defers := [] }) ?assign ?body ?done ?stop
  case assign =>
    intro l x W K hK
    gi_wp2
    exact hK
  case body =>
    rintro l pre x W ⟨⟨hV, hP, hG⟩, hB⟩ hlt
    have hx := x.2
    obtain ⟨⟨i, z⟩, hi, hz⟩ := x
    dsimp only at hx hi hz ⊢
    have hlen2 : (gU zs at0 v (pre.map (fun x => x.1.1))).length = len := by rw [lu]; exact hlen
    have hcv := uK hV
    have hcp := uK hP
    have hcg := hG.cell (i := at0 + i) (by omega)
    have hfg := hG.free (at0 + i)
    have hi8 : i <= 3 := by omega
    have hsh := aiO v i hi8
    have hmx : Tryz.prog.follows .mixedOrders = true := by kernel_rfl
    have hset := hG.set (at0 + i) (v / 256 ^ i % 256)
    have hfin : KeepsFrom W0.heap.size W (W.setCell ⟨w.heap.size + 1, at0 + i, none⟩ (.int .u8 (IntKind.u8.wrap (v / 256 ^ i)))).drew /\
        (Below w.heap.size W (W.setCell ⟨w.heap.size + 1, at0 + i, none⟩ (.int .u8 (IntKind.u8.wrap (v / 256 ^ i)))).drew /\
          (W.setCell ⟨w.heap.size + 1, at0 + i, none⟩ (.int .u8 (IntKind.u8.wrap (v / 256 ^ i)))).drew.heap[w2.heap.size + 1]? = W.heap[w2.heap.size + 1]? /\
          ((∀ j, j < wd -> ∃ z : Int, 0 <= z /\ z <= 255 /\ W.cell? ⟨w.heap.size + 1, at0 + j, none⟩ = some (.int .u8 z)) -> (∀ j, j < wd -> ∃ z : Int, 0 <= z /\ z <= 255 /\ (W.setCell ⟨w.heap.size + 1, at0 + i, none⟩ (.int .u8 (IntKind.u8.wrap (v / 256 ^ i)))).drew.cell? ⟨w.heap.size + 1, at0 + j, none⟩ = some (.int .u8 z)))) /\
        (((W.setCell ⟨w.heap.size + 1, at0 + i, none⟩ (.int .u8 (IntKind.u8.wrap (v / 256 ^ i)))).drew.heap[w.heap.size]? = some (.cells #[.int .i64 v] 3 (0, 0)) /\
          (W.setCell ⟨w.heap.size + 1, at0 + i, none⟩ (.int .u8 (IntKind.u8.wrap (v / 256 ^ i)))).drew.heap[w2.heap.size]? = some (.cells #[Value.slice (some ⟨w.heap.size + 1, at0, none⟩) wd (len - at0)] 71 (0, 0)) /\
          Block (W.setCell ⟨w.heap.size + 1, at0 + i, none⟩ (.int .u8 (IntKind.u8.wrap (v / 256 ^ i)))).drew (w.heap.size + 1) (gU zs at0 v ((pre ++ [(⟨(i, z), hx⟩ : Pt wd)]).map (fun x => x.1.1)))) /\
          Below w.heap.size w (W.setCell ⟨w.heap.size + 1, at0 + i, none⟩ (.int .u8 (IntKind.u8.wrap (v / 256 ^ i)))).drew) := by
      rw [IntKind.wrap_u8']
      have hblk : Block (W.setCell ⟨w.heap.size + 1, at0 + i, none⟩ (.int .u8 (v / 256 ^ i % 256))).drew (w.heap.size + 1) (gU zs at0 v ((pre ++ [(⟨(i, z), hx⟩ : Pt wd)]).map (fun x => x.1.1))) := by
        rw [List.map_append, List.map_cons, List.map_nil, yV]; exact hset
      refine ⟨((KeepsOthers.setCell _ _ _).trans (KeepsOthers.drew _)).from _, ⟨((Below.refl w.heap.size W).setCell (p := ⟨w.heap.size + 1, at0 + i, none⟩) (by simp) _).drew, ?_, ?_⟩, ⟨?_, ?_, hblk⟩, (hB.setCell (p := ⟨w.heap.size + 1, at0 + i, none⟩) (by simp) _).drew⟩
      · exact Below.heap_setCell _ _ _ _ (by show w2.heap.size + 1 ≠ w.heap.size + 1; omega)
      · intro _ j hj
        have hb := yY zs at0 v ((pre ++ [(⟨(i, z), hx⟩ : Pt wd)]).map (fun x => x.1.1)) hby
        have hl : at0 + j < (gU zs at0 v ((pre ++ [(⟨(i, z), hx⟩ : Pt wd)]).map (fun x => x.1.1))).length := by rw [lu]; omega
        have hc := hblk.cell hl
        rw [List.getElem?_eq_getElem hl] at hc
        exact ⟨_, (hb _ (List.getElem_mem hl)).1, (hb _ (List.getElem_mem hl)).2, hc⟩
      · exact (Below.heap_setCell _ _ _ _ (by show w.heap.size ≠ w.heap.size + 1; omega)).trans hV
      · exact (Below.heap_setCell _ _ _ _ (by show w2.heap.size ≠ w.heap.size + 1; omega)).trans hP
    clear hV hP hG hB hR hBB hG0 hV0 hS0 hP0 hb0 hB2 hset hlen2 he hvd hq hby hsz hz2 hb2 hlt hi8
    have HF := hide hfin
    clear hfin
    gi_wp2
    gi_region_with_o fail
    all_goals exact ah HF
  case done =>
    rintro D ys W hD hS ⟨⟨_, _, hG⟩, hB⟩ hK
    gi_wp2
    refine ⟨by simp, .inl ⟨_, _, rfl, run_takeDeferred hK, ?_⟩⟩
    rw [hS.1, yX _ _ _ _ (by omega)] at hG
    refine ⟨_, ?_, w.heap.size + 1, rfl, by omega, ?_, hB.trans (belowK_b (w := w) (Nat.le_refl _) W D _ _ (by omega) hK rfl rfl)⟩
    · simp [results, Tryz.results124, go_sem]
    · unfold Block at *
      rw [World.putObj_heap_other (by omega)]; exact hG
  case stop =>
    rintro D c pre W _ _ h _
    exact h.elim
attribute [local go_sem] Oper.semAt_some
def iy (len:Nat) (at' n v:Int):Int:=if dO len at' n=0 then (if v<0 then 3 else if v<256 ^ n.toNat then 0 else 3) else dO len at' n
theorem adi (a:Option Addr)(len cap:Nat)(at' n v:Int)(w:World)(hl:len<=maxLen)(ha:at'<=9223372036854775807)(he:(dO len at' n==0)=false) :
  Calls Tryz.prog 124 #[.slice a len cap,.int .i64 at',.int .i64 n,.int .i64 v] w fun e w'=>e=.returned (.tuple #[.slice none 0 0,.int .i64 (dO len at' n)])/\Below w.heap.size w w':=by
 obtain⟨q,hq⟩:∃ q,dO len at' n=q:=⟨_,rfl⟩
 have hc:=fun w=>bU a len cap at' n w hl ha
 rw[hq] at hc he ⊢
 clear hq
 refine(callsIn_wide (n:=3)).1 ?_
 refine callsIn_of_wp_marks Tryz.func124 rfl trivial ?_ rfl
 simp only[Tryz.ntmps124,List.size_toArray,List.length_cons,List.length_nil,Nat.reduceAdd,Nat.reduceSub,Array.replicate_succ,Array.replicate_zero,List.push_toArray,List.append_toArray,List.nil_append,List.cons_append]
 have hne:(q != 0)=true:=by simpa using he
 have HC:=hide hc
 clear hc
 gi_wp2_with (refine⟨trivial,?_⟩;gi_at_call 165;refine(callsIn_wide.2 (ah HC _)).mono ?_;rintro e w' ⟨rfl,rfl⟩)
 refine⟨_,?_,rfl,(Below.refl _ w).alloc (Nat.le_refl _) _⟩
 simp[results,Tryz.results124,go_sem]
theorem yI (v:Int)(wd:Nat)(hw:wd<=4):v / 2 ^ (8*wd)=v / 256 ^ wd:=by
 rw[Int.pow_mul];rfl
theorem ahr (a:Option Addr)(len cap at0 wd:Nat)(v:Int)(w:World)(hcm:len<=140737488351232)(hw:wd=1\/wd=2\/wd=4)(hat:at0+wd<=len)(hv:v<0\/256 ^ wd<=v) :
  Calls Tryz.prog 124 #[.slice a len cap,.int .i64 (at0:Int),.int .i64 (wd:Int),.int .i64 v] w fun e w'=>e=.returned (.tuple #[.slice none 0 0,.int .i64 3])/\Below w.heap.size w w':=by
 have he:=kV hw hat
 by_cases h0:v<0
 ·have hvd:decide (v<0)=true:=by simpa using h0
  refine(callsIn_wide (n:=3)).1 ?_
  refine callsIn_of_wp_marks Tryz.func124 rfl trivial ?_ rfl
  simp only[Tryz.ntmps124,List.size_toArray,List.length_cons,List.length_nil,Nat.reduceAdd,Nat.reduceSub,Array.replicate_succ,Array.replicate_zero,List.push_toArray,List.append_toArray,List.nil_append,List.cons_append]
  gi_wp2_with (refine⟨trivial,?_⟩;gi_at_call 165;refine(callsIn_wide.2 (bU _ _ _ _ _ _ (by unfold maxLen;omega) (by omega))).mono ?_;rintro e w' ⟨rfl,rfl⟩;rw[he])
  refine⟨_,?_,rfl,(Below.refl _ w).alloc (Nat.le_refl _) _⟩
  simp[results,Tryz.results124,go_sem]
 ·have hvd:decide (v<0)=false:=by simpa using h0
  have hge:256 ^ wd<=v:=by omega
  have hpos:(0:Int)<256 ^ wd:=Int.pow_pos (by omega)
  obtain⟨q,hq⟩:∃ q,v / 2 ^ (8*wd)=q:=⟨_,rfl⟩
  have hq0:(q==0)=false:=by
   have:1<=q:=by
    rw[← hq,yI v wd (by omega)]
    exact(Int.le_ediv_iff_mul_le hpos).2 (by omega)
   simp;omega
  have hq1:(q != 0)=true:=by simpa using hq0
  refine(callsIn_wide (n:=3)).1 ?_
  refine callsIn_of_wp_marks Tryz.func124 rfl trivial ?_ rfl
  simp only[Tryz.ntmps124,List.size_toArray,List.length_cons,List.length_nil,Nat.reduceAdd,Nat.reduceSub,Array.replicate_succ,Array.replicate_zero,List.push_toArray,List.append_toArray,List.nil_append,List.cons_append]
  gi_wp2_with (refine⟨trivial,?_⟩;gi_at_call 165;refine(callsIn_wide.2 (bU _ _ _ _ _ _ (by unfold maxLen;omega) (by omega))).mono ?_;rintro e w' ⟨rfl,rfl⟩;rw[he])
  refine⟨_,?_,rfl,(Below.refl _ w).alloc (Nat.le_refl _) _⟩
  simp[results,Tryz.results124,go_sem]
theorem put_any (a : Option Addr) (len cap : Nat) (zs : List Int) (at' n v : Int) (w : World) (hr : Row w.heap.size w a len cap zs) (ha : at' <= 9223372036854775807) :
    Calls Tryz.prog 124 #[.slice a len cap, .int .i64 at', .int .i64 n, .int .i64 v] w fun e w' => Below w.heap.size w w' /\
      ((iy len at' n v ≠ 0 /\ e = .returned (.tuple #[.slice none 0 0, .int .i64 (iy len at' n v)])) \/
       (iy len at' n v = 0 /\ ∃ g, e = .returned (.tuple #[.slice (some ⟨g, 0, none⟩) len len, .int .i64 0]) /\ w.heap.size <= g /\ Block w' g (put zs at'.toNat (digits n.toNat v)))) := by
  have hlen := hr.1
  have hcap := hr.2.2.1
  have hlc := hr.2.1
  rcases ny len at' n with h | h | ⟨h, at0, wd, rfl, rfl, hw, hat⟩
  · refine (adi a len cap at' n v w (by unfold maxLen; omega) ha (by rw [h]; rfl)).mono ?_
    rintro e w' ⟨rfl, hb⟩
    have : iy len at' n v = 1 := by unfold iy; rw [h, if_neg (by omega)]
    exact ⟨hb, .inl ⟨by omega, yQ (by omega)⟩⟩
  · refine (adi a len cap at' n v w (by unfold maxLen; omega) ha (by rw [h]; rfl)).mono ?_
    rintro e w' ⟨rfl, hb⟩
    have : iy len at' n v = 2 := by unfold iy; rw [h, if_neg (by omega)]
    exact ⟨hb, .inl ⟨by omega, yQ (by omega)⟩⟩
  · by_cases hv : v < 0 \/ 256 ^ wd <= v
    · refine (ahr a len cap at0 wd v w (by omega) hw hat hv).mono ?_
      rintro e w' ⟨rfl, hb⟩
      have : iy len at0 wd v = 3 := by
        unfold iy
        rw [if_pos h, Int.toNat_natCast]
        by_cases h0 : v < 0
        · rw [if_pos h0]
        · rw [if_neg h0, if_neg (by omega)]
      exact ⟨hb, .inl ⟨by omega, yQ (by omega)⟩⟩
    · obtain ⟨b, off, rfl, _, _⟩ := hr.2.2.2.2 (by omega)
      have : iy len at0 wd v = 0 := by
        unfold iy
        rw [if_pos h, Int.toNat_natCast, if_neg (by omega), if_pos (by omega)]
      refine (callsIn_wide.1 (aiZ b off len cap wd at0 v zs w hr hw hat (by omega) (by omega))).mono ?_
      rintro e w' ⟨g, rfl, hg, hB, hb⟩
      exact ⟨hb, .inr ⟨this, g, rfl, hg, by rw [Int.toNat_natCast, Int.toNat_natCast]; exact hB⟩⟩
theorem afv (a:Option Addr)(len cap:Nat)(zs:List Int)(at' n v:Int)(w:World)(hr:Row w.heap.size w a len cap zs)(ha:at'<=9223372036854775807)(hq:iy len at' n v=0) :
  Calls Tryz.prog 124 #[.slice a len cap,.int .i64 at',.int .i64 n,.int .i64 v] w fun e w'=>∃ g,e=.returned (.tuple #[.slice (some ⟨g,0,none⟩) len len,.int .i64 0])/\w.heap.size<=g/\Block w' g (put zs at'.toNat (digits n.toNat v))/\Below w.heap.size w w':=by
 refine(put_any a len cap zs at' n v w hr ha).mono ?_
 rintro e w' ⟨hb,⟨h,_⟩ | ⟨_,g,rfl,hg,hB⟩⟩
 ·exact absurd hq h
 ·exact⟨g,rfl,hg,hB,hb⟩
def aH (wd:Nat) (ns:List Int):List Int:=(ns.map (digits wd)).flatten
theorem abz (wd:Nat)(ns:List Int)(k:Nat)(hk:k<ns.length):aH wd (ns.take (k+1))=aH wd (ns.take k)++digits wd (ns[k]?.getD 0):=by
 rw[aH,List.take_succ_eq_append_getElem hk,List.getElem?_eq_getElem hk,List.map_append,List.flatten_append]
 simp only[aH,List.map_cons,List.map_nil,List.flatten_cons,List.flatten_nil,List.append_nil,Option.getD_some]
theorem jB (wd:Nat)(ns:List Int):(aH wd ns).length=wd*ns.length:=by
 induction ns with
 | nil=>rfl
 | cons x xs ih =>
  have:aH wd (x::xs)=digits wd x++aH wd xs:=by simp[aH]
  rw[this,List.length_append,length_digits,ih,List.length_cons,Nat.mul_succ];omega
theorem iJ (wd:Nat)(ns:List Int):∀ z∈aH wd ns,0<=z/\z<=255:=by
 intro z hz
 simp only[aH,List.mem_flatten,List.mem_map] at hz
 obtain⟨l,⟨v,_,rfl⟩,hz⟩:=hz
 exact qp wd v z hz
theorem oV (wd:Nat)(hw:wd=1\/wd=2\/wd=4)(a:Option Addr)(len cap:Nat)(ns:List Int)(w:World)(h:jh w a len ns)(hl:len<=65536)(hf:iD wd ns=true)(M:Nat)(hM:M=wd*len) :
  Calls Tryz.prog 82 #[.int .i64 (wd:Int),.slice a len cap] w fun e w'=>∃ a' c',e=.returned (.slice a' M c')/\Hid (Own w.heap.size w' a' M c' (aH wd ns))/\Below w.heap.size w w':=by
 have hM1:M<=262144:=by rcases hw with rfl | rfl | rfl<;>omega
 have hMi:(wd:Int)*(len:Int)=(M:Int):=by rw[hM];simp
 obtain⟨i0,hi,hz0,hz1,hz2⟩:=info_parts info5
 have amk:∀ w:World,(Instr.makeSlice 71 (.int .i64 0) (.int .i64 (M:Int))).run Tryz.prog w=.ok (.slice (some ⟨w.heap.size,0,none⟩) 0 M) (w.alloc (.cells (madeCells #[.int .u8 0] M) 5)):=by
  intro w
  have:=run_make (P:=Tryz.prog) w 71 5 i0 (.int .u8 0) Tryz.underlying71 hi hz0 .i64 .i64 0 (M:Int) (by omega) (by omega) (by rw[hz2];omega) (by omega)
  rw[this,hz1,show ((M:Nat):Int).toNat=M by omega,Nat.mul_one]
  rfl
 have hmk:=run_make_row' (P:=Tryz.prog) 71 5 (.int .u8 0) 1 Tryz.underlying71 info5 rfl .i64 .i64 wd (by omega) (by omega)
 have hb0:Below w.heap.size w (w.alloc (.cells (madeCells #[.int .u8 0] M) 5)):=(Below.refl _ w).alloc (Nat.le_refl _) _
 have HO:Hid (Own w.heap.size (w.alloc (.cells (madeCells #[.int .u8 0] M) 5)) (some ⟨w.heap.size,0,none⟩) 0 M (aH wd (ns.take 0))) :=
  ⟨rfl,by omega,by unfold maxLen;omega,.inr ⟨w.heap.size,_,rfl,Nat.le_refl _,World.alloc_heap_new w _,by rw[← Array.length_toList,toList_madeCells_one,List.length_replicate],by simp[aH]⟩⟩
 have H:=hide h
 have hlen:=h.1
 have HF:=hide (dR.1 hf)
 have HM:=hide hM
 have HW:=hide hw
 have hw4:wd<=4:=by omega
 clear h hf hi hz0 hz1 hz2 i0 hM hw
 go_enter Tryz.func82,Tryz.ntmps82
 go_wp2
 go_loopw [5,17] (fun out i wr=>∃ (k m:Nat) (a:Option Addr) (c:Nat),k<=len/\i=.int .i64 (k:Int)/\out=.slice a m c/\Hid (m=wd*k/\Own w.heap.size wr a m c (aH wd (ns.take k)))/\Hid (Below w.heap.size w wr)) (fun _ i _=>len - (intOf i).toNat)
 case atStart=>exact⟨0,0,_,_,Nat.zero_le _,rfl,rfl,⟨rfl,HO⟩,hb0⟩
 case round =>
  obtain⟨k,m,a1,c1,hk,rfl,rfl,hO,hbk⟩:=hrel
  clear HO amk hb0
  by_cases hlt:k<len
  ·obtain⟨b,off,rfl,hc⟩:=(H.out.later hbk.out).2 (by omega)
   have hck:=hc k hlt
   have hv:=HF.out (ns[k]?.getD 0) (by rw[List.getElem?_eq_getElem (by omega)];exact List.getElem_mem _)
   have hsu:=abz wd ns k (by omega)
   generalize ns[k]?.getD 0=z at *
   have K:Hid (Calls Tryz.prog 124 #[.slice (some ⟨wr.heap.size,0,none⟩) wd wd,.int .i64 0,.int .i64 (wd:Int),.int .i64 z] (wr.alloc (.cells (madeCells #[.int .u8 0] wd) 5)) fun e w'=>∃ g,e=.returned (.tuple #[.slice (some ⟨g,0,none⟩) wd wd,.int .i64 0])/\∃ a2 c2 w2,(∀ ty,(Builtin.append_ #[71,71] ty #[.slice a1 m c1,.slice (some ⟨g,0,none⟩) wd wd]).run Tryz.prog w'=.ok (.slice a2 (m+wd) c2) w2)/\Hid (m+wd=wd*(k+1)/\Own w.heap.size w2 a2 (m+wd) c2 (aH wd (ns.take (k+1))))/\Hid (Below w.heap.size w w2)):=by
    have hb1:Below wr.heap.size wr (wr.alloc (.cells (madeCells #[.int .u8 0] wd) 5)):=(Below.refl _ wr).alloc (Nat.le_refl _) _
    have hrow:=(oW wr wd).row (len:=wd) (by simp) (by omega) (by intro z hz;rw[List.eq_of_mem_replicate hz];omega)
    have hq:iy wd 0 (wd:Int) z=0:=by
     unfold iy
     have:=kV (len:=wd) (at0:=0) (wd:=wd) HW.out (by omega)
     rw[show ((0:Nat):Int)=0 from rfl] at this
     rw[if_pos this,if_neg (by omega),Int.toNat_natCast,if_pos hv.2]
    refine(afv _ wd wd _ 0 wd z _ hrow (by omega) hq).mono ?_
    rintro e w' ⟨g,rfl,hg,hB,hb⟩
    rw[show (0:Int).toNat=0 from rfl,Int.toNat_natCast] at hB
    have hpw:put (List.replicate wd 0) 0 (digits wd z)=digits wd z:=by simp[put,length_digits]
    rw[hpw] at hB
    have hbw:Below wr.heap.size wr w':=hb1.trans (hb.mono (by simp))
    have hbb:Below w.heap.size w w':=hbk.out.trans (hbw.mono hbk.out.size)
    have hml:m+wd<=140737488355328:=by
     have:=hO.out.1
     have:wd*k<=4*65536:=Nat.mul_le_mul hw4 (by omega)
     omega
    obtain⟨a2,c2,w2,r2,o2,_,b2⟩:=jg (hO.out.2.below hbw (Nat.le_refl _)) hbb.size wd (hB.has (len:=wd) (length_digits _ _)) hml
    refine⟨g,rfl,a2,c2,w2,r2,⟨by rw[hO.out.1,Nat.mul_succ],?_⟩,hbb.trans b2⟩
    rw[hsu];exact o2
   clear hc hsu hv hO hbk HM
   go_wp2_with (first
    | (go_at_call 124;refine(ah K).mono ?_;rintro e w' ⟨g,rfl,a2,c2,w2,r2,hO2,hb2⟩;have R2:=hide r2;clear r2 K)
    | (at_builtin;refine wpList_append_run 71 rfl _ _ rfl _ _ _ rfl rfl (ah R2) ?_;clear R2))
   exact⟨⟨k+1,m+wd,a2,c2,by omega,by go_num,rfl,hO2,hb2⟩,by simp[intOf];omega⟩
  ·obtain rfl:k=len:=by omega
   have e:ns.take k=ns:=List.take_of_length_le (by omega)
   have HR:Hid (Own w.heap.size wr a1 M c1 (aH wd ns)):=by
    have h1:=hO.out.1
    have h2:=hO.out.2
    rw[← HM.out] at h1
    subst h1
    rw[e] at h2
    exact h2
   obtain rfl:m=M:=hO.out.1.trans HM.out.symm
   go_wp2
   go_ret
   exact⟨a1,c1,rfl,HR,hbk.out⟩
theorem tH {xs ys:List Int}(hx:∀ z∈xs,0<=z/\z<=255)(hy:∀ z∈ys,0<=z/\z<=255)(h:strOfNums xs=strOfNums ys):xs=ys:=by
 have h2:=congrArg iF h
 have back:∀ zs:List Int,(∀ z∈zs,0<=z/\z<=255)->iF (strOfNums zs)=zs:=by
  intro zs hz
  apply List.ext_getElem
  ·simp[iF,strOfNums]
  ·intro i h1 h2
   have:=hz zs[i] (List.getElem_mem _)
   simp[iF,strOfNums]
   omega
 rwa [back xs hx,back ys hy] at h2
theorem tC {xs ys:List Int}(hx:∀ z∈xs,0<=z/\z<=255)(hy:∀ z∈ys,0<=z/\z<=255):((strOfNums xs).toList==(strOfNums ys).toList)=decide (xs=ys):=by
 by_cases h:xs=ys
 ·subst h;simp
 ·have h2:(strOfNums xs).toList≠(strOfNums ys).toList:=fun e=>by
   rw[ByteArray.toList_eq,ByteArray.toList_eq] at e
   exact h (tH hx hy (ByteArray.ext (Array.toList_inj.1 e)))
  rw[decide_eq_false h]
  exact beq_false_of_ne h2
theorem lH (a1 a2:Option Addr)(l1 c1 l2 c2:Nat)(xs ys:List Int)(w:World)(h1:Has w a1 l1 xs)(h2:Has w a2 l2 ys)(hx:∀ z∈xs,0<=z/\z<=255)(hy:∀ z∈ys,0<=z/\z<=255) :
  Calls Tryz.prog 143 #[.slice a1 l1 c1,.slice a2 l2 c2] w fun e w'=>e=.returned (.bool (decide (xs=ys)))/\w=w':=by
 have e1:=h1.conv c1
 have e2:=h2.conv c2
 have e3:=hide (tC hx hy)
 clear h1 h2 hx hy
 go_enter Tryz.func143,Tryz.ntmps143
 go_wp2
 go_ret
 exact⟨kP e3.out,rfl⟩
theorem uD (a:Option Addr)(len cap:Nat)(zs:List Int)(at' n:Int)(w:World)(hr:Row w.heap.size w a len cap zs)(ha:at'<=9223372036854775807) :
  Calls Tryz.prog 157 #[.slice a len cap,.int .i64 at',.int .i64 n] w fun e w'=>e=.returned (.int .i64 (ak zs at' n))/\Below w.heap.size w w':=by
 have K:=hide (get_any a len cap zs at' n w hr ha)
 generalize ak zs at' n=v at *
 generalize dO len at' n=q at *
 clear hr ha
 go_enter Tryz.func157,Tryz.ntmps157
 go_wp2_with (go_at_call 174;refine(ah K).mono ?_;rintro e w' ⟨rfl,hb⟩)
 go_ret
 exact⟨rfl,hb⟩
end Go.Proofs.YtefdkpbmeoakgaaGreatDoor
