/- Joined: WKeys, WList, WJ, WPart, WPend, WRefl. -/
import Derived.Test.YtefdkpbmeoakgaaGreatDoorDnJ7
import Derived.Test.YtefdkpbmeoakgaaGreatDoorDnJ19
import Derived.Shelf.SlIterI.Nil
import Derived.Shelf.SlicesG.CompactI
import Derived.Test.YtefdkpbmeoakgaaGreatDoorDnWHead
import Derived.Test.YtefdkpbmeoakgaaGreatDoorDnJ2
/- slices.Sorted(maps.Keys(m)) of a map of rows, and slices.Compact of sorted numbers. -/
namespace Go.Proofs.YtefdkpbmeoakgaaGreatDoor
set_option maxRecDepth 100000
set_option maxHeartbeats 8000000
open Go.RowKit Go.Shelf Go.Maps Go.Sort
set_option linter.unusedVariables false
shelf_lay_g SlLaysZI.n7 Ggz 7 at Tryz 218 as Tryz.keysL
shelf_lay_g SlLaysN.n43 Slgn 43 at Tryz 164 as Tryz.compL
theorem aiN (m:Nat):AnyZI.SortsIn Tryz.prog Tryz.sortedL_ren Fence.wide m :=
 ⟨fun blk off cap ss W hH hblk hsz=>callsIn_wide.2 (AnyM.slices_Sort_int Tryz.sortL blk off cap ss W hH hblk hsz),
  fun p cap W=>callsIn_wide.2 (AnyM.slices_Sort_int_none Tryz.sortL p cap W)⟩
def l7 (n:Nat) (M:Nat->Option (Nat×Nat)):List Int:=(keysB n M).map (fun k:Nat=>(k:Int))
theorem rM (n:Nat)(M:Nat->Option (Nat×Nat)):intKeys (mB n M)=l7 n M:=by
 simp[mB,intKeys,l7,ajG,List.map_map,Function.comp_def,Go.intOf]
theorem wK {n:Nat}{M:Nat->Option (Nat×Nat)}{ss:List Int}(h:ss.Perm (intKeys (mB n M))):ss.mergeSort (fun x y=>decide (x<=y))=l7 n M:=by
 rw[rM] at h
 refine ag0 h ?_
 unfold l7
 rw[List.pairwise_map]
 exact(nD n M).imp (fun {a b} h=>by omega)
theorem zA (blk mb n:Nat)(M:Nat->Option (Nat×Nat))(w:World)(h:qC w blk mb n M)(hn:n<=4096) :
  Calls Tryz.prog 218 #[.map (some mb)] w fun e w1=>e=.returned (.func (.func 238) #[] #[.pointer (some ⟨w.heap.size,0,none⟩)]) /\
   Hid (Calls Tryz.prog 162 #[.func (.func 238) #[] #[.pointer (some ⟨w.heap.size,0,none⟩)]] w1 fun e w2=>∃ v,e=.returned v/\Hid (Gr w.heap.size w2 v (l7 n M)/\Below w.heap.size w w2)):=by
 have hbl:=h.lt
 have hl:=adC n M
 have hseq:SeqGives Fence.wide 2 Tryz.prog 238 #[.pointer (some ⟨w.heap.size,0,none⟩)] encZ (fun ss=>ss.Perm (intKeys (mB n M))) (Maps.size (mB n M)) (w.alloc (.cells #[.map (some mb)] 99)) :=
  AnyZI.keys_gives (ρ:=Tryz.keysL_ren) { Tryz.keysL with } Fence.wide _ trivial rfl (by omega) w.heap.size mb (keysB n M).length (mB n M) _ (by simp) (by simp) (by
   obtain⟨es,clock,hb,Ft,hs,hD⟩:=h
   exact⟨es,clock,(Below.heap_alloc _ _ mb hbl).trans hb,Ft,hs,hD⟩)
 have cK:CallsIn Fence.wide 5 Tryz.prog 218 #[.map (some mb)] w fun e w'=>e=.returned (.func (.func 238) #[] #[.pointer (some ⟨w.heap.size,0,none⟩)])/\w'=w.alloc (.cells #[.map (some mb)] 99):=AnyZI.keys_in Tryz.keysL Fence.wide 5 trivial rfl (some mb) w
 have cS:=AnyZI.sorted_in Tryz.sortedL Fence.wide 5 trivial trivial trivial trivial rfl (by omega) (aiN _) (enters_of Tryz.func194 (by kernel_rfl) rfl) 238 #[.pointer (some ⟨w.heap.size,0,none⟩)] trivial (enters_of Tryz.func238 (by kernel_rfl) rfl) _ _ (by rw[zx];unfold maxLen;omega) (by rw[zx];omega) _ hseq
 change CallsIn _ _ Tryz.prog 162 _ _ _ at cS
 refine(callsIn_wide.1 cK).mono ?_
 rintro e w1 ⟨rfl,rfl⟩
 refine⟨rfl,(callsIn_wide.1 cS).mono ?_⟩
 rintro e w2 ⟨v,ss,rfl,hS,hrow,_,hb⟩
 rw[wK hS] at hrow
 have hlen:ss.length=(l7 n M).length:=by rw[hS.length_eq,rM]
 rw[hlen] at hrow
 exact⟨v,rfl,ownsRow_base_a hrow (by simp),((Below.refl _ w).alloc (Nat.le_refl _) _).trans (hb.mono (by simp))⟩
end Go.Proofs.YtefdkpbmeoakgaaGreatDoor
/- Lists of writes in memory; the contracts of named and afq. -/
namespace Go.Proofs.YtefdkpbmeoakgaaGreatDoor
set_option maxRecDepth 100000
set_option maxHeartbeats 8000000
open Go.RowKit Go.Shelf Go.Maps
set_option linter.unusedVariables false
structure Wr where
 b:Int
 da:Option Addr
 dl:Nat
 dc:Nat
 z:List Int
def W0:Wr:=⟨0,none,0,0,[]⟩
def wat (V:List Wr) (j:Nat):Wr:=V[j]?.getD W0
structure am9 (u:World) (a:Option Addr) (len:Nat) (V:List Wr):Prop where
 ln:V.length=len
 cel:0<len->∃ k off,a=some ⟨k,off,none⟩/\k<u.heap.size/\∀ j,j<len->u.cell? ⟨k,off+j*2,none⟩=some (.int .i64 (wat V j).b)/\u.cell? ⟨k,off+j*2+1,none⟩=some (.slice (wat V j).da (wat V j).dl (wat V j).dc)
 row:∀ j,j<len->Row u.heap.size u (wat V j).da (wat V j).dl (wat V j).dc (wat V j).z
def hd1:Hd:=⟨1,0,0⟩
theorem aaB {G:Geo}(h:G.Ok):hd1.Ok G:=by
 have h1:=h.l1
 exact⟨by show 1<=4294967295;omega,by show 0<G.lg;omega,Nat.zero_le _⟩
theorem abM (P:Nat->Int)(G:Geo)(dg:Nat)(S:Nat->Prop)(D:Dev)(w:World)(hP:PG P G)(hD:Dv w S dg D)(bd:D.blk=G.blk)(nd:D.n=G.n)(hT:Tab w)(h0:¬ S 1) :
  Calls Tryz.prog 15 #[.pointer (some ⟨dg,0,none⟩),Pv P] w fun e w'=>e=.returned (.int .i64 (vN (whS G hd1) D))/\∃ S',Dv w' S' dg (yc (whS G hd1) D)/\Nx S w S' w':=by
 have K:Hid (∀ u,Below w.heap.size w u->Calls Tryz.prog 41 #[.pointer (some ⟨dg,0,none⟩),Pv P] u fun e w'=>e=.returned (.int .i64 0)/\Below u.heap.size u w'):=fun u hu=>mZ P G dg S D u hP (hD.below hu) bd nd
 have K2:Hid (∀ u,Below w.heap.size w u->Calls Tryz.prog 42 #[.pointer (some ⟨dg,0,none⟩),.agg #[.int .i64 1,.int .i64 0,.int .i64 0]] u fun e w'=>e=.returned (.int .i64 (vN (whS G hd1) D))/\Hid (∃ S',Dv w' S' dg (yc (whS G hd1) D)/\Nx S w S' w')):=fun u hu=>by
  refine(nT dg S D G hd1 u (hD.below hu) hP.ok bd nd (aaB hP.ok) (hT.kept (hu.block 1 hT.lt)) h0).mono ?_
  rintro e w' ⟨rfl,S',x1,x2⟩
  exact⟨rfl,S',x1,((Nx.refl S w).below' hu).trans x2⟩
 have HK:=hide (Kp.start w P)
 clear hP hD bd nd hT h0
 generalize vN (whS G hd1) D=rE at *
 generalize yc (whS G hd1) D=rD at *
 go_enter Tryz.func15,Tryz.ntmps15
 go_wp2_with fail
 go_at_call 41
 refine(ah K _ (ah HK).2).mono ?_
 rintro e w1 ⟨rfl,hb⟩
 replace HK:=hide ((ah HK).call hb)
 clear hb K
 go_wp2_with fail
 go_at_call 42
 refine(ah K2 _ (ah HK).2).mono ?_
 rintro e w2 ⟨rfl,X⟩
 clear K2 HK
 go_wp2_with fail
 go_ret
 exact⟨rfl,ah X⟩
def wl (V:List Wr):Wl:=V.map (fun v=>(v.b.toNat,v.z))
theorem yt {V:List Wr}{j:Nat}(hj:j<V.length):wat V j∈V:=by
 unfold wat
 rw[List.getElem?_eq_getElem hj]
 exact List.getElem_mem _
theorem ac1 (V:List Wr):(wl V).length=V.length:=by simp[wl]
def left (G:Geo) (at':Nat) (W:Wl) (k:Nat):List Stp:=air G (at'+1+k) (W.drop k)
theorem akx:(Tryz.prog.info? 175).map (fun i=>(i.zero,i.size,i.bytes))=some (some (.agg #[.int .i64 0,.slice none 0 0]),2,32):=by kernel_rfl
def jF:List Wr->List Value
 | []=>[]
 | v::r=>.int .i64 v.b::.slice v.da v.dl v.dc::jF r
theorem uJ (A B:List Wr):jF (A++B)=jF A++jF B:=by
 induction A with
 | nil=>rfl
 | cons v r ih=>simp[jF,ih]
theorem xO:∀ (A:List Wr) (j:Nat),j<A.length->(jF A)[j*2]?=some (.int .i64 (wat A j).b)/\(jF A)[j*2+1]?=some (.slice (wat A j).da (wat A j).dl (wat A j).dc)
 | [],j,h=>absurd h (by simp)
 | v::r,0,h=>by simp[jF,wat]
 | v::r,j+1,h=>by
  have:=xO r j (by simpa using h)
  have e1:(j+1)*2=j*2+1+1:=by omega
  rw[e1]
  simpa [jF,wat] using this
structure Gw (B:Nat) (u:World) (v:Value) (V:List Wr):Prop where
 own:u.ownsRow B 175 2 v V.length (jF V)
 row:∀ j,j<V.length->Own B u (wat V j).da (wat V j).dl (wat V j).dc (wat V j).z/\(∀ z∈(wat V j).z,0<=z/\z<=255)/\0<(wat V j).dl/\(wat V j).dl<=4096
 one:∀ i j,i<V.length->j<V.length->(wat V i).da=(wat V j).da->i=j
theorem Gw.nil (B:Nat)(u:World):Gw B u (.slice none 0 0) []:=⟨World.ownsRow_nil u B _ 2,fun j h=>absurd h (by simp),fun i j h=>absurd h (by simp)⟩
theorem tZ {u u':World}{B e n:Nat}{v:Value}{L:List Value}(h:u.ownsRow B e 2 v n L)(hk:∀ k,v.ownBlock=some k->u'.heap[k]?=u.heap[k]?):u'.ownsRow B e 2 v n L:=by
 obtain⟨h1,h2⟩:=h
 refine⟨h1,?_⟩
 rcases h2 with h2 | ⟨g,cap,cur,rfl,hb,hg,r⟩
 ·exact .inl h2
 ·exact .inr ⟨g,cap,cur,rfl,hb,(hk g rfl).trans hg,r⟩
theorem jA {u:World}{B e n:Nat}{v:Value}{L:List Value}(h:u.ownsRow B e 2 v n L){k:Nat}(hk:v.ownBlock=some k):B<=k/\∃ cur,u.heap[k]?=some (.cells cur e (0,0)):=by
 obtain⟨h1,h2⟩:=h
 rcases h2 with ⟨rfl,_⟩ | ⟨g,cap,cur,rfl,hb,hg,r⟩
 ·simp[Value.ownBlock] at hk
 ·simp[Value.ownBlock] at hk
  subst hk
  exact⟨hb,cur,hg⟩
theorem Gw.kept {B}{u u':World}{v V}(h:Gw B u v V)(hk:∀ k,B<=k->k<u.heap.size->u'.heap[k]?=u.heap[k]?):Gw B u' v V:=by
 refine⟨tZ h.own (fun k e=>?_),fun j hj=>?_,h.one⟩
 ·obtain⟨h1,cur,h2⟩:=jA h.own e
  exact hk k h1 (Array.getElem?_eq_some_iff.1 h2).1
 ·obtain⟨h1,h2⟩:=h.row j hj
  exact⟨h1.kept (fun g e=>hk g (h1.lt e).2.1 (h1.lt e).1),h2⟩
theorem Gw.below {B}{u u':World}{v V}(h:Gw B u v V)(hb:Below u.heap.size u u'):Gw B u' v V:=h.kept (fun k _ hk=>hb.block k hk)
theorem Gw.shape {B u v V}(h:Gw B u v V):∃ a c,v=.slice a V.length c/\V.length<=c/\c<=maxLen:=by
 obtain⟨h1,h2⟩:=h.own
 rcases h2 with ⟨rfl,h0⟩ | ⟨g,cap,cur,rfl,hb,hg,r1,r2,_⟩
 ·exact⟨none,0,by rw[h0],by omega,by unfold maxLen;omega⟩
 ·exact⟨_,cap,rfl,r1,r2⟩
theorem Gw.has {B u}{a:Option Addr}{n c:Nat}{V}(h:Gw B u (.slice a n c) V):am9 u a n V/\n=V.length:=by
 have hn:n=V.length:=by
  obtain⟨a',c',e,_⟩:=h.shape
  cases e
  rfl
 subst hn
 refine⟨⟨rfl,fun hp=>?_,fun j hj=>?_⟩,rfl⟩
 ·obtain⟨h1,h2⟩:=h.own
  rcases h2 with ⟨_,h0⟩ | ⟨g,cap,cur,e,hb,hg,r1,r2,r3,r4⟩
  ·omega
  ·cases e
   refine⟨g,0,rfl,(Array.getElem?_eq_some_iff.1 hg).1,fun j hj=>?_⟩
   obtain⟨c1,c2⟩:=xO V j hj
   rw[← r4,List.getElem?_take_of_lt (by omega)] at c1 c2
   rw[Nat.zero_add]
   exact⟨by simp only[World.cell?,hg];simpa using c1,by simp only[World.cell?,hg];simpa using c2⟩
 ·obtain⟨⟨h1,h2,h3,h4⟩,h5,h6,h7⟩:=h.row j hj
  unfold maxLen at h3
  refine⟨h1,h2,⟨by omega,by omega⟩,h5,fun hp=>?_⟩
  have hO:Own B u (wat V j).da (wat V j).dl (wat V j).dc (wat V j).z:=(h.row j hj).1
  obtain⟨g,e,_⟩:=hO.cell hp
  refine⟨g,0,e,(hO.lt e).1,fun i hi=>?_⟩
  obtain⟨g',e',_,hc⟩:=hO.cell hi
  rw[e] at e'
  cases e'
  rw[Nat.zero_add]
  exact hc.1
theorem Gw.one' {B u v V}(h:Gw B u v V)(hB:B<=u.heap.size)(hl:V.length<=100000)(x:Wr)(hx:Own B u x.da x.dl x.dc x.z/\(∀ z∈x.z,0<=z/\z<=255)/\0<x.dl/\x.dl<=4096)(hn:∀ j,j<V.length->(wat V j).da≠x.da) :
  ∃ v' w',(∀ ty,(Builtin.append_ #[167,167] ty #[v,.slice (some ⟨u.heap.size,0,none⟩) 1 1]).run Tryz.prog (u.alloc (.cells #[.int .i64 x.b,.slice x.da x.dl x.dc] 175))=.ok v' w')/\Gw B w' v' (V++[x])/\Below B u w'/\(∀ (k:Nat) (t:TypeId) (c:Array Value) (q:Nat×Nat),t≠175->u.heap[k]?=some (Obj.cells c t q)->w'.heap[k]?=u.heap[k]?)/\(∀ (k:Nat) (es:Array MapEntry) (c:Nat),u.heap[k]?=some (Obj.map es c)->w'.heap[k]?=u.heap[k]?):=by
 obtain⟨i0,hi,hz0,hz1,hz2⟩:=info_parts akx
 have hb:Below u.heap.size u (u.alloc (.cells #[.int .i64 x.b,.slice x.da x.dl x.dc] 175)):=(Below.refl _ _).alloc (Nat.le_refl _) _
 have h1:=h.below hb
 have hnw:=Bl.new u #[.int .i64 x.b,.slice x.da x.dl x.dc] 175
 obtain⟨v',w',hrun,ho,hg,_⟩:=run_append_own (P:=Tryz.prog) (u.alloc (.cells #[.int .i64 x.b,.slice x.da x.dl x.dc] 175)) B 167 0 175 i0 (.agg #[.int .i64 0,.slice none 0 0]) 2 32 Tryz.underlying167 hi hz0 hz1 hz2 rfl (by decide) v V.length (jF V) h1.own ⟨u.heap.size,0,none⟩ 1 1 [.int .i64 x.b,.slice x.da x.dl x.dc] rfl (by
   intro j z hj
   rw[World.aF,Nat.zero_add]
   have hj2:j<2:=by have:=(List.getElem?_eq_some_iff.1 hj).1;simpa using this
   refine hnw.cell j z ?_
   simpa using hj) (by intro z hz;simp at hz;rcases hz with rfl | rfl<;>rfl) (by unfold maxLen;omega) (by omega) (Nat.le_trans hB hb.size)
 have hrow:∀ k,k<u.heap.size->(∀ (t:TypeId) (c:Array Value) (q:Nat×Nat),u.heap[k]?=some (Obj.cells c t q)->t≠175)->w'.heap[k]?=u.heap[k]?:=fun k hk ht=>by
  refine(hg.block k (Nat.lt_of_lt_of_le hk hb.size) (fun e=>?_)).trans (hb.block k hk)
  obtain⟨_,cur,hc⟩:=jA h.own e.symm
  exact ht _ _ _ hc rfl
 have keep:∀ {a:Option Addr} {n c:Nat} {zs:List Int},Own B u a n c zs->Own B w' a n c zs:=fun hO=>hO.kept (fun g e=>by
  obtain⟨l1,l2,cur,l3⟩:=hO.lt e
  exact hrow g l1 (fun t c q hh=>by rw[l3] at hh;cases hh;decide))
 refine⟨v',w',fun ty=>hrun,⟨?_,fun j hj=>?_,fun i j hi hj e=>?_⟩,(hb.mono hB).grown hg (Nat.le_trans hB hb.size) (fun k e=>?_),fun k t c q ht hh=>hrow k (Array.getElem?_eq_some_iff.1 hh).1 (fun t' c' q' hh'=>by rw[hh] at hh';cases hh';exact ht),fun k es c hh=>hrow k (Array.getElem?_eq_some_iff.1 hh).1 (fun t' c' q' hh'=>by rw[hh] at hh';cases hh')⟩
 ·rw[uJ,List.length_append]
  exact ho
 ·by_cases e:j<V.length
  ·have ew:wat (V++[x]) j=wat V j:=by simp[wat,List.getElem?_append_left e]
   rw[ew]
   exact⟨keep (h.row j e).1,(h.row j e).2⟩
  ·have e2:j=V.length:=by simp at hj;omega
   have ew:wat (V++[x]) j=x:=by simp[wat,e2]
   rw[ew]
   exact⟨keep hx.1,hx.2⟩
 ·have wv:∀ i,i<V.length->wat (V++[x]) i=wat V i:=fun i e=>by simp[wat,List.getElem?_append_left e]
  have wx:∀ i,i=V.length->wat (V++[x]) i=x:=fun i e=>by simp[wat,e]
  simp at hi hj
  by_cases e1:i<V.length
  ·by_cases e2:j<V.length
   ·rw[wv i e1,wv j e2] at e;exact h.one i j e1 e2 e
   ·rw[wv i e1,wx j (by omega)] at e;exact absurd e (hn i e1)
  ·by_cases e2:j<V.length
   ·rw[wx i (by omega),wv j e2] at e;exact absurd e.symm (hn j e2)
   ·omega
 ·exact(jA h.own e).1
structure PdI (w:World) (G:Geo) (Q:Nat->Option (List Int)) (kv:Value) (ks:List Int) (k:Nat) (v:Value) (u:World) (V:List Wr):Prop where
 gw:Gw w.heap.size u v V
 is:wl V=(kR G Q).take k
 dl:∀ x∈V,x.dl=G.blk/\0<=x.b
 ln:V.length=k
 bel:Below w.heap.size w u
 key:Gr w.heap.size u kv ks
theorem oO (G:Geo)(Q:Nat->Option (List Int)):(kR G Q).length=(gW G Q).length:=by simp[kR]
theorem oP (G:Geo)(Q:Nat->Option (List Int)):(gW G Q).length<=G.n:=by
 have:=List.length_filter_le (fun b=>(Q b).isSome) (List.range G.n)
 simpa [gW] using this
theorem kT {G:Geo}{Q:Nat->Option (List Int)}{b:Nat}:b∈gW G Q↔b<G.n/\(Q b).isSome=true:=by simp[gW]
theorem mG {L:Lg}{m:aeD}{G:Geo}:l7 G.n (L.M m)=(gW G L.Q).map (fun b:Nat=>(b:Int)):=by
 unfold l7 keysB gW
 congr 1
 refine List.filter_congr (fun b _=>?_)
 unfold Lg.M
 cases L.Q b<;>rfl
theorem adG {B w a n c ns}(h:qE B w a n c ns):jh w a n ns:=by
 refine⟨h.1,fun hp=>?_⟩
 obtain⟨g,e,_,_,_⟩:=h.cell (j:=0) hp
 refine⟨g,0,e,fun j hj=>?_⟩
 obtain⟨g',e',_,hc,_⟩:=h.cell hj
 rw[e] at e'
 cases e'
 rw[Nat.zero_add]
 exact hc
theorem ahW {B u}{a:Option Addr}{n c:Nat}{L}(h:Gr B u (.slice a n c) L):jh u a n L/\n=L.length:=by
 obtain⟨a',c',e,io⟩:=h.own
 cases e
 exact⟨adG io,rfl⟩
theorem PdI.step {w u:World}{S g dg P G L m}{kv v:Value}{ks:List Int}{k:Nat}{V:List Wr}(hL:LgM w S g dg P G L m)(h:PdI w G L.Q kv ks k v u V)(hk:k<(gW G L.Q).length)(b:Nat)(hb:(gW G L.Q)[k]?=some b) :
  u.cell? ⟨g,16,none⟩=some (.map (some m.mb))/\(Instr.lookup 99 (.map (some m.mb)) (.int .i64 (b:Int)) false).run Tryz.prog u=.ok (.slice (some ⟨(m.A b).1,0,none⟩) G.blk (m.A b).2) u /\
   Hid (Calls Tryz.prog 125 #[.slice (some ⟨(m.A b).1,0,none⟩) G.blk (m.A b).2] u fun e w1=>∃ a c,e=.returned (.slice a G.blk c) /\
    Hid (∃ v' w2,(∀ ty,(Builtin.append_ #[167,167] ty #[v,.slice (some ⟨w1.heap.size,0,none⟩) 1 1]).run Tryz.prog (w1.alloc (.cells #[.int .i64 (b:Int),.slice a G.blk c] 175))=.ok v' w2)/\∃ V',PdI w G L.Q kv ks (k+1) v' w2 V')):=by
 have hLu:=hL.kept (u':=u) (S':=S) (fun k hk=>h.bel.block k (hL.lt k hk)) (fun _ h=>h) (fun k hk=>Nat.lt_of_lt_of_le (hL.lt k hk) h.bel.size)
 obtain⟨hbn,hbs⟩:=kT.1 (List.mem_of_getElem? hb)
 obtain⟨z,hz⟩:=Option.isSome_iff_exists.1 hbs
 have hM:L.M m b=some (m.A b):=by simp[Lg.M,hz]
 have hr:=hLu.row b z hbn hz
 have hG:=hL.pg.ok
 have hbk:=hG.blk
 have hn2:=hG.n2
 have hpl:=oP G L.Q
 refine⟨hLu.cells.2.2.2.2.2.1,hLu.map.look hn2 hbn hM,?_⟩
 refine(iO ⟨(m.A b).1,0,none⟩ G.blk (m.A b).2 z u (hr.row (by omega)).has (by omega)).mono ?_
 rintro e w1 ⟨a,c,rfl,o1,b1⟩
 have hs:=h.bel.size
 have g1:=h.gw.below b1
 have hs1:=b1.size
 obtain⟨v',w2,r2,G2,B2,K2,_⟩:=g1.one' (Nat.le_trans hs hs1) (by rw[h.ln];omega) ⟨(b:Int),a,G.blk,c,z⟩ ⟨o1.base hs,hr.byt,by show 0<G.blk;omega,by show G.blk<=4096;omega⟩ (fun j hj e=>by
  have ho:=(h.gw.row j hj).1
  obtain⟨q,eq,_⟩:=ho.cell ((h.gw.row j hj).2.2.1)
  have e2:a=some ⟨q,0,none⟩:=by rw[← eq];exact e.symm
  have l1:=(ho.lt eq).1
  have l2:=(o1.lt e2).2.1
  omega)
 refine⟨a,c,rfl,v',w2,r2,V++[⟨(b:Int),a,G.blk,c,z⟩],G2,?_,?_,by simp[h.ln],(h.bel.trans (b1.mono hs)).trans B2,?_⟩
 ·have e1:(kR G L.Q)[k]?=some (b,z):=by
   unfold kR
   rw[List.getElem?_map,hb]
   simp[hz]
  have hk2:k<(kR G L.Q).length:=by rw[oO];exact hk
  rw[List.take_succ_eq_append_getElem hk2,← h.is]
  have e2:(kR G L.Q)[k]=(b,z):=by
   rw[List.getElem?_eq_getElem hk2] at e1
   exact Option.some.inj e1
  rw[e2]
  simp[wl]
 ·intro x hx
  rcases List.mem_append.1 hx with hx | hx
  ·exact h.dl x hx
  ·have:x=⟨(b:Int),a,G.blk,c,z⟩:=by simpa using hx
   rw[this]
   exact⟨rfl,Int.natCast_nonneg b⟩
 ·have kg:=h.key.later b1
  obtain⟨k1,k2⟩:=kg
  refine⟨k1,?_⟩
  rcases k2 with k2 | ⟨q,cap,cur,e,x1,x2,x3⟩
  ·exact .inl k2
  ·exact .inr ⟨q,cap,cur,e,x1,(K2 q 3 cur (0,0) (by decide) x2).trans x2,x3⟩
theorem yZ (g dg:Nat)(S:Nat->Prop)(P:Nat->Int)(G:Geo)(L:Lg)(m:aeD)(w:World)(h:LgM w S g dg P G L m) :
  Calls Tryz.prog 199 #[.pointer (some ⟨g,0,none⟩)] w fun e w'=>∃ v V,e=.returned v/\Hid (Gw w.heap.size w' v V/\wl V=kR G L.Q/\(∀ x∈V,x.dl=G.blk/\0<=x.b)/\Below w.heap.size w w'):=by
 have c6:=h.cells.2.2.2.2.2.1
 have KK:=hide (zA G.blk m.mb G.n (L.M m) w h.map h.pg.ok.n2)
 have K0:Hid (∀ w2 v,Gr w.heap.size w2 v (l7 G.n (L.M m))->Below w.heap.size w w2->∃ a c,v=.slice a (gW G L.Q).length c/\Hid (∃ V,PdI w G L.Q v (l7 G.n (L.M m)) 0 (.slice none 0 0) w2 V)):=by
  intro w2 v g2 b2
  obtain⟨a,c,e⟩:=g2.shape
  refine⟨a,c,?_,[],Gw.nil _ _,by simp[wl],fun x hx=>by simp at hx,rfl,b2,g2⟩
  rw[e,mG,List.length_map]
 have KI:Hid (∀ u k a n c v V,PdI w G L.Q (.slice a n c) (l7 G.n (L.M m)) k v u V->k<n->∃ kb off b,a=some ⟨kb,off,none⟩/\u.cell? ⟨kb,off+k,none⟩=some (.int .i64 ((b:Nat):Int))/\(gW G L.Q)[k]?=some b/\n=(gW G L.Q).length):=by
  intro u k a n c v V hP hk
  obtain⟨hi,hn⟩:=ahW hP.key
  rw[mG,List.length_map] at hn
  obtain⟨kb,off,e,hc⟩:=hi.2 (by omega)
  have hk2:k<(gW G L.Q).length:=by omega
  refine⟨kb,off,(gW G L.Q)[k],e,?_,List.getElem?_eq_getElem hk2,hn⟩
  rw[hc k hk,mG]
  simp[List.getElem?_eq_getElem hk2]
 have KS:Hid (∀ u kv k v V b,PdI w G L.Q kv (l7 G.n (L.M m)) k v u V->k<(gW G L.Q).length->(gW G L.Q)[k]?=some b->_):=fun u kv k v V b hP hk hb=>hP.step h hk b hb
 have KE:Hid (∀ u kv v V,PdI w G L.Q kv (l7 G.n (L.M m)) (gW G L.Q).length v u V->Hid (Gw w.heap.size u v V/\wl V=kR G L.Q/\(∀ x∈V,x.dl=G.blk/\0<=x.b)/\Below w.heap.size w u)):=fun u kv v V hP=>⟨hP.gw,by rw[hP.is,List.take_of_length_le (by rw[oO];omega)],hP.dl,hP.bel⟩
 have hnp:(gW G L.Q).length<=4096:=Nat.le_trans (oP G L.Q) h.pg.ok.n2
 clear h
 generalize l7 G.n (L.M m)=ks at *
 generalize gW G L.Q=pl at *
 generalize m.mb=mb at *
 generalize m.A=mA at *
 generalize pl.length=np at *
 go_enter Tryz.func199,Tryz.ntmps199
 go_wp2_with fail
 go_at_call 218
 refine(ah KK).mono ?_
 rintro e w1 ⟨rfl,K2⟩
 clear KK
 go_wp2_with fail
 go_at_call 162
 refine(ah K2).mono ?_
 rintro e w2 ⟨kv,rfl,X⟩
 obtain⟨a,c,rfl,Y⟩:=ah K0 w2 kv (ah X).1 (ah X).2
 clear K2 K0 X c6
 go_wp2_with fail
 go_loopw [3,15] (fun v i wr=>∃ k:Nat,k<=np/\i=.int .i64 (k:Int)/\Hid (∃ V,PdI w G L.Q (.slice a np c) ks k v wr V)) (fun _ i _=>np - (intOf i).toNat)
 case atStart=>exact⟨0,Nat.zero_le _,rfl,Y⟩
 case round =>
  rename_i v
  obtain⟨k,hk,rfl,hJ⟩:=hrel
  clear Y
  by_cases hlt:k<np
  ·obtain⟨V,hP⟩:=ah hJ
   obtain⟨kb,off,b,ea,x1,x2,x3⟩:=ah KI _ _ _ _ _ _ _ hP hlt
   obtain⟨y1,y2,KC⟩:=ah KS _ _ _ _ _ _ hP hlt x2
   clear KI KS KE hJ hP x2 x3
   subst ea
   generalize (mA b).1=r1 at *
   generalize (mA b).2=r2 at *
   go_wp2_with fail
   go_at_call 125
   refine(ah KC).mono ?_
   rintro e w3 ⟨a3,c3,rfl,Z⟩
   obtain⟨v',w4,r4,Z2⟩:=ah Z
   have R4:=hide r4
   have Z3:=hide Z2
   clear KC Z r4 Z2 x1 y1 y2
   go_wp2_with (at_builtin;refine wpList_append_run 167 rfl _ _ rfl _ _ _ rfl rfl (ah R4) ?_;clear R4)
   go_roundw
   case rel=>exact⟨k+1,by omega,by go_num,Z3⟩
   case measure=>simp[intOf];omega
  ·have ek:k=np:=by omega
   rw[ek] at hJ
   obtain⟨V,hP⟩:=ah hJ
   have Z:=ah KE _ _ _ _ hP
   clear KI KS KE hJ hP
   go_wp2_with fail
   go_ret
   exact⟨_,_,rfl,Z⟩
def wv (V:List Wr):List (Int×Nat):=V.map (fun v=>(v.b,v.dl))
structure RF (w:World) (g:Nat) (P:Nat->Int) (G:Geo) (L:Lg) (u:World):Prop where
 bel:Below w.heap.size w u
 pl:u.cell? ⟨g,1,none⟩=some (.int .i64 (P 0))/\u.cell? ⟨g,2,none⟩=some (.int .i64 (P 1))/\u.cell? ⟨g,3,none⟩=some (.int .i64 (P 2))/\u.cell? ⟨g,4,none⟩=some (.int .i64 (P 3))/\u.cell? ⟨g,5,none⟩=some (.int .i64 (P 4))/\u.cell? ⟨g,6,none⟩=some (.int .i64 (P 5))/\u.cell? ⟨g,7,none⟩=some (.int .i64 (P 6))/\u.cell? ⟨g,8,none⟩=some (.int .i64 (P 7))/\u.cell? ⟨g,9,none⟩=some (.int .i64 (P 8))/\u.cell? ⟨g,10,none⟩=some (.int .i64 (P 9))/\u.cell? ⟨g,11,none⟩=some (.int .i64 (P 10))/\u.cell? ⟨g,12,none⟩=some (.int .i64 (P 11))
 lg:u.cell? ⟨g,4,none⟩=some (.int .i64 (G.lg:Int))
 sq:u.cell? ⟨g,13,none⟩=some (.int .i64 (L.h.seq:Int))
end Go.Proofs.YtefdkpbmeoakgaaGreatDoor
