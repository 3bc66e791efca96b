/- Joined: WPend, WApply, WApply2, WRefl. -/
import Derived.Test.YtdfanhjnkjdngaaGreatDoorArJ37
import Derived.Test.YtdfanhjnkjdngaaGreatDoorArGClone
/- The contract of Pending. -/
namespace Go.Proofs.YtdfanhjnkjdngaaGreatDoor
set_option maxRecDepth 100000
set_option maxHeartbeats 8000000
open Go.RowKit Go.Shelf Go.Maps
set_option linter.unusedVariables false

theorem infoW:(Tryz.prog.info? 52).map (fun i=>(i.zero,i.size,i.bytes))=some (some (.agg #[.int .i64 0,.slice none 0 0]),2,32):=by kernel_rfl

def cellsW:List Wr→List Value
 | []=>[]
 | v :: r=>.int .i64 v.b :: .slice v.da v.dl v.dc :: cellsW r

theorem cellsW_append (A B:List Wr):cellsW (A ++ B)=cellsW A ++ cellsW B:=by
 induction A with
 | nil=>rfl
 | cons v r ih=>simp [cellsW,ih]

theorem cellsW_at:∀ (A:List Wr) (j:Nat),j < A.length→(cellsW A)[j * 2]?=some (.int .i64 (wat A j).b)∧(cellsW A)[j * 2 + 1]?=some (.slice (wat A j).da (wat A j).dl (wat A j).dc)
 | [],j,h=>absurd h (by simp)
 | v :: r,0,h=>by simp [cellsW,wat]
 | v :: r,j + 1,h=>by
  have:=cellsW_at r j (by simpa using h)
  have e1:(j + 1) * 2=j * 2 + 1 + 1:=by omega
  rw [e1]
  simpa [cellsW,wat] using this

structure Gw (B:Nat) (u:World) (v:Value) (V:List Wr):Prop where
 own:u.ownsRow B 52 2 v V.length (cellsW V)
 row:∀ j,j < V.length→Own B u (wat V j).da (wat V j).dl (wat V j).dc (wat V j).z∧(∀ z ∈ (wat V j).z,0 ≤ z∧z ≤ 255)∧0 < (wat V j).dl∧(wat V j).dl ≤ 4096
 one:∀ i j,i < V.length→j < V.length→(wat V i).da=(wat V j).da→i=j

theorem Gw.nil (B:Nat) (u:World):Gw B u (.slice none 0 0) []:=⟨World.ownsRow_nil u B _ 2,fun j h=>absurd h (by simp),fun i j h=>absurd h (by simp)⟩

theorem ownsRow_other {u u':World} {B e n:Nat} {v:Value} {L:List Value} (h:u.ownsRow B e 2 v n L) (hk:∀ k,v.ownBlock=some k→u'.heap[k]?=u.heap[k]?):u'.ownsRow B e 2 v n L:=by
 obtain ⟨h1,h2⟩:=h
 refine ⟨h1,?_⟩
 rcases h2 with h2 | ⟨g,cap,cur,rfl,hb,hg,r⟩
 ·exact .inl h2
 ·exact .inr ⟨g,cap,cur,rfl,hb,(hk g rfl).trans hg,r⟩

theorem ownsRow_blk2 {u:World} {B e n:Nat} {v:Value} {L:List Value} (h:u.ownsRow B e 2 v n L) {k:Nat} (hk:v.ownBlock=some k):B ≤ k∧∃ cur,u.heap[k]?=some (.cells cur e (0,0)):=by
 obtain ⟨h1,h2⟩:=h
 rcases h2 with ⟨rfl,_⟩ | ⟨g,cap,cur,rfl,hb,hg,r⟩
 ·simp [Value.ownBlock] at hk
 ·simp [Value.ownBlock] at hk
  subst hk
  exact ⟨hb,cur,hg⟩

theorem Gw.kept {B:Nat} {u u':World} {v:Value} {V:List Wr} (h:Gw B u v V) (hk:∀ k,B ≤ k→k < u.heap.size→u'.heap[k]?=u.heap[k]?):Gw B u' v V:=by
 refine ⟨ownsRow_other h.own (fun k e=>?_),fun j hj=>?_,h.one⟩
 ·obtain ⟨h1,cur,h2⟩:=ownsRow_blk2 h.own e
  exact hk k h1 (Array.getElem?_eq_some_iff.1 h2).1
 ·obtain ⟨h1,h2⟩:=h.row j hj
  exact ⟨h1.kept (fun g e=>hk g (h1.lt e).2.1 (h1.lt e).1),h2⟩

theorem Gw.below {B:Nat} {u u':World} {v:Value} {V:List Wr} (h:Gw B u v V) (hb:Below u.heap.size u u'):Gw B u' v V:=h.kept (fun k _ hk=>hb.block k hk)

theorem Gw.shape {B:Nat} {u:World} {v:Value} {V:List Wr} (h:Gw B u v V):∃ a c,v=.slice a V.length c∧V.length ≤ c∧c ≤ maxLen:=by
 obtain ⟨h1,h2⟩:=h.own
 rcases h2 with ⟨rfl,h0⟩ | ⟨g,cap,cur,rfl,hb,hg,r1,r2,_⟩
 ·exact ⟨none,0,by rw [h0],by omega,by unfold maxLen; omega⟩
 ·exact ⟨_,cap,rfl,r1,r2⟩

theorem Gw.has {B:Nat} {u:World} {a:Option Addr} {n c:Nat} {V:List Wr} (h:Gw B u (.slice a n c) V):WHas u a n V∧n=V.length:=by
 have hn:n=V.length:=by
  obtain ⟨a',c',e,_⟩:=h.shape
  cases e
  rfl
 subst hn
 refine ⟨⟨rfl,fun hp=>?_,fun j hj=>?_⟩,rfl⟩
 ·obtain ⟨h1,h2⟩:=h.own
  rcases h2 with ⟨_,h0⟩ | ⟨g,cap,cur,e,hb,hg,r1,r2,r3,r4⟩
  ·omega
  ·cases e
   refine ⟨g,0,rfl,(Array.getElem?_eq_some_iff.1 hg).1,fun j hj=>?_⟩
   obtain ⟨c1,c2⟩:=cellsW_at V j hj
   rw [← r4,List.getElem?_take_of_lt (by omega)] at c1 c2
   rw [Nat.zero_add]
   exact ⟨by simp only [World.cell?,hg]; simpa using c1,by simp only [World.cell?,hg]; simpa using c2⟩
 ·obtain ⟨⟨h1,h2,h3,h4⟩,h5,h6,h7⟩:=h.row j hj
  unfold maxLen at h3
  refine ⟨h1,h2,⟨by omega,by omega⟩,h5,fun hp=>?_⟩
  have hO:Own B u (wat V j).da (wat V j).dl (wat V j).dc (wat V j).z:=(h.row j hj).1
  obtain ⟨g,e,_⟩:=hO.cell hp
  refine ⟨g,0,e,(hO.lt e).1,fun i hi=>?_⟩
  obtain ⟨g',e',_,hc⟩:=hO.cell hi
  rw [e] at e'
  cases e'
  rw [Nat.zero_add]
  exact hc.1

theorem Gw.out {B:Nat} {u:World} {a:Option Addr} {n c:Nat} {V:List Wr} (h:Gw B u (.slice a n c) V) {S:Nat→Prop} (hS:∀ k,S k→k < B):WOut S a n V:=by
 have hn:=h.has.2
 refine ⟨fun hp x e hs=>?_,fun j hj hp x e hs=>?_⟩
 ·have:=(ownsRow_blk2 h.own (k:=x.block) (by rw [e]; rfl)).1
  have:=hS _ hs
  omega
 ·have hO:=(h.row j (by omega)).1
  obtain ⟨g,e',hg,_⟩:=hO.cell hp
  rw [e] at e'
  cases e'
  have:=hS _ hs
  simp at this
  omega

theorem Gw.one' {B:Nat} {u:World} {v:Value} {V:List Wr} (h:Gw B u v V) (hB:B ≤ u.heap.size) (hl:V.length ≤ 100000) (x:Wr) (hx:Own B u x.da x.dl x.dc x.z∧(∀ z ∈ x.z,0 ≤ z∧z ≤ 255)∧0 < x.dl∧x.dl ≤ 4096) (hn:∀ j,j < V.length→(wat V j).da ≠ x.da) :
  ∃ v' w',(∀ ty,(Builtin.append_ #[39,39] ty #[v,.slice (some ⟨u.heap.size,0,none⟩) 1 1]).run Tryz.prog (u.alloc (.cells #[.int .i64 x.b,.slice x.da x.dl x.dc] 52))=.ok v' w')∧Gw B w' v' (V ++ [x])∧Below B u w'∧(∀ (k:Nat) (t:TypeId) (c:Array Value) (q:Nat × Nat),t ≠ 52→u.heap[k]?=some (Obj.cells c t q)→w'.heap[k]?=u.heap[k]?)∧(∀ (k:Nat) (es:Array MapEntry) (c:Nat),u.heap[k]?=some (Obj.map es c)→w'.heap[k]?=u.heap[k]?):=by
 obtain ⟨i0,hi,hz0,hz1,hz2⟩:=info_parts infoW
 have hb:Below u.heap.size u (u.alloc (.cells #[.int .i64 x.b,.slice x.da x.dl x.dc] 52)):=(Below.refl _ _).alloc (Nat.le_refl _) _
 have h1:=h.below hb
 have hnw:=Bl.new u #[.int .i64 x.b,.slice x.da x.dl x.dc] 52
 obtain ⟨v',w',hrun,ho,hg,_⟩:=run_append_own (P:=Tryz.prog) (u.alloc (.cells #[.int .i64 x.b,.slice x.da x.dl x.dc] 52)) B 39 0 52 i0 (.agg #[.int .i64 0,.slice none 0 0]) 2 32 Tryz.underlying39 hi hz0 hz1 hz2 rfl (by decide) v V.length (cellsW V) h1.own ⟨u.heap.size,0,none⟩ 1 1 [.int .i64 x.b,.slice x.da x.dl x.dc] rfl (by
   intro j z hj
   rw [World.add_zero_spot,Nat.zero_add]
   have hj2:j < 2:=by have:=(List.getElem?_eq_some_iff.1 hj).1; simpa using this
   refine hnw.cell j z ?_
   simpa using hj) (by intro z hz; simp at hz; rcases hz with rfl | rfl <;> rfl) (by unfold maxLen; omega) (by omega) (Nat.le_trans hB hb.size)
 have hrow:∀ k,k < u.heap.size→(∀ (t:TypeId) (c:Array Value) (q:Nat × Nat),u.heap[k]?=some (Obj.cells c t q)→t ≠ 52)→w'.heap[k]?=u.heap[k]?:=fun k hk ht=>by
  refine (hg.block k (Nat.lt_of_lt_of_le hk hb.size) (fun e=>?_)).trans (hb.block k hk)
  obtain ⟨_,cur,hc⟩:=ownsRow_blk2 h.own e.symm
  exact ht _ _ _ hc rfl
 have keep:∀ {a:Option Addr} {n c:Nat} {zs:List Int},Own B u a n c zs→Own B w' a n c zs:=fun hO=>hO.kept (fun g e=>by
  obtain ⟨l1,l2,cur,l3⟩:=hO.lt e
  exact hrow g l1 (fun t c q hh=>by rw [l3] at hh; cases hh; decide))
 refine ⟨v',w',fun ty=>hrun,⟨?_,fun j hj=>?_,fun i j hi hj e=>?_⟩,(hb.mono hB).grown hg (Nat.le_trans hB hb.size) (fun k e=>?_),fun k t c q ht hh=>hrow k (Array.getElem?_eq_some_iff.1 hh).1 (fun t' c' q' hh'=>by rw [hh] at hh'; cases hh'; exact ht),fun k es c hh=>hrow k (Array.getElem?_eq_some_iff.1 hh).1 (fun t' c' q' hh'=>by rw [hh] at hh'; cases hh')⟩
 ·rw [cellsW_append,List.length_append]
  exact ho
 ·by_cases e:j < V.length
  ·have ew:wat (V ++ [x]) j=wat V j:=by simp [wat,List.getElem?_append_left e]
   rw [ew]
   exact ⟨keep (h.row j e).1,(h.row j e).2⟩
  ·have e2:j=V.length:=by simp at hj; omega
   have ew:wat (V ++ [x]) j=x:=by simp [wat,e2]
   rw [ew]
   exact ⟨keep hx.1,hx.2⟩
 ·have wv:∀ i,i < V.length→wat (V ++ [x]) i=wat V i:=fun i e=>by simp [wat,List.getElem?_append_left e]
  have wx:∀ i,i=V.length→wat (V ++ [x]) i=x:=fun i e=>by simp [wat,e]
  simp at hi hj
  by_cases e1:i < V.length
  ·by_cases e2:j < V.length
   ·rw [wv i e1,wv j e2] at e; exact h.one i j e1 e2 e
   ·rw [wv i e1,wx j (by omega)] at e; exact absurd e (hn i e1)
  ·by_cases e2:j < V.length
   ·rw [wx i (by omega),wv j e2] at e; exact absurd e.symm (hn j e2)
   ·omega
 ·exact (ownsRow_blk2 h.own e).1

structure PdI (w:World) (G:Geo) (Q:Nat→Option (List Int)) (kv:Value) (ks:List Int) (k:Nat) (v:Value) (u:World) (V:List Wr):Prop where
 gw:Gw w.heap.size u v V
 is:wl V=(pendW G Q).take k
 dl:∀ x ∈ V,x.dl=G.blk∧0 ≤ x.b
 ln:V.length=k
 bel:Below w.heap.size w u
 key:Gr w.heap.size u kv ks

theorem pendW_len (G:Geo) (Q:Nat→Option (List Int)):(pendW G Q).length=(pendL G Q).length:=by simp [pendW]

theorem pendL_len (G:Geo) (Q:Nat→Option (List Int)):(pendL G Q).length ≤ G.n:=by
 have:=List.length_filter_le (fun b=>(Q b).isSome) (List.range G.n)
 simpa [pendL] using this

theorem pendL_mem {G:Geo} {Q:Nat→Option (List Int)} {b:Nat}:b ∈ pendL G Q ↔ b < G.n∧(Q b).isSome=true:=by simp [pendL]

theorem keysI_pend {L:Lg} {m:LMem} {G:Geo}:keysI G.n (L.M m)=(pendL G L.Q).map (fun b:Nat=>(b:Int)):=by
 unfold keysI keysB pendL
 congr 1
 refine List.filter_congr (fun b _=>?_)
 unfold Lg.M
 cases L.Q b <;> rfl

theorem iown_has9 {B:Nat} {w:World} {a:Option Addr} {n c:Nat} {ns:List Int} (h:IOwn B w a n c ns):IHas w a n ns:=by
 refine ⟨h.1,fun hp=>?_⟩
 obtain ⟨g,e,_,_,_⟩:=h.cell (j:=0) hp
 refine ⟨g,0,e,fun j hj=>?_⟩
 obtain ⟨g',e',_,hc,_⟩:=h.cell hj
 rw [e] at e'
 cases e'
 rw [Nat.zero_add]
 exact hc

theorem gr_ihas {B:Nat} {u:World} {a:Option Addr} {n c:Nat} {L:List Int} (h:Gr B u (.slice a n c) L):IHas u a n L∧n=L.length:=by
 obtain ⟨a',c',e,io⟩:=h.own
 cases e
 exact ⟨iown_has9 io,rfl⟩

theorem PdI.step {w u:World} {S:Nat→Prop} {g dg:Nat} {P:Nat→Int} {G:Geo} {L:Lg} {m:LMem} {kv v:Value} {ks:List Int} {k:Nat} {V:List Wr} (hL:LgM w S g dg P G L m) (h:PdI w G L.Q kv ks k v u V) (hk:k < (pendL G L.Q).length) (b:Nat) (hb:(pendL G L.Q)[k]?=some b) :
  u.cell? ⟨g,16,none⟩=some (.map (some m.mb))∧(Instr.lookup 121 (.map (some m.mb)) (.int .i64 (b:Int)) false).run Tryz.prog u=.ok (.slice (some ⟨(m.A b).1,0,none⟩) G.blk (m.A b).2) u ∧
   Hid (Calls Tryz.prog 101 #[.slice (some ⟨(m.A b).1,0,none⟩) G.blk (m.A b).2] u fun e w1=>∃ a c,e=.returned (.slice a G.blk c) ∧
    Hid (∃ v' w2,(∀ ty,(Builtin.append_ #[39,39] ty #[v,.slice (some ⟨w1.heap.size,0,none⟩) 1 1]).run Tryz.prog (w1.alloc (.cells #[.int .i64 (b:Int),.slice a G.blk c] 52))=.ok v' w2)∧∃ V',PdI w G L.Q kv ks (k + 1) v' w2 V')):=by
 have hLu:=hL.kept (u':=u) (S':=S) (fun k hk=>h.bel.block k (hL.lt k hk)) (fun _ h=>h) (fun k hk=>Nat.lt_of_lt_of_le (hL.lt k hk) h.bel.size)
 obtain ⟨hbn,hbs⟩:=pendL_mem.1 (List.mem_of_getElem? hb)
 obtain ⟨z,hz⟩:=Option.isSome_iff_exists.1 hbs
 have hM:L.M m b=some (m.A b):=by simp [Lg.M,hz]
 have hr:=hLu.row b z hbn hz
 have hG:=hL.pg.ok
 have hbk:=hG.blk
 have hn2:=hG.n2
 have hpl:=pendL_len G L.Q
 refine ⟨hLu.cells.2.2.2.2.2.1,hLu.map.look hn2 hbn hM,?_⟩
 refine (bclone_any ⟨(m.A b).1,0,none⟩ G.blk (m.A b).2 z u (hr.row (by omega)).has (by omega)).mono ?_
 rintro e w1 ⟨a,c,rfl,o1,b1⟩
 have hs:=h.bel.size
 have g1:=h.gw.below b1
 have hs1:=b1.size
 obtain ⟨v',w2,r2,G2,B2,K2,_⟩:=g1.one' (Nat.le_trans hs hs1) (by rw [h.ln]; omega) ⟨(b:Int),a,G.blk,c,z⟩ ⟨o1.base hs,hr.byt,by show 0 < G.blk; omega,by show G.blk ≤ 4096; omega⟩ (fun j hj e=>by
  have ho:=(h.gw.row j hj).1
  obtain ⟨q,eq,_⟩:=ho.cell ((h.gw.row j hj).2.2.1)
  have e2:a=some ⟨q,0,none⟩:=by rw [← eq]; exact e.symm
  have l1:=(ho.lt eq).1
  have l2:=(o1.lt e2).2.1
  omega)
 refine ⟨a,c,rfl,v',w2,r2,V ++ [⟨(b:Int),a,G.blk,c,z⟩],G2,?_,?_,by simp [h.ln],(h.bel.trans (b1.mono hs)).trans B2,?_⟩
 ·have e1:(pendW G L.Q)[k]?=some (b,z):=by
   unfold pendW
   rw [List.getElem?_map,hb]
   simp [hz]
  have hk2:k < (pendW G L.Q).length:=by rw [pendW_len]; exact hk
  rw [List.take_succ_eq_append_getElem hk2,← h.is]
  have e2:(pendW G L.Q)[k]=(b,z):=by
   rw [List.getElem?_eq_getElem hk2] at e1
   exact Option.some.inj e1
  rw [e2]
  simp [wl]
 ·intro x hx
  rcases List.mem_append.1 hx with hx | hx
  ·exact h.dl x hx
  ·have:x=⟨(b:Int),a,G.blk,c,z⟩:=by simpa using hx
   rw [this]
   exact ⟨rfl,Int.natCast_nonneg b⟩
 ·have kg:=h.key.later b1
  obtain ⟨k1,k2⟩:=kg
  refine ⟨k1,?_⟩
  rcases k2 with k2 | ⟨q,cap,cur,e,x1,x2,x3⟩
  ·exact .inl k2
  ·exact .inr ⟨q,cap,cur,e,x1,(K2 q 3 cur (0,0) (by decide) x2).trans x2,x3⟩

theorem pending_any (g dg:Nat) (S:Nat→Prop) (P:Nat→Int) (G:Geo) (L:Lg) (m:LMem) (w:World) (h:LgM w S g dg P G L m) :
  Calls Tryz.prog 27 #[.pointer (some ⟨g,0,none⟩)] w fun e w'=>∃ v V,e=.returned v∧Hid (Gw w.heap.size w' v V∧wl V=pendW G L.Q∧(∀ x ∈ V,x.dl=G.blk∧0 ≤ x.b)∧Below w.heap.size w w'):=by
 have c6:=h.cells.2.2.2.2.2.1
 have KK:=hide (keys_sorted G.blk m.mb G.n (L.M m) w h.map h.pg.ok.n2)
 have K0:Hid (∀ w2 v,Gr w.heap.size w2 v (keysI G.n (L.M m))→Below w.heap.size w w2→∃ a c,v=.slice a (pendL G L.Q).length c∧Hid (∃ V,PdI w G L.Q v (keysI G.n (L.M m)) 0 (.slice none 0 0) w2 V)):=by
  intro w2 v g2 b2
  obtain ⟨a,c,e⟩:=g2.shape
  refine ⟨a,c,?_,[],Gw.nil _ _,by simp [wl],fun x hx=>by simp at hx,rfl,b2,g2⟩
  rw [e,keysI_pend,List.length_map]
 have KI:Hid (∀ u k a n c v V,PdI w G L.Q (.slice a n c) (keysI G.n (L.M m)) k v u V→k < n→∃ kb off b,a=some ⟨kb,off,none⟩∧u.cell? ⟨kb,off + k,none⟩=some (.int .i64 ((b:Nat):Int))∧(pendL G L.Q)[k]?=some b∧n=(pendL G L.Q).length):=by
  intro u k a n c v V hP hk
  obtain ⟨hi,hn⟩:=gr_ihas hP.key
  rw [keysI_pend,List.length_map] at hn
  obtain ⟨kb,off,e,hc⟩:=hi.2 (by omega)
  have hk2:k < (pendL G L.Q).length:=by omega
  refine ⟨kb,off,(pendL G L.Q)[k],e,?_,List.getElem?_eq_getElem hk2,hn⟩
  rw [hc k hk,keysI_pend]
  simp [List.getElem?_eq_getElem hk2]
 have KS:Hid (∀ u kv k v V b,PdI w G L.Q kv (keysI G.n (L.M m)) k v u V→k < (pendL G L.Q).length→(pendL G L.Q)[k]?=some b→_):=fun u kv k v V b hP hk hb=>hP.step h hk b hb
 have KE:Hid (∀ u kv v V,PdI w G L.Q kv (keysI G.n (L.M m)) (pendL G L.Q).length v u V→Hid (Gw w.heap.size u v V∧wl V=pendW G L.Q∧(∀ x ∈ V,x.dl=G.blk∧0 ≤ x.b)∧Below w.heap.size w u)):=fun u kv v V hP=>⟨hP.gw,by rw [hP.is,List.take_of_length_le (by rw [pendW_len]; omega)],hP.dl,hP.bel⟩
 have hnp:(pendL G L.Q).length ≤ 4096:=Nat.le_trans (pendL_len G L.Q) h.pg.ok.n2
 clear h
 generalize keysI G.n (L.M m)=ks at *
 generalize pendL G L.Q=pl at *
 generalize m.mb=mb at *
 generalize m.A=mA at *
 generalize pl.length=np at *
 go_enter Tryz.func27,Tryz.ntmps27
 go_wp2_with fail
 go_at_call 100
 refine (unhide KK).mono ?_
 rintro e w1 ⟨rfl,K2⟩
 clear KK
 go_wp2_with fail
 go_at_call 99
 refine (unhide K2).mono ?_
 rintro e w2 ⟨kv,rfl,X⟩
 obtain ⟨a,c,rfl,Y⟩:=unhide K0 w2 kv (unhide X).1 (unhide X).2
 clear K2 K0 X c6
 go_wp2_with fail
 go_loopw [3,15] (fun v i wr=>∃ k:Nat,k ≤ np∧i=.int .i64 (k:Int)∧Hid (∃ V,PdI w G L.Q (.slice a np c) ks k v wr V)) (fun _ i _=>np - (intOf i).toNat)
 case atStart=>exact ⟨0,Nat.zero_le _,rfl,Y⟩
 case round =>
  rename_i v
  obtain ⟨k,hk,rfl,hJ⟩:=hrel
  clear Y
  by_cases hlt:k < np
  ·obtain ⟨V,hP⟩:=unhide hJ
   obtain ⟨kb,off,b,ea,x1,x2,x3⟩:=unhide KI _ _ _ _ _ _ _ hP hlt
   obtain ⟨y1,y2,KC⟩:=unhide KS _ _ _ _ _ _ hP hlt x2
   clear KI KS KE hJ hP x2 x3
   subst ea
   generalize (mA b).1=r1 at *
   generalize (mA b).2=r2 at *
   go_wp2_with fail
   go_at_call 101
   refine (unhide KC).mono ?_
   rintro e w3 ⟨a3,c3,rfl,Z⟩
   obtain ⟨v',w4,r4,Z2⟩:=unhide Z
   have R4:=hide r4
   have Z3:=hide Z2
   clear KC Z r4 Z2 x1 y1 y2
   go_wp2_with (at_builtin; refine wpList_append_run 39 rfl _ _ rfl _ _ _ rfl rfl (unhide R4) ?_; clear R4)
   go_roundw
   case rel=>exact ⟨k + 1,by omega,by go_num,Z3⟩
   case measure=>simp [intOf]; omega
  ·have ek:k=np:=by omega
   rw [ek] at hJ
   obtain ⟨V,hP⟩:=unhide hJ
   have Z:=unhide KE _ _ _ _ hP
   clear KI KS KE hJ hP
   go_wp2_with fail
   go_ret
   exact ⟨_,_,rfl,Z⟩

end Go.Proofs.YtdfanhjnkjdngaaGreatDoor

/- The contracts of apply and Apply. -/
namespace Go.Proofs.YtdfanhjnkjdngaaGreatDoor
set_option maxRecDepth 100000
set_option maxHeartbeats 8000000
open Go.RowKit Go.Shelf Go.Maps
set_option linter.unusedVariables false

def AJ (w:World) (S:Nat→Prop) (g dg:Nat) (P:Nat→Int) (G:Geo) (L:Lg) (a:Option Addr) (len:Nat) (V:List Wr) (rs:List Stp) (eE:Int) (eD:Dev) (k:Nat) (u:World):Prop :=
 ∃ Su D,Lv u Su g dg P G L D∧Nx S w Su u∧WHas u a len V∧WOut Su a len V∧runE (homeS ((wl V).drop k) ++ rs) D=eE∧runD (homeS ((wl V).drop k) ++ rs) D=eD

theorem lv_write {w:World} {S:Nat→Prop} {g dg:Nat} {P:Nat→Int} {G:Geo} {L:Lg} {D:Dev} {u:World} {Su:Nat→Prop} (h:Lv u Su g dg P G L D) {a:Option Addr} {len:Nat} {V:List Wr} (hV:WHas u a len V) (hO:WOut Su a len V) {k:Nat} (hk:k < len) (hd:(wat V k).dl=G.blk) (i:Nat) (hi:i < G.n) :
  Calls Tryz.prog 183 #[.pointer (some ⟨dg,0,none⟩),.int .i64 (i:Int),.slice (wat V k).da (wat V k).dl (wat V k).dc] u fun e u'=>e=.returned (.int .i64 D.wE)∧∃ S',Lv u' S' g dg P G L (D.wD i (wat V k).z)∧Nx Su u S' u':=by
 obtain ⟨Sl,Sd,m,h1⟩:=h
 have hr:=hV.row k hk
 have ho:Out Sd (wat V k).dl (wat V k).da:=fun hp x e hs=>hO.2 k hk hp x e ((h1.all _).2 (.inr hs))
 rw [hd] at hr ho ⊢
 have:=write_any dg i (wat V k).da (wat V k).dc (wat V k).z Sd D u h1.dd (by rw [h1.nd]; exact hi) (by rw [h1.bd]; exact hr) (by rw [h1.bd]; exact ho)
 rw [h1.bd] at this
 refine this.mono ?_
 rintro e u' ⟨rfl,S',x1,x2⟩
 obtain ⟨y1,y2⟩:=h1.dev x1 x2 (Dev.wD_n D i _)
 exact ⟨rfl,_,y1.lv,y2⟩

theorem AJ.step {w:World} {S:Nat→Prop} {g dg:Nat} {P:Nat→Int} {G:Geo} {L:Lg} {a:Option Addr} {len:Nat} {V:List Wr} {rs:List Stp} {eE:Int} {eD:Dev} {k:Nat} {u:World} (h:AJ w S g dg P G L a len V rs eE eD k u) (hk:k < len) (hd:∀ x ∈ V,x.dl=G.blk) (b:Nat) (hb:(wat V k).b=(b:Int)) (hi:b < G.n) (u1:World) (hu:Below u.heap.size u u1) :
  u1.cell? ⟨g,0,none⟩=some (.pointer (some ⟨dg,0,none⟩)) ∧
  Hid (Calls Tryz.prog 183 #[.pointer (some ⟨dg,0,none⟩),.int .i64 (b:Int),.slice (wat V k).da (wat V k).dl (wat V k).dc] u1 fun e u'=>∃ q:Int,e=.returned (.int .i64 q)∧(q=0 ∨ q=7)∧Hid ((q=0→AJ w S g dg P G L a len V rs eE eD (k + 1) u')∧(q=7→eE=7∧∃ S',Lv u' S' g dg P G L eD∧Nx S w S' u'))):=by
 obtain ⟨Su,D,h1,h2,h3,h4,h5,h6⟩:=h
 have hln:=h3.ln
 have e1:homeS ((wl V).drop k) ++ rs=.w b (wat V k).z :: (homeS ((wl V).drop (k + 1)) ++ rs):=by
  rw [wl_drop (by omega),homeS,hb]
  simp
 rw [e1] at h5 h6
 refine ⟨?_,?_⟩
 ·obtain ⟨_,_,_,x⟩:=h1.below hu
  exact x.ll.cells.1
 ·refine (lv_write (w:=w) (S:=S) (h1.below hu) (h3.later hu) h4 hk (hd _ (wat_mem (by omega))) b hi).mono ?_
  rintro e u' ⟨rfl,S',l1,n1⟩
  obtain ⟨y1,y2⟩:=(h3.later hu).nx n1 h4
  refine ⟨_,rfl,D.wE_two,fun h0=>⟨S',_,l1,(h2.below' hu).trans n1,y1,y2,?_,?_⟩,fun h7=>⟨?_,S',?_,(h2.below' hu).trans n1⟩⟩
  ·rw [runE_ok h0] at h5; exact h5
  ·rw [runD_ok h0] at h6; exact h6
  ·rw [runE_no (by omega)] at h5; exact h5.symm
  ·rw [runD_no (by omega)] at h6; rw [← h6]; exact l1

theorem freed_ok {G:Geo} (hG:G.Ok) {H:Hd} (h:H.Ok G):(G.freed H).Ok G:=by
 have h1:=hG.l1
 exact ⟨h.seq,Nat.mod_lt _ (by omega),Nat.zero_le _⟩

theorem apply_tail {w:World} {S:Nat→Prop} {g dg:Nat} {P:Nat→Int} {G:Geo} {L:Lg} {D:Dev} {u:World} {Su:Nat→Prop} (h:Lv u Su g dg P G L D) (hx:Nx S w Su u) {eE:Int} {eD:Dev} (e1:runE (stlS G (G.freed L.h)) D=eE) (e2:runD (stlS G (G.freed L.h)) D=eD) (u1:World) (hu:Nx Su u Su u1) (hl:Lv u1 Su g dg P G L D) :
  Calls Tryz.prog 182 #[.pointer (some ⟨g,0,none⟩),Hv (G.freed L.h).fn] u1 fun e u2=>e=.returned (.int .i64 eE) ∧
   (eE=0→∃ mb u3,u2.cell? ⟨g,16,none⟩=some (.map (some mb))∧Hid (∀ ty,(Builtin.clear_ #[121] ty #[.map (some mb)]).run Tryz.prog u2=.ok (.tuple #[]) u3)∧Hid (∃ S',Lv u3 S' g dg P G { L with h:=G.freed L.h,Q:=fun _=>none } eD∧Nx S w S' u3)) ∧
   (eE ≠ 0→Hid (∃ S',Lv u2 S' g dg P G L eD∧Nx S w S' u2)):=by
 have hG:G.Ok:=by obtain ⟨_,_,_,x⟩:=h; exact x.ll.pg.ok
 have hh:L.h.Ok G:=by obtain ⟨_,_,_,x⟩:=h; exact x.ll.hok
 refine (settle_lj g dg Su P G L D (G.freed L.h) (freed_ok hG hh) u1 hl none 0 [] (WHas.none _) (WOut.none _)).mono ?_
 rintro e u2 ⟨rfl,J⟩
 rw [e1,e2] at J
 refine ⟨by rw [e1],fun h0=>?_,fun h0=>?_⟩
 ·rw [if_pos h0] at J
  obtain ⟨Sl,m,l1,l2⟩:=(unhide J).own
  obtain ⟨u3,r3,l3,n3⟩:=l1.clr
  obtain ⟨S',l4,n4⟩:=(l2 _ _ _ _ l3 n3).fin
  exact ⟨m.mb,u3,l1.cells.2.2.2.2.2.1,r3,S',l4,(hx.trans hu).trans n4⟩
 ·rw [if_neg h0] at J
  obtain ⟨S',l4,n4⟩:=(unhide J).fin
  exact ⟨S',l4,(hx.trans hu).trans n4⟩

end Go.Proofs.YtdfanhjnkjdngaaGreatDoor

/- The contracts of apply and Apply: the walks. -/
namespace Go.Proofs.YtdfanhjnkjdngaaGreatDoor
set_option maxRecDepth 100000
set_option maxHeartbeats 8000000
open Go.RowKit Go.Shelf Go.Maps
set_option linter.unusedVariables false

theorem apl_nums {G:Geo} (hG:G.Ok) (t u:Nat) (ht:t < G.lg) (hu:u ≤ G.lg):IntKind.i64.wrap ((t:Int) + (u:Int))=((t + u:Nat):Int)∧((t + u:Nat):Int).tmod (G.lg:Int)=(((t + u) % G.lg:Nat):Int)∧(G.lg:Int) ≠ 0:=by
 have h1:=hG.l1
 have h2:=hG.l2
 refine ⟨?_,rfl,by omega⟩
 rw [IntKind.wrap_i64]
 omega

theorem apply_none (g dg:Nat) (S:Nat→Prop) (P:Nat→Int) (G:Geo) (L:Lg) (D:Dev) (w:World) (h:Lv w S g dg P G L D) (h0:L.h.used=0) :
  Calls Tryz.prog 91 #[.pointer (some ⟨g,0,none⟩)] w fun e w'=>e=.returned (.int .i64 0)∧w=w':=by
 have c5:w.cell? ⟨g,15,none⟩=some (.int .i64 0):=by
  obtain ⟨_,_,_,x⟩:=h
  have:=x.ll.cells.2.2.2.2.1
  rwa [h0] at this
 clear h h0
 go_enter Tryz.func91,Tryz.ntmps91
 go_wp2
 go_ret
 exact ⟨rfl,rfl⟩

theorem apply_first {w:World} {S:Nat→Prop} {g dg:Nat} {P:Nat→Int} {G:Geo} {L:Lg} {D:Dev} (h:Lv w S g dg P G L D) :
  Calls Tryz.prog 27 #[.pointer (some ⟨g,0,none⟩)] w fun e w1=>∃ a len c V,e=.returned (.slice a len c)∧len ≤ 4096∧Hid ((∀ x ∈ V,x.dl=G.blk)∧(∀ k,k < len→∃ b:Nat,(wat V k).b=(b:Int)∧b < G.n)∧AJ w S g dg P G L a len V (stlS G (G.freed L.h)) (runE (aplS G L) D) (runD (aplS G L) D) 0 w1):=by
 have hL:=h
 obtain ⟨Sl,Sd,m,x⟩:=h
 refine (pending_any g dg Sl P G L m w x.ll).mono ?_
 rintro e w1 ⟨v,V,rfl,X⟩
 obtain ⟨g1,g2,g3,g4⟩:=unhide X
 obtain ⟨a,c,rfl,_⟩:=g1.shape
 have hh:=g1.has.1
 have hlen:V.length=(pendL G L.Q).length:=by rw [← wl_len,g2,pendW_len]
 refine ⟨a,V.length,c,V,rfl,?_,fun x hx=>(g3 x hx).1,fun k hk=>?_,S,D,hL.below g4,(Nx.refl S w).below' g4,hh,g1.out (fun k hs=>hL.lt hs),?_,?_⟩
 ·rw [hlen]
  exact Nat.le_trans (pendL_len G L.Q) x.ll.pg.ok.n2
 ·have e1:(wl V)[k]?=some ((wat V k).b.toNat,(wat V k).z):=by simp [wl,wat,List.getElem?_eq_getElem hk]
  rw [g2] at e1
  unfold pendW at e1
  rw [List.getElem?_map] at e1
  obtain ⟨b,hb,e2⟩:=Option.map_eq_some_iff.1 e1
  have hbn:=(pendL_mem.1 (List.mem_of_getElem? hb)).1
  refine ⟨b,?_,hbn⟩
  have e3:b=(wat V k).b.toNat:=(Prod.mk.inj e2).1
  have hnn:0 ≤ (wat V k).b:=(g3 _ (wat_mem hk)).2
  omega
 ·rw [List.drop_zero,g2]; rfl
 ·rw [List.drop_zero,g2]; rfl

theorem apply_box {g dg:Nat} {P:Nat→Int} {G:Geo} {L:Lg} {D:Dev} {u:World} {Su:Nat→Prop} (h:Lv u Su g dg P G L D) (u1:World) (hu1:u1=u.alloc (.cells (Hc L.h.fn) 57)) :
  u1.cell? ⟨u.heap.size,0,none⟩=some (.int .i64 (L.h.seq:Int))∧u1.cell? ⟨u.heap.size,1,none⟩=some (.int .i64 (L.h.tail:Int))∧u1.cell? ⟨u.heap.size,2,none⟩=some (.int .i64 (L.h.used:Int))∧(∀ k,u1.frozen? ⟨u.heap.size,k,none⟩=false)∧u1.cell? ⟨g,4,none⟩=some (.int .i64 (G.lg:Int)) ∧
   Hid (∀ u2,u2=((u1.setCell ⟨u.heap.size,1,none⟩ (.int .i64 (((L.h.tail:Int) + (L.h.used:Int)) % (G.lg:Int)))).setCell ⟨u.heap.size,2,none⟩ (.int .i64 0)).drew →
    Bl u2 u.heap.size (Hc (G.freed L.h).fn) 57∧Lv u2 Su g dg P G L D∧Nx Su u Su u2):=by
 subst hu1
 have hb:Below u.heap.size u (u.alloc (.cells (Hc L.h.fn) 57)):=(Below.refl _ u).alloc (Nat.le_refl _) _
 have z:=Bl.new u (Hc L.h.fn) 57
 have l1:=h.below hb
 have n1:=(Nx.refl Su u).below' hb
 have hno:¬ Su u.heap.size:=fun hs=>by have:=h.lt hs; omega
 have h0:0 < u.heap.size:=by obtain ⟨_,_,_,x⟩:=h; exact x.tab.lt
 refine ⟨z.cell 0 _ rfl,z.cell 1 _ rfl,z.cell 2 _ rfl,z.free,?_,?_⟩
 ·obtain ⟨_,_,_,x⟩:=l1
  have:=x.ll.cells.2.1 3 (by omega)
  rwa [x.ll.pg.p3] at this
 ·have et:((L.h.tail:Int) + (L.h.used:Int)) % (G.lg:Int)=(((L.h.tail + L.h.used) % G.lg:Nat):Int):=by simp
  rw [et]
  rintro u2 rfl
  have z2:=(z.set 1 (.int .i64 (((L.h.tail + L.h.used) % G.lg:Nat):Int))).set 2 (.int .i64 0)
  have e0:((Hc L.h.fn).setIfInBounds 1 (.int .i64 (((L.h.tail + L.h.used) % G.lg:Nat):Int))).setIfInBounds 2 (.int .i64 0)=Hc (G.freed L.h).fn:=rfl
  rw [e0] at z2
  have hk:∀ k,k ≠ u.heap.size→(((u.alloc (.cells (Hc L.h.fn) 57)).setCell ⟨u.heap.size,1,none⟩ (.int .i64 (((L.h.tail + L.h.used) % G.lg:Nat):Int))).setCell ⟨u.heap.size,2,none⟩ (.int .i64 0)).heap[k]?=(u.alloc (.cells (Hc L.h.fn) 57)).heap[k]?:=fun k hk=>(Below.heap_setCell _ ⟨u.heap.size,2,none⟩ _ k hk).trans (Below.heap_setCell _ ⟨u.heap.size,1,none⟩ _ k hk)
  have hsz:(((u.alloc (.cells (Hc L.h.fn) 57)).setCell ⟨u.heap.size,1,none⟩ (.int .i64 (((L.h.tail + L.h.used) % G.lg:Nat):Int))).setCell ⟨u.heap.size,2,none⟩ (.int .i64 0)).heap.size=(u.alloc (.cells (Hc L.h.fn) 57)).heap.size:=by simp [World.setCell]
  have hn2:Nx Su u Su (((u.alloc (.cells (Hc L.h.fn) 57)).setCell ⟨u.heap.size,1,none⟩ (.int .i64 (((L.h.tail + L.h.used) % G.lg:Nat):Int))).setCell ⟨u.heap.size,2,none⟩ (.int .i64 0)):=⟨⟨n1.fr.os,n1.fr.tape,n1.fr.output,by rw [hsz]; exact n1.fr.size,fun k hk' hs=>(hk k (by omega)).trans (n1.fr.block k hk' hs)⟩,n1.sub⟩
  have hl2:Lv (((u.alloc (.cells (Hc L.h.fn) 57)).setCell ⟨u.heap.size,1,none⟩ (.int .i64 (((L.h.tail + L.h.used) % G.lg:Nat):Int))).setCell ⟨u.heap.size,2,none⟩ (.int .i64 0)) Su g dg P G L D:=by
   obtain ⟨Sl,Sd,m,hl⟩:=l1
   exact (hl.keptAll (fun k hs=>hk k (fun e=>hno (by rw [← e]; exact hs))) (hk 0 (by omega)) (by rw [hsz]; exact Nat.le_refl _)).lv
  exact ⟨z2.drew,hl2.below ((Below.refl _ _).drew),hn2.drew⟩

theorem apply_some (g dg:Nat) (S:Nat→Prop) (P:Nat→Int) (G:Geo) (L:Lg) (D:Dev) (w:World) (h:Lv w S g dg P G L D) (h0:L.h.used ≠ 0) :
  Calls Tryz.prog 91 #[.pointer (some ⟨g,0,none⟩)] w fun e w'=>e=.returned (.int .i64 (runE (aplS G L) D))∧∃ S',Lv w' S' g dg P G (if runE (aplS G L) D=0 then { L with h:=G.freed L.h,Q:=fun _=>none } else L) (runD (aplS G L) D)∧Nx S w S' w':=by
 have K1:=hide (apply_first h)
 have c5:w.cell? ⟨g,15,none⟩=some (.int .i64 (L.h.used:Int)):=by
  obtain ⟨_,_,_,x⟩:=h
  exact x.ll.cells.2.2.2.2.1
 have d5:((L.h.used:Int) == 0)=false:=by simpa using h0
 have hG:G.Ok:=by obtain ⟨_,_,_,x⟩:=h; exact x.ll.pg.ok
 have hh:L.h.Ok G:=by obtain ⟨_,_,_,x⟩:=h; exact x.ll.hok
 obtain ⟨s1,s2,s3⟩:=apl_nums hG L.h.tail L.h.used hh.tail hh.used
 have KS:Hid (∀ a len V k u,AJ w S g dg P G L a len V (stlS G (G.freed L.h)) (runE (aplS G L) D) (runD (aplS G L) D) k u→k < len→(∀ x ∈ V,x.dl=G.blk)→∀ b:Nat,(wat V k).b=(b:Int)→b < G.n→∀ u1,Below u.heap.size u u1→_):=fun a len V k u hA hk hd b hb hi u1 hu=>hA.step hk hd b hb hi u1 hu
 have KC:Hid (∀ a len V k u,AJ w S g dg P G L a len V (stlS G (G.freed L.h)) (runE (aplS G L) D) (runD (aplS G L) D) k u→k < len→∃ kb off,a=some ⟨kb,off,none⟩∧u.cell? ⟨kb,off + k * 2,none⟩=some (.int .i64 (wat V k).b)∧u.cell? ⟨kb,off + k * 2 + 1,none⟩=some (.slice (wat V k).da (wat V k).dl (wat V k).dc)):=fun a len V k u hA hk=>by
  obtain ⟨_,_,_,_,h3,_⟩:=hA
  obtain ⟨kb,off,e,_,hc⟩:=h3.cel (by omega)
  exact ⟨kb,off,e,(hc k hk).1,(hc k hk).2⟩
 have KE:Hid (∀ a len V u,AJ w S g dg P G L a len V (stlS G (G.freed L.h)) (runE (aplS G L) D) (runD (aplS G L) D) len u→∃ Su D',Lv u Su g dg P G L D'∧Nx S w Su u∧runE (stlS G (G.freed L.h)) D'=runE (aplS G L) D∧runD (stlS G (G.freed L.h)) D'=runD (aplS G L) D):=fun a len V u hA=>by
  obtain ⟨Su,D',h1,h2,h3,h4,h5,h6⟩:=hA
  rw [List.drop_of_length_le (by rw [wl_len,h3.ln]; omega)] at h5 h6
  exact ⟨Su,D',h1,h2,h5,h6⟩
 clear h h0 hG hh
 generalize hrE:runE (aplS G L) D=eE at *
 generalize runD (aplS G L) D=eD at *
 have hE7:eE=0 ∨ eE=7:=by rw [← hrE]; exact runE_two _ _
 clear hrE
 obtain ⟨LL,hLL⟩:∃ LL,(if eE=0 then { L with h:=G.freed L.h,Q:=fun _=>none } else L)=LL:=⟨_,rfl⟩
 rw [hLL]
 have HL:Hid ((eE=0→LL={ L with h:=G.freed L.h,Q:=fun _=>none })∧(eE ≠ 0→LL=L)):=⟨fun h=>by rw [← hLL,if_pos h],fun h=>by rw [← hLL,if_neg h]⟩
 clear hLL
 go_enter Tryz.func91,Tryz.ntmps91
 go_wp2_with fail
 go_at_call 27
 refine (unhide K1).mono ?_
 rintro e w1 ⟨a,len,c,V,rfl,hl,X⟩
 obtain ⟨v1,v2,v3⟩:=unhide X
 have V1:=hide v1
 have V2:=hide v2
 have V3:=hide v3
 clear K1 X v1 v2 v3 c5 d5
 go_wp2_with fail
 go_loopw [17] (fun i wr=>∃ k:Nat,k ≤ len∧i=.int .i64 (k:Int)∧Hid (AJ w S g dg P G L a len V (stlS G (G.freed L.h)) eE eD k wr)) (fun i _=>len - (intOf i).toNat)
 case atStart=>exact ⟨0,Nat.zero_le _,rfl,V3⟩
 case round =>
  obtain ⟨k,hk,rfl,hJ⟩:=hrel
  clear V3
  by_cases hlt:k < len
  ·obtain ⟨kb,off,ea,x1,x2⟩:=unhide KC _ _ _ _ _ (unhide hJ) hlt
   obtain ⟨b,hb,hbn⟩:=unhide V2 k hlt
   rw [hb] at x1
   obtain ⟨d0,KW⟩:=unhide KS _ _ _ _ _ (unhide hJ) hlt (unhide V1) b hb hbn (wr.alloc (.cells #[.int .i64 (b:Int),.slice (wat V k).da (wat V k).dl (wat V k).dc] 52)).drew (((Below.refl _ wr).alloc (Nat.le_refl _) _).drew)
   have HC:=hide (Bl.new wr #[.int .i64 (b:Int),.slice (wat V k).da (wat V k).dl (wat V k).dc] 52)
   clear KC KS KE hJ hb hbn V1 V2 s1 s2 s3 hE7
   subst ea
   go_upto_region 6 with fail
   change Code.wp _ _ _ _ (wr.alloc (.cells #[.int .i64 (b:Int),.slice (wat V k).da (wat V k).dl (wat V k).dc] 52))
   have d0':(wr.alloc (.cells #[.int .i64 (b:Int),.slice (wat V k).da (wat V k).dl (wat V k).dc] 52)).cell? ⟨g,0,none⟩=some (.pointer (some ⟨dg,0,none⟩)):=d0
   clear d0
   generalize wr.alloc (.cells #[.int .i64 (b:Int),.slice (wat V k).da (wat V k).dl (wat V k).dc] 52)=ub at *
   generalize wr.heap.size=gb at *
   have b0:=(unhide HC).cell 0 (.int .i64 (b:Int)) rfl
   have b1:=(unhide HC).cell 1 (.slice (wat V k).da (wat V k).dl (wat V k).dc) rfl
   clear x1 x2 HC
   go_cut [5] (fun cc wx=>∃ q:Int,cc=.int .i64 q∧(q=0 ∨ q=7)∧Hid ((q=0→AJ w S g dg P G L (some ⟨kb,off,none⟩) len V (stlS G (G.freed L.h)) eE eD (k + 1) wx)∧(q=7→eE=7∧∃ S',Lv wx S' g dg P G L eD∧Nx S w S' wx)))
   case first =>
    clear hl hk hlt
    go_region_with (go_at_call 183; refine (unhide KW).mono ?_; rintro e u3 ⟨q,rfl,hq,Z⟩)
    all_goals
     go_wp2_with fail
     go_meet
     exact ⟨q,rfl,hq,Z⟩
   case rest =>
    obtain ⟨q,rfl,hq,Z⟩:=hcut
    clear KW d0' b0 b1
    rcases hq with rfl | rfl
    ·have Z2:=hide ((unhide Z).1 rfl)
     clear Z
     go_wp2_with fail
     go_roundw
     case rel=>exact ⟨k + 1,by omega,by go_num,Z2⟩
     case measure=>simp [intOf]; omega
    ·have Z2:=hide ((unhide Z).2 rfl)
     clear Z
     go_wp2_with fail
     go_ret
     obtain ⟨e7,S',l1,n1⟩:=unhide Z2
     have eL:=(unhide HL).2 (by omega)
     rw [eL]
     subst e7
     exact ⟨rfl,S',l1,n1⟩
  ·have ek:k=len:=by omega
   rw [ek] at hJ
   obtain ⟨Su,D',l1,n1,e1,e2⟩:=unhide KE _ _ _ _ (unhide hJ)
   obtain ⟨x0,x1,x2,x3,x4,HB⟩:=apply_box l1 _ rfl
   have KT:Hid (∀ u1,Nx Su wr Su u1→Lv u1 Su g dg P G L D'→_):=fun u1 hu hl=>apply_tail l1 n1 e1 e2 u1 hu hl
   have c13:wr.cell? ⟨g,13,none⟩=some (.int .i64 (L.h.seq:Int))∧wr.cell? ⟨g,14,none⟩=some (.int .i64 (L.h.tail:Int))∧wr.cell? ⟨g,15,none⟩=some (.int .i64 (L.h.used:Int)):=by
    obtain ⟨_,_,_,x⟩:=l1
    exact ⟨x.ll.cells.2.2.1,x.ll.cells.2.2.2.1,x.ll.cells.2.2.2.2.1⟩
   obtain ⟨c3,c4,c5⟩:=c13
   clear KC KS KE hJ V1 V2 l1 n1 e1 e2
   go_upto_region 11 with fail
   clear hlt hk ek hl
   change Code.wp _ _ _ _ (wr.alloc (.cells (Hc L.h.fn) 57))
   go_cut [] (fun wx=>Hid (Bl wx wr.heap.size (Hc (G.freed L.h).fn) 57∧Lv wx Su g dg P G L D'∧Nx Su wr Su wx))
   case first =>
    clear KT HL hE7 c3 c4 c5
    generalize wr.alloc (.cells (Hc L.h.fn) 57)=ub at *
    go_region
    all_goals
     go_wp2_with fail
     go_meet
     exact unhide HB _ rfl
   case rest =>
    have K2:=hide (unhide KT _ (unhide hcut).2.2 (unhide hcut).2.1)
    have y0:=(unhide hcut).1.cell 0 (.int .i64 (G.freed L.h).seq) rfl
    have y1:=(unhide hcut).1.cell 1 (.int .i64 (G.freed L.h).tail) rfl
    have y2:=(unhide hcut).1.cell 2 (.int .i64 (G.freed L.h).used) rfl
    clear KT hcut HB x0 x1 x2 x3 x4 c3 c4 c5 s1 s2 s3
    change Hid (Calls Tryz.prog 182 #[.pointer (some ⟨g,0,none⟩),.agg #[.int .i64 ((G.freed L.h).seq:Int),.int .i64 ((G.freed L.h).tail:Int),.int .i64 ((G.freed L.h).used:Int)]] _ _) at K2
    generalize G.freed L.h=HF at *
    rcases hE7 with rfl | rfl
    ·go_wp2_with fail
     go_at_call 182
     refine (unhide K2).mono ?_
     rintro e u2 ⟨rfl,Z,_⟩
     obtain ⟨mb,u3,m1,R3,X3⟩:=Z trivial
     have r3:=unhide R3
     clear K2 Z y0 y1 y2
     go_wp2_with fail
     go_ret
     have eL:=(unhide HL).1 trivial
     rw [eL]
     exact ⟨rfl,unhide X3⟩
    ·go_wp2_with fail
     go_at_call 182
     refine (unhide K2).mono ?_
     rintro e u2 ⟨rfl,_,Z⟩
     have X3:=Z (by decide)
     clear K2 Z y0 y1 y2
     go_wp2_with fail
     go_ret
     have eL:=(unhide HL).2 (by decide)
     rw [eL]
     exact ⟨rfl,unhide X3⟩

theorem apply_any (g dg:Nat) (S:Nat→Prop) (P:Nat→Int) (G:Geo) (L:Lg) (D:Dev) (w:World) (h:Lv w S g dg P G L D) :
  Calls Tryz.prog 91 #[.pointer (some ⟨g,0,none⟩)] w fun e w'=>e=.returned (.int .i64 (apE G L D))∧∃ S',Lv w' S' g dg P G (apL G L D) (apD G L D)∧Nx S w S' w':=by
 unfold apE apL apD
 by_cases h0:L.h.used=0
 ·rw [if_pos h0,if_pos h0,if_pos h0]
  refine (apply_none g dg S P G L D w h h0).mono ?_
  rintro e w' ⟨rfl,rfl⟩
  exact ⟨rfl,S,h,Nx.refl _ _⟩
 ·rw [if_neg h0,if_neg h0,if_neg h0]
  exact apply_some g dg S P G L D w h h0

end Go.Proofs.YtdfanhjnkjdngaaGreatDoor

/- The contract of refusesList. -/
namespace Go.Proofs.YtdfanhjnkjdngaaGreatDoor
set_option maxRecDepth 100000
set_option maxHeartbeats 8000000
open Go.RowKit Go.Shelf Go.Maps
set_option linter.unusedVariables false

def wv (V:List Wr):List (Int × Nat):=V.map (fun v=>(v.b,v.dl))

theorem LgM.below' {u u':World} {S:Nat→Prop} {g dg:Nat} {P:Nat→Int} {G:Geo} {L:Lg} {m:LMem} (h:LgM u S g dg P G L m) (hb:Below u.heap.size u u'):LgM u' S g dg P G L m:=h.kept (fun k hk=>hb.block k (h.lt k hk)) (fun _ h=>h) (fun k hk=>Nat.lt_of_lt_of_le (h.lt k hk) hb.size)

theorem refl_arg (g dg:Nat) (S:Nat→Prop) (P:Nat→Int) (G:Geo) (L:Lg) (m:LMem) (w:World) (h:LgM w S g dg P G L m) (a:Option Addr) (len cap:Nat) (V:List Wr) (hV:WHas w a len V) (hl:len ≤ 4398046511104) (hbad:¬ ∀ j,j < len→(wat V j).dl=G.blk) :
  Calls Tryz.prog 82 #[.pointer (some ⟨g,0,none⟩),.slice a len cap] w fun e w'=>e=.returned (.int .i64 1)∧Below w.heap.size w w':=by
 have KC:Hid (∀ u k,k < len→Below w.heap.size w u→∃ kb off,a=some ⟨kb,off,none⟩∧u.cell? ⟨kb,off + k * 2,none⟩=some (.int .i64 (wat V k).b)∧u.cell? ⟨kb,off + k * 2 + 1,none⟩=some (.slice (wat V k).da (wat V k).dl (wat V k).dc)):=fun u k hk hb=>by
  obtain ⟨kb,off,e,hkb,hc⟩:=hV.cel (by omega)
  exact ⟨kb,off,e,(hb.cell (p:=⟨kb,_,none⟩) hkb).trans (hc k hk).1,(hb.cell (p:=⟨kb,_,none⟩) hkb).trans (hc k hk).2⟩
 have KB:Hid (∀ u,Below w.heap.size w u→u.cell? ⟨g,1,none⟩=some (.int .i64 (G.blk:Int))):=fun u hb=>by
  have:=(h.below' hb).cells.2.1 0 (by omega)
  rwa [h.pg.p0] at this
 have d0:((len:Int) == 0)=false:=by
  have:len ≠ 0:=fun e=>hbad (fun j hj=>absurd hj (by omega))
  simpa using this
 have HB:=hide hbad
 clear h hV hbad
 go_enter Tryz.func82,Tryz.ntmps82
 go_wp2_with fail
 go_loopw [13] (fun i wr=>∃ k:Nat,k ≤ len∧i=.int .i64 (k:Int)∧Hid (Below w.heap.size w wr)∧Hid (∀ j,j < k→(wat V j).dl=G.blk)) (fun i _=>len - (intOf i).toNat)
 case atStart=>exact ⟨0,Nat.zero_le _,rfl,Below.refl _ _,fun j hj=>absurd hj (by omega)⟩
 case round =>
  obtain ⟨k,hk,rfl,hJ,hR⟩:=hrel
  by_cases hlt:k < len
  ·obtain ⟨kb,off,ea,x1,x2⟩:=unhide KC wr k hlt (unhide hJ)
   have J2:=hide ((unhide hJ).alloc (unhide hJ).size (.cells #[.int .i64 (wat V k).b,.slice (wat V k).da (wat V k).dl (wat V k).dc] 52))
   have b0:=unhide KB _ (unhide J2)
   have b1:=(Bl.new wr #[.int .i64 (wat V k).b,.slice (wat V k).da (wat V k).dl (wat V k).dc] 52).cell 1 (.slice (wat V k).da (wat V k).dl (wat V k).dc) rfl
   have hR2:Hid ((wat V k).dl=G.blk→∀ j,j < k + 1→(wat V j).dl=G.blk):=fun e j hj=>by
    by_cases e1:j=k
    ·rw [e1]; exact e
    ·exact unhide hR j (by omega)
   clear KC KB hR hJ
   subst ea
   generalize (wat V k).b=xb at *
   generalize (wat V k).da=xa at *
   generalize (wat V k).dc=xc at *
   generalize (wat V k).dl=xl at *
   go_upto_region 6 with fail
   change Code.wp _ _ _ _ (wr.alloc (.cells #[.int .i64 xb,.slice xa xl xc] 52))
   generalize wr.alloc (.cells #[.int .i64 xb,.slice xa xl xc] 52)=ub at *
   generalize wr.heap.size=gb at *
   by_cases e:xl=G.blk
   ·have d1:((xl:Int) != (G.blk:Int))=false:=by rw [e]; simp
    have R2:=hide (unhide hR2 e)
    clear hR2 e x1 x2
    go_quiet (fail)
    go_wp2
    go_roundw
    case rel=>exact ⟨k + 1,by omega,by go_num,below_drewN (unhide J2) _,R2⟩
    case measure=>simp [intOf]; omega
   ·have d1:((xl:Int) != (G.blk:Int))=true:=by simpa using fun e':(xl:Int)=(G.blk:Int)=>e (by omega)
    clear hR2 e x1 x2
    go_quiet (fail)
    go_wp2
    go_ret
    exact ⟨rfl,below_drewN (unhide J2) _⟩
  ·exfalso
   obtain rfl:k=len:=by omega
   exact unhide HB (unhide hR)

theorem LgM.plan {u:World} {S:Nat→Prop} {g dg:Nat} {P:Nat→Int} {G:Geo} {L:Lg} {m:LMem} (h:LgM u S g dg P G L m):u.cell? ⟨g,1,none⟩=some (.int .i64 (P 0))∧u.cell? ⟨g,2,none⟩=some (.int .i64 (P 1))∧u.cell? ⟨g,3,none⟩=some (.int .i64 (P 2))∧u.cell? ⟨g,4,none⟩=some (.int .i64 (P 3))∧u.cell? ⟨g,5,none⟩=some (.int .i64 (P 4))∧u.cell? ⟨g,6,none⟩=some (.int .i64 (P 5))∧u.cell? ⟨g,7,none⟩=some (.int .i64 (P 6))∧u.cell? ⟨g,8,none⟩=some (.int .i64 (P 7))∧u.cell? ⟨g,9,none⟩=some (.int .i64 (P 8))∧u.cell? ⟨g,10,none⟩=some (.int .i64 (P 9))∧u.cell? ⟨g,11,none⟩=some (.int .i64 (P 10))∧u.cell? ⟨g,12,none⟩=some (.int .i64 (P 11)) :=
 ⟨h.cells.2.1 0 (by omega),h.cells.2.1 1 (by omega),h.cells.2.1 2 (by omega),h.cells.2.1 3 (by omega),h.cells.2.1 4 (by omega),h.cells.2.1 5 (by omega),h.cells.2.1 6 (by omega),h.cells.2.1 7 (by omega),h.cells.2.1 8 (by omega),h.cells.2.1 9 (by omega),h.cells.2.1 10 (by omega),h.cells.2.1 11 (by omega)⟩

def lst2E (G:Geo) (seq:Nat) (ns:List Int):Int:=if blkE G ns=0 then (if G.lg < G.uses ns.length then 5 else if 4294967295 - seq < G.parts ns.length then 8 else 0) else blkE G ns

structure RF (w:World) (g:Nat) (P:Nat→Int) (G:Geo) (L:Lg) (u:World):Prop where
 bel:Below w.heap.size w u
 pl:u.cell? ⟨g,1,none⟩=some (.int .i64 (P 0))∧u.cell? ⟨g,2,none⟩=some (.int .i64 (P 1))∧u.cell? ⟨g,3,none⟩=some (.int .i64 (P 2))∧u.cell? ⟨g,4,none⟩=some (.int .i64 (P 3))∧u.cell? ⟨g,5,none⟩=some (.int .i64 (P 4))∧u.cell? ⟨g,6,none⟩=some (.int .i64 (P 5))∧u.cell? ⟨g,7,none⟩=some (.int .i64 (P 6))∧u.cell? ⟨g,8,none⟩=some (.int .i64 (P 7))∧u.cell? ⟨g,9,none⟩=some (.int .i64 (P 8))∧u.cell? ⟨g,10,none⟩=some (.int .i64 (P 9))∧u.cell? ⟨g,11,none⟩=some (.int .i64 (P 10))∧u.cell? ⟨g,12,none⟩=some (.int .i64 (P 11))
 lg:u.cell? ⟨g,4,none⟩=some (.int .i64 (G.lg:Int))
 sq:u.cell? ⟨g,13,none⟩=some (.int .i64 (L.h.seq:Int))

theorem RF.of {w u:World} {S:Nat→Prop} {g dg:Nat} {P:Nat→Int} {G:Geo} {L:Lg} {m:LMem} (h:LgM w S g dg P G L m) (hb:Below w.heap.size w u):RF w g P G L u:=by
 have h1:=h.below' hb
 have:=h1.cells.2.1 3 (by omega)
 rw [h.pg.p3] at this
 exact ⟨hb,h1.plan,this,h1.cells.2.2.1⟩

theorem refl_rest (g dg:Nat) (S:Nat→Prop) (P:Nat→Int) (G:Geo) (L:Lg) (m:LMem) (w:World) (h:LgM w S g dg P G L m) (a:Option Addr) (len cap:Nat) (V:List Wr) (hV:WHas w a len V) (hl:len ≤ 4398046511104) (hgood:∀ j,j < len→(wat V j).dl=G.blk) (hz:len ≠ 0) :
  Calls Tryz.prog 82 #[.pointer (some ⟨g,0,none⟩),.slice a len cap] w fun e w'=>e=.returned (.int .i64 (lst2E G L.h.seq (V.map (·.b))))∧Below w.heap.size w w':=by
 have KC:Hid (∀ u k,k < len→Below w.heap.size w u→∃ kb off,a=some ⟨kb,off,none⟩∧u.cell? ⟨kb,off + k * 2,none⟩=some (.int .i64 (wat V k).b)∧u.cell? ⟨kb,off + k * 2 + 1,none⟩=some (.slice (wat V k).da (wat V k).dl (wat V k).dc)):=fun u k hk hb=>by
  obtain ⟨kb,off,e,hkb,hc⟩:=hV.cel (by omega)
  exact ⟨kb,off,e,(hb.cell (p:=⟨kb,_,none⟩) hkb).trans (hc k hk).1,(hb.cell (p:=⟨kb,_,none⟩) hkb).trans (hc k hk).2⟩
 have KB:Hid (∀ u,Below w.heap.size w u→u.cell? ⟨g,1,none⟩=some (.int .i64 (G.blk:Int))):=fun u hb=>by
  have:=(h.below' hb).cells.2.1 0 (by omega)
  rwa [h.pg.p0] at this
 have hlen:(V.map (·.b)).length=len:=by rw [List.length_map,hV.ln]
 have KF:Hid (∀ u,Below w.heap.size w u→RF w g P G L u):=fun u hb=>RF.of h hb
 have KN:Hid (∀ u,Below w.heap.size w u→Calls Tryz.prog 178 #[.slice a len cap] u fun e w'=>e=.returned (.slice (some ⟨u.heap.size,0,none⟩) len len)∧Hid (IHas w' (some ⟨u.heap.size,0,none⟩) len (V.map (·.b)))∧Below u.heap.size u w'):=fun u hb=>named_any a len cap V u (hV.later hb) hl
 have KR:Hid (∀ u x,IHas u x len (V.map (·.b))→Calls Tryz.prog 177 #[Pv P,.slice x len len] u fun e w'=>e=.returned (.int .i64 (blkE G (V.map (·.b))))∧Below u.heap.size u w'):=fun u x hi=>refusesBlocks_any P G h.pg x len len _ u hi hl
 have KU:Hid (∀ u,Calls Tryz.prog 179 #[Pv P,.int .i64 (len:Int)] u fun e w'=>e=.returned (.int .i64 (G.uses len:Int))∧Below u.heap.size u w'):=fun u=>uses_any P G h.pg len (by omega) u
 have KT:Hid (∀ u,Calls Tryz.prog 180 #[Pv P,.int .i64 (len:Int)] u fun e w'=>e=.returned (.int .i64 (G.parts len:Int))∧Below u.heap.size u w'):=fun u=>parts_any P G h.pg len (by omega) u
 have hsq:IntKind.i64.wrap (4294967295 - (L.h.seq:Int))=((4294967295 - L.h.seq:Nat):Int):=by
  have:=h.hok.seq
  rw [IntKind.wrap_i64]
  omega
 have HP3:Hid (P 3=(G.lg:Int)):=h.pg.p3
 have HSQ:=hide h.hok.seq
 have hb3:blkE G (V.map (·.b))=0 ∨ blkE G (V.map (·.b)) ≠ 0:=by omega
 have HR:Hid (∀ r,lst2E G L.h.seq (V.map (·.b))=r→(blkE G (V.map (·.b)) ≠ 0→blkE G (V.map (·.b))=r)∧(blkE G (V.map (·.b))=0→G.lg < G.uses len→5=r)∧(blkE G (V.map (·.b))=0→¬ G.lg < G.uses len→4294967295 - L.h.seq < G.parts len→8=r)∧(blkE G (V.map (·.b))=0→¬ G.lg < G.uses len→¬ 4294967295 - L.h.seq < G.parts len→0=r)):=by
  rintro r rfl
  unfold lst2E
  rw [hlen]
  exact ⟨fun h1=>by rw [if_neg h1],fun h1 h2=>by rw [if_pos h1,if_pos h2],fun h1 h2 h3=>by rw [if_pos h1,if_neg h2,if_pos h3],fun h1 h2 h3=>by rw [if_pos h1,if_neg h2,if_neg h3]⟩
 obtain ⟨r,hr⟩:∃ r,lst2E G L.h.seq (V.map (·.b))=r:=⟨_,rfl⟩
 rw [hr]
 replace HR:=hide (unhide HR r hr)
 clear hr
 generalize V.map (·.b)=ns at *
 have HG:=hide hgood
 have d0:((len:Int) == 0)=false:=by simpa using hz
 clear h hV hgood hlen hz
 go_enter Tryz.func82,Tryz.ntmps82
 go_wp2_with fail
 go_loopw [13] (fun i wr=>∃ k:Nat,k ≤ len∧i=.int .i64 (k:Int)∧Hid (Below w.heap.size w wr)) (fun i _=>len - (intOf i).toNat)
 case atStart=>exact ⟨0,Nat.zero_le _,rfl,Below.refl _ _⟩
 case round =>
  obtain ⟨k,hk,rfl,hJ⟩:=hrel
  by_cases hlt:k < len
  ·obtain ⟨kb,off,ea,x1,x2⟩:=unhide KC wr k hlt (unhide hJ)
   have J2:=hide ((unhide hJ).alloc (unhide hJ).size (.cells #[.int .i64 (wat V k).b,.slice (wat V k).da (wat V k).dl (wat V k).dc] 52))
   have b0:=unhide KB _ (unhide J2)
   have b1:=(Bl.new wr #[.int .i64 (wat V k).b,.slice (wat V k).da (wat V k).dl (wat V k).dc] 52).cell 1 (.slice (wat V k).da (wat V k).dl (wat V k).dc) rfl
   have HE:=hide (unhide HG k hlt)
   clear KC KB KF KN KR KU KT hJ HG hsq hb3
   subst ea
   generalize (wat V k).b=xb at *
   generalize (wat V k).da=xa at *
   generalize (wat V k).dc=xc at *
   generalize (wat V k).dl=xl at *
   go_upto_region 6 with fail
   change Code.wp _ _ _ _ (wr.alloc (.cells #[.int .i64 xb,.slice xa xl xc] 52))
   generalize wr.alloc (.cells #[.int .i64 xb,.slice xa xl xc] 52)=ub at *
   generalize wr.heap.size=gb at *
   have d1:((xl:Int) != (G.blk:Int))=false:=by rw [unhide HE]; simp
   clear HE x1 x2
   go_quiet (fail)
   go_wp2
   go_roundw
   case rel=>exact ⟨k + 1,by omega,by go_num,below_drewN (unhide J2) _⟩
   case measure=>simp [intOf]; omega
  ·clear KC KB HG
   obtain ⟨q0,q1,q2,q3,q4,q5,q6,q7,q8,q9,q10,q11⟩:=(unhide KF _ (unhide hJ)).pl
   go_upto_region 9 with fail
   clear hlt hk
   go_cut [7] (fun c wx=>c=.int .i64 (blkE G ns)∧Hid (Below w.heap.size w wx))
   case first =>
    clear hsq hb3 KU KT hl
    go_region_with (first
     | (go_at_call 178; refine (unhide KN _ (unhide hJ).drew).mono ?_; rintro e w6 ⟨rfl,X,hb⟩; have B6:=hide (bchain (unhide hJ).drew hb (Nat.le_refl _)); clear hb; obtain ⟨p0,p1,p2,p3,p4,p5,p6,p7,p8,p9,p10,p11⟩:=(unhide KF _ (unhide B6)).pl)
     | (go_at_call 177; refine (unhide KR _ _ (unhide X)).mono ?_; rintro e w7 ⟨rfl,hb7⟩; have B7:=hide (bchain (unhide B6) hb7 (Nat.le_refl _)); clear hb7))
    all_goals
     go_wp2_with fail
     go_meet
     exact ⟨rfl,B7⟩
   case rest =>
    obtain ⟨rfl,B7⟩:=hcut
    clear q0 q1 q2 q3 q4 q5 q6 q7 q8 q9 q10 q11 hJ KN KR
    rcases hb3 with hb3 | hb3
    ·rw [hb3]
     have HB0:=hide hb3
     obtain ⟨q0,q1,q2,q3,q4,q5,q6,q7,q8,q9,q10,q11⟩:=(unhide KF _ (unhide B7)).pl
     have lg:=(unhide KF _ (unhide B7)).lg
     clear hb3
     go_upto_region 12 with fail
     go_cut [49] (fun c wx=>c=.bool (decide (G.lg < G.uses len))∧Hid (Below w.heap.size w wx))
     case first =>
      clear hsq KT hl
      go_region_with ((go_at_call 179; refine (unhide KU _).mono ?_; rintro e w8 ⟨rfl,hb⟩; have B8:=hide (bchain (unhide B7).drew hb (Nat.le_refl _)); clear hb; have lg8:=(unhide KF _ (unhide B8)).lg))
      all_goals
       go_wp2_with fail
       go_meet
       first
        | exact ⟨rfl,B8⟩
        | exact ⟨by congr 1; rw [decide_eq_decide]; have:=unhide HP3; omega,B8⟩
     case rest =>
      obtain ⟨rfl,B8⟩:=hcut
      clear q0 q1 q2 q3 q4 q5 q6 q7 q8 q9 q10 q11 lg KU B7
      by_cases h5:G.lg < G.uses len
      ·have R5:=hide ((unhide HR).2.1 (unhide HB0) h5)
       have d5:decide (G.lg < G.uses len)=true:=by rw [decide_eq_true_eq]; exact h5
       rw [d5]
       clear KT KF hsq d5 h5 HR HB0
       go_wp2_with fail
       go_ret
       have e4:=unhide R5
       subst e4
       exact ⟨rfl,unhide B8⟩
      ·have H5:=hide h5
       have d5:decide (G.lg < G.uses len)=false:=by rw [decide_eq_false_iff_not]; exact h5
       rw [d5]
       clear d5 h5
       obtain ⟨q0,q1,q2,q3,q4,q5,q6,q7,q8,q9,q10,q11⟩:=(unhide KF _ (unhide B8)).pl
       have sq:=(unhide KF _ (unhide B8)).sq
       go_upto_region 14 with fail
       go_cut [63] (fun c wx=>c=.bool (decide (4294967295 - L.h.seq < G.parts len))∧Hid (Below w.heap.size w wx))
       case first =>
        clear hl
        go_region_with ((go_at_call 180; refine (unhide KT _).mono ?_; rintro e w9 ⟨rfl,hb⟩; have B9:=hide (bchain (unhide B8).drew hb (Nat.le_refl _)); clear hb; have sq9:=(unhide KF _ (unhide B9)).sq))
        all_goals
         go_wp2_with fail
         go_meet
         first
          | exact ⟨rfl,B9⟩
          | exact ⟨by congr 1; rw [decide_eq_decide]; have:=unhide HSQ; omega,B9⟩
       case rest =>
        obtain ⟨rfl,B9⟩:=hcut
        clear q0 q1 q2 q3 q4 q5 q6 q7 q8 q9 q10 q11 sq KT KF B8
        by_cases h8:4294967295 - L.h.seq < G.parts len
        ·have R8:=hide ((unhide HR).2.2.1 (unhide HB0) (unhide H5) h8)
         have d8:decide (4294967295 - L.h.seq < G.parts len)=true:=by rw [decide_eq_true_eq]; exact h8
         rw [d8]
         clear d8 h8 HR HB0 H5
         go_wp2_with fail
         go_ret
         have e4:=unhide R8
         subst e4
         exact ⟨rfl,unhide B9⟩
        ·have R8:=hide ((unhide HR).2.2.2 (unhide HB0) (unhide H5) h8)
         have d8:decide (4294967295 - L.h.seq < G.parts len)=false:=by rw [decide_eq_false_iff_not]; exact h8
         rw [d8]
         clear d8 h8 HR HB0 H5
         go_wp2_with fail
         go_ret
         have e4:=unhide R8
         subst e4
         exact ⟨rfl,unhide B9⟩
    ·have R3:=hide ((unhide HR).1 hb3)
     have d3:(blkE G ns != 0)=true:=by simpa using hb3
     clear hb3 KF KU KT hsq hl HR
     generalize blkE G ns=q at *
     go_wp2_with fail
     go_ret
     have e4:=unhide R3
     subst e4
     exact ⟨rfl,unhide B7⟩

theorem refl_zero (g:Nat) (a:Option Addr) (cap:Nat) (w:World):Calls Tryz.prog 82 #[.pointer (some ⟨g,0,none⟩),.slice a 0 cap] w fun e w'=>e=.returned (.int .i64 0)∧w=w':=by
 go_enter Tryz.func82,Tryz.ntmps82
 go_wp2_with fail
 go_ret
 exact ⟨rfl,rfl⟩

theorem lst2_zero {G:Geo} (hG:G.Ok) (s:Nat):lst2E G s []=0:=by
 unfold lst2E
 have:blkE G []=0:=rfl
 rw [if_pos this]
 have h0:=Geo.parts_zero hG
 have h1:G.uses ([]:List Int).length=0:=by show 0 + G.parts 0=0; omega
 have h2:G.parts ([]:List Int).length=0:=h0
 rw [h1,h2,if_neg (by omega),if_neg (by omega)]

theorem refl_any (g dg:Nat) (S:Nat→Prop) (P:Nat→Int) (G:Geo) (L:Lg) (m:LMem) (w:World) (h:LgM w S g dg P G L m) (a:Option Addr) (len cap:Nat) (V:List Wr) (hV:WHas w a len V) (hl:len ≤ 4398046511104) :
  Calls Tryz.prog 82 #[.pointer (some ⟨g,0,none⟩),.slice a len cap] w fun e w'=>e=.returned (.int .i64 (lstE G L.h.seq (wv V)))∧Below w.heap.size w w':=by
 have hln:=hV.ln
 by_cases hall:∀ j,j < len→(wat V j).dl=G.blk
 ·have e1:lstE G L.h.seq (wv V)=lst2E G L.h.seq (V.map (·.b)):=by
   unfold lstE lst2E
   rw [if_pos]
   ·simp [wv,List.map_map,Function.comp_def]
   ·refine List.all_eq_true.2 (fun x hx=>?_)
    unfold wv at hx
    obtain ⟨v,hv,rfl⟩:=List.mem_map.1 hx
    obtain ⟨j,hj,rfl⟩:=List.getElem_of_mem hv
    have:=hall j (by omega)
    unfold wat at this
    rw [List.getElem?_eq_getElem hj] at this
    simpa using this
  rw [e1]
  by_cases hz:len=0
  ·subst hz
   have hn:V=[]:=List.length_eq_zero_iff.1 hln
   subst hn
   refine (refl_zero g a cap w).mono ?_
   rintro e w' ⟨rfl,rfl⟩
   exact ⟨by rw [List.map_nil,lst2_zero h.pg.ok],Below.refl _ _⟩
  exact refl_rest g dg S P G L m w h a len cap V hV hl hall hz
 ·have e1:lstE G L.h.seq (wv V)=1:=by
   unfold lstE
   rw [if_neg]
   intro hh
   refine hall (fun j hj=>?_)
   have hj2:j < V.length:=by omega
   have:=List.all_eq_true.1 hh ((V[j]).b,(V[j]).dl) (by unfold wv; exact List.mem_map.2 ⟨V[j],List.getElem_mem _,rfl⟩)
   unfold wat
   rw [List.getElem?_eq_getElem hj2]
   simpa using this
  rw [e1]
  exact refl_arg g dg S P G L m w h a len cap V hV hl hall

end Go.Proofs.YtdfanhjnkjdngaaGreatDoor

