/- Joined: KSort, KThose. -/
import Derived.Test.YtefdkpbmeoakgaaGreatDoorDnJ14
import Derived.Test.YtefdkpbmeoakgaaGreatDoorDnJ13
/- slices.Sort at numbers, and what a range over the lines collects. -/
namespace Go.Proofs.YtefdkpbmeoakgaaGreatDoor
set_option maxRecDepth 100000
set_option maxHeartbeats 8000000
open Go.RowKit Go.Shelf Go.Maps
set_option linter.unusedVariables false
def Cac.wants (C:Cac) (f:Ln->Bool) (b:Nat):Bool:=match C.L b with | some l=>f l | none=>false
theorem Cac.aap (C:Cac)(n:Nat)(f:Ln->Bool):C.those n f=(List.range n).filter (C.wants f):=rfl
theorem Cac.kW {C:Cac}{n:Nat}{f:Ln->Bool}{b:Nat}:b∈C.those n f↔b<n/\C.wants f b=true:=by rw[Cac.aap];simp
theorem Cac.vC (C:Cac)(n:Nat)(f:Ln->Bool):(C.those n f).Pairwise (·<·):=(List.pairwise_lt_range).filter _
def Cac.list (C:Cac) (n:Nat) (f:Ln->Bool):List Int:=(C.those n f).map (fun b:Nat=>(b:Int))
theorem Cac.ac8 (C:Cac)(n:Nat)(f:Ln->Bool):(C.those n f).length<=n:=by
 have:=List.length_filter_le (C.wants f) (List.range n)
 simpa [Cac.aap] using this
def Coll (C:Cac) (n:Nat) (f:Ln->Bool) (left:Lit->Bool) (ks:List Int):Prop :=
 ks.Nodup/\∀ x:Int,x∈ks↔∃ b:Nat,x=b/\b<n/\C.wants f b=true/\left (.int .i64 (b:Int))=false
theorem Coll.len {C n f left ks}(h:Coll C n f left ks):ks.length<=n:=by
 have hr:((List.range n).map (fun b:Nat=>(b:Int))).Nodup:=by
  unfold List.Nodup
  rw[List.pairwise_map]
  exact(List.pairwise_lt_range (n:=n)).imp (fun h=>by omega)
 have h1:ks.Perm (((List.range n).map (fun b:Nat=>(b:Int))).filter (fun x=>decide (x∈ks))):=by
  refine(List.perm_ext_iff_of_nodup h.1 (hr.filter _)).2 (fun x=>?_)
  rw[List.mem_filter,decide_eq_true_eq]
  refine⟨fun hx=>⟨?_,hx⟩,fun hx=>hx.2⟩
  obtain⟨b,rfl,hb,_⟩:=(h.2 x).1 hx
  exact List.mem_map.2 ⟨b,by simpa using hb,rfl⟩
 rw[h1.length_eq]
 refine Nat.le_trans (List.length_filter_le _ _) ?_
 simp
theorem Coll.start (C:Cac)(m:nS)(n:Nat)(f:Ln->Bool):Coll C n f (Maps.has (mD n (C.M m))) []:=by
 refine⟨List.nodup_nil,fun x=>⟨fun h=>by simp at h,?_⟩⟩
 rintro ⟨b,rfl,hb,hw,hl⟩
 rw[iM hb] at hl
 unfold Cac.wants at hw
 unfold Cac.M at hl
 cases e:C.L b<;>simp[e] at hw hl
theorem Coll.skip {C n f left ks}(h:Coll C n f left ks){b:Nat}(hw:C.wants f b=false):Coll C n f (fun z=>left z&&!z.sameKey (.int .i64 (b:Int))) ks:=by
 refine⟨h.1,fun x=>(h.2 x).trans ⟨?_,?_⟩⟩
 ·rintro ⟨c,rfl,hc,hv,hl⟩
  exact⟨c,rfl,hc,hv,by simp[hl]⟩
 ·rintro ⟨c,rfl,hc,hv,hl⟩
  refine⟨c,rfl,hc,hv,?_⟩
  have hcb:c≠b:=fun e=>by rw[e,hw] at hv;cases hv
  have:(Lit.int .i64 (c:Int)).sameKey (.int .i64 (b:Int))=false:=by
   simp[Lit.sameKey];omega
  simpa [this] using hl
theorem Coll.take {C n f left ks}(h:Coll C n f left ks){b:Nat}(hb:b<n)(hw:C.wants f b=true)(hl:left (.int .i64 (b:Int))=true):Coll C n f (fun z=>left z&&!z.sameKey (.int .i64 (b:Int))) (ks++[(b:Int)]):=by
 have hnot:(b:Int) ∉ ks:=fun hx=>by
  obtain⟨c,e,_,_,hc⟩:=(h.2 _).1 hx
  have:b=c:=by omega
  rw[← this,hl] at hc
  cases hc
 refine⟨?_,fun x=>?_⟩
 ·rw[List.nodup_append]
  refine⟨h.1,by simp,fun a ha c hc=>?_⟩
  simp at hc
  subst hc
  exact fun e=>hnot (e ▸ ha)
 ·rw[List.mem_append,List.mem_singleton,h.2 x]
  constructor
  ·rintro (⟨c,rfl,hc,hv,hl'⟩ | rfl)
   ·exact⟨c,rfl,hc,hv,by simp[hl']⟩
   ·exact⟨b,rfl,hb,hw,by simp[Lit.sameKey]⟩
  ·rintro ⟨c,rfl,hc,hv,hl'⟩
   by_cases e:c=b
   ·subst e;exact .inr rfl
   ·refine .inl ⟨c,rfl,hc,hv,?_⟩
    have:(Lit.int .i64 (c:Int)).sameKey (.int .i64 (b:Int))=false:=by
     simp[Lit.sameKey];omega
    simpa [this] using hl'
theorem Coll.done {C n f left ks}(h:Coll C n f left ks)(hl:∀ kl,left kl=false):srt ks=C.list n f:=by
 have hr:(C.list n f).Pairwise (·<·):=by
  unfold Cac.list
  rw[List.pairwise_map]
  exact(C.vC n f).imp (fun h=>by omega)
 refine ag0 ?_ (hr.imp (fun h=>by omega))
 refine(List.perm_ext_iff_of_nodup h.1 (hr.imp (fun h=>by omega))).2 (fun x=>?_)
 rw[h.2 x]
 unfold Cac.list
 rw[List.mem_map]
 constructor
 ·rintro ⟨b,rfl,hb,hw,_⟩
  exact⟨b,Cac.kW.2 ⟨hb,hw⟩,rfl⟩
 ·rintro ⟨b,hb,rfl⟩
  obtain⟨h1,h2⟩:=Cac.kW.1 hb
  exact⟨b,rfl,h1,h2,hl _⟩
theorem lN (w:World){ops:Array Oper}{rest:List Oper}{o:Oper}{a:Act}{Q:Exit->Act->World->Prop}(hg:o.guard=none)(it:Operand)(hop:o.op=Op.next it false)(b r n m:Nat)(M:Nat->Option Nat)(left:Lit->Bool)(cnt:Nat)
  (hit:a.eval it=.pointer (some ⟨r,0,none⟩)) (h:w.ranges Tryz.prog 3 rdP b r m (mD n M) left cnt)
  (hDone:(∀ kl,left kl=false)->wpList Tryz.prog ops Q rest (a.put o.dst (.tuple #[.bool false])) w)
  (hMore:∀ (k p:Nat) (w':World) (cnt':Nat),k<n->M k=some p->left (.int .i64 (k:Int))=true->w'.ranges Tryz.prog 3 rdP b r m (mD n M) (fun z=>left z&&!z.sameKey (.int .i64 (k:Int))) cnt'->cnt'<cnt ->
   w.grownBy w' (some r)->(Instr.entry (.pointer (some ⟨r,0,none⟩))).run Tryz.prog w'=.ok (.tuple #[.int .i64 (k:Int),.pointer (some ⟨p,0,none⟩)]) w'->wpList Tryz.prog ops Q rest (a.put o.dst (.tuple #[.bool true,.int .i64 (k:Int),.pointer (some ⟨p,0,none⟩)])) w') :
  wpList Tryz.prog ops Q (o::rest) a w:=by
 refine wpList_next_ranges w hg it hop 3 law3 rdP (Value.int .i64) mkP (fun key kl hkey=>by obtain⟨x,rfl,_⟩:=Maps.keyOf_int_inv Tryz.underlying3 hkey;exact⟨x,rfl⟩) (fun v y hv=>by obtain⟨c,rfl,_⟩:=yU hv;exact⟨c,rfl⟩) b r m _ left cnt hit h (fun _ hl=>hDone hl) ?_
 intro x c kl y w' cnt' hkey hlk hv hat hrg hlt hgr hsz hen
 obtain⟨x',ex,rfl,_⟩:=Maps.keyOf_int_inv Tryz.underlying3 hkey
 cases ex
 obtain⟨k,hk,hs,e⟩:=nC.1 (has_true_of_atKey hat)
 have ek:x=(k:Int):=by simpa using e
 subst ek
 obtain⟨p,hp⟩:=Option.isSome_iff_exists.1 hs
 have hy:=hat (.lit (.int .i64 0))
 rw[zu hk hp] at hy
 have hc:mkP c=.pointer (some ⟨p,0,none⟩):=by
  refine ag8 (ps:=y.2) ?_
  rw[hv,hy]
 rw[hc] at hen ⊢
 exact hMore k p w' cnt' hk hp hlk hrg hlt hgr hen
theorem ajn (q:Nat)(p:Int)(w:World)(c2:w.cell? ⟨q,2,none⟩=some (.int .i64 p)):Calls Tryz.prog 241 #[.pointer (some ⟨q,0,none⟩)] w fun e w'=>e=.returned (.bool (p==0))/\w=w':=by
 go_enter Tryz.func241,Tryz.ntmps241
 go_wp2
 go_ret
 exact⟨rfl,rfl⟩
def cZ (l:Ln):Bool:=true
def aQ (l:Ln):Bool:=l.p==0
structure Rng (B:Nat) (w:World) (C:Cac) (n mb m:Nat) (M:Nat->Option Nat) (f:Ln->Bool) (v:Value) (wr:World) (left:Lit->Bool) (cnt:Nat) (ks:List Int):Prop where
 gr:Gr B wr v ks
 rg:wr.ranges Tryz.prog 3 rdP mb B m (mD n M) left cnt
 co:Coll C n f left ks
 be:Below B w wr
 mb:mb<B
 nb:∀ k,v.ownBlock=some k->k≠B
 si:B<wr.heap.size
 nn:n<=4096
theorem Rng.step {B w C n mb m M f v wr left cnt ks}(h:Rng B w C n mb m M f v wr left cnt ks){k:Nat}{w1:World}{cnt1:Nat}
  (hrg:w1.ranges Tryz.prog 3 rdP mb B m (mD n M) (fun z=>left z&&!z.sameKey (.int .i64 (k:Int))) cnt1) (hg:wr.grownBy w1 (some B)) :
  Below B w w1/\Gr B w1 v ks:=by
 refine⟨h.be.grown hg (Nat.le_of_lt h.si) (fun j e=>by cases e;exact Nat.le_refl _),?_⟩
 have hv:=h.gr
 obtain⟨g1,g2⟩:=hv
 refine⟨g1,?_⟩
 rcases g2 with g2 | ⟨g,cap,cur,rfl,x1,x2,x3⟩
 ·exact .inl g2
 ·exact .inr ⟨g,cap,cur,rfl,x1,(hg.block g (Array.getElem?_eq_some_iff.1 x2).1 (fun e=>h.nb g rfl (by simpa using e))).trans x2,x3⟩
theorem Rng.skip {B w C n mb m M f v wr left cnt ks}(h:Rng B w C n mb m M f v wr left cnt ks){k:Nat}{w1:World}{cnt1:Nat}
  (hrg:w1.ranges Tryz.prog 3 rdP mb B m (mD n M) (fun z=>left z&&!z.sameKey (.int .i64 (k:Int))) cnt1) (hg:wr.grownBy w1 (some B)) (hw:C.wants f k=false) :
  Rng B w C n mb m M f v w1 (fun z=>left z&&!z.sameKey (.int .i64 (k:Int))) cnt1 ks:=by
 obtain⟨h1,h2⟩:=h.step hrg hg
 exact⟨h2,hrg,h.co.skip hw,h1,h.mb,h.nb,Nat.lt_of_lt_of_le h.si hg.size,h.nn⟩
theorem Rng.take {B w C n mb m M f v wr left cnt ks}(h:Rng B w C n mb m M f v wr left cnt ks){k:Nat}{w1:World}{cnt1:Nat}
  (hrg:w1.ranges Tryz.prog 3 rdP mb B m (mD n M) (fun z=>left z&&!z.sameKey (.int .i64 (k:Int))) cnt1) (hg:wr.grownBy w1 (some B)) (hk:k<n) (hw:C.wants f k=true) (hl:left (.int .i64 (k:Int))=true) :
  ∃ v' w2,(∀ ty,(Builtin.append_ #[102,102] ty #[v,.slice (some ⟨w1.heap.size,0,none⟩) 1 1]).run Tryz.prog (w1.alloc (zI (k:Int)))=.ok v' w2) /\
   Rng B w C n mb m M f v' w2 (fun z=>left z&&!z.sameKey (.int .i64 (k:Int))) cnt1 (ks++[(k:Int)]):=by
 obtain⟨h1,h2⟩:=h.step hrg hg
 have s1:B<w1.heap.size:=Nat.lt_of_lt_of_le h.si hg.size
 have hlen:=h.co.len
 have hnn:=h.nn
 obtain⟨v',w2,hr,g2,b2,o2⟩:=h2.one (Nat.le_of_lt s1) (by omega) (k:Int)
 have hob:v.ownBlock≠some B:=fun e=>h.nb B e rfl
 have hmb:v.ownBlock≠some mb:=fun e=>by have:=(h2.lt mb e).1;have:=h.mb;omega
 refine⟨v',w2,hr,g2,?_,h.co.take hk hw hl,h1.trans b2,h.mb,fun j ej e=>?_,Nat.lt_of_lt_of_le s1 b2.size,h.nn⟩
 ·obtain⟨es,clock,since,seen,c0,x1,x2,x3,x4,x5,x6⟩:=hrg
  exact⟨es,clock,since,seen,c0,(o2 mb (Array.getElem?_eq_some_iff.1 x1).1 hmb).trans x1,x2,x3,x4,(o2 B s1 hob).trans x5,x6⟩
 ·subst e
  obtain⟨_,g3⟩:=g2
  rcases g3 with ⟨rfl,_⟩ | ⟨g,cap,cur,rfl,y1,y2,_⟩
  ·simp[Value.ownBlock] at ej
  ·simp[Value.ownBlock] at ej
   subst ej
   obtain⟨es,clock,since,seen,c0,x1,x2,x3,x4,x5,x6⟩:=hrg
   rw[o2 _ s1 hob,x5] at y2
   cases y2
theorem yB (g dg n blk:Nat)(S:Nat->Prop)(C:Cac)(m:nS)(w:World)(h:CcM w S g dg n blk C m)(hn:n<=4096) :
  Calls Tryz.prog 240 #[.pointer (some ⟨g,0,none⟩),.func (.func 241) #[] #[]] w fun e w'=>∃ v,e=.returned v/\Gr w.heap.size w' v (C.list n aQ)/\Below w.heap.size w w':=by
 obtain⟨_,_,_,c3,_⟩:=h.cells
 have hown:=h.map
 have hmb:=h.map.lt
 have KL:Hid (∀ wr k,k<n->∀ p,C.M m k=some p->Below w.heap.size w wr->Calls Tryz.prog 241 #[.pointer (some ⟨p,0,none⟩)] wr fun e w'=>e=.returned (.bool (C.wants aQ k))/\wr=w'):=by
  intro wr k hk p hp hb
  unfold Cac.M at hp
  cases e:C.L k with
  | none=>simp[e] at hp
  | some l =>
   have ep:m.q k=p:=by simpa [e] using hp
   subst ep
   have hr:=(h.lin k l hk e).of_block (hb.block _ (h.lt _ (h.sl k l hk e)))
   have ew:C.wants aQ k=aQ l:=by simp[Cac.wants,e]
   rw[ew]
   exact ajn _ _ wr (hr.cell (i:=2) (by omega))
 have R0:Hid (∀ w0:World,w0.ranges Tryz.prog 3 rdP m.mb w.heap.size (keysOf n (C.M m)).length (mD n (C.M m)) (Maps.has (mD n (C.M m))) (Maps.size (mD n (C.M m)))->w.grownBy w0 none->w0.heap.size=w.heap.size+1->Rng w.heap.size w C n m.mb (keysOf n (C.M m)).length (C.M m) aQ (.slice none 0 0) w0 (Maps.has (mD n (C.M m))) (Maps.size (mD n (C.M m))) []):=by
  intro w0 h1 h2 h3
  exact⟨World.ownsRow_nil _ _ _ _,h1,Coll.start C m n _,(Below.refl _ w).grown h2 (Nat.le_refl _) (fun j e=>by cases e),hmb,fun k e=>by simp[Value.ownBlock] at e,by omega,hn⟩
 have O:=hide hown
 unfold bW at O
 generalize hM:C.M m=M at *
 generalize (keysOf n M).length=nk at *
 generalize m.mb=mb at *
 clear h hM hown hn
 generalize hB:w.heap.size=B at *
 have HB:=hide hB
 clear hB
 have hmx:Hid (mb<B):=hmb
 clear hmb
 go_enter Tryz.func240,Tryz.ntmps240
 go_wp2_with (first
  | (at_range;refine wpList_range_own _ rfl _ 104 rfl 3 275 law3 Tryz.underlying104 rdP mb nk _ rfl (ah O) ?_;intro w0 x1 x2 x3;rw[ah HB] at x1 x3 ⊢;have R1:=hide (ah R0 w0 x1 x2 x3);clear x1 x2 x3 R0)
  | fail)
 go_frame
 go_loopw [5] (fun v wr=>∃ left cnt ks,Hid (Rng B w C n mb nk M aQ v wr left cnt ks)) (fun _ wr=>wr.rangeLeft mb B)
 case atStart=>exact⟨_,_,_,R1⟩
 case round =>
  obtain⟨left,cnt,ks,RR⟩:=hrel
  clear R1
  go_wp2_with (first
   | (at_next;refine lN _ rfl _ rfl mb B n nk M left cnt rfl (ah RR).rg ?_ ?_)
   | fail)
  ·intro hl
   have e1:=hide ((ah RR).co.done hl)
   have KS:=hide (afd B _ ks wr (ah RR).gr (by have:=(ah RR).co.len;have:=(ah RR).nn;omega) (Nat.le_of_lt (ah RR).si))
   have BB:=hide (ah RR).be
   clear RR hl KL O
   go_wp2_with (go_at_call 194;refine(ah KS).mono ?_;rintro e w2 ⟨rfl,y1,y2⟩;rw[ah e1] at y1;have Y1:=hide y1;have Y2:=hide y2;clear y1 y2 KS)
   go_ret
   exact⟨_,rfl,ah Y1,(ah BB).trans (ah Y2)⟩
  ·intro k p w1 cnt1 hk hp hlk hrg hlt hg hen
   have hb1:=((ah RR).step hrg hg).1
   have KC:=ah KL w1 k hk p hp hb1
   have M1:Hid (w1.rangeLeft mb B<wr.rangeLeft mb B):=by rw[hrg.left_eq,(ah RR).rg.left_eq];exact hlt
   cases hw:C.wants aQ k with
   | false =>
    rw[hw] at KC
    replace KC:=hide KC
    have R2:=hide ((ah RR).skip hrg hg hw)
    clear RR hrg hg hw hlt hlk hp hk hb1 KL O
    go_wp2_with (go_at_call 241;refine(ah KC).mono ?_;rintro e w2 ⟨rfl,rfl⟩;clear KC)
    go_roundw
    case rel=>exact⟨_,_,_,R2⟩
    case measure=>exact ah M1
   | true =>
    rw[hw] at KC
    replace KC:=hide KC
    obtain⟨v2,w2,r2,R2'⟩:=(ah RR).take hrg hg hk hw hlk
    have R2:=hide R2'
    have AP:=hide r2
    have M2:Hid (w2.rangeLeft mb B=cnt1):=R2'.rg.left_eq
    have M3:Hid (w1.rangeLeft mb B=cnt1):=hrg.left_eq
    clear RR hrg hg hw hlt hlk hp hk hb1 KL O R2' r2
    go_wp2_with (first
     | (go_at_call 241;refine(ah KC).mono ?_;rintro e w3 ⟨rfl,rfl⟩;clear KC)
     | (at_builtin;refine wpList_append_run 102 rfl _ _ rfl _ _ _ rfl rfl (ah AP) ?_;clear AP))
    go_roundw
    case rel=>exact⟨_,_,_,R2⟩
    case measure=>rw[ah M2,← ah M3];exact ah M1
end Go.Proofs.YtefdkpbmeoakgaaGreatDoor
