/- Joined: FReg, EFold, ERead, FMix, FFlt. -/
import Derived.Test.YtefdkpbmeoakgaaGreatDoorDnFRng
import Derived.Sort.BigQuietIn
import Derived.OwnWalkIn
import Derived.Test.YtefdkpbmeoakgaaGreatDoorDnJ38
import Derived.Test.YtefdkpbmeoakgaaGreatDoorDnJ20
/- A region that draws its order, in a round as well: its first operations only read, the others stand in one order behind them. -/
namespace Go.Proofs.YtefdkpbmeoakgaaGreatDoor
set_option maxRecDepth 100000
set_option maxHeartbeats 8000000
set_option linter.unusedVariables false
section
variable {F:Fence} {n:Nat} {P:Program} {ops:Array Oper} {md:Region.Mode} {C:World->Prop}
def dh (ops:Array Oper):Bool:=ops.all fun o=>match o.op with | .defer ..=>false | _=>true
theorem fE (h:dh ops=true){j:Nat}{o:Oper}(ho:ops[j]?=some o)(c:Call):o.op≠.defer c:=by
 intro heq
 have:=Array.all_eq_true_iff_forall_mem.1 h o (Array.mem_of_getElem? ho)
 simp[heq] at this
def aJ (s k:Nat):Array Bool:=((List.range s).map fun j=>decide (j<k)).toArray
def bQ (m:Nat) (L:Array Bool):Array Bool:=L.mapIdx fun j b=>b||decide (m<=j)
def fO (md:Region.Mode) (ops:Array Oper) (k:Nat):List Nat:=match ops[k]? with
 | some o=>(o.after.toList.filter (Region.binds md)).map (·.on)
 | none=>[]
def jw (md:Region.Mode) (ops:Array Oper):Nat->List Nat->List Nat
 | 0,S=>S
 | k+1,S=>jw md ops k (if S.contains k then fO md ops k++S else S)
def lW (md:Region.Mode) (ops:Array Oper):Bool:=(List.range ops.size).all fun j=>match ops[j]? with
 | some o=>o.after.all fun e=>!Region.binds md e||decide (e.on<j)
 | none=>true
theorem iw (h:lW md ops=true)(j:Nat)(o:Oper)(ho:ops[j]?=some o)(e:Edge)(he:e∈o.after)(hb:Region.binds md e=true):e.on<j:=by
 have hjs:=(Array.getElem?_eq_some_iff.1 ho).1
 simp only[lW,List.all_eq_true,List.mem_range] at h
 have h:=h j hjs
 rw[ho] at h
 have h:=Array.all_eq_true_iff_forall_mem.1 h e he
 simpa [hb] using h
def ag3 (md:Region.Mode) (ops:Array Oper) (m:Nat):Bool :=
 Region.noSelect ops&&dh ops&&lW md ops&&decide (m<=ops.size)&&Region.lexFrom md ops m 0 (aJ ops.size 0 |> bQ m)
  && ((List.range ops.size).all fun k=>decide (k<m)||(List.range m).all fun j=>(jw md ops ops.size (fO md ops k)).contains j)
  && ((List.range ops.size).all fun k=>decide (k<m)||Region.ready md ops (aJ ops.size k)==[k])
  && (Region.ready md ops (aJ ops.size ops.size)).isEmpty
def ahn (md:Region.Mode) (ops:Array Oper) (L:Array Bool):Prop:=∀ j o,ops[j]?=some o->L.getD j false=true->∀ e∈o.after,Region.binds md e=true->L.getD e.on false=true
theorem oI {L:Array Bool}{j:Nat}(h:j<L.size):L.getD j true=L.getD j false:=by simp[h]
theorem tK {L}(hI:ahn md ops L):∀ (t:Nat) (S:List Nat),(∀ x∈S,L.getD x false=true)->∀ x∈jw md ops t S,L.getD x false=true
 | 0,S,h=>h
 | k+1,S,h=>by
  refine tK hI k _ ?_
  split
  ·rename_i hk
   intro x hx
   rcases List.mem_append.1 hx with hx | hx
   ·unfold fO at hx
    cases ho:ops[k]? with
    | none=>rw[ho] at hx;cases hx
    | some o =>
     rw[ho] at hx
     obtain⟨e,he,rfl⟩:=List.mem_map.1 hx
     obtain⟨he,hb⟩:=List.mem_filter.1 he
     exact hI k o ho (h k (by simpa using hk)) e (Array.mem_toList_iff.1 he) hb
   ·exact h x hx
  ·exact h
theorem aS {L:Array Bool}{m j:Nat}(d:Bool)(h:j<L.size):(bQ m L).getD j d=(L.getD j d||decide (m<=j)):=by
 simp[bQ,h]
theorem oG {L:Array Bool}{m i:Nat}:bQ m (L.setIfInBounds i true)=(bQ m L).setIfInBounds i true:=by
 apply Array.ext
 ·simp[bQ]
 ·intro j h1 h2
  have hj:j<L.size:=by simpa [bQ] using h1
  have e1:=Array.getElem_setIfInBounds (xs:=L) (i:=i) (a:=true) hj
  have e2:=Array.getElem_setIfInBounds (xs:=bQ m L) (i:=i) (a:=true) (j:=j) (by simpa [bQ] using hj)
  rw[e2]
  simp only[bQ,Array.getElem_mapIdx]
  rw[e1]
  split<;>simp
theorem oH {s k:Nat}:(aJ s k).setIfInBounds k true=aJ s (k+1):=by
 apply Array.ext
 ·simp[aJ]
 ·intro j h1 h2
  have hj:j<(aJ s k).size:=by simpa using h1
  have e1:=Array.getElem_setIfInBounds (xs:=aJ s k) (i:=k) (a:=true) hj
  rw[e1]
  simp only[aJ,List.getElem_toArray,List.getElem_map,List.getElem_range]
  split
  ·rename_i h;subst h;simp
  ·rename_i h
   have:(j<k)=(j<k+1):=propext ⟨fun q=>by omega,fun q=>by omega⟩
   simp only[this]
theorem dV {L:Array Bool}{s k:Nat}(hs:L.size=s)(h1:∀ j,j<k->j<s->L.getD j true=true)(h2:∀ j,k<=j->j<s->L.getD j true=false):L=aJ s k:=by
 apply Array.ext
 ·simp[aJ,hs]
 ·intro j g1 g2
  simp only[aJ,List.getElem_toArray,List.getElem_map,List.getElem_range]
  rcases Nat.lt_or_ge j k with h | h
  ·have:=h1 j h (by omega)
   simpa [g1,h] using this
  ·have:=h2 j h (by omega)
   simp[g1] at this
   rw[this]
   simp;omega
theorem qJ {o:Oper}{a:Act}{K:Act->Prop}{K':Act->World->Prop}{Q':Exit->Act->World->Prop}{w:World}(hnd:∀ c,o.op≠.defer c)(hw:C w)(h:∀ a w',C w'->K a->K' a w')
  (ha:o.askedIn F P a C) (hh:o.quietIn F n P a C K):o.wpIn F n P a w K' Q':=by
 obtain⟨v,h1,h2⟩:=hh
 have h3:=h1 w hw
 unfold Oper.quietAtIn at h3
 unfold Oper.wpIn
 refine⟨ha w hw,?_⟩
 rw[Oper.semAt_plain F _ _ hnd]
 generalize (execOp a.eval o).run P w=r at *
 cases r with
 | ok x w' =>
  cases x<;>simp only[Oper.quietUponIn] at h3<;>simp only[Oper.uponIn]
  case value u=>obtain⟨rfl,rfl⟩:=h3;exact h _ _ hw h2
  case skip=>obtain⟨rfl,rfl⟩:=h3;exact h _ _ hw h2
  case enter f args =>
   obtain⟨rfl,hd,hc⟩:=h3
   exact⟨hd,hc.mono fun e w'' ⟨he,hw''⟩=>by subst he;exact h _ _ hw'' h2⟩
 | halt x w'=>simp only[Oper.quietUponIn] at h3
theorem qQ {i:Nat}{a:Act}{K:Act->Prop}{K':Act->World->Prop}{Q':Exit->Act->World->Prop}{w:World}(hnd:dh ops=true)(hC:C w)(h:∀ a w',C w'->K a->K' a w')
  (hh:qOpIn F n P ops C i K a):wpOpIn F n P ops Q' i K' a w:=by
 unfold qOpIn at hh
 unfold wpOpIn
 split
 ·rename_i ho;simp only[ho] at hh;exact h _ _ hC hh
 ·rename_i o ho
  simp only[ho] at hh
  obtain⟨ha,hh⟩:=hh
  split
  ·rename_i hw;simp only[hw,if_true] at hh;exact qJ (fE hnd ho) hC h ha hh
  ·rename_i hw;simp only[hw] at hh;exact⟨ha w hC,h _ _ hC hh⟩
theorem aas {Q:Act->Prop}(hs:Region.noSelect ops=true):∀ (l:List Oper) (k:Nat) (listed:Array Bool) (a:Act),(∀ j,j<l.length->l[j]?=ops[k+j]?) ->
  Region.lexFrom md ops l.length k listed=true->wpQuietIn F n P ops C Q l a->wpAnyQIn F n P md ops C Q l.length listed a
 | [],_,_,_,_,hB,h=>⟨by simpa [Region.lexFrom] using hB,h⟩
 | o::l,k,listed,a,hl,hB,h=>by
  have h0:ops[k]?=some o:=by simpa using (hl 0 (by simp)).symm
  simp only[List.length_cons,Region.lexFrom,Bool.and_eq_true] at hB
  obtain⟨⟨hr,hf⟩,hB'⟩:=hB
  have hst:qOpIn F n P ops C k (wpQuietIn F n P ops C Q l) a:=by unfold qOpIn;simp only[h0];exact h
  obtain⟨v,hy,hK⟩:=yieldsQuiet_of_qOpIn h0 hst
  exact wpAnyQIn_first h0 (Region.noSelect_spec hs) l.length listed a (Region.free_spec h0 hf) (by simpa using hr) hy
   (aas hs l (k+1) _ _ (fun j hj=>by have:=hl (j+1) (by simpa using hj);simpa [Nat.add_assoc,Nat.add_comm 1 j] using this) hB' hK)
theorem oD {Q:Exit->Act->World->Prop}{m:Nat}(hT:∀ k,m<=k->k<ops.size->Region.ready md ops (aJ ops.size k)=[k])(hE:Region.ready md ops (aJ ops.size ops.size)=[]) :
  ∀ (t k fuel:Nat) (a:Act) (w:World),k+t=ops.size->m<=k->wpListIn F n P ops Q (ops.toList.drop k) a w->wpAnyIn F n P md ops Q (fuel+t) (aJ ops.size k) a w
 | 0,k,fuel,a,w,hk,hm,h=>by
  have e:k=ops.size:=by omega
  subst e
  rw[List.drop_eq_nil_of_le (by simp)] at h
  exact wpAnyIn_done hE h _
 | t+1,k,fuel,a,w,hk,hm,h=>by
  have hlt:k<ops.size:=by omega
  rw[List.drop_eq_getElem_cons (by simpa using hlt)] at h
  refine wpAnyIn_all (hT k hm hlt) (by simp) (fun i hi=>?_)
  have ei:i=k:=by simpa using hi
  subst ei
  rw[oH]
  unfold wpOpIn
  have ho:ops[i]?=some (ops.toList[i]'(by simpa using hlt)):=by simp[hlt]
  rw[ho]
  unfold wpListIn at h
  simp only
  split
  ·rename_i hw
   rw[if_pos hw] at h
   exact Oper.wpIn_mono (fun a' w' h'=>oD hT hE t (i+1) fuel a' w' (by omega) (by omega) h') h
  ·rename_i hw
   rw[if_neg hw] at h
   exact⟨h.1,oD hT hE t (i+1) fuel _ _ (by omega) (by omega) h.2⟩
theorem vS {Q:Exit->Act->World->Prop}{m t:Nat}{T:Act->World->Prop}(htail:∀ fuel a w,T a w->wpAnyIn F n P md ops Q (fuel+t) (aJ ops.size m) a w)(hmz:m<=ops.size)(hnd:dh ops=true)(hlow:∀ (j:Nat) (o:Oper),ops[j]?=some o->∀ e∈o.after,Region.binds md e=true->e.on<j)
  (hcov:∀ k,m<=k->k<ops.size->∀ j,j<m->j∈jw md ops ops.size (fO md ops k)) :
  ∀ (fuel:Nat) (L:Array Bool) (a:Act) (w:World),L.size=ops.size->(∀ j,m<=j->j<ops.size->L.getD j true=false)->ahn md ops L->C w ->
   wpAnyQIn F n P md ops C (fun a'=>∀ w',C w'->T a' w') fuel (bQ m L) a->wpAnyIn F n P md ops Q (fuel+t) L a w:=by
 intro fuel
 induction fuel with
 | zero =>
  intro L a w hs hun hI hw h
  have hall:∀ j,j<m->j<ops.size->L.getD j true=true:=by
   intro j
   induction j using Nat.strongRecOn with
   | _ j ih =>
    intro hj hjs
    rcases hb:L.getD j true with _ | _
    ·exfalso
     have:j∈Region.ready md ops (bQ m L):=by
      refine mem_ready.2 ⟨?_,ops[j],by simp[hjs],fun e he hbe=>?_⟩
      ·rw[aS _ (by omega),hb];simp;omega
      ·have hlt:=hlow j ops[j] (by simp[hjs]) e he hbe
       have:=ih e.on hlt (by omega) (by omega)
       rw[oI (by omega)] at this
       rw[aS _ (by omega),this];rfl
     rw[h.1] at this
     cases this
    ·rfl
  rw[dV hs hall hun]
  exact htail 0 a w (h.2 w hw)
 | succ fuel ihf =>
  intro L a w hs hun hI hw h
  by_cases hr:Region.ready md ops (bQ m L)=[]
  ·have hall:∀ j,j<m->j<ops.size->L.getD j true=true:=by
    intro j
    induction j using Nat.strongRecOn with
    | _ j ih =>
     intro hj hjs
     rcases hb:L.getD j true with _ | _
     ·exfalso
      have:j∈Region.ready md ops (bQ m L):=by
       refine mem_ready.2 ⟨?_,ops[j],by simp[hjs],fun e he hbe=>?_⟩
       ·rw[aS _ (by omega),hb];simp;omega
       ·have hlt:=hlow j ops[j] (by simp[hjs]) e he hbe
        have:=ih e.on hlt (by omega) (by omega)
        rw[oI (by omega)] at this
        rw[aS _ (by omega),this];rfl
      rw[hr] at this
      cases this
     ·rfl
   rw[dV hs hall hun]
   exact htail (fuel+1) a w (h.1 hr w hw)
  ·rw[Nat.add_right_comm]
   refine⟨fun h0=>?_,fun i hi=>?_⟩
   ·exfalso
    obtain⟨j,hj⟩:=List.exists_mem_of_ne_nil _ hr
    obtain⟨hjf,o,ho,hall⟩:=mem_ready.1 hj
    have hjs:j<ops.size:=(Array.getElem?_eq_some_iff.1 ho).1
    rw[aS _ (by omega)] at hjf
    simp only[Bool.or_eq_false_iff,decide_eq_false_iff_not] at hjf
    have:j∈Region.ready md ops L:=by
     refine mem_ready.2 ⟨hjf.1,o,ho,fun e he hb=>?_⟩
     have hlt:=hlow j o ho e he hb
     have:=hall e he hb
     rw[aS _ (by omega)] at this
     simp only[Bool.or_eq_true,decide_eq_true_eq] at this
     rcases this with this | this
     ·exact this
     ·omega
    rw[h0] at this
    cases this
   ·obtain⟨hif,o,ho,hall⟩:=mem_ready.1 hi
    have his:i<ops.size:=(Array.getElem?_eq_some_iff.1 ho).1
    have him:i<m:=by
     rcases Nat.lt_or_ge i m with q | q
     ·exact q
     ·exfalso
      refine hr (List.eq_nil_iff_forall_not_mem.2 fun j hj=>?_)
      obtain⟨hjf,oj,hoj,_⟩:=mem_ready.1 hj
      have hjs:j<ops.size:=(Array.getElem?_eq_some_iff.1 hoj).1
      rw[aS _ (by omega)] at hjf
      simp only[Bool.or_eq_false_iff,decide_eq_false_iff_not] at hjf
      have h3:=tK hI ops.size (fO md ops i) (fun x hx=>by
       unfold fO at hx
       rw[ho] at hx
       obtain⟨e,he,rfl⟩:=List.mem_map.1 hx
       obtain⟨he,hb⟩:=List.mem_filter.1 he
       exact hall e (Array.mem_toList_iff.1 he) hb) j (hcov i q his j (by omega))
      rw[oI (by omega),h3] at hjf
      exact Bool.noConfusion hjf.1
    have hi2:i∈Region.ready md ops (bQ m L):=by
     refine mem_ready.2 ⟨?_,o,ho,fun e he hb=>?_⟩
     ·rw[aS _ (by omega),hif];simp;omega
     ·have hlt:=hlow i o ho e he hb
      rw[aS _ (by omega),hall e he hb];rfl
    refine qQ hnd hw (fun a' w' hw' h'=>?_) (h.2 i hi2)
    refine ihf (L.setIfInBounds i true) a' w' (by simpa using hs) (fun j hj hjs=>?_) ?_ hw' (by rw[oG];exact h')
    ·rw[getD_set_ne true (by omega)];exact hun j hj hjs
    ·intro j oj hoj hjt e he hb
     by_cases hij:i=j
     ·subst hij
      rw[ho] at hoj
      cases hoj
      exact getD_set_true (hall e he hb)
     ·rw[getD_set_ne false hij] at hjt
      exact getD_set_true (hI j oj hoj hjt e he hb)
theorem jf {id:Nat}{Q:Exit->Act->World->Prop}{a:Act}{w:World}{l:List Oper}(m:Nat)(hm:P.follows .mixedOrders=true)(hB:ag3 .any l.toArray m=true)
  (h:wpQuietIn F n P l.toArray (fun w'=>∃ n,w'=w.drewN n) (fun a'=>∀ w',(∃ n,w'=w.drewN n)->wpListIn F n P l.toArray Q (l.drop m) a' w') (l.take m) a):(Code.region id l.toArray true).wpIn F n P Q a w:=by
 simp only[ag3,Bool.and_eq_true,List.all_eq_true,List.mem_range,Bool.or_eq_true,decide_eq_true_eq,beq_iff_eq,List.isEmpty_iff,List.contains_iff_mem] at hB
 obtain⟨⟨⟨⟨⟨⟨⟨hs,hnd⟩,hlow⟩,hmz⟩,hlex⟩,hcov⟩,hT⟩,hE⟩:=hB
 refine wpIn_region_any hm ?_
 have e0:(Array.replicate l.toArray.size false)=aJ l.toArray.size 0:=dV (by simp) (fun j hj=>by omega) (fun j _ hj=>by simp at hj;simp[hj])
 rw[e0]
 have hz:l.toArray.size=m+(l.toArray.size - m):=by omega
 have hlen:(l.take m).length=m:=by simp at hmz ⊢;omega
 have key:=vS (F:=F) (n:=n) (P:=P) (C:=fun w'=>∃ n,w'=w.drewN n) (Q:=Q) (md:=.any) (ops:=l.toArray) (m:=m) (T:=fun a' w'=>wpListIn F n P l.toArray Q (l.toArray.toList.drop m) a' w') (fun fuel a w h=>oD (fun k hk hks=>(hT k hks).resolve_left (by omega)) hE (l.toArray.size - m) m fuel a w (by omega) (Nat.le_refl _) h) hmz hnd (iw hlow) (fun k hk hks j hj=>(hcov k hks).resolve_left (by omega) j hj) m (aJ l.toArray.size 0) a (w.drewN 1) (by simp[aJ]) (fun j _ hj=>by simp at hj;simp[aJ,hj]) (fun j o ho hj=>by
   exfalso
   have hjs:j<l.length:=by simpa using (Array.getElem?_eq_some_iff.1 ho).1
   simp[aJ,hjs] at hj) ⟨1,rfl⟩ ?_
 ·rw[← hz] at key
  exact key
 ·have:=aas (F:=F) (n:=n) (P:=P) (C:=fun w'=>∃ n,w'=w.drewN n) (md:=.any) hs (l.take m) 0 (aJ l.toArray.size 0 |> bQ m) a (fun j hj=>by
   rw[hlen] at hj
   simp[hj]) (by rw[hlen];exact hlex) h
  rw[hlen] at this
  exact this
def eP (Q:Exit->Act->World->Prop) (K:Act->World->Prop):Exit->Act->World->Prop
 | .normal,a,w=>K a w
 | e,a,w=>Q e a w
theorem ay {Q:Exit->Act->World->Prop}{K:Act->World->Prop}{a:Act}{w:World}(h:K a w):eP Q K .normal a w:=h
theorem kL {Q:Exit->Act->World->Prop}{o:Oper}{a:Act}{w:World}{K K':Act->World->Prop}(h:o.wpIn F n P a w K (eP Q K')):o.wpIn F n P a w K Q:=by
 unfold Oper.wpIn at *
 refine⟨h.1,?_⟩
 have hh:=h.2
 generalize (o.semAt F.round a.eval).run P w=r at *
 cases r with
 | ok x w' =>
  cases x<;>simp only[Oper.uponIn] at hh ⊢ <;>
   first
    | exact hh
    | exact⟨hh.1,CallsIn.mono hh.2 (fun e w'' he=>by cases e<;>exact he)⟩
    | exact⟨hh.1,RoundIn.mono hh.2 (fun e w'' he=>by cases e<;>exact he)⟩
 | halt x w'=>cases x<;>simp only[Oper.uponIn] at hh ⊢<;>exact hh
theorem jv {Q:Act->Prop}{Q':Exit->Act->World->Prop}(hnd:dh ops=true)(hQ:∀ a w,C w->Q a->Q' .normal a w):∀ (fuel:Nat) (listed:Array Bool) (a:Act) (w:World),C w ->
  wpAnyQIn F n P md ops C Q fuel listed a->wpAnyIn F n P md ops Q' fuel listed a w
 | 0,_,_,_,hw,h=>⟨h.1,hQ _ _ hw h.2⟩
 | fuel+1,_,_,_,hw,h=>⟨fun h0=>hQ _ _ hw (h.1 h0),fun i hi=>qQ hnd hw (fun a' w' hw'=>jv hnd hQ fuel _ a' w' hw') (h.2 i hi)⟩
theorem oJ {Q:Exit->Act->World->Prop}:∀ (fuel k:Nat) (L:Array Bool) (a:Act) (w:World),wpAnyIn F n P md ops Q fuel L a w->wpAnyIn F n P md ops Q (k+fuel) L a w
 | 0,k,L,a,w,h=>wpAnyIn_done h.1 h.2 _
 | fuel+1,k,L,a,w,h=>⟨h.1,fun i hi=>wpOpIn_mono (fun a' w' h'=>oJ fuel k _ a' w' h') (h.2 i hi)⟩
def ag4 (md:Region.Mode) (ops:Array Oper) (m:Nat):Bool :=
 Region.noSelect ops&&dh ops&&lW md ops&&decide (m<ops.size)&&Region.lexFrom md ops m 0 (aJ ops.size 0 |> bQ m)
  && ((List.range ops.size).all fun k=>decide (k<m)||(List.range m).all fun j=>(jw md ops ops.size (fO md ops k)).contains j)
  && Region.ready md ops (aJ ops.size m)==[m]&&Region.lexFrom md ops (ops.size - (m+1)) (m+1) (aJ ops.size (m+1))
theorem aK {id:Nat}{Q:Exit->Act->World->Prop}{a:Act}{w:World}{l:List Oper}(m:Nat)(hm:P.follows .mixedOrders=true)(hB:ag4 .any l.toArray m=true)
  (h:wpQuietIn F n P l.toArray (fun w'=>∃ n,w'=w.drewN n) (fun a'=>∀ w',(∃ n,w'=w.drewN n)->wpListIn F n P l.toArray (eP Q fun a2 w2=>wpQuietIn F n P l.toArray (fun w'=>∃ n,w'=w2.drewN n) (fun a3=>∀ w3,(∃ n,w3=w2.drewN n)->Q .normal a3 w3) (l.drop (m+1)) a2) ((l.drop m).take 1) a' w') (l.take m) a):(Code.region id l.toArray true).wpIn F n P Q a w:=by
 simp only[ag4,Bool.and_eq_true,List.all_eq_true,List.mem_range,Bool.or_eq_true,decide_eq_true_eq,beq_iff_eq,List.contains_iff_mem] at hB
 obtain⟨⟨⟨⟨⟨⟨⟨hs,hnd⟩,hlow⟩,hmz⟩,hlex⟩,hcov⟩,hT⟩,hL2⟩:=hB
 refine wpIn_region_any hm ?_
 have e0:(Array.replicate l.toArray.size false)=aJ l.toArray.size 0:=dV (by simp) (fun j hj=>by omega) (fun j _ hj=>by simp at hj;simp[hj])
 rw[e0]
 have hml:m<l.length:=by simpa using hmz
 have hz:l.toArray.size=m+((l.toArray.size - (m+1))+1):=by omega
 have hlen:(l.take m).length=m:=by simp;omega
 have hd1:(l.drop m).take 1=[l[m]]:=by rw[List.drop_eq_getElem_cons hml];rfl
 have ho:l.toArray[m]?=some l[m]:=by simp[hml]
 rw[hd1] at h
 have key:=vS (F:=F) (n:=n) (P:=P) (C:=fun w'=>∃ n,w'=w.drewN n) (Q:=Q) (md:=.any) (ops:=l.toArray) (m:=m) (t:=(l.toArray.size - (m+1))+1) (T:=fun a' w'=>wpListIn F n P l.toArray (eP Q fun a2 w2=>wpQuietIn F n P l.toArray (fun w'=>∃ n,w'=w2.drewN n) (fun a3=>∀ w3,(∃ n,w3=w2.drewN n)->Q .normal a3 w3) (l.drop (m+1)) a2) [l[m]] a' w') (fun fuel a w h=>?_) (by omega) hnd (iw hlow) (fun k hk hks j hj=>(hcov k hks).resolve_left (by omega) j hj) m (aJ l.toArray.size 0) a (w.drewN 1) (by simp[aJ]) (fun j _ hj=>by simp at hj;simp[aJ,hj]) (fun j o ho hj=>by
   exfalso
   have hjs:j<l.length:=by simpa using (Array.getElem?_eq_some_iff.1 ho).1
   simp[aJ,hjs] at hj) ⟨1,rfl⟩ ?_
 ·rw[← hz] at key
  exact key
 ·have suf:∀ a2 w2,wpQuietIn F n P l.toArray (fun w'=>∃ n,w'=w2.drewN n) (fun a3=>∀ w3,(∃ n,w3=w2.drewN n)->Q .normal a3 w3) (l.drop (m+1)) a2->wpAnyIn F n P .any l.toArray Q (fuel+(l.toArray.size - (m+1))) (aJ l.toArray.size (m+1)) a2 w2:=fun a2 w2 h2=>by
   have hl2:(l.drop (m+1)).length=l.toArray.size - (m+1):=by simp
   have:=aas (F:=F) (n:=n) (P:=P) (C:=fun w'=>∃ n,w'=w2.drewN n) (md:=.any) hs (l.drop (m+1)) (m+1) (aJ l.toArray.size (m+1)) a2 (fun j hj=>by simp) (by rw[hl2];exact hL2) h2
   rw[hl2] at this
   exact oJ _ _ _ _ _ (jv (C:=fun w'=>∃ n,w'=w2.drewN n) hnd (fun a w hw h=>h w hw) _ _ _ _ ⟨0,rfl⟩ this)
  rw[← Nat.add_assoc]
  refine wpAnyIn_all hT (by simp) (fun i hi=>?_)
  have ei:i=m:=by simpa using hi
  subst ei
  rw[oH]
  unfold wpOpIn
  rw[ho]
  simp only[wpListIn] at h
  simp only
  split
  ·rename_i hw
   rw[if_pos hw] at h
   exact Oper.wpIn_mono suf (kL h)
  ·rename_i hw
   rw[if_neg hw] at h
   exact⟨h.1,suf _ _ h.2⟩
 ·have:=aas (F:=F) (n:=n) (P:=P) (C:=fun w'=>∃ n,w'=w.drewN n) (md:=.any) hs (l.take m) 0 (aJ l.toArray.size 0 |> bQ m) a (fun j hj=>by
   rw[hlen] at hj
   simp[hj]) (by rw[hlen];exact hlex) h
  rw[hlen] at this
  exact this
end
end Go.Proofs.YtefdkpbmeoakgaaGreatDoor
/- A folder: amw write and read. -/
namespace Go.Proofs.YtefdkpbmeoakgaaGreatDoor
set_option maxRecDepth 100000
set_option maxHeartbeats 8000000
open Go.RowKit Go.Shelf Go.Maps
set_option linter.unusedVariables false
def Df (o tb:Option Addr) (P:Nat->Int) (j:Int) (dv nv:Value):Array Value:=#[.pointer o,.pointer tb,.int .i64 (P 0),.int .i64 (P 1),.int .i64 (P 2),.int .i64 (P 3),.int .i64 (P 4),.int .i64 (P 5),.int .i64 (P 6),.int .i64 (P 7),.int .i64 (P 8),.int .i64 (P 9),.int .i64 (P 10),.int .i64 (P 11),.int .i64 j,dv,nv]
theorem Df.cells {u f}{o tb:Option Addr}{P:Nat->Int}{j:Int}{dv nv:Value}{ty}(h:Bl u f (Df o tb P j dv nv) ty) :
  u.cell? ⟨f,0,none⟩=some (.pointer o)/\u.cell? ⟨f,1,none⟩=some (.pointer tb)/\u.cell? ⟨f,2,none⟩=some (.int .i64 (P 0))/\u.cell? ⟨f,3,none⟩=some (.int .i64 (P 1))/\u.cell? ⟨f,4,none⟩=some (.int .i64 (P 2))/\u.cell? ⟨f,5,none⟩=some (.int .i64 (P 3))/\u.cell? ⟨f,6,none⟩=some (.int .i64 (P 4))/\u.cell? ⟨f,7,none⟩=some (.int .i64 (P 5))/\u.cell? ⟨f,8,none⟩=some (.int .i64 (P 6))/\u.cell? ⟨f,9,none⟩=some (.int .i64 (P 7))/\u.cell? ⟨f,10,none⟩=some (.int .i64 (P 8))/\u.cell? ⟨f,11,none⟩=some (.int .i64 (P 9))/\u.cell? ⟨f,12,none⟩=some (.int .i64 (P 10))/\u.cell? ⟨f,13,none⟩=some (.int .i64 (P 11))/\u.cell? ⟨f,14,none⟩=some (.int .i64 j)/\u.cell? ⟨f,15,none⟩=some dv/\u.cell? ⟨f,16,none⟩=some nv :=
 ⟨h.cell 0 _ rfl,h.cell 1 _ rfl,h.cell 2 _ rfl,h.cell 3 _ rfl,h.cell 4 _ rfl,h.cell 5 _ rfl,h.cell 6 _ rfl,h.cell 7 _ rfl,h.cell 8 _ rfl,h.cell 9 _ rfl,h.cell 10 _ rfl,h.cell 11 _ rfl,h.cell 12 _ rfl,h.cell 13 _ rfl,h.cell 14 _ rfl,h.cell 15 _ rfl,h.cell 16 _ rfl⟩
theorem abY {n0}{Q Q3:List (Nat×Obj)->World->Prop}(hq:Bun n0 Q)(hq3:Bun n0 Q3){rows:List (Nat×Obj)}{u:World}(h:Q rows u)(P:Nat->Int)(o tb f:Nat)(j:Int)(dv nv:Value)(hf:(f,.cells (Df (some ⟨o,0,none⟩) (some ⟨tb,0,none⟩) P j dv nv) 73)∈rows)(a:Option Addr)(l c:Nat)(er:Int)
  (KW:∀ v,Q rows v->Calls Tryz.prog 60 #[.pointer (some ⟨o,0,none⟩),.pointer (some ⟨tb,0,none⟩),Pv P,.int .i64 j,.int .i64 0,.slice a l c] v fun e v'=>e=.returned (.int .i64 er)/\Hid (Q3 rows v')) :
  Calls Tryz.prog 29 #[.pointer (some ⟨f,0,none⟩),.int .i64 0,.slice a l c] u fun e v'=>e=.returned (.int .i64 er)/\Hid (Q3 rows v'):=by
 obtain⟨x0,x1,x2,x3,x4,x5,x6,x7,x8,x9,x10,x11,x12,x13,x14,x15,x16⟩:=Df.cells (hq.row h hf)
 have HK:Hid (∀ q,Calls Tryz.prog 60 #[.pointer (some ⟨o,0,none⟩),.pointer (some ⟨tb,0,none⟩),Pv P,.int .i64 j,.int .i64 0,.slice a l c] (u.drewN q) fun e v'=>e=.returned (.int .i64 er)/\Hid (Q3 rows v')):=fun q=>KW _ (hq.later h ⟨rfl,rfl,rfl,Nat.le_refl _,fun _ _=>rfl⟩)
 have amh:=hide hq3
 clear h hf KW hq hq3
 go_enter Tryz.func29,Tryz.ntmps29
 go_wp2_with fail
 refine(wpIn_wide (n:=3)).1 ?_
 refine aK 19 (by kernel_rfl) (by kernel_rfl) ?_
 simp only[List.take_succ_cons,List.take_zero,List.drop_succ_cons,List.drop_zero]
 repeat (gi_big_quiet_step (fail))
 refine wpQuietIn_nil ?_
 rintro _ ⟨nq,rfl⟩
 have HK:=hide (HK.out nq)
 clear x0 x1 x2 x3 x4 x5 x6 x7 x8 x9 x10 x11 x12 x13 x14 x15 x16
 generalize u.drewN nq=w8 at *
 gi_wp2
 refine⟨trivial,?_⟩
 refine(callsIn_wide.2 (ah HK)).mono ?_
 rintro e w9 ⟨rfl,Y⟩
 clear HK
 gi_wp2
 refine ay ?_
 repeat (gi_big_quiet_step (fail))
 refine wpQuietIn_nil ?_
 rintro _ ⟨nq2,rfl⟩
 go_wp2_with fail
 go_ret
 exact⟨rfl,hide (amh.out.later Y.out ⟨rfl,rfl,rfl,Nat.le_refl _,fun _ _=>rfl⟩)⟩
theorem mM (f:Nat)(en:Int)(a:Option Addr)(l c:Nat)(u:World)(hl:l<=1000000)(he:en<=(l:Int))(y:u.cell? ⟨f,15,none⟩=some (.slice a l c)) :
  Calls Tryz.prog 56 #[.pointer (some ⟨f,0,none⟩),.int .i64 en] u fun e v'=>e=.returned (.int .i64 0)/\v'=u:=by
 have d1:decide ((l:Int)<en)=false:=by simp;omega
 go_enter Tryz.func56,Tryz.ntmps56
 go_wp2_with fail
 go_loopw [5] (fun _ wr=>wr=u) (fun _ _=>0)
 case atStart=>exact rfl
 case round =>
  subst hrel
  go_wp2_with fail
  go_ret
  exact⟨rfl,rfl⟩
end Go.Proofs.YtefdkpbmeoakgaaGreatDoor
/- A region that draws its order, in a round as well: operations that only read what the others leave as it is, and others that stand in one order. -/
namespace Go.Proofs.YtefdkpbmeoakgaaGreatDoor
set_option maxRecDepth 100000
set_option maxHeartbeats 8000000
set_option linter.unusedVariables false
section
variable {F:Fence} {n:Nat} {P:Program} {ops:Array Oper} {md:Region.Mode} {C:World->Prop} {Q:Exit->Act->World->Prop}
structure RgC (C:World->Prop) where
 w:World
 ok:C w
def dL (P:Program) (ops:Array Oper) (C:World->Prop) (o:Oper) (v:Value) (a:Act):Prop :=
 (∀ w,o.about P w a.eval=none)/\((Region.wanted o (yielded ops a.tmps)=true/\∀ w,C w->(execOp a.eval o).run P w=.ok (.value v) w)\/(Region.wanted o (yielded ops a.tmps)=false/\v=undef))
theorem dL.op {i:Nat}{o:Oper}{v:Value}{a:Act}(hnd:dh ops=true)(hi:ops[i]?=some o)(hy:dL P ops C o v a){K:Act->World->Prop}{w:World}(hw:C w)(h:K (a.put o.dst v) w):wpOpIn F n P ops Q i K a w:=by
 unfold wpOpIn
 simp only[hi]
 have hab:∀ f,o.about P w a.eval=some f->F.fn f:=fun f hf=>by rw[hy.1 w] at hf;cases hf
 rcases hy.2 with ⟨hwt,hv⟩ | ⟨hwt,rfl⟩
 ·simp only[hwt,if_true,Oper.wpIn,Oper.semAt_plain F _ _ (fE hnd hi),hv w hw,Oper.uponIn];exact⟨hab,h⟩
 ·simp only[hwt,Bool.false_eq_true,if_false];exact⟨hab,h⟩
theorem dL.same {o v}{a a':Act}(hy:dL P ops C o v a)(he:execOp a'.eval o=execOp a.eval o)(hw:Region.wanted o (yielded ops a'.tmps)=Region.wanted o (yielded ops a.tmps))(hb:∀ w,o.about P w a'.eval=o.about P w a.eval):dL P ops C o v a':=by
 unfold dL at *
 rw[he,hw]
 exact⟨fun w=>by rw[hb w];exact hy.1 w,hy.2⟩
theorem aiQ {j:Nat}{oi oj:Oper}{v:Value}(hnd:dh ops=true)(hj:ops[j]?=some oj)(hap:oi.apart ops oj=true)
  (hsi:∀ cs b,oi.op≠.select cs b) (hsj:∀ cs b,oj.op≠.select cs b)
  (hQ:∀ c a w,Q (.panic c) (a.put oi.dst v) w->Q (.panic c) a w) {K:Act->World->Prop} {a:Act} {w:World}
  (hy:dL P ops C oi v a) (h:wpOpIn F n P ops Q j K (a.put oi.dst v) w) :
  wpOpIn F n P ops Q j (fun a' w'=>dL P ops C oi v a'/\K (a'.put oi.dst v) w') a w:=by
 obtain⟨h1,h2,h3⟩:=Oper.apart_spec hap
 have keep:∀ (a:Act),dL P ops C oi v a->∀ u,dL P ops C oi v (a.put oj.dst u):=fun a hy u =>
  hy.same (execOp_put oi hsi a oj.dst u h3) (wanted_put oi a oj.dst u h3) (fun w=>about_put oi w a oj.dst u h3)
 have keepD:∀ d,dL P ops C oi v { a with defers:=d::a.defers }:=fun d=>hy.same rfl rfl (fun _=>rfl)
 unfold wpOpIn at *
 simp only[hj] at h ⊢
 rw[wanted_put oj a oi.dst v h1,about_put oj w a oi.dst v h1] at h
 split
 ·rename_i hw
  simp only[hw,if_true] at h
  unfold Oper.wpIn at *
  rw[about_put oj w a oi.dst v h1] at h
  refine⟨h.1,?_⟩
  have h:=h.2
  rw[Oper.semAt_plain F _ _ (fE hnd hj),execOp_put oj hsj a oi.dst v h1] at h
  rw[Oper.semAt_plain F _ _ (fE hnd hj)]
  generalize (execOp a.eval oj).run P w=r at *
  cases r with
  | ok x w' =>
   cases x<;>simp only[Oper.uponIn] at h ⊢
   case value u=>exact⟨keep a hy u,by rw[← Act.put_comm a v u h2];exact h⟩
   case skip=>exact⟨keep a hy _,by rw[← Act.put_comm a v undef h2];exact h⟩
   case defer d =>
    refine⟨keep _ (keepD d) _,?_⟩
    rw[← Act.put_comm _ v undef h2,← Act.put_defers]
    exact h
   case enter f args =>
    refine⟨h.1,CallsIn.mono h.2 fun e w'' he=>?_⟩
    cases e with
    | returned u=>exact⟨keep a hy u,by rw[← Act.put_comm a v u h2];exact he⟩
    | panicked c=>exact hQ _ _ _ he
    | outgrown=>exact he
   case row row args=>exact⟨h.1,RowsIn.mono h.2 fun u w'' he=>⟨keep a hy u,by rw[← Act.put_comm a v u h2];exact he⟩⟩
   case round l f tmps assign body =>
    refine⟨h.1,RoundIn.mono h.2 fun e w'' he=>?_⟩
    cases e with
    | returned u=>exact⟨keep a hy u,by rw[← Act.put_comm a v u h2];exact he⟩
    | panicked c=>exact hQ _ _ _ he
    | outgrown=>exact he
  | halt x w' =>
   cases x<;>simp only[Oper.uponIn] at h ⊢
   case panic u=>exact hQ _ _ _ h
 ·rename_i hw
  simp only[hw] at h
  exact⟨h.1,keep a hy _,by rw[← Act.put_comm a v undef h2];exact h.2⟩
def jV (F:Fence) (n:Nat) (P:Program) (md:Region.Mode) (ops:Array Oper) (Q:Exit->Act->World->Prop) (C:World->Prop):Nat->Array Bool->Act->World->Prop
 | 0,listed,a,w=>Region.ready md ops listed=[]/\Q .normal a w
 | fuel+1,listed,a,w =>
  (Region.ready md ops listed=[]->Q .normal a w) /\
  ∀ i∈Region.ready md ops listed,wpOpIn F n P ops Q i (fun a' w'=>C w'/\jV F n P md ops Q C fuel (listed.setIfInBounds i true) a' w') a w
theorem jV.any:∀ (fuel:Nat) (listed:Array Bool) (a:Act) (w:World),jV F n P md ops Q C fuel listed a w->wpAnyIn F n P md ops Q fuel listed a w
 | 0,_,_,_,h=>h
 | fuel+1,_,_,_,h=>⟨h.1,fun i hi=>wpOpIn_mono (fun a' w' h'=>jV.any fuel _ a' w' h'.2) (h.2 i hi)⟩
theorem yP {i:Nat}{oi:Oper}{v:Value}(hnd:dh ops=true)(hi:ops[i]?=some oi)(hsel:∀ (j:Nat) (o:Oper) cs b,ops[j]?=some o->o.op≠.select cs b)
  (hQ:∀ c a w,Q (.panic c) (a.put oi.dst v) w->Q (.panic c) a w) :
  ∀ (fuel:Nat) (listed:Array Bool) (a:Act) (w:World),
   (∀ j oj,ops[j]?=some oj->j≠i->listed.getD j true=false->(∀ e∈oj.after,Region.binds md e=true->e.on≠i)->oi.apart ops oj=true) ->
   i∈Region.ready md ops listed->dL P ops C oi v a->C w ->
   jV F n P md ops Q C fuel (listed.setIfInBounds i true) (a.put oi.dst v) w->jV F n P md ops Q C (fuel+1) listed a w:=by
 intro fuel
 induction fuel with
 | zero =>
  intro listed a w _ hr hy hw H
  refine⟨fun h=>(by rw[h] at hr;cases hr),fun j hj=>?_⟩
  by_cases hji:j=i
  ·subst hji;exact hy.op hnd hi hw ⟨hw,H⟩
  ·have:=ready_mono hj hji
   rw[H.1] at this
   cases this
 | succ fuel ih =>
  intro listed a w hfree hr hy hw H
  refine⟨fun h=>(by rw[h] at hr;cases hr),fun j hj=>?_⟩
  by_cases hji:j=i
  ·subst hji;exact hy.op hnd hi hw ⟨hw,H⟩
  ·have h1:=H.2 j (ready_mono hj hji)
   obtain⟨hjun,oj,hoj,hall⟩:=mem_ready.1 hj
   have hnot:∀ e∈oj.after,Region.binds md e=true->e.on≠i:=fun e he hb heq=>by
    have h1:=hall e he hb
    have h0:=(mem_ready.1 hr).1
    rw[heq] at h1
    rcases Nat.lt_or_ge i listed.size with h' | h'
    ·simp[h'] at h0 h1;rw[h0] at h1;cases h1
    ·simp[Array.getElem?_eq_none h'] at h1
   have h2:=aiQ hnd hoj (hfree j oj hoj hji hjun hnot) (fun cs b=>hsel i oi cs b hi) (fun cs b=>hsel j oj cs b hoj) hQ hy h1
   have hfree':∀ k ok,ops[k]?=some ok->k≠i->(listed.setIfInBounds j true).getD k true=false ->
     (∀ e∈ok.after,Region.binds md e=true->e.on≠i)->oi.apart ops ok=true:=fun k ok hk hki hun hno=>by
    refine hfree k ok hk hki ?_ hno
    by_cases hjk:j=k
    ·subst hjk;exact hjun
    ·rw[getD_set_ne true hjk] at hun;exact hun
   refine wpOpIn_mono (fun a' w' h3=>⟨h3.2.1,ih (listed.setIfInBounds j true) a' w' hfree' (ready_mono hr (Ne.symm hji)) h3.1 h3.2.1 ?_⟩) h2
   rw[Array.setIfInBounds_comm _ _ hji]
   exact h3.2.2
def qV (o:Oper):Bool:=match o.op with
 | .move _ | .assign _ | .load .. | .fieldAddr .. | .build .. | .slice .. | .binOp .. | .indexAddr .. | .extract ..=>true
 | .nilCheck _=>true
 | _=>false
theorem mY {o:Oper}(h:qV o=true)(a:Act)(w:World):o.about P w a.eval=none:=by
 unfold qV at h
 unfold Oper.about
 split
 ·rename_i c hc
  rw[hc] at h
  cases h
 ·rfl
theorem vT {o:Oper}(h:qV o=true)(ρ:Operand->Value)(w w':World)(x:Next)(hr:(execOp ρ o).run P w=.ok x w'):∃ v,x=.value v:=by
 have aux:∀ (s:Sem Value),(do pure (Next.value (← s)):Sem Next).run P w=.ok x w'->∃ v,x=.value v:=fun s hs=>by
  rw[Sem.run_bind] at hs
  cases hv:s.run P w with
  | ok v u =>
   rw[hv] at hs
   simp only[Result.andThen_ok,Sem.run_pure,Result.ok.injEq] at hs
   exact⟨v,hs.1.symm⟩
  | halt e u=>rw[hv] at hs;cases hs
 unfold qV at h
 unfold execOp at hr
 split at hr<;>rename_i ho<;>rw[ho] at h<;>first
  | exact absurd h Bool.false_ne_true
  | exact aux _ hr
  | (simp only[Sem.run_pure,Result.ok.injEq] at hr;exact⟨_,hr.1.symm⟩)
  | skip
 have ajS:(runtimePanic RuntimeError.nilDeref:Sem Next).run P w=.ok x w'->False:=fun he=>by
  simp[runtimePanic,goPanic,Sem.run_bind,program,Result.andThen,Sem.run] at he
 dsimp only at hr
 split at hr
 ·exact(ajS hr).elim
 ·exact(ajS hr).elim
 ·exact(ajS hr).elim
 ·split at hr
  ·exact(ajS hr).elim
  ·rw[Sem.run_bind] at hr
   generalize (program).run P w=r1 at hr
   cases r1 with
   | halt e q=>cases hr
   | ok p1 q1 =>
    rw[Result.andThen_ok,Sem.run_bind] at hr
    generalize Sem.run P (nilAhead _ _ _ _) q1=r2 at hr
    cases r2 with
    | halt e q=>cases hr
    | ok p2 q2 =>
     rw[Result.andThen_ok] at hr
     split at hr
     ·rw[Sem.run_bind] at hr
      cases hr
     ·simp only[Sem.run_pure,Result.ok.injEq] at hr
      exact⟨_,hr.1.symm⟩
  ·simp only[Sem.run_pure,Result.ok.injEq] at hr
   exact⟨_,hr.1.symm⟩
 ·simp only[Sem.run_pure,Result.ok.injEq] at hr
  exact⟨_,hr.1.symm⟩
theorem dK {C:World->Prop}{K K':Act->Prop}(h:∀ a,K a->K' a):∀ (l:List Oper) (a:Act),wpQuietIn F n P ops C K l a->wpQuietIn F n P ops C K' l a
 | [],a,hh=>h a hh
 | o::r,a,hh=>by
  refine⟨hh.1,?_⟩
  have h2:=hh.2
  split
  ·rename_i hw
   rw[if_pos hw] at h2
   exact Oper.quietIn_mono (fun a'=>dK h r a') h2
  ·rename_i hw
   rw[if_neg hw] at h2
   exact dK h r _ h2
def kM (ops:Array Oper) (qs:List Nat):List Oper:=qs.filterMap fun i=>ops[i]?
def fF:List Nat->Array Bool->Array Bool
 | [],L=>L
 | k::r,L=>fF r (L.setIfInBounds k true)
def yO (md:Region.Mode) (ops:Array Oper):List Nat->Array Bool->Bool
 | [],_=>true
 | k::r,L=>(Region.ready md ops L).contains k&&Region.free md ops L k&&((ops[k]?).map qV).getD false&&yO md ops r (L.setIfInBounds k true)
def ada (md:Region.Mode) (ops:Array Oper):List Nat->Array Bool->Bool
 | [],L=>(Region.ready md ops L).isEmpty
 | k::r,L=>Region.ready md ops L==[k]&&ada md ops r (L.setIfInBounds k true)
theorem kK (hnd:dh ops=true)(hs:Region.noSelect ops=true)(hQ:∀ c a d v w,Q (.panic c) (Act.put a d v) w->Q (.panic c) a w){fuel:Nat}{w:World}(hw:C w) :
  ∀ (qs:List Nat) (L:Array Bool) (a:Act),yO md ops qs L=true ->
   wpQuietIn F n P ops (fun u=>∃ x:RgC C,u=x.w) (fun a'=>jV F n P md ops Q C fuel (fF qs L) a' w) (kM ops qs) a->jV F n P md ops Q C (fuel+qs.length) L a w
 | [],L,a,_,h=>h
 | k::r,L,a,hB,h=>by
  simp only[yO,Bool.and_eq_true] at hB
  obtain⟨⟨⟨hr,hf⟩,hrd⟩,hB'⟩:=hB
  cases ho:ops[k]? with
  | none=>rw[ho] at hrd;cases hrd
  | some o =>
   rw[ho] at hrd
   have hrd:qV o=true:=hrd
   have e:kM ops (k::r)=o::kM ops r:=by simp[kM,ho]
   rw[e] at h
   obtain⟨_,h⟩:=h
   have main:∀ v,dL P ops C o v a->wpQuietIn F n P ops (fun u=>∃ x:RgC C,u=x.w) (fun a'=>jV F n P md ops Q C fuel (fF r (L.setIfInBounds k true)) a' w) (kM ops r) (a.put o.dst v)->jV F n P md ops Q C (fuel+(r.length+1)) L a w:=fun v hy hK =>
    yP hnd ho (Region.noSelect_spec hs) (fun c a w=>hQ c a _ _ w) (fuel+r.length) L a w (Region.free_spec ho hf) (by simpa using hr) hy hw (kK hnd hs hQ hw r _ _ hB' hK)
   by_cases hwt:Region.wanted o (yielded ops a.tmps)=true
   ·rw[if_pos hwt] at h
    obtain⟨v,h1,h2⟩:=h
    refine main v ⟨fun u=>mY hrd a u,.inl ⟨hwt,fun u hu=>?_⟩⟩ h2
    have h3:=h1 u ⟨⟨u,hu⟩,rfl⟩
    unfold Oper.quietAtIn at h3
    cases hx:(execOp a.eval o).run P u with
    | halt e q=>rw[hx] at h3;exact h3.elim
    | ok x q =>
     obtain⟨v',rfl⟩:=vT hrd _ _ _ _ hx
     rw[hx] at h3
     obtain⟨rfl,rfl⟩:=h3
     rfl
   ·rw[if_neg hwt] at h
    exact main undef ⟨fun u=>mY hrd a u,.inr ⟨by simpa using hwt,rfl⟩⟩ h
def dD (F:Fence) (n:Nat) (P:Program) (ops:Array Oper) (Q:Exit->Act->World->Prop) (C:World->Prop):List Oper->Act->World->Prop
 | [],a,w=>Q .normal a w
 | o::r,a,w=>wpListIn F n P ops (eP Q fun a' w'=>C w'/\dD F n P ops Q C r a' w') [o] a w
theorem tN:∀ (ts:List Nat) (L:Array Bool) (a:Act) (w:World),ada md ops ts L=true->dD F n P ops Q C (kM ops ts) a w->jV F n P md ops Q C ts.length L a w
 | [],L,a,w,hB,h=>⟨by simpa [ada] using hB,h⟩
 | k::r,L,a,w,hB,h=>by
  simp only[ada,Bool.and_eq_true,beq_iff_eq] at hB
  obtain⟨hr,hB'⟩:=hB
  have hk:k∈Region.ready md ops L:=by rw[hr];simp
  obtain⟨_,o,ho,_⟩:=mem_ready.1 hk
  have e:kM ops (k::r)=o::kM ops r:=by simp[kM,ho]
  rw[e] at h
  refine⟨fun h0=>(by rw[h0] at hr;cases hr),fun i hi=>?_⟩
  rw[hr] at hi
  have ei:i=k:=by simpa using hi
  subst ei
  unfold wpOpIn
  rw[ho]
  simp only[dD,wpListIn] at h
  simp only
  split
  ·rename_i hw
   rw[if_pos hw] at h
   exact Oper.wpIn_mono (fun a' w' h'=>⟨h'.1,tN r _ a' w' hB' h'.2⟩) (kL h)
  ·rename_i hw
   rw[if_neg hw] at h
   exact⟨h.1,h.2.1,tN r _ _ _ hB' h.2.2⟩
theorem qU {m:Nat}(hmz:m<=ops.size)(hlow:∀ (j:Nat) (o:Oper),ops[j]?=some o->∀ e∈o.after,Region.binds md e=true->e.on<j)
  (hcov:∀ k,m<=k->k<ops.size->∀ j,j<m->j∈jw md ops ops.size (fO md ops k))
  (hT:∀ k,m<=k->k<ops.size->Region.ready md ops (aJ ops.size k)=[k]) (hE:Region.ready md ops (aJ ops.size ops.size)=[]) :
  ∀ (fuel:Nat) (L:Array Bool) (a:Act) (w:World),L.size=ops.size->(∀ j,m<=j->j<ops.size->L.getD j true=false)->ahn md ops L ->
   wpAnyIn F n P md ops (eP Q fun a' w'=>wpListIn F n P ops Q (ops.toList.drop m) a' w') fuel (bQ m L) a w->wpAnyIn F n P md ops Q (fuel+(ops.size - m)) L a w:=by
 have hall0:∀ (L:Array Bool),L.size=ops.size->Region.ready md ops (bQ m L)=[]->∀ j,j<m->j<ops.size->L.getD j true=true:=by
  intro L hs h j
  induction j using Nat.strongRecOn with
  | _ j ih =>
   intro hj hjs
   rcases hb:L.getD j true with _ | _
   ·exfalso
    have:j∈Region.ready md ops (bQ m L):=by
     refine mem_ready.2 ⟨?_,ops[j],by simp[hjs],fun e he hbe=>?_⟩
     ·rw[aS _ (by omega),hb];simp;omega
     ·have hlt:=hlow j ops[j] (by simp[hjs]) e he hbe
      have:=ih e.on hlt (by omega) (by omega)
      rw[oI (by omega)] at this
      rw[aS _ (by omega),this];rfl
    rw[h] at this
    cases this
   ·rfl
 intro fuel
 induction fuel with
 | zero =>
  intro L a w hs hun hI h
  rw[dV hs (hall0 L hs h.1) hun]
  exact oD hT hE (ops.size - m) m 0 a w (by omega) (Nat.le_refl _) h.2
 | succ fuel ihf =>
  intro L a w hs hun hI h
  by_cases hr:Region.ready md ops (bQ m L)=[]
  ·rw[dV hs (hall0 L hs hr) hun]
   exact oD hT hE (ops.size - m) m (fuel+1) a w (by omega) (Nat.le_refl _) (h.1 hr)
  ·rw[Nat.add_right_comm]
   refine⟨fun h0=>?_,fun i hi=>?_⟩
   ·exfalso
    obtain⟨j,hj⟩:=List.exists_mem_of_ne_nil _ hr
    obtain⟨hjf,o,ho,hall⟩:=mem_ready.1 hj
    have hjs:j<ops.size:=(Array.getElem?_eq_some_iff.1 ho).1
    rw[aS _ (by omega)] at hjf
    simp only[Bool.or_eq_false_iff,decide_eq_false_iff_not] at hjf
    have:j∈Region.ready md ops L:=by
     refine mem_ready.2 ⟨hjf.1,o,ho,fun e he hb=>?_⟩
     have hlt:=hlow j o ho e he hb
     have:=hall e he hb
     rw[aS _ (by omega)] at this
     simp only[Bool.or_eq_true,decide_eq_true_eq] at this
     rcases this with this | this
     ·exact this
     ·omega
    rw[h0] at this
    cases this
   ·obtain⟨hif,o,ho,hall⟩:=mem_ready.1 hi
    have his:i<ops.size:=(Array.getElem?_eq_some_iff.1 ho).1
    have him:i<m:=by
     rcases Nat.lt_or_ge i m with q | q
     ·exact q
     ·exfalso
      refine hr (List.eq_nil_iff_forall_not_mem.2 fun j hj=>?_)
      obtain⟨hjf,oj,hoj,_⟩:=mem_ready.1 hj
      have hjs:j<ops.size:=(Array.getElem?_eq_some_iff.1 hoj).1
      rw[aS _ (by omega)] at hjf
      simp only[Bool.or_eq_false_iff,decide_eq_false_iff_not] at hjf
      have h3:=tK hI ops.size (fO md ops i) (fun x hx=>by
       unfold fO at hx
       rw[ho] at hx
       obtain⟨e,he,rfl⟩:=List.mem_map.1 hx
       obtain⟨he,hb⟩:=List.mem_filter.1 he
       exact hall e (Array.mem_toList_iff.1 he) hb) j (hcov i q his j (by omega))
      rw[oI (by omega),h3] at hjf
      exact Bool.noConfusion hjf.1
    have hi2:i∈Region.ready md ops (bQ m L):=by
     refine mem_ready.2 ⟨?_,o,ho,fun e he hb=>?_⟩
     ·rw[aS _ (by omega),hif];simp;omega
     ·have hlt:=hlow i o ho e he hb
      rw[aS _ (by omega),hall e he hb];rfl
    have h2:=h.2 i hi2
    have next:∀ a' w',wpAnyIn F n P md ops (eP Q fun a' w'=>wpListIn F n P ops Q (ops.toList.drop m) a' w') fuel ((bQ m L).setIfInBounds i true) a' w'->wpAnyIn F n P md ops Q (fuel+(ops.size - m)) (L.setIfInBounds i true) a' w':=fun a' w' h'=>by
     refine ihf (L.setIfInBounds i true) a' w' (by simpa using hs) (fun j hj hjs=>?_) ?_ (by rw[oG];exact h')
     ·rw[getD_set_ne true (by omega)];exact hun j hj hjs
     ·intro j oj hoj hjt e he hb
      by_cases hij:i=j
      ·subst hij
       rw[ho] at hoj
       cases hoj
       exact getD_set_true (hall e he hb)
      ·rw[getD_set_ne false hij] at hjt
       exact getD_set_true (hI j oj hoj hjt e he hb)
    unfold wpOpIn at h2 ⊢
    rw[ho] at h2 ⊢
    simp only at h2 ⊢
    split
    ·rename_i hw
     rw[if_pos hw] at h2
     exact Oper.wpIn_mono next (kL h2)
    ·rename_i hw
     rw[if_neg hw] at h2
     exact⟨h2.1,next _ _ h2.2⟩
def afo (md:Region.Mode) (ops:Array Oper) (qs ts:List Nat):Bool :=
 Region.noSelect ops&&dh ops&&lW md ops&&decide (qs.length+ts.length<=ops.size)&&yO md ops qs (aJ ops.size 0 |> bQ (qs.length+ts.length))
  && ada md ops ts (fF qs (aJ ops.size 0 |> bQ (qs.length+ts.length)))
  && ((List.range ops.size).all fun k=>decide (k<qs.length+ts.length)||(List.range (qs.length+ts.length)).all fun j=>(jw md ops ops.size (fO md ops k)).contains j)
  && ((List.range ops.size).all fun k=>decide (k<qs.length+ts.length)||Region.ready md ops (aJ ops.size k)==[k])
  && (Region.ready md ops (aJ ops.size ops.size)).isEmpty
theorem nX {id:Nat}{a:Act}{w:World}{l:List Oper}(C:World->Prop)(qs ts:List Nat)(hm:P.follows .mixedOrders=true)(hB:afo .any l.toArray qs ts=true)
  (hQ:∀ c a d v w,Q (.panic c) (Act.put a d v) w->Q (.panic c) a w) (hC:C (w.drewN 1))
  (h:wpQuietIn F n P l.toArray (fun u=>∃ x:RgC C,u=x.w) (fun a'=>dD F n P l.toArray (eP Q fun a' w'=>wpListIn F n P l.toArray Q (l.drop (qs.length+ts.length)) a' w') C (kM l.toArray ts) a' (w.drewN 1)) (kM l.toArray qs) a):(Code.region id l.toArray true).wpIn F n P Q a w:=by
 simp only[afo,Bool.and_eq_true,List.all_eq_true,List.mem_range,Bool.or_eq_true,decide_eq_true_eq,beq_iff_eq,List.isEmpty_iff,List.contains_iff_mem] at hB
 obtain⟨⟨⟨⟨⟨⟨⟨⟨hs,hnd⟩,hlow⟩,hmz⟩,hord⟩,ams⟩,hcov⟩,hT⟩,hE⟩:=hB
 refine wpIn_region_any hm ?_
 have e0:(Array.replicate l.toArray.size false)=aJ l.toArray.size 0:=dV (by simp) (fun j hj=>by omega) (fun j _ hj=>by simp at hj;simp[hj])
 rw[e0]
 have hz:l.toArray.size=ts.length+qs.length+(l.toArray.size - (qs.length+ts.length)):=by omega
 have key:=qU (F:=F) (n:=n) (P:=P) (Q:=Q) (md:=.any) (ops:=l.toArray) (m:=qs.length+ts.length) hmz (iw hlow) (fun k hk hks j hj=>(hcov k hks).resolve_left (by omega) j hj) (fun k hk hks=>(hT k hks).resolve_left (by omega)) hE (ts.length+qs.length) (aJ l.toArray.size 0) a (w.drewN 1) (by simp[aJ]) (fun j _ hj=>by simp at hj;simp[aJ,hj]) (fun j o ho hj=>by
   exfalso
   have hjs:j<l.length:=by simpa using (Array.getElem?_eq_some_iff.1 ho).1
   simp[aJ,hjs] at hj) ?_
 ·rw[← hz] at key
  exact key
 ·refine jV.any _ _ _ _ (kK (Q:=eP Q fun a' w'=>wpListIn F n P l.toArray Q (l.drop (qs.length+ts.length)) a' w') hnd hs (fun c a d v w hq=>hQ c a d v w hq) hC qs _ a hord ?_)
  refine dK (fun a' h'=>tN ts _ a' _ ams h') _ _ h
theorem gK {l:List Oper}:∀ (n s:Nat),s+n<=l.length->kM l.toArray (List.range' s n)=(l.drop s).take n
 | 0,s,_=>rfl
 | n+1,s,h=>by
  have hs:s<l.length:=by omega
  rw[List.range'_succ,List.drop_eq_getElem_cons hs,List.take_succ_cons,← gK n (s+1) (by omega)]
  simp[kM,hs]
theorem fM {id:Nat}{a:Act}{w:World}{l:List Oper}(C:World->Prop)(i k:Nat)(hm:P.follows .mixedOrders=true)(hB:(decide (i+k<=l.length)&&afo .any l.toArray (List.range' 0 i) (List.range' i k))=true)
  (hQ:∀ c a d v w,Q (.panic c) (Act.put a d v) w->Q (.panic c) a w) (hC:C (w.drewN 1))
  (h:wpQuietIn F n P l.toArray (fun u=>∃ x:RgC C,u=x.w) (fun a'=>dD F n P l.toArray (eP Q fun a' w'=>wpListIn F n P l.toArray Q (l.drop (i+k)) a' w') C ((l.drop i).take k) a' (w.drewN 1)) (l.take i) a):(Code.region id l.toArray true).wpIn F n P Q a w:=by
 rw[Bool.and_eq_true,decide_eq_true_eq] at hB
 refine nX C _ _ hm hB.2 hQ hC ?_
 rw[gK i 0 (by omega),gK k i hB.1,List.drop_zero,List.length_range',List.length_range']
 exact h
def gQ (Q:Exit->Act->World->Prop):Exit->Act->World->Prop
 | .panic _,_,_=>False
 | e,a,w=>Q e a w
theorem jy {a:Act}{w:World}(h:Q .normal a w):gQ Q .normal a w:=h
theorem nH {id:Nat}{a:Act}{w:World}{l:List Oper}(C:World->Prop)(i k:Nat)(hm:P.follows .mixedOrders=true)(hB:(decide (i+k<=l.length)&&afo .any l.toArray (List.range' 0 i) (List.range' i k))=true)(hC:C (w.drewN 1))
  (h:wpQuietIn F n P l.toArray (fun u=>∃ x:RgC C,u=x.w) (fun a'=>dD F n P l.toArray (eP (gQ Q) fun a' w'=>wpListIn F n P l.toArray (gQ Q) (l.drop (i+k)) a' w') C ((l.drop i).take k) a' (w.drewN 1)) (l.take i) a):(Code.region id l.toArray true).wpIn F n P Q a w :=
 wpIn_mono (fM (Q:=gQ Q) C i k hm hB (fun _ _ _ _ _ h=>h) hC h) (fun e a w h=>by cases e<;>first | exact h | exact h.elim)
end
section
variable {F:Fence} {n:Nat} {P:Program} {ops:Array Oper} {md:Region.Mode} {C:World->Prop} {Q:Exit->Act->World->Prop}
theorem qR {fuel i:Nat}{L:Array Bool}{a:Act}{w:World}{o:Oper}(ho:ops[i]?=some o)(h:wpListIn F n P ops (eP Q fun a' w'=>C w'/\jV F n P md ops Q C fuel (L.setIfInBounds i true) a' w') [o] a w) :
  wpOpIn F n P ops Q i (fun a' w'=>C w'/\jV F n P md ops Q C fuel (L.setIfInBounds i true) a' w') a w:=by
 unfold wpOpIn
 rw[ho]
 simp only[wpListIn] at h
 simp only
 split
 ·rename_i hw
  rw[if_pos hw] at h
  exact kL h
 ·rename_i hw
  rw[if_neg hw] at h
  exact⟨h.1,h.2⟩
theorem bY {K K':Act->World->Prop}(h:∀ a w,K a w->K' a w):∀ (l:List Oper) (a:Act) (w:World),wpListIn F n P ops (eP Q K) l a w->wpListIn F n P ops (eP Q K') l a w
 | [],a,w,hh=>h _ _ hh
 | o::r,a,w,hh=>by
  unfold wpListIn at hh ⊢
  split
  ·rename_i hw
   rw[if_pos hw] at hh
   refine Oper.wpIn_mono (fun a' w' h'=>bY h r a' w' h') ?_
   unfold Oper.wpIn at *
   refine⟨hh.1,?_⟩
   have hh:=hh.2
   generalize (o.semAt F.round a.eval).run P w=q at *
   cases q with
   | ok x w' =>
    cases x<;>simp only[Oper.uponIn] at hh ⊢ <;>
     first
      | exact hh
      | exact⟨hh.1,CallsIn.mono hh.2 (fun e w'' he=>by cases e<;>exact he)⟩
      | exact⟨hh.1,RoundIn.mono hh.2 (fun e w'' he=>by cases e<;>exact he)⟩
   | halt x w'=>cases x<;>simp only[Oper.uponIn] at hh ⊢<;>exact hh
  ·rename_i hw
   rw[if_neg hw] at hh
   exact⟨hh.1,bY h r _ _ hh.2⟩
theorem jr {K K1:Act->World->Prop}:∀ (l:List Oper) (a:Act) (w:World),wpListIn F n P ops (eP Q K) l a w->wpListIn F n P ops (eP (eP Q K1) K) l a w
 | [],a,w,hh=>hh
 | o::r,a,w,hh=>by
  unfold wpListIn at hh ⊢
  split
  ·rename_i hw
   rw[if_pos hw] at hh
   refine Oper.wpIn_mono (fun a' w' h'=>jr r a' w' h') ?_
   unfold Oper.wpIn at *
   refine⟨hh.1,?_⟩
   have hh:=hh.2
   generalize (o.semAt F.round a.eval).run P w=q at *
   cases q with
   | ok x w' =>
    cases x<;>simp only[Oper.uponIn] at hh ⊢ <;>
     first
      | exact hh
      | exact⟨hh.1,CallsIn.mono hh.2 (fun e w'' he=>by cases e<;>exact he)⟩
      | exact⟨hh.1,RoundIn.mono hh.2 (fun e w'' he=>by cases e<;>exact he)⟩
   | halt x w'=>cases x<;>simp only[Oper.uponIn] at hh ⊢<;>exact hh
  ·rename_i hw
   rw[if_neg hw] at hh
   exact⟨hh.1,jr r _ _ hh.2⟩
def aiR (md:Region.Mode) (ops:Array Oper) (m k:Nat):Bool :=
 let z:=m+k+3
 let L0:=aJ ops.size 0 |> bQ z
 let L1:=fF (List.range' 0 m) L0
 let suf:=List.range' (m+1) k
 let LA:=(L1.setIfInBounds (m+k+1) true).setIfInBounds m true
 let LB:=L1.setIfInBounds m true
 Region.noSelect ops&&dh ops&&lW md ops&&decide (z<=ops.size)&&yO md ops (List.range' 0 m) L0&&Region.ready md ops L1==[m,m+k+1]
  && Region.ready md ops (L1.setIfInBounds (m+k+1) true)==[m]&&yO md ops suf LA&&Region.ready md ops (fF suf LA)==[m+k+2]&&(Region.ready md ops ((fF suf LA).setIfInBounds (m+k+2) true)).isEmpty
  && yO md ops suf LB&&Region.ready md ops (fF suf LB)==[m+k+1]&&Region.ready md ops ((fF suf LB).setIfInBounds (m+k+1) true)==[m+k+2]&&(Region.ready md ops (((fF suf LB).setIfInBounds (m+k+1) true).setIfInBounds (m+k+2) true)).isEmpty
  && ((List.range ops.size).all fun k'=>decide (k'<z)||(List.range z).all fun j=>(jw md ops ops.size (fO md ops k')).contains j)
  && ((List.range ops.size).all fun k'=>decide (k'<z)||Region.ready md ops (aJ ops.size k')==[k'])
  && (Region.ready md ops (aJ ops.size ops.size)).isEmpty
theorem lS {id:Nat}{a:Act}{w:World}{l:List Oper}(C:World->Prop)(m k:Nat)(hm:P.follows .mixedOrders=true)(hB:aiR .any l.toArray m k=true)(hC:C (w.drewN 1))(oc of os:Oper)(hoc:(l.drop m).take 1=[oc])(hof:(l.drop (m+k+1)).take 1=[of])(hos:(l.drop (m+k+2)).take 1=[os])
  (T:Act->World->Prop) (hT:∀ a' w',T a' w'->wpListIn F n P l.toArray (gQ Q) (l.drop (m+k+3)) a' w')
  (h:wpQuietIn F n P l.toArray (fun u=>∃ x:RgC C,u=x.w) (fun a1 =>
   wpListIn F n P l.toArray (eP (gQ Q) fun a2 w2=>C w2/\wpListIn F n P l.toArray (eP (gQ Q) fun a3 w3=>C w3/\wpQuietIn F n P l.toArray (fun u=>∃ x:RgC C,u=x.w) (fun a4=>wpListIn F n P l.toArray (eP (gQ Q) fun a5 w5=>C w5/\T a5 w5) [os] a4 w3) ((l.drop (m+1)).take k) a3) [oc] a2 w2) [of] a1 (w.drewN 1) /\
   wpListIn F n P l.toArray (eP (gQ Q) fun a2 w2=>C w2/\wpQuietIn F n P l.toArray (fun u=>∃ x:RgC C,u=x.w) (fun a3=>wpListIn F n P l.toArray (eP (gQ Q) fun a4 w4=>C w4/\wpListIn F n P l.toArray (eP (gQ Q) fun a5 w5=>C w5/\T a5 w5) [os] a4 w4) [of] a3 w2) ((l.drop (m+1)).take k) a2) [oc] a1 (w.drewN 1)) (l.take m) a):(Code.region id l.toArray true).wpIn F n P Q a w:=by
 simp only[aiR,Bool.and_eq_true,List.all_eq_true,List.mem_range,Bool.or_eq_true,decide_eq_true_eq,beq_iff_eq,List.isEmpty_iff,List.contains_iff_mem] at hB
 obtain⟨⟨⟨⟨⟨⟨⟨⟨⟨⟨⟨⟨⟨⟨⟨⟨hs,hnd⟩,hlow⟩,hmz⟩,hord⟩,hr1⟩,hrA⟩,hoA⟩,hyA⟩,hzA⟩,hoB⟩,hrB⟩,hyB⟩,hzB⟩,hcov⟩,hTl⟩,hE⟩:=hB
 have hml:m+k+3<=l.length:=by simpa using hmz
 have eoc:l.toArray[m]?=some oc:=by
  have:(l.drop m).take 1=[l[m]]:=by rw[List.drop_eq_getElem_cons (by omega)];rfl
  rw[this] at hoc
  cases hoc
  simp
 have eof:l.toArray[m+k+1]?=some of:=by
  have:(l.drop (m+k+1)).take 1=[l[m+k+1]]:=by rw[List.drop_eq_getElem_cons (by omega)];rfl
  rw[this] at hof
  cases hof
  simp
 have eos:l.toArray[m+k+2]?=some os:=by
  have:(l.drop (m+k+2)).take 1=[l[m+k+2]]:=by rw[List.drop_eq_getElem_cons (by omega)];rfl
  rw[this] at hos
  cases hos
  simp
 refine wpIn_mono (Q:=gQ Q) ?_ (fun e a w h=>by cases e<;>first | exact h | exact h.elim)
 refine wpIn_region_any hm ?_
 have e0:(Array.replicate l.toArray.size false)=aJ l.toArray.size 0:=dV (by simp) (fun j hj=>by omega) (fun j _ hj=>by simp at hj;simp[hj])
 rw[e0]
 have hz:l.toArray.size=(k+3)+m+(l.toArray.size - (m+k+3)):=by omega
 have hQ:∀ c a d v w,eP (gQ Q) (fun a' w'=>wpListIn F n P l.toArray (gQ Q) (l.drop (m+k+3)) a' w') (.panic c) (Act.put a d v) w->eP (gQ Q) (fun a' w'=>wpListIn F n P l.toArray (gQ Q) (l.drop (m+k+3)) a' w') (.panic c) a w:=fun _ _ _ _ _ h=>h
 have key:=qU (F:=F) (n:=n) (P:=P) (Q:=gQ Q) (md:=.any) (ops:=l.toArray) (m:=m+k+3) hmz (iw hlow) (fun k hk hks j hj=>(hcov k hks).resolve_left (by omega) j hj) (fun k hk hks=>(hTl k hks).resolve_left (by omega)) hE ((k+3)+m) (aJ l.toArray.size 0) a (w.drewN 1) (by simp[aJ]) (fun j _ hj=>by simp at hj;simp[aJ,hj]) (fun j o ho hj=>by
   exfalso
   have hjs:j<l.length:=by simpa using (Array.getElem?_eq_some_iff.1 ho).1
   simp[aJ,hjs] at hj) ?_
 ·rw[← hz] at key
  exact key
 ·refine jV.any (C:=C) _ _ _ _ ?_
  have hsel:kM l.toArray (List.range' (m+1) k)=(l.drop (m+1)).take k:=gK k (m+1) (by omega)
  have hrd:=kK (F:=F) (n:=n) (P:=P) (C:=C) (md:=.any) (Q:=eP (gQ Q) fun a' w'=>wpListIn F n P l.toArray (gQ Q) (l.drop (m+k+3)) a' w') hnd hs hQ (fuel:=k+3) hC (List.range' 0 m) _ a hord
  rw[List.length_range'] at hrd
  refine hrd ?_
  rw[gK m 0 (by omega),List.drop_zero]
  refine dK (fun a1 h1=>?_) _ _ h
  obtain⟨hA,hBb⟩:=h1
  refine⟨fun h0=>(by rw[h0] at hr1;cases hr1),fun i hi=>?_⟩
  rw[hr1] at hi
  simp only[List.mem_cons,List.not_mem_nil,or_false] at hi
  rcases hi with rfl | rfl
  ·refine qR eoc ?_
   refine jr _ _ _ (bY (fun a2 w2 h2=>⟨h2.1,?_⟩) _ _ _ hBb)
   have:=kK (F:=F) (n:=n) (P:=P) (C:=C) (md:=.any) (Q:=eP (gQ Q) fun a' w'=>wpListIn F n P l.toArray (gQ Q) (l.drop (i+k+3)) a' w') hnd hs hQ (fuel:=2) h2.1 (List.range' (i+1) k) _ a2 hoB
   rw[List.length_range',Nat.add_comm 2 k] at this
   refine this ?_
   rw[hsel]
   refine dK (fun a3 h3=>?_) _ _ h2.2
   refine⟨fun h0=>(by rw[h0] at hrB;cases hrB),fun q hq=>?_⟩
   rw[hrB,List.mem_singleton] at hq
   subst hq
   refine qR eof ?_
   refine jr _ _ _ (bY (fun a4 w4 h4=>⟨h4.1,?_⟩) _ _ _ h3)
   refine⟨fun h0=>(by rw[h0] at hyB;cases hyB),fun q hq=>?_⟩
   rw[hyB,List.mem_singleton] at hq
   subst hq
   refine qR eos ?_
   exact jr _ _ _ (bY (fun a5 w5 h5=>⟨h5.1,hzB,hT _ _ h5.2⟩) _ _ _ h4.2)
  ·refine qR eof ?_
   refine jr _ _ _ (bY (fun a2 w2 h2=>⟨h2.1,?_⟩) _ _ _ hA)
   refine⟨fun h0=>(by rw[h0] at hrA;cases hrA),fun q hq=>?_⟩
   rw[hrA,List.mem_singleton] at hq
   subst hq
   refine qR eoc ?_
   refine jr _ _ _ (bY (fun a3 w3 h3=>⟨h3.1,?_⟩) _ _ _ h2.2)
   have:=kK (F:=F) (n:=n) (P:=P) (C:=C) (md:=.any) (Q:=eP (gQ Q) fun a' w'=>wpListIn F n P l.toArray (gQ Q) (l.drop (q+k+3)) a' w') hnd hs hQ (fuel:=1) h3.1 (List.range' (q+1) k) _ a3 hoA
   rw[List.length_range',Nat.add_comm 1 k] at this
   refine this ?_
   rw[hsel]
   refine dK (fun a4 h4=>?_) _ _ h3.2
   refine⟨fun h0=>(by rw[h0] at hyA;cases hyA),fun q2 hq2=>?_⟩
   rw[hyA,List.mem_singleton] at hq2
   subst hq2
   refine qR eos ?_
   exact jr _ _ _ (bY (fun a5 w5 h5=>⟨h5.1,hzA,hT _ _ h5.2⟩) _ _ _ h4)
end
end Go.Proofs.YtefdkpbmeoakgaaGreatDoor
