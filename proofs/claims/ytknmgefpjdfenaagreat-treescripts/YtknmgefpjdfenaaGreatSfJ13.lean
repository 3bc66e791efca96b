/- Joined: TMap, TRow, TMem. -/
import Derived.Test.YtknmgefpjdfenaaGreatSfJ7
import Derived.Maps.OwnSet
import Derived.Maps.Ext
import Derived.StringKeys
import Derived.Deep.OwnRows
/- A map from texts to blocks in memory: its entries as a rising list. -/
namespace Go.Proofs.YtknmgefpjdfenaaGreat
set_option maxRecDepth 100000
set_option maxHeartbeats 8000000
open Go.RowKit Go.Shelf Go.Maps
set_option linter.unusedVariables false

theorem law9:Keyed Tryz.prog 9:=string_keyed Tryz.underlying9

def rdP:Value→Option (DataW Unit × List MemPlace)
 | .pointer none=>some (.lit (.int .i64 (-1)),[])
 | .pointer (some ⟨b,0,none⟩)=>some (.lit (.int .i64 (b:Int)),[])
 | _=>none

def encP (b:Nat):DataW Unit:=.lit (.int .i64 (b:Int))

theorem rdP_some (b:Nat):rdP (.pointer (some ⟨b,0,none⟩))=some (encP b,[]):=rfl

theorem rdP_inj {v:Value} {b:Nat} {ps:List MemPlace} (h:rdP v=some (encP b,ps)):v=.pointer (some ⟨b,0,none⟩):=by
 unfold rdP at h
 split at h
 ·simp [encP] at h
 ·rename_i c
  simp [encP] at h
  have:c=b:=by omega
  rw [this]
 ·cases h

theorem rdP_nil {v:Value} {ps:List MemPlace} (h:rdP v=some (.lit (.int .i64 (-1)),ps)):v=.pointer none:=by
 unfold rdP at h
 split at h
 ·rfl
 ·simp at h
 ·cases h

abbrev NS:=List (List UInt8 × Nat)

def Rise (ns:NS):Prop:=ns.Pairwise (fun a b=>bytesBefore a.1 b.1=true)

def putN (x:List UInt8) (b:Nat):NS→NS
 | []=>[(x,b)]
 | (y,c) :: r=>if bytesBefore x y=true then (x,b) :: (y,c) :: r else if x=y then (x,b) :: r else (y,c) :: putN x b r

def delN (x:List UInt8) (ns:NS):NS:=ns.filter (fun e=>!(e.1 == x))

theorem look_cons (y:List UInt8) (c:Nat) (r:NS) (z:List UInt8):((y,c) :: r:NS).lookup z=if z=y then some c else r.lookup z:=by
 rw [List.lookup_cons]
 by_cases h:z=y
 ·subst h; simp
 ·have:(z == y)=false:=by simpa using h
  rw [this,if_neg h]

theorem look_put (x:List UInt8) (b:Nat) (ns:NS) (z:List UInt8):(putN x b ns).lookup z=if z=x then some b else ns.lookup z:=by
 induction ns with
 | nil=>exact look_cons x b [] z
 | cons e r ih =>
  obtain ⟨y,c⟩:=e
  unfold putN
  by_cases h1:bytesBefore x y=true
  ·rw [if_pos h1,look_cons]
  ·rw [if_neg h1]
   by_cases h2:x=y
   ·subst h2
    rw [if_pos rfl,look_cons,look_cons]
    by_cases h:z=x
    ·rw [if_pos h,if_pos h]
    ·rw [if_neg h,if_neg h,if_neg h]
   ·rw [if_neg h2,look_cons,look_cons,ih]
    by_cases h:z=y
    ·subst h
     rw [if_pos rfl,if_pos rfl,if_neg (fun e=>h2 e.symm)]
    ·rw [if_neg h,if_neg h]

theorem look_del (x:List UInt8) (ns:NS) (z:List UInt8):(delN x ns).lookup z=if z=x then none else ns.lookup z:=by
 induction ns with
 | nil=>simp [delN]
 | cons e r ih =>
  obtain ⟨y,c⟩:=e
  unfold delN at ih ⊢
  rw [List.filter_cons]
  by_cases h:y=x
  ·subst h
   rw [if_neg (by simp),ih,look_cons]
   by_cases hz:z=y
   ·rw [if_pos hz,if_pos hz]
   ·rw [if_neg hz,if_neg hz,if_neg hz]
  ·have e0:(!(y == x))=true:=by simpa using h
   rw [if_pos e0,look_cons,look_cons,ih]
   by_cases hz:z=y
   ·subst hz; rw [if_pos rfl,if_neg h,if_pos rfl]
   ·rw [if_neg hz,if_neg hz]

theorem mem_put {x:List UInt8} {b:Nat} {ns:NS} {e:List UInt8 × Nat} (h:e ∈ putN x b ns):e=(x,b) ∨ e ∈ ns:=by
 induction ns with
 | nil=>simpa [putN] using h
 | cons d r ih =>
  obtain ⟨y,c⟩:=d
  unfold putN at h
  split at h
  ·rcases List.mem_cons.1 h with h | h
   ·exact .inl h
   ·exact .inr h
  ·split at h
   ·rcases List.mem_cons.1 h with h | h
    ·exact .inl h
    ·exact .inr (List.mem_cons_of_mem _ h)
   ·rcases List.mem_cons.1 h with h | h
    ·exact .inr (h ▸ List.mem_cons_self)
    ·rcases ih h with h | h
     ·exact .inl h
     ·exact .inr (List.mem_cons_of_mem _ h)

theorem rise_put (x:List UInt8) (b:Nat) {ns:NS} (h:Rise ns):Rise (putN x b ns):=by
 induction ns with
 | nil=>simp [putN,Rise]
 | cons d r ih =>
  obtain ⟨y,c⟩:=d
  obtain ⟨h1,h2⟩:=List.pairwise_cons.1 h
  unfold putN
  by_cases hb:bytesBefore x y=true
  ·rw [if_pos hb]
   refine List.pairwise_cons.2 ⟨fun e he=>?_,h⟩
   rcases List.mem_cons.1 he with rfl | he
   ·exact hb
   ·exact WideShapes.bytes_trans _ _ _ hb (h1 e he)
  ·rw [if_neg hb]
   by_cases hx:x=y
   ·subst hx
    rw [if_pos rfl]
    exact List.pairwise_cons.2 ⟨fun e he=>h1 e he,h2⟩
   ·rw [if_neg hx]
    refine List.pairwise_cons.2 ⟨fun e he=>?_,ih h2⟩
    rcases mem_put he with rfl | he
    ·rcases WideAt.bytes_total x y hx with h | h
     ·exact absurd h hb
     ·exact h
    ·exact h1 e he

theorem rise_del (x:List UInt8) {ns:NS} (h:Rise ns):Rise (delN x ns):=h.filter _

theorem mem_del {x:List UInt8} {ns:NS} {e:List UInt8 × Nat} (h:e ∈ delN x ns):e ∈ ns:=(List.mem_filter.1 h).1

theorem rise_ne {ns:NS} (h:Rise ns):ns.Pairwise (fun a b=>a.1 ≠ b.1):=h.imp (fun {a b} hab e=>by rw [e,WideAt.bytes_irrefl] at hab; cases hab)

theorem look_mem {ns:NS} (h:Rise ns) {e:List UInt8 × Nat} (he:e ∈ ns):ns.lookup e.1=some e.2:=by
 induction ns with
 | nil=>cases he
 | cons d r ih =>
  obtain ⟨h1,h2⟩:=List.pairwise_cons.1 (rise_ne h)
  obtain ⟨y,c⟩:=d
  rw [look_cons]
  rcases List.mem_cons.1 he with rfl | he
  ·rw [if_pos rfl]
  ·rw [if_neg (fun e'=>h1 e he e'.symm)]
   exact ih (List.pairwise_cons.1 h).2 he

theorem mem_look {ns:NS} {x:List UInt8} {b:Nat} (h:ns.lookup x=some b):(x,b) ∈ ns:=by
 induction ns with
 | nil=>simp at h
 | cons d r ih =>
  obtain ⟨y,c⟩:=d
  rw [look_cons] at h
  by_cases hx:x=y
  ·subst hx
   rw [if_pos rfl] at h
   cases h
   exact List.mem_cons_self
  ·rw [if_neg hx] at h
   exact List.mem_cons_of_mem _ (ih h)

def entS (e:List UInt8 × Nat):Lit × DataW Unit:=(.string e.1,encP e.2)

def mS (ns:NS):DataW Unit:=.map (ns.map entS)

theorem mS_size (ns:NS):Maps.size (mS ns)=ns.length:=by simp [mS,Maps.size]

theorem mS_canon {ns:NS} (h:Rise ns):Canon (mS ns):=by
 refine ⟨_,rfl,?_,fun p hp=>?_⟩
 ·rw [List.pairwise_map]
  exact h.imp (fun {a b} hab=>hab)
 ·obtain ⟨k,_,rfl⟩:=List.mem_map.1 hp
  trivial

theorem mS_has {ns:NS} (x:List UInt8):Maps.has (mS ns) (.string x)=(ns.lookup x).isSome:=by
 rw [Bool.eq_iff_iff]
 unfold mS
 rw [Maps.has_eq,List.any_eq_true]
 constructor
 ·rintro ⟨p,hp,hs⟩
  obtain ⟨e,he,rfl⟩:=List.mem_map.1 hp
  have e1:e.1=x:=by simpa [entS] using (WideAt.sameKey_eq hs)
  cases hl:ns.lookup x with
  | some b=>rfl
  | none =>
   exfalso
   rw [List.lookup_eq_none_iff] at hl
   have:=hl e he
   simp [e1] at this
 ·intro h
  obtain ⟨b,hb⟩:=Option.isSome_iff_exists.1 h
  exact ⟨entS (x,b),List.mem_map.2 ⟨_,mem_look hb,rfl⟩,WideAt.sameKey_self trivial⟩

theorem mS_has_no {ns:NS} {k:Lit} (h:∀ x,k ≠ .string x):Maps.has (mS ns) k=false:=by
 rw [Bool.eq_false_iff]
 intro hc
 unfold mS at hc
 rw [Maps.has_eq,List.any_eq_true] at hc
 obtain ⟨p,hp,hs⟩:=hc
 obtain ⟨e,_,rfl⟩:=List.mem_map.1 hp
 exact h e.1 (WideAt.sameKey_eq hs).symm

theorem mS_at {ns:NS} (hr:Rise ns) {x:List UInt8} {b:Nat} (h:ns.lookup x=some b) (z:DataW Unit):(mS ns).atKey (.string x) z=encP b:=by
 obtain ⟨es,e,hp,_⟩:=mS_canon hr
 cases e
 exact WideAt.atKey_mem z trivial (apart_of_rising hp) (List.mem_map.2 ⟨_,mem_look h,rfl⟩)

theorem mS_none {ns:NS} {x:List UInt8} (h:ns.lookup x=none) (z:DataW Unit):(mS ns).atKey (.string x) z=z:=atKey_of_not_has (by rw [mS_has,h]; rfl) z

theorem mS_same {ns:NS} (hr:Rise ns) {D:DataW Unit} (hc:Canon D) (hs:∀ k,(∀ x,k ≠ .string x)→Maps.has D k=false) (hh:∀ x,Maps.has D (.string x)=(ns.lookup x).isSome)
  (ha:∀ x b z,ns.lookup x=some b→D.atKey (.string x) z=encP b):D=mS ns:=by
 refine Maps.ext hc (mS_canon hr) (fun k=>?_) (fun k z hk=>?_)
 ·by_cases h:∃ x,k=.string x
  ·obtain ⟨x,rfl⟩:=h
   rw [hh,mS_has]
  ·rw [hs k (fun x e=>h ⟨x,e⟩),mS_has_no (fun x e=>h ⟨x,e⟩)]
 ·by_cases h:∃ x,k=.string x
  ·obtain ⟨x,rfl⟩:=h
   rw [hh] at hk
   obtain ⟨b,hb⟩:=Option.isSome_iff_exists.1 hk
   rw [ha x b z hb,mS_at hr hb]
  ·rw [hs k (fun x e=>h ⟨x,e⟩)] at hk
   cases hk

def MapS (u:World) (b:Nat) (ns:NS):Prop:=u.ownsMap Tryz.prog 9 rdP b ns.length (mS ns)∧Rise ns

theorem MapS.of {u:World} {b m:Nat} {ns:NS} (h:u.ownsMap Tryz.prog 9 rdP b m (mS ns)) (hr:Rise ns):MapS u b ns:=by
 obtain ⟨es,clock,hb,F,hs,hD⟩:=h
 refine ⟨⟨es,clock,hb,F,?_,hD⟩,hr⟩
 have:=congrArg Maps.size hD
 rw [mS_size,Maps.size_eq,length_read] at this
 omega

theorem MapS.lt {u:World} {b:Nat} {ns:NS} (h:MapS u b ns):b < u.heap.size:=World.ownsMap.lt h.1

theorem MapS.obj {u:World} {b:Nat} {ns:NS} (h:MapS u b ns):∃ es c,u.heap[b]?=some (.map es c):=by
 obtain ⟨⟨es,c,hb,_⟩,_⟩:=h; exact ⟨es,c,hb⟩

theorem MapS.kept {u u':World} {b:Nat} {ns:NS} (h:MapS u b ns) (hk:u'.heap[b]?=u.heap[b]?):MapS u' b ns:=by
 obtain ⟨⟨es,clock,hb,r⟩,hr⟩:=h
 exact ⟨⟨es,clock,hk.trans hb,r⟩,hr⟩

theorem MapS.ne {u:World} {b:Nat} {ns:NS} (h:MapS u b ns) {k t:Nat} {c:Array Value} {q:Nat × Nat} (h':u.heap[k]?=some (.cells c t q)):k ≠ b:=by
 intro e
 subst e
 obtain ⟨es,c,hb⟩:=h.obj
 rw [hb] at h'
 cases h'

theorem undM:Tryz.prog.underlying 67=some (.map 9 63):=by kernel_rfl

theorem zeroT (w:World):(zeroValue 63).run Tryz.prog w=.ok (.pointer none) w:=by kernel_rfl

theorem keyS {x:List UInt8} (h:x.length ≤ 200):keyOf Tryz.prog 9 (.string (St x))=some (.string x):=by
 have:=WideMaps.keyOf_string_mk Tryz.underlying9 (s:=St x) (by rw [St_size]; unfold maxLen; omega)
 rwa [data_St] at this

theorem MapS.look {u:World} {b:Nat} {ns:NS} (h:MapS u b ns) {x:List UInt8} (hx:x.length ≤ 200) :
  (Instr.lookup 67 (.map (some b)) (.string (St x)) false).run Tryz.prog u=.ok (.pointer ((ns.lookup x).map (fun j=>⟨j,0,none⟩))) u:=by
 obtain ⟨v,ps,hr,hv⟩:=World.ownsMap.lookup h.1 law9 undM (zeroT u) (zd:=.lit (.int .i64 (-1))) (zp:=[]) rfl (keyS hx)
 cases hl:ns.lookup x with
 | none =>
  rw [mS_none hl] at hv
  rw [rdP_nil hv] at hr
  exact hr
 | some j =>
  rw [mS_at h.2 hl] at hv
  rw [rdP_inj hv] at hr
  exact hr

theorem MapS.len {u:World} {b:Nat} {ns:NS} (h:MapS u b ns) (ty:TypeId):(Builtin.len_ #[67] ty #[.map (some b)]).run Tryz.prog u=.ok (.int .i64 (ns.length:Int)) u:=by
 have:=World.ownsMap.len h.1 undM ty
 rwa [mS_size] at this

theorem MapS.put {u:World} {b:Nat} {ns:NS} (h:MapS u b ns) {x:List UInt8} (hx:x.length ≤ 200) (j:Nat) (hn:ns.length < 1000000000000000) :
  ∃ u',(Instr.mapUpdate 67 (.map (some b)) (.string (St x)) (.pointer (some ⟨j,0,none⟩))).run Tryz.prog u=.ok () u'∧MapS u' b (putN x j ns)∧u.grownBy u' (some b)∧u'.heap.size=u.heap.size:=by
 obtain ⟨u',hr,ho,ht⟩:=World.ownsMap.store h.1 law9 undM (by unfold maxLen; omega) (keyS hx) (rdP_some j)
 have hD:(mS ns).put (.string x) (encP j)=mS (putN x j ns):=by
  refine mS_same (rise_put x j h.2) (ho.canon law9) (fun k hk=>?_) (fun z=>?_) (fun z c d hz=>?_)
  ·rw [has_put_other (hk x),mS_has_no hk]
  ·by_cases e:z=x
   ·subst e
    rw [has_put_same (show IsMap (mS ns) from ⟨_,rfl⟩) (show WideAt.IsKeyLit (.string z) from trivial),look_put,if_pos rfl]; rfl
   ·rw [has_put_other (fun e'=>e (by simpa using e')),mS_has,look_put,if_neg e]
  ·rw [look_put] at hz
   by_cases e:z=x
   ·subst e
    rw [if_pos rfl] at hz
    cases hz
    rw [atKey_put_same (show IsMap (mS ns) from ⟨_,rfl⟩) (show WideAt.IsKeyLit (.string z) from trivial)]
   ·rw [if_neg e] at hz
    rw [atKey_put_other (fun e'=>e (by simpa using e')),mS_at h.2 hz]
 rw [hD] at ho
 refine ⟨u',hr,MapS.of ho (rise_put x j h.2),ht.grown,?_⟩
 obtain ⟨es,c,es',c',hb,rfl⟩:=ht
 simp [ChangeMaps.setBlock]

theorem MapS.del {u:World} {b:Nat} {ns:NS} (h:MapS u b ns) {x:List UInt8} (hx:x.length ≤ 200) :
  ∃ u',(∀ ty,(Builtin.delete_ #[67,9] ty #[.map (some b),.string (St x)]).run Tryz.prog u=.ok (.tuple #[]) u')∧MapS u' b (delN x ns)∧u.grownBy u' (some b)∧u'.heap.size=u.heap.size:=by
 obtain ⟨u',hr,ho,ht⟩:=World.ownsMap.drop h.1 law9 undM (keyS hx) 0
 have hD:(mS ns).del (.string x)=mS (delN x ns):=by
  refine mS_same (rise_del x h.2) (ho.canon law9) (fun k hk=>?_) (fun z=>?_) (fun z c d hz=>?_)
  ·rw [has_del_other (hk x),mS_has_no hk]
  ·by_cases e:z=x
   ·subst e
    rw [has_del_same,look_del,if_pos rfl]; rfl
   ·rw [has_del_other (fun e'=>e (by simpa using e')),mS_has,look_del,if_neg e]
  ·rw [look_del] at hz
   by_cases e:z=x
   ·subst e
    rw [if_pos rfl] at hz
    cases hz
   ·rw [if_neg e] at hz
    rw [atKey_del_other (fun e'=>e (by simpa using e')),mS_at h.2 hz]
 rw [hD] at ho
 refine ⟨u',fun ty=>hr,MapS.of ho (rise_del x h.2),ht.grown,?_⟩
 obtain ⟨es,c,es',c',hb,rfl⟩:=ht
 simp [ChangeMaps.setBlock]

theorem MapS.made (w:World):MapS (w.alloc (.map #[] 0)) w.heap.size []:=MapS.of (World.ownsMap_made w Tryz.prog 9 rdP) List.Pairwise.nil

end Go.Proofs.YtknmgefpjdfenaaGreat

/- A row of pointers to things. -/
namespace Go.Proofs.YtknmgefpjdfenaaGreat
set_option maxRecDepth 100000
set_option maxHeartbeats 8000000
open Go.RowKit Go.Shelf Go.Maps
set_option linter.unusedVariables false

def ptrO (o:Option Nat):Value:=.pointer (o.map (fun b=>⟨b,0,none⟩))

theorem infoP:(Tryz.prog.info? 63).map (fun i=>(i.zero,i.size,i.bytes))=some (some (.pointer none),1,8):=by kernel_rfl

theorem undP:Tryz.prog.underlying 62=some (.slice 63):=by kernel_rfl

theorem oneCell_ptrs (xs:List (Option Nat)):∀ v ∈ xs.map ptrO,v.oneCell'=true:=by
 intro v hv
 obtain ⟨x,_,rfl⟩:=List.mem_map.1 hv
 rfl

def OwnP (B:Nat) (w:World) (a:Option Addr) (n c:Nat) (xs:List (Option Nat)):Prop :=
 xs.length=n∧n ≤ c∧c ≤ maxLen∧((a=none∧n=0∧c=0) ∨ ∃ g cur,a=some ⟨g,0,none⟩∧B ≤ g∧w.heap[g]?=some (.cells cur 63 (0,0))∧cur.size=c∧cur.toList.take n=xs.map ptrO)

theorem OwnP.nil (B:Nat) (w:World):OwnP B w none 0 0 []:=⟨rfl,Nat.le_refl _,by unfold maxLen; omega,.inl ⟨rfl,rfl,rfl⟩⟩

theorem OwnP.kept {B:Nat} {w w':World} {a:Option Addr} {n c:Nat} {xs:List (Option Nat)} (h:OwnP B w a n c xs) (hk:∀ g,a=some ⟨g,0,none⟩→w'.heap[g]?=w.heap[g]?):OwnP B w' a n c xs:=by
 obtain ⟨h1,h2,h3,h4⟩:=h
 refine ⟨h1,h2,h3,?_⟩
 rcases h4 with h4 | ⟨g,cur,e,hg,hh,r⟩
 ·exact .inl h4
 ·exact .inr ⟨g,cur,e,hg,(hk g e).trans hh,r⟩

theorem OwnP.lt {B:Nat} {w:World} {a:Option Addr} {n c:Nat} {xs:List (Option Nat)} (h:OwnP B w a n c xs) {g:Nat} (e:a=some ⟨g,0,none⟩):g < w.heap.size∧B ≤ g∧∃ cur,w.heap[g]?=some (.cells cur 63 (0,0)):=by
 obtain ⟨_,_,_,h4⟩:=h
 rcases h4 with ⟨h4,_⟩ | ⟨g',cur,e',hg,hh,_⟩
 ·rw [h4] at e; cases e
 ·rw [e] at e'; cases e'
  exact ⟨(Array.getElem?_eq_some_iff.1 hh).1,hg,cur,hh⟩

theorem OwnP.cell {B:Nat} {w:World} {a:Option Addr} {n c:Nat} {xs:List (Option Nat)} (h:OwnP B w a n c xs) {j:Nat} (hj:j < n):∃ g,a=some ⟨g,0,none⟩∧g < w.heap.size∧w.cell? ⟨g,j,none⟩=some (ptrO (xs[j]?.getD none))∧(∀ k,w.frozen? ⟨g,k,none⟩=false):=by
 obtain ⟨h1,h2,h3,h4⟩:=h
 rcases h4 with ⟨_,h4,_⟩ | ⟨g,cur,e,hg,hh,hc,ht⟩
 ·omega
 ·refine ⟨g,e,(Array.getElem?_eq_some_iff.1 hh).1,?_,fun k=>by simp [World.frozen?,hh]⟩
  have hx:(cur.toList.take n)[j]?=some (ptrO (xs[j]?.getD none)):=by
   rw [ht,List.getElem?_map,List.getElem?_eq_getElem (by omega)]; rfl
  rw [List.getElem?_take_of_lt hj] at hx
  simp only [World.cell?,hh]
  simpa using hx

theorem OwnP.set {B:Nat} {w:World} {g n c:Nat} {xs:List (Option Nat)} (h:OwnP B w (some ⟨g,0,none⟩) n c xs) (j:Nat) (z:Option Nat):OwnP B (w.setCell ⟨g,j,none⟩ (ptrO z)) (some ⟨g,0,none⟩) n c (xs.set j z):=by
 obtain ⟨h1,h2,h3,h4⟩:=h
 rcases h4 with ⟨h4,_⟩ | ⟨g',cur,e,hg,hh,hc,ht⟩
 ·cases h4
 ·cases e
  refine ⟨by simp [h1],h2,h3,.inr ⟨g,_,rfl,hg,by rw [setCell_eq_setRow w g j _ 63 (0,0) _ hh]; exact setRow_heap w g _ _ 63 _ hh,by simpa using hc,?_⟩⟩
  rw [Array.toList_setIfInBounds,List.take_set,ht,List.map_set]

theorem OwnP.owns {B:Nat} {w:World} {a:Option Addr} {n c:Nat} {xs:List (Option Nat)} (h:OwnP B w a n c xs):w.ownsRow B 63 1 (.slice a n c) n (xs.map ptrO):=by
 obtain ⟨h1,h2,h3,h4⟩:=h
 refine ⟨by simp [h1],?_⟩
 rcases h4 with ⟨rfl,rfl,rfl⟩ | ⟨g,cur,rfl,hg,hh,hc,ht⟩
 ·exact .inl ⟨rfl,rfl⟩
 ·exact .inr ⟨g,c,cur,rfl,hg,hh,h2,h3,by simpa using hc,by simpa using ht⟩

theorem OwnP.of_owns {B:Nat} {w:World} {v:Value} {n:Nat} {xs:List (Option Nat)} (h:w.ownsRow B 63 1 v n (xs.map ptrO)):∃ a c,v=.slice a n c∧OwnP B w a n c xs:=by
 obtain ⟨h1,h2⟩:=h
 have hl:xs.length=n:=by simpa using h1
 rcases h2 with ⟨rfl,rfl⟩ | ⟨g,cap,cur,rfl,hg,hh,h2,h3,hc,ht⟩
 ·exact ⟨none,0,rfl,hl,Nat.le_refl _,by unfold maxLen; omega,.inl ⟨rfl,rfl,rfl⟩⟩
 ·exact ⟨_,cap,rfl,hl,h2,h3,.inr ⟨g,cur,rfl,hg,hh,by simpa using hc,by simpa using ht⟩⟩

theorem run_appP {B:Nat} {w:World} {a:Option Addr} {n c:Nat} {xs:List (Option Nat)} (h:OwnP B w a n c xs) (hB:B ≤ w.heap.size) (hn:n + 1 ≤ 8796093022208) :
  ∃ a' c' w',(∀ ty,(Builtin.append_ #[62,62] ty #[.slice a n c,.slice (some ⟨w.heap.size,0,none⟩) 1 1]).run Tryz.prog (w.alloc (.cells #[.pointer none] 63))=.ok (.slice a' (n + 1) c') w')∧OwnP B w' a' (n + 1) c' (xs ++ [none]) ∧
   (∀ k,k < w.heap.size→(∀ g,a=some ⟨g,0,none⟩→k ≠ g)→w'.heap[k]?=w.heap[k]?)∧Below B w w'∧(∀ x,a'=some ⟨x,0,none⟩→a=some ⟨x,0,none⟩ ∨ w.heap.size < x):=by
 obtain ⟨i0,hi,hz0,hz1,hz2⟩:=info_parts infoP
 have hb0:Below w.heap.size w (w.alloc (.cells #[.pointer none] 63)):=(Below.refl _ w).alloc (Nat.le_refl _) _
 have h1:OwnP B (w.alloc (.cells #[.pointer none] 63)) a n c xs:=h.kept (fun g e=>hb0.block g (h.lt e).1)
 have hnews:∀ (j:Nat) (u:Value),([none].map ptrO)[j]?=some u→(w.alloc (.cells #[.pointer none] 63)).cell? ((⟨w.heap.size,0,none⟩:Addr).add j)=some u:=by
  intro j u hj
  have hj2:j=0:=by have:=(List.getElem?_eq_some_iff.1 hj).1; simp at this; omega
  subst hj2
  rw [World.add_zero_spot]
  simp only [World.cell?,World.alloc_heap_new]
  simpa [ptrO] using hj
 obtain ⟨v',w',hr,ho,hg,_⟩:=run_append_own (P:=Tryz.prog) (w.alloc (.cells #[.pointer none] 63)) B 62 0 63 i0 (.pointer none) 1 8 undP hi hz0 hz1 hz2 rfl (by decide) (.slice a n c) n _ h1.owns ⟨w.heap.size,0,none⟩ 1 1 ([none].map ptrO) rfl hnews (oneCell_ptrs _) (by unfold maxLen; omega) (by omega) (Nat.le_trans hB hb0.size)
 have hx:∀ a' n' c',v'=.slice a' n' c'→∀ x,a'=some ⟨x,0,none⟩→a=some ⟨x,0,none⟩ ∨ w.heap.size < x:=by
  intro a' n' c' e x ex
  subst e
  have hsz:(w.alloc (.cells #[.pointer none] 63)).heap.size=w.heap.size + 1:=by simp
  rcases h1.2.2.2 with ⟨rfl,rfl,rfl⟩ | ⟨g,cur,rfl,hg0,hh,hc,ht⟩
  ·have r2:=run_append_nil (P:=Tryz.prog) (w.alloc (.cells #[.pointer none] 63)) 62 0 63 i0 (.pointer none) undP hi hz0 ⟨w.heap.size,0,none⟩ 1 1 ([none].map ptrO) (by rw [hz1]; rfl) hnews (by omega) (by omega) (by rw [hz2]; omega)
   rw [hr] at r2
   injection r2 with e1 _
   injection e1 with e1 _ _
   rw [ex] at e1
   injection e1 with e1
   injection e1 with e1
   right; omega
  ·by_cases hroom:n + 1 ≤ c
   ·have r2:=run_append_room (P:=Tryz.prog) (w.alloc (.cells #[.pointer none] 63)) 62 0 63 i0 undP hi g n c cur hh ⟨w.heap.size,0,none⟩ 1 1 ([none].map ptrO) (by rw [hz1]; rfl) hnews (oneCell_ptrs _) hroom (by rw [hz1,hc]; simpa using hroom)
    rw [hr] at r2
    injection r2 with e1 _
    injection e1 with e1 _ _
    rw [ex] at e1
    exact .inl e1.symm
   ·have holds:∀ j u,(xs.map ptrO)[j]?=some u→(w.alloc (.cells #[.pointer none] 63)).cell? ((⟨g,0,none⟩:Addr).add j)=some u:=h1.owns.cells (g:=g) rfl
    have r2:=run_append_grow (P:=Tryz.prog) (w.alloc (.cells #[.pointer none] 63)) 62 0 63 i0 (.pointer none) undP hi hz0 ⟨g,0,none⟩ n c (xs.map ptrO) (by rw [hz1,Nat.mul_one]; simpa using h1.1) holds ⟨w.heap.size,0,none⟩ 1 1 ([none].map ptrO) (by rw [hz1]; rfl) hnews (by omega) (by omega) (growslice_fits (by omega) (by rw [hz2]; omega))
    rw [hr] at r2
    injection r2 with e1 _
    injection e1 with e1 _ _
    rw [ex] at e1
    injection e1 with e1
    injection e1 with e1
    right; omega
 rw [← List.map_append] at ho
 obtain ⟨a',c',rfl,ho'⟩:=OwnP.of_owns ho
 refine ⟨a',c',w',fun ty=>hr,ho',fun k hk hne=>?_,?_,hx a' _ _ rfl⟩
 ·refine (hg.block k (Nat.lt_of_lt_of_le hk hb0.size) (fun e=>?_)).trans (hb0.block k hk)
  rcases h.2.2.2 with ⟨ha,_,_⟩ | ⟨g,_,ha,_⟩
  ·rw [ha] at e; simp [Value.ownBlock] at e
  ·rw [ha] at e
   simp [Value.ownBlock] at e
   exact hne g ha e
 ·refine (hb0.mono hB).grown hg (Nat.le_trans hB hb0.size) (fun k e=>?_)
  rcases h.2.2.2 with ⟨ha,_,_⟩ | ⟨g,_,ha,hgB,_⟩
  ·rw [ha] at e; simp [Value.ownBlock] at e
  ·rw [ha] at e
   simp [Value.ownBlock] at e
   omega

end Go.Proofs.YtknmgefpjdfenaaGreat

/- A tree in memory: its own block, the row of things, the things, their maps and their bytes. A thing is named by its block. -/
namespace Go.Proofs.YtknmgefpjdfenaaGreat
set_option maxRecDepth 100000
set_option maxHeartbeats 8000000
open Go.RowKit Go.Shelf Go.Maps
set_option linter.unusedVariables false

structure Kp (S:Nat→Prop) (w w':World):Prop where
 os:w'.os=w.os
 tape:w'.tape=w.tape
 output:w'.output=w.output
 size:w.heap.size ≤ w'.heap.size
 block:∀ k,k < w.heap.size→¬ S k→w'.heap[k]?=w.heap[k]?

theorem Kp.of {S:Nat→Prop} {w w':World} (h:Below w.heap.size w w'):Kp S w w':=⟨h.os,h.tape,h.output,h.size,fun k hk _=>h.block k hk⟩

theorem Kp.trans {S S':Nat→Prop} {a b c:World} (h:Kp S a b) (k:Kp S' b c) (hs:∀ k,S' k→S k ∨ a.heap.size ≤ k):Kp S a c :=
 ⟨k.os.trans h.os,k.tape.trans h.tape,k.output.trans h.output,Nat.le_trans h.size k.size,fun i hi hn=>(k.block i (Nat.lt_of_lt_of_le hi h.size) (fun e=>(hs i e).elim hn (fun q=>by omega))).trans (h.block i hi hn)⟩

theorem Kp.below {S:Nat→Prop} {a b:World} (h:Kp S a b) {n:Nat} (hn:n ≤ a.heap.size) (hs:∀ k,S k→n ≤ k):Below n a b :=
 ⟨h.os,h.tape,h.output,h.size,fun k hk=>h.block k (by omega) (fun e=>by have:=hs k e; omega)⟩

theorem Kp.setCell {S:Nat→Prop} {a b:World} (h:Kp S a b) {p:Addr} (hp:S p.block ∨ a.heap.size ≤ p.block) (v:Value):Kp S a (b.setCell p v) :=
 ⟨h.os,h.tape,h.output,by simpa [World.setCell] using h.size,fun k hk hn=>(Below.heap_setCell _ _ _ _ (fun e=>by subst e; rcases hp with hp | hp; exact hn hp; omega)).trans (h.block k hk hn)⟩

theorem Kp.grown {S:Nat→Prop} {a b c:World} (h:Kp S a b) {m:Nat} (hg:b.grownBy c (some m)) (hm:S m ∨ a.heap.size ≤ m):Kp S a c :=
 ⟨hg.os.trans h.os,hg.tape.trans h.tape,hg.output.trans h.output,Nat.le_trans h.size hg.size,fun k hk hn=>(hg.block k (Nat.lt_of_lt_of_le hk h.size) (fun e=>by cases e; rcases hm with hm | hm; exact hn hm; omega)).trans (h.block k hk hn)⟩

structure Th where
 k:Int
 n:Nat
 l:Int
 d:List Int
 da:Option Addr
 dc:Nat
 mp:Nat
 ns:NS

def hcell (t:Th) (j:Nat):Value :=
 if j=0 then .int .i64 t.k else if j=1 then .int .i64 t.n else if j=2 then .int .i64 t.l else if j=3 then .slice t.da t.d.length t.dc else if t.k=2 then .map (some t.mp) else .map none

structure Tr where
 most:Int
 row:List (Option Nat)
 ra:Option Addr
 rc:Nat
 least:Nat
 opn:Nat→Option Nat
 T:Nat→Option Th

def tcell (s:Tr) (j:Nat):Value :=
 if j=0 then .int .i64 s.most else if j=1 then .slice s.ra s.row.length s.rc else if j=2 then .int .i64 s.least else ptrO (s.opn (j - 3))

structure TM (u:World) (S:Nat→Prop) (g:Nat) (s:Tr):Prop where
 str:u.rowIs g 66 19 (tcell s)
 row:OwnP 0 u s.ra s.row.length s.rc s.row
 thg:∀ b t,s.T b=some t→u.rowIs b 69 5 (hcell t)
 map:∀ b t,s.T b=some t→t.k=2→MapS u t.mp t.ns
 dat:∀ b t,s.T b=some t→Own 0 u t.da t.d.length t.dc t.d
 mp1:∀ b b' t t',s.T b=some t→s.T b'=some t'→t.k=2→t'.k=2→t.mp=t'.mp→b=b'
 da1:∀ b b' t t' x,s.T b=some t→s.T b'=some t'→t.da=some ⟨x,0,none⟩→t'.da=some ⟨x,0,none⟩→b=b'
 sg:S g
 sr:∀ x,s.ra=some ⟨x,0,none⟩→S x
 sb:∀ b t,s.T b=some t→S b
 sm:∀ b t,s.T b=some t→t.k=2→S t.mp
 sd:∀ b t x,s.T b=some t→t.da=some ⟨x,0,none⟩→S x
 lt:∀ k,S k→k < u.heap.size

theorem TM.kept {u u':World} {S S':Nat→Prop} {g:Nat} {s:Tr} (h:TM u S g s) (hk:∀ k,S k→u'.heap[k]?=u.heap[k]?) (hS:∀ k,S k→S' k) (hl:∀ k,S' k→k < u'.heap.size):TM u' S' g s :=
 ⟨h.str.of_block (hk _ h.sg),h.row.kept (fun x e=>hk _ (h.sr x e)),fun b t e=>(h.thg b t e).of_block (hk _ (h.sb b t e)),fun b t e hd=>(h.map b t e hd).kept (hk _ (h.sm b t e hd)),fun b t e=>(h.dat b t e).kept (fun x ex=>hk _ (h.sd b t x e ex)),h.mp1,h.da1,
  hS _ h.sg,fun x e=>hS _ (h.sr x e),fun b t e=>hS _ (h.sb b t e),fun b t e hd=>hS _ (h.sm b t e hd),fun b t x e ex=>hS _ (h.sd b t x e ex),hl⟩

theorem TM.below {u u':World} {S:Nat→Prop} {g:Nat} {s:Tr} (h:TM u S g s) (hb:Below u.heap.size u u'):TM u' S g s :=
 h.kept (fun k hk=>hb.block k (h.lt k hk)) (fun _ hk=>hk) (fun k hk=>Nat.lt_of_lt_of_le (h.lt k hk) hb.size)

def Up (S:Nat→Prop) (n m:Nat) (k:Nat):Prop:=S k ∨ (n ≤ k∧k < m)

theorem TM.tree_cells {u:World} {S:Nat→Prop} {g:Nat} {s:Tr} (h:TM u S g s) :
  u.cell? ⟨g,0,none⟩=some (.int .i64 s.most)∧u.cell? ⟨g,1,none⟩=some (.slice s.ra s.row.length s.rc)∧u.cell? ⟨g,2,none⟩=some (.int .i64 s.least)∧(∀ k,u.frozen? ⟨g,k,none⟩=false) :=
 ⟨h.str.cell (i:=0) (by omega),h.str.cell (i:=1) (by omega),h.str.cell (i:=2) (by omega),fun k=>h.str.frozen k⟩

theorem TM.open_cell {u:World} {S:Nat→Prop} {g:Nat} {s:Tr} (h:TM u S g s) {f:Nat} (hf:f < 16):u.cell? ⟨g,3 + f,none⟩=some (ptrO (s.opn f)):=by
 have:=h.str.cell (i:=3 + f) (by omega)
 rw [this]
 unfold tcell
 rw [if_neg (by omega),if_neg (by omega),if_neg (by omega)]
 congr 3
 omega

theorem TM.thing_cells {u:World} {S:Nat→Prop} {g:Nat} {s:Tr} (h:TM u S g s) {b:Nat} {t:Th} (e:s.T b=some t) :
  u.cell? ⟨b,0,none⟩=some (.int .i64 t.k)∧u.cell? ⟨b,1,none⟩=some (.int .i64 t.n)∧u.cell? ⟨b,2,none⟩=some (.int .i64 t.l)∧u.cell? ⟨b,3,none⟩=some (.slice t.da t.d.length t.dc) ∧
   u.cell? ⟨b,4,none⟩=some (if t.k=2 then .map (some t.mp) else .map none)∧(∀ k,u.frozen? ⟨b,k,none⟩=false) :=
 ⟨(h.thg b t e).cell (i:=0) (by omega),(h.thg b t e).cell (i:=1) (by omega),(h.thg b t e).cell (i:=2) (by omega),(h.thg b t e).cell (i:=3) (by omega),(h.thg b t e).cell (i:=4) (by omega),fun k=>(h.thg b t e).frozen k⟩

theorem TM.dir_map {u:World} {S:Nat→Prop} {g:Nat} {s:Tr} (h:TM u S g s) {b:Nat} {t:Th} (e:s.T b=some t) (hd:t.k=2):u.cell? ⟨b,4,none⟩=some (.map (some t.mp)):=by
 have:=(h.thing_cells e).2.2.2.2.1
 rwa [if_pos hd] at this

theorem row_neT {u:World} {b b' t t' n:Nat} {f:Nat→Value} {c:Array Value} (h:u.rowIs b t n f) (h':u.heap[b']?=some (.cells c t' (0,0))) (ht:t ≠ t'):b' ≠ b:=by
 intro e
 subst e
 obtain ⟨c',hb,_⟩:=h
 rw [hb] at h'
 cases h'
 exact ht rfl

theorem rows_neT {u:World} {b b' t t' n n':Nat} {f f':Nat→Value} (h:u.rowIs b t n f) (h':u.rowIs b' t' n' f') (ht:t ≠ t'):b' ≠ b:=by
 obtain ⟨c,hb,_⟩:=h'
 exact row_neT h hb ht

theorem map_neT {u:World} {b t n m:Nat} {f:Nat→Value} {ns:NS} (h:u.rowIs b t n f) (h':MapS u m ns):m ≠ b:=by
 intro e
 subst e
 obtain ⟨c',hb,_⟩:=h
 exact h'.ne hb rfl

theorem cells_ty {a c:Array Value} {t t':TypeId} {q q':Nat × Nat} (h:some (Obj.cells a t q)=some (Obj.cells c t' q')):t=t':=by
 injection h with h
 injection h

theorem TM.setT {u:World} {S:Nat→Prop} {g:Nat} {s s':Tr} (h:TM u S g s) (j:Nat) (v:Value) (hc:∀ i,i < 19→tcell s' i=if i=j then v else tcell s i) (hT:s'.T=s.T)
  (hr:OwnP 0 (u.setCell ⟨g,j,none⟩ v) s'.ra s'.row.length s'.rc s'.row) (hs:∀ x,s'.ra=some ⟨x,0,none⟩→S x):TM (u.setCell ⟨g,j,none⟩ v) S g s':=by
 have ko:∀ k,k ≠ g→(u.setCell ⟨g,j,none⟩ v).heap[k]?=u.heap[k]?:=fun k hk=>Below.heap_setCell _ _ _ _ hk
 refine ⟨(h.str.set j v).congr (fun i hi=>(hc i hi).symm),hr,?_,?_,?_,?_,?_,h.sg,hs,?_,?_,?_,fun k hk=>by simpa [World.setCell] using h.lt k hk⟩
 ·rw [hT]; exact fun b t e=>(h.thg b t e).of_block (ko b (rows_neT h.str (h.thg b t e) (by decide)))
 ·rw [hT]; exact fun b t e hd=>(h.map b t e hd).kept (ko _ (map_neT h.str (h.map b t e hd)))
 ·rw [hT]; exact fun b t e=>(h.dat b t e).kept (fun x ex=>by obtain ⟨_,_,cur,hcu⟩:=(h.dat b t e).lt ex; exact ko x (row_neT h.str hcu (by decide)))
 ·rw [hT]; exact h.mp1
 ·rw [hT]; exact h.da1
 ·rw [hT]; exact h.sb
 ·rw [hT]; exact h.sm
 ·rw [hT]; exact h.sd

theorem TM.setR {u:World} {S:Nat→Prop} {g:Nat} {s:Tr} (h:TM u S g s) {r:Nat} (hr:s.ra=some ⟨r,0,none⟩) (j:Nat) (o:Option Nat):TM (u.setCell ⟨r,j,none⟩ (ptrO o)) S g { s with row:=s.row.set j o }:=by
 have hrow:=h.row
 rw [hr] at hrow
 obtain ⟨_,_,cr,hcr⟩:=hrow.lt rfl
 have ko:∀ k,k ≠ r→(u.setCell ⟨r,j,none⟩ (ptrO o)).heap[k]?=u.heap[k]?:=fun k hk=>Below.heap_setCell _ _ _ _ hk
 refine ⟨(h.str.of_block (ko g (fun e=>(row_neT h.str hcr (by decide)) e.symm))).congr (fun i hi=>?_),?_,?_,?_,?_,h.mp1,h.da1,h.sg,h.sr,h.sb,h.sm,h.sd,fun k hk=>by simpa [World.setCell] using h.lt k hk⟩
 ·unfold tcell; simp
 ·have:=hrow.set j o
  simp only [List.length_set]
  rw [hr]
  exact this
 ·exact fun b t e=>(h.thg b t e).of_block (ko b (fun e'=>(row_neT (h.thg b t e) hcr (by decide)) e'.symm))
 ·exact fun b t e hd=>(h.map b t e hd).kept (ko _ (fun e'=>(h.map b t e hd).ne hcr e'.symm))
 ·exact fun b t e=>(h.dat b t e).kept (fun x ex=>ko x (fun e'=>by
   obtain ⟨_,_,cur,hcu⟩:=(h.dat b t e).lt ex
   rw [e',hcr] at hcu
   exact absurd (cells_ty hcu) (by decide)))

def Tr.upd (s:Tr) (b:Nat) (t:Th):Tr:={ s with T:=fun k=>if k=b then some t else s.T k }

theorem Tr.upd_T {s:Tr} {b:Nat} {t:Th} (k:Nat):(s.upd b t).T k=if k=b then some t else s.T k:=rfl

theorem TM.setH {u:World} {S:Nat→Prop} {g:Nat} {s:Tr} (h:TM u S g s) {b:Nat} {t:Th} (e:s.T b=some t) (l':Int):TM (u.setCell ⟨b,2,none⟩ (.int .i64 l')) S g (s.upd b { t with l:=l' }):=by
 have ht:=h.thg b t e
 have ko:∀ k,k ≠ b→(u.setCell ⟨b,2,none⟩ (.int .i64 l')).heap[k]?=u.heap[k]?:=fun k hk=>Below.heap_setCell _ _ _ _ hk
 have kd:∀ b' t',s.T b'=some t'→Own 0 (u.setCell ⟨b,2,none⟩ (.int .i64 l')) t'.da t'.d.length t'.dc t'.d:=fun b' t' e'=>(h.dat b' t' e').kept (fun x ex=>by obtain ⟨_,_,cur,hcu⟩:=(h.dat b' t' e').lt ex; exact ko x (row_neT ht hcu (by decide)))
 have km:∀ b' t',s.T b'=some t'→t'.k=2→MapS (u.setCell ⟨b,2,none⟩ (.int .i64 l')) t'.mp t'.ns:=fun b' t' e' hd=>(h.map b' t' e' hd).kept (ko _ (map_neT ht (h.map b' t' e' hd)))
 have old:∀ b' t',(s.upd b { t with l:=l' }).T b'=some t'→∃ t0,s.T b'=some t0∧t'.k=t0.k∧t'.d=t0.d∧t'.da=t0.da∧t'.dc=t0.dc∧t'.mp=t0.mp∧t'.ns=t0.ns:=fun b' t' e'=>by
  rw [Tr.upd_T] at e'
  by_cases hb:b'=b
  ·rw [if_pos hb] at e'
   cases e'
   exact ⟨t,by rw [hb]; exact e,rfl,rfl,rfl,rfl,rfl,rfl⟩
  ·rw [if_neg hb] at e'
   exact ⟨t',e',rfl,rfl,rfl,rfl,rfl,rfl⟩
 refine ⟨(h.str.of_block (ko g (fun e'=>(rows_neT ht h.str (by decide)) e'))).congr (fun i hi=>rfl),?_,?_,?_,?_,?_,?_,h.sg,h.sr,?_,?_,?_,fun k hk=>by simpa [World.setCell] using h.lt k hk⟩
 ·exact h.row.kept (fun x ex=>by obtain ⟨_,_,cur,hcu⟩:=h.row.lt ex; exact ko x (row_neT ht hcu (by decide)))
 ·intro b' t' e'
  rw [Tr.upd_T] at e'
  by_cases hb:b'=b
  ·subst hb
   rw [if_pos rfl] at e'
   cases e'
   refine (ht.set 2 _).congr (fun i hi=>?_)
   unfold hcell
   match i,hi with
   | 0,_=>rfl
   | 1,_=>rfl
   | 2,_=>rfl
   | 3,_=>rfl
   | 4,_=>rfl
  ·rw [if_neg hb] at e'
   exact (h.thg b' t' e').of_block (ko b' hb)
 ·intro b' t' e' hd
  obtain ⟨t0,h0,h1,h2,h3,h4,h5,h6⟩:=old b' t' e'
  rw [h5,h6]
  exact km b' t0 h0 (by rw [← h1]; exact hd)
 ·intro b' t' e'
  obtain ⟨t0,h0,h1,h2,h3,h4,h5,h6⟩:=old b' t' e'
  rw [h2,h3,h4]
  exact kd b' t0 h0
 ·intro b1 b2 t1 t2 e1 e2 d1 d2 hm
  obtain ⟨x,h0,h1,_,_,_,h5,_⟩:=old b1 t1 e1
  obtain ⟨y,g0,g1,_,_,_,g5,_⟩:=old b2 t2 e2
  exact h.mp1 b1 b2 x y h0 g0 (by rw [← h1]; exact d1) (by rw [← g1]; exact d2) (by rw [← h5,← g5]; exact hm)
 ·intro b1 b2 t1 t2 z e1 e2 d1 d2
  obtain ⟨x,h0,_,_,h3,_⟩:=old b1 t1 e1
  obtain ⟨y,g0,_,_,g3,_⟩:=old b2 t2 e2
  exact h.da1 b1 b2 x y z h0 g0 (by rw [← h3]; exact d1) (by rw [← g3]; exact d2)
 ·intro b' t' e'
  obtain ⟨t0,h0,_⟩:=old b' t' e'
  exact h.sb b' t0 h0
 ·intro b' t' e' hd
  obtain ⟨t0,h0,h1,h2,h3,h4,h5,h6⟩:=old b' t' e'
  rw [h5]
  exact h.sm b' t0 h0 (by rw [← h1]; exact hd)
 ·intro b' t' z e' hz
  obtain ⟨t0,h0,h1,h2,h3,h4,h5,h6⟩:=old b' t' e'
  exact h.sd b' t0 z h0 (by rw [← h3]; exact hz)

theorem TM.setM {u u':World} {S:Nat→Prop} {g:Nat} {s:Tr} (h:TM u S g s) {b:Nat} {t:Th} (e:s.T b=some t) (hd:t.k=2) {ns':NS} (hm:MapS u' t.mp ns') (hg:u.grownBy u' (some t.mp)) (hz:u'.heap.size=u.heap.size):TM u' S g (s.upd b { t with ns:=ns' }):=by
 have hmm:=h.map b t e hd
 have ko:∀ k,S k→k ≠ t.mp→u'.heap[k]?=u.heap[k]?:=fun k hk hne=>hg.block k (h.lt k hk) (fun e'=>hne (by cases e'; rfl))
 have kd:∀ b' t',s.T b'=some t'→Own 0 u' t'.da t'.d.length t'.dc t'.d:=fun b' t' e'=>(h.dat b' t' e').kept (fun x ex=>by obtain ⟨_,_,cur,hcu⟩:=(h.dat b' t' e').lt ex; exact ko x (h.sd b' t' x e' ex) (hmm.ne hcu))
 have old:∀ b' t',(s.upd b { t with ns:=ns' }).T b'=some t'→∃ t0,s.T b'=some t0∧t'.k=t0.k∧t'.d=t0.d∧t'.da=t0.da∧t'.dc=t0.dc∧t'.mp=t0.mp:=fun b' t' e'=>by
  rw [Tr.upd_T] at e'
  by_cases hb:b'=b
  ·rw [if_pos hb] at e'
   cases e'
   exact ⟨t,by rw [hb]; exact e,rfl,rfl,rfl,rfl,rfl⟩
  ·rw [if_neg hb] at e'
   exact ⟨t',e',rfl,rfl,rfl,rfl,rfl⟩
 refine ⟨(h.str.of_block (ko g h.sg (fun e'=>(map_neT h.str hmm) e'.symm))).congr (fun i hi=>rfl),?_,?_,?_,?_,?_,?_,h.sg,h.sr,?_,?_,?_,fun k hk=>by rw [hz]; exact h.lt k hk⟩
 ·exact h.row.kept (fun x ex=>by obtain ⟨_,_,cur,hcu⟩:=h.row.lt ex; exact ko x (h.sr x ex) (hmm.ne hcu))
 ·intro b' t' e'
  rw [Tr.upd_T] at e'
  by_cases hb:b'=b
  ·subst hb
   rw [if_pos rfl] at e'
   cases e'
   exact ((h.thg b' t e).of_block (ko b' (h.sb b' t e) (fun e'=>(map_neT (h.thg b' t e) hmm) e'.symm))).congr (fun i hi=>rfl)
  ·rw [if_neg hb] at e'
   exact (h.thg b' t' e').of_block (ko b' (h.sb b' t' e') (fun e''=>(map_neT (h.thg b' t' e') hmm) e''.symm))
 ·intro b' t' e' hd'
  rw [Tr.upd_T] at e'
  by_cases hb:b'=b
  ·subst hb
   rw [if_pos rfl] at e'
   cases e'
   exact hm
  ·rw [if_neg hb] at e'
   exact (h.map b' t' e' hd').kept (ko _ (h.sm b' t' e' hd') (fun e''=>hb (h.mp1 b' b t' t e' e hd' hd e'')))
 ·intro b' t' e'
  obtain ⟨t0,h0,h1,h2,h3,h4,h5⟩:=old b' t' e'
  rw [h2,h3,h4]
  exact kd b' t0 h0
 ·intro b1 b2 t1 t2 e1 e2 d1 d2 hm'
  obtain ⟨x,h0,h1,_,_,_,h5⟩:=old b1 t1 e1
  obtain ⟨y,g0,g1,_,_,_,g5⟩:=old b2 t2 e2
  exact h.mp1 b1 b2 x y h0 g0 (by rw [← h1]; exact d1) (by rw [← g1]; exact d2) (by rw [← h5,← g5]; exact hm')
 ·intro b1 b2 t1 t2 z e1 e2 d1 d2
  obtain ⟨x,h0,_,_,h3,_⟩:=old b1 t1 e1
  obtain ⟨y,g0,_,_,g3,_⟩:=old b2 t2 e2
  exact h.da1 b1 b2 x y z h0 g0 (by rw [← h3]; exact d1) (by rw [← g3]; exact d2)
 ·intro b' t' e'
  obtain ⟨t0,h0,_⟩:=old b' t' e'
  exact h.sb b' t0 h0
 ·intro b' t' e' hd'
  obtain ⟨t0,h0,h1,h2,h3,h4,h5⟩:=old b' t' e'
  rw [h5]
  exact h.sm b' t0 h0 (by rw [← h1]; exact hd')
 ·intro b' t' z e' hz'
  obtain ⟨t0,h0,h1,h2,h3,h4,h5⟩:=old b' t' e'
  exact h.sd b' t0 z h0 (by rw [← h3]; exact hz')

theorem TM.more {u:World} {S:Nat→Prop} {g:Nat} {s:Tr} (h:TM u S g s) {S':Nat→Prop} (hS:∀ k,S k→S' k) (hl:∀ k,S' k→k < u.heap.size) {b:Nat} {t:Th} (hb:¬ S b) (sb':S' b) (ht:u.rowIs b 69 5 (hcell t))
  (hm:t.k=2→MapS u t.mp t.ns∧¬ S t.mp∧S' t.mp) (hd:t.d=[]∧t.da=none∧t.dc=0):TM u S' g (s.upd b t):=by
 obtain ⟨hd0,hd1,hd2⟩:=hd
 refine ⟨h.str.congr (fun i hi=>rfl),h.row,?_,?_,?_,?_,?_,hS _ h.sg,fun x e=>hS _ (h.sr x e),?_,?_,?_,hl⟩
 ·intro b' t' e'
  rw [Tr.upd_T] at e'
  by_cases hbb:b'=b
  ·subst hbb
   rw [if_pos rfl] at e'
   cases e'
   exact ht
  ·rw [if_neg hbb] at e'
   exact h.thg b' t' e'
 ·intro b' t' e' hk
  rw [Tr.upd_T] at e'
  by_cases hbb:b'=b
  ·rw [if_pos hbb] at e'
   cases e'
   exact (hm hk).1
  ·rw [if_neg hbb] at e'
   exact h.map b' t' e' hk
 ·intro b' t' e'
  rw [Tr.upd_T] at e'
  by_cases hbb:b'=b
  ·rw [if_pos hbb] at e'
   cases e'
   rw [hd0,hd1,hd2]
   exact Own.nil _ _
  ·rw [if_neg hbb] at e'
   exact h.dat b' t' e'
 ·intro b1 b2 t1 t2 e1 e2 k1 k2 hmm
  rw [Tr.upd_T] at e1 e2
  by_cases h1:b1=b
  ·by_cases h2:b2=b
   ·rw [h1,h2]
   ·rw [if_pos h1] at e1
    rw [if_neg h2] at e2
    cases e1
    exact absurd (h.sm b2 t2 e2 k2) (by rw [← hmm]; exact (hm k1).2.1)
  ·by_cases h2:b2=b
   ·rw [if_neg h1] at e1
    rw [if_pos h2] at e2
    cases e2
    exact absurd (h.sm b1 t1 e1 k1) (by rw [hmm]; exact (hm k2).2.1)
   ·rw [if_neg h1] at e1
    rw [if_neg h2] at e2
    exact h.mp1 b1 b2 t1 t2 e1 e2 k1 k2 hmm
 ·intro b1 b2 t1 t2 z e1 e2 d1 d2
  rw [Tr.upd_T] at e1 e2
  by_cases h1:b1=b
  ·rw [if_pos h1] at e1
   cases e1
   rw [hd1] at d1
   cases d1
  ·by_cases h2:b2=b
   ·rw [if_pos h2] at e2
    cases e2
    rw [hd1] at d2
    cases d2
   ·rw [if_neg h1] at e1
    rw [if_neg h2] at e2
    exact h.da1 b1 b2 t1 t2 z e1 e2 d1 d2
 ·intro b' t' e'
  rw [Tr.upd_T] at e'
  by_cases hbb:b'=b
  ·rw [hbb]; exact sb'
  ·rw [if_neg hbb] at e'
   exact hS _ (h.sb b' t' e')
 ·intro b' t' e' hk
  rw [Tr.upd_T] at e'
  by_cases hbb:b'=b
  ·rw [if_pos hbb] at e'
   cases e'
   exact (hm hk).2.2
  ·rw [if_neg hbb] at e'
   exact hS _ (h.sm b' t' e' hk)
 ·intro b' t' z e' hz
  rw [Tr.upd_T] at e'
  by_cases hbb:b'=b
  ·rw [if_pos hbb] at e'
   cases e'
   rw [hd1] at hz
   cases hz
  ·rw [if_neg hbb] at e'
   exact hS _ (h.sd b' t' z e' hz)

end Go.Proofs.YtknmgefpjdfenaaGreat

