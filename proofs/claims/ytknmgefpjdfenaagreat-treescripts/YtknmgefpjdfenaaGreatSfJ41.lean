/- Joined: SSortA, SRelA, SRelB, SRelD, SSort, SFits. -/
import Derived.Test.YtknmgefpjdfenaaGreatSfJ40
import Derived.Test.YtknmgefpjdfenaaGreatSfVCmp
import Derived.Test.YtknmgefpjdfenaaGreatSfJ38
import Derived.Test.YtknmgefpjdfenaaGreatSfJ17
import Derived.Deep.RegionHeld3
/- skerryref17.Sorted: the row of names, an entry stored; insertion from behind. -/
namespace Go.Proofs.YtknmgefpjdfenaaGreat
set_option maxRecDepth 100000
set_option maxHeartbeats 8000000
open Go.RowKit Go.Shelf Go.Maps
set_option linter.unusedVariables false

theorem cb_lessS (a b:List UInt8):decide (Lib.compareBytes a b < 0)=Op.bytesLess a b:=by
 induction a generalizing b with
 | nil=>cases b <;> simp [Lib.compareBytes,Op.bytesLess]
 | cons x a ih =>
  cases b with
  | nil=>simp [Lib.compareBytes,Op.bytesLess]
  | cons y b =>
   unfold Lib.compareBytes Op.bytesLess
   rw [← ih]
   by_cases h1:x < y
   ·simp [h1]
   ·by_cases h2:x=y
    ·subst h2
     simp [h1]
    ·have h3:y < x:=by
      rcases UInt8.lt_or_lt_of_ne h2 with q | q
      ·exact absurd q h1
      ·exact q
     simp [h1,h2,h3]

theorem ncells_set:∀ (xs:NL) (i j:Nat) (x x':List UInt8 × Nat) (v:Value),xs[i]?=some x→j < 2→ncs2 x'=(ncs2 x).set j v→ncells (xs.set i x')=(ncells xs).set (i * 2 + j) v
 | [],i,j,x,x',v,h,hj,e=>by cases h
 | a :: r,0,j,x,x',v,h,hj,e=>by
  simp at h
  subst h
  have e1:ncells (a :: r)=ncs2 a ++ ncells r:=rfl
  have e2:ncells ((a :: r).set 0 x')=ncs2 x' ++ ncells r:=rfl
  rw [e1,e2,e,Nat.zero_mul,Nat.zero_add,List.set_append_left _ _ (by simp [ncs2]; omega)]
 | a :: r,i + 1,j,x,x',v,h,hj,e=>by
  have h':r[i]?=some x:=by simpa using h
  have e1:ncells (a :: r)=ncs2 a ++ ncells r:=rfl
  have e2:ncells ((a :: r).set (i + 1) x')=ncs2 a ++ ncells (r.set i x'):=rfl
  have hl:(ncs2 a).length=2:=rfl
  rw [e1,e2,ncells_set r i j x x' v h' hj e,List.set_append_right _ _ (by omega),hl]
  congr 2
  omega

theorem OwnN.setj {B:Nat} {w:World} {rb c:Nat} {xs:NL} (h:OwnN B w (some ⟨rb,0,none⟩) c xs) {i j:Nat} {x x':List UInt8 × Nat} {v:Value} (hx:xs[i]?=some x) (hj:j < 2) (e:ncs2 x'=(ncs2 x).set j v):OwnN B (w.setCell ⟨rb,i * 2 + j,none⟩ v) (some ⟨rb,0,none⟩) c (xs.set i x'):=by
 unfold OwnN at h ⊢
 rw [List.length_set]
 obtain ⟨h1,h2⟩:=h
 refine ⟨by rw [ncells_len,List.length_set],.inr ?_⟩
 rcases h2 with ⟨e',_⟩ | ⟨g,cap,cur,e',hg,hh,hn,hm,hc,ht⟩
 ·cases e'
 ·cases e'
  refine ⟨rb,c,_,rfl,hg,by rw [setCell_eq_setRow w rb (i * 2 + j) _ 120 (0,0) _ hh]; exact setRow_heap w rb _ _ 120 _ hh,hn,hm,by simpa using hc,?_⟩
  rw [Array.toList_setIfInBounds,List.take_set,ht,ncells_set xs i j x x' v hx hj e]

theorem OwnN.put {B:Nat} {w:World} {rb c:Nat} {xs:NL} (h:OwnN B w (some ⟨rb,0,none⟩) c xs) {i:Nat} {x:List UInt8 × Nat} (hx:xs[i]?=some x) (y:List UInt8 × Nat):OwnN B ((w.setCell ⟨rb,i * 2,none⟩ (.int .i64 (y.2:Int))).setCell ⟨rb,i * 2 + 1,none⟩ (.string (St y.1))) (some ⟨rb,0,none⟩) c (xs.set i y):=by
 have hlen:i < xs.length:=(List.getElem?_eq_some_iff.1 hx).1
 have o1:=OwnN.setj (i:=i) (j:=0) (x:=x) (x':=(x.1,y.2)) (v:=.int .i64 (y.2:Int)) h hx (by omega) rfl
 have o2:=OwnN.setj (i:=i) (j:=1) (x:=(x.1,y.2)) (x':=y) (v:=.string (St y.1)) o1 (List.getElem?_set_self hlen) (by omega) rfl
 rw [List.set_set] at o2
 exact o2

def Srt (ms:NL):Prop:=ms.Pairwise (fun a b=>Lib.compareBytes a.1 b.1 < 0)

theorem srt_ins {A B:NL} {e:List UInt8 × Nat} (hs:Srt (A ++ B)) (hB:∀ b ∈ B,Lib.compareBytes e.1 b.1 < 0) (hA:∀ y,A.getLast?=some y→Lib.compareBytes y.1 e.1 < 0):Srt (A ++ e :: B):=by
 have h:=List.pairwise_append.1 hs
 refine List.pairwise_append.2 ⟨h.1,List.pairwise_cons.2 ⟨hB,h.2.1⟩,fun a ha b hb=>?_⟩
 rcases List.mem_cons.1 hb with rfl | hb
 ·rcases List.eq_nil_or_concat A with rfl | ⟨A',y,rfl⟩
  ·cases ha
  ·rw [List.concat_eq_append] at *
   have hy:=hA y (by simp)
   rcases List.mem_append.1 ha with q | q
   ·have:=(List.pairwise_append.1 h.1).2.2 a q y (by simp)
    exact cb_trans this hy
   ·have:a=y:=by simpa using q
    subst this
    exact hy
 ·exact h.2.2 a ha b hb

end Go.Proofs.YtknmgefpjdfenaaGreat

/- The tree and the reference's tree, side by side: what one says of the other. -/
namespace Go.Proofs.YtknmgefpjdfenaaGreat
set_option maxRecDepth 100000
set_option maxHeartbeats 8000000
open Go.RowKit Go.Shelf Go.Maps
set_option linter.unusedVariables false

def nmb (s:Tr) (b:Nat):Nat:=match s.T b with
 | some t=>t.n
 | none=>0

theorem nmb_of {s:Tr} {b:Nat} {t:Th} (h:s.T b=some t):nmb s b=t.n:=by
 unfold nmb
 rw [h]

def nmS (s:Tr) (e:List UInt8 × Nat):List UInt8 × Nat:=(e.1,nmb s e.2)

structure Lk (s:Tr) (t:Th) (x:RT):Prop where
 k:x.k=t.k
 d:x.d=t.d
 ns:x.ns.Perm (t.ns.map (nmS s))

structure Rel (s:Tr) (u:RTr):Prop where
 most:u.most=s.most
 len:u.th.length=s.row.length
 no:∀ i:Nat,s.row[i]?=some none→∃ x,u.th[i]?=some x∧x.k=0∧x.d=[]∧x.ns=[]
 yes:∀ (i b:Nat) (t:Th),s.row[i]?=some (some b)→s.T b=some t→∃ x,u.th[i]?=some x∧Lk s t x
 op:∀ f:Nat,f < 16→u.op f=(s.opn f).elim 0 (nmb s)

structure Low (s:Tr):Prop where
 z:s.row[0]?=some none
 one:1 ≤ s.least
 all:∀ i:Nat,1 ≤ i→i < s.least→∃ b,s.row[i]?=some (some b)

theorem Rel.thing {s:Tr} {u:RTr} {r n b:Nat} {t:Th} (h:Rel s u) (hw:Wf s r n) (ht:s.T b=some t):∃ x,u.th[nmb s b]?=some x∧Lk s t x:=by
 rw [nmb_of ht]
 exact h.yes t.n b t (hw.num b t ht) ht

theorem nmb_inj {s:Tr} {r n b c:Nat} {t t':Th} (hw:Wf s r n) (hb:s.T b=some t) (hc:s.T c=some t') (e:nmb s b=nmb s c):b=c:=by
 rw [nmb_of hb,nmb_of hc] at e
 exact (hw.byn hb hc e.symm).symm

theorem nmb_root {s:Tr} {r n:Nat} (hw:Wf s r n):nmb s r=1:=by
 obtain ⟨t,ht,_,e⟩:=hw.root
 rw [nmb_of ht,e]

theorem nmb_pos {s:Tr} {r n b:Nat} {t:Th} (hw:Wf s r n) (hl:Low s) (hb:s.T b=some t):nmb s b ≠ 0:=by
 intro e
 rw [nmb_of hb] at e
 have:=hw.num b t hb
 rw [e,hl.z] at this
 cases this

theorem apN_of {ns:NS} (h:Rise ns) (s:Tr):ApN (ns.map (nmS s)):=by
 unfold ApN
 rw [List.pairwise_map]
 exact rise_ne h

theorem ApN.perm {a b:NL} (h:ApN b) (hp:a.Perm b):ApN a:=by
 unfold ApN at h ⊢
 exact (hp.pairwise_iff (fun {x y} (q:x.1 ≠ y.1)=>q.symm)).2 h

theorem Lk.ap {s:Tr} {r n b:Nat} {t:Th} {x:RT} (h:Lk s t x) (hw:Wf s r n) (ht:s.T b=some t):ApN x.ns:=(apN_of (hw.ris b t ht) s).perm h.ns

theorem Lk.has {s:Tr} {r n b c:Nat} {t:Th} {x:RT} {z:List UInt8} (h:Lk s t x) (hw:Wf s r n) (ht:s.T b=some t) (hz:t.ns.lookup z=some c):x.ns.lookup z=some (nmb s c) :=
 nl_look (h.ap hw ht) (h.ns.symm.subset (List.mem_map.2 ⟨(z,c),mem_look hz,rfl⟩))

theorem Lk.hasn {s:Tr} {r n b:Nat} {t:Th} {x:RT} {z:List UInt8} (h:Lk s t x) (hw:Wf s r n) (ht:s.T b=some t) (hz:t.ns.lookup z=none):x.ns.lookup z=none:=by
 cases q:x.ns.lookup z with
 | none=>rfl
 | some i =>
  obtain ⟨e,he,hq⟩:=List.mem_map.1 (h.ns.subset (nl_mem q))
  have e1:e.1=z:=congrArg Prod.fst hq
  have:=look_mem (hw.ris b t ht) he
  rw [e1,hz] at this
  cases this

theorem Rel.rs {s:Tr} {u:RTr} {r n:Nat} (h:Rel s u) (hw:Wf s r n) (hn:n ≤ 1700000000000):Rs u:=by
 have hcase:∀ (i:Nat) (x:RT),u.th[i]?=some x→(x.ns=[]) ∨ ∃ b t,s.T b=some t∧Lk s t x:=by
  intro i x hx
  have hi:i < s.row.length:=by rw [← h.len]; exact (List.getElem?_eq_some_iff.1 hx).1
  cases ho:s.row[i] with
  | none =>
   obtain ⟨y,hy,_,_,e⟩:=h.no i (by rw [List.getElem?_eq_getElem hi,ho])
   rw [hx] at hy
   cases hy
   exact .inl e
  | some b =>
   have hr:s.row[i]?=some (some b):=by rw [List.getElem?_eq_getElem hi,ho]
   obtain ⟨t,ht,_⟩:=hw.row i b hr
   obtain ⟨y,hy,hk⟩:=h.yes i b t hr ht
   rw [hx] at hy
   cases hy
   exact .inr ⟨b,t,ht,hk⟩
 refine ⟨?_,?_,?_,?_,?_⟩
 ·obtain ⟨t,ht,h2⟩:=hw.ok.dir
  obtain ⟨x,hx,hk⟩:=h.yes 1 r t hw.ok.root ht
  exact ⟨x,hx,by rw [hk.k,h2]⟩
 ·intro i x hx
  rcases hcase i x hx with e | ⟨b,t,ht,hk⟩
  ·rw [e]; exact List.Pairwise.nil
  ·exact hk.ap hw ht
 ·intro i x z c hx hc
  rcases hcase i x hx with e | ⟨b,t,ht,hk⟩
  ·rw [e] at hc; cases hc
  ·obtain ⟨e,he,hq⟩:=List.mem_map.1 (hk.ns.subset (nl_mem hc))
   have e2:nmb s e.2=c:=congrArg Prod.snd hq
   obtain ⟨t',ht'⟩:=(hw.liv b t ht e he).1
   obtain ⟨y,hy,_⟩:=h.thing hw ht'
   rw [e2] at hy
   exact ⟨y,hy⟩
 ·intro i x hx
  rcases hcase i x hx with e | ⟨b,t,ht,hk⟩
  ·rw [e]; simp
  ·have e1:=hk.ns.length_eq
   rw [List.length_map] at e1
   have:=hw.ns_le ht
   omega
 ·have:=hw.len
  rw [h.len]
  omega

theorem rel_go {s:Tr} {u:RTr} {r n:Nat} (h:Rel s u) (hw:Wf s r n):∀ (ms:List (List UInt8)) (b:Nat),(∃ t,s.T b=some t) →
  (∃ c t,go s ms b=(0,some c)∧s.T c=some t∧goR u ms (nmb s b)=(0,nmb s c)) ∨ ∃ E:Int,(E=11 ∨ E=13)∧go s ms b=(E,none)∧goR u ms (nmb s b)=(E,0)
 | [],b,⟨t,ht⟩=>.inl ⟨b,t,rfl,ht,rfl⟩
 | x :: ms,b,⟨t,ht⟩=>by
  obtain ⟨y,hy,hk⟩:=h.thing hw ht
  rcases hw.ok.kind b t ht with h1 | h1
  ·exact .inr ⟨13,.inr rfl,go_file ht h1 x ms,goR_nd hy (by rw [hk.k,h1]; decide) x ms⟩
  ·have h2:y.k=2:=by rw [hk.k,h1]
   cases hx:t.ns.lookup x with
   | none=>exact .inr ⟨11,.inl rfl,go_none ht h1 hx ms,goR_none hy h2 (hk.hasn hw ht hx) ms⟩
   | some c =>
    rw [go_step ht h1 hx,goR_step hy h2 (hk.has hw ht hx)]
    exact rel_go h hw ms c (hw.ok.live b t x c ht hx)

theorem rel_find {s:Tr} {u:RTr} {r n:Nat} (h:Rel s u) (hw:Wf s r n) (ms:List (List UInt8)) :
  (∃ c t,go s ms r=(0,some c)∧s.T c=some t∧goR u ms 1=(0,nmb s c)) ∨ ∃ E:Int,(E=11 ∨ E=13)∧go s ms r=(E,none)∧goR u ms 1=(E,0):=by
 obtain ⟨t,ht,_⟩:=hw.ok.dir
 have:=rel_go h hw ms r ⟨t,ht⟩
 rw [nmb_root hw] at this
 exact this

theorem rel_plc {s:Tr} {u:RTr} {r n:Nat} (h:Rel s u) (hw:Wf s r n) (ms:List (List UInt8)) :
  (∃ d t x,plc s ms r=(0,some d)∧s.T d=some t∧t.k=2∧paR u ms=(0,nmb s d)∧u.th[nmb s d]?=some x∧Lk s t x) ∨ ∃ E:Int,(E=11 ∨ E=13)∧plc s ms r=(E,none)∧(paR u ms).1=E:=by
 rcases rel_find h hw ms with ⟨c,t,g1,ht,g2⟩ | ⟨E,hE,g1,g2⟩
 ·obtain ⟨x,hx,hk⟩:=h.thing hw ht
  rcases hw.ok.kind c t ht with h1 | h1
  ·refine .inr ⟨13,.inr rfl,?_,?_⟩
   ·unfold plc
    simp [g1,ht,h1]
   ·unfold paR
    rw [g2]
    exact if_pos ⟨rfl,x,hx,by rw [hk.k,h1]; decide⟩
  ·refine .inl ⟨c,t,x,go_plc g1 ht h1,ht,h1,?_,hx,hk⟩
   unfold paR
   rw [g2]
   rw [if_neg]
   rintro ⟨_,y,hy,hne⟩
   rw [hx] at hy
   cases hy
   exact hne (by rw [hk.k,h1])
 ·refine .inr ⟨E,hE,?_,?_⟩
  ·unfold plc
   simp [g1]
  ·unfold paR
   rw [g2]
   exact if_neg (fun q=>by have q1:E=0:=q.1; omega)

theorem nmc_perm {a b:NL} (h:a.Perm b) (i:Nat):nmc a i=nmc b i:=by
 induction h with
 | nil=>rfl
 | cons x _ ih=>rw [nmc_cons,nmc_cons,ih]
 | swap x y l=>rw [nmc_cons,nmc_cons,nmc_cons,nmc_cons]; omega
 | trans _ _ i1 i2=>exact i1.trans i2

theorem nmc_num {s:Tr} {r n b:Nat} {tb:Th} (hw:Wf s r n) (hb:s.T b=some tb):∀ (ns:NS),(∀ e ∈ ns,∃ t,s.T e.2=some t)→nmc (ns.map (nmS s)) (nmb s b)=nmc ns b
 | [],_=>rfl
 | e :: ns,h=>by
  rw [List.map_cons,nmc_cons,nmc_cons,nmc_num hw hb ns (fun e' he=>h e' (List.mem_cons_of_mem _ he))]
  obtain ⟨t,ht⟩:=h e (List.mem_cons_self ..)
  by_cases q:e.2=b
  ·rw [if_pos q,if_pos (show (nmS s e).2=nmb s b by unfold nmS; rw [q])]
  ·rw [if_neg q,if_neg (fun q2:(nmS s e).2=nmb s b=>q (nmb_inj hw ht hb q2))]

theorem lkS_sum (F:Nat→Nat) (i:Nat):∀ (xs:List RT) (row:List (Option Nat)),xs.length=row.length→(∀ (j:Nat) (x:RT) (o:Option Nat),xs[j]?=some x→row[j]?=some o→nmc x.ns i=o.elim 0 F)→lkS xs i=sumR F row
 | [],[],_,_=>rfl
 | [],_ :: _,h,_=>by cases h
 | _ :: _,[],h,_=>by cases h
 | x :: xs,o :: row,h,hp=>by
  have e1:lkS (x :: xs) i=nmc x.ns i + lkS xs i:=by unfold lkS; simp
  rw [e1,lkS_sum F i xs row (by simpa using h) (fun j y p hy hp'=>hp (j + 1) y p (by simpa using hy) (by simpa using hp')),hp 0 x o rfl rfl]
  rfl

theorem Rel.links {s:Tr} {u:RTr} {r n b:Nat} {t:Th} (h:Rel s u) (hw:Wf s r n) (hb:s.T b=some t):lkR u (nmb s b)=s.cnt b:=by
 unfold lkR Tr.cnt
 refine lkS_sum _ _ _ _ h.len (fun j x o hx ho=>?_)
 cases o with
 | none =>
  obtain ⟨y,hy,_,_,e⟩:=h.no j ho
  rw [hx] at hy
  cases hy
  rw [e]
  rfl
 | some d =>
  obtain ⟨td,htd,_⟩:=hw.row j d ho
  obtain ⟨y,hy,hk⟩:=h.yes j d td ho htd
  rw [hx] at hy
  cases hy
  rw [nmc_perm hk.ns,nmc_num hw hb td.ns (fun e he=>(hw.liv d td htd e he).1)]
  show nmc td.ns b=nmc (s.nsOf d) b
  rw [nsOf_some htd]

theorem Rel.op_iff {s:Tr} {u:RTr} {r n b f:Nat} {t:Th} (h:Rel s u) (hw:Wf s r n) (hl:Low s) (hb:s.T b=some t) (hf:f < 16):u.op f=nmb s b ↔ s.opn f=some b:=by
 rw [h.op f hf]
 cases ho:s.opn f with
 | none =>
  refine ⟨fun q=>?_,fun q=>by cases q⟩
  exact absurd q.symm (nmb_pos hw hl hb)
 | some c =>
  obtain ⟨tc,htc,_⟩:=hw.opn f c ho
  refine ⟨fun q=>?_,fun q=>by cases q; rfl⟩
  have:c=b:=nmb_inj hw htc hb q
  rw [this]

theorem Rel.busy {s:Tr} {u:RTr} {r n b:Nat} {t:Th} (h:Rel s u) (hw:Wf s r n) (hl:Low s) (hb:s.T b=some t):bsR u (nmb s b)=s.held b:=by
 unfold bsR Tr.held
 rw [decide_eq_true (nmb_pos hw hl hb),Bool.and_true]
 rw [Bool.eq_iff_iff]
 simp only [List.any_eq_true,List.mem_range,decide_eq_true_eq]
 constructor
 ·rintro ⟨f,hf,e⟩; exact ⟨f,hf,(h.op_iff hw hl hb hf).1 e⟩
 ·rintro ⟨f,hf,e⟩; exact ⟨f,hf,(h.op_iff hw hl hb hf).2 e⟩

theorem Rel.of_none {s:Tr} {u:RTr} {r n f:Nat} (h:Rel s u) (hw:Wf s r n) (hl:Low s) (hf:f < 16):u.op f=0 ↔ s.opn f=none:=by
 rw [h.op f hf]
 cases ho:s.opn f with
 | none=>exact ⟨fun _=>rfl,fun _=>rfl⟩
 | some c =>
  obtain ⟨tc,htc,_⟩:=hw.opn f c ho
  exact ⟨fun q=>absurd q (nmb_pos hw hl htc),fun q=>by cases q⟩

theorem Rel.hnd {s:Tr} {u:RTr} {r n:Nat} (h:Rel s u) (hw:Wf s r n) (hl:Low s) (f:Int):(s.hnd f=none∧ofR u f=0) ∨ ∃ b t x,s.hnd f=some b∧s.T b=some t∧t.k=1∧ofR u f=nmb s b∧ofR u f ≠ 0∧u.th[nmb s b]?=some x∧Lk s t x:=by
 unfold Tr.hnd ofR
 by_cases q:0 ≤ f∧f < 16
 ·rw [if_pos q,if_pos q]
  have h16:f.toNat < 16:=by omega
  cases ho:s.opn f.toNat with
  | none=>exact .inl ⟨rfl,(h.of_none hw hl h16).2 ho⟩
  | some b =>
   obtain ⟨t,ht,h1⟩:=hw.opn _ b ho
   obtain ⟨x,hx,hk⟩:=h.thing hw ht
   have e:=(h.op_iff hw hl ht h16).2 ho
   exact .inr ⟨b,t,x,rfl,ht,h1,e,by rw [e]; exact nmb_pos hw hl ht,hx,hk⟩
 ·rw [if_neg q,if_neg q]
  exact .inl ⟨rfl,rfl⟩

end Go.Proofs.YtknmgefpjdfenaaGreat

/- The tree and the reference's tree, side by side: what calls do to both. -/
namespace Go.Proofs.YtknmgefpjdfenaaGreat
set_option maxRecDepth 100000
set_option maxHeartbeats 8000000
open Go.RowKit Go.Shelf Go.Maps
set_option linter.unusedVariables false

theorem perm_put {z:List UInt8} (b:Nat):∀ {ns:NS},ns.lookup z=none→(putN z b ns).Perm ((z,b) :: ns)
 | [],_=>List.Perm.refl _
 | (y,c) :: r,h=>by
  rw [look_cons] at h
  by_cases q:z=y
  ·rw [if_pos q] at h; cases h
  ·rw [if_neg q] at h
   unfold putN
   by_cases k:bytesBefore z y=true
   ·rw [if_pos k]
   ·rw [if_neg k,if_neg q]
    exact ((perm_put b h).cons _).trans (List.Perm.swap _ _ _)

theorem perm_del {z:List UInt8} {b:Nat}:∀ {ns:NS},Rise ns→ns.lookup z=some b→ns.Perm ((z,b) :: delN z ns)
 | [],_,h=>by cases h
 | (y,c) :: r,hr,h=>by
  have hr':Rise r:=(List.pairwise_cons.1 hr).2
  rw [look_cons] at h
  rw [del_cons]
  by_cases q:z=y
  ·rw [if_pos q] at h
   cases h
   subst q
   rw [if_pos rfl,del_none (tail_none hr)]
  ·rw [if_neg q] at h
   rw [if_neg (fun e=>q e.symm)]
   exact ((perm_del hr' h).cons _).trans (List.Perm.swap _ _ _)

theorem perm_erase {e:List UInt8 × Nat}:∀ {ns:NL} {k:Nat},ns[k]?=some e→ns.Perm (e :: ns.eraseIdx k)
 | [],k,h=>by cases h
 | a :: r,0,h=>by
  simp at h
  subst h
  exact List.Perm.refl _
 | a :: r,k + 1,h=>by
  have h':r[k]?=some e:=by simpa using h
  rw [List.eraseIdx_cons_succ]
  exact ((perm_erase h').cons _).trans (List.Perm.swap _ _ _)

theorem lk_put {s:Tr} {t:Th} {x:RT} {z:List UInt8} {b:Nat} (h:Lk s t x) (hz:t.ns.lookup z=none):(x.ns ++ [(z,nmb s b)]).Perm ((putN z b t.ns).map (nmS s)):=by
 refine List.Perm.trans ?_ ((perm_put b hz).map (nmS s)).symm
 exact (List.perm_append_comm (l₁:=x.ns) (l₂:=[(z,nmb s b)])).trans (h.ns.cons _)

theorem lk_del {s:Tr} {t:Th} {x:RT} {z:List UInt8} {b k:Nat} (h:Lk s t x) (hr:Rise t.ns) (hz:t.ns.lookup z=some b) (hk:x.ns[k]?=some (z,nmb s b)):(x.ns.eraseIdx k).Perm ((delN z t.ns).map (nmS s)):=by
 have h1:=(perm_erase hk).symm.trans (h.ns.trans ((perm_del hr hz).map (nmS s)))
 rw [List.map_cons] at h1
 exact List.Perm.cons_inv h1

theorem nms_congr {s s':Tr} {ns:NS} (h:∀ e ∈ ns,nmb s' e.2=nmb s e.2):ns.map (nmS s')=ns.map (nmS s) :=
 List.map_congr_left (fun e he=>by unfold nmS; rw [h e he])

theorem Lk.like {s s':Tr} {t t':Th} {x:RT} (h:Lk s t x) (h1:t'.k=t.k) (h2:t'.d=t.d) (h3:t'.ns=t.ns) (hn:∀ e ∈ t.ns,nmb s' e.2=nmb s e.2):Lk s' t' x :=
 ⟨by rw [h1,h.k],by rw [h2,h.d],by rw [h3,nms_congr hn]; exact h.ns⟩

theorem Rel.edit {s s':Tr} {u:RTr} {i d:Nat} {x':RT} (h:Rel s u) (hrow:s'.row=s.row) (hm:s'.most=s.most) (ho:s'.opn=s.opn) (hn:∀ c,nmb s' c=nmb s c) (hi:s.row[i]?=some (some d)) (h1:∀ j,s.row[j]?=some (some d)→j=i)
  (hT:∀ c t',s'.T c=some t'→c ≠ d→∃ t,s.T c=some t∧t'.k=t.k∧t'.d=t.d∧t'.ns=t.ns) (hd:∀ t',s'.T d=some t'→Lk s' t' x'):Rel s' (u.put i x'):=by
 have hil:i < u.th.length:=by rw [h.len]; exact (List.getElem?_eq_some_iff.1 hi).1
 have hg:∀ j:Nat,(u.put i x').th[j]?=if i=j then some x' else u.th[j]?:=fun j=>by
  show (u.th.set i x')[j]?=_
  rw [List.getElem?_set]
  by_cases q:i=j
  ·rw [if_pos q,if_pos q,if_pos hil]
  ·rw [if_neg q,if_neg q]
 refine ⟨by rw [hm]; exact h.most,?_,?_,?_,?_⟩
 ·show (u.th.set i x').length=_
  rw [List.length_set,h.len,hrow]
 ·intro j hj
  rw [hrow] at hj
  rw [hg,if_neg (fun e=>by rw [← e,hi] at hj; cases hj)]
  exact h.no j hj
 ·intro j c t' hj ht'
  rw [hrow] at hj
  rw [hg]
  by_cases q:c=d
  ·subst q
   rw [if_pos (h1 j hj).symm]
   exact ⟨x',rfl,hd t' ht'⟩
  ·rw [if_neg (fun e=>by rw [← e,hi] at hj; cases hj; exact q rfl)]
   obtain ⟨t,ht,e1,e2,e3⟩:=hT c t' ht' q
   obtain ⟨x,hx,hk⟩:=h.yes j c t hj ht
   exact ⟨x,hx,hk.like e1 e2 e3 (fun e _=>hn e.2)⟩
 ·intro f hf
  rw [ho]
  show u.op f=_
  rw [h.op f hf]
  cases s.opn f with
  | none=>rfl
  | some b=>exact (hn b).symm

theorem Wf.only {s:Tr} {r n d:Nat} {t:Th} (hw:Wf s r n) (ht:s.T d=some t):s.row[nmb s d]?=some (some d)∧∀ j:Nat,s.row[j]?=some (some d)→j=nmb s d:=by
 have h1:=hw.num d t ht
 rw [nmb_of ht]
 exact ⟨h1,fun j hj=>hw.once hj h1⟩

theorem nmb_upd {s:Tr} {b:Nat} {t t':Th} (ht:s.T b=some t) (hn:t'.n=t.n) (c:Nat):nmb (s.upd b t') c=nmb s c:=by
 unfold nmb
 rw [Tr.upd_T]
 by_cases q:c=b
 ·subst q; rw [if_pos rfl,ht]; exact hn
 ·rw [if_neg q]

theorem Rel.data {s:Tr} {u:RTr} {r n b:Nat} {t:Th} {x:RT} (h:Rel s u) (hw:Wf s r n) (ht:s.T b=some t) (hx:u.th[nmb s b]?=some x) (hk:Lk s t x) (d:List Int) (da da':Option Addr) (dc dc':Nat) :
  Rel (s.upd b { t with d:=d,da:=da,dc:=dc }) (u.put (nmb s b) { x with d:=d,da:=da',dc:=dc' }):=by
 have hn:∀ c,nmb (s.upd b { t with d:=d,da:=da,dc:=dc }) c=nmb s c:=nmb_upd ht rfl
 refine h.edit rfl rfl rfl hn (hw.only ht).1 (hw.only ht).2 (fun c t' hc hne=>?_) (fun t' hc=>?_)
 ·rw [Tr.upd_T,if_neg hne] at hc
  exact ⟨t',hc,rfl,rfl,rfl⟩
 ·rw [Tr.upd_T,if_pos rfl] at hc
  cases hc
  exact ⟨hk.k,rfl,by rw [nms_congr (fun e _=>hn e.2)]; exact hk.ns⟩

theorem Rel.linked {s:Tr} {u:RTr} {r n d y:Nat} {t ty:Th} {x:RT} {z:List UInt8} (h:Rel s u) (hw:Wf s r n) (ht:s.T d=some t) (hx:u.th[nmb s d]?=some x) (hk:Lk s t x) (hy:s.T y=some ty) (hyd:y ≠ d) (hz:t.ns.lookup z=none) (na:Option Addr) (nc:Nat) :
  Rel (s.linked d t z y ty) (u.put (nmb s d) { x with ns:=x.ns ++ [(z,nmb s y)],na:=na,nc:=nc }):=by
 have ht':(s.upd y { ty with l:=ty.l + 1 }).T d=some t:=by rw [Tr.upd_T,if_neg (fun e=>hyd e.symm)]; exact ht
 have hn:∀ c,nmb (s.linked d t z y ty) c=nmb s c:=fun c=>(nmb_upd ht' (t':={ t with ns:=putN z y t.ns }) rfl c).trans (nmb_upd hy (t':={ ty with l:=ty.l + 1 }) rfl c)
 refine h.edit rfl rfl rfl hn (hw.only ht).1 (hw.only ht).2 (fun c t' hc hne=>?_) (fun t' hc=>?_)
 ·unfold Tr.linked at hc
  rw [Tr.upd_T,if_neg hne,Tr.upd_T] at hc
  by_cases q:c=y
  ·subst q
   rw [if_pos rfl] at hc
   cases hc
   exact ⟨ty,hy,rfl,rfl,rfl⟩
  ·rw [if_neg q] at hc
   exact ⟨t',hc,rfl,rfl,rfl⟩
 ·unfold Tr.linked at hc
  rw [Tr.upd_T,if_pos rfl] at hc
  cases hc
  refine ⟨hk.k,hk.d,?_⟩
  rw [nms_congr (fun e _=>hn e.2)]
  exact lk_put hk hz

theorem free_num {s:Tr} {r n f d:Nat} {t:Th} (hw:Wf s r n) (hf:Free s f) (ht:s.T d=some t):nmb s d ≠ f:=by
 intro e
 have:=(hw.only ht).1
 rw [e] at this
 rcases hf.free with q | q <;> rw [q] at this <;> cases this

theorem mk_get {u:RTr} {d f:Nat} (x:RT) (z:List UInt8) (k:Int) (a:Option Addr) (c:Nat) (ta:Option Addr) (tc:Nat) (hd:d < u.th.length) (hf:f ≤ u.th.length) (hdf:d ≠ f) (i:Nat) :
  (mkR u d x z f k a c ta tc).th[i]?=if i=f then some { RT.none with k:=k } else if i=d then some { x with ns:=x.ns ++ [(z,f)],na:=a,nc:=c } else u.th[i]?:=by
 unfold mkR
 show (List.set _ f _)[i]?=_
 rw [List.getElem?_set]
 by_cases q:i=f
 ·subst q
  rw [if_pos rfl,if_pos rfl,if_pos]
  split
  ·rw [List.length_append,List.length_set]; simp; omega
  ·rw [List.length_set]; omega
 ·rw [if_neg (fun e=>q e.symm),if_neg q]
  split
  ·next hfl =>
   by_cases q2:i < u.th.length
   ·rw [List.getElem?_append_left (by rw [List.length_set]; exact q2),List.getElem?_set]
    by_cases q3:i=d
    ·rw [if_pos q3.symm,if_pos hd,if_pos q3]
    ·rw [if_neg (fun e=>q3 e.symm),if_neg q3]
   ·rw [if_neg (by omega),List.getElem?_eq_none (by rw [List.length_append,List.length_set]; simp; omega),List.getElem?_eq_none (by omega)]
  ·rw [List.getElem?_set]
   by_cases q3:i=d
   ·rw [if_pos q3.symm,if_pos hd,if_pos q3]
   ·rw [if_neg (fun e=>q3 e.symm),if_neg q3]

theorem mk_len {u:RTr} {d f:Nat} (x:RT) (z:List UInt8) (k:Int) (a:Option Addr) (c:Nat) (ta:Option Addr) (tc:Nat) (hf:f ≤ u.th.length):(mkR u d x z f k a c ta tc).th.length=max u.th.length (f + 1):=by
 unfold mkR
 show (List.set _ f _).length=_
 rw [List.length_set]
 split
 ·rw [List.length_append,List.length_set]; simp; omega
 ·rw [List.length_set]; omega

theorem Rel.made {s:Tr} {u:RTr} {r n d f b mp:Nat} {t:Th} {x:RT} {z:List UInt8} (h:Rel s u) (hw:Wf s r n) (ht:s.T d=some t) (hx:u.th[nmb s d]?=some x) (hk:Lk s t x) (hz:t.ns.lookup z=none) (hf:Free s f) (hfl:f ≤ s.row.length) (hb:s.T b=none) (k:Int) (ra:Option Addr) (rc:Nat) (a:Option Addr) (c:Nat) (ta:Option Addr) (tc:Nat) :
  Rel (s.made f k d t z b mp ra rc) (mkR u (nmb s d) x z f k a c ta tc):=by
 have hbd:b ≠ d:=fun e=>by rw [e,ht] at hb; cases hb
 have hdf:=free_num hw hf ht
 have hdl:nmb s d < u.th.length:=(List.getElem?_eq_some_iff.1 hx).1
 have hfu:f ≤ u.th.length:=by rw [h.len]; exact hfl
 have hrow:(s.made f k d t z b mp ra rc).row=(pad s.row f).set f (some b):=rfl
 have hn:∀ c,(∃ t,s.T c=some t)→nmb (s.made f k d t z b mp ra rc) c=nmb s c:=by
  rintro c ⟨tc,hc⟩
  unfold nmb
  rw [made_T,hc]
  by_cases q:c=d
  ·subst q
   rw [if_pos rfl]
   rw [ht] at hc
   cases hc
   rfl
  ·rw [if_neg q,if_neg (fun e=>by rw [e,hb] at hc; cases hc)]
 have hnb:nmb (s.made f k d t z b mp ra rc) b=f:=by
  unfold nmb
  rw [made_T,if_neg hbd,if_pos rfl]
  rfl
 have hplen:(pad s.row f).length=max s.row.length (f + 1):=by unfold pad; rw [List.length_append,List.length_replicate]; omega
 refine ⟨h.most,?_,?_,?_,?_⟩
 ·rw [mk_len _ _ _ _ _ _ _ hfu,hrow,List.length_set,hplen,h.len]
 ·intro i hi
  rw [hrow,List.getElem?_set] at hi
  by_cases q:i=f
  ·rw [if_pos q.symm] at hi
   split at hi
   ·cases hi
   ·cases hi
  ·rw [if_neg (fun e=>q e.symm)] at hi
   have hil:i < s.row.length:=by
    have:=(List.getElem?_eq_some_iff.1 hi).1
    rw [hplen] at this
    omega
   have hi2:s.row[i]?=some none:=by
    unfold pad at hi
    rw [List.getElem?_append_left hil] at hi
    exact hi
   rw [mk_get _ _ _ _ _ _ _ hdl hfu hdf,if_neg q,if_neg (fun e=>by rw [e,(hw.only ht).1] at hi2; cases hi2)]
   exact h.no i hi2
 ·intro i c' t' hi hc'
  rw [hrow] at hi
  rw [made_T] at hc'
  rw [mk_get _ _ _ _ _ _ _ hdl hfu hdf]
  rcases (pad_at hf.free b i c').1 hi with ⟨rfl,rfl⟩ | hi
  ·rw [if_neg hbd,if_pos rfl] at hc'
   cases hc'
   rw [if_pos rfl]
   exact ⟨_,rfl,rfl,rfl,List.Perm.refl _⟩
  ·have hif:i ≠ f:=fun e=>by
    rw [e] at hi
    rcases hf.free with q | q <;> rw [q] at hi <;> cases hi
   obtain ⟨tc',htc',hni⟩:=hw.row i c' hi
   rw [if_neg hif]
   have hlive:∀ e ∈ tc'.ns,nmb (s.made f k d t z b mp ra rc) e.2=nmb s e.2:=fun e he=>hn e.2 (hw.liv c' tc' htc' e he).1
   by_cases q:c'=d
   ·subst q
    rw [if_pos rfl] at hc'
    cases hc'
    rw [ht] at htc'
    cases htc'
    rw [if_pos (by rw [nmb_of ht,hni])]
    refine ⟨_,rfl,hk.k,hk.d,?_⟩
    show (x.ns ++ [(z,f)]).Perm ((putN z b t.ns).map (nmS (s.made f k c' t z b mp ra rc)))
    have hk':Lk (s.made f k c' t z b mp ra rc) t x:=hk.like rfl rfl rfl hlive
    have:=lk_put (b:=b) hk' hz
    rw [hnb] at this
    exact this
   ·rw [if_neg q,if_neg (fun e=>by rw [e,hb] at htc'; cases htc')] at hc'
    rw [if_neg (fun e=>q (by have:=(hw.only ht).1; rw [← e,hi] at this; cases this; rfl))]
    obtain ⟨y,hy,hky⟩:=h.yes i c' t' hi hc'
    rw [htc'] at hc'
    cases hc'
    exact ⟨y,hy,hky.like rfl rfl rfl hlive⟩
 ·intro g hg
  show u.op g=(s.opn g).elim 0 _
  rw [h.op g hg]
  cases ho:s.opn g with
  | none=>rfl
  | some c' =>
   obtain ⟨t',ht',_⟩:=hw.opn g c' ho
   exact (hn c' ⟨t',ht'⟩).symm

theorem Low.made {s:Tr} {d f b mp:Nat} {t:Th} {z:List UInt8} {k:Int} {ra:Option Addr} {rc:Nat} (h:Low s) (hf:Free s f) (hfl:f ≤ s.row.length):Low (s.made f k d t z b mp ra rc):=by
 have hrow:(s.made f k d t z b mp ra rc).row=(pad s.row f).set f (some b):=rfl
 have h1:=h.one
 have hle:=hf.le
 have h0:0 < s.row.length:=(List.getElem?_eq_some_iff.1 h.z).1
 refine ⟨?_,?_,?_⟩
 ·rw [hrow,List.getElem?_set,if_neg (by omega)]
  unfold pad
  rw [List.getElem?_append_left h0]
  exact h.z
 ·show 1 ≤ f
  omega
 ·intro i hi hlt
  have hlt:i < f:=hlt
  rw [hrow]
  by_cases q:i < s.least
  ·obtain ⟨c,hc⟩:=h.all i hi q
   exact ⟨c,(pad_at hf.free b i c).2 (.inr hc)⟩
  ·obtain ⟨c,hc⟩:=hf.full i (by omega) hlt
   exact ⟨c,(pad_at hf.free b i c).2 (.inr hc)⟩

theorem Rel.fresh {s:Tr} {u:RTr} {r n f f':Nat} (h:Rel s u) (hw:Wf s r n) (hl:Low s) (hf:Free s f) (hf':FrR u f'):f'=f:=by
 obtain ⟨a1,a2,a3,a4⟩:=hf'
 have h1:=hl.one
 have hle:=hf.le
 have hfull:∀ i:Nat,1 ≤ i→i < f→∃ b,s.row[i]?=some (some b):=fun i hi hlt=>by
  by_cases q:i < s.least
  ·exact hl.all i hi q
  ·exact hf.full i (by omega) hlt
 have hyes:∀ (i b:Nat),s.row[i]?=some (some b)→∃ x,u.th[i]?=some x∧x.k ≠ 0:=fun i b hi=>by
  obtain ⟨t,ht,_⟩:=hw.row i b hi
  obtain ⟨x,hx,hk⟩:=h.yes i b t hi ht
  refine ⟨x,hx,?_⟩
  rw [hk.k]
  rcases hw.ok.kind b t ht with e | e <;> omega
 have hf2:2 ≤ f:=by
  by_cases q:f=1
  ·have:=hw.ok.root
   rw [← q] at this
   rcases hf.free with e | e <;> rw [e] at this <;> cases this
  ·omega
 rcases Nat.lt_trichotomy f' f with q | q | q
 ·exfalso
  obtain ⟨b,hb⟩:=hfull f' (by omega) q
  obtain ⟨x,hx,hne⟩:=hyes f' b hb
  rcases a4 with e | ⟨y,hy,hy0⟩
  ·have:=(List.getElem?_eq_some_iff.1 hx).1
   omega
  ·rw [hx] at hy
   cases hy
   exact hne hy0
 ·exact q
 ·exfalso
  obtain ⟨y,hy,hne⟩:=a3 f hf2 q
  rcases hf.free with e | e
  ·have h2:=(List.getElem?_eq_some_iff.1 hy).1
   rw [h.len] at h2
   rw [List.getElem?_eq_getElem h2] at e
   cases e
  ·obtain ⟨x,hx,h0,_⟩:=h.no f e
   rw [hy] at hx
   cases hx
   exact hne h0

end Go.Proofs.YtknmgefpjdfenaaGreat

/- A name that goes, or moves, in both trees. -/
namespace Go.Proofs.YtknmgefpjdfenaaGreat
set_option maxRecDepth 100000
set_option maxHeartbeats 8000000
open Go.RowKit Go.Shelf Go.Maps
set_option linter.unusedVariables false

theorem put_get {s:RTr} {d:Nat} (t':RT) (hd:d < s.th.length) (i:Nat):(s.put d t').th[i]?=if d=i then some t' else s.th[i]?:=by
 show (s.th.set d _)[i]?=_
 rw [List.getElem?_set]
 by_cases q:d=i
 ·rw [if_pos q,if_pos q,if_pos hd]
 ·rw [if_neg q,if_neg q]

theorem rput_len (s:RTr) (d:Nat) (t':RT):(s.put d t').th.length=s.th.length:=by
 show (s.th.set d _).length=_
 rw [List.length_set]

theorem Rs.plus {s:RTr} (hs:Rs s) {d j:Nat} {t t':RT} {z:List UInt8} (ht:s.th[d]?=some t) (hz:t.ns.lookup z=none) (hj:s.th[j]?=some t') (hl:t.ns.length < 1800000000000) (na:Option Addr) (nc:Nat):Rs (s.put d { t with ns:=t.ns ++ [(z,j)],na:=na,nc:=nc }):=by
 have hd:d < s.th.length:=(List.getElem?_eq_some_iff.1 ht).1
 have hg:=put_get { t with ns:=t.ns ++ [(z,j)],na:=na,nc:=nc } hd
 have hap:ApN (t.ns ++ [(z,j)]):=by
  unfold ApN
  rw [List.pairwise_append]
  refine ⟨hs.ap d t ht,List.pairwise_singleton _ _,fun a ha b hb e=>?_⟩
  rw [List.mem_singleton.1 hb] at e
  have:=nl_look (hs.ap d t ht) ha
  rw [show a.1=z from e,hz] at this
  cases this
 have hlive:∀ i:Nat,(∃ t,s.th[i]?=some t)→∃ t',(s.put d { t with ns:=t.ns ++ [(z,j)],na:=na,nc:=nc }).th[i]?=some t':=fun i ⟨t1,h1⟩=>by
  rw [hg]
  split
  ·exact ⟨_,rfl⟩
  ·exact ⟨t1,h1⟩
 refine ⟨?_,?_,?_,?_,by rw [rput_len]; exact hs.len⟩
 ·obtain ⟨t1,h1,k1⟩:=hs.root
  rw [hg]
  split
  ·next e=>rw [e,h1] at ht; cases ht; exact ⟨_,rfl,k1⟩
  ·exact ⟨t1,h1,k1⟩
 ·intro i t1 h1
  rw [hg] at h1
  split at h1
  ·cases h1; exact hap
  ·exact hs.ap i t1 h1
 ·intro i t1 y c h1 hc
  rw [hg] at h1
  split at h1
  ·cases h1
   rcases List.mem_append.1 (nl_mem hc) with q | q
   ·exact hlive c (hs.live d t y c ht (nl_look (hs.ap d t ht) q))
   ·rw [List.mem_singleton] at q
    cases q
    exact hlive j ⟨t',hj⟩
  ·exact hlive c (hs.live i t1 y c h1 hc)
 ·intro i t1 h1
  rw [hg] at h1
  split at h1
  ·cases h1
   simp
   omega
  ·exact hs.few i t1 h1

theorem goR_plus {s:RTr} (hs:Rs s) {d j:Nat} {t:RT} {z:List UInt8} (ht:s.th[d]?=some t) (na:Option Addr) (nc:Nat) {e:Nat}:∀ (ms:List (List UInt8)) (i:Nat),(∃ t,s.th[i]?=some t)→goR s ms i=(0,e)→goR (s.put d { t with ns:=t.ns ++ [(z,j)],na:=na,nc:=nc }) ms i=(0,e)
 | [],i,_,h=>h
 | x :: r,i,⟨ti,hti⟩,h=>by
  have hdl:d < s.th.length:=(List.getElem?_eq_some_iff.1 ht).1
  by_cases hk:ti.k=2
  ·cases hx:ti.ns.lookup x with
   | none=>rw [goR_none hti hk hx] at h; cases h
   | some c =>
    rw [goR_step hti hk hx] at h
    have ih:=goR_plus hs ht na nc (j:=j) (z:=z) r c (hs.live i ti x c hti hx) h
    by_cases q:d=i
    ·subst q
     rw [ht] at hti
     cases hti
     rw [goR_step (t:={ t with ns:=t.ns ++ [(z,j)],na:=na,nc:=nc }) (by rw [put_get _ hdl,if_pos rfl]) hk (c:=c) (by
      show (t.ns ++ [(z,j)]).lookup x=some c
      rw [List.lookup_append,hx]; rfl)]
     exact ih
    ·rw [goR_step (t:=ti) (by rw [put_get _ hdl,if_neg q]; exact hti) hk hx]
     exact ih
  ·rw [goR_nd hti hk] at h; cases h

theorem paR_plus {s:RTr} (hs:Rs s) {d j i:Nat} {t:RT} {z:List UInt8} (ht:s.th[d]?=some t) (na:Option Addr) (nc:Nat) {ms:List (List UInt8)} {x:RT} (h:goR s ms 1=(0,i)) (hx:s.th[i]?=some x) (hk:x.k=2):paR (s.put d { t with ns:=t.ns ++ [(z,j)],na:=na,nc:=nc }) ms=(0,i):=by
 have hdl:d < s.th.length:=(List.getElem?_eq_some_iff.1 ht).1
 obtain ⟨tr,htr,_⟩:=hs.root
 have e:=goR_plus hs ht na nc (j:=j) (z:=z) ms 1 ⟨tr,htr⟩ h
 unfold paR
 rw [e,if_neg]
 rintro ⟨_,y,hy,hne⟩
 rw [put_get _ hdl] at hy
 split at hy
 ·next q =>
  cases hy
  subst q
  rw [ht] at hx
  cases hx
  exact hne hk
 ·rw [hx] at hy
  cases hy
  exact hne hk

theorem lkS_cons (t:RT) (xs:List RT) (i:Nat):lkS (t :: xs) i=nmc t.ns i + lkS xs i:=by unfold lkS; simp

theorem lkS_set_le (i:Nat) (t':RT):∀ (xs:List RT) (d:Nat),lkS (xs.set d t') i ≤ lkS xs i + nmc t'.ns i
 | [],d=>by unfold lkS; simp
 | a :: r,0=>by rw [List.set_cons_zero,lkS_cons,lkS_cons]; omega
 | a :: r,d + 1=>by
  rw [List.set_cons_succ,lkS_cons,lkS_cons]
  have:=lkS_set_le i t' r d
  omega

theorem lkS_cut {i:Nat} {t t':RT} {e:List UInt8 × Nat} (hp:t.ns.Perm (e :: t'.ns)) (he:e.2=i):∀ (xs:List RT) (d:Nat),xs[d]?=some t→lkS (xs.set d t') i + 1=lkS xs i
 | [],d,h=>by cases h
 | a :: r,0,h=>by
  simp at h
  subst h
  rw [List.set_cons_zero,lkS_cons,lkS_cons,nmc_perm hp,nmc_cons,if_pos he]
  omega
 | a :: r,d + 1,h=>by
  rw [List.set_cons_succ,lkS_cons,lkS_cons]
  have:=lkS_cut hp he r d (by simpa using h)
  omega

theorem cut_le {s:RTr} (hs:Rs s) {d:Nat} {t:RT} (ht:s.th[d]?=some t) (k i:Nat) (a:Option Addr) (c:Nat):lkR (cutR s d t k a c) i ≤ lkR s i + 1800000000000:=by
 have h1:lkR (cutR s d t k a c) i ≤ lkR s i + nmc (t.ns.eraseIdx k) i:=lkS_set_le i { t with ns:=t.ns.eraseIdx k,na:=a,nc:=c } s.th d
 have h2:=nmc_le (t.ns.eraseIdx k) i
 have h3:=(List.eraseIdx_sublist t.ns k).length_le
 have h4:=hs.few d t ht
 omega

theorem Rel.like {s s':Tr} {u:RTr} (h:Rel s u) (hrow:s'.row=s.row) (hm:s'.most=s.most) (ho:s'.opn=s.opn) (hn:∀ c,nmb s' c=nmb s c) (hT:∀ c t',s'.T c=some t'→∃ t,s.T c=some t∧t'.k=t.k∧t'.d=t.d∧t'.ns=t.ns):Rel s' u:=by
 refine ⟨by rw [hm]; exact h.most,by rw [hrow]; exact h.len,by rw [hrow]; exact h.no,?_,?_⟩
 ·intro i b t' hi ht'
  rw [hrow] at hi
  obtain ⟨t,ht,e1,e2,e3⟩:=hT b t' ht'
  obtain ⟨x,hx,hk⟩:=h.yes i b t hi ht
  exact ⟨x,hx,hk.like e1 e2 e3 (fun e _=>hn e.2)⟩
 ·intro f hf
  rw [ho,h.op f hf]
  cases s.opn f with
  | none=>rfl
  | some b=>exact (hn b).symm

theorem Rel.cut {s:Tr} {u:RTr} {r n d x k:Nat} {t:Th} {xd:RT} {z:List UInt8} (h:Rel s u) (hw:Wf s r n) (ht:s.T d=some t) (hc:t.ns.lookup z=some x) (hxd:u.th[nmb s d]?=some xd) (hk:Lk s t xd) (hq:xd.ns[k]?=some (z,nmb s x)) (a:Option Addr) (c:Nat) :
  Rel (s.upd d { t with ns:=delN z t.ns }) (cutR u (nmb s d) xd k a c):=by
 have hn:∀ e,nmb (s.upd d { t with ns:=delN z t.ns }) e=nmb s e:=nmb_upd ht rfl
 refine h.edit rfl rfl rfl hn (hw.only ht).1 (hw.only ht).2 (fun e t' he hne=>?_) (fun t' he=>?_)
 ·rw [Tr.upd_T,if_neg hne] at he
  exact ⟨t',he,rfl,rfl,rfl⟩
 ·rw [Tr.upd_T,if_pos rfl] at he
  cases he
  refine ⟨hk.k,hk.d,?_⟩
  rw [nms_congr (fun e _=>hn e.2)]
  exact lk_del hk (hw.ris d t ht) hc hq

theorem Rel.gone {s:Tr} {u:RTr} {r n d x k:Nat} {t tx:Th} {xd:RT} {z:List UInt8} (h:Rel s u) (hw:Wf s r n) (hn:n ≤ 1700000000000) (ht:s.T d=some t) (hc:t.ns.lookup z=some x) (hx:s.T x=some tx) (hxd:u.th[nmb s d]?=some xd) (hk:Lk s t xd) (hq:xd.ns[k]?=some (z,nmb s x))
  (hwg:Wf (s.gone d t z x tx) r n) (a:Option Addr) (c:Nat):Rel (s.gone d t z x tx) (dpR u (nmb s d) xd k (nmb s x) a c):=by
 have h1:=h.cut hw ht hc hxd hk hq a c
 obtain ⟨q1,q2,q3,q4,q5⟩:=hw.dropable (by omega) ht hc hx
 have hn1:∀ e,nmb (s.upd d { t with ns:=delN z t.ns }) e=nmb s e:=nmb_upd ht rfl
 have hl1:lkR (cutR u (nmb s d) xd k a c) (nmb s x) + 1=lkR u (nmb s x):=lkS_cut (t:=xd) (t':={ xd with ns:=xd.ns.eraseIdx k,na:=a,nc:=c }) (e:=(z,nmb s x)) (perm_erase hq) rfl u.th (nmb s d) hxd
 have hl2:=h.links hw hx
 have hl3:=(hw.lnk x tx hx q4).1
 have hx1:(s.upd d { t with ns:=delN z t.ns }).T x=some tx:=by rw [Tr.upd_T,if_neg (fun e=>q1 e.symm)]; exact hx
 by_cases hl:tx.l=1
 ·have hg:s.gone d t z x tx={ ((s.upd d { t with ns:=delN z t.ns }).less x) with row:=s.row.set tx.n none,least:=min s.least tx.n }:=if_pos hl
  have hd:dpR u (nmb s d) xd k (nmb s x) a c=(cutR u (nmb s d) xd k a c).put (nmb s x) RT.none:=if_pos (by omega)
  have hT:∀ e,(s.gone d t z x tx).T e=if e=x then none else (s.upd d { t with ns:=delN z t.ns }).T e:=fun e=>by rw [hg]; rfl
  have hrow:(s.gone d t z x tx).row=s.row.set (nmb s x) none:=by rw [hg,nmb_of hx]
  have hopn:(s.gone d t z x tx).opn=s.opn:=by rw [hg]; rfl
  have hmost:(s.gone d t z x tx).most=s.most:=by rw [hg]; rfl
  have hnx:∀ e,e ≠ x→nmb (s.gone d t z x tx) e=nmb s e:=fun e he=>by
   rw [← hn1 e]
   unfold nmb
   rw [hT,if_neg he]
  have hxl:nmb s x < (cutR u (nmb s d) xd k a c).th.length:=by rw [h1.len]; show _ < s.row.length; rw [nmb_of hx]; exact q3
  rw [hd]
  refine ⟨by rw [hmost]; exact h1.most,?_,?_,?_,?_⟩
  ·rw [rput_len,h1.len,hrow,List.length_set]
   rfl
  ·intro i hi
   rw [put_get _ hxl]
   by_cases e:nmb s x=i
   ·rw [if_pos e]
    exact ⟨_,rfl,rfl,rfl,rfl⟩
   ·rw [if_neg e]
    rw [hrow,List.getElem?_set,if_neg e] at hi
    exact h1.no i hi
  ·intro i b t' hi hb
   have hbx:b ≠ x:=fun e=>by rw [hT,if_pos e] at hb; cases hb
   rw [hrow,List.getElem?_set] at hi
   by_cases e:nmb s x=i
   ·rw [if_pos e] at hi
    split at hi <;> cases hi
   ·rw [if_neg e] at hi
    have hb0:=hb
    rw [hT,if_neg hbx] at hb
    obtain ⟨y,hy,hky⟩:=h1.yes i b t' hi hb
    rw [put_get _ hxl,if_neg e]
    refine ⟨y,hy,hky.like rfl rfl rfl (fun e he=>?_)⟩
    obtain ⟨te,hte⟩:=(hwg.liv b t' hb0 e he).1
    rw [hnx e.2 (fun q=>by rw [hT,if_pos q] at hte; cases hte),hn1]
  ·intro f hf
   show u.op f=_
   rw [hopn,h.op f hf]
   cases ho:s.opn f with
   | none=>rfl
   | some b =>
    obtain ⟨tb,htb,_⟩:=hwg.opn f b (by rw [hopn]; exact ho)
    exact (hnx b (fun q=>by rw [hT,if_pos q] at htb; cases htb)).symm
 ·have hg:s.gone d t z x tx=(s.upd d { t with ns:=delN z t.ns }).upd x { tx with l:=tx.l - 1 }:=if_neg hl
  have hd:dpR u (nmb s d) xd k (nmb s x) a c=cutR u (nmb s d) xd k a c:=if_neg (by omega)
  rw [hd,hg]
  refine h1.like rfl rfl rfl (nmb_upd hx1 rfl) (fun e t' he=>?_)
  rw [Tr.upd_T] at he
  by_cases q:e=x
  ·subst q
   rw [if_pos rfl] at he
   cases he
   exact ⟨tx,hx1,rfl,rfl,rfl⟩
  ·rw [if_neg q] at he
   exact ⟨t',he,rfl,rfl,rfl⟩

theorem Low.gone {s:Tr} {r n d x:Nat} {t tx:Th} {z:List UInt8} (h:Low s) (hw:Wf s r n) (hx:s.T x=some tx):Low (s.gone d t z x tx):=by
 have hp:=nmb_pos hw h hx
 rw [nmb_of hx] at hp
 by_cases hl:tx.l=1
 ·have hg:s.gone d t z x tx={ ((s.upd d { t with ns:=delN z t.ns }).less x) with row:=s.row.set tx.n none,least:=min s.least tx.n }:=if_pos hl
  rw [hg]
  have h1:=h.one
  refine ⟨?_,?_,?_⟩
  ·show (s.row.set tx.n none)[0]?=_
   rw [List.getElem?_set,if_neg hp]
   exact h.z
  ·show 1 ≤ min s.least tx.n
   omega
  ·intro i hi hlt
   have hlt:i < min s.least tx.n:=hlt
   show ∃ b,(s.row.set tx.n none)[i]?=_
   rw [List.getElem?_set,if_neg (by omega)]
   exact h.all i hi (by omega)
 ·have hg:s.gone d t z x tx=(s.upd d { t with ns:=delN z t.ns }).upd x { tx with l:=tx.l - 1 }:=if_neg hl
  rw [hg]
  exact ⟨h.z,h.one,h.all⟩

theorem Rel.moved {s:Tr} {u:RTr} {r n d d2 x:Nat} {t t2 tx:Th} {xd x2:RT} {z z2:List UInt8} (h:Rel s u) (hw:Wf s r n) (hn:n ≤ 1700000000000) (ht:s.T d=some t) (hc:t.ns.lookup z=some x) (hx:s.T x=some tx) (ht2:s.T d2=some t2) (hc2:t2.ns.lookup z2=none) (hxd:u.th[nmb s d]?=some xd) (hkd:Lk s t xd) (hx2:u.th[nmb s d2]?=some x2) (hk2:Lk s t2 x2)
  (hwm:Wf (s.moved d z d2 z2 x) r n) (na:Option Addr) (nc:Nat) :
  ∃ td,(u.put (nmb s d2) { x2 with ns:=x2.ns ++ [(z2,nmb s x)],na:=na,nc:=nc }).th[nmb s d]?=some td∧td.ns.lookup z=some (nmb s x) ∧
   ∀ k a c,td.ns[k]?=some (z,nmb s x)→Rel (s.moved d z d2 z2 x) (dpR (u.put (nmb s d2) { x2 with ns:=x2.ns ++ [(z2,nmb s x)],na:=na,nc:=nc }) (nmb s d) td k (nmb s x) a c):=by
 have hd2l:nmb s d2 < u.th.length:=(List.getElem?_eq_some_iff.1 hx2).1
 have hn1:∀ e,nmb (s.upd d2 { t2 with ns:=putN z2 x t2.ns }) e=nmb s e:=nmb_upd ht2 rfl
 have h1:Rel (s.upd d2 { t2 with ns:=putN z2 x t2.ns }) (u.put (nmb s d2) { x2 with ns:=x2.ns ++ [(z2,nmb s x)],na:=na,nc:=nc }):=by
  refine h.edit rfl rfl rfl hn1 (hw.only ht2).1 (hw.only ht2).2 (fun e t' he hne=>?_) (fun t' he=>?_)
  ·rw [Tr.upd_T,if_neg hne] at he
   exact ⟨t',he,rfl,rfl,rfl⟩
  ·rw [Tr.upd_T,if_pos rfl] at he
   cases he
   refine ⟨hk2.k,hk2.d,?_⟩
   rw [nms_congr (fun e _=>hn1 e.2)]
   exact lk_put hk2 hc2
 obtain ⟨t1,td,ht1,htd,hkt,hr1,hc1,hns⟩:∃ (t1:Th) (td:RT),(s.upd d2 { t2 with ns:=putN z2 x t2.ns }).T d=some t1∧(u.put (nmb s d2) { x2 with ns:=x2.ns ++ [(z2,nmb s x)],na:=na,nc:=nc }).th[nmb s d]?=some td ∧
   Lk (s.upd d2 { t2 with ns:=putN z2 x t2.ns }) t1 td∧Rise t1.ns∧t1.ns.lookup z=some x∧t1={ t with ns:=if d=d2 then putN z2 x t.ns else t.ns }:=by
  by_cases q:d=d2
  ·subst q
   rw [ht] at ht2
   cases ht2
   have hzz:z ≠ z2:=fun e=>by rw [e,hc2] at hc; cases hc
   refine ⟨{ t with ns:=putN z2 x t.ns },{ x2 with ns:=x2.ns ++ [(z2,nmb s x)],na:=na,nc:=nc },by rw [Tr.upd_T,if_pos rfl],by rw [put_get _ hd2l,if_pos rfl],⟨hk2.k,hk2.d,?_⟩,rise_put _ _ (hw.ris d t ht),(look_put _ _ _ _).trans ((if_neg hzz).trans hc),by rw [if_pos rfl]⟩
   rw [nms_congr (fun e _=>hn1 e.2)]
   exact lk_put hk2 hc2
  ·refine ⟨t,xd,by rw [Tr.upd_T,if_neg q]; exact ht,?_,hkd.like rfl rfl rfl (fun e _=>hn1 e.2),hw.ris d t ht,hc,by rw [if_neg q]⟩
   rw [put_get _ hd2l,if_neg (fun e=>q (nmb_inj hw ht ht2 e.symm))]
   exact hxd
 have hap:ApN td.ns:=(apN_of hr1 _).perm hkt.ns
 have hlt:td.ns.lookup z=some (nmb s x):=by
  refine nl_look hap (hkt.ns.symm.subset (List.mem_map.2 ⟨(z,x),mem_look hc1,?_⟩))
  unfold nmS
  rw [hn1]
 refine ⟨td,htd,hlt,fun k a c hq=>?_⟩
 have hdl:nmb s d < (u.put (nmb s d2) { x2 with ns:=x2.ns ++ [(z2,nmb s x)],na:=na,nc:=nc }).th.length:=(List.getElem?_eq_some_iff.1 htd).1
 have hn2:∀ e,nmb ((s.upd d2 { t2 with ns:=putN z2 x t2.ns }).upd d { t1 with ns:=delN z t1.ns }) e=nmb (s.upd d2 { t2 with ns:=putN z2 x t2.ns }) e:=nmb_upd ht1 rfl
 have h2:Rel ((s.upd d2 { t2 with ns:=putN z2 x t2.ns }).upd d { t1 with ns:=delN z t1.ns }) (cutR (u.put (nmb s d2) { x2 with ns:=x2.ns ++ [(z2,nmb s x)],na:=na,nc:=nc }) (nmb s d) td k a c):=by
  refine h1.edit rfl rfl rfl hn2 (hw.only ht).1 (hw.only ht).2 (fun e t' he hne=>?_) (fun t' he=>?_)
  ·rw [Tr.upd_T,if_neg hne] at he
   exact ⟨t',he,rfl,rfl,rfl⟩
  ·rw [Tr.upd_T,if_pos rfl] at he
   cases he
   refine ⟨hkt.k,hkt.d,?_⟩
   rw [nms_congr (fun e _=>hn2 e.2)]
   exact lk_del (b:=x) hkt hr1 hc1 (by rw [hn1]; exact hq)
 have he:s.moved d z d2 z2 x=(s.upd d2 { t2 with ns:=putN z2 x t2.ns }).upd d { t1 with ns:=delN z t1.ns }:=by
  have hrow:(s.moved d z d2 z2 x).row=s.row∧(s.moved d z d2 z2 x).most=s.most∧(s.moved d z d2 z2 x).ra=s.ra∧(s.moved d z d2 z2 x).rc=s.rc∧(s.moved d z d2 z2 x).least=s.least∧(s.moved d z d2 z2 x).opn=s.opn:=by
   unfold Tr.moved Tr.edit
   split <;> split <;> exact ⟨rfl,rfl,rfl,rfl,rfl,rfl⟩
  obtain ⟨r1,r2,r3,r4,r5,r6⟩:=hrow
  refine Tr.eq r2 r1 r3 r4 r5 r6 (fun e=>?_)
  rw [moved_T ht ht2,Tr.upd_T,Tr.upd_T]
  unfold mvN
  by_cases q:e=d
  ·subst q
   rw [if_pos rfl,ht,hns]
   by_cases q2:e=d2
   ·subst q2
    have hzz:z ≠ z2:=fun e=>by rw [ht] at ht2; cases ht2; rw [e,hc2] at hc; cases hc
    simp only [if_pos]
    rw [Option.map_some]
    congr 2
    refine ns_ext (rise_put _ _ (rise_del _ (hw.ris e t ht))) (rise_del _ (rise_put _ _ (hw.ris e t ht))) (fun y=>?_)
    rw [look_put,look_del,look_del,look_put]
    by_cases y1:y=z2
    ·rw [if_pos y1,if_neg (fun e=>hzz (e.symm.trans y1)),if_pos y1]
    ·rw [if_neg y1,if_neg y1]
   ·rw [if_neg q2,Option.map_some]
    simp [q2]
  ·rw [if_neg q]
   by_cases q2:e=d2
   ·subst q2
    rw [if_pos rfl,ht2,Option.map_some]
    simp [q]
   ·rw [if_neg q2]
    cases hT:s.T e with
    | none=>rfl
    | some te=>simp [q,q2]
 rw [← he] at h2
 have hxm:∃ tx',(s.moved d z d2 z2 x).T x=some tx':=⟨_,by rw [moved_T ht ht2,hx]; rfl⟩
 obtain ⟨tx',htx'⟩:=hxm
 have hl:=h2.links hwm htx'
 have hnx:nmb (s.moved d z d2 z2 x) x=nmb s x:=by rw [he,hn2,hn1]
 rw [hnx] at hl
 have hd2m:(s.moved d z d2 z2 x).T d2=some { t2 with ns:=mvN d z d2 z2 x d2 t2.ns }:=by rw [moved_T ht ht2,ht2]; rfl
 have hnm:=hwm.named hd2m (e:=(z2,x)) (mem_look (by
  show (mvN d z d2 z2 x d2 t2.ns).lookup z2=some x
  rw [mvN_look,if_pos ⟨rfl,rfl⟩]))
 have hdp:dpR (u.put (nmb s d2) { x2 with ns:=x2.ns ++ [(z2,nmb s x)],na:=na,nc:=nc }) (nmb s d) td k (nmb s x) a c=cutR (u.put (nmb s d2) { x2 with ns:=x2.ns ++ [(z2,nmb s x)],na:=na,nc:=nc }) (nmb s d) td k a c:=if_neg (by
  rw [hl]
  have:1 ≤ (s.moved d z d2 z2 x).cnt x:=hnm
  omega)
 rw [hdp]
 exact h2

theorem Low.moved {s:Tr} {d d2 x:Nat} {z z2:List UInt8} (h:Low s):Low (s.moved d z d2 z2 x):=by
 have hr:(s.moved d z d2 z2 x).row=s.row∧(s.moved d z d2 z2 x).least=s.least:=by
  unfold Tr.moved Tr.edit
  split <;> split <;> exact ⟨rfl,rfl⟩
 obtain ⟨h1,h2⟩:=hr
 exact ⟨by rw [h1]; exact h.z,by rw [h2]; exact h.one,by rw [h1,h2]; exact h.all⟩

end Go.Proofs.YtknmgefpjdfenaaGreat

/- skerryref17.Sorted. -/
namespace Go.Proofs.YtknmgefpjdfenaaGreat
set_option maxRecDepth 100000
set_option maxHeartbeats 8000000
open Go.RowKit Go.Shelf Go.Maps
set_option linter.unusedVariables false

theorem rsorted_any {w:World} {B0:Nat} {a:Option Addr} {c:Nat} {ns:NL} (h:OwnN B0 w a c ns) (ha:ApN ns) (hn:ns.length ≤ 1800000000000) :
  Calls Tryz.prog 88 #[.slice a ns.length c] w fun e w'=>∃ a' c' ms,e=.returned (.slice a' ns.length c')∧ms.Perm ns∧Srt ms∧OwnN w.heap.size w' a' c' ms∧Below w.heap.size w w':=by
 have HX:=hide (And.intro h ha)
 have HL:Hid (ns.length=ns.length):=rfl
 have H0:Hid (OwnN w.heap.size w none 0 []∧Below w.heap.size w w∧([]:NL).Perm (ns.take 0)∧Srt []∧([]:NL).length=0):=⟨⟨rfl,.inl ⟨rfl,rfl⟩⟩,Below.refl _ _,by rw [List.take_zero],List.Pairwise.nil,rfl⟩
 clear h ha
 generalize hnl:ns.length=n at *
 have HN:=hide hnl
 clear hnl HL
 go_enter Tryz.func88,Tryz.ntmps88
 go_wp2_with fail
 go_loopw [3,4] (fun mv iv wr=>∃ (i mc:Nat) (ma:Option Addr) (ms:NL),i ≤ n∧mv=.slice ma i mc∧iv=.int .i64 (i:Int)∧Hid (OwnN w.heap.size wr ma mc ms∧Below w.heap.size w wr∧ms.Perm (ns.take i)∧Srt ms∧ms.length=i)) (fun _ iv _=>n - (intOf iv).toNat)
 case atStart=>exact ⟨0,0,none,[],Nat.zero_le _,rfl,rfl,H0⟩
 case round =>
  obtain ⟨i,mc,ma,ms,hin,rfl,rfl,hJ⟩:=hrel
  clear H0
  by_cases hi:i < n
  ·have l1:(i:Int) < (n:Int):=by omega
   have l0:(0:Int) ≤ (i:Int):=by omega
   obtain ⟨e,he⟩:∃ e,ns[i]?=some e:=⟨_,List.getElem?_eq_getElem (by have:=HN.out; omega)⟩
   have hml:=hJ.out.2.2.2.2
   have hA0:=HX.out.1.kept (w':=wr) (fun b eb=>hJ.out.2.1.block b (HX.out.1.at eb).1)
   obtain ⟨nb,rfl,_,n0,n1⟩:=hA0.cell he
   obtain ⟨x,c',w',r,o,bb,_,_,hxl⟩:=hJ.out.1.app hJ.out.2.1.size e (by omega)
   rw [hml] at r
   have R:=hide r
   have hne:∀ b ∈ ms,b.1 ≠ e.1:=fun b hb q=>by
    have h1:b ∈ ns.take i:=hJ.out.2.2.1.subset hb
    have h2:ns=ns.take i ++ ns.drop i:=(List.take_append_drop i ns).symm
    have h3:=HX.out.2
    rw [h2] at h3
    have h4:e ∈ ns.drop i:=by
     rw [List.mem_iff_getElem?]
     exact ⟨0,by rw [List.getElem?_drop,Nat.add_zero]; exact he⟩
    exact (List.pairwise_append.1 h3).2.2 b h1 e h4 q
   have HE:=hide hne
   have HP:Hid ((ms ++ [e]).Perm (ns.take (i + 1))):=by
    unfold Hid
    rw [List.take_add_one,he]
    exact hJ.out.2.2.1.append_right _
   have HS:=hide hJ.out.2.2.2.1
   have HW:=hide (And.intro o (And.intro (hJ.out.2.1.trans bb) hml))
   clear hJ hml hA0 r o bb hne he hxl
   have H1:Hid (∃ A B:NL,A ++ B=ms∧A.length=i∧(∀ b ∈ B,Lib.compareBytes e.1 b.1 < 0)∧OwnN w.heap.size w' (some ⟨x,0,none⟩) c' (A ++ e :: B)∧Below w.heap.size w w'):=⟨ms,[],by simp,HW.out.2.2,fun b hb=>(by cases hb),HW.out.1,HW.out.2.1⟩
   go_wp2_with (at_builtin; refine wpList_append_run 71 rfl _ _ rfl _ _ _ rfl rfl (unhide R) ?_; clear R)
   go_loopw [5] (fun kv wr=>∃ k:Nat,k ≤ i∧kv=.int .i64 (k:Int)∧Hid (∃ A B:NL,A ++ B=ms∧A.length=k∧(∀ b ∈ B,Lib.compareBytes e.1 b.1 < 0)∧OwnN w.heap.size wr (some ⟨x,0,none⟩) c' (A ++ e :: B)∧Below w.heap.size w wr)) (fun kv _=>(intOf kv).toNat)
   case atStart=>exact ⟨i,Nat.le_refl _,rfl,H1⟩
   case round =>
    obtain ⟨k,hki,rfl,hJ⟩:=hrel
    clear H1
    by_cases hk:0 < k
    ·have d1:decide ((k:Int) > 0)=true:=by simp; omega
     obtain ⟨A,B,hAB,hAl,hB,hO,hbw⟩:=hJ.out
     obtain ⟨A',y,rfl⟩:∃ A' y,A=A' ++ [y]:=by
      rcases List.eq_nil_or_concat A with rfl | ⟨A',y,rfl⟩
      ·simp at hAl; omega
      ·exact ⟨A',y,List.concat_eq_append ..⟩
     have hA'l:A'.length + 1=k:=by simpa using hAl
     obtain ⟨K,hK⟩:∃ K:Nat,K=A'.length:=⟨_,rfl⟩
     have hKk:k=K + 1:=by omega
     have hyM:(A' ++ [y] ++ e :: B)[K]?=some y:=by rw [hK]; simp
     have heM:(A' ++ [y] ++ e :: B)[k]?=some e:=by rw [← hA'l]; simp
     obtain ⟨x2,ex,_,y0,y1⟩:=hO.cell hyM
     cases ex
     obtain ⟨x2,ex,_,e0,e1⟩:=hO.cell heM
     cases ex
     obtain ⟨_,_,cur,hcu⟩:=hO.at rfl
     have hyms:y ∈ ms:=by rw [← hAB]; simp
     have hlen:(A' ++ [y] ++ e :: B).length=i + 1:=by
      have:=congrArg List.length hAB
      have h2:=HW.out.2.2
      simp at this ⊢
      omega
     have hw1:IntKind.i64.wrap ((k:Int) - 1)=(K:Int):=by rw [IntKind.wrap_i64]; omega
     have hK0:(0:Int) ≤ (K:Int):=by omega
     have hK1:(K:Int) < ((i + 1:Nat):Int):=by omega
     have hk0:(0:Int) ≤ (k:Int):=by omega
     have hk1:(k:Int) < ((i + 1:Nat):Int):=by omega
     have HT:Hid (y.1 ≠ e.1):=HE.out y hyms
     have HK:=hide hK
     clear hK
     by_cases hgt:Lib.compareBytes y.1 e.1 < 0
     ·have q1:Op.bytesLess (St y.1).toList (St e.1).toList=true:=by
       rw [St_toList,St_toList,← cb_lessS]
       exact decide_eq_true hgt
      have HM:Hid (∀ q,∃ ms',OwnN w.heap.size (wr.drewN q) (some ⟨x,0,none⟩) c' ms'∧Below w.heap.size w (wr.drewN q)∧ms'.Perm (ns.take (i + 1))∧Srt ms'∧ms'.length=i + 1):=by
       refine fun q=>⟨A' ++ [y] ++ e :: B,hO,⟨hbw.os,hbw.tape,hbw.output,hbw.size,hbw.block⟩,?_,srt_ins (by rw [hAB]; exact HS.out) hB (fun z hz=>?_),hlen⟩
       ·refine List.Perm.trans ?_ HP.out
        rw [← hAB]
        exact List.perm_middle.trans (List.perm_append_singleton e _).symm
       ·have:z=y:=by simpa using hz.symm
        subst this
        exact hgt
      clear hJ hAB hAl hB hO hbw hA'l hKk hyM heM hcu hyms hlen hgt HW HX HE HP HS HT
      generalize St y.1=sy at *
      generalize St e.1=se at *
      go_wp2_with fail
      go_quiet (fail)
      go_wp2_with fail
      go_roundw
      case rel =>
       obtain ⟨ms',hq⟩:=HM.out _
       exact ⟨i + 1,c',some ⟨x,0,none⟩,ms',by omega,by go_num,by go_num,hq⟩
      case measure=>simp [intOf]; omega
     ·have hgt2:Lib.compareBytes e.1 y.1 < 0:=by
       have h1:=cb_neg y.1 e.1
       have h2:Lib.compareBytes y.1 e.1 ≠ 0:=fun q=>HT.out (cb_zero q)
       omega
      have q1:Op.bytesLess (St y.1).toList (St e.1).toList=false:=by
       rw [St_toList,St_toList,← cb_lessS]
       exact decide_eq_false hgt
      have q2:((St y.1).toList == (St e.1).toList)=false:=by
       rw [St_toList,St_toList]
       simpa using HT.out
      have hne2:K ≠ k:=by omega
      have hKi:K ≤ i:=by omega
      have hKk2:K < k:=by omega
      have hset:((A' ++ [y] ++ e :: B).set k y).set K e=A' ++ e :: y :: B:=by
       have z1:A' ++ [y] ++ e :: B=A' ++ (y :: e :: B):=by simp
       rw [z1,hKk,HK.out,List.set_append_right _ _ (by omega),List.set_append_right _ _ (by omega)]
       simp
      have heM':∀ z,((A' ++ [y] ++ e :: B).set k z)[K]?=some y:=fun z=>by rw [List.getElem?_set_ne (fun q=>hne2 q.symm)]; exact hyM
      have HM:Hid (∀ u0:World,OwnN w.heap.size u0 (some ⟨x,0,none⟩) c' (A' ++ [y] ++ e :: B)→Below w.heap.size w u0 →
        OwnN w.heap.size ((u0.setCell ⟨x,k * 2,none⟩ (.int .i64 (y.2:Int))).setCell ⟨x,k * 2 + 1,none⟩ (.string (St y.1))) (some ⟨x,0,none⟩) c' ((A' ++ [y] ++ e :: B).set k y)∧Below w.heap.size w ((u0.setCell ⟨x,k * 2,none⟩ (.int .i64 (y.2:Int))).setCell ⟨x,k * 2 + 1,none⟩ (.string (St y.1)))):=fun u0 o b =>
       ⟨o.put heM y,(b.setCell (p:=⟨x,k * 2,none⟩) (o.at rfl).2.1 _).setCell (p:=⟨x,k * 2 + 1,none⟩) (o.at rfl).2.1 _⟩
      have HM2:Hid (∀ u0:World,OwnN w.heap.size u0 (some ⟨x,0,none⟩) c' ((A' ++ [y] ++ e :: B).set k y)→Below w.heap.size w u0 →
        (∃ A B:NL,A ++ B=ms∧A.length=K∧(∀ b ∈ B,Lib.compareBytes e.1 b.1 < 0)∧OwnN w.heap.size ((u0.setCell ⟨x,K * 2,none⟩ (.int .i64 (e.2:Int))).setCell ⟨x,K * 2 + 1,none⟩ (.string (St e.1))) (some ⟨x,0,none⟩) c' (A ++ e :: B)∧Below w.heap.size w ((u0.setCell ⟨x,K * 2,none⟩ (.int .i64 (e.2:Int))).setCell ⟨x,K * 2 + 1,none⟩ (.string (St e.1))))):=fun u0 o b=>by
       refine ⟨A',y :: B,by rw [← hAB]; simp,HK.out.symm,fun b hb=>?_,?_,(b.setCell (p:=⟨x,K * 2,none⟩) (o.at rfl).2.1 _).setCell (p:=⟨x,K * 2 + 1,none⟩) (o.at rfl).2.1 _⟩
       ·rcases List.mem_cons.1 hb with rfl | hb
        ·exact hgt2
        ·exact hB b hb
       ·have:=o.put (heM' y) e
        rw [hset] at this
        exact this
      have HMO:Hid (OwnN w.heap.size wr (some ⟨x,0,none⟩) c' (A' ++ [y] ++ e :: B)∧Below w.heap.size w wr):=⟨hO,hbw⟩
      have HFR:Hid (∀ u0:World,∀ ms',OwnN w.heap.size u0 (some ⟨x,0,none⟩) c' ms'→∀ j,u0.frozen? ⟨x,j,none⟩=false):=fun u0 ms' o j=>by
       obtain ⟨_,_,cur,hcu⟩:=o.at rfl
       simp [World.frozen?,hcu]
      have HC:Hid (∀ u0:World,OwnN w.heap.size u0 (some ⟨x,0,none⟩) c' (A' ++ [y] ++ e :: B)→u0.cell? ⟨x,K * 2,none⟩=some (.int .i64 (y.2:Int))∧u0.cell? ⟨x,K * 2 + 1,none⟩=some (.string (St y.1))∧u0.cell? ⟨x,k * 2,none⟩=some (.int .i64 (e.2:Int))∧u0.cell? ⟨x,k * 2 + 1,none⟩=some (.string (St e.1))):=fun u0 o=>by
       obtain ⟨x2,ex,_,y0,y1⟩:=o.cell hyM
       cases ex
       obtain ⟨x2,ex,_,e0,e1⟩:=o.cell heM
       cases ex
       exact ⟨y0,y1,e0,e1⟩
      have HC2:Hid (∀ u0:World,OwnN w.heap.size u0 (some ⟨x,0,none⟩) c' ((A' ++ [y] ++ e :: B).set k y)→u0.cell? ⟨x,K * 2,none⟩=some (.int .i64 (y.2:Int))∧u0.cell? ⟨x,K * 2 + 1,none⟩=some (.string (St y.1))):=fun u0 o=>by
       obtain ⟨x2,ex,_,y0,y1⟩:=o.cell (heM' y)
       cases ex
       exact ⟨y0,y1⟩
      clear hJ hAB hAl hB hO hbw hA'l hyM heM hcu hyms hlen hgt hgt2 HX HE HP HS HT hset heM' hKk hne2
      generalize A' ++ [y] ++ e :: B=M0 at *
      generalize St y.1=sy at *
      generalize St e.1=se at *
      go_wp2_with fail
      go_quiet (fail)
      have o1:OwnN w.heap.size (wr.drewN nq) (some ⟨x,0,none⟩) c' M0:=HMO.out.1
      have b1:Below w.heap.size w (wr.drewN nq):=⟨HMO.out.2.os,HMO.out.2.tape,HMO.out.2.output,HMO.out.2.size,HMO.out.2.block⟩
      clear y0 y1 e0 e1 HMO
      generalize wr.drewN nq=u0 at *
      obtain ⟨y0,y1,e0,e1⟩:=HC.out u0 o1
      go_upto_region 9 with fail
      change Code.wp _ _ _ _ (u0.alloc (.cells #[.int .i64 (e.2:Int),.string se] 120))
      have hbl:=Bl.new u0 #[.int .i64 (e.2:Int),.string se] 120
      have hba:Below u0.heap.size u0 (u0.alloc (.cells #[.int .i64 (e.2:Int),.string se] 120)):=(Below.refl _ u0).alloc (Nat.le_refl _) _
      have hxu:=(o1.at rfl).1
      have o2:OwnN w.heap.size (u0.alloc (.cells #[.int .i64 (e.2:Int),.string se] 120)) (some ⟨x,0,none⟩) c' M0:=o1.kept (fun b eb=>hba.block b (o1.at eb).1)
      have b2:=b1.trans (hba.mono b1.size)
      have hmx:u0.heap.size ≠ x:=by omega
      clear y0 y1 e0 e1 o1 b1 hba hxu
      generalize u0.alloc (.cells #[.int .i64 (e.2:Int),.string se] 120)=u1 at *
      generalize u0.heap.size=m6 at *
      obtain ⟨y0,y1,e0,e1⟩:=HC.out u1 o2
      have fz:=HFR.out u1 _ o2
      obtain ⟨o3,b3⟩:=HM.out u1 o2 b2
      have hb3:Bl ((u1.setCell ⟨x,k * 2,none⟩ (.int .i64 (y.2:Int))).setCell ⟨x,k * 2 + 1,none⟩ (.string sy)) m6 #[.int .i64 (e.2:Int),.string se] 120:=(Bl.other (Bl.other hbl _ _ hmx) _ _ hmx)
      clear o2 b2 hbl
      go_upto_region 10 with fail
      change Code.wp _ _ _ _ ((u1.setCell ⟨x,k * 2,none⟩ (.int .i64 (y.2:Int))).setCell ⟨x,k * 2 + 1,none⟩ (.string sy))
      clear y0 y1 e0 e1 fz
      generalize (u1.setCell ⟨x,k * 2,none⟩ (.int .i64 (y.2:Int))).setCell ⟨x,k * 2 + 1,none⟩ (.string sy)=u2 at *
      obtain ⟨y0,y1⟩:=HC2.out u2 o3
      have fz:=HFR.out u2 _ o3
      have z0:=hb3.cell 0 _ rfl
      have z1:=hb3.cell 1 _ rfl
      have HR:=hide (HM2.out u2 o3 b3)
      clear o3 b3 hb3 HC HC2 HFR HM HM2
      go_wp2_with fail
      go_roundw
      case rel=>exact ⟨K,by omega,by go_num,HR.out⟩
      case measure=>simp [intOf]; omega
    ·obtain rfl:k=0:=by omega
     have HM:Hid (∀ q,∃ ms',OwnN w.heap.size (wr.drewN q) (some ⟨x,0,none⟩) c' ms'∧Below w.heap.size w (wr.drewN q)∧ms'.Perm (ns.take (i + 1))∧Srt ms'∧ms'.length=i + 1):=by
      obtain ⟨A,B,hAB,hAl,hB,hO,hbw⟩:=hJ.out
      obtain rfl:A=[]:=List.eq_nil_of_length_eq_zero hAl
      rw [List.nil_append] at hAB hO
      subst hAB
      refine fun q=>⟨e :: B,hO,⟨hbw.os,hbw.tape,hbw.output,hbw.size,hbw.block⟩,(List.perm_append_singleton e B).symm.trans HP.out,srt_ins (A:=[]) HS.out hB (fun z hz=>by cases hz),?_⟩
      have:=HW.out.2.2
      simp
      omega
     clear hJ HW HX HE HP HS
     go_wp2_with fail
     go_quiet (fail)
     go_wp2_with fail
     go_roundw
     case rel =>
      obtain ⟨ms',hq⟩:=HM.out _
      exact ⟨i + 1,c',some ⟨x,0,none⟩,ms',by omega,by go_num,by go_num,hq⟩
     case measure=>simp [intOf]; omega
  ·obtain rfl:i=n:=by omega
   have d9:decide ((i:Int) < (i:Int))=false:=by simp
   go_wp2_with fail
   go_ret
   obtain ⟨h1,h2,h3,h4,h5⟩:=hJ.out
   refine ⟨ma,mc,ms,rfl,?_,h4,h1,h2⟩
   rw [List.take_of_length_le (by have:=HN.out; omega)] at h3
   exact h3

end Go.Proofs.YtknmgefpjdfenaaGreat

/- The reference's fits. -/
namespace Go.Proofs.YtknmgefpjdfenaaGreat
set_option maxRecDepth 100000
set_option maxHeartbeats 8000000
open Go.RowKit Go.Shelf Go.Maps
set_option linter.unusedVariables false

theorem spl_all {L:List (List UInt8)} (h:∀ x ∈ L,nmB x=true):(spl (jn L)).isSome=okN L:=by
 cases ho:okN L with
 | true=>rw [spl_jn ho]; rfl
 | false =>
  cases hs:spl (jn L) with
  | none=>rfl
  | some ns =>
   obtain ⟨h1,_,h3⟩:=spl_some hs
   rw [nms_jn h] at h3
   rw [← h3,ho] at h1
   cases h1

theorem appS_first {w v:World} {L:List (List UInt8)} {a:Option Addr} (c:Nat) (hx:HasS w a L.length L) (hL:L.length ≤ 1000) (hb:Below w.heap.size w v) {d:Nat} (hd:v.heap[d]?=some (.cells #[] 9 (0,0))) (hwd:w.heap.size ≤ d) :
  ∃ a1 c1 u1,(∀ ty,(Builtin.append_ #[103,103] ty #[.slice (some ⟨d,0,none⟩) 0 0,.slice a L.length c]).run Tryz.prog v=.ok (.slice a1 L.length c1) u1)∧OwnS w.heap.size u1 a1 L.length c1 L∧Below w.heap.size w u1∧v.heap.size ≤ u1.heap.size∧(∀ k,k < v.heap.size→k ≠ d→u1.heap[k]?=v.heap[k]?):=by
 have hO:OwnS w.heap.size v (some ⟨d,0,none⟩) 0 0 []:=⟨rfl,Nat.le_refl _,by unfold maxLen; omega,.inr ⟨d,#[],rfl,hwd,hd,rfl,rfl⟩⟩
 obtain ⟨a1,c1,u1,r1,o1,k1,b1⟩:=run_appS hO hb.size (m:=L.length) c (hx.below hb (Nat.le_refl _)) (by omega)
 rw [Nat.zero_add] at r1 o1
 exact ⟨a1,c1,u1,r1,by simpa using o1,hb.trans b1,b1.size,fun k hk hne=>k1 k hk (fun g e=>by cases e; exact hne)⟩

theorem hasS_one {v:World} {d:Nat} {y:List UInt8} (h:v.heap[d]?=some (.cells #[.string (St y)] 9 (0,0))):HasS v (some ⟨d,0,none⟩) 1 [y]:=by
 refine ⟨rfl,fun _=>⟨d,0,rfl,(Array.getElem?_eq_some_iff.1 h).1,fun j hj=>?_⟩⟩
 obtain rfl:j=0:=by omega
 simp only [World.cell?,h]
 rfl

theorem step_appA {w0 v:World} {ops:Array Oper} {o:Oper} {a:Act} {K':Act→World→Prop} {Q:Exit→Act→World→Prop} {E:Prop} (hw:Region.wanted o (yielded ops a.tmps)=true) (d s:Operand)
  (ho:o.op=.call { callee:=.builtin .append,args:=#[d,s],argTypes:=#[103,103] }) {dd n c:Nat} {aa:Option Addr} {L:List (List UInt8)} (hl:L.length=n) (hL:n ≤ 1000) (hd:a.eval d=.slice (some ⟨dd,0,none⟩) 0 0) (hs:a.eval s=.slice aa n c)
  (hX:HasS w0 aa n L) (hB:Below w0.heap.size w0 v) (hh:v.heap[dd]?=some (.cells #[] 9 (0,0))) (hwd:w0.heap.size ≤ dd)
  (h:∀ a1 c1 u1,OwnS w0.heap.size u1 a1 n c1 L→Below w0.heap.size w0 u1→(∀ k,k < v.heap.size→k ≠ dd→u1.heap[k]?=v.heap[k]?)→K' (a.put o.dst (.slice a1 n c1)) u1):if Region.wanted o (yielded ops a.tmps)=true then Oper.wp Tryz.prog o a v K' Q else E:=by
 subst hl
 obtain ⟨a1,c1,u1,r1,o1,b1,_,k1⟩:=appS_first (w:=w0) (v:=v) c hX hL hB hh hwd
 exact step_app_run hw d s _ ho _ _ _ hd hs r1 (h a1 c1 u1 o1 b1 k1)

theorem step_appB {B:Nat} {v:World} {ops:Array Oper} {o:Oper} {a:Act} {K':Act→World→Prop} {Q:Exit→Act→World→Prop} {E:Prop} (hw:Region.wanted o (yielded ops a.tmps)=true) (d s:Operand)
  (ho:o.op=.call { callee:=.builtin .append,args:=#[d,s],argTypes:=#[103,103] }) {d2 n c1:Nat} {a1:Option Addr} {L:List (List UInt8)} {y:List UInt8} (hL:n ≤ 1000) (hd:a.eval d=.slice a1 n c1) (hs:a.eval s=.slice (some ⟨d2,0,none⟩) 1 1)
  (hO:OwnS B v a1 n c1 L) (hB:B ≤ v.heap.size) (hh:v.heap[d2]?=some (.cells #[.string (St y)] 9 (0,0)))
  (h:∀ a2 c2 u2,HasS u2 a2 (n + 1) (L ++ [y])→Below B v u2→K' (a.put o.dst (.slice a2 (n + 1) c2)) u2):if Region.wanted o (yielded ops a.tmps)=true then Oper.wp Tryz.prog o a v K' Q else E:=by
 obtain ⟨a2,c2,u2,r2,o2,_,b2⟩:=run_appS hO hB 1 (hasS_one hh) (by omega)
 exact step_app_run hw d s _ ho _ _ _ hd hs r2 (h a2 c2 u2 o2.has b2)

theorem heap_lastd (w:World) (o:Obj):(w.alloc o).drew.heap[w.heap.size]?=some o:=World.alloc_heap_new _ _
theorem heap_secd (w:World) (o o2:Obj):((w.alloc o).alloc o2).drew.heap[w.heap.size]?=some o:=by
 show ((w.alloc o).alloc o2).heap[w.heap.size]?=some o
 exact (((Below.refl (w.alloc o).heap.size (w.alloc o)).alloc (Nat.le_refl _) o2).block w.heap.size (by simp)).trans (World.alloc_heap_new _ _)
theorem heap_fstd (w:World) (o o2:Obj):((w.alloc o).alloc o2).drew.heap[w.heap.size + 1]?=some o2:=by
 show ((w.alloc o).alloc o2).heap[w.heap.size + 1]?=some o2
 have:=World.alloc_heap_new (w.alloc o) o2
 rwa [show (w.alloc o).heap.size=w.heap.size + 1 by simp] at this

theorem rfits_rel {S : Nat → Prop} {g : Nat} {s : Tr} {u : RTr} {r nn : Nat} {rk : Nat → Nat} (h : Rel s u) (hw : Wf s r nn) (hnn : nn ≤ 1700000000000) (hdp : Deep s rk) (m : Nat) : ∀ (b : Nat) (L : List (List UInt8)) (w : World) (a : Option Addr) (c : Nat) (t : Th), s.T b = some t → rk b < m → SM w S g u → HasS w a L.length L → L.length ≤ 17 →
    (∀ x ∈ L, nmB x = true) → (∀ ys e, go s ys b = (0, some e) → ∀ y ∈ ys, nmB y = true) →
    Calls Tryz.prog 79 #[.pointer (some ⟨g, 0, none⟩), .slice a L.length c, .int .i64 (nmb s b : Int)] w fun e w' => e = .returned (.bool (fitsB s m (jn L) b)) ∧ Below w.heap.size w w' := by
  have hs := h.rs hw hnn
  induction m with
  | zero => intro b L w a c t _ q; omega
  | succ m IH =>
    intro b L w a c t ht hrk hT hx hL hn hd
    obtain ⟨x, hxx, hk⟩ := h.thing hw ht
    have hfb := fitsB_some ht m (jn L)
    rw [spl_all hn] at hfb
    have KJ := rjoin_any a L.length c L w hx (by omega) (fun j => by
      cases hj : L[j]? with
      | none => simp
      | some y => have := (nmB_len (hn y (List.mem_of_getElem? hj))).2; simp; omega)
    unfold jnE at KJ
    cases ho : okN L with
    | false =>
      rw [ho] at KJ hfb
      rw [Bool.false_and] at hfb
      rw [if_neg (by decide : ¬ (false = true))] at KJ
      have K := hide KJ
      have HF := hide hfb
      clear h hw hs hdp IH ht hrk hT hx hL hn hd hxx hk hfb KJ ho
      generalize jnV L = v at *
      generalize L.length = nl at *
      go_enter Tryz.func79, Tryz.ntmps79
      go_wp2_with fail
      refine (unhide K).mono ?_
      rintro e w1 ⟨rfl, hb⟩
      have HB := hide hb
      clear K hb
      go_wp2_with fail
      go_ret
      exact ⟨by rw [HF.out]; rfl, HB.out⟩
    | true =>
      rw [ho] at KJ hfb
      rw [Bool.true_and] at hfb
      rw [if_pos rfl] at KJ
      have h16 := ((okN_iff L).1 ho).1
      have K := hide KJ
      have HF := hide hfb
      have hxl := hs.few _ x hxx
      have hul := hs.len
      have hil : nmb s b < u.th.length := (List.getElem?_eq_some_iff.1 hxx).1
      have hi0 : (0 : Int) ≤ (nmb s b : Int) := by omega
      have hil' : (nmb s b : Int) < (u.th.length : Int) := by omega
      have HXX := hide hxx
      have HT := hide hT
      have HX := hide hx
      -- a child of number k
      have KC : Hid (∀ (k : Nat) (e : List UInt8 × Nat), x.ns[k]? = some e → ∃ e0 ∈ t.ns, e = nmS s e0 ∧ nmB e.1 = true ∧ e.2 < u.th.length ∧ ∀ (v : World) (a2 : Option Addr) (c2 : Nat), SM v S g u → HasS v a2 (L.length + 1) (L ++ [e.1]) →
          Calls Tryz.prog 79 #[.pointer (some ⟨g, 0, none⟩), .slice a2 (L.length + 1) c2, .int .i64 (e.2 : Int)] v fun e' w' => e' = .returned (.bool (fitsB s m (subP (jn L) e.1) e0.2)) ∧ Below v.heap.size v w') := by
        intro k e he
        obtain ⟨e0, he0, hq⟩ := List.mem_map.1 (hk.ns.subset (List.mem_of_getElem? he))
        obtain ⟨t', ht'⟩ := (hw.liv b t ht e0 he0).1
        have h2 := hw.kind2 ht he0
        have hgo : ∀ ys, go s (e0.1 :: ys) b = go s ys e0.2 := fun ys => go_step ht h2 (look_mem (hw.ris b t ht) he0) ys
        have hnb : nmB e0.1 = true := hd [e0.1] e0.2 (by rw [hgo]; rfl) e0.1 (by simp)
        obtain ⟨y, hy, _⟩ := h.thing hw ht'
        subst hq
        refine ⟨e0, he0, rfl, hnb, (List.getElem?_eq_some_iff.1 hy).1, fun v a2 c2 hv hh => ?_⟩
        have hlen : (L ++ [e0.1]).length = L.length + 1 := by simp
        have := IH e0.2 (L ++ [e0.1]) v a2 c2 t' ht' (by have := (hdp.live b t ht e0 he0).2.2; omega) hv (by rw [hlen]; exact hh) (by rw [hlen]; omega) (fun z hz => by
          rcases List.mem_append.1 hz with q | q
          · exact hn z q
          · rw [List.mem_singleton.1 q]; exact hnb) (fun ys c hg z hz => hd (e0.1 :: ys) c (by rw [hgo]; exact hg) z (List.mem_cons_of_mem _ hz))
        rw [hlen] at this
        rw [show subP (jn L) (nmS s e0).1 = jn (L ++ [e0.1]) from sub_jn ho]
        exact this
      have HE : Hid (∀ e0 ∈ t.ns, ∃ k : Nat, k < x.ns.length ∧ x.ns[k]? = some (nmS s e0)) := fun e0 he0 => by
        obtain ⟨k, hk2⟩ := List.getElem?_of_mem (hk.ns.symm.subset (List.mem_map.2 ⟨e0, he0, rfl⟩))
        exact ⟨k, (List.getElem?_eq_some_iff.1 hk2).1, hk2⟩
      have HU : Hid (∀ e0 ∈ t.ns, ∀ e1 ∈ t.ns, nmS s e0 = nmS s e1 → e0 = e1) := fun e0 h0 e1 h1 q => by
        have q1 : e0.1 = e1.1 := (congrArg Prod.fst q : (nmS s e0).1 = (nmS s e1).1)
        have := look_mem (hw.ris b t ht) h0
        rw [q1, look_mem (hw.ris b t ht) h1] at this
        exact Prod.ext q1 (Option.some.inj this).symm
      clear h hw hs hdp IH ht hrk hT hx hn hd hxx hk hfb KJ ho
      have H0 : Hid (∀ j : Nat, j < 0 → ∀ e0 ∈ t.ns, x.ns[j]? = some (nmS s e0) → fitsB s m (subP (jn L) e0.1) e0.2 = true) := fun j hj => by omega
      generalize hnl : x.ns.length = n at *
      generalize hll : L.length = ll at *
      generalize hul2 : u.th.length = ul at *
      have HNL := hide hnl
      have HLL := hide hll
      have HUL := hide hul2
      clear hnl hll hul2
      generalize nmb s b = i at *
      go_enter Tryz.func79, Tryz.ntmps79
      go_wp2_with fail
      refine (unhide K).mono ?_
      rintro e w1 ⟨rfl, hb⟩
      have HB : Hid (Below w.heap.size w w1) := hb
      clear K hb
      go_wp2_with fail
      go_loopw [9] (fun iv wr => ∃ k : Nat, k ≤ n ∧ iv = .int .i64 (k : Int) ∧ Hid (Below w.heap.size w wr) ∧ Hid (∀ j : Nat, j < k → ∀ e0 ∈ t.ns, x.ns[j]? = some (nmS s e0) → fitsB s m (subP (jn L) e0.1) e0.2 = true)) (fun iv _ => (n : Int).toNat - (intOf iv).toNat)
      case atStart => exact ⟨0, Nat.zero_le _, rfl, HB, H0⟩
      case round =>
        obtain ⟨k, hkn, rfl, hJB, hJ⟩ := hrel
        clear H0 HB
        have hT := HT.out.below hJB.out
        obtain ⟨_, g1, _⟩ := hT.cells
        obtain ⟨rb, era, _, t0, _, t2, _⟩ := hT.row.cell HXX.out
        rw [era, HUL.out] at g1
        rw [HNL.out] at t2
        by_cases hlt : k < n
        · obtain ⟨e, he⟩ : ∃ e, x.ns[k]? = some e := ⟨_, List.getElem?_eq_getElem (by have := HNL.out; omega)⟩
          obtain ⟨e0, he0, hq, hnb, hel, hC⟩ := KC.out k e he
          obtain ⟨nb, ena, _, n0, n1⟩ := (hT.nam i x HXX.out).cell he
          rw [ena] at t2
          have l0 : (0 : Int) ≤ (k : Int) := by omega
          have l1 : (k : Int) < (n : Int) := by omega
          have HQ := hide (And.intro he (And.intro he0 hq))
          clear he he0 hq
          have hb1 : Below wr.heap.size wr (wr.alloc (.cells #[.int .i64 (e.2 : Int), .string (St e.1)] 120)) := (Below.refl _ wr).alloc (Nat.le_refl _) _
          have hl8 := Bl.new wr #[.int .i64 (e.2 : Int), .string (St e.1)] 120
          have hB8 := hJB.out.trans (hb1.mono hJB.out.size)
          go_upto_region 8 with fail
          change Code.wp _ _ _ _ (wr.alloc (.cells #[.int .i64 (e.2 : Int), .string (St e.1)] 120))
          clear hT ena g1 t0 t2 n0 n1 hb1 hJB
          generalize wr.alloc (.cells #[.int .i64 (e.2 : Int), .string (St e.1)] 120) = w8 at *
          generalize wr.heap.size = m8 at *
          have hm8 := hl8.lt
          have hX8 : HasS w8 a ll L := HX.out.below hB8 (Nat.le_refl _)
          have HX8 := hide hX8
          have hL1 : ll ≤ 1000 := by omega
          have hT8 := HT.out.below hB8
          have KR : Hid (∀ v a2 c2, Below w8.heap.size w8 v → HasS v a2 (ll + 1) (L ++ [e.1]) → Calls Tryz.prog 79 #[.pointer (some ⟨g, 0, none⟩), .slice a2 (ll + 1) c2, .int .i64 (e.2 : Int)] v fun e' w' => e' = .returned (.bool (fitsB s m (subP (jn L) e.1) e0.2)) ∧ Below v.heap.size v w') := fun v a2 c2 hv hh => hC v a2 c2 (hT8.below hv) hh
          have n0 := hl8.cell 0 _ rfl
          have n1 := hl8.cell 1 _ rfl
          have hu : Hid (∀ v, Below w8.heap.size w8 v → Hid (Below w8.heap.size w8 v) ∧ v.cell? ⟨m8, 0, none⟩ = some (.int .i64 (e.2 : Int)) ∧ v.cell? ⟨m8, 1, none⟩ = some (.string (St e.1))) := fun v hv => ⟨hv, (hv.cell (p := ⟨m8, 0, none⟩) hm8).trans n0, (hv.cell (p := ⟨m8, 1, none⟩) hm8).trans n1⟩
          have J := hu.out w8.drew (bd1 (Below.refl _ _))
          have A0 : Hid (∀ o, Below w8.heap.size w8 (w8.alloc o).drew) := fun o => bd1 (bal (Below.refl _ _) (Nat.le_refl _) o)
          have A1 : Hid (∀ o o2, Below w8.heap.size w8 ((w8.alloc o).alloc o2).drew) := fun o o2 => bd1 (bal (bal (Below.refl _ _) (Nat.le_refl _) o) (by simp) o2)
          have hwB := hide hB8
          clear n0 n1 hT8 hX8 hl8 hB8 hC hm8 hel
          have HNo : Hid (fitsB s m (subP (jn L) e.1) e0.2 = false → fitsB s (m + 1) (jn L) b = false) := fun hf => by
            obtain ⟨_, q2, q3⟩ := HQ.out
            rw [HF.out, Bool.eq_false_iff]
            intro hall
            have := List.all_eq_true.1 hall e0 q2
            rw [q3] at hf
            rw [show (nmS s e0).1 = e0.1 from rfl, this] at hf
            cases hf
          have HYes : Hid (fitsB s m (subP (jn L) e.1) e0.2 = true → ∀ j : Nat, j < k + 1 → ∀ e1 ∈ t.ns, x.ns[j]? = some (nmS s e1) → fitsB s m (subP (jn L) e1.1) e1.2 = true) := fun hf j hj e1 h1 hx1 => by
            obtain ⟨q1, q2, q3⟩ := HQ.out
            by_cases qj : j = k
            · rw [qj, q1, q3] at hx1
              have := HU.out e0 q2 e1 h1 (Option.some.inj hx1)
              rw [← this]
              rw [q3] at hf
              exact hf
            · exact hJ.out j (by omega) e1 h1 hx1
          generalize fitsB s m (subP (jn L) e.1) e0.2 = qb at *
          go_region_held3 (fun v => Hid (Below w8.heap.size w8 v) ∧ v.cell? ⟨m8, 0, none⟩ = some (.int .i64 (e.2 : Int)) ∧ v.cell? ⟨m8, 1, none⟩ = some (.string (St e.1)))
            (with_reducible (first | exact J | exact unhide hu _ (unhide A0 _) | exact unhide hu _ (unhide A1 _ _) | exact unhide hu _ (unhide Q1) | exact unhide hu _ (bal (unhide Q1) (Nat.le_refl _) _) | exact unhide hu _ (unhide Q2) | exact unhide hu _ (unhide Q3)))
            (first
              | (refine step_appA (w0 := w8) (by rfl) _ _ (by rfl) (unhide HLL) hL1 (by rfl) (by rfl) (unhide HX8) (by with_reducible (first | exact unhide A0 _ | exact unhide A1 _ _)) (by first | exact heap_lastd w8 _ | exact heap_secd w8 (.cells #[] 9) _ | exact heap_fstd w8 _ (.cells #[] 9)) (by first | exact Nat.le_refl _ | exact Nat.le_succ _) ?_; intro a1 c1 u1 o1 b1 k1
                 have O1 := hide o1
                 have Q1 := hide b1
                 (first
                   | have Z1 : u1.heap[w8.heap.size + 1]? = some (.cells #[.string (St e.1)] 9 (0, 0)) := (k1 (w8.heap.size + 1) (by simp) (by omega)).trans (heap_fstd w8 (.cells #[] 9) (.cells #[.string (St e.1)] 9))
                   | have Z1 : u1.heap[w8.heap.size]? = some (.cells #[.string (St e.1)] 9 (0, 0)) := (k1 w8.heap.size (by simp; omega) (by omega)).trans (heap_secd w8 (.cells #[.string (St e.1)] 9) (.cells #[] 9))
                   | skip)
                 clear o1 b1 k1)
              | (refine step_appB (B := w8.heap.size) (by rfl) _ _ (by rfl) hL1 (by rfl) (by rfl) (unhide O1) (unhide Q1).size Z1 ?_; intro a2 c2 u2 o2 b2
                 have O2 := hide o2
                 have Q2 := hide ((unhide Q1).trans b2)
                 clear o2 b2)
              | (refine step_appB (B := w8.heap.size) (y := e.1) (by rfl) _ _ (by rfl) hL1 (by rfl) (by rfl) ((unhide O1).below ((Below.refl _ _).alloc (Nat.le_refl _) _) (Nat.le_refl _)) (bal (unhide Q1) (Nat.le_refl _) _).size (World.alloc_heap_new _ _) ?_; intro a2 c2 u2 o2 b2
                 have O2 := hide o2
                 have Q2 := hide ((bal (unhide Q1) (Nat.le_refl _) _).trans b2)
                 clear o2 b2)
              | (go_at_call 79; refine (unhide KR _ _ _ (unhide Q2) (unhide O2)).mono ?_; rintro e' w' ⟨rfl, hb⟩
                 have Q3 : Hid (Below w8.heap.size w8 w') := (unhide Q2).trans (hb.mono (unhide Q2).size)
                 clear hb))
          all_goals
            have HBF := hide ((unhide hwB).trans ((unhide Q3).mono (unhide hwB).size))
            clear J hu A0 A1 KR HX8 hwB Q3 Q2 Q1 O1 O2
            try clear Z1
            cases qb with
            | false =>
              have HN := hide (HNo.out rfl)
              clear HNo HYes HQ hJ
              go_wp2_with fail
              go_ret
              exact ⟨by rw [HN.out]; rfl, HBF.out⟩
            | true =>
              have HN := hide (HYes.out rfl)
              clear HNo HYes HQ hJ
              go_wp2_with fail
              go_roundw
              case rel => exact ⟨k + 1, by omega, by go_num, HBF, HN⟩
              case measure => simp [intOf]; omega
        · obtain rfl : k = n := by omega
          have HR : Hid (fitsB s (m + 1) (jn L) b = true) := by
            rw [HF.out, Hid]
            exact List.all_eq_true.2 (fun e0 he0 => by
              obtain ⟨j, hj, hx⟩ := HE.out e0 he0
              exact hJ.out j (by have := HNL.out; omega) e0 he0 hx)
          clear hJ HF HE HU KC hT
          go_wp2_with fail
          go_ret
          exact ⟨by rw [HR.out]; rfl, hJB.out⟩

end Go.Proofs.YtknmgefpjdfenaaGreat

