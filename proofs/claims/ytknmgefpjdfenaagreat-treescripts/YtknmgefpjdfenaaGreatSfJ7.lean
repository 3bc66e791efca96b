/- Joined: VMath, VBase, VCont, VSame. -/
import Derived.Test.YtknmgefpjdfenaaGreatSfJ4
import Derived.Lib.Join
/- Paths as lists of bytes: what a path is, its names, and the path that names make. Nothing of a program. -/
namespace Go.Proofs.YtknmgefpjdfenaaGreat
set_option maxRecDepth 100000
set_option maxHeartbeats 8000000
set_option linter.unusedVariables false

def St (l:List UInt8):ByteArray:=⟨l.toArray⟩

theorem St_data (s:ByteArray):St s.data.toList=s:=by cases s; simp [St]

theorem data_St (l:List UInt8):(St l).data.toList=l:=by simp [St]

theorem St_size (l:List UInt8):(St l).size=l.length:=by simp [St,ByteArray.size]

theorem St_toList (l:List UInt8):(St l).toList=l:=by rw [Lib.toList_data,data_St]

def cutN:List UInt8→List UInt8 × List UInt8
 | []=>([],[])
 | b :: l=>if b=47 then ([],l) else (b :: (cutN l).1,(cutN l).2)

def segs:List UInt8→List (List UInt8)
 | []=>[[]]
 | b :: l=>if b=47 then [] :: segs l else (b :: ((segs l).head?.getD [])) :: (segs l).tail

theorem segs_cons (b:UInt8) (l:List UInt8):segs (b :: l)=if b=47 then [] :: segs l else (b :: ((segs l).head?.getD [])) :: (segs l).tail:=rfl

theorem cutN_cons (b:UInt8) (l:List UInt8):cutN (b :: l)=if b=47 then ([],l) else (b :: (cutN l).1,(cutN l).2):=rfl

theorem segs_ne (l:List UInt8):segs l ≠ []:=by cases l with
 | nil=>simp [segs]
 | cons b l=>unfold segs; split <;> simp

theorem segs_head (l:List UInt8):(segs l).head?=some (cutN l).1:=by
 induction l with
 | nil=>rfl
 | cons b l ih=>unfold segs cutN; split <;> simp [ih]

def nm (l:List UInt8):List (List UInt8):=(segs l).takeWhile (fun x=>!x.isEmpty)

theorem segs_tail (l:List UInt8):(47 ∈ l∧(segs l).tail=segs (cutN l).2) ∨ (47 ∉ l∧(segs l).tail=[]∧(cutN l).2=[]∧(cutN l).1=l):=by
 induction l with
 | nil=>right; simp [segs,cutN]
 | cons b l ih =>
  rw [segs_cons,cutN_cons]
  by_cases hb:b=47
  ·left; simp [hb]
  ·simp only [hb,if_false,List.tail_cons,List.mem_cons]
   rcases ih with ⟨h1,h2⟩ | ⟨h1,h2,h3,h4⟩
   ·left; exact ⟨.inr h1,h2⟩
   ·right
    refine ⟨fun h=>?_,h2,h3,by rw [h4]⟩
    rcases h with h | h
    ·exact hb h.symm
    ·exact h1 h

theorem nm_step (l:List UInt8):nm l=if (cutN l).1=[] then [] else (cutN l).1 :: nm (cutN l).2:=by
 unfold nm
 have hh:=segs_head l
 have ht:=segs_tail l
 cases hs:segs l with
 | nil=>exact absurd hs (segs_ne l)
 | cons x r =>
  rw [hs] at hh ht
  simp only [List.head?_cons,Option.some.injEq] at hh
  subst hh
  simp only [List.tail_cons] at ht
  by_cases h0:(cutN l).1=[]
  ·rw [if_pos h0,h0]; rfl
  ·rw [if_neg h0,List.takeWhile_cons,if_pos (by cases h:(cutN l).1 with
    | nil=>exact absurd h h0
    | cons _ _=>rfl)]
   rcases ht with ⟨_,h⟩ | ⟨_,h,h2,_⟩
   ·rw [h]
   ·rw [h,h2]; rfl

theorem cutN_len (l:List UInt8):(cutN l).1.length + (cutN l).2.length ≤ l.length:=by
 induction l with
 | nil=>simp [cutN]
 | cons b l ih=>unfold cutN; split <;> simp; omega

def drop1:List UInt8→List UInt8
 | []=>[]
 | b :: l=>if b=47 then l else b :: l

theorem drop1_len (p:List UInt8):(drop1 p).length ≤ p.length:=by
 cases p with
 | nil=>simp [drop1]
 | cons b l =>
  show (if b=47 then l else b :: l).length ≤ _
  split <;> simp

def nms (p:List UInt8):List (List UInt8):=nm (drop1 p)

theorem segs_len (l:List UInt8):∀ x ∈ segs l,x.length ≤ l.length:=by
 induction l with
 | nil=>intro x hx; simp [segs] at hx; subst hx; simp
 | cons b l ih =>
  intro x hx
  rw [segs_cons] at hx
  by_cases hb:b=47
  ·rw [if_pos hb,List.mem_cons] at hx
   rcases hx with rfl | hx
   ·simp
   ·have:=ih x hx; simp; omega
  ·rw [if_neg hb,List.mem_cons] at hx
   rcases hx with rfl | hx
   ·have h1:=segs_head l
    have:=ih (cutN l).1 (List.mem_of_mem_head? h1)
    rw [h1]; simp; omega
   ·have:=ih x (List.mem_of_mem_tail hx); simp; omega

theorem nms_len (p:List UInt8):∀ x ∈ nms p,x.length ≤ p.length:=by
 intro x hx
 unfold nms nm at hx
 have:=segs_len (drop1 p) x ((List.takeWhile_sublist _).mem hx)
 have:=drop1_len p
 omega

theorem nms_get (p:List UInt8) (hp:p.length ≤ 9223372036854775807) (j:Nat):((nms p)[j]?.getD []).length ≤ 9223372036854775807:=by
 cases h:(nms p)[j]? with
 | none=>simp
 | some x=>have:=nms_len p x (List.mem_of_getElem? h); simp; omega

def flat (ns:List (List UInt8)):List UInt8:=ns.flatMap (fun n=>47 :: n)

def jn (ns:List (List UInt8)):List UInt8:=if ns=[] then [47] else flat ns

theorem jn_join (ns:List (List UInt8)):47 :: Lib.join ns [47]=jn ns:=by
 cases ns with
 | nil=>rfl
 | cons x r =>
  rw [Lib.join_cons]
  unfold jn flat Lib.joinTail
  rw [if_neg (by simp),List.flatMap_cons]
  simp [List.flatMap]

def nmB (n:List UInt8):Bool:=nameB (St n)

theorem nmB_len {n:List UInt8} (h:nmB n=true):1 ≤ n.length∧n.length ≤ 13:=by
 unfold nmB nameB at h
 simp only [Bool.and_eq_true,decide_eq_true_eq,St_size] at h
 exact h.1.1.1

theorem nmB_no {n:List UInt8} (h:nmB n=true):47 ∉ n:=by
 unfold nmB nameB at h
 simp only [Bool.and_eq_true,decide_eq_true_eq,List.all_eq_true] at h
 intro hm
 have:=h.2 47 (by unfold byts; rw [data_St]; exact List.mem_map.2 ⟨47,hm,by decide⟩)
 revert this
 decide

def okN (ns:List (List UInt8)):Bool:=decide (ns.length ≤ 16) && ns.all nmB && decide ((jn ns).length ≤ 200)

theorem okN_iff (ns:List (List UInt8)):okN ns=true ↔ ns.length ≤ 16∧(∀ n ∈ ns,nmB n=true)∧(jn ns).length ≤ 200:=by
 unfold okN
 simp [and_assoc]

def spl (p:List UInt8):Option (List (List UInt8)):=if okN (nms p)=true∧jn (nms p)=p then some (nms p) else none

theorem segs_names (x:List UInt8) (r:List (List UInt8)) (hx:47 ∉ x) (hr:∀ n ∈ r,47 ∉ n):segs (x ++ flat r)=x :: r:=by
 induction x with
 | nil =>
  cases r with
  | nil=>rfl
  | cons y r =>
   have:segs (y ++ flat r)=y :: r:=by
    induction r generalizing y with
    | nil =>
     have hy:=hr y (by simp)
     clear hr
     simp only [flat,List.flatMap_nil,List.append_nil]
     induction y with
     | nil=>rfl
     | cons b y ih =>
      unfold segs
      rw [if_neg (by intro e; exact hy (by simp [e])),ih (by intro h; exact hy (by simp [h]))]
      rfl
    | cons z r ih2 =>
     have hy:=hr y (by simp)
     have hz:=ih2 z (by intro n hn; exact hr n (by simp only [List.mem_cons] at hn ⊢; exact .inr hn))
     clear hr ih2
     induction y with
     | nil =>
      show segs (47 :: (z ++ flat r))=_
      unfold segs
      rw [if_pos rfl,hz]
     | cons b y ih =>
      show segs (b :: (y ++ flat (z :: r)))=_
      unfold segs
      rw [if_neg (by intro e; exact hy (by simp [e])),ih (by intro h; exact hy (by simp [h]))]
      rfl
   show segs (47 :: (y ++ flat r))=_
   unfold segs
   rw [if_pos rfl,this]
 | cons b x ih =>
  show segs (b :: (x ++ flat r))=_
  unfold segs
  rw [if_neg (by intro e; exact hx (by simp [e])),ih (by intro h; exact hx (by simp [h]))]
  rfl

theorem takeWhile_all {α:Type} (p:α→Bool) (l:List α) (h:∀ x ∈ l,p x=true):l.takeWhile p=l:=by
 induction l with
 | nil=>rfl
 | cons x l ih=>rw [List.takeWhile_cons,if_pos (h x (by simp)),ih (fun y hy=>h y (by simp [hy]))]

theorem nms_jn {ns:List (List UInt8)} (h:∀ n ∈ ns,nmB n=true):nms (jn ns)=ns:=by
 cases ns with
 | nil=>rfl
 | cons x r =>
  have e:drop1 (jn (x :: r))=x ++ flat r:=by
   unfold jn
   rw [if_neg (by simp)]
   rfl
  unfold nms nm
  rw [e,segs_names x r (nmB_no (h x (by simp))) (fun n hn=>nmB_no (h n (by simp [hn])))]
  refine takeWhile_all _ _ (fun y hy=>?_)
  have:=(nmB_len (h y hy)).1
  cases y with
  | nil=>simp at this
  | cons _ _=>rfl

theorem spl_jn {ns:List (List UInt8)} (h:okN ns=true):spl (jn ns)=some ns:=by
 have hn:=((okN_iff ns).1 h).2.1
 unfold spl
 rw [nms_jn hn,if_pos ⟨h,rfl⟩]

theorem spl_some {p:List UInt8} {ns:List (List UInt8)} (h:spl p=some ns):okN ns=true∧p=jn ns∧nms p=ns:=by
 unfold spl at h
 split at h
 ·rename_i hc
  simp only [Option.some.injEq] at h
  subst h
  exact ⟨hc.1,hc.2.symm,rfl⟩
 ·cases h

theorem jn_inj {a b:List (List UInt8)} (ha:okN a=true) (hb:okN b=true) (h:jn a=jn b):a=b:=by
 have:=spl_jn ha
 rw [h,spl_jn hb] at this
 simpa using this.symm

theorem spl_len {p:List UInt8} {ns:List (List UInt8)} (h:spl p=some ns):p.length ≤ 200:=by
 obtain ⟨h1,h2,_⟩:=spl_some h
 rw [h2]
 exact ((okN_iff ns).1 h1).2.2

theorem flat_append (a b:List (List UInt8)):flat (a ++ b)=flat a ++ flat b:=by simp [flat]

theorem jn_len (ns:List (List UInt8)):(jn ns).length=if ns=[] then 1 else (flat ns).length:=by unfold jn; split <;> simp

theorem okN_take {ns:List (List UInt8)} (h:okN ns=true) (k:Nat):okN (ns.take k)=true:=by
 rw [okN_iff] at h ⊢
 refine ⟨by rw [List.length_take]; omega,fun n hn=>h.2.1 n (List.mem_of_mem_take hn),?_⟩
 rw [jn_len]
 split
 ·omega
 ·have h3:=h.2.2
  rw [jn_len] at h3
  have hne:ns ≠ []:=by intro e; subst e; simp_all
  rw [if_neg hne] at h3
  have:flat ns=flat (ns.take k) ++ flat (ns.drop k):=by rw [← flat_append,List.take_append_drop]
  rw [this,List.length_append] at h3
  omega

def splE (p:List UInt8):Int:=if (spl p).isSome=true then 0 else 16

end Go.Proofs.YtknmgefpjdfenaaGreat

/- Lists of texts in memory: what is read, what is a call's own, append, cuts. -/
namespace Go.Proofs.YtknmgefpjdfenaaGreat
set_option maxRecDepth 100000
set_option maxHeartbeats 8000000
open Go.RowKit Go.Shelf
set_option linter.unusedVariables false

def sv (x:List UInt8):Value:=.string (St x)

theorem info9:(Tryz.prog.info? 9).map (fun i=>(i.zero,i.size,i.bytes))=some (some (.string ByteArray.empty),1,16):=by kernel_rfl

theorem oneCell_texts (xs:List (List UInt8)):∀ v ∈ xs.map sv,v.oneCell'=true:=by
 intro v hv
 obtain ⟨x,_,rfl⟩:=List.mem_map.1 hv
 rfl

def HasS (w:World) (a:Option Addr) (n:Nat) (xs:List (List UInt8)):Prop :=
 xs.length=n∧(0 < n→∃ b off,a=some ⟨b,off,none⟩∧b < w.heap.size∧∀ j,j < n→w.cell? ⟨b,off + j,none⟩=some (sv (xs[j]?.getD [])))

theorem HasS.below {w w':World} {a:Option Addr} {n:Nat} {xs:List (List UInt8)} (h:HasS w a n xs) {m:Nat} (hb:Below m w w') (hm:w.heap.size ≤ m):HasS w' a n xs:=by
 refine ⟨h.1,fun hp=>?_⟩
 obtain ⟨b,off,e,hl,hc⟩:=h.2 hp
 exact ⟨b,off,e,Nat.lt_of_lt_of_le hl hb.size,fun j hj=>(hb.cell (p:=⟨b,off + j,none⟩) (by show b < m; omega)).trans (hc j hj)⟩

def OwnS (B:Nat) (w:World) (a:Option Addr) (n c:Nat) (xs:List (List UInt8)):Prop :=
 xs.length=n∧n ≤ c∧c ≤ maxLen∧((a=none∧n=0∧c=0) ∨ ∃ g cur,a=some ⟨g,0,none⟩∧B ≤ g∧w.heap[g]?=some (.cells cur 9 (0,0))∧cur.size=c∧cur.toList.take n=xs.map sv)

theorem OwnS.nil (B:Nat) (w:World):OwnS B w none 0 0 []:=⟨rfl,Nat.le_refl _,by unfold maxLen; omega,.inl ⟨rfl,rfl,rfl⟩⟩

theorem OwnS.kept {B:Nat} {w w':World} {a:Option Addr} {n c:Nat} {xs:List (List UInt8)} (h:OwnS B w a n c xs) (hk:∀ g,a=some ⟨g,0,none⟩→w'.heap[g]?=w.heap[g]?):OwnS B w' a n c xs:=by
 obtain ⟨h1,h2,h3,h4⟩:=h
 refine ⟨h1,h2,h3,?_⟩
 rcases h4 with h4 | ⟨g,cur,e,hg,hh,r⟩
 ·exact .inl h4
 ·exact .inr ⟨g,cur,e,hg,(hk g e).trans hh,r⟩

theorem OwnS.lt {B:Nat} {w:World} {a:Option Addr} {n c:Nat} {xs:List (List UInt8)} (h:OwnS B w a n c xs) {g:Nat} (e:a=some ⟨g,0,none⟩):g < w.heap.size∧B ≤ g:=by
 obtain ⟨_,_,_,h4⟩:=h
 rcases h4 with ⟨h4,_⟩ | ⟨g',cur,e',hg,hh,_⟩
 ·rw [h4] at e; cases e
 ·rw [e] at e'; cases e'
  exact ⟨(Array.getElem?_eq_some_iff.1 hh).1,hg⟩

theorem OwnS.below {B n:Nat} {w w':World} {a:Option Addr} {l c:Nat} {xs:List (List UInt8)} (h:OwnS B w a l c xs) (hb:Below n w w') (hn:w.heap.size ≤ n):OwnS B w' a l c xs :=
 h.kept (fun g e=>hb.block g (by have:=(h.lt e).1; omega))

theorem OwnS.base {B B':Nat} {w:World} {a:Option Addr} {l c:Nat} {xs:List (List UInt8)} (h:OwnS B w a l c xs) (hb:B' ≤ B):OwnS B' w a l c xs:=by
 obtain ⟨h1,h2,h3,h4⟩:=h
 refine ⟨h1,h2,h3,?_⟩
 rcases h4 with h4 | ⟨g,cur,e,hg,r⟩
 ·exact .inl h4
 ·exact .inr ⟨g,cur,e,by omega,r⟩

theorem OwnS.cell {B:Nat} {w:World} {a:Option Addr} {n c:Nat} {xs:List (List UInt8)} (h:OwnS B w a n c xs) {j:Nat} (hj:j < n):∃ g,a=some ⟨g,0,none⟩∧B ≤ g∧g < w.heap.size∧w.cell? ⟨g,j,none⟩=some (sv (xs[j]?.getD []))∧w.frozen? ⟨g,j,none⟩=false:=by
 obtain ⟨h1,h2,h3,h4⟩:=h
 rcases h4 with ⟨_,h4,_⟩ | ⟨g,cur,e,hg,hh,hc,ht⟩
 ·omega
 ·refine ⟨g,e,hg,(Array.getElem?_eq_some_iff.1 hh).1,?_,by simp [World.frozen?,hh]⟩
  have hx:(cur.toList.take n)[j]?=some (sv (xs[j]?.getD [])):=by
   rw [ht,List.getElem?_map,List.getElem?_eq_getElem (by omega)]; rfl
  rw [List.getElem?_take_of_lt hj] at hx
  simp only [World.cell?,hh]
  simpa using hx

theorem OwnS.has {B:Nat} {w:World} {a:Option Addr} {n c:Nat} {xs:List (List UInt8)} (h:OwnS B w a n c xs):HasS w a n xs:=by
 refine ⟨h.1,fun hp=>?_⟩
 obtain ⟨g,e,_,hl,_,_⟩:=h.cell (j:=0) hp
 refine ⟨g,0,e,hl,fun j hj=>?_⟩
 obtain ⟨g',e',_,_,hc,_⟩:=h.cell hj
 rw [e] at e'
 cases e'
 rw [Nat.zero_add]
 exact hc

theorem OwnS.owns {B:Nat} {w:World} {a:Option Addr} {n c:Nat} {xs:List (List UInt8)} (h:OwnS B w a n c xs):w.ownsRow B 9 1 (.slice a n c) n (xs.map sv):=by
 obtain ⟨h1,h2,h3,h4⟩:=h
 refine ⟨by simp [h1],?_⟩
 rcases h4 with ⟨rfl,rfl,rfl⟩ | ⟨g,cur,rfl,hg,hh,hc,ht⟩
 ·exact .inl ⟨rfl,rfl⟩
 ·exact .inr ⟨g,c,cur,rfl,hg,hh,h2,h3,by simpa using hc,by simpa using ht⟩

theorem OwnS.of_owns {B:Nat} {w:World} {v:Value} {n:Nat} {xs:List (List UInt8)} (h:w.ownsRow B 9 1 v n (xs.map sv)):∃ a c,v=.slice a n c∧OwnS B w a n c xs:=by
 obtain ⟨h1,h2⟩:=h
 have hl:xs.length=n:=by simpa using h1
 rcases h2 with ⟨rfl,rfl⟩ | ⟨g,cap,cur,rfl,hg,hh,h2,h3,hc,ht⟩
 ·exact ⟨none,0,rfl,hl,Nat.le_refl _,by unfold maxLen; omega,.inl ⟨rfl,rfl,rfl⟩⟩
 ·exact ⟨_,cap,rfl,hl,h2,h3,.inr ⟨g,cur,rfl,hg,hh,by simpa using hc,by simpa using ht⟩⟩

theorem appS_nothing (w:World) (ty:TypeId) (a a2:Option Addr) (n c c2:Nat) (hn:n ≤ c) (ha:a=none→n=0∧c=0):(Builtin.append_ #[103,103] ty #[.slice a n c,.slice a2 0 c2]).run Tryz.prog w=.ok (.slice a n c) w:=by
 obtain ⟨i0,hi,hz0,hz1,hz2⟩:=info_parts info9
 cases a with
 | none =>
  obtain ⟨rfl,rfl⟩:=ha rfl
  cases a2 <;> simp [Builtin.append_,run_underlying Tryz.underlying103,sizeOf,typeInfo,hi,Builtin.lenOf,Builtin.firstCells,loadCells,loadCellsFrom]
 | some x=>cases a2 <;> simp [Builtin.append_,run_underlying Tryz.underlying103,sizeOf,typeInfo,hi,Builtin.lenOf,Builtin.firstCells,storeCells,loadCells,loadCellsFrom,hn]

theorem run_appS {B:Nat} {w:World} {a:Option Addr} {n c:Nat} {xs:List (List UInt8)} (h:OwnS B w a n c xs) (hB:B ≤ w.heap.size) {a2:Option Addr} {m:Nat} {ys:List (List UInt8)} (c2:Nat) (h2:HasS w a2 m ys) (hn:n + m ≤ 8796093022208) :
  ∃ a' c' w',(∀ ty,(Builtin.append_ #[103,103] ty #[.slice a n c,.slice a2 m c2]).run Tryz.prog w=.ok (.slice a' (n + m) c') w')∧OwnS B w' a' (n + m) c' (xs ++ ys) ∧
   (∀ k,k < w.heap.size→(∀ g,a=some ⟨g,0,none⟩→k ≠ g)→w'.heap[k]?=w.heap[k]?)∧Below B w w':=by
 obtain ⟨i0,hi,hz0,hz1,hz2⟩:=info_parts info9
 by_cases h0:m=0
 ·subst h0
  obtain rfl:ys=[]:=List.eq_nil_of_length_eq_zero h2.1
  refine ⟨a,c,w,fun ty=>appS_nothing w ty a a2 n c c2 h.2.1 (fun e=>?_),by rw [List.append_nil]; exact h,fun _ _ _=>rfl,Below.refl _ _⟩
  rcases h.2.2.2 with ⟨_,e1,e2⟩ | ⟨g,_,e',_⟩
  ·exact ⟨e1,e2⟩
  ·rw [e] at e'; cases e'
 ·obtain ⟨b,off,rfl,_,hc⟩:=h2.2 (by omega)
  have hl:=h2.1
  have hnews:∀ (j:Nat) (u:Value),(ys.map sv)[j]?=some u→w.cell? ((⟨b,off,none⟩:Addr).add j)=some u:=by
   intro j u hj
   have hjl:j < m:=by have:=(List.getElem?_eq_some_iff.1 hj).1; simp at this; omega
   rw [World.add_zero_spot,hc j hjl]
   rw [List.getElem?_map,List.getElem?_eq_getElem (by omega)] at hj
   rw [List.getElem?_eq_getElem (by omega)]
   simpa using hj
  have hmax:n + m ≤ maxLen:=by unfold maxLen; omega
  obtain ⟨v',w',hr,ho,hg,_⟩:=run_append_own (P:=Tryz.prog) w B 103 0 9 i0 (.string ByteArray.empty) 1 16 Tryz.underlying103 hi hz0 hz1 hz2 rfl (by decide) (.slice a n c) n _ h.owns ⟨b,off,none⟩ m c2 (ys.map sv) (by simp [hl]) hnews (oneCell_texts ys) hmax (by omega) hB
  rw [← List.map_append] at ho
  obtain ⟨a',c',rfl,ho'⟩:=OwnS.of_owns ho
  refine ⟨a',c',w',fun ty=>hr,ho',fun k hk hne=>?_,?_⟩
  ·refine hg.block k hk (fun e=>?_)
   rcases h.2.2.2 with ⟨ha,_,_⟩ | ⟨g,_,ha,_⟩
   ·rw [ha] at e; simp [Value.ownBlock] at e
   ·rw [ha] at e
    simp [Value.ownBlock] at e
    exact hne g ha e
  ·refine (Below.refl B w).grown hg hB (fun k e=>?_)
   rcases h.2.2.2 with ⟨ha,_,_⟩ | ⟨g,_,ha,hgB,_⟩
   ·rw [ha] at e; simp [Value.ownBlock] at e
   ·rw [ha] at e
    simp [Value.ownBlock] at e
    omega

theorem sizeOf9 (w:World):(sizeOf (Tryz.prog.elem 103)).run Tryz.prog w=.ok 1 w:=by kernel_rfl

theorem elemS:Tryz.prog.underlying 103=some (.slice (Tryz.prog.elem 103)):=by kernel_rfl

theorem run_cutS_h (a:Option Addr) (len cap k:Nat) (h:k ≤ cap) (w:World) :
  (Instr.slice 103 (.slice a len cap) none (some (.int .i64 (k:Int))) none).run Tryz.prog w=.ok (.slice (cutAt a cap 0) k cap) w:=by
 rw [run_slice_h (P:=Tryz.prog) (w:=w) 103 a len cap elemS .i64 k (by omega) (by omega),sizeOf9]
 simp only [Result.andThen,sliced]
 have e1:(k:Int).toNat=k:=by omega
 rw [e1]
 simp [cutAt]

theorem cutAt_zero (a:Option Addr) (cap:Nat):cutAt a cap 0=a:=by
 unfold cutAt
 split
 ·rfl
 ·cases a with
  | none=>rfl
  | some x=>simp [Addr.add]

theorem HasS.take {w:World} {a:Option Addr} {len:Nat} {zs:List (List UInt8)} (h:HasS w a len zs) {k:Nat} (hk:k ≤ len):HasS w a k (zs.take k):=by
 refine ⟨by simp [h.1]; omega,fun hp=>?_⟩
 obtain ⟨b,off,rfl,hb,hcs⟩:=h.2 (by omega)
 exact ⟨b,off,rfl,hb,fun j hj=>by rw [hcs j (by omega),List.getElem?_take_of_lt hj]⟩

theorem HasS.cell {w:World} {a:Option Addr} {len:Nat} {zs:List (List UInt8)} (h:HasS w a len zs) {j:Nat} (hj:j < len):∃ b off,a=some ⟨b,off,none⟩∧w.cell? ⟨b,off + j,none⟩=some (sv (zs[j]?.getD [])):=by
 obtain ⟨b,off,e,_,hc⟩:=h.2 (by omega)
 exact ⟨b,off,e,hc j hj⟩

end Go.Proofs.YtknmgefpjdfenaaGreat

/- Join$1 (is the name refused?), slices.IndexFunc and slices.ContainsFunc with it. -/
namespace Go.Proofs.YtknmgefpjdfenaaGreat
set_option maxRecDepth 100000
set_option maxHeartbeats 8000000
open Go.RowKit Go.Shelf
set_option linter.unusedVariables false

theorem join1_any (x:List UInt8) (w:World) (hm:x.length ≤ 9223372036854775807) :
  Calls Tryz.prog 132 #[.string (St x)] w fun e w'=>e=.returned (.bool (!nmB x))∧Below w.heap.size w w':=by
 have KN:=name_any (St x) w (by rw [St_size]; exact hm)
 unfold nameE at KN
 have e:nameB (St x)=nmB x:=rfl
 rw [e] at KN
 clear e hm
 generalize St x=s at *
 cases hq:nmB x
 ·rw [hq] at KN
  have KN:=hide KN
  clear hq
  go_enter Tryz.func132,Tryz.ntmps132
  go_wp2_with (go_at_call 133; refine (unhide KN).mono ?_; rintro e w' ⟨rfl,hb⟩; have HB:=hide hb; clear hb KN)
  go_ret
  exact ⟨rfl,HB.out⟩
 ·rw [hq] at KN
  have KN:=hide KN
  clear hq
  go_enter Tryz.func132,Tryz.ntmps132
  go_wp2_with (go_at_call 133; refine (unhide KN).mono ?_; rintro e w' ⟨rfl,hb⟩; have HB:=hide hb; clear hb KN)
  go_ret
  exact ⟨rfl,HB.out⟩

theorem indexF_any (a:Option Addr) (n c:Nat) (xs:List (List UInt8)) (w:World) (h:HasS w a n xs) (hn:n ≤ 140737488351232) (hm:∀ j:Nat,(xs[j]?.getD []).length ≤ 9223372036854775807) :
  Calls Tryz.prog 154 #[.slice a n c,.func (.func 132) #[] #[]] w fun e w'=>(∃ r:Int,e=.returned (.int .i64 r)∧decide (r ≥ 0)=xs.any (fun x=>!nmB x))∧Below w.heap.size w w':=by
 have HH:=hide h
 have HM:=hide hm
 have HT:Hid (∀ j,j < n→nmB (xs[j]?.getD [])=false→xs.any (fun x=>!nmB x)=true):=by
  intro j hj hf
  rw [List.any_eq_true]
  have hjl:j < xs.length:=by rw [h.1]; exact hj
  refine ⟨xs[j],List.getElem_mem _,?_⟩
  rw [List.getElem?_eq_getElem hjl,Option.getD_some] at hf
  rw [hf]; rfl
 have HF:Hid ((∀ j,j < n→nmB (xs[j]?.getD [])=true)→xs.any (fun x=>!nmB x)=false):=by
  intro hj
  rw [List.any_eq_false]
  intro x hx
  obtain ⟨j,hjl,rfl⟩:=List.getElem_of_mem hx
  have:=hj j (by rw [← h.1]; exact hjl)
  rw [List.getElem?_eq_getElem hjl,Option.getD_some] at this
  rw [this]; simp
 generalize xs.any (fun x=>!nmB x)=q at *
 clear h hm
 go_enter Tryz.func154,Tryz.ntmps154
 go_wp2_with fail
 go_loopw [8] (fun iv wr=>∃ k:Nat,k ≤ n∧iv=.int .i64 (k:Int)∧Hid (Below w.heap.size w wr∧∀ j,j < k→nmB (xs[j]?.getD [])=true)) (fun iv _=>n - (intOf iv).toNat)
 case atStart=>exact ⟨0,Nat.zero_le _,rfl,Below.refl _ _,fun j hj=>by omega⟩
 case round =>
  obtain ⟨k,hk,rfl,hw⟩:=hrel
  by_cases hlt:k < n
  ·obtain ⟨b,o,rfl,hcl⟩:=(HH.out.below hw.out.1 (Nat.le_refl _)).cell hlt
   have K1:=join1_any (xs[k]?.getD []) wr (HM.out k)
   have HS:Hid (nmB (xs[k]?.getD [])=true→∀ j,j < k + 1→nmB (xs[j]?.getD [])=true):=by
    intro h j hj
    by_cases e:j=k
    ·subst e; exact h
    ·exact hw.out.2 j (by omega)
   have HQ:=hide (HT.out k hlt)
   have HB:=hide hw.out.1
   unfold sv at hcl
   generalize xs[k]?.getD []=x at *
   generalize St x=s at *
   have hlt':(k:Int) < (n:Int):=by omega
   cases hq:nmB x
   ·rw [hq] at K1
    have K1:=hide K1
    have HQ:=hide (HQ.out hq)
    clear hq HS HH HM HT HF hw hlt
    go_wp2_with fail
    refine (unhide K1).mono ?_
    rintro e w1 ⟨rfl,hb⟩
    have HB:=hide (HB.out.trans (hb.mono HB.out.size))
    clear K1 hb hcl
    go_wp2_with fail
    go_ret
    refine ⟨⟨k,rfl,?_⟩,HB.out⟩
    rw [HQ.out]; simp
   ·rw [hq] at K1
    have K1:=hide K1
    have HS:=hide (HS.out hq)
    clear hq HQ HH HM HT HF hw hlt
    go_wp2_with fail
    refine (unhide K1).mono ?_
    rintro e w1 ⟨rfl,hb⟩
    have HB:=hide (HB.out.trans (hb.mono HB.out.size))
    clear K1 hb hcl
    go_wp2_with fail
    go_roundw
    case rel=>exact ⟨k + 1,by omega,by go_num,HB.out,HS.out⟩
    case measure=>simp [intOf]; omega
  ·obtain rfl:k=n:=by omega
   go_wp2_with fail
   go_ret
   refine ⟨⟨-1,rfl,?_⟩,hw.out.1⟩
   rw [HF.out hw.out.2]; simp

theorem contF_any (a:Option Addr) (n c:Nat) (xs:List (List UInt8)) (w:World) (h:HasS w a n xs) (hn:n ≤ 140737488351232) (hm:∀ j:Nat,(xs[j]?.getD []).length ≤ 9223372036854775807) :
  Calls Tryz.prog 134 #[.slice a n c,.func (.func 132) #[] #[]] w fun e w'=>e=.returned (.bool (xs.any (fun x=>!nmB x)))∧Below w.heap.size w w':=by
 have K:=hide (indexF_any a n c xs w h hn hm)
 clear h hm
 generalize xs.any (fun x=>!nmB x)=q at *
 go_enter Tryz.func134,Tryz.ntmps134
 go_wp2_with fail
 refine (unhide K).mono ?_
 rintro e w1 ⟨⟨r,rfl,hr⟩,hb⟩
 have HB:=hide hb
 have HR:=hide hr
 clear K hb hr
 go_wp2_with fail
 go_ret
 exact ⟨ret_bool HR.out,HB.out⟩

end Go.Proofs.YtknmgefpjdfenaaGreat

/- skerryref01.SameTexts of equal lists; slices.Equal of lists of texts. -/
namespace Go.Proofs.YtknmgefpjdfenaaGreat
set_option maxRecDepth 100000
set_option maxHeartbeats 8000000
open Go.RowKit Go.Shelf
set_option linter.unusedVariables false

theorem getD_ext {xs ys:List (List UInt8)} (hl:xs.length=ys.length) (h:∀ j,j < xs.length→xs[j]?.getD []=ys[j]?.getD []):xs=ys:=by
 refine List.ext_getElem hl (fun j h1 h2=>?_)
 have:=h j h1
 rwa [List.getElem?_eq_getElem h1,List.getElem?_eq_getElem h2] at this

theorem equal_any (a1 a2:Option Addr) (len c1 c2:Nat) (xs ys:List (List UInt8)) (w:World) (h1:HasS w a1 len xs) (h2:HasS w a2 len ys) (hl:len ≤ 140737488351232) :
  Calls Tryz.prog 94 #[.slice a1 len c1,.slice a2 len c2] w fun e w'=>e=.returned (.bool (decide (xs=ys)))∧∃ m,w'=w.drewN m:=by
 have HE:Hid (∀ k,k < len→xs[k]?.getD [] ≠ ys[k]?.getD []→decide (xs=ys)=false):=by
  intro k hk hne
  rw [decide_eq_false_iff_not]
  intro e
  exact hne (by rw [e])
 have HT:Hid ((∀ k,k < len→xs[k]?.getD []=ys[k]?.getD [])→decide (xs=ys)=true):=by
  intro h
  rw [decide_eq_true_eq]
  exact getD_ext (h1.1.trans h2.1.symm) (fun j hj=>h j (by rw [h1.1] at hj; exact hj))
 generalize decide (xs=ys)=q at *
 have H1:=hide h1
 have H2:=hide h2
 clear h1 h2
 go_enter Tryz.func94,Tryz.ntmps94
 go_wp2
 go_loopw [13] (fun i wr=>∃ k:Nat,k ≤ len∧i=.int .i64 (k:Int)∧Hid ((∃ m,wr=w.drewN m)∧∀ j,j < k→xs[j]?.getD []=ys[j]?.getD [])) (fun i _=>len - (intOf i).toNat)
 case atStart=>exact ⟨0,Nat.zero_le _,rfl,⟨0,rfl⟩,fun j hj=>by omega⟩
 case round =>
  obtain ⟨k,hk,rfl,hw⟩:=hrel
  by_cases hlt:k < len
  ·obtain ⟨b1,o1,rfl,_,hc1⟩:=H1.out.2 (by omega)
   obtain ⟨b2,o2,rfl,_,hc2⟩:=H2.out.2 (by omega)
   have e1:wr.cell? ⟨b1,o1 + k,none⟩=some (.string (St (xs[k]?.getD []))):=by obtain ⟨⟨m,rfl⟩,_⟩:=hw.out; exact hc1 k hlt
   have e2:wr.cell? ⟨b2,o2 + k,none⟩=some (.string (St (ys[k]?.getD []))):=by obtain ⟨⟨m,rfl⟩,_⟩:=hw.out; exact hc2 k hlt
   have HF:=hide (HE.out k hlt)
   have HS:Hid (xs[k]?.getD []=ys[k]?.getD []→∀ j,j < k + 1→xs[j]?.getD []=ys[j]?.getD []):=by
    intro h j hj
    by_cases e:j=k
    ·subst e; exact h
    ·exact hw.out.2 j (by omega)
   have HW:=hide hw.out.1
   have d1:=St_toList (xs[k]?.getD [])
   have d2:=St_toList (ys[k]?.getD [])
   generalize xs[k]?.getD []=x at *
   generalize ys[k]?.getD []=y at *
   generalize St x=sx at *
   generalize St y=sy at *
   have hlt':(k:Int) < (len:Int):=by omega
   clear hc1 hc2 hlt HE HT H1 H2 hw
   by_cases hxy:x=y
   ·have d3:(sx.toList == sy.toList)=true:=by rw [d1,d2,hxy]; simp
    have HS':=hide (HS.out hxy)
    clear HS HF hxy d1 d2
    go_wp2
    go_quiet (fail)
    go_wp2
    refine ⟨⟨k + 1,by omega,by go_num,?_,HS'⟩,by simp [intOf]; omega⟩
    obtain ⟨m,rfl⟩:=HW.out
    exact ⟨_,World.drewN_drewN _ _ _⟩
   ·have d3:(sx.toList == sy.toList)=false:=by rw [d1,d2]; simpa using hxy
    have HQ:=hide (HF.out hxy)
    clear HS HF hxy d1 d2
    go_wp2
    go_quiet (fail)
    go_wp2
    go_ret
    refine ⟨ret_bool HQ.out.symm,?_⟩
    obtain ⟨m,rfl⟩:=HW.out
    exact ⟨_,World.drewN_drewN _ _ _⟩
  ·obtain rfl:k=len:=by omega
   go_wp2
   go_ret
   exact ⟨ret_bool (HT.out hw.out.2).symm,hw.out.1⟩

end Go.Proofs.YtknmgefpjdfenaaGreat

