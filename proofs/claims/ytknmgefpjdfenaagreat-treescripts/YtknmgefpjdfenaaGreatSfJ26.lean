/- Joined: TBorn, TEnter, TMake. -/
import Derived.Test.YtknmgefpjdfenaaGreatSfTPlace
import Derived.BigRegion
import Derived.Deep.DeepCutAuto
/- born: a new thing, that has the least number that is free. -/
namespace Go.Proofs.YtknmgefpjdfenaaGreat
set_option maxRecDepth 100000
set_option maxHeartbeats 8000000
open Go.RowKit Go.Shelf Go.Maps
set_option linter.unusedVariables false

def Tr.lst (s:Tr) (i:Nat):Tr:={ s with least:=i }

theorem TM.lst {u:World} {S:Nat→Prop} {g:Nat} {s:Tr} (h:TM u S g s) (i:Nat):TM (u.setCell ⟨g,2,none⟩ (.int .i64 (i:Int))) S g (s.lst i):=by
 refine h.setT 2 _ (fun j hj=>?_) rfl (h.row.kept (fun x ex=>?_)) h.sr
 ·unfold tcell Tr.lst
  by_cases h0:j=0
  ·subst h0; rfl
  ·by_cases h1:j=1
   ·subst h1; rfl
   ·by_cases h2:j=2
    ·subst h2; rfl
    ·rw [if_neg h0,if_neg h1,if_neg h2,if_neg h2,if_neg h0,if_neg h1,if_neg h2]
 ·obtain ⟨_,_,cur,hcu⟩:=h.row.lt ex
  exact Below.heap_setCell _ _ _ _ (row_neT h.str hcu (by decide))

theorem TM.app {u:World} {S S':Nat→Prop} {g:Nat} {s:Tr} (h:TM u S g s) {a':Option Addr} {c':Nat} {w':World} (ho:OwnP 0 w' a' (s.row.length + 1) c' (s.row ++ [none]))
  (hk:∀ k,k < u.heap.size→(∀ x,s.ra=some ⟨x,0,none⟩→k ≠ x)→w'.heap[k]?=u.heap[k]?) (hz:u.heap.size ≤ w'.heap.size) (hS:∀ k,S k→S' k) (hl:∀ k,S' k→k < w'.heap.size) (ha:∀ x,a'=some ⟨x,0,none⟩→S' x) :
  TM (w'.setCell ⟨g,1,none⟩ (.slice a' (s.row.length + 1) c')) S' g { s with row:=s.row ++ [none],ra:=a',rc:=c' }:=by
 have kc:∀ k t' (cs:Array Value),u.heap[k]?=some (Obj.cells cs t' (0,0))→t' ≠ 63→w'.heap[k]?=u.heap[k]?:=fun k t' cs hh ht=>hk k (Array.getElem?_eq_some_iff.1 hh).1 (fun x ex e=>by
  subst e
  obtain ⟨_,_,cur,hcu⟩:=h.row.lt ex
  rw [hcu] at hh
  exact ht (cells_ty hh).symm)
 have kr:∀ k t' n f,u.rowIs k t' n f→t' ≠ 63→w'.heap[k]?=u.heap[k]?:=fun k t' n f hr ht=>by
  obtain ⟨cs,hc,_⟩:=hr
  exact kc k t' cs hc ht
 have hstr:=h.str.of_block (kr g _ _ _ h.str (by decide))
 have ko:∀ k,k ≠ g→(w'.setCell ⟨g,1,none⟩ (.slice a' (s.row.length + 1) c')).heap[k]?=w'.heap[k]?:=fun k hk=>Below.heap_setCell _ _ _ _ hk
 refine ⟨(hstr.set 1 _).congr (fun j hj=>?_),?_,?_,?_,?_,h.mp1,h.da1,hS _ h.sg,fun x e=>ha x e,fun b t e=>hS _ (h.sb b t e),fun b t e hd=>hS _ (h.sm b t e hd),fun b t x e ex=>hS _ (h.sd b t x e ex),fun k hk=>by simpa [World.setCell] using hl k hk⟩
 ·unfold tcell
  by_cases h0:j=0
  ·subst h0; rfl
  ·by_cases h1:j=1
   ·subst h1; simp
   ·rw [if_neg h1,if_neg h0,if_neg h1,if_neg h0,if_neg h1]
 ·have hlen:(s.row ++ [none]).length=s.row.length + 1:=by simp
  show OwnP 0 _ a' (s.row ++ [none]).length c' (s.row ++ [none])
  rw [hlen]
  exact ho.kept (fun x ex=>by obtain ⟨_,_,cur,hcu⟩:=ho.lt ex; exact ko x (row_neT hstr hcu (by decide)))
 ·intro b t e
  have ht:=h.thg b t e
  exact (ht.of_block (kr b _ _ _ ht (by decide))).of_block (ko b (rows_neT h.str ht (by decide)))
 ·intro b t e hd
  have hm:=h.map b t e hd
  exact (hm.kept (hk _ hm.lt (fun x ex e'=>by obtain ⟨_,_,cur,hcu⟩:=h.row.lt ex; exact hm.ne hcu e'.symm))).kept (ko _ (map_neT h.str hm))
 ·intro b t e
  have hd:=h.dat b t e
  exact (hd.kept (fun x ex=>by obtain ⟨_,_,cur,hcu⟩:=hd.lt ex; exact kc x _ cur hcu (by decide))).kept (fun x ex=>by obtain ⟨_,_,cur,hcu⟩:=hd.lt ex; exact ko x (row_neT h.str hcu (by decide)))

structure Free (s:Tr) (f:Nat):Prop where
 le:s.least ≤ f
 full:∀ i,s.least ≤ i→i < f→∃ b,s.row[i]?=some (some b)
 free:s.row[f]?=none ∨ s.row[f]?=some none

theorem Free.lt {s:Tr} {f i:Nat} (h:Free s f) (hi:s.least ≤ i) (hf:i < f):i < s.row.length:=by
 obtain ⟨b,hb⟩:=h.full i hi hf
 exact (List.getElem?_eq_some_iff.1 hb).1

def newT (k:Int) (f mp:Nat):Th:={ k:=k,n:=f,l:=0,d:=[],da:=none,dc:=0,mp:=mp,ns:=[] }

def pad (row:List (Option Nat)) (f:Nat):List (Option Nat):=row ++ List.replicate (f + 1 - row.length) none

structure BJ (w:World) (S:Nat→Prop) (g b mp:Nat) (k:Int) (s:Tr) (v:World):Prop where
 tm:TM v (fun x=>Up S w.heap.size v.heap.size x∧x ≠ b∧x ≠ mp) g s
 kp:Kp S w v
 lo:w.heap.size ≤ b
 hi:b < v.heap.size
 mo:w.heap.size ≤ mp
 mi:mp < v.heap.size
 th:v.rowIs b 69 5 (hcell (newT k 0 mp))
 mm:k=2→MapS v mp []

theorem up_mono {S:Nat→Prop} {n m m' x:Nat} (h:Up S n m x) (hm:m ≤ m'):Up S n m' x:=h.elim .inl (fun q=>.inr ⟨q.1,by omega⟩)

theorem BJ.drewN {w v:World} {S:Nat→Prop} {g b mp:Nat} {k:Int} {s:Tr} (h:BJ w S g b mp k s v) (q:Nat):BJ w S g b mp k s (v.drewN q) :=
 ⟨h.tm.kept (fun _ _=>rfl) (fun _ hx=>hx) h.tm.lt,⟨h.kp.os,h.kp.tape,h.kp.output,h.kp.size,h.kp.block⟩,h.lo,h.hi,h.mo,h.mi,h.th.of_block rfl,fun e=>(h.mm e).kept rfl⟩

theorem BJ.lst {w v:World} {S:Nat→Prop} {g b mp:Nat} {k:Int} {s:Tr} (h:BJ w S g b mp k s v) (i:Nat):BJ w S g b mp k (s.lst i) (v.setCell ⟨g,2,none⟩ (.int .i64 (i:Int))):=by
 have hz:(v.setCell ⟨g,2,none⟩ (.int .i64 (i:Int))).heap.size=v.heap.size:=by simp [World.setCell]
 refine ⟨by rw [hz]; exact h.tm.lst i,h.kp.setCell (p:=⟨g,2,none⟩) (h.tm.sg.1.elim .inl (fun q=>.inr q.1)) _,h.lo,by rw [hz]; exact h.hi,h.mo,by rw [hz]; exact h.mi,?_,fun e=>?_⟩
 ·exact h.th.setOther (fun e=>h.tm.sg.2.1 e.symm) _
 ·exact (h.mm e).kept (Below.heap_setCell _ _ _ _ (fun e'=>h.tm.sg.2.2 e'.symm))

theorem BJ.app {w v:World} {S:Nat→Prop} {g b mp:Nat} {k:Int} {s:Tr} (h:BJ w S g b mp k s v) (hn:s.row.length + 1 ≤ 8796093022208) :
  ∃ a' c' w',(∀ ty,(Builtin.append_ #[62,62] ty #[.slice s.ra s.row.length s.rc,.slice (some ⟨v.heap.size,0,none⟩) 1 1]).run Tryz.prog (v.alloc (.cells #[.pointer none] 63))=.ok (.slice a' (s.row.length + 1) c') w') ∧
   BJ w S g b mp k { s with row:=s.row ++ [none],ra:=a',rc:=c' } (w'.setCell ⟨g,1,none⟩ (.slice a' (s.row.length + 1) c'))∧(∀ j,w'.frozen? ⟨g,j,none⟩=false)∧(∃ cc,w'.cell? ⟨g,1,none⟩=some cc):=by
 obtain ⟨a',c',w',R,ho,hk,hB,hx⟩:=run_appP h.tm.row (Nat.zero_le _) hn
 have hra:∀ x,s.ra=some ⟨x,0,none⟩→(S x ∨ w.heap.size ≤ x):=fun x ex=>(h.tm.sr x ex).1.elim .inl (fun q=>.inr q.1)
 have kb:w'.heap[b]?=v.heap[b]?:=hk b h.hi (fun x ex e=>(h.tm.sr x ex).2.1 e.symm)
 have km:w'.heap[mp]?=v.heap[mp]?:=hk mp h.mi (fun x ex e=>(h.tm.sr x ex).2.2 e.symm)
 have kg:w'.heap[g]?=v.heap[g]?:=hk g h.tm.str.lt (fun x ex e=>by
  subst e
  obtain ⟨_,_,cur,hcu⟩:=h.tm.row.lt ex
  exact row_neT h.tm.str hcu (by decide) rfl)
 have hz:(w'.setCell ⟨g,1,none⟩ (.slice a' (s.row.length + 1) c')).heap.size=w'.heap.size:=by simp [World.setCell]
 have hstr:=h.tm.str.of_block kg
 refine ⟨a',c',w',R,⟨?_,?_,h.lo,by rw [hz]; exact Nat.lt_of_lt_of_le h.hi hB.size,h.mo,by rw [hz]; exact Nat.lt_of_lt_of_le h.mi hB.size,?_,fun e=>?_⟩,fun j=>hstr.frozen j,⟨_,hstr.cell (i:=1) (by omega)⟩⟩
 ·rw [hz]
  refine h.tm.app ho hk hB.size (fun x hs=>⟨up_mono hs.1 hB.size,hs.2⟩) (fun x hs=>?_) (fun x ex=>?_)
  ·rcases hs.1 with q | q
   ·exact Nat.lt_of_lt_of_le (h.tm.lt x ⟨.inl q,hs.2⟩) hB.size
   ·exact q.2
  ·have hlt:=(ho.lt ex).1
   rcases hx x ex with q | q
   ·have:=h.tm.sr x q
    exact ⟨up_mono this.1 hB.size,this.2⟩
   ·have h1:=h.hi
    have h2:=h.mi
    have h3:=h.kp.size
    exact ⟨.inr ⟨by omega,hlt⟩,by omega,by omega⟩
 ·refine Kp.setCell ⟨hB.os.trans h.kp.os,hB.tape.trans h.kp.tape,hB.output.trans h.kp.output,Nat.le_trans h.kp.size hB.size,fun x hx hs=>?_⟩ (p:=⟨g,1,none⟩) (h.tm.sg.1.elim .inl (fun q=>.inr q.1)) _
  refine (hk x (Nat.lt_of_lt_of_le hx h.kp.size) (fun y ey e=>?_)).trans (h.kp.block x hx hs)
  subst e
  rcases hra x ey with q | q
  ·exact hs q
  ·omega
 ·exact (h.th.of_block kb).setOther (fun e=>h.tm.sg.2.1 e.symm) _
 ·exact ((h.mm e).kept km).kept (Below.heap_setCell _ _ _ _ (fun e'=>h.tm.sg.2.2 e'.symm))

theorem BJ.last {w v:World} {S:Nat→Prop} {g b mp:Nat} {k:Int} {s:Tr} (h:BJ w S g b mp k s v) {r:Nat} (hr:s.ra=some ⟨r,0,none⟩) (f:Nat) :
  TM ((v.setCell ⟨b,1,none⟩ (.int .i64 (f:Int))).setCell ⟨r,f,none⟩ (.pointer (some ⟨b,0,none⟩))) (Up S w.heap.size v.heap.size) g ({ s with row:=s.row.set f (some b) }.upd b (newT k f mp)) ∧
   Kp S w ((v.setCell ⟨b,1,none⟩ (.int .i64 (f:Int))).setCell ⟨r,f,none⟩ (.pointer (some ⟨b,0,none⟩))):=by
 have h1:TM (v.setCell ⟨b,1,none⟩ (.int .i64 (f:Int))) (fun x=>Up S w.heap.size v.heap.size x∧x ≠ b∧x ≠ mp) g s :=
  h.tm.kept (fun x hx=>Below.heap_setCell _ _ _ _ hx.2.1) (fun _ hx=>hx) (fun x hx=>by simpa [World.setCell] using h.tm.lt x hx)
 have h2:=h1.setR hr f (some b)
 have hs:=h.tm.sr r hr
 have hz:((v.setCell ⟨b,1,none⟩ (.int .i64 (f:Int))).setCell ⟨r,f,none⟩ (.pointer (some ⟨b,0,none⟩))).heap.size=v.heap.size:=by simp [World.setCell]
 have hsz:=h.kp.size
 refine ⟨h2.more (fun x hx=>hx.1) (fun x hx=>?_) (b:=b) (t:=newT k f mp) (fun hb=>hb.2.1 rfl) (.inr ⟨h.lo,h.hi⟩) ?_ (fun e=>⟨?_,fun hm=>hm.2.2 rfl,.inr ⟨h.mo,h.mi⟩⟩) ⟨rfl,rfl,rfl⟩,?_⟩
 ·show x < ((v.setCell ⟨b,1,none⟩ (.int .i64 (f:Int))).setCell ⟨r,f,none⟩ (.pointer (some ⟨b,0,none⟩))).heap.size
  rw [hz]
  by_cases hb:x=b
  ·rw [hb]; exact h.hi
  ·by_cases hm:x=mp
   ·rw [hm]; exact h.mi
   ·exact h.tm.lt x ⟨hx,hb,hm⟩
 ·refine ((h.th.set 1 (.int .i64 (f:Int))).congr (fun j hj=>?_)).setOther (fun e=>hs.2.1 e.symm) _
  match j,hj with
  | 0,_=>rfl
  | 1,_=>rfl
  | 2,_=>rfl
  | 3,_=>rfl
  | 4,_=>rfl
 ·refine ((h.mm e).kept (Below.heap_setCell _ _ _ _ (fun e'=>?_))).kept (Below.heap_setCell _ _ _ _ (fun e'=>hs.2.2 e'.symm))
  exact map_neT h.th (h.mm e) e'
 ·exact (h.kp.setCell (p:=⟨b,1,none⟩) (.inr h.lo) _).setCell (p:=⟨r,f,none⟩) (hs.1.elim .inl (fun q=>.inr q.1)) _

theorem bj_file {w:World} {S:Nat→Prop} {g:Nat} {s:Tr} (h:TM w S g s):BJ w S g w.heap.size w.heap.size 1 s (w.alloc (.cells #[.int .i64 1,.int .i64 0,.int .i64 0,.slice none 0 0,.map none] 69)):=by
 have hb0:Below w.heap.size w (w.alloc (.cells #[.int .i64 1,.int .i64 0,.int .i64 0,.slice none 0 0,.map none] 69)):=(Below.refl _ w).alloc (Nat.le_refl _) _
 have hlt:w.heap.size < (w.alloc (.cells #[.int .i64 1,.int .i64 0,.int .i64 0,.slice none 0 0,.map none] 69)).heap.size:=by simp
 refine ⟨?_,Kp.of hb0,Nat.le_refl _,hlt,Nat.le_refl _,hlt,World.rowIs_alloc w _ _ _ (fun i hi=>?_),fun e=>absurd e (by decide)⟩
 ·refine h.kept (fun x hx=>hb0.block x (h.lt x hx)) (fun x hx=>⟨.inl hx,?_,?_⟩) (fun x hx=>hx.1.elim (fun q=>Nat.lt_trans (h.lt x q) hlt) (fun q=>q.2))
  ·have:=h.lt x hx; omega
  ·have:=h.lt x hx; omega
 ·match i,hi with
  | 0,_=>rfl
  | 1,_=>rfl
  | 2,_=>rfl
  | 3,_=>rfl
  | 4,_=>rfl

theorem bj_dir {w:World} {S:Nat→Prop} {g:Nat} {s:Tr} (h:TM w S g s):BJ w S g w.heap.size (w.heap.size + 1) 2 s (((w.alloc (.cells #[.int .i64 2,.int .i64 0,.int .i64 0,.slice none 0 0,.map none] 69)).alloc (.map #[] 0)).setCell ⟨w.heap.size,4,none⟩ (.map (some (w.heap.size + 1)))):=by
 have hb0:Below w.heap.size w (w.alloc (.cells #[.int .i64 2,.int .i64 0,.int .i64 0,.slice none 0 0,.map none] 69)):=(Below.refl _ w).alloc (Nat.le_refl _) _
 have hr0:(w.alloc (.cells #[.int .i64 2,.int .i64 0,.int .i64 0,.slice none 0 0,.map none] 69)).rowIs w.heap.size 69 5 (fun i=>#[.int .i64 2,.int .i64 0,.int .i64 0,.slice none 0 0,.map none].getD i (.map none)):=World.rowIs_alloc w _ _ _ (fun i hi=>by
  match i,hi with
  | 0,_=>rfl
  | 1,_=>rfl
  | 2,_=>rfl
  | 3,_=>rfl
  | 4,_=>rfl)
 have hsz:(w.alloc (.cells #[.int .i64 2,.int .i64 0,.int .i64 0,.slice none 0 0,.map none] 69)).heap.size=w.heap.size + 1:=by simp
 have hm0:=MapS.made (w.alloc (.cells #[.int .i64 2,.int .i64 0,.int .i64 0,.slice none 0 0,.map none] 69))
 rw [hsz] at hm0
 generalize w.alloc (.cells #[.int .i64 2,.int .i64 0,.int .i64 0,.slice none 0 0,.map none] 69)=w1 at *
 have hb1:Below w.heap.size w1 (w1.alloc (.map #[] 0)):=(Below.refl _ w1).alloc (by omega) _
 have hr1:=hr0.alloc (.map #[] 0)
 have hsz2:((w1.alloc (.map #[] 0)).setCell ⟨w.heap.size,4,none⟩ (.map (some (w.heap.size + 1)))).heap.size=w.heap.size + 2:=by simp [World.setCell,hsz]
 have hb2:=(hb0.trans hb1).setCell (p:=⟨w.heap.size,4,none⟩) (Nat.le_refl _) (.map (some (w.heap.size + 1)))
 refine ⟨?_,Kp.of hb2,Nat.le_refl _,by omega,by omega,by omega,(hr1.set 4 _).congr (fun i hi=>?_),fun _=>hm0.kept (Below.heap_setCell _ _ _ _ (fun e=>by have e':w.heap.size + 1=w.heap.size:=e; omega))⟩
 ·refine h.kept (fun x hx=>hb2.block x (h.lt x hx)) (fun x hx=>⟨.inl hx,?_,?_⟩) (fun x hx=>hx.1.elim (fun q=>by have:=h.lt x q; omega) (fun q=>q.2))
  ·have:=h.lt x hx; omega
  ·have:=h.lt x hx; omega
 ·match i,hi with
  | 0,_=>rfl
  | 1,_=>rfl
  | 2,_=>rfl
  | 3,_=>rfl
  | 4,_=>rfl

def leastOf (g:Nat) (w:World):Nat:=(intOf ((w.cell? ⟨g,2,none⟩).getD undef)).toNat

def lenOf' (g:Nat) (w:World):Nat:=match w.cell? ⟨g,1,none⟩ with
 | some (.slice _ n _)=>n
 | _=>0

theorem leastOf_eq {w:World} {S:Nat→Prop} {g:Nat} {s:Tr} (h:TM w S g s):leastOf g w=s.least:=by
 unfold leastOf
 rw [h.tree_cells.2.2.1]
 simp [intOf]

theorem lenOf_eq {w:World} {S:Nat→Prop} {g:Nat} {s:Tr} (h:TM w S g s):lenOf' g w=s.row.length:=by
 unfold lenOf'
 rw [h.tree_cells.2.1]

theorem born_any {w:World} {S:Nat→Prop} {g f:Nat} {s:Tr} {k:Int} (h:TM w S g s) (hf:Free s f) (hk:k=1 ∨ k=2) (hfm:f ≤ 1800000000000) (hrm:s.row.length ≤ 1800000000000) :
  Calls Tryz.prog 23 #[.pointer (some ⟨g,0,none⟩),.int .i64 k] w fun e w'=>∃ b mp ra rc,e=.returned (.pointer (some ⟨b,0,none⟩))∧w.heap.size ≤ b∧b < w'.heap.size ∧
   TM w' (Up S w.heap.size w'.heap.size) g ({ s with row:=(pad s.row f).set f (some b),ra:=ra,rc:=rc,least:=f }.upd b (newT k f mp))∧Kp S w w':=by
 have HK:=hide hk
 have HT:=hide h
 have HFr:=hide hf
 have hw1:=World.rowIs_alloc w #[.int .i64 k,.int .i64 0,.int .i64 0,.slice none 0 0,.map none] 69 (fun i=>#[.int .i64 k,.int .i64 0,.int .i64 0,.slice none 0 0,.map none].getD i (.map none)) (fun i hi=>by
  match i,hi with
  | 0,_=>rfl
  | 1,_=>rfl
  | 2,_=>rfl
  | 3,_=>rfl
  | 4,_=>rfl)
 have hw2:=hw1.alloc (.map #[] 0)
 have f4:=fun j=>hw2.frozen j
 have c4:=hw2.cell (i:=4) (by simp)
 have hmk:=@run_makeMap Tryz.prog
 have hsz1:(w.alloc (.cells #[.int .i64 k,.int .i64 0,.int .i64 0,.slice none 0 0,.map none] 69)).heap.size=w.heap.size + 1:=by simp
 have HF:Hid (k=1→BJ w S g w.heap.size w.heap.size 1 s (w.alloc (.cells #[.int .i64 k,.int .i64 0,.int .i64 0,.slice none 0 0,.map none] 69))):=fun e=>by rw [e]; exact bj_file h
 have HD:Hid (k=2→BJ w S g w.heap.size (w.heap.size + 1) 2 s (((w.alloc (.cells #[.int .i64 k,.int .i64 0,.int .i64 0,.slice none 0 0,.map none] 69)).alloc (.map #[] 0)).setCell ⟨w.heap.size,4,none⟩ (.map (some (w.heap.size + 1))))):=fun e=>by rw [e]; exact bj_dir h
 clear h hk hf hw1 hw2
 go_enter Tryz.func23,Tryz.ntmps23
 go_upto_if 10 with fail
 change Code.wp _ _ _ _ (w.alloc (.cells #[.int .i64 k,.int .i64 0,.int .i64 0,.slice none 0 0,.map none] 69))
 generalize w.alloc (.cells #[.int .i64 k,.int .i64 0,.int .i64 0,.slice none 0 0,.map none] 69)=w1 at *
 go_cut [] (fun wx=>Hid (∃ mp,BJ w S g w.heap.size mp k s wx))
 case first =>
  rcases HK.out with e | e
  ·have HF:=hide (HF.out e)
   have d1:(k == 2)=false:=by rw [e]; rfl
   clear HD
   go_wp2_with fail
   go_meet
   exact ⟨_,by rw [e]; exact HF.out⟩
  ·have HD:=hide (HD.out e)
   have d1:(k == 2)=true:=by rw [e]; rfl
   clear HF
   go_wp2_with fail
   go_meet
   have hx:=HD.out
   rw [World.setCell_alloc_past _ _ _ _ (by omega)] at hx
   exact ⟨_,by rw [e]; exact hx⟩
 case rest =>
  obtain ⟨mp,hJ⟩:=hcut.out
  have hlf:=HFr.out.le
  have HJ:=hide hJ
  clear HF HD HK HT f4 c4 hmk hsz1 hcut hJ
  go_wp2_with fail
  go_loopw [] (fun wr=>Hid (∃ i,s.least ≤ i∧i ≤ f∧BJ w S g w.heap.size mp k (s.lst i) wr)) (fun wr=>f - leastOf g wr)
  case atStart=>exact ⟨s.least,Nat.le_refl _,hlf,HJ.out⟩
  case round =>
   obtain ⟨i,hi1,hi2,hJ⟩:=hrel.out
   clear HJ
   obtain ⟨_,c1,c2,cf⟩:=hJ.tm.tree_cells
   have hL:=leastOf_eq hJ.tm
   go_upto_region 4 with fail
   go_cut [37] (fun c wx=>c=.bool (decide (i < f))∧∃ q,wr.drewN q=wx)
   case first=>as_aux_lemma =>
    by_cases hlt:i < f
    ·obtain ⟨bb,hbb⟩:=HFr.out.full i hi1 hlt
     have hil:=HFr.out.lt hi1 hlt
     obtain ⟨r,hra,_,cr,_⟩:=hJ.tm.row.cell (j:=i) hil
     have hrow:(s.lst i).row=s.row:=rfl
     rw [hrow,hbb] at cr
     rw [hra,hrow] at c1
     simp only [Option.getD_some,ptrO,Option.map_some] at cr
     have e2:(s.lst i).least=i:=rfl
     rw [e2] at c2
     have i0:(0:Int) ≤ (i:Int):=by omega
     have i1:(i:Int) < (s.row.length:Int):=by omega
     clear hJ hbb hra hrow e2 HFr cf hL hrel
     generalize s.row.length=n at *
     generalize (s.lst i).rc=c at *
     go_quiet (fail)
     go_wp2_with fail
     go_meet
     exact ⟨by simp [hlt],_,rfl⟩
    ·obtain rfl:i=f:=by omega
     have e2:(s.lst i).least=i:=rfl
     have hrow:(s.lst i).row=s.row:=rfl
     rw [e2] at c2
     by_cases hil:i < s.row.length
     ·obtain ⟨r,hra,_,cr,_⟩:=hJ.tm.row.cell (j:=i) hil
      have hbb:s.row[i]?.getD none=none:=by rcases HFr.out.free with e | e <;> rw [e] <;> rfl
      rw [hrow,hbb] at cr
      rw [hra,hrow] at c1
      simp only [ptrO,Option.map_none] at cr
      have i0:(0:Int) ≤ (i:Int):=by omega
      have i1:(i:Int) < (s.row.length:Int):=by omega
      clear hJ hbb hra hrow e2 HFr cf hL hrel
      generalize s.row.length=n at *
      generalize (s.lst i).rc=c at *
      go_quiet (fail)
      go_wp2_with fail
      go_meet
      exact ⟨by simp,_,rfl⟩
     ·rw [hrow] at c1
      have i1:decide (i < s.row.length)=false:=by simp; omega
      clear hJ hrow e2 HFr cf hL hrel hil
      generalize s.row.length=n at *
      generalize (s.lst i).rc=c at *
      generalize (s.lst i).ra=ra at *
      go_quiet (fail)
      go_wp2_with fail
      go_meet
      exact ⟨by simp,_,rfl⟩
   case rest =>
    obtain ⟨rfl,q,rfl⟩:=hcut
    have hJq:=hJ.drewN q
    obtain ⟨_,c1,c2,cf⟩:=hJq.tm.tree_cells
    have e2:(s.lst i).least=i:=rfl
    rw [e2] at c2
    by_cases hlt:i < f
    ·have d1:decide (i < f)=true:=by simpa using hlt
     have e3:((i + 1:Nat):Int)=(i:Int) + 1:=by omega
     have hJ':=hJq.lst (i + 1)
     rw [e3] at hJ'
     have hL':=leastOf_eq hJ'.tm
     have HJ:Hid (s.least ≤ i + 1∧i + 1 ≤ f∧BJ w S g w.heap.size mp k (s.lst (i + 1)) ((wr.drewN q).setCell ⟨g,2,none⟩ (.int .i64 ((i:Int) + 1)))):=⟨by omega,by omega,hJ'⟩
     have HL:Hid (f - leastOf g ((wr.drewN q).setCell ⟨g,2,none⟩ (.int .i64 ((i:Int) + 1))) < f - leastOf g wr):=by
      show _ - _ < _ - _
      rw [hL,hL']
      show f - (i + 1) < f - i
      omega
     clear hJ hJq hJ' hL hL' c1 e2 HFr hrel
     rw [d1]
     go_wp2_with fail
     go_roundw
     case rel=>exact ⟨i + 1,HJ.out⟩
     case measure=>exact HL.out
    ·obtain rfl:i=f:=by omega
     have d1:decide (i < i)=false:=by simp
     have HJ:Hid (∃ j ra rc,j ≤ i + 1 - s.row.length∧BJ w S g w.heap.size mp k { s with row:=s.row ++ List.replicate j none,ra:=ra,rc:=rc,least:=i } (wr.drewN q)):=⟨0,s.ra,s.rc,by omega,by
      have e:({ s with row:=s.row ++ List.replicate 0 none,ra:=s.ra,rc:=s.rc,least:=i }:Tr)=s.lst i:=by simp [Tr.lst]
      rw [e]
      exact hJq⟩
     clear hJ hJq c1 c2 cf e2 hL hrel
     generalize wr.drewN q=w2 at *
     rw [d1]
     go_wp2_with fail
     go_loopw [] (fun wr=>Hid (∃ j ra rc,j ≤ i + 1 - s.row.length∧BJ w S g w.heap.size mp k { s with row:=s.row ++ List.replicate j none,ra:=ra,rc:=rc,least:=i } wr)) (fun wr=>i + 1 - lenOf' g wr)
     case atStart=>exact HJ.out
     case round =>
      obtain ⟨j,ra,rc,hj,hJ⟩:=hrel.out
      clear HJ
      obtain ⟨_,c1,c2,cf⟩:=hJ.tm.tree_cells
      have hL:=lenOf_eq hJ.tm
      have hlen:(s.row ++ List.replicate j none).length=s.row.length + j:=by simp
      simp only [hlen] at c1 hL
      go_upto_region 6 with fail
      go_cut [54] (fun c wx=>c=.bool (decide (s.row.length + j ≤ i))∧∃ q,wr.drewN q=wx)
      case first=>as_aux_lemma =>
       clear hJ hL hrel
       generalize s.row.length + j=n at *
       by_cases hle:n ≤ i
       ·have d2:decide (n ≤ i)=true:=by simpa using hle
        go_quiet (fail)
        go_wp2_with fail
        go_meet
        exact ⟨by simp [d2],_,rfl⟩
       ·have d2:decide (n ≤ i)=false:=by simpa using hle
        go_quiet (fail)
        go_wp2_with fail
        go_meet
        exact ⟨by simp [d2],_,rfl⟩
      case rest =>
       obtain ⟨rfl,q,rfl⟩:=hcut
       have hJq:=hJ.drewN q
       obtain ⟨_,c1,c2,cf⟩:=hJq.tm.tree_cells
       simp only [hlen] at c1
       by_cases hle:s.row.length + j ≤ i
       ·have d2:decide (s.row.length + j ≤ i)=true:=by simpa using hle
        obtain ⟨a',c',w1,R,hJ',f1,cc,hcc⟩:=hJq.app (by simp only [hlen]; omega)
        simp only [hlen] at R hJ'
        have hL':=lenOf_eq hJ'.tm
        have e4:(s.row ++ List.replicate j none) ++ [none]=s.row ++ List.replicate (j + 1) none:=by
         rw [List.append_assoc]
         congr 1
         exact (List.replicate_succ' ..).symm
        simp only [e4] at hJ' hL'
        have hlen':(s.row ++ List.replicate (j + 1) none).length=s.row.length + j + 1:=by simp; omega
        simp only [hlen'] at hL'
        have R:=hide R
        have HJ:Hid (∃ j' ra rc,j' ≤ i + 1 - s.row.length∧BJ w S g w.heap.size mp k { s with row:=s.row ++ List.replicate j' none,ra:=ra,rc:=rc,least:=i } (w1.setCell ⟨g,1,none⟩ (.slice a' (s.row.length + j + 1) c'))):=⟨j + 1,a',c',by omega,hJ'⟩
        have HL:Hid (i + 1 - lenOf' g (w1.setCell ⟨g,1,none⟩ (.slice a' (s.row.length + j + 1) c')) < i + 1 - lenOf' g wr):=by
         show _ - _ < _ - _
         rw [hL,hL']
         omega
        clear hJ hJq hJ' hL hL' HFr hrel hlen hlen' e4
        generalize s.row.length + j=n at *
        generalize wr.drewN q=w2 at *
        rw [d2]
        go_wp2_with (at_builtin; refine wpList_append_run 62 rfl _ _ rfl _ _ _ rfl rfl (unhide R) ?_; clear R)
        go_roundw
        case rel=>exact HJ.out
        case measure=>exact HL.out
       ·have d2:decide (s.row.length + j ≤ i)=false:=by simpa using hle
        have hpad:s.row ++ List.replicate j none=pad s.row i:=by
         unfold pad
         congr 2
         omega
        have hif:i < s.row.length + j:=by omega
        obtain ⟨r,hra,_,cr,crf⟩:=hJq.tm.row.cell (j:=i) (by simp only [hlen]; exact hif)
        simp only [hpad] at hJq cr
        have hra':ra=some ⟨r,0,none⟩:=hra
        have hlast:=hJq.last hra i
        rw [hra'] at c1
        have t1:=hJq.th.cell (i:=1) (by omega)
        have tf:=fun j=>hJq.th.frozen j
        have HR:Hid (w.heap.size < (wr.drewN q).heap.size ∧
          TM (((wr.drewN q).setCell ⟨w.heap.size,1,none⟩ (.int .i64 (i:Int))).setCell ⟨r,i,none⟩ (.pointer (some ⟨w.heap.size,0,none⟩))) (Up S w.heap.size (wr.drewN q).heap.size) g ({ s with row:=(pad s.row i).set i (some w.heap.size),ra:=ra,rc:=rc,least:=i }.upd w.heap.size (newT k i mp)) ∧
          Kp S w (((wr.drewN q).setCell ⟨w.heap.size,1,none⟩ (.int .i64 (i:Int))).setCell ⟨r,i,none⟩ (.pointer (some ⟨w.heap.size,0,none⟩)))) :=
         ⟨hJq.hi,hlast.1,hlast.2⟩
        have HZ:Hid ((((wr.drewN q).setCell ⟨w.heap.size,1,none⟩ (.int .i64 (i:Int))).setCell ⟨r,i,none⟩ (.pointer (some ⟨w.heap.size,0,none⟩))).heap.size=(wr.drewN q).heap.size):=by unfold Hid; simp [World.setCell]
        have i0:(0:Int) ≤ (i:Int):=by omega
        have i1:(i:Int) < ((s.row.length + j:Nat):Int):=by omega
        have hne:r ≠ w.heap.size:=(hJq.tm.sr r hra).2.1
        clear hJ hJq hL hpad hra hra' hlast HFr hrel hlen hle hj hif
        generalize hn:s.row.length + j=n at *
        generalize wr.drewN q=w2 at *
        rw [d2]
        go_wp2_with fail
        go_region
        go_wp2_with fail
        go_ret
        obtain ⟨h1,h2,h3⟩:=HR.out
        have hz:=HZ.out
        generalize (w2.setCell ⟨w.heap.size,1,none⟩ (.int .i64 (i:Int))).setCell ⟨r,i,none⟩ (.pointer (some ⟨w.heap.size,0,none⟩))=wf at *
        rw [← hz] at h1 h2
        exact ⟨w.heap.size,mp,ra,rc,rfl,Nat.le_refl _,h1,h2.kept (fun _ _=>rfl) (fun _ h=>h) h2.lt,h3.os,h3.tape,h3.output,h3.size,h3.block⟩

end Go.Proofs.YtknmgefpjdfenaaGreat

/- enter, where a new name is to stand for a new thing. -/
namespace Go.Proofs.YtknmgefpjdfenaaGreat
set_option maxRecDepth 100000
set_option maxHeartbeats 8000000
open Go.RowKit Go.Shelf Go.Maps
set_option linter.unusedVariables false

theorem plc_cases {s:Tr} {r:Nat} (hk:Ok s r) (ms:List (List UInt8)):((plc s ms r).2=none∧((plc s ms r).1=11 ∨ (plc s ms r).1=13)) ∨ ∃ d t,plc s ms r=(0,some d)∧s.T d=some t∧t.k=2:=by
 obtain ⟨tr,htr,_⟩:=hk.dir
 unfold plc
 rcases go_ends hk ms r ⟨tr,htr⟩ with ⟨h1,c,t,h2,h3⟩ | ⟨h1,h2⟩
 ·rw [h2]
  rcases hk.kind c t h3 with e | e
  ·simp [h3,e]
  ·right
   exact ⟨c,t,by simp [h3,e],h3,e⟩
 ·rw [h2]
  exact .inl ⟨rfl,h1⟩

theorem plA_none {s:Tr} {r:Nat} {ms:List (List UInt8)} (z:List UInt8) (h:(plc s ms r).2=none):plA s ms z r=.tuple #[.agg #[.pointer none,.string ⟨#[]⟩],.int .i64 (plc s ms r).1]:=by
 unfold plA; rw [h]

theorem plA_some {s:Tr} {r d:Nat} {ms:List (List UInt8)} (z:List UInt8) (h:plc s ms r=(0,some d)):plA s ms z r=.tuple #[.agg #[.pointer (some ⟨d,0,none⟩),.string (St z)],.int .i64 0]:=by
 unfold plA; rw [h]

theorem not_root {p z:List UInt8} {ms:List (List UInt8)} (h:spl p=some (ms ++ [z])):((St p).toList == [47])=false:=by
 obtain ⟨ok,rfl,_⟩:=spl_some h
 rw [St_toList]
 have:jn (ms ++ [z]) ≠ [47]:=fun e=>by
  have:=jn_inj ok ((okN_take ok 0:okN []=true)) (e:jn (ms ++ [z])=jn [])
  simp at this
 simpa using this

theorem name_len {p z:List UInt8} {ms:List (List UInt8)} (h:spl p=some (ms ++ [z])):z.length ≤ 200:=by
 have:=(nmB_len (((okN_iff _).1 (spl_some h).1).2.1 z (by simp))).2
 omega

def BornP (u:World) (S:Nat→Prop) (g f:Nat) (s:Tr) (k:Int) (e:Ending) (w':World):Prop :=
 ∃ b mp ra rc,e=.returned (.pointer (some ⟨b,0,none⟩))∧u.heap.size ≤ b∧b < w'.heap.size ∧
   TM w' (Up S u.heap.size w'.heap.size) g ({ s with row:=(pad s.row f).set f (some b),ra:=ra,rc:=rc,least:=f }.upd b (newT k f mp))∧Kp S u w'

theorem mkdir1_any {w:World} {S:Nat→Prop} {g f m:Nat} {s:Tr} (h:TM w S g s) (hf:Free s f) (hfm:f ≤ 1800000000000) (hrm:s.row.length ≤ 1800000000000) (hm:w.cell? ⟨m,0,none⟩=some (.pointer (some ⟨g,0,none⟩))) :
  Calls Tryz.prog 67 #[.pointer (some ⟨m,0,none⟩)] w fun e w'=>BornP w S g f s 2 e w':=by
 have K:Hid (Calls Tryz.prog 23 #[.pointer (some ⟨g,0,none⟩),.int .i64 2] w fun e w'=>BornP w S g f s 2 e w'):=born_any h hf (.inr rfl) hfm hrm
 clear h hf hfm hrm
 go_enter Tryz.func67,Tryz.ntmps67
 go_wp2_with fail
 refine (unhide K).mono ?_
 rintro e w1 ⟨b,mp,ra,rc,rfl,h1,h2,h3,h4⟩
 have H:=hide (And.intro h1 (And.intro h2 (And.intro h3 h4)))
 clear K h1 h2 h3 h4
 go_wp2_with fail
 go_ret
 exact ⟨b,mp,ra,rc,rfl,H.out⟩

theorem create1_any {w:World} {S:Nat→Prop} {g f m:Nat} {s:Tr} (h:TM w S g s) (hf:Free s f) (hfm:f ≤ 1800000000000) (hrm:s.row.length ≤ 1800000000000) (hm:w.cell? ⟨m,0,none⟩=some (.pointer (some ⟨g,0,none⟩))) :
  Calls Tryz.prog 68 #[.pointer (some ⟨m,0,none⟩)] w fun e w'=>BornP w S g f s 1 e w':=by
 have K:Hid (Calls Tryz.prog 23 #[.pointer (some ⟨g,0,none⟩),.int .i64 1] w fun e w'=>BornP w S g f s 1 e w'):=born_any h hf (.inl rfl) hfm hrm
 clear h hf hfm hrm
 go_enter Tryz.func68,Tryz.ntmps68
 go_wp2_with fail
 refine (unhide K).mono ?_
 rintro e w1 ⟨b,mp,ra,rc,rfl,h1,h2,h3,h4⟩
 have H:=hide (And.intro h1 (And.intro h2 (And.intro h3 h4)))
 clear K h1 h2 h3 h4
 go_wp2_with fail
 go_ret
 exact ⟨b,mp,ra,rc,rfl,H.out⟩

def Tr.made (s:Tr) (f:Nat) (k:Int) (d:Nat) (t:Th) (z:List UInt8) (b mp:Nat) (ra:Option Addr) (rc:Nat):Tr :=
 ({ s with row:=(pad s.row f).set f (some b),ra:=ra,rc:=rc,least:=f }.upd b { newT k f mp with l:=1 }).upd d { t with ns:=putN z b t.ns }

theorem enter_root (w:World) (g:Value) (fn:Value):Calls Tryz.prog 66 #[g,.string ⟨#[47]⟩,fn] w fun e w'=>e=.returned (.int .i64 12)∧w'=w:=by
 go_enter Tryz.func66,Tryz.ntmps66
 go_wp2_with fail
 go_ret
 exact ⟨rfl,rfl⟩

theorem enter_err {w:World} {S:Nat→Prop} {g r:Nat} {s:Tr} (h:TM w S g s) (hk:Ok s r) {p z:List UInt8} {ms:List (List UInt8)} (hp:spl p=some (ms ++ [z])) (fn:Value) (he:(plc s ms r).2=none∧((plc s ms r).1=11 ∨ (plc s ms r).1=13)) :
  Calls Tryz.prog 66 #[.pointer (some ⟨g,0,none⟩),.string (St p),fn] w fun e w'=>e=.returned (.int .i64 (plc s ms r).1)∧Below w.heap.size w w':=by
 have K:=place_any h hk hp
 rw [plA_none z he.1] at K
 have K:=hide K
 have dne:=not_root hp
 have d1:((plc s ms r).1 != 0)=true:=by rcases he.2 with e | e <;> rw [e] <;> rfl
 clear h hk hp he
 generalize (plc s ms r).1=ee at *
 generalize St p=sp at *
 go_enter Tryz.func66,Tryz.ntmps66
 go_wp2_with fail
 refine (unhide K).mono ?_
 rintro e w1 ⟨rfl,hb⟩
 have HB:=hide (hb.alloc hb.size (.cells #[.pointer none,.string ⟨#[]⟩] 92))
 clear K hb
 go_wp2_with fail
 go_ret
 exact ⟨rfl,HB.out⟩

theorem enter_has {w:World} {S:Nat→Prop} {g r d:Nat} {s:Tr} {t:Th} (h:TM w S g s) (hk:Ok s r) {p z:List UInt8} {ms:List (List UInt8)} (hp:spl p=some (ms ++ [z])) (fn:Value) (he:plc s ms r=(0,some d)) (ht:s.T d=some t) (h2:t.k=2) {c:Nat} (hc:t.ns.lookup z=some c) :
  Calls Tryz.prog 66 #[.pointer (some ⟨g,0,none⟩),.string (St p),fn] w fun e w'=>e=.returned (.int .i64 12)∧Below w.heap.size w w':=by
 have K:=place_any h hk hp
 rw [plA_some z he] at K
 have K:=hide K
 have dne:=not_root hp
 have hz:=name_len hp
 have KN:Hid (∀ u,TM u S g s→Calls Tryz.prog 57 #[.agg #[.pointer (some ⟨d,0,none⟩),.string (St z)]] u fun e w'=>e=.returned (.pointer (some ⟨c,0,none⟩))∧Below u.heap.size u w'):=fun u hu=>by
  have:=named_any hu ht h2 hz
  rw [hc] at this
  exact this
 have HT:=hide h
 clear h hk hp he ht h2 hc hz
 generalize St p=sp at *
 generalize St z=sz at *
 go_enter Tryz.func66,Tryz.ntmps66
 go_wp2_with fail
 refine (unhide K).mono ?_
 rintro e w1 ⟨rfl,hb⟩
 have hb1:Below w.heap.size w (w1.alloc (.cells #[.pointer (some ⟨d,0,none⟩),.string sz] 92)):=hb.alloc hb.size _
 have HB:=hide hb1
 have KN:=hide (KN.out _ (HT.out.below hb1))
 have hC:=C2.new w1 (.pointer (some ⟨d,0,none⟩)) (.string sz)
 have k0:=hC.c0
 have k1:=hC.c1
 clear K hb hb1 hC HT
 go_wp2_with fail
 generalize w1.alloc (.cells #[.pointer (some ⟨d,0,none⟩),.string sz] 92)=w2 at *
 refine (unhide KN).mono ?_
 rintro e w3 ⟨rfl,hb⟩
 have HB:=hide (HB.out.trans (hb.mono HB.out.size))
 clear KN hb k0 k1
 go_wp2_with fail
 go_ret
 exact ⟨rfl,HB.out⟩

theorem rowC_ne {u:World} {b n:Nat} {f:Nat→Value} {x y:Value} (h:u.rowIs b 69 n f) (h':C2 u b x y):False:=by
 obtain ⟨c,hb,_⟩:=h
 have h'':u.heap[b]?=_:=h'
 rw [hb] at h''
 exact absurd (cells_ty h'') (by decide)

theorem Tr.upd_upd (s:Tr) (b:Nat) (t t':Th):(s.upd b t).upd b t'=s.upd b t':=by
 unfold Tr.upd
 congr 1
 funext k
 simp only
 split <;> rfl

theorem enter_mk {w:World} {S:Nat→Prop} {g r d f m:Nat} {s:Tr} {t:Th} (h:TM w S g s) (hk:Ok s r) {p z:List UInt8} {ms:List (List UInt8)} (hp:spl p=some (ms ++ [z])) (he:plc s ms r=(0,some d)) (ht:s.T d=some t) (h2:t.k=2) (hc:t.ns.lookup z=none)
  (hns:t.ns.length < 1000000000000000) (KB:∀ u,TM u S g s→Below w.heap.size w u→Calls Tryz.prog 67 #[.pointer (some ⟨m,0,none⟩)] u fun e w'=>BornP u S g f s 2 e w') :
  Calls Tryz.prog 66 #[.pointer (some ⟨g,0,none⟩),.string (St p),.func (.func 67) #[] #[.pointer (some ⟨m,0,none⟩)]] w fun e w'=>∃ b mp ra rc,e=.returned (.int .i64 0)∧w.heap.size ≤ b∧TM w' (Up S w.heap.size w'.heap.size) g (s.made f 2 d t z b mp ra rc)∧Kp S w w':=by
 have K:=place_any h hk hp
 rw [plA_some z he] at K
 have K:=hide K
 have dne:=not_root hp
 have hz:=name_len hp
 have hdS:d < w.heap.size:=h.lt d (h.sb d t ht)
 have hSw:=h.lt
 have KN:Hid (∀ u,TM u S g s→Calls Tryz.prog 57 #[.agg #[.pointer (some ⟨d,0,none⟩),.string (St z)]] u fun e w'=>e=.returned (.pointer none)∧Below u.heap.size u w'):=fun u hu=>by
  have:=named_any hu ht h2 hz
  rw [hc] at this
  exact this
 have HT:=hide h
 have KB:=hide KB
 have HD:=hide (And.intro ht (And.intro h2 (And.intro hz (And.intro hns (And.intro hdS hSw)))))
 clear h hk hp he ht h2 hc hz hns hdS hSw
 generalize St p=sp at *
 generalize hsz:St z=sz at *
 go_enter Tryz.func66,Tryz.ntmps66
 go_wp2_with fail
 refine (unhide K).mono ?_
 rintro e w1 ⟨rfl,hb⟩
 have hb1:Below w.heap.size w (w1.alloc (.cells #[.pointer (some ⟨d,0,none⟩),.string sz] 92)):=hb.alloc hb.size _
 have HB:=hide hb1
 have HT:=hide (HT.out.below hb1)
 have KN:=hide (KN.out _ HT.out)
 have hC:=C2.new w1 (.pointer (some ⟨d,0,none⟩)) (.string sz)
 have HC:=hide hC
 have k0:=hC.c0
 have k1:=hC.c1
 have hm2:w.heap.size ≤ w1.heap.size:=hb.size
 clear K hb hb1 hC
 go_wp2_with fail
 generalize w1.alloc (.cells #[.pointer (some ⟨d,0,none⟩),.string sz] 92)=w2 at *
 generalize w1.heap.size=m2 at *
 refine (unhide KN).mono ?_
 rintro e w3 ⟨rfl,hb⟩
 have HB:=hide (HB.out.trans (hb.mono HB.out.size))
 have HT:=hide (HT.out.below hb)
 have HC:=hide (HC.out.below hb HC.out.lt)
 have KB:=hide (KB.out w3 HT.out HB.out)
 clear KN hb k0 k1
 go_wp2_with fail
 refine (unhide KB).mono ?_
 rintro e w4 ⟨b,mp,ra,rc,rfl,hb1,hb2,h4,hkp⟩
 obtain ⟨ht,h2,hz,hns,hdS,hSw⟩:=HD.out
 have hbd:d ≠ b:=by have:=HB.out.size; omega
 have hmn2:¬ S m2:=fun e=>by have:=hSw m2 e; omega
 have HC4:C2 w4 m2 (.pointer (some ⟨d,0,none⟩)) (.string sz):=(hkp.block m2 HC.out.lt hmn2).trans HC.out
 have hb0:({ s with row:=(pad s.row f).set f (some b),ra:=ra,rc:=rc,least:=f }.upd b (newT 2 f mp)).T b=some (newT 2 f mp):=by rw [Tr.upd_T,if_pos rfl]
 obtain ⟨_,_,t2,_,_,tf⟩:=h4.thing_cells hb0
 have h5:=h4.setH hb0 1
 rw [Tr.upd_upd] at h5
 have hd5:({ s with row:=(pad s.row f).set f (some b),ra:=ra,rc:=rc,least:=f }.upd b { newT 2 f mp with l:=1 }).T d=some t:=by rw [Tr.upd_T,if_neg hbd]; exact ht
 have k5:=h5.dir_map hd5 h2
 have HC5:C2 (w4.setCell ⟨b,2,none⟩ (.int .i64 1)) m2 (.pointer (some ⟨d,0,none⟩)) (.string sz):=(Below.heap_setCell _ _ _ _ (fun e=>by
  have e':m2=b:=e
  rw [e'] at HC4
  exact rowC_ne (h4.thg b _ hb0) HC4)).trans HC4
 have h5d:TM (w4.setCell ⟨b,2,none⟩ (.int .i64 1)).drew _ g _:=h5.kept (fun _ _=>rfl) (fun _ h=>h) h5.lt
 have hm5:=h5d.map d t hd5 h2
 obtain ⟨u',hr,hu,hg,hsz'⟩:=hm5.put hz b hns
 have h6:=h5d.setM hd5 h2 hu hg hsz'
 have hkp5':Kp S w3 (w4.setCell ⟨b,2,none⟩ (.int .i64 1)):=hkp.setCell (p:=⟨b,2,none⟩) (.inr hb1) _
 have hkp5:Kp S w3 (w4.setCell ⟨b,2,none⟩ (.int .i64 1)).drew:=⟨hkp5'.os,hkp5'.tape,hkp5'.output,hkp5'.size,hkp5'.block⟩
 have hmpS:S t.mp ∨ w3.heap.size ≤ t.mp:=(h5.sm d t hd5 h2).elim .inl (fun q=>.inr q.1)
 have hkp6:Kp S w3 u':=hkp5.grown hg hmpS
 have t2':w4.cell? ⟨b,2,none⟩=some (.int .i64 0):=t2
 have k0:=HC5.c0
 have k1:=HC5.c1
 rw [hsz] at hr
 have HR:Hid (w.heap.size ≤ b∧TM u' (Up S w.heap.size u'.heap.size) g (s.made f 2 d t z b mp ra rc)∧Kp S w u'):=by
  have hws:=HB.out.size
  refine ⟨by omega,?_,(Kp.of HB.out).trans hkp6 (fun k hk=>.inl hk)⟩
  have hz6:u'.heap.size=w4.heap.size:=by rw [hsz']; simp [World.setCell,World.drew]
  rw [hz6]
  refine h6.kept (fun _ _=>rfl) (fun x hx=>?_) (fun x hx=>?_)
  ·rcases hx with q | q
   ·exact .inl q
   ·exact .inr ⟨by omega,q.2⟩
  ·rw [hz6]
   rcases hx with q | q
   ·have:=hSw x q; have:=hkp.size; omega
   ·exact q.2
 clear h4 h5 h5d h6 hkp hkp5 hkp5' hkp6 hmpS hu hg hsz' hm5 HC5 HC4 hd5 hb0 t2 HC HT HB hm2 hmn2 hbd hz hns hdS hSw ht h2 HD KB hb1 hb2
 generalize t.mp=tm at *
 go_upto_region 10 with fail
 generalize w4.setCell ⟨b,2,none⟩ (.int .i64 1)=w5 at *
 go_region
 go_wp2_with fail
 go_ret
 exact ⟨b,mp,ra,rc,rfl,HR.out⟩

theorem enter_cr {w:World} {S:Nat→Prop} {g r d f m:Nat} {s:Tr} {t:Th} (h:TM w S g s) (hk:Ok s r) {p z:List UInt8} {ms:List (List UInt8)} (hp:spl p=some (ms ++ [z])) (he:plc s ms r=(0,some d)) (ht:s.T d=some t) (h2:t.k=2) (hc:t.ns.lookup z=none)
  (hns:t.ns.length < 1000000000000000) (KB:∀ u,TM u S g s→Below w.heap.size w u→Calls Tryz.prog 68 #[.pointer (some ⟨m,0,none⟩)] u fun e w'=>BornP u S g f s 1 e w') :
  Calls Tryz.prog 66 #[.pointer (some ⟨g,0,none⟩),.string (St p),.func (.func 68) #[] #[.pointer (some ⟨m,0,none⟩)]] w fun e w'=>∃ b mp ra rc,e=.returned (.int .i64 0)∧w.heap.size ≤ b∧TM w' (Up S w.heap.size w'.heap.size) g (s.made f 1 d t z b mp ra rc)∧Kp S w w':=by
 have K:=place_any h hk hp
 rw [plA_some z he] at K
 have K:=hide K
 have dne:=not_root hp
 have hz:=name_len hp
 have hdS:d < w.heap.size:=h.lt d (h.sb d t ht)
 have hSw:=h.lt
 have KN:Hid (∀ u,TM u S g s→Calls Tryz.prog 57 #[.agg #[.pointer (some ⟨d,0,none⟩),.string (St z)]] u fun e w'=>e=.returned (.pointer none)∧Below u.heap.size u w'):=fun u hu=>by
  have:=named_any hu ht h2 hz
  rw [hc] at this
  exact this
 have HT:=hide h
 have KB:=hide KB
 have HD:=hide (And.intro ht (And.intro h2 (And.intro hz (And.intro hns (And.intro hdS hSw)))))
 clear h hk hp he ht h2 hc hz hns hdS hSw
 generalize St p=sp at *
 generalize hsz:St z=sz at *
 go_enter Tryz.func66,Tryz.ntmps66
 go_wp2_with fail
 refine (unhide K).mono ?_
 rintro e w1 ⟨rfl,hb⟩
 have hb1:Below w.heap.size w (w1.alloc (.cells #[.pointer (some ⟨d,0,none⟩),.string sz] 92)):=hb.alloc hb.size _
 have HB:=hide hb1
 have HT:=hide (HT.out.below hb1)
 have KN:=hide (KN.out _ HT.out)
 have hC:=C2.new w1 (.pointer (some ⟨d,0,none⟩)) (.string sz)
 have HC:=hide hC
 have k0:=hC.c0
 have k1:=hC.c1
 have hm2:w.heap.size ≤ w1.heap.size:=hb.size
 clear K hb hb1 hC
 go_wp2_with fail
 generalize w1.alloc (.cells #[.pointer (some ⟨d,0,none⟩),.string sz] 92)=w2 at *
 generalize w1.heap.size=m2 at *
 refine (unhide KN).mono ?_
 rintro e w3 ⟨rfl,hb⟩
 have HB:=hide (HB.out.trans (hb.mono HB.out.size))
 have HT:=hide (HT.out.below hb)
 have HC:=hide (HC.out.below hb HC.out.lt)
 have KB:=hide (KB.out w3 HT.out HB.out)
 clear KN hb k0 k1
 go_wp2_with fail
 refine (unhide KB).mono ?_
 rintro e w4 ⟨b,mp,ra,rc,rfl,hb1,hb2,h4,hkp⟩
 obtain ⟨ht,h2,hz,hns,hdS,hSw⟩:=HD.out
 have hbd:d ≠ b:=by have:=HB.out.size; omega
 have hmn2:¬ S m2:=fun e=>by have:=hSw m2 e; omega
 have HC4:C2 w4 m2 (.pointer (some ⟨d,0,none⟩)) (.string sz):=(hkp.block m2 HC.out.lt hmn2).trans HC.out
 have hb0:({ s with row:=(pad s.row f).set f (some b),ra:=ra,rc:=rc,least:=f }.upd b (newT 1 f mp)).T b=some (newT 1 f mp):=by rw [Tr.upd_T,if_pos rfl]
 obtain ⟨_,_,t2,_,_,tf⟩:=h4.thing_cells hb0
 have h5:=h4.setH hb0 1
 rw [Tr.upd_upd] at h5
 have hd5:({ s with row:=(pad s.row f).set f (some b),ra:=ra,rc:=rc,least:=f }.upd b { newT 1 f mp with l:=1 }).T d=some t:=by rw [Tr.upd_T,if_neg hbd]; exact ht
 have k5:=h5.dir_map hd5 h2
 have HC5:C2 (w4.setCell ⟨b,2,none⟩ (.int .i64 1)) m2 (.pointer (some ⟨d,0,none⟩)) (.string sz):=(Below.heap_setCell _ _ _ _ (fun e=>by
  have e':m2=b:=e
  rw [e'] at HC4
  exact rowC_ne (h4.thg b _ hb0) HC4)).trans HC4
 have h5d:TM (w4.setCell ⟨b,2,none⟩ (.int .i64 1)).drew _ g _:=h5.kept (fun _ _=>rfl) (fun _ h=>h) h5.lt
 have hm5:=h5d.map d t hd5 h2
 obtain ⟨u',hr,hu,hg,hsz'⟩:=hm5.put hz b hns
 have h6:=h5d.setM hd5 h2 hu hg hsz'
 have hkp5':Kp S w3 (w4.setCell ⟨b,2,none⟩ (.int .i64 1)):=hkp.setCell (p:=⟨b,2,none⟩) (.inr hb1) _
 have hkp5:Kp S w3 (w4.setCell ⟨b,2,none⟩ (.int .i64 1)).drew:=⟨hkp5'.os,hkp5'.tape,hkp5'.output,hkp5'.size,hkp5'.block⟩
 have hmpS:S t.mp ∨ w3.heap.size ≤ t.mp:=(h5.sm d t hd5 h2).elim .inl (fun q=>.inr q.1)
 have hkp6:Kp S w3 u':=hkp5.grown hg hmpS
 have t2':w4.cell? ⟨b,2,none⟩=some (.int .i64 0):=t2
 have k0:=HC5.c0
 have k1:=HC5.c1
 rw [hsz] at hr
 have HR:Hid (w.heap.size ≤ b∧TM u' (Up S w.heap.size u'.heap.size) g (s.made f 1 d t z b mp ra rc)∧Kp S w u'):=by
  have hws:=HB.out.size
  refine ⟨by omega,?_,(Kp.of HB.out).trans hkp6 (fun k hk=>.inl hk)⟩
  have hz6:u'.heap.size=w4.heap.size:=by rw [hsz']; simp [World.setCell,World.drew]
  rw [hz6]
  refine h6.kept (fun _ _=>rfl) (fun x hx=>?_) (fun x hx=>?_)
  ·rcases hx with q | q
   ·exact .inl q
   ·exact .inr ⟨by omega,q.2⟩
  ·rw [hz6]
   rcases hx with q | q
   ·have:=hSw x q; have:=hkp.size; omega
   ·exact q.2
 clear h4 h5 h5d h6 hkp hkp5 hkp5' hkp6 hmpS hu hg hsz' hm5 HC5 HC4 hd5 hb0 t2 HC HT HB hm2 hmn2 hbd hz hns hdS hSw ht h2 HD KB hb1 hb2
 generalize t.mp=tm at *
 go_upto_region 10 with fail
 generalize w4.setCell ⟨b,2,none⟩ (.int .i64 1)=w5 at *
 go_region
 go_wp2_with fail
 go_ret
 exact ⟨b,mp,ra,rc,rfl,HR.out⟩

end Go.Proofs.YtknmgefpjdfenaaGreat

/- Create and Mkdir. -/
namespace Go.Proofs.YtknmgefpjdfenaaGreat
set_option maxRecDepth 100000
set_option maxHeartbeats 8000000
open Go.RowKit Go.Shelf Go.Maps
set_option linter.unusedVariables false

theorem refE_one (p:List UInt8):refE [p]=splE p:=by
 unfold refE splE
 cases h:spl p with
 | none=>simp [h]
 | some ns=>simp [h]

theorem refuses_one {w:World} {S:Nat→Prop} {g:Nat} {s:Tr} (h:TM w S g s) (hr:s.row ≠ []) {p:List UInt8} (hp:p.length ≤ 9223372036854775807) {v:World} (hv:Below w.heap.size w v) :
  Calls Tryz.prog 52 #[.pointer (some ⟨g,0,none⟩),.slice (some ⟨v.heap.size,0,none⟩) 1 1] (v.alloc (.cells #[.string (St p)] 9)) fun e w'=>e=.returned (.int .i64 (splE p))∧Below w.heap.size w w':=by
 have hb:Below w.heap.size w (v.alloc (.cells #[.string (St p)] 9)):=hv.alloc hv.size _
 have hh:HasS (v.alloc (.cells #[.string (St p)] 9)) (some ⟨v.heap.size,0,none⟩) 1 [p]:=by
  refine ⟨rfl,fun _=>⟨v.heap.size,0,rfl,by simp,fun j hj=>?_⟩⟩
  obtain rfl:j=0:=by omega
  simp only [World.cell?,World.alloc_heap_new]
  rfl
 have:=refuses_any (h.below hb) hr _ 1 1 [p] hh (by omega) (fun j=>by
  cases j with
  | zero=>simpa using hp
  | succ j=>simp)
 rw [refE_one] at this
 refine this.mono ?_
 rintro e w' ⟨rfl,h2⟩
 exact ⟨rfl,hb.trans (h2.mono hb.size)⟩

theorem splE_of {p:List UInt8} {ns:List (List UInt8)} (h:spl p=some ns):splE p=0:=by unfold splE; rw [h]; rfl

theorem mkdir_bad {w:World} {S:Nat→Prop} {g:Nat} {s:Tr} (h:TM w S g s) (hr:s.row ≠ []) {p:List UInt8} (hp:p.length ≤ 9223372036854775807) (hs:spl p=none) :
  Calls Tryz.prog 21 #[.pointer (some ⟨g,0,none⟩),.string (St p)] w fun e w'=>e=.returned (.int .i64 16)∧Below w.heap.size w w':=by
 have hv:Below w.heap.size w (w.alloc (.cells #[.pointer (some ⟨g,0,none⟩)] 26)):=(Below.refl _ w).alloc (Nat.le_refl _) _
 have K:=refuses_one (h.below hv) hr hp (Below.refl _ _)
 rw [splE_none hs,show (w.alloc (.cells #[.pointer (some ⟨g,0,none⟩)] 26)).heap.size=w.heap.size + 1 by simp] at K
 have K:=hide K
 have HV:=hide hv
 have HZ:Hid ((w.alloc (.cells #[.pointer (some ⟨g,0,none⟩)] 26)).heap.size=w.heap.size + 1):=by unfold Hid; simp
 have HC0:Hid ((w.alloc (.cells #[.pointer (some ⟨g,0,none⟩)] 26)).cell? ⟨w.heap.size,0,none⟩=some (.pointer (some ⟨g,0,none⟩))):=cell_box (World.alloc_heap_new _ _)
 clear h hr hp hs hv
 generalize St p=sp at *
 go_enter Tryz.func21,Tryz.ntmps21
 go_wp2_with fail
 generalize w.alloc (.cells #[.pointer (some ⟨g,0,none⟩)] 26)=w0 at *
 refine (unhide K).mono ?_
 rintro e w1 ⟨rfl,hb⟩
 rw [← HZ.out] at hb
 have HB:=hide (HV.out.trans (hb.mono HV.out.size))
 clear K hb
 go_wp2_with fail
 go_ret
 exact ⟨rfl,HB.out⟩

theorem mkdir_ref {w:World} {S:Nat→Prop} {g:Nat} {s:Tr} (h:TM w S g s) (hr:s.row ≠ []) {p:List UInt8} {ns:List (List UInt8)} (hs:spl p=some ns) {E:Int}
  (KE:∀ u fn,TM u S g s→Calls Tryz.prog 66 #[.pointer (some ⟨g,0,none⟩),.string (St p),fn] u fun e w'=>e=.returned (.int .i64 E)∧Below u.heap.size u w') :
  Calls Tryz.prog 21 #[.pointer (some ⟨g,0,none⟩),.string (St p)] w fun e w'=>e=.returned (.int .i64 E)∧Below w.heap.size w w':=by
 have hv:Below w.heap.size w (w.alloc (.cells #[.pointer (some ⟨g,0,none⟩)] 26)):=(Below.refl _ w).alloc (Nat.le_refl _) _
 have hlt:w.heap.size < (w.alloc (.cells #[.pointer (some ⟨g,0,none⟩)] 26)).heap.size:=by simp
 have hv2:=h.below hv
 have K:=refuses_one (p:=p) hv2 hr (by have:=spl_len hs; omega) (Below.refl _ _)
 rw [splE_of hs,show (w.alloc (.cells #[.pointer (some ⟨g,0,none⟩)] 26)).heap.size=w.heap.size + 1 by simp] at K
 have K:=hide K
 have HZ:Hid ((w.alloc (.cells #[.pointer (some ⟨g,0,none⟩)] 26)).heap.size=w.heap.size + 1):=by unfold Hid; simp
 have HC0:Hid ((w.alloc (.cells #[.pointer (some ⟨g,0,none⟩)] 26)).cell? ⟨w.heap.size,0,none⟩=some (.pointer (some ⟨g,0,none⟩))):=cell_box (World.alloc_heap_new _ _)
 have HT:=hide hv2
 have HV:=hide hv
 have KE:=hide KE
 clear h hr hs hv hv2
 generalize St p=sp at *
 go_enter Tryz.func21,Tryz.ntmps21
 go_wp2_with fail
 generalize w.alloc (.cells #[.pointer (some ⟨g,0,none⟩)] 26)=w0 at *
 refine (unhide K).mono ?_
 rintro e w1 ⟨rfl,hb⟩
 rw [← HZ.out] at hb
 have HT:=hide (HT.out.below hb)
 have c1:=(hb.cell (p:=⟨w.heap.size,0,none⟩) hlt).trans HC0.out
 have HB:=hide (HV.out.trans (hb.mono HV.out.size))
 clear K hb HC0 HV
 go_wp2_with fail
 refine (unhide KE w1 _ HT.out).mono ?_
 rintro e w2 ⟨rfl,hb⟩
 have HB:=hide (HB.out.trans (hb.mono HB.out.size))
 clear KE hb c1 HT
 go_wp2_with fail
 go_ret
 exact ⟨rfl,HB.out⟩

theorem mkdir_new {w:World} {S:Nat→Prop} {g r d f:Nat} {s:Tr} {t:Th} (h:TM w S g s) (hk:Ok s r) {p z:List UInt8} {ms:List (List UInt8)} (hp:spl p=some (ms ++ [z])) (he:plc s ms r=(0,some d)) (ht:s.T d=some t) (h2:t.k=2) (hc:t.ns.lookup z=none)
  (hns:t.ns.length < 1000000000000000) (hf:Free s f) (hfm:f ≤ 1800000000000) (hrm:s.row.length ≤ 1800000000000) :
  Calls Tryz.prog 21 #[.pointer (some ⟨g,0,none⟩),.string (St p)] w fun e w'=>∃ b mp ra rc,e=.returned (.int .i64 0)∧w.heap.size ≤ b∧TM w' (Up S w.heap.size w'.heap.size) g (s.made f 2 d t z b mp ra rc)∧Kp S w w':=by
 have hv:Below w.heap.size w (w.alloc (.cells #[.pointer (some ⟨g,0,none⟩)] 26)):=(Below.refl _ w).alloc (Nat.le_refl _) _
 have hlt:w.heap.size < (w.alloc (.cells #[.pointer (some ⟨g,0,none⟩)] 26)).heap.size:=by simp
 have hv2:=h.below hv
 have K:=refuses_one (p:=p) hv2 hk.row_ne (by have:=spl_len hp; omega) (Below.refl _ _)
 rw [splE_of hp,show (w.alloc (.cells #[.pointer (some ⟨g,0,none⟩)] 26)).heap.size=w.heap.size + 1 by simp] at K
 have K:=hide K
 have HZ:Hid ((w.alloc (.cells #[.pointer (some ⟨g,0,none⟩)] 26)).heap.size=w.heap.size + 1):=by unfold Hid; simp
 have HC0:Hid ((w.alloc (.cells #[.pointer (some ⟨g,0,none⟩)] 26)).cell? ⟨w.heap.size,0,none⟩=some (.pointer (some ⟨g,0,none⟩))):=cell_box (World.alloc_heap_new _ _)
 have HT:=hide hv2
 have HV:=hide hv
 have hSw:=h.lt
 have KE:Hid (∀ u,TM u S g s→(u.cell? ⟨w.heap.size,0,none⟩=some (.pointer (some ⟨g,0,none⟩))∧w.heap.size < u.heap.size) →
   Calls Tryz.prog 66 #[.pointer (some ⟨g,0,none⟩),.string (St p),.func (.func 67) #[] #[.pointer (some ⟨w.heap.size,0,none⟩)]] u fun e w'=>∃ b mp ra rc,e=.returned (.int .i64 0)∧u.heap.size ≤ b∧TM w' (Up S u.heap.size w'.heap.size) g (s.made f 2 d t z b mp ra rc)∧Kp S u w') :=
  fun u hu hm=>enter_mk hu hk hp he ht h2 hc hns (fun v hv hb=>mkdir1_any hv hf hfm hrm ((hb.cell (p:=⟨w.heap.size,0,none⟩) hm.2).trans hm.1))
 clear h hk hp hv hv2 he ht h2 hc hns hf hfm hrm
 generalize St p=sp at *
 go_enter Tryz.func21,Tryz.ntmps21
 go_wp2_with fail
 generalize w.alloc (.cells #[.pointer (some ⟨g,0,none⟩)] 26)=w0 at *
 refine (unhide K).mono ?_
 rintro e w1 ⟨rfl,hb⟩
 rw [← HZ.out] at hb
 have HT:=hide (HT.out.below hb)
 have c1:=(hb.cell (p:=⟨w.heap.size,0,none⟩) hlt).trans HC0.out
 have KE:=hide (KE.out w1 HT.out ⟨c1,Nat.lt_of_lt_of_le hlt hb.size⟩)
 have HB:=hide (HV.out.trans (hb.mono HV.out.size))
 clear K hb HC0 HV
 go_wp2_with fail
 refine (unhide KE).mono ?_
 rintro e w2 ⟨b,mp,ra,rc,rfl,hb1,htm,hkp⟩
 have HR:Hid (w.heap.size ≤ b∧TM w2 (Up S w.heap.size w2.heap.size) g (s.made f 2 d t z b mp ra rc)∧Kp S w w2):=by
  have hws:=HB.out.size
  refine ⟨by omega,?_,(Kp.of HB.out).trans hkp (fun k hk=>.inl hk)⟩
  refine htm.kept (fun _ _=>rfl) (fun x hx=>?_) (fun x hx=>?_)
  ·rcases hx with q | q
   ·exact .inl q
   ·exact .inr ⟨by omega,q.2⟩
  ·rcases hx with q | q
   ·have:=hSw x q; have:=hkp.size; omega
   ·exact q.2
 clear KE hb1 htm hkp HT HB c1 hSw
 go_wp2_with fail
 go_ret
 exact ⟨b,mp,ra,rc,rfl,HR.out⟩

theorem create_bad {w:World} {S:Nat→Prop} {g:Nat} {s:Tr} (h:TM w S g s) (hr:s.row ≠ []) {p:List UInt8} (hp:p.length ≤ 9223372036854775807) (hs:spl p=none) :
  Calls Tryz.prog 22 #[.pointer (some ⟨g,0,none⟩),.string (St p)] w fun e w'=>e=.returned (.int .i64 16)∧Below w.heap.size w w':=by
 have hv:Below w.heap.size w (w.alloc (.cells #[.pointer (some ⟨g,0,none⟩)] 26)):=(Below.refl _ w).alloc (Nat.le_refl _) _
 have K:=refuses_one (h.below hv) hr hp (Below.refl _ _)
 rw [splE_none hs,show (w.alloc (.cells #[.pointer (some ⟨g,0,none⟩)] 26)).heap.size=w.heap.size + 1 by simp] at K
 have K:=hide K
 have HV:=hide hv
 have HZ:Hid ((w.alloc (.cells #[.pointer (some ⟨g,0,none⟩)] 26)).heap.size=w.heap.size + 1):=by unfold Hid; simp
 have HC0:Hid ((w.alloc (.cells #[.pointer (some ⟨g,0,none⟩)] 26)).cell? ⟨w.heap.size,0,none⟩=some (.pointer (some ⟨g,0,none⟩))):=cell_box (World.alloc_heap_new _ _)
 clear h hr hp hs hv
 generalize St p=sp at *
 go_enter Tryz.func22,Tryz.ntmps22
 go_wp2_with fail
 generalize w.alloc (.cells #[.pointer (some ⟨g,0,none⟩)] 26)=w0 at *
 refine (unhide K).mono ?_
 rintro e w1 ⟨rfl,hb⟩
 rw [← HZ.out] at hb
 have HB:=hide (HV.out.trans (hb.mono HV.out.size))
 clear K hb
 go_wp2_with fail
 go_ret
 exact ⟨rfl,HB.out⟩

theorem create_ref {w:World} {S:Nat→Prop} {g:Nat} {s:Tr} (h:TM w S g s) (hr:s.row ≠ []) {p:List UInt8} {ns:List (List UInt8)} (hs:spl p=some ns) {E:Int}
  (KE:∀ u fn,TM u S g s→Calls Tryz.prog 66 #[.pointer (some ⟨g,0,none⟩),.string (St p),fn] u fun e w'=>e=.returned (.int .i64 E)∧Below u.heap.size u w') :
  Calls Tryz.prog 22 #[.pointer (some ⟨g,0,none⟩),.string (St p)] w fun e w'=>e=.returned (.int .i64 E)∧Below w.heap.size w w':=by
 have hv:Below w.heap.size w (w.alloc (.cells #[.pointer (some ⟨g,0,none⟩)] 26)):=(Below.refl _ w).alloc (Nat.le_refl _) _
 have hlt:w.heap.size < (w.alloc (.cells #[.pointer (some ⟨g,0,none⟩)] 26)).heap.size:=by simp
 have hv2:=h.below hv
 have K:=refuses_one (p:=p) hv2 hr (by have:=spl_len hs; omega) (Below.refl _ _)
 rw [splE_of hs,show (w.alloc (.cells #[.pointer (some ⟨g,0,none⟩)] 26)).heap.size=w.heap.size + 1 by simp] at K
 have K:=hide K
 have HZ:Hid ((w.alloc (.cells #[.pointer (some ⟨g,0,none⟩)] 26)).heap.size=w.heap.size + 1):=by unfold Hid; simp
 have HC0:Hid ((w.alloc (.cells #[.pointer (some ⟨g,0,none⟩)] 26)).cell? ⟨w.heap.size,0,none⟩=some (.pointer (some ⟨g,0,none⟩))):=cell_box (World.alloc_heap_new _ _)
 have HT:=hide hv2
 have HV:=hide hv
 have KE:=hide KE
 clear h hr hs hv hv2
 generalize St p=sp at *
 go_enter Tryz.func22,Tryz.ntmps22
 go_wp2_with fail
 generalize w.alloc (.cells #[.pointer (some ⟨g,0,none⟩)] 26)=w0 at *
 refine (unhide K).mono ?_
 rintro e w1 ⟨rfl,hb⟩
 rw [← HZ.out] at hb
 have HT:=hide (HT.out.below hb)
 have c1:=(hb.cell (p:=⟨w.heap.size,0,none⟩) hlt).trans HC0.out
 have HB:=hide (HV.out.trans (hb.mono HV.out.size))
 clear K hb HC0 HV
 go_wp2_with fail
 refine (unhide KE w1 _ HT.out).mono ?_
 rintro e w2 ⟨rfl,hb⟩
 have HB:=hide (HB.out.trans (hb.mono HB.out.size))
 clear KE hb c1 HT
 go_wp2_with fail
 go_ret
 exact ⟨rfl,HB.out⟩

theorem create_new {w:World} {S:Nat→Prop} {g r d f:Nat} {s:Tr} {t:Th} (h:TM w S g s) (hk:Ok s r) {p z:List UInt8} {ms:List (List UInt8)} (hp:spl p=some (ms ++ [z])) (he:plc s ms r=(0,some d)) (ht:s.T d=some t) (h2:t.k=2) (hc:t.ns.lookup z=none)
  (hns:t.ns.length < 1000000000000000) (hf:Free s f) (hfm:f ≤ 1800000000000) (hrm:s.row.length ≤ 1800000000000) :
  Calls Tryz.prog 22 #[.pointer (some ⟨g,0,none⟩),.string (St p)] w fun e w'=>∃ b mp ra rc,e=.returned (.int .i64 0)∧w.heap.size ≤ b∧TM w' (Up S w.heap.size w'.heap.size) g (s.made f 1 d t z b mp ra rc)∧Kp S w w':=by
 have hv:Below w.heap.size w (w.alloc (.cells #[.pointer (some ⟨g,0,none⟩)] 26)):=(Below.refl _ w).alloc (Nat.le_refl _) _
 have hlt:w.heap.size < (w.alloc (.cells #[.pointer (some ⟨g,0,none⟩)] 26)).heap.size:=by simp
 have hv2:=h.below hv
 have K:=refuses_one (p:=p) hv2 hk.row_ne (by have:=spl_len hp; omega) (Below.refl _ _)
 rw [splE_of hp,show (w.alloc (.cells #[.pointer (some ⟨g,0,none⟩)] 26)).heap.size=w.heap.size + 1 by simp] at K
 have K:=hide K
 have HZ:Hid ((w.alloc (.cells #[.pointer (some ⟨g,0,none⟩)] 26)).heap.size=w.heap.size + 1):=by unfold Hid; simp
 have HC0:Hid ((w.alloc (.cells #[.pointer (some ⟨g,0,none⟩)] 26)).cell? ⟨w.heap.size,0,none⟩=some (.pointer (some ⟨g,0,none⟩))):=cell_box (World.alloc_heap_new _ _)
 have HT:=hide hv2
 have HV:=hide hv
 have hSw:=h.lt
 have KE:Hid (∀ u,TM u S g s→(u.cell? ⟨w.heap.size,0,none⟩=some (.pointer (some ⟨g,0,none⟩))∧w.heap.size < u.heap.size) →
   Calls Tryz.prog 66 #[.pointer (some ⟨g,0,none⟩),.string (St p),.func (.func 68) #[] #[.pointer (some ⟨w.heap.size,0,none⟩)]] u fun e w'=>∃ b mp ra rc,e=.returned (.int .i64 0)∧u.heap.size ≤ b∧TM w' (Up S u.heap.size w'.heap.size) g (s.made f 1 d t z b mp ra rc)∧Kp S u w') :=
  fun u hu hm=>enter_cr hu hk hp he ht h2 hc hns (fun v hv hb=>create1_any hv hf hfm hrm ((hb.cell (p:=⟨w.heap.size,0,none⟩) hm.2).trans hm.1))
 clear h hk hp hv hv2 he ht h2 hc hns hf hfm hrm
 generalize St p=sp at *
 go_enter Tryz.func22,Tryz.ntmps22
 go_wp2_with fail
 generalize w.alloc (.cells #[.pointer (some ⟨g,0,none⟩)] 26)=w0 at *
 refine (unhide K).mono ?_
 rintro e w1 ⟨rfl,hb⟩
 rw [← HZ.out] at hb
 have HT:=hide (HT.out.below hb)
 have c1:=(hb.cell (p:=⟨w.heap.size,0,none⟩) hlt).trans HC0.out
 have KE:=hide (KE.out w1 HT.out ⟨c1,Nat.lt_of_lt_of_le hlt hb.size⟩)
 have HB:=hide (HV.out.trans (hb.mono HV.out.size))
 clear K hb HC0 HV
 go_wp2_with fail
 refine (unhide KE).mono ?_
 rintro e w2 ⟨b,mp,ra,rc,rfl,hb1,htm,hkp⟩
 have HR:Hid (w.heap.size ≤ b∧TM w2 (Up S w.heap.size w2.heap.size) g (s.made f 1 d t z b mp ra rc)∧Kp S w w2):=by
  have hws:=HB.out.size
  refine ⟨by omega,?_,(Kp.of HB.out).trans hkp (fun k hk=>.inl hk)⟩
  refine htm.kept (fun _ _=>rfl) (fun x hx=>?_) (fun x hx=>?_)
  ·rcases hx with q | q
   ·exact .inl q
   ·exact .inr ⟨by omega,q.2⟩
  ·rcases hx with q | q
   ·have:=hSw x q; have:=hkp.size; omega
   ·exact q.2
 clear KE hb1 htm hkp HT HB c1 hSw
 go_wp2_with fail
 go_ret
 exact ⟨b,mp,ra,rc,rfl,HR.out⟩

end Go.Proofs.YtknmgefpjdfenaaGreat

