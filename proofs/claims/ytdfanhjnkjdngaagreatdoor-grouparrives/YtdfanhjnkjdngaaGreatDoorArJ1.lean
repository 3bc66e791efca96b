/- Joined: GBase, DCopy, Fol, GApart. -/
import Derived.Test.YtdfanhjnkjdngaaGreatDoorRows
import Derived.WalkKit
import Derived.WalkSpells
import Derived.WalkLawsBesides
import Derived.RangeFuncBox
import Derived.Shelf.Abstract
import Derived.Laws.CopyOwn
import Derived.Deep.OwnRows
import Derived.Laws.BytesArg
import Derived.Laws.BitsAllLaws
import Derived.ArgAppend
import Derived.Deep.RegionWith
import Derived.Deep.QuietTactic
import Derived.BigQuiet
import Derived.Lib.BufferWrite
import Derived.Test.YtdfanhjnkjdngaaGreatDoorArSum
/- Words and laws on slices of bytes, of no function of the program. -/
namespace Go.Proofs.YtdfanhjnkjdngaaGreatDoor
set_option maxRecDepth 100000
set_option maxHeartbeats 8000000
open Go.RowKit Go.Shelf
set_option linter.unusedVariables false

theorem hide {p:Prop} (h:p):Hid p:=h

theorem unhide {p:Prop} (h:Hid p):p:=h

theorem ret_int {k:IntKind} {a b:Int} (h:a=b):Ending.returned (.int k a)=.returned (.int k b):=by rw [h]

theorem ret_two {k k':IntKind} {a b c d:Int} (h:a=b) (h':c=d):Ending.returned (.tuple #[.int k a,.int k' c])=.returned (.tuple #[.int k b,.int k' d]):=by rw [h,h']

theorem ret_put {sv:Value} {c d:Int} (h':c=d):Ending.returned (.tuple #[sv,.int .i64 c])=.returned (.tuple #[sv,.int .i64 d]):=by rw [h']

theorem ret_bool {a b:Bool} (h:a=b):Ending.returned (.bool a)=.returned (.bool b):=by rw [h]

theorem info5:(Tryz.prog.info? 5).map (fun i=>(i.zero,i.size,i.bytes))=some (some (.int .u8 0),1,1):=by kernel_rfl

theorem size5:(Tryz.prog.info? 5).map (·.size)=some 1:=by kernel_rfl

theorem oneCell_bytes (zs:List Int):∀ v ∈ zs.map (Value.int .u8),v.oneCell'=true:=by
 intro v hv
 simp only [List.mem_map] at hv
 obtain ⟨z,_,rfl⟩:=hv
 rfl

theorem World.add_zero_spot (b off j:Nat):(⟨b,off,none⟩:Addr).add j=⟨b,off + j,none⟩:=by unfold Addr.add; split <;> simp_all

def put (zs:List Int) (at':Nat) (ds:List Int):List Int:=zs.take at' ++ ds ++ zs.drop (at' + ds.length)

theorem put_other (zs:List Int) (at':Nat) (ds:List Int) (i:Nat) (h:at' + ds.length ≤ zs.length) (hi:i < at' ∨ at' + ds.length ≤ i):(put zs at' ds)[i]?=zs[i]?:=by
 have h1:(zs.take at').length=at':=by simp; omega
 rw [put]
 rcases hi with hi | hi
 ·rw [List.append_assoc,List.getElem?_append_left (by omega),List.getElem?_take_of_lt hi]
 ·rw [List.getElem?_append_right (by simp; omega),List.getElem?_drop]
  congr 1
  simp; omega

def Row (n0:Nat) (w:World) (a:Option Addr) (len cap:Nat) (zs:List Int):Prop :=
 zs.length=len∧len ≤ cap∧(len ≤ 140737488351232∧cap ≤ 9223372036854775807)∧(∀ z ∈ zs,0 ≤ z∧z ≤ 255) ∧
 (0 < len→∃ b off,a=some ⟨b,off,none⟩∧b < n0∧∀ j,j < len→w.cell? ⟨b,off + j,none⟩=some (.int .u8 (zs[j]?.getD 0)))

theorem Row.below {n0:Nat} {w w':World} {a:Option Addr} {len cap:Nat} {zs:List Int} (h:Row n0 w a len cap zs) (hb:Below n0 w w') {n1:Nat} (hn:n0 ≤ n1):Row n1 w' a len cap zs:=by
 obtain ⟨h1,h2,h3,h4,h5⟩:=h
 refine ⟨h1,h2,h3,h4,fun hp=>?_⟩
 obtain ⟨b,off,e,hlt,hc⟩:=h5 hp
 exact ⟨b,off,e,by omega,fun j hj=>(hb.cell (p:=⟨b,off + j,none⟩) hlt).trans (hc j hj)⟩

theorem Row.alloc {w:World} {a:Option Addr} {len cap:Nat} {zs:List Int} (h:Row w.heap.size w a len cap zs) (o:Obj):Row (w.alloc o).heap.size (w.alloc o) a len cap zs :=
 h.below ((Below.refl _ w).alloc (Nat.le_refl _) o) (by simp)

def Block (w:World) (g:Nat) (zs:List Int):Prop:=w.heap[g]?=some (.cells (zs.map (Value.int .u8)).toArray 5 (0,0))

theorem heap_kept {W W':World} {row:Option Nat} {k:Nat} {c:Array Value} {t:TypeId} {fr:Nat × Nat} (hs:W.heap[k]?=some (.cells c t fr)) (hg:W.grownBy W' row) (hr:∀ r,row=some r→∃ o:Obj,W.heap[r]?=some o∧o.isCells=false):W'.heap[k]?=some (.cells c t fr):=by
 have hlt:k < W.heap.size:=(Array.getElem?_eq_some_iff.1 hs).1
 rw [hg.block k hlt (fun e=>?_)]
 ·exact hs
 ·obtain ⟨o,h1,h2⟩:=hr k e.symm
  rw [hs] at h1
  cases h1
  simp [Obj.isCells] at h2

theorem cell_box {W:World} {k:Nat} {v:Value} {t:TypeId} (h:W.heap[k]?=some (.cells #[v] t (0,0))):W.cell? ⟨k,0,none⟩=some v:=by simp [World.cell?,h]

theorem Block.cell {W:World} {g:Nat} {zs:List Int} (h:Block W g zs) {i:Nat} (hi:i < zs.length):W.cell? ⟨g,i,none⟩=some (.int .u8 (zs[i]?.getD 0)):=by
 unfold Block at h
 simp [World.cell?,h,hi]

theorem Block.free {W:World} {g:Nat} {zs:List Int} (h:Block W g zs) (i:Nat):W.frozen? ⟨g,i,none⟩=false:=by
 unfold Block at h
 simp [World.frozen?,h]

theorem Block.set {W:World} {g:Nat} {zs:List Int} (h:Block W g zs) (i:Nat) (z:Int):Block (W.setCell ⟨g,i,none⟩ (.int .u8 z)) g (zs.set i z):=by
 unfold Block at *
 have hlt:g < W.heap.size:=(Array.getElem?_eq_some_iff.1 h).1
 rw [setCell_eq_setRow W g i _ 5 (0,0) _ h,setRow_heap W g _ _ 5 _ h]
 simp [List.map_set]

theorem Block.lt {W:World} {g:Nat} {zs:List Int} (h:Block W g zs):g < W.heap.size:=(Array.getElem?_eq_some_iff.1 h).1

theorem Block.below {W W':World} {g n:Nat} {zs:List Int} (h:Block W g zs) (hb:Below n W W') (hg:g < n):Block W' g zs:=(hb.block g hg).trans h

theorem Block.row {w:World} {g:Nat} {zs:List Int} (h:Block w g zs) {len:Nat} (hl:zs.length=len) (hc:len ≤ 140737488351232) (hby:∀ z ∈ zs,0 ≤ z∧z ≤ 255):Row w.heap.size w (some ⟨g,0,none⟩) len len zs :=
 ⟨hl,Nat.le_refl _,⟨hc,by omega⟩,hby,fun _=>⟨g,0,rfl,h.lt,fun j hj=>by rw [Nat.zero_add]; exact h.cell (by omega)⟩⟩

def Has (w:World) (a:Option Addr) (len:Nat) (zs:List Int):Prop :=
 zs.length=len∧(0 < len→∃ b off,a=some ⟨b,off,none⟩∧∀ j,j < len→w.cell? ⟨b,off + j,none⟩=some (.int .u8 (zs[j]?.getD 0)))

theorem Row.has {n0:Nat} {w:World} {a:Option Addr} {len cap:Nat} {zs:List Int} (h:Row n0 w a len cap zs):Has w a len zs :=
 ⟨h.1,fun hp=>by obtain ⟨b,off,e,_,hc⟩:=h.2.2.2.2 hp; exact ⟨b,off,e,hc⟩⟩

theorem Block.has {w:World} {g:Nat} {zs:List Int} (h:Block w g zs) {len:Nat} (hl:zs.length=len):Has w (some ⟨g,0,none⟩) len zs :=
 ⟨hl,fun _=>⟨g,0,rfl,fun j hj=>by rw [Nat.zero_add]; exact h.cell (by omega)⟩⟩

theorem Has.conv {w:World} {a:Option Addr} {len:Nat} {zs:List Int} (h:Has w a len zs) (cap:Nat):(convert 50 9 (.slice a len cap)).run Tryz.prog w=.ok (.string (strOfNums zs)) w:=by
 by_cases h0:len=0
 ·subst h0
  have hz:zs=[]:=List.eq_nil_of_length_eq_zero h.1
  subst hz
  rw [run_convert_bytes_string w 50 9 5 _ 0 cap Tryz.underlying50 Tryz.underlying5 Tryz.underlying9]
  cases a <;> simp [Conv.bytesToString,loadCells]
  all_goals rfl
 ·obtain ⟨b,off,rfl,hc⟩:=h.2 (by omega)
  exact run_convert_bytes_arg w 50 5 Tryz.underlying50 Tryz.underlying5 b off len cap zs h.1 (fun i hi=>by rw [hc i hi]; simp) 9 Tryz.underlying9

def Owns (w:World) (g len:Nat) (zs:List Int):Prop:=zs.length=len∧∃ cur,w.heap[g]?=some (.cells cur 5 (0,0))∧cur.toList.take len=zs.map (Value.int .u8)

theorem Owns.lt {w:World} {g len:Nat} {zs:List Int} (h:Owns w g len zs):g < w.heap.size:=by obtain ⟨_,cur,hg,_⟩:=h; exact (Array.getElem?_eq_some_iff.1 hg).1

theorem Owns.cell {w:World} {g len:Nat} {zs:List Int} (h:Owns w g len zs) {i:Nat} (hi:i < len):w.cell? ⟨g,i,none⟩=some (.int .u8 (zs[i]?.getD 0)):=by
 obtain ⟨hl,cur,hg,ht⟩:=h
 have h1:(cur.toList.take len)[i]?=some (.int .u8 (zs[i]?.getD 0)):=by
  rw [ht,List.getElem?_map,List.getElem?_eq_getElem (by omega)]; rfl
 rw [List.getElem?_take_of_lt hi] at h1
 simp only [World.cell?,hg]
 simpa using h1

theorem Owns.has {w:World} {g len:Nat} {zs:List Int} (h:Owns w g len zs):Has w (some ⟨g,0,none⟩) len zs :=
 ⟨h.1,fun _=>⟨g,0,rfl,fun j hj=>by rw [Nat.zero_add]; exact h.cell hj⟩⟩

theorem wpList_append_run {w w':World} {ops:Array Oper} {rest:List Oper} {o:Oper} {a:Act} {Q:Exit→Act→World→Prop} (t:TypeId) (hgd:o.guard=none) (d s:Operand)
  (ho:o.op=.call { callee:=.builtin .append,args:=#[d,s],argTypes:=#[t,t] }) (v x v':Value) (hd:a.eval d=v) (hs:a.eval s=x)
  (hrun:∀ ty,(Builtin.append_ #[t,t] ty #[v,x]).run Tryz.prog w=.ok v' w')
  (h:wpList Tryz.prog ops Q rest (a.put o.dst v') w'):wpList Tryz.prog ops Q (o :: rest) a w:=by
 refine wpList_plain hgd fun K hK=>?_
 have hr:=hrun o.type
 unfold Oper.wp
 simp [execOp,ho,resolve,invoke,builtin,hd,hs,hr,Result.andThen]
 exact hK _ _ h

def cutAt (a:Option Addr) (cap l:Nat):Option Addr:=if cap=l then a else a.map (·.add (l * 1))

theorem sizeOf5 (w:World):(sizeOf (Tryz.prog.elem 50)).run Tryz.prog w=.ok 1 w:=by kernel_rfl

theorem elem22:Tryz.prog.underlying 50=some (.slice (Tryz.prog.elem 50)):=by kernel_rfl

theorem run_cut_l (a:Option Addr) (len cap l:Nat) (h:l ≤ len) (w:World) :
  (Instr.slice 50 (.slice a len cap) (some (.int .i64 (l:Int))) none none).run Tryz.prog w=.ok (.slice (cutAt a cap l) (len - l) (cap - l)) w:=by
 rw [run_slice_l (P:=Tryz.prog) (w:=w) 50 a len cap elem22 .i64 l (by omega) (by omega),sizeOf5]
 simp only [Result.andThen,sliced]
 have e1:(l:Int).toNat=l:=by omega
 rw [e1]
 simp [cutAt]

def Own (B:Nat) (w:World) (a:Option Addr) (n c:Nat) (xs:List Int):Prop :=
 xs.length=n∧n ≤ c∧c ≤ maxLen∧((a=none∧n=0∧c=0) ∨ ∃ g cur,a=some ⟨g,0,none⟩∧B ≤ g∧w.heap[g]?=some (.cells cur 5 (0,0))∧cur.size=c∧cur.toList.take n=xs.map (Value.int .u8))

theorem Own.kept {B:Nat} {w w':World} {a:Option Addr} {n c:Nat} {xs:List Int} (h:Own B w a n c xs) (hk:∀ g,a=some ⟨g,0,none⟩→w'.heap[g]?=w.heap[g]?):Own B w' a n c xs:=by
 obtain ⟨h1,h2,h3,h4⟩:=h
 refine ⟨h1,h2,h3,?_⟩
 rcases h4 with h4 | ⟨g,cur,e,hg,hh,r⟩
 ·exact .inl h4
 ·exact .inr ⟨g,cur,e,hg,(hk g e).trans hh,r⟩

theorem Own.cell {B:Nat} {w:World} {a:Option Addr} {n c:Nat} {xs:List Int} (h:Own B w a n c xs) {j:Nat} (hj:j < n):∃ g,a=some ⟨g,0,none⟩∧B ≤ g∧w.cell? ⟨g,j,none⟩=some (.int .u8 (xs[j]?.getD 0))∧w.frozen? ⟨g,j,none⟩=false:=by
 obtain ⟨h1,h2,h3,h4⟩:=h
 rcases h4 with ⟨_,h4,_⟩ | ⟨g,cur,e,hg,hh,hc,ht⟩
 ·omega
 ·refine ⟨g,e,hg,?_,by simp [World.frozen?,hh]⟩
  have hx:(cur.toList.take n)[j]?=some (.int .u8 (xs[j]?.getD 0)):=by
   rw [ht,List.getElem?_map,List.getElem?_eq_getElem (by omega)]; rfl
  rw [List.getElem?_take_of_lt hj] at hx
  simp only [World.cell?,hh]
  simpa using hx

theorem Own.set {B:Nat} {w:World} {g n c:Nat} {xs:List Int} (h:Own B w (some ⟨g,0,none⟩) n c xs) (j:Nat) (z:Int):Own B (w.setCell ⟨g,j,none⟩ (.int .u8 z)) (some ⟨g,0,none⟩) n c (xs.set j z):=by
 obtain ⟨h1,h2,h3,h4⟩:=h
 rcases h4 with ⟨h4,_⟩ | ⟨g',cur,e,hg,hh,hc,ht⟩
 ·cases h4
 ·cases e
  refine ⟨by simp [h1],h2,h3,.inr ⟨g,_,rfl,hg,by rw [setCell_eq_setRow w g j _ 5 (0,0) _ hh]; exact setRow_heap w g _ _ 5 _ hh,by simpa using hc,?_⟩⟩
  rw [Array.toList_setIfInBounds,List.take_set,ht,List.map_set]

theorem Own.lt {B:Nat} {w:World} {a:Option Addr} {n c:Nat} {xs:List Int} (h:Own B w a n c xs) {g:Nat} (e:a=some ⟨g,0,none⟩):g < w.heap.size∧B ≤ g∧∃ cur,w.heap[g]?=some (.cells cur 5 (0,0)):=by
 obtain ⟨_,_,_,h4⟩:=h
 rcases h4 with ⟨h4,_⟩ | ⟨g',cur,e',hg,hh,_⟩
 ·rw [h4] at e; cases e
 ·rw [e] at e'; cases e'
  exact ⟨(Array.getElem?_eq_some_iff.1 hh).1,hg,cur,hh⟩

theorem ownsRow_block {w w':World} {B e size n:Nat} {v:Value} {xs:List Value} (h:w.ownsRow B e size v n xs) (hk:∀ g cur,B ≤ g→w.heap[g]?=some (.cells cur e (0,0))→w'.heap[g]?=w.heap[g]?):w'.ownsRow B e size v n xs:=by
 obtain ⟨h1,h2⟩:=h
 refine ⟨h1,?_⟩
 rcases h2 with h2 | ⟨g,cap,cur,rfl,hb,hh,r⟩
 ·exact .inl h2
 ·exact .inr ⟨g,cap,cur,rfl,hb,(hk g cur hb hh).trans hh,r⟩

theorem Own.below {B n:Nat} {w w':World} {a:Option Addr} {l c:Nat} {xs:List Int} (h:Own B w a l c xs) (hb:Below n w w') (hn:w.heap.size ≤ n):Own B w' a l c xs :=
 h.kept (fun g e=>hb.block g (by have:=(h.lt e).1; omega))

theorem Own.base {B B':Nat} {w:World} {a:Option Addr} {l c:Nat} {xs:List Int} (h:Own B w a l c xs) (hb:B' ≤ B):Own B' w a l c xs:=by
 obtain ⟨h1,h2,h3,h4⟩:=h
 refine ⟨h1,h2,h3,?_⟩
 rcases h4 with h4 | ⟨g,cur,e,hg,r⟩
 ·exact .inl h4
 ·exact .inr ⟨g,cur,e,by omega,r⟩

def byts (s:ByteArray):List Int:=s.data.toList.map (fun b=>(b.toNat:Int))

theorem cell_block_lt {w:World} {x:Addr} {v:Value} (h:w.cell? x=some v):x.block < w.heap.size:=by
 cases hb:w.heap[x.block]? with
 | none=>simp [World.cell?,hb] at h
 | some o=>exact (Array.getElem?_eq_some_iff.1 hb).1

end Go.Proofs.YtdfanhjnkjdngaaGreatDoor

/- The contract of device.copied. -/
namespace Go.Proofs.YtdfanhjnkjdngaaGreatDoor
set_option maxRecDepth 100000
set_option maxHeartbeats 8000000
open Go.RowKit Go.Shelf
set_option linter.unusedVariables false

theorem copied_any (a:Option Addr) (len cap:Nat) (zs:List Int) (w:World) (hr:Row w.heap.size w a len cap zs) :
  Calls Tryz.prog 98 #[.slice a len cap] w fun e w'=>e=.returned (.slice (some ⟨w.heap.size,0,none⟩) len len)∧Block w' w.heap.size zs∧Below w.heap.size w w':=by
 obtain ⟨hlen,hlc,hcm,hby,hcell⟩:=hr
 have hmk:=run_make_row' (P:=Tryz.prog) 50 5 (.int .u8 0) 1 Tryz.underlying50 info5 rfl .i64 .i64 len (by omega) (by omega)
 have hb0:Below w.heap.size w (w.alloc (.cells (madeCells #[.int .u8 0] len) 5)):=(Below.refl _ w).alloc (Nat.le_refl _) _
 have hsrc:0 < len→∃ ad,a=some ad∧∀ (j:Nat) v,(zs.map (Value.int .u8))[j]?=some v→(w.alloc (.cells (madeCells #[.int .u8 0] len) 5)).cell? (ad.add j)=some v:=by
  intro hp
  obtain ⟨b,off,rfl,hb,hc⟩:=hcell hp
  refine ⟨_,rfl,fun j v hv=>?_⟩
  rw [World.add_zero_spot,hb0.cell (p:=⟨b,off + j,none⟩) hb]
  have hj:j < zs.length:=by
   have:=(List.getElem?_eq_some_iff.1 hv).1
   simpa using this
  rw [hc j (by omega)]
  rw [List.getElem?_map,List.getElem?_eq_getElem hj] at hv
  rw [List.getElem?_eq_getElem hj]
  simpa using hv
 have hg:(w.alloc (.cells (madeCells #[.int .u8 0] len) 5)).heap[w.heap.size]?=some (.cells (List.replicate len (Value.int .u8 0)).toArray 5 (0,0)):=by
  rw [World.alloc_heap_new,← toList_madeCells_one,Array.toArray_toList]
 obtain ⟨w2,hcp,hg2,hb2⟩:∃ w2,(∀ ty,(Builtin.copy_ #[50,50] ty #[.slice (some ⟨w.heap.size,0,none⟩) len len,.slice a len cap]).run Tryz.prog (w.alloc (.cells (madeCells #[.int .u8 0] len) 5))=.ok (goInt len) w2)∧Block w2 w.heap.size zs∧Below w.heap.size w w2:=by
  by_cases h0:len=0
  ·subst h0
   have hz:zs=[]:=List.eq_nil_of_length_eq_zero hlen
   subst hz
   exact ⟨_,fun ty=>run_copy_none _ 50 50 ty 5 _ _ _ _ _ _ Tryz.underlying50 size5 rfl,hg,hb0⟩
  ·obtain ⟨ad,rfl,hs⟩:=hsrc (by omega)
   refine ⟨_,fun ty=>?_,?_,below_setRow hb0 (Nat.le_refl _) (zs.map (Value.int .u8)).toArray⟩
   ·have h:=run_copy_row (P:=Tryz.prog) (w.alloc (.cells (madeCells #[.int .u8 0] len) 5)) 50 50 ty 5 w.heap.size 0 len len ad len cap _ 5 (zs.map (Value.int .u8)) Tryz.underlying50 size5 hg (by rw [List.length_map,hlen]; exact (Nat.min_self _).symm) hs (by simp [hlen]) (oneCell_bytes zs)
    have e:(List.take 0 (List.replicate len (Value.int .u8 0)).toArray.toList ++ zs.map (Value.int .u8) ++ List.drop (0 + (zs.map (Value.int .u8)).length) (List.replicate len (Value.int .u8 0)).toArray.toList)=zs.map (Value.int .u8):=by
     simp [hlen]
    rw [e,List.length_map,hlen] at h
    exact h
   ·exact setRow_heap _ _ _ _ 5 _ hg
 clear hg hsrc hcell
 go_enter Tryz.func98,Tryz.ntmps98
 go_wp2
 go_ret
 exact ⟨rfl,hg2,hb2⟩

end Go.Proofs.YtdfanhjnkjdngaaGreatDoor

/- The contracts of follow, Sum and Add. -/
namespace Go.Proofs.YtdfanhjnkjdngaaGreatDoor
set_option maxRecDepth 100000
set_option maxHeartbeats 8000000
open Go.RowKit Go.Shelf
set_option linter.unusedVariables false

def Tab (w:World):Prop:=∀ k,k < 16→w.cell? ⟨0,k,none⟩=some (.int .u32 ((tab k:Nat):Int))

theorem look (w:World) (hT:Tab w) (X:Nat) (hX:X < 4294967296):∃ r t Y:Nat,r < 16∧w.cell? ⟨0,r,none⟩=some (.int .u32 (t:Int))∧bits .and .u32 (X:Int) 15=(r:Int)∧bits .xor .u32 ((X:Int) / 16) (t:Int)=(Y:Int)∧Y < 4294967296∧Hid (Y=st4 X):=by
 refine ⟨X % 16,tab (X % 16),st4 X,by omega,hT _ (by omega),?_,?_,st4_lt hX,rfl⟩
 ·have:=u32_and_nat X 15 hX (by omega)
  rw [nat_mask4] at this
  exact this
 ·rw [st4_look]
  have:=u32_xor_nat (X / 16) (tab (X % 16)) (by omega) (tab_lt _)
  rw [← this]
  congr 1

theorem follow_some (b off len cap:Nat) (zs:List Int) (s:Nat) (w:World) (hs:s < 4294967296) (hT:Tab w) (hlen:zs.length=len) (hl:len ≤ 140737488355328) (hby:Byts zs)
  (hcs:∀ j,j < len→w.cell? ⟨b,off + j,none⟩=some (.int .u8 (zs[j]?.getD 0))) :
  Calls Tryz.prog 304 #[.int .u32 (s:Int),.slice (some ⟨b,off,none⟩) len cap] w fun e w'=>e=.returned (.int .u32 ((addS s zs:Nat):Int))∧w=w':=by
 obtain ⟨c0,hc0,hs1,hx0⟩:∃ c0:Nat,Hid (s ^^^ 4294967295=c0)∧c0 < 4294967296∧bits .xor .u32 (s:Int) 4294967295=(c0:Int):=⟨_,rfl,lt_xor hs (by omega),u32_xor_nat s 4294967295 hs (by omega)⟩
 have HE:Hid (addS s zs=fol c0 zs ^^^ 4294967295):=by unfold addS; rw [hc0.out]; rfl
 have HT:=hide hT
 have HB:=hide hby
 have HC:=hide hcs
 clear hc0 hT hby hcs
 go_enter Tryz.func304,Tryz.ntmps304
 go_wp2
 go_loop [5,12] (fun c i=>∃ k:Nat,k ≤ len∧i=.int .i64 (k:Int)∧c=.int .u32 ((fol c0 (zs.take k):Nat):Int)) (fun _ i=>len - (intOf i).toNat)
 case atStart=>exact ⟨0,Nat.zero_le _,rfl,rfl⟩
 case round =>
  obtain ⟨k,hk,rfl,rfl⟩:=hrel
  have hC:fol c0 (zs.take k) < 4294967296:=fol_lt (fun z hz=>HB.out z (List.mem_of_mem_take hz)) hs1
  by_cases hlt:k < len
  ·have hz:=HB.out (zs[k]?.getD 0) (by rw [List.getElem?_eq_getElem (by omega)]; exact List.getElem_mem _)
   have HS:=hide (fol_succ c0 zs k (by omega))
   have hck:=HC.out k hlt
   generalize fol c0 (zs.take k)=C at *
   generalize zs[k]?.getD 0=xi at *
   obtain ⟨x,rfl⟩:=Int.eq_ofNat_of_zero_le hz.1
   have hx1:(x:Int) % 4294967296=x:=by omega
   obtain ⟨X,hXe,hX,h1⟩:∃ X:Nat,Hid (X=C ^^^ x)∧X < 4294967296∧bits .xor .u32 (C:Int) (x:Int)=(X:Int):=⟨_,rfl,lt_xor hC (by omega),u32_xor_nat C x hC (by omega)⟩
   obtain ⟨r,t,Y,hr,ht,h2,h3,hY,hYe⟩:=look w HT.out X hX
   obtain ⟨r',t',Z,hr',ht',h2',h3',hZ,hZe⟩:=look w HT.out Y hY
   have HF:Hid (fol c0 (zs.take (k + 1))=Z):=by
    show _=_
    rw [HS.out,hZe.out,hYe.out,hXe.out]
    rfl
   clear hXe hYe hZe HS
   go_wp2
   exact ⟨⟨k + 1,by omega,by go_num,by rw [HF.out]⟩,by simp [intOf]; omega⟩
  ·have hX:=u32_xor_nat (fol c0 (zs.take k)) 4294967295 hC (by omega)
   have HX:=hide hX
   obtain rfl:k=len:=by omega
   clear hX
   go_wp2
   go_ret
   refine ⟨?_,rfl⟩
   rw [HE.out]
   refine ret_int ?_
   have HX':=HX.out
   have e:zs.take k=zs:=List.take_of_length_le (by omega)
   rw [e] at HX' ⊢
   exact HX'

theorem follow_none (a:Option Addr) (cap:Nat) (s:Nat) (w:World) (hs:s < 4294967296) :
  Calls Tryz.prog 304 #[.int .u32 (s:Int),.slice a 0 cap] w fun e w'=>e=.returned (.int .u32 ((addS s []:Nat):Int))∧w=w':=by
 obtain ⟨c0,hc0,hs1,hx0⟩:∃ c0:Nat,Hid (s ^^^ 4294967295=c0)∧c0 < 4294967296∧bits .xor .u32 (s:Int) 4294967295=(c0:Int):=⟨_,rfl,lt_xor hs (by omega),u32_xor_nat s 4294967295 hs (by omega)⟩
 have HE:Hid (addS s []=c0 ^^^ 4294967295):=by unfold addS; rw [hc0.out]; rfl
 have hX:=u32_xor_nat c0 4294967295 hs1 (by omega)
 have HX:=hide hX
 clear hc0 hX
 go_enter Tryz.func304,Tryz.ntmps304
 go_wp2
 go_loop [5,12] (fun c i=>i=.int .i64 0∧c=.int .u32 (c0:Int)) (fun _ i=>0 - (intOf i).toNat)
 case atStart=>exact ⟨rfl,rfl⟩
 case round =>
  obtain ⟨rfl,rfl⟩:=hrel
  go_wp2
  go_ret
  refine ⟨?_,rfl⟩
  rw [HE.out]
  exact ret_int HX.out

theorem follow_any (a:Option Addr) (len cap:Nat) (zs:List Int) (s:Nat) (w:World) (hs:s < 4294967296) (hT:Tab w) (hh:Has w a len zs) (hl:len ≤ 140737488355328) (hby:Byts zs) :
  Calls Tryz.prog 304 #[.int .u32 (s:Int),.slice a len cap] w fun e w'=>e=.returned (.int .u32 ((addS s zs:Nat):Int))∧w=w':=by
 by_cases h0:len=0
 ·subst h0
  obtain rfl:zs=[]:=List.eq_nil_of_length_eq_zero hh.1
  exact follow_none a cap s w hs
 ·obtain ⟨b,off,rfl,hc⟩:=hh.2 (by omega)
  exact follow_some b off len cap zs s w hs hT hh.1 hl hby hc

theorem sum_any (a:Option Addr) (len cap:Nat) (zs:List Int) (w:World) (hT:Tab w) (hh:Has w a len zs) (hl:len ≤ 140737488355328) (hby:Byts zs) :
  Calls Tryz.prog 292 #[.slice a len cap] w fun e w'=>e=.returned (.int .i64 ((sumS zs:Nat):Int))∧w=w':=by
 have hlt:=sumS_lt hby
 have K:Hid (Calls Tryz.prog 304 #[.int .u32 0,.slice a len cap] w fun e w'=>e=.returned (.int .u32 ((sumS zs:Nat):Int))∧w=w'):=by
  have:=follow_any a len cap zs 0 w (by omega) hT hh hl hby
  rw [addS_zero] at this
  exact this
 generalize sumS zs=S at *
 clear hT hh hby
 go_enter Tryz.func292,Tryz.ntmps292
 go_wp2_with (go_at_call 304; refine (unhide K).mono ?_; rintro e w' ⟨rfl,rfl⟩)
 go_ret
 exact ⟨ret_int (by first | rfl | omega),rfl⟩

end Go.Proofs.YtdfanhjnkjdngaaGreatDoor

/- The contract of skerryref01.BytesApart. -/
namespace Go.Proofs.YtdfanhjnkjdngaaGreatDoor
set_option maxRecDepth 100000
set_option maxHeartbeats 8000000
open Go.RowKit Go.Shelf
set_option linter.unusedVariables false

def mk (n:Int):Int:=(n * 7 + n / 36 + 3) % 256

structure Lists where
 N:Nat
 B:Nat
 Lb:Nat
 ca:Array Value
 A:Nat→Option Addr
 L:Nat→Nat
 C:Nat→Nat
 off:Nat→Nat

def ext (S:Lists) (p q:Nat):Int:=mk ((S.off S.N + 6 * p + q:Nat):Int)

end Go.Proofs.YtdfanhjnkjdngaaGreatDoor

