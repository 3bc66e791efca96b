/- Joined: GBase, DCopy, Fol, GApart, GApp, GCheck, GI. -/
import Derived.Test.YtdfanhjnkjdngabGreatDoorRows
import Derived.WalkKit
import Derived.WalkSpells
import Derived.WalkLawsBesides
import Derived.RangeFuncBox
import Derived.Shelf.Abstract
import Derived.Laws.CopyOwn
import Derived.Deep.OwnRows
import Derived.Laws.BytesArg
import Derived.Laws.BitsAllLaws
import Derived.ArgAppend
import Derived.Deep.RegionWith
import Derived.Deep.QuietTactic
import Derived.BigQuiet
import Derived.Lib.BufferWrite
import Derived.Test.YtdfanhjnkjdngabGreatDoorAnJ0
/- Words and laws on slices of bytes, of no function of the program. -/
namespace Go.Proofs.YtdfanhjnkjdngabGreatDoor
set_option maxRecDepth 100000
set_option maxHeartbeats 8000000
open Go.RowKit Go.Shelf
set_option linter.unusedVariables false

theorem hide {p:Prop} (h:p):Hid p:=h

theorem unhide {p:Prop} (h:Hid p):p:=h

theorem ret_int {k:IntKind} {a b:Int} (h:a=b):Ending.returned (.int k a)=.returned (.int k b):=by rw [h]

theorem ret_two {k k':IntKind} {a b c d:Int} (h:a=b) (h':c=d):Ending.returned (.tuple #[.int k a,.int k' c])=.returned (.tuple #[.int k b,.int k' d]):=by rw [h,h']

theorem ret_put {sv:Value} {c d:Int} (h':c=d):Ending.returned (.tuple #[sv,.int .i64 c])=.returned (.tuple #[sv,.int .i64 d]):=by rw [h']

theorem ret_bool {a b:Bool} (h:a=b):Ending.returned (.bool a)=.returned (.bool b):=by rw [h]

theorem ret_zero {s s':Bool} {c d:Int} (h:s=s') (h':c=d):Ending.returned (.tuple #[.bool s,.int .i64 c])=.returned (.tuple #[.bool s',.int .i64 d]):=by rw [h,h']

theorem info5:(Tryz.prog.info? 5).map (fun i=>(i.zero,i.size,i.bytes))=some (some (.int .u8 0),1,1):=by kernel_rfl

theorem size5:(Tryz.prog.info? 5).map (·.size)=some 1:=by kernel_rfl

theorem oneCell_bytes (zs:List Int):∀ v ∈ zs.map (Value.int .u8),v.oneCell'=true:=by
 intro v hv
 simp only [List.mem_map] at hv
 obtain ⟨z,_,rfl⟩:=hv
 rfl

theorem World.add_zero_spot (b off j:Nat):(⟨b,off,none⟩:Addr).add j=⟨b,off + j,none⟩:=by unfold Addr.add; split <;> simp_all

def put (zs:List Int) (at':Nat) (ds:List Int):List Int:=zs.take at' ++ ds ++ zs.drop (at' + ds.length)

theorem put_other (zs:List Int) (at':Nat) (ds:List Int) (i:Nat) (h:at' + ds.length ≤ zs.length) (hi:i < at' ∨ at' + ds.length ≤ i):(put zs at' ds)[i]?=zs[i]?:=by
 have h1:(zs.take at').length=at':=by simp; omega
 rw [put]
 rcases hi with hi | hi
 ·rw [List.append_assoc,List.getElem?_append_left (by omega),List.getElem?_take_of_lt hi]
 ·rw [List.getElem?_append_right (by simp; omega),List.getElem?_drop]
  congr 1
  simp; omega

def Row (n0:Nat) (w:World) (a:Option Addr) (len cap:Nat) (zs:List Int):Prop :=
 zs.length=len∧len ≤ cap∧(len ≤ 140737488351232∧cap ≤ 9223372036854775807)∧(∀ z ∈ zs,0 ≤ z∧z ≤ 255) ∧
 (0 < len→∃ b off,a=some ⟨b,off,none⟩∧b < n0∧∀ j,j < len→w.cell? ⟨b,off + j,none⟩=some (.int .u8 (zs[j]?.getD 0)))

theorem Row.below {n0:Nat} {w w':World} {a:Option Addr} {len cap:Nat} {zs:List Int} (h:Row n0 w a len cap zs) (hb:Below n0 w w') {n1:Nat} (hn:n0 ≤ n1):Row n1 w' a len cap zs:=by
 obtain ⟨h1,h2,h3,h4,h5⟩:=h
 refine ⟨h1,h2,h3,h4,fun hp=>?_⟩
 obtain ⟨b,off,e,hlt,hc⟩:=h5 hp
 exact ⟨b,off,e,by omega,fun j hj=>(hb.cell (p:=⟨b,off + j,none⟩) hlt).trans (hc j hj)⟩

theorem Row.alloc {w:World} {a:Option Addr} {len cap:Nat} {zs:List Int} (h:Row w.heap.size w a len cap zs) (o:Obj):Row (w.alloc o).heap.size (w.alloc o) a len cap zs :=
 h.below ((Below.refl _ w).alloc (Nat.le_refl _) o) (by simp)

def Block (w:World) (g:Nat) (zs:List Int):Prop:=w.heap[g]?=some (.cells (zs.map (Value.int .u8)).toArray 5 (0,0))

theorem heap_kept {W W':World} {row:Option Nat} {k:Nat} {c:Array Value} {t:TypeId} {fr:Nat × Nat} (hs:W.heap[k]?=some (.cells c t fr)) (hg:W.grownBy W' row) (hr:∀ r,row=some r→∃ o:Obj,W.heap[r]?=some o∧o.isCells=false):W'.heap[k]?=some (.cells c t fr):=by
 have hlt:k < W.heap.size:=(Array.getElem?_eq_some_iff.1 hs).1
 rw [hg.block k hlt (fun e=>?_)]
 ·exact hs
 ·obtain ⟨o,h1,h2⟩:=hr k e.symm
  rw [hs] at h1
  cases h1
  simp [Obj.isCells] at h2

theorem cell_box {W:World} {k:Nat} {v:Value} {t:TypeId} (h:W.heap[k]?=some (.cells #[v] t (0,0))):W.cell? ⟨k,0,none⟩=some v:=by simp [World.cell?,h]

theorem Block.cell {W:World} {g:Nat} {zs:List Int} (h:Block W g zs) {i:Nat} (hi:i < zs.length):W.cell? ⟨g,i,none⟩=some (.int .u8 (zs[i]?.getD 0)):=by
 unfold Block at h
 simp [World.cell?,h,hi]

theorem Block.free {W:World} {g:Nat} {zs:List Int} (h:Block W g zs) (i:Nat):W.frozen? ⟨g,i,none⟩=false:=by
 unfold Block at h
 simp [World.frozen?,h]

theorem Block.set {W:World} {g:Nat} {zs:List Int} (h:Block W g zs) (i:Nat) (z:Int):Block (W.setCell ⟨g,i,none⟩ (.int .u8 z)) g (zs.set i z):=by
 unfold Block at *
 have hlt:g < W.heap.size:=(Array.getElem?_eq_some_iff.1 h).1
 rw [setCell_eq_setRow W g i _ 5 (0,0) _ h,setRow_heap W g _ _ 5 _ h]
 simp [List.map_set]

theorem Block.lt {W:World} {g:Nat} {zs:List Int} (h:Block W g zs):g < W.heap.size:=(Array.getElem?_eq_some_iff.1 h).1

theorem Block.below {W W':World} {g n:Nat} {zs:List Int} (h:Block W g zs) (hb:Below n W W') (hg:g < n):Block W' g zs:=(hb.block g hg).trans h

theorem Block.row {w:World} {g:Nat} {zs:List Int} (h:Block w g zs) {len:Nat} (hl:zs.length=len) (hc:len ≤ 140737488351232) (hby:∀ z ∈ zs,0 ≤ z∧z ≤ 255):Row w.heap.size w (some ⟨g,0,none⟩) len len zs :=
 ⟨hl,Nat.le_refl _,⟨hc,by omega⟩,hby,fun _=>⟨g,0,rfl,h.lt,fun j hj=>by rw [Nat.zero_add]; exact h.cell (by omega)⟩⟩

def Has (w:World) (a:Option Addr) (len:Nat) (zs:List Int):Prop :=
 zs.length=len∧(0 < len→∃ b off,a=some ⟨b,off,none⟩∧∀ j,j < len→w.cell? ⟨b,off + j,none⟩=some (.int .u8 (zs[j]?.getD 0)))

theorem Row.has {n0:Nat} {w:World} {a:Option Addr} {len cap:Nat} {zs:List Int} (h:Row n0 w a len cap zs):Has w a len zs :=
 ⟨h.1,fun hp=>by obtain ⟨b,off,e,_,hc⟩:=h.2.2.2.2 hp; exact ⟨b,off,e,hc⟩⟩

theorem Block.has {w:World} {g:Nat} {zs:List Int} (h:Block w g zs) {len:Nat} (hl:zs.length=len):Has w (some ⟨g,0,none⟩) len zs :=
 ⟨hl,fun _=>⟨g,0,rfl,fun j hj=>by rw [Nat.zero_add]; exact h.cell (by omega)⟩⟩

theorem Has.conv {w:World} {a:Option Addr} {len:Nat} {zs:List Int} (h:Has w a len zs) (cap:Nat):(convert 81 9 (.slice a len cap)).run Tryz.prog w=.ok (.string (strOfNums zs)) w:=by
 by_cases h0:len=0
 ·subst h0
  have hz:zs=[]:=List.eq_nil_of_length_eq_zero h.1
  subst hz
  rw [run_convert_bytes_string w 81 9 5 _ 0 cap Tryz.underlying81 Tryz.underlying5 Tryz.underlying9]
  cases a <;> simp [Conv.bytesToString,loadCells]
  all_goals rfl
 ·obtain ⟨b,off,rfl,hc⟩:=h.2 (by omega)
  exact run_convert_bytes_arg w 81 5 Tryz.underlying81 Tryz.underlying5 b off len cap zs h.1 (fun i hi=>by rw [hc i hi]; simp) 9 Tryz.underlying9

def Owns (w:World) (g len:Nat) (zs:List Int):Prop:=zs.length=len∧∃ cur,w.heap[g]?=some (.cells cur 5 (0,0))∧cur.toList.take len=zs.map (Value.int .u8)

theorem Owns.lt {w:World} {g len:Nat} {zs:List Int} (h:Owns w g len zs):g < w.heap.size:=by obtain ⟨_,cur,hg,_⟩:=h; exact (Array.getElem?_eq_some_iff.1 hg).1

theorem Owns.cell {w:World} {g len:Nat} {zs:List Int} (h:Owns w g len zs) {i:Nat} (hi:i < len):w.cell? ⟨g,i,none⟩=some (.int .u8 (zs[i]?.getD 0)):=by
 obtain ⟨hl,cur,hg,ht⟩:=h
 have h1:(cur.toList.take len)[i]?=some (.int .u8 (zs[i]?.getD 0)):=by
  rw [ht,List.getElem?_map,List.getElem?_eq_getElem (by omega)]; rfl
 rw [List.getElem?_take_of_lt hi] at h1
 simp only [World.cell?,hg]
 simpa using h1

theorem Owns.has {w:World} {g len:Nat} {zs:List Int} (h:Owns w g len zs):Has w (some ⟨g,0,none⟩) len zs :=
 ⟨h.1,fun _=>⟨g,0,rfl,fun j hj=>by rw [Nat.zero_add]; exact h.cell hj⟩⟩

theorem wpList_append_run {w w':World} {ops:Array Oper} {rest:List Oper} {o:Oper} {a:Act} {Q:Exit→Act→World→Prop} (t:TypeId) (hgd:o.guard=none) (d s:Operand)
  (ho:o.op=.call { callee:=.builtin .append,args:=#[d,s],argTypes:=#[t,t] }) (v x v':Value) (hd:a.eval d=v) (hs:a.eval s=x)
  (hrun:∀ ty,(Builtin.append_ #[t,t] ty #[v,x]).run Tryz.prog w=.ok v' w')
  (h:wpList Tryz.prog ops Q rest (a.put o.dst v') w'):wpList Tryz.prog ops Q (o :: rest) a w:=by
 refine wpList_plain hgd fun K hK=>?_
 have hr:=hrun o.type
 unfold Oper.wp
 simp [execOp,ho,resolve,invoke,builtin,hd,hs,hr,Result.andThen]
 exact hK _ _ h

def cutAt (a:Option Addr) (cap l:Nat):Option Addr:=if cap=l then a else a.map (·.add (l * 1))

theorem sizeOf5 (w:World):(sizeOf (Tryz.prog.elem 81)).run Tryz.prog w=.ok 1 w:=by kernel_rfl

theorem elem22:Tryz.prog.underlying 81=some (.slice (Tryz.prog.elem 81)):=by kernel_rfl

theorem run_cut_l (a:Option Addr) (len cap l:Nat) (h:l ≤ len) (w:World) :
  (Instr.slice 81 (.slice a len cap) (some (.int .i64 (l:Int))) none none).run Tryz.prog w=.ok (.slice (cutAt a cap l) (len - l) (cap - l)) w:=by
 rw [run_slice_l (P:=Tryz.prog) (w:=w) 81 a len cap elem22 .i64 l (by omega) (by omega),sizeOf5]
 simp only [Result.andThen,sliced]
 have e1:(l:Int).toNat=l:=by omega
 rw [e1]
 simp [cutAt]

def Own (B:Nat) (w:World) (a:Option Addr) (n c:Nat) (xs:List Int):Prop :=
 xs.length=n∧n ≤ c∧c ≤ maxLen∧((a=none∧n=0∧c=0) ∨ ∃ g cur,a=some ⟨g,0,none⟩∧B ≤ g∧w.heap[g]?=some (.cells cur 5 (0,0))∧cur.size=c∧cur.toList.take n=xs.map (Value.int .u8))

theorem Own.kept {B:Nat} {w w':World} {a:Option Addr} {n c:Nat} {xs:List Int} (h:Own B w a n c xs) (hk:∀ g,a=some ⟨g,0,none⟩→w'.heap[g]?=w.heap[g]?):Own B w' a n c xs:=by
 obtain ⟨h1,h2,h3,h4⟩:=h
 refine ⟨h1,h2,h3,?_⟩
 rcases h4 with h4 | ⟨g,cur,e,hg,hh,r⟩
 ·exact .inl h4
 ·exact .inr ⟨g,cur,e,hg,(hk g e).trans hh,r⟩

theorem Own.cell {B:Nat} {w:World} {a:Option Addr} {n c:Nat} {xs:List Int} (h:Own B w a n c xs) {j:Nat} (hj:j < n):∃ g,a=some ⟨g,0,none⟩∧B ≤ g∧w.cell? ⟨g,j,none⟩=some (.int .u8 (xs[j]?.getD 0))∧w.frozen? ⟨g,j,none⟩=false:=by
 obtain ⟨h1,h2,h3,h4⟩:=h
 rcases h4 with ⟨_,h4,_⟩ | ⟨g,cur,e,hg,hh,hc,ht⟩
 ·omega
 ·refine ⟨g,e,hg,?_,by simp [World.frozen?,hh]⟩
  have hx:(cur.toList.take n)[j]?=some (.int .u8 (xs[j]?.getD 0)):=by
   rw [ht,List.getElem?_map,List.getElem?_eq_getElem (by omega)]; rfl
  rw [List.getElem?_take_of_lt hj] at hx
  simp only [World.cell?,hh]
  simpa using hx

theorem Own.lt {B:Nat} {w:World} {a:Option Addr} {n c:Nat} {xs:List Int} (h:Own B w a n c xs) {g:Nat} (e:a=some ⟨g,0,none⟩):g < w.heap.size∧B ≤ g∧∃ cur,w.heap[g]?=some (.cells cur 5 (0,0)):=by
 obtain ⟨_,_,_,h4⟩:=h
 rcases h4 with ⟨h4,_⟩ | ⟨g',cur,e',hg,hh,_⟩
 ·rw [h4] at e; cases e
 ·rw [e] at e'; cases e'
  exact ⟨(Array.getElem?_eq_some_iff.1 hh).1,hg,cur,hh⟩

theorem ownsRow_block {w w':World} {B e size n:Nat} {v:Value} {xs:List Value} (h:w.ownsRow B e size v n xs) (hk:∀ g cur,B ≤ g→w.heap[g]?=some (.cells cur e (0,0))→w'.heap[g]?=w.heap[g]?):w'.ownsRow B e size v n xs:=by
 obtain ⟨h1,h2⟩:=h
 refine ⟨h1,?_⟩
 rcases h2 with h2 | ⟨g,cap,cur,rfl,hb,hh,r⟩
 ·exact .inl h2
 ·exact .inr ⟨g,cap,cur,rfl,hb,(hk g cur hb hh).trans hh,r⟩

theorem Own.below {B n:Nat} {w w':World} {a:Option Addr} {l c:Nat} {xs:List Int} (h:Own B w a l c xs) (hb:Below n w w') (hn:w.heap.size ≤ n):Own B w' a l c xs :=
 h.kept (fun g e=>hb.block g (by have:=(h.lt e).1; omega))

theorem Own.base {B B':Nat} {w:World} {a:Option Addr} {l c:Nat} {xs:List Int} (h:Own B w a l c xs) (hb:B' ≤ B):Own B' w a l c xs:=by
 obtain ⟨h1,h2,h3,h4⟩:=h
 refine ⟨h1,h2,h3,?_⟩
 rcases h4 with h4 | ⟨g,cur,e,hg,r⟩
 ·exact .inl h4
 ·exact .inr ⟨g,cur,e,by omega,r⟩

def byts (s:ByteArray):List Int:=s.data.toList.map (fun b=>(b.toNat:Int))

theorem cell_block_lt {w:World} {x:Addr} {v:Value} (h:w.cell? x=some v):x.block < w.heap.size:=by
 cases hb:w.heap[x.block]? with
 | none=>simp [World.cell?,hb] at h
 | some o=>exact (Array.getElem?_eq_some_iff.1 hb).1

end Go.Proofs.YtdfanhjnkjdngabGreatDoor

/- The contract of device.copied. -/
namespace Go.Proofs.YtdfanhjnkjdngabGreatDoor
set_option maxRecDepth 100000
set_option maxHeartbeats 8000000
open Go.RowKit Go.Shelf
set_option linter.unusedVariables false

theorem copied_any (a:Option Addr) (len cap:Nat) (zs:List Int) (w:World) (hr:Row w.heap.size w a len cap zs) :
  Calls Tryz.prog 133 #[.slice a len cap] w fun e w'=>e=.returned (.slice (some ⟨w.heap.size,0,none⟩) len len)∧Block w' w.heap.size zs∧Below w.heap.size w w':=by
 obtain ⟨hlen,hlc,hcm,hby,hcell⟩:=hr
 have hmk:=run_make_row' (P:=Tryz.prog) 81 5 (.int .u8 0) 1 Tryz.underlying81 info5 rfl .i64 .i64 len (by omega) (by omega)
 have hb0:Below w.heap.size w (w.alloc (.cells (madeCells #[.int .u8 0] len) 5)):=(Below.refl _ w).alloc (Nat.le_refl _) _
 have hsrc:0 < len→∃ ad,a=some ad∧∀ (j:Nat) v,(zs.map (Value.int .u8))[j]?=some v→(w.alloc (.cells (madeCells #[.int .u8 0] len) 5)).cell? (ad.add j)=some v:=by
  intro hp
  obtain ⟨b,off,rfl,hb,hc⟩:=hcell hp
  refine ⟨_,rfl,fun j v hv=>?_⟩
  rw [World.add_zero_spot,hb0.cell (p:=⟨b,off + j,none⟩) hb]
  have hj:j < zs.length:=by
   have:=(List.getElem?_eq_some_iff.1 hv).1
   simpa using this
  rw [hc j (by omega)]
  rw [List.getElem?_map,List.getElem?_eq_getElem hj] at hv
  rw [List.getElem?_eq_getElem hj]
  simpa using hv
 have hg:(w.alloc (.cells (madeCells #[.int .u8 0] len) 5)).heap[w.heap.size]?=some (.cells (List.replicate len (Value.int .u8 0)).toArray 5 (0,0)):=by
  rw [World.alloc_heap_new,← toList_madeCells_one,Array.toArray_toList]
 obtain ⟨w2,hcp,hg2,hb2⟩:∃ w2,(∀ ty,(Builtin.copy_ #[81,81] ty #[.slice (some ⟨w.heap.size,0,none⟩) len len,.slice a len cap]).run Tryz.prog (w.alloc (.cells (madeCells #[.int .u8 0] len) 5))=.ok (goInt len) w2)∧Block w2 w.heap.size zs∧Below w.heap.size w w2:=by
  by_cases h0:len=0
  ·subst h0
   have hz:zs=[]:=List.eq_nil_of_length_eq_zero hlen
   subst hz
   exact ⟨_,fun ty=>run_copy_none _ 81 81 ty 5 _ _ _ _ _ _ Tryz.underlying81 size5 rfl,hg,hb0⟩
  ·obtain ⟨ad,rfl,hs⟩:=hsrc (by omega)
   refine ⟨_,fun ty=>?_,?_,below_setRow hb0 (Nat.le_refl _) (zs.map (Value.int .u8)).toArray⟩
   ·have h:=run_copy_row (P:=Tryz.prog) (w.alloc (.cells (madeCells #[.int .u8 0] len) 5)) 81 81 ty 5 w.heap.size 0 len len ad len cap _ 5 (zs.map (Value.int .u8)) Tryz.underlying81 size5 hg (by rw [List.length_map,hlen]; exact (Nat.min_self _).symm) hs (by simp [hlen]) (oneCell_bytes zs)
    have e:(List.take 0 (List.replicate len (Value.int .u8 0)).toArray.toList ++ zs.map (Value.int .u8) ++ List.drop (0 + (zs.map (Value.int .u8)).length) (List.replicate len (Value.int .u8 0)).toArray.toList)=zs.map (Value.int .u8):=by
     simp [hlen]
    rw [e,List.length_map,hlen] at h
    exact h
   ·exact setRow_heap _ _ _ _ 5 _ hg
 clear hg hsrc hcell
 go_enter Tryz.func133,Tryz.ntmps133
 go_wp2
 go_ret
 exact ⟨rfl,hg2,hb2⟩

end Go.Proofs.YtdfanhjnkjdngabGreatDoor

/- The contracts of follow, Sum and Add. -/
namespace Go.Proofs.YtdfanhjnkjdngabGreatDoor
set_option maxRecDepth 100000
set_option maxHeartbeats 8000000
open Go.RowKit Go.Shelf
set_option linter.unusedVariables false

def Tab (w:World):Prop:=∀ k,k < 16→w.cell? ⟨0,k,none⟩=some (.int .u32 ((tab k:Nat):Int))

theorem look (w:World) (hT:Tab w) (X:Nat) (hX:X < 4294967296):∃ r t Y:Nat,r < 16∧w.cell? ⟨0,r,none⟩=some (.int .u32 (t:Int))∧bits .and .u32 (X:Int) 15=(r:Int)∧bits .xor .u32 ((X:Int) / 16) (t:Int)=(Y:Int)∧Y < 4294967296∧Hid (Y=st4 X):=by
 refine ⟨X % 16,tab (X % 16),st4 X,by omega,hT _ (by omega),?_,?_,st4_lt hX,rfl⟩
 ·have:=u32_and_nat X 15 hX (by omega)
  rw [nat_mask4] at this
  exact this
 ·rw [st4_look]
  have:=u32_xor_nat (X / 16) (tab (X % 16)) (by omega) (tab_lt _)
  rw [← this]
  congr 1

theorem follow_some (b off len cap:Nat) (zs:List Int) (s:Nat) (w:World) (hs:s < 4294967296) (hT:Tab w) (hlen:zs.length=len) (hl:len ≤ 140737488355328) (hby:Byts zs)
  (hcs:∀ j,j < len→w.cell? ⟨b,off + j,none⟩=some (.int .u8 (zs[j]?.getD 0))) :
  Calls Tryz.prog 186 #[.int .u32 (s:Int),.slice (some ⟨b,off,none⟩) len cap] w fun e w'=>e=.returned (.int .u32 ((addS s zs:Nat):Int))∧w=w':=by
 obtain ⟨c0,hc0,hs1,hx0⟩:∃ c0:Nat,Hid (s ^^^ 4294967295=c0)∧c0 < 4294967296∧bits .xor .u32 (s:Int) 4294967295=(c0:Int):=⟨_,rfl,lt_xor hs (by omega),u32_xor_nat s 4294967295 hs (by omega)⟩
 have HE:Hid (addS s zs=fol c0 zs ^^^ 4294967295):=by unfold addS; rw [hc0.out]; rfl
 have HT:=hide hT
 have HB:=hide hby
 have HC:=hide hcs
 clear hc0 hT hby hcs
 go_enter Tryz.func186,Tryz.ntmps186
 go_wp2
 go_loop [5,12] (fun c i=>∃ k:Nat,k ≤ len∧i=.int .i64 (k:Int)∧c=.int .u32 ((fol c0 (zs.take k):Nat):Int)) (fun _ i=>len - (intOf i).toNat)
 case atStart=>exact ⟨0,Nat.zero_le _,rfl,rfl⟩
 case round =>
  obtain ⟨k,hk,rfl,rfl⟩:=hrel
  have hC:fol c0 (zs.take k) < 4294967296:=fol_lt (fun z hz=>HB.out z (List.mem_of_mem_take hz)) hs1
  by_cases hlt:k < len
  ·have hz:=HB.out (zs[k]?.getD 0) (by rw [List.getElem?_eq_getElem (by omega)]; exact List.getElem_mem _)
   have HS:=hide (fol_succ c0 zs k (by omega))
   have hck:=HC.out k hlt
   generalize fol c0 (zs.take k)=C at *
   generalize zs[k]?.getD 0=xi at *
   obtain ⟨x,rfl⟩:=Int.eq_ofNat_of_zero_le hz.1
   have hx1:(x:Int) % 4294967296=x:=by omega
   obtain ⟨X,hXe,hX,h1⟩:∃ X:Nat,Hid (X=C ^^^ x)∧X < 4294967296∧bits .xor .u32 (C:Int) (x:Int)=(X:Int):=⟨_,rfl,lt_xor hC (by omega),u32_xor_nat C x hC (by omega)⟩
   obtain ⟨r,t,Y,hr,ht,h2,h3,hY,hYe⟩:=look w HT.out X hX
   obtain ⟨r',t',Z,hr',ht',h2',h3',hZ,hZe⟩:=look w HT.out Y hY
   have HF:Hid (fol c0 (zs.take (k + 1))=Z):=by
    show _=_
    rw [HS.out,hZe.out,hYe.out,hXe.out]
    rfl
   clear hXe hYe hZe HS
   go_wp2
   exact ⟨⟨k + 1,by omega,by go_num,by rw [HF.out]⟩,by simp [intOf]; omega⟩
  ·have hX:=u32_xor_nat (fol c0 (zs.take k)) 4294967295 hC (by omega)
   have HX:=hide hX
   obtain rfl:k=len:=by omega
   clear hX
   go_wp2
   go_ret
   refine ⟨?_,rfl⟩
   rw [HE.out]
   refine ret_int ?_
   have HX':=HX.out
   have e:zs.take k=zs:=List.take_of_length_le (by omega)
   rw [e] at HX' ⊢
   exact HX'

theorem follow_none (a:Option Addr) (cap:Nat) (s:Nat) (w:World) (hs:s < 4294967296) :
  Calls Tryz.prog 186 #[.int .u32 (s:Int),.slice a 0 cap] w fun e w'=>e=.returned (.int .u32 ((addS s []:Nat):Int))∧w=w':=by
 obtain ⟨c0,hc0,hs1,hx0⟩:∃ c0:Nat,Hid (s ^^^ 4294967295=c0)∧c0 < 4294967296∧bits .xor .u32 (s:Int) 4294967295=(c0:Int):=⟨_,rfl,lt_xor hs (by omega),u32_xor_nat s 4294967295 hs (by omega)⟩
 have HE:Hid (addS s []=c0 ^^^ 4294967295):=by unfold addS; rw [hc0.out]; rfl
 have hX:=u32_xor_nat c0 4294967295 hs1 (by omega)
 have HX:=hide hX
 clear hc0 hX
 go_enter Tryz.func186,Tryz.ntmps186
 go_wp2
 go_loop [5,12] (fun c i=>i=.int .i64 0∧c=.int .u32 (c0:Int)) (fun _ i=>0 - (intOf i).toNat)
 case atStart=>exact ⟨rfl,rfl⟩
 case round =>
  obtain ⟨rfl,rfl⟩:=hrel
  go_wp2
  go_ret
  refine ⟨?_,rfl⟩
  rw [HE.out]
  exact ret_int HX.out

theorem follow_any (a:Option Addr) (len cap:Nat) (zs:List Int) (s:Nat) (w:World) (hs:s < 4294967296) (hT:Tab w) (hh:Has w a len zs) (hl:len ≤ 140737488355328) (hby:Byts zs) :
  Calls Tryz.prog 186 #[.int .u32 (s:Int),.slice a len cap] w fun e w'=>e=.returned (.int .u32 ((addS s zs:Nat):Int))∧w=w':=by
 by_cases h0:len=0
 ·subst h0
  obtain rfl:zs=[]:=List.eq_nil_of_length_eq_zero hh.1
  exact follow_none a cap s w hs
 ·obtain ⟨b,off,rfl,hc⟩:=hh.2 (by omega)
  exact follow_some b off len cap zs s w hs hT hh.1 hl hby hc

theorem sum_any (a:Option Addr) (len cap:Nat) (zs:List Int) (w:World) (hT:Tab w) (hh:Has w a len zs) (hl:len ≤ 140737488355328) (hby:Byts zs) :
  Calls Tryz.prog 163 #[.slice a len cap] w fun e w'=>e=.returned (.int .i64 ((sumS zs:Nat):Int))∧w=w':=by
 have hlt:=sumS_lt hby
 have K:Hid (Calls Tryz.prog 186 #[.int .u32 0,.slice a len cap] w fun e w'=>e=.returned (.int .u32 ((sumS zs:Nat):Int))∧w=w'):=by
  have:=follow_any a len cap zs 0 w (by omega) hT hh hl hby
  rw [addS_zero] at this
  exact this
 generalize sumS zs=S at *
 clear hT hh hby
 go_enter Tryz.func163,Tryz.ntmps163
 go_wp2_with (go_at_call 186; refine (unhide K).mono ?_; rintro e w' ⟨rfl,rfl⟩)
 go_ret
 exact ⟨ret_int (by first | rfl | omega),rfl⟩

end Go.Proofs.YtdfanhjnkjdngabGreatDoor

/- The contract of skerryref01.BytesApart. -/
namespace Go.Proofs.YtdfanhjnkjdngabGreatDoor
set_option maxRecDepth 100000
set_option maxHeartbeats 8000000
open Go.RowKit Go.Shelf
set_option linter.unusedVariables false

def mk (n:Int):Int:=(n * 7 + n / 36 + 3) % 256

structure Lists where
 N:Nat
 B:Nat
 Lb:Nat
 ca:Array Value
 A:Nat→Option Addr
 L:Nat→Nat
 C:Nat→Nat
 off:Nat→Nat

def ext (S:Lists) (p q:Nat):Int:=mk ((S.off S.N + 6 * p + q:Nat):Int)

end Go.Proofs.YtdfanhjnkjdngabGreatDoor

/- An append of bytes to a row of the call's own, from whatever source. -/
namespace Go.Proofs.YtdfanhjnkjdngabGreatDoor
set_option maxRecDepth 100000
set_option maxHeartbeats 8000000
open Go.RowKit Go.Shelf
set_option linter.unusedVariables false

theorem Own.owns {B:Nat} {w:World} {a:Option Addr} {n c:Nat} {xs:List Int} (h:Own B w a n c xs):w.ownsRow B 5 1 (.slice a n c) n (xs.map (Value.int .u8)):=by
 obtain ⟨h1,h2,h3,h4⟩:=h
 refine ⟨by simp [h1],?_⟩
 rcases h4 with ⟨rfl,rfl,rfl⟩ | ⟨g,cur,rfl,hg,hh,hc,ht⟩
 ·exact .inl ⟨rfl,rfl⟩
 ·exact .inr ⟨g,c,cur,rfl,hg,hh,h2,h3,by simpa using hc,by simpa using ht⟩

theorem Own.of_owns {B:Nat} {w:World} {v:Value} {n:Nat} {xs:List Int} (h:w.ownsRow B 5 1 v n (xs.map (Value.int .u8))):∃ a c,v=.slice a n c∧Own B w a n c xs:=by
 obtain ⟨h1,h2⟩:=h
 have hl:xs.length=n:=by simpa using h1
 rcases h2 with ⟨rfl,rfl⟩ | ⟨g,cap,cur,rfl,hg,hh,h2,h3,hc,ht⟩
 ·exact ⟨none,0,rfl,hl,Nat.le_refl _,by unfold maxLen; omega,.inl ⟨rfl,rfl,rfl⟩⟩
 ·exact ⟨_,cap,rfl,hl,h2,h3,.inr ⟨g,cur,rfl,hg,hh,by simpa using hc,by simpa using ht⟩⟩

theorem Own.has {B:Nat} {w:World} {a:Option Addr} {n c:Nat} {xs:List Int} (h:Own B w a n c xs):Has w a n xs:=by
 refine ⟨h.1,fun hp=>?_⟩
 obtain ⟨g,e,_,_,_⟩:=h.cell (j:=0) hp
 refine ⟨g,0,e,fun j hj=>?_⟩
 obtain ⟨g',e',_,hc,_⟩:=h.cell hj
 rw [e] at e'
 cases e'
 rw [Nat.zero_add]
 exact hc

theorem run_append_nothing (w:World) (ty:TypeId) (a a2:Option Addr) (n c c2:Nat) (hn:n ≤ c) (ha:a=none→n=0∧c=0):(Builtin.append_ #[81,81] ty #[.slice a n c,.slice a2 0 c2]).run Tryz.prog w=.ok (.slice a n c) w:=by
 obtain ⟨i0,hi,hz0,hz1,hz2⟩:=info_parts info5
 cases a with
 | none =>
  obtain ⟨rfl,rfl⟩:=ha rfl
  cases a2 <;> simp [Builtin.append_,run_underlying Tryz.underlying81,sizeOf,typeInfo,hi,Builtin.lenOf,Builtin.firstCells,loadCells,loadCellsFrom]
 | some x=>cases a2 <;> simp [Builtin.append_,run_underlying Tryz.underlying81,sizeOf,typeInfo,hi,Builtin.lenOf,Builtin.firstCells,storeCells,loadCells,loadCellsFrom,hn]

theorem run_append_bytes {B:Nat} {w:World} {a:Option Addr} {n c:Nat} {xs:List Int} (h:Own B w a n c xs) (hB:B ≤ w.heap.size) {a2:Option Addr} {m:Nat} {ys:List Int} (c2:Nat) (h2:Has w a2 m ys) (hn:n + m ≤ 140737488355328) :
  ∃ a' c' w',(∀ ty,(Builtin.append_ #[81,81] ty #[.slice a n c,.slice a2 m c2]).run Tryz.prog w=.ok (.slice a' (n + m) c') w')∧Own B w' a' (n + m) c' (xs ++ ys) ∧
   (∀ k,k < w.heap.size→(∀ g,a=some ⟨g,0,none⟩→k ≠ g)→w'.heap[k]?=w.heap[k]?)∧Below B w w':=by
 obtain ⟨i0,hi,hz0,hz1,hz2⟩:=info_parts info5
 by_cases h0:m=0
 ·subst h0
  obtain rfl:ys=[]:=List.eq_nil_of_length_eq_zero h2.1
  refine ⟨a,c,w,fun ty=>run_append_nothing w ty a a2 n c c2 h.2.1 (fun e=>?_),by rw [List.append_nil]; exact h,fun _ _ _=>rfl,Below.refl _ _⟩
  rcases h.2.2.2 with ⟨_,e1,e2⟩ | ⟨g,_,e',_⟩
  ·exact ⟨e1,e2⟩
  ·rw [e] at e'; cases e'
 ·obtain ⟨b,off,rfl,hc⟩:=h2.2 (by omega)
  have hl:=h2.1
  have hnews:∀ (j:Nat) (u:Value),(ys.map (Value.int .u8))[j]?=some u→w.cell? ((⟨b,off,none⟩:Addr).add j)=some u:=by
   intro j u hj
   have hjl:j < m:=by have:=(List.getElem?_eq_some_iff.1 hj).1; simp at this; omega
   rw [World.add_zero_spot,hc j hjl]
   rw [List.getElem?_map,List.getElem?_eq_getElem (by omega)] at hj
   rw [List.getElem?_eq_getElem (by omega)]
   simpa using hj
  have hmax:n + m ≤ maxLen:=by unfold maxLen; omega
  obtain ⟨v',w',hr,ho,hg,_⟩:=run_append_own (P:=Tryz.prog) w B 81 0 5 i0 (.int .u8 0) 1 1 Tryz.underlying81 hi hz0 hz1 hz2 rfl (by decide) (.slice a n c) n _ h.owns ⟨b,off,none⟩ m c2 (ys.map (Value.int .u8)) (by simp [hl]) hnews (oneCell_bytes ys) hmax (by omega) hB
  rw [← List.map_append] at ho
  obtain ⟨a',c',rfl,ho'⟩:=Own.of_owns ho
  refine ⟨a',c',w',fun ty=>hr,ho',fun k hk hne=>?_,?_⟩
  ·refine hg.block k hk (fun e=>?_)
   rcases h.2.2.2 with ⟨ha,_,_⟩ | ⟨g,_,ha,_⟩
   ·rw [ha] at e; simp [Value.ownBlock] at e
   ·rw [ha] at e
    simp [Value.ownBlock] at e
    exact hne g ha e
  ·refine (Below.refl B w).grown hg hB (fun k e=>?_)
   rcases h.2.2.2 with ⟨ha,_,_⟩ | ⟨g,_,ha,hgB,_⟩
   ·rw [ha] at e; simp [Value.ownBlock] at e
   ·rw [ha] at e
    simp [Value.ownBlock] at e
    omega

end Go.Proofs.YtdfanhjnkjdngabGreatDoor

/- Contracts of field.checkPart and field.checkNumber. -/
namespace Go.Proofs.YtdfanhjnkjdngabGreatDoor
set_option maxRecDepth 100000
set_option maxHeartbeats 8000000
open Go.RowKit Go.Shelf
set_option linter.unusedVariables false

def partErr (len:Nat) (at' n:Int):Int:=if n < 0 then 1 else if at' < 0 then 2 else if (len:Int) - at' < n then 2 else 0

def numErr (len:Nat) (at' n:Int):Int:=if n=1 then partErr len at' n else if n=2 then partErr len at' n else if n=4 then partErr len at' n else 1

theorem partErr_arg {len:Nat} {at' n:Int} (h:n < 0):partErr len at' n=1:=by unfold partErr; rw [if_pos h]

theorem partErr_neg {len:Nat} {at' n:Int} (h:0 ≤ n) (h2:at' < 0):partErr len at' n=2:=by unfold partErr; rw [if_neg (by omega),if_pos h2]

theorem partErr_far {len:Nat} {at' n:Int} (h:0 ≤ n) (h2:0 ≤ at') (h3:(len:Int) - at' < n):partErr len at' n=2:=by unfold partErr; rw [if_neg (by omega),if_neg (by omega),if_pos h3]

theorem partErr_ok {len:Nat} {at' n:Int} (h:0 ≤ n) (h2:0 ≤ at') (h3:n ≤ (len:Int) - at'):partErr len at' n=0:=by unfold partErr; rw [if_neg (by omega),if_neg (by omega),if_neg (by omega)]

theorem checkPart_any (a:Option Addr) (len cap:Nat) (at' n:Int) (w:World) (hl:len ≤ maxLen) (ha:at' ≤ 9223372036854775807) (hn:-9223372036854775808 ≤ n) :
  Calls Tryz.prog 189 #[.slice a len cap,.int .i64 at',.int .i64 n] w fun e w'=>e=.returned (.int .i64 (partErr len at' n))∧w=w':=by
 unfold maxLen at hl
 by_cases h1:n < 0
 ·rw [partErr_arg h1]
  go_enter Tryz.func189,Tryz.ntmps189
  go_wp2
  go_ret
  exact ⟨rfl,rfl⟩
 by_cases h2:at' < 0
 ·rw [partErr_neg (by omega) h2]
  go_enter Tryz.func189,Tryz.ntmps189
  go_wp2
  go_ret
  exact ⟨rfl,rfl⟩
 by_cases h3:(len:Int) - at' < n
 ·rw [partErr_far (by omega) (by omega) h3]
  go_enter Tryz.func189,Tryz.ntmps189
  go_wp2
  go_ret
  exact ⟨rfl,rfl⟩
 ·rw [partErr_ok (by omega) (by omega) (by omega)]
  go_enter Tryz.func189,Tryz.ntmps189
  go_wp2
  go_ret
  exact ⟨rfl,rfl⟩

theorem checkNumber_any (a:Option Addr) (len cap:Nat) (at' n:Int) (w:World) (hl:len ≤ maxLen) (ha:at' ≤ 9223372036854775807) :
  Calls Tryz.prog 183 #[.slice a len cap,.int .i64 at',.int .i64 n] w fun e w'=>e=.returned (.int .i64 (numErr len at' n))∧w=w':=by
 unfold numErr
 by_cases h1:n=1
 ·subst h1
  rw [if_pos rfl]
  go_enter Tryz.func183,Tryz.ntmps183
  go_wp2_with (go_at_call 189; refine (checkPart_any _ _ _ _ _ _ hl ha (by omega)).mono ?_; rintro e w' ⟨rfl,rfl⟩)
  go_ret
  exact ⟨rfl,rfl⟩
 by_cases h2:n=2
 ·subst h2
  rw [if_neg (by omega),if_pos rfl]
  go_enter Tryz.func183,Tryz.ntmps183
  go_wp2_with (go_at_call 189; refine (checkPart_any _ _ _ _ _ _ hl ha (by omega)).mono ?_; rintro e w' ⟨rfl,rfl⟩)
  go_ret
  exact ⟨rfl,rfl⟩
 by_cases h4:n=4
 ·subst h4
  rw [if_neg (by omega),if_neg (by omega),if_pos rfl]
  go_enter Tryz.func183,Tryz.ntmps183
  go_wp2_with (go_at_call 189; refine (checkPart_any _ _ _ _ _ _ hl ha (by omega)).mono ?_; rintro e w' ⟨rfl,rfl⟩)
  go_ret
  exact ⟨rfl,rfl⟩
 ·rw [if_neg h1,if_neg h2,if_neg h4]
  have e1:(n == 1)=false:=by simpa using h1
  have e2:(n == 2)=false:=by simpa using h2
  have e4:(n == 4)=false:=by simpa using h4
  go_enter Tryz.func183,Tryz.ntmps183
  go_wp2_with fail
  go_ret
  exact ⟨rfl,rfl⟩

theorem numErr_cases (len:Nat) (at' n:Int):numErr len at' n=1 ∨ numErr len at' n=2 ∨ (numErr len at' n=0∧∃ at0 wd:Nat,at'=at0∧n=wd∧(wd=1 ∨ wd=2 ∨ wd=4)∧at0 + wd ≤ len):=by
 have hp:∀ n:Int,n=1 ∨ n=2 ∨ n=4→partErr len at' n=2 ∨ (partErr len at' n=0∧∃ at0 wd:Nat,at'=at0∧n=wd∧(wd=1 ∨ wd=2 ∨ wd=4)∧at0 + wd ≤ len):=by
  intro n hn
  by_cases h2:at' < 0
  ·exact .inl (partErr_neg (by omega) h2)
  by_cases h3:(len:Int) - at' < n
  ·exact .inl (partErr_far (by omega) (by omega) h3)
  ·exact .inr ⟨partErr_ok (by omega) (by omega) (by omega),at'.toNat,n.toNat,by omega,by omega,by omega,by omega⟩
 unfold numErr
 by_cases h1:n=1
 ·rw [if_pos h1]; exact .inr (hp n (.inl h1))
 rw [if_neg h1]
 by_cases h2:n=2
 ·rw [if_pos h2]; exact .inr (hp n (.inr (.inl h2)))
 rw [if_neg h2]
 by_cases h4:n=4
 ·rw [if_pos h4]; exact .inr (hp n (.inr (.inr h4)))
 rw [if_neg h4]; exact .inl rfl

theorem numErr_ok {len at0 wd:Nat} (hw:wd=1 ∨ wd=2 ∨ wd=4) (hat:at0 + wd ≤ len):numErr len (at0:Int) (wd:Int)=0:=by
 unfold numErr
 rcases hw with rfl | rfl | rfl
 ·rw [if_pos (by omega)]; exact partErr_ok (by omega) (by omega) (by omega)
 ·rw [if_neg (by omega),if_pos (by omega)]; exact partErr_ok (by omega) (by omega) (by omega)
 ·rw [if_neg (by omega),if_neg (by omega),if_pos (by omega)]; exact partErr_ok (by omega) (by omega) (by omega)

end Go.Proofs.YtdfanhjnkjdngabGreatDoor

/- Slices of numbers. -/
namespace Go.Proofs.YtdfanhjnkjdngabGreatDoor
set_option maxRecDepth 100000
set_option maxHeartbeats 8000000
open Go.RowKit Go.Shelf
set_option linter.unusedVariables false

def IHas (w:World) (a:Option Addr) (len:Nat) (ns:List Int):Prop :=
 ns.length=len∧(0 < len→∃ b off,a=some ⟨b,off,none⟩∧∀ j,j < len→w.cell? ⟨b,off + j,none⟩=some (.int .i64 (ns[j]?.getD 0)))

theorem IHas.lt {w:World} {a:Option Addr} {len:Nat} {zs:List Int} (h:IHas w a len zs) {b off:Nat} (hp:0 < len) (e:a=some ⟨b,off,none⟩):b < w.heap.size:=by
 obtain ⟨b',off',e',hc⟩:=h.2 hp
 rw [e] at e'
 cases e'
 exact cell_block_lt (hc 0 hp)

theorem IHas.later {w w':World} {a:Option Addr} {len:Nat} {zs:List Int} (h:IHas w a len zs) (hb:Below w.heap.size w w'):IHas w' a len zs:=by
 refine ⟨h.1,fun hp=>?_⟩
 obtain ⟨b,off,e,hc⟩:=h.2 hp
 exact ⟨b,off,e,fun j hj=>(hb.cell (p:=⟨b,off + j,none⟩) (h.lt hp e)).trans (hc j hj)⟩

end Go.Proofs.YtdfanhjnkjdngabGreatDoor

