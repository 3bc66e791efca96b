/- Joined: GBase, GApp, GI, CLay, GInts, GNum, GSame. -/
import Derived.Test.YtknmgefpjdfenaaGreatRows
import Derived.WalkKit
import Derived.WalkSpells
import Derived.WalkLawsBesides
import Derived.RangeFuncBox
import Derived.Shelf.Abstract
import Derived.Laws.CopyOwn
import Derived.Deep.OwnRows
import Derived.Laws.BytesArg
import Derived.Laws.BitsAllLaws
import Derived.ArgAppend
import Derived.Deep.RegionWith
import Derived.Deep.QuietTactic
import Derived.BigQuiet
import Derived.Lib.BufferWrite
/- Words and laws on slices of bytes, of no function of the program. -/
namespace Go.Proofs.YtknmgefpjdfenaaGreat
set_option maxRecDepth 100000
set_option maxHeartbeats 8000000
open Go.RowKit Go.Shelf
set_option linter.unusedVariables false

theorem hide {p:Prop} (h:p):Hid p:=h

theorem unhide {p:Prop} (h:Hid p):p:=h

theorem ret_two {k k':IntKind} {a b c d:Int} (h:a=b) (h':c=d):Ending.returned (.tuple #[.int k a,.int k' c])=.returned (.tuple #[.int k b,.int k' d]):=by rw [h,h']

theorem ret_bool {a b:Bool} (h:a=b):Ending.returned (.bool a)=.returned (.bool b):=by rw [h]

theorem info5:(Tryz.prog.info? 5).map (fun i=>(i.zero,i.size,i.bytes))=some (some (.int .u8 0),1,1):=by kernel_rfl

theorem size5:(Tryz.prog.info? 5).map (·.size)=some 1:=by kernel_rfl

theorem oneCell_bytes (zs:List Int):∀ v ∈ zs.map (Value.int .u8),v.oneCell'=true:=by
 intro v hv
 simp only [List.mem_map] at hv
 obtain ⟨z,_,rfl⟩:=hv
 rfl

theorem World.add_zero_spot (b off j:Nat):(⟨b,off,none⟩:Addr).add j=⟨b,off + j,none⟩:=by unfold Addr.add; split <;> simp_all

def put (zs:List Int) (at':Nat) (ds:List Int):List Int:=zs.take at' ++ ds ++ zs.drop (at' + ds.length)

theorem length_put (zs:List Int) (at':Nat) (ds:List Int) (h:at' + ds.length ≤ zs.length):(put zs at' ds).length=zs.length:=by
 simp [put]; omega

def Row (n0:Nat) (w:World) (a:Option Addr) (len cap:Nat) (zs:List Int):Prop :=
 zs.length=len∧len ≤ cap∧(len ≤ 140737488351232∧cap ≤ 9223372036854775807)∧(∀ z ∈ zs,0 ≤ z∧z ≤ 255) ∧
 (0 < len→∃ b off,a=some ⟨b,off,none⟩∧b < n0∧∀ j,j < len→w.cell? ⟨b,off + j,none⟩=some (.int .u8 (zs[j]?.getD 0)))

theorem Row.below {n0:Nat} {w w':World} {a:Option Addr} {len cap:Nat} {zs:List Int} (h:Row n0 w a len cap zs) (hb:Below n0 w w') {n1:Nat} (hn:n0 ≤ n1):Row n1 w' a len cap zs:=by
 obtain ⟨h1,h2,h3,h4,h5⟩:=h
 refine ⟨h1,h2,h3,h4,fun hp=>?_⟩
 obtain ⟨b,off,e,hlt,hc⟩:=h5 hp
 exact ⟨b,off,e,by omega,fun j hj=>(hb.cell (p:=⟨b,off + j,none⟩) hlt).trans (hc j hj)⟩

def Block (w:World) (g:Nat) (zs:List Int):Prop:=w.heap[g]?=some (.cells (zs.map (Value.int .u8)).toArray 5 (0,0))

theorem cell_box {W:World} {k:Nat} {v:Value} {t:TypeId} (h:W.heap[k]?=some (.cells #[v] t (0,0))):W.cell? ⟨k,0,none⟩=some v:=by simp [World.cell?,h]

def Has (w:World) (a:Option Addr) (len:Nat) (zs:List Int):Prop :=
 zs.length=len∧(0 < len→∃ b off,a=some ⟨b,off,none⟩∧∀ j,j < len→w.cell? ⟨b,off + j,none⟩=some (.int .u8 (zs[j]?.getD 0)))

theorem Row.has {n0:Nat} {w:World} {a:Option Addr} {len cap:Nat} {zs:List Int} (h:Row n0 w a len cap zs):Has w a len zs :=
 ⟨h.1,fun hp=>by obtain ⟨b,off,e,_,hc⟩:=h.2.2.2.2 hp; exact ⟨b,off,e,hc⟩⟩

theorem Has.nil (w:World):Has w none 0 []:=⟨rfl,fun h=>by omega⟩

theorem Has.conv {w:World} {a:Option Addr} {len:Nat} {zs:List Int} (h:Has w a len zs) (cap:Nat):(convert 34 9 (.slice a len cap)).run Tryz.prog w=.ok (.string (strOfNums zs)) w:=by
 by_cases h0:len=0
 ·subst h0
  have hz:zs=[]:=List.eq_nil_of_length_eq_zero h.1
  subst hz
  rw [run_convert_bytes_string w 34 9 5 _ 0 cap Tryz.underlying34 Tryz.underlying5 Tryz.underlying9]
  cases a <;> simp [Conv.bytesToString,loadCells]
  all_goals rfl
 ·obtain ⟨b,off,rfl,hc⟩:=h.2 (by omega)
  exact run_convert_bytes_arg w 34 5 Tryz.underlying34 Tryz.underlying5 b off len cap zs h.1 (fun i hi=>by rw [hc i hi]; simp) 9 Tryz.underlying9

theorem wpList_append_run {w w':World} {ops:Array Oper} {rest:List Oper} {o:Oper} {a:Act} {Q:Exit→Act→World→Prop} (t:TypeId) (hgd:o.guard=none) (d s:Operand)
  (ho:o.op=.call { callee:=.builtin .append,args:=#[d,s],argTypes:=#[t,t] }) (v x v':Value) (hd:a.eval d=v) (hs:a.eval s=x)
  (hrun:∀ ty,(Builtin.append_ #[t,t] ty #[v,x]).run Tryz.prog w=.ok v' w')
  (h:wpList Tryz.prog ops Q rest (a.put o.dst v') w'):wpList Tryz.prog ops Q (o :: rest) a w:=by
 refine wpList_plain hgd fun K hK=>?_
 have hr:=hrun o.type
 unfold Oper.wp
 simp [execOp,ho,resolve,invoke,builtin,hd,hs,hr,Result.andThen]
 exact hK _ _ h

def cutAt (a:Option Addr) (cap l:Nat):Option Addr:=if cap=l then a else a.map (·.add (l * 1))

theorem Has.cut {w:World} {a:Option Addr} {len:Nat} {zs:List Int} (h:Has w a len zs) {cap l k:Nat} (hc:len ≤ cap) (hl:l + k ≤ len):Has w (cutAt a cap l) k ((zs.drop l).take k):=by
 refine ⟨by simp [h.1]; omega,fun hp=>?_⟩
 obtain ⟨b,off,rfl,hcs⟩:=h.2 (by omega)
 refine ⟨b,off + l,?_,fun j hj=>?_⟩
 ·unfold cutAt
  rw [if_neg (by omega),Option.map_some,Nat.mul_one,World.add_zero_spot]
 ·rw [Nat.add_assoc,hcs (l + j) (by omega),List.getElem?_take_of_lt hj,List.getElem?_drop]

theorem sizeOf5 (w:World):(sizeOf (Tryz.prog.elem 34)).run Tryz.prog w=.ok 1 w:=by kernel_rfl

theorem elem22:Tryz.prog.underlying 34=some (.slice (Tryz.prog.elem 34)):=by kernel_rfl

theorem run_cut_l (a:Option Addr) (len cap l:Nat) (h:l ≤ len) (w:World) :
  (Instr.slice 34 (.slice a len cap) (some (.int .i64 (l:Int))) none none).run Tryz.prog w=.ok (.slice (cutAt a cap l) (len - l) (cap - l)) w:=by
 rw [run_slice_l (P:=Tryz.prog) (w:=w) 34 a len cap elem22 .i64 l (by omega) (by omega),sizeOf5]
 simp only [Result.andThen,sliced]
 have e1:(l:Int).toNat=l:=by omega
 rw [e1]
 simp [cutAt]

theorem run_cut_h (a:Option Addr) (len cap k:Nat) (h:k ≤ cap) (w:World) :
  (Instr.slice 34 (.slice a len cap) none (some (.int .i64 (k:Int))) none).run Tryz.prog w=.ok (.slice (cutAt a cap 0) k cap) w:=by
 rw [run_slice_h (P:=Tryz.prog) (w:=w) 34 a len cap elem22 .i64 k (by omega) (by omega),sizeOf5]
 simp only [Result.andThen,sliced]
 have e1:(k:Int).toNat=k:=by omega
 rw [e1]
 simp [cutAt]

theorem cut_l {w:World} {a:Option Addr} {len:Nat} {zs:List Int} (h:Has w a len zs) {cap l:Nat} (hc:len ≤ cap) (hl:l ≤ len) :
  ∃ a1 c1,(∀ w,(Instr.slice 34 (.slice a len cap) (some (.int .i64 (l:Int))) none none).run Tryz.prog w=.ok (.slice a1 (len - l) c1) w)∧len - l ≤ c1∧Has w a1 (len - l) (zs.drop l):=by
 refine ⟨_,_,fun w=>run_cut_l a len cap l hl w,by omega,?_⟩
 have:=h.cut hc (l:=l) (k:=len - l) (by omega)
 rwa [List.take_of_length_le (by simp [h.1])] at this

theorem cut_h {w:World} {a:Option Addr} {len:Nat} {zs:List Int} (h:Has w a len zs) {cap k:Nat} (hc:len ≤ cap) (hk:k ≤ len) :
  ∃ a1 c1,(∀ w,(Instr.slice 34 (.slice a len cap) none (some (.int .i64 (k:Int))) none).run Tryz.prog w=.ok (.slice a1 k c1) w)∧k ≤ c1∧Has w a1 k (zs.take k):=by
 refine ⟨_,_,fun w=>run_cut_h a len cap k (by omega) w,by omega,?_⟩
 have:=h.cut hc (l:=0) (k:=k) (by omega)
 simpa using this

def Own (B:Nat) (w:World) (a:Option Addr) (n c:Nat) (xs:List Int):Prop :=
 xs.length=n∧n ≤ c∧c ≤ maxLen∧((a=none∧n=0∧c=0) ∨ ∃ g cur,a=some ⟨g,0,none⟩∧B ≤ g∧w.heap[g]?=some (.cells cur 5 (0,0))∧cur.size=c∧cur.toList.take n=xs.map (Value.int .u8))

theorem Own.kept {B:Nat} {w w':World} {a:Option Addr} {n c:Nat} {xs:List Int} (h:Own B w a n c xs) (hk:∀ g,a=some ⟨g,0,none⟩→w'.heap[g]?=w.heap[g]?):Own B w' a n c xs:=by
 obtain ⟨h1,h2,h3,h4⟩:=h
 refine ⟨h1,h2,h3,?_⟩
 rcases h4 with h4 | ⟨g,cur,e,hg,hh,r⟩
 ·exact .inl h4
 ·exact .inr ⟨g,cur,e,hg,(hk g e).trans hh,r⟩

theorem Own.cell {B:Nat} {w:World} {a:Option Addr} {n c:Nat} {xs:List Int} (h:Own B w a n c xs) {j:Nat} (hj:j < n):∃ g,a=some ⟨g,0,none⟩∧B ≤ g∧w.cell? ⟨g,j,none⟩=some (.int .u8 (xs[j]?.getD 0))∧w.frozen? ⟨g,j,none⟩=false:=by
 obtain ⟨h1,h2,h3,h4⟩:=h
 rcases h4 with ⟨_,h4,_⟩ | ⟨g,cur,e,hg,hh,hc,ht⟩
 ·omega
 ·refine ⟨g,e,hg,?_,by simp [World.frozen?,hh]⟩
  have hx:(cur.toList.take n)[j]?=some (.int .u8 (xs[j]?.getD 0)):=by
   rw [ht,List.getElem?_map,List.getElem?_eq_getElem (by omega)]; rfl
  rw [List.getElem?_take_of_lt hj] at hx
  simp only [World.cell?,hh]
  simpa using hx

theorem Own.set {B:Nat} {w:World} {g n c:Nat} {xs:List Int} (h:Own B w (some ⟨g,0,none⟩) n c xs) (j:Nat) (z:Int):Own B (w.setCell ⟨g,j,none⟩ (.int .u8 z)) (some ⟨g,0,none⟩) n c (xs.set j z):=by
 obtain ⟨h1,h2,h3,h4⟩:=h
 rcases h4 with ⟨h4,_⟩ | ⟨g',cur,e,hg,hh,hc,ht⟩
 ·cases h4
 ·cases e
  refine ⟨by simp [h1],h2,h3,.inr ⟨g,_,rfl,hg,by rw [setCell_eq_setRow w g j _ 5 (0,0) _ hh]; exact setRow_heap w g _ _ 5 _ hh,by simpa using hc,?_⟩⟩
  rw [Array.toList_setIfInBounds,List.take_set,ht,List.map_set]

theorem Own.lt {B:Nat} {w:World} {a:Option Addr} {n c:Nat} {xs:List Int} (h:Own B w a n c xs) {g:Nat} (e:a=some ⟨g,0,none⟩):g < w.heap.size∧B ≤ g∧∃ cur,w.heap[g]?=some (.cells cur 5 (0,0)):=by
 obtain ⟨_,_,_,h4⟩:=h
 rcases h4 with ⟨h4,_⟩ | ⟨g',cur,e',hg,hh,_⟩
 ·rw [h4] at e; cases e
 ·rw [e] at e'; cases e'
  exact ⟨(Array.getElem?_eq_some_iff.1 hh).1,hg,cur,hh⟩

theorem ownsRow_block {w w':World} {B e size n:Nat} {v:Value} {xs:List Value} (h:w.ownsRow B e size v n xs) (hk:∀ g cur,B ≤ g→w.heap[g]?=some (.cells cur e (0,0))→w'.heap[g]?=w.heap[g]?):w'.ownsRow B e size v n xs:=by
 obtain ⟨h1,h2⟩:=h
 refine ⟨h1,?_⟩
 rcases h2 with h2 | ⟨g,cap,cur,rfl,hb,hh,r⟩
 ·exact .inl h2
 ·exact .inr ⟨g,cap,cur,rfl,hb,(hk g cur hb hh).trans hh,r⟩

theorem Own.below {B n:Nat} {w w':World} {a:Option Addr} {l c:Nat} {xs:List Int} (h:Own B w a l c xs) (hb:Below n w w') (hn:w.heap.size ≤ n):Own B w' a l c xs :=
 h.kept (fun g e=>hb.block g (by have:=(h.lt e).1; omega))

theorem Own.base {B B':Nat} {w:World} {a:Option Addr} {l c:Nat} {xs:List Int} (h:Own B w a l c xs) (hb:B' ≤ B):Own B' w a l c xs:=by
 obtain ⟨h1,h2,h3,h4⟩:=h
 refine ⟨h1,h2,h3,?_⟩
 rcases h4 with h4 | ⟨g,cur,e,hg,r⟩
 ·exact .inl h4
 ·exact .inr ⟨g,cur,e,by omega,r⟩

theorem Own.nil (B:Nat) (w:World):Own B w none 0 0 []:=⟨rfl,Nat.le_refl _,by unfold maxLen; omega,.inl ⟨rfl,rfl,rfl⟩⟩

def byts (s:ByteArray):List Int:=s.data.toList.map (fun b=>(b.toNat:Int))

theorem bsize (s:ByteArray):s.data.toList.length=s.size:=rfl

theorem byts_length (s:ByteArray):(byts s).length=s.size:=by rw [byts,List.length_map,bsize]

theorem byts_byte (s:ByteArray):∀ z ∈ byts s,0 ≤ z∧z ≤ 255:=by
 intro z hz
 simp only [byts,List.mem_map] at hz
 obtain ⟨b,_,rfl⟩:=hz
 have:=b.toNat_lt
 omega

theorem byts_get (s:ByteArray) (k:Nat) (h:k < s.size):(byts s)[k]?.getD 0=(s[k].toNat:Int):=by
 have h':k < s.data.toList.length:=by rw [bsize]; exact h
 simp only [byts,List.getElem?_map,List.getElem?_eq_getElem h',Option.map_some,Option.getD_some]
 rfl

theorem strOfNums_byts (s:ByteArray):strOfNums (byts s)=s:=by
 obtain ⟨⟨l⟩⟩:=s
 simp [strOfNums,byts]
 apply List.ext_getElem
 ·simp
 ·intro i h1 h2
  simp

theorem cell_block_lt {w:World} {x:Addr} {v:Value} (h:w.cell? x=some v):x.block < w.heap.size:=by
 cases hb:w.heap[x.block]? with
 | none=>simp [World.cell?,hb] at h
 | some o=>exact (Array.getElem?_eq_some_iff.1 hb).1

end Go.Proofs.YtknmgefpjdfenaaGreat

/- An append of bytes to a row of the call's own, from whatever source. -/
namespace Go.Proofs.YtknmgefpjdfenaaGreat
set_option maxRecDepth 100000
set_option maxHeartbeats 8000000
open Go.RowKit Go.Shelf
set_option linter.unusedVariables false

theorem Own.owns {B:Nat} {w:World} {a:Option Addr} {n c:Nat} {xs:List Int} (h:Own B w a n c xs):w.ownsRow B 5 1 (.slice a n c) n (xs.map (Value.int .u8)):=by
 obtain ⟨h1,h2,h3,h4⟩:=h
 refine ⟨by simp [h1],?_⟩
 rcases h4 with ⟨rfl,rfl,rfl⟩ | ⟨g,cur,rfl,hg,hh,hc,ht⟩
 ·exact .inl ⟨rfl,rfl⟩
 ·exact .inr ⟨g,c,cur,rfl,hg,hh,h2,h3,by simpa using hc,by simpa using ht⟩

theorem Own.of_owns {B:Nat} {w:World} {v:Value} {n:Nat} {xs:List Int} (h:w.ownsRow B 5 1 v n (xs.map (Value.int .u8))):∃ a c,v=.slice a n c∧Own B w a n c xs:=by
 obtain ⟨h1,h2⟩:=h
 have hl:xs.length=n:=by simpa using h1
 rcases h2 with ⟨rfl,rfl⟩ | ⟨g,cap,cur,rfl,hg,hh,h2,h3,hc,ht⟩
 ·exact ⟨none,0,rfl,hl,Nat.le_refl _,by unfold maxLen; omega,.inl ⟨rfl,rfl,rfl⟩⟩
 ·exact ⟨_,cap,rfl,hl,h2,h3,.inr ⟨g,cur,rfl,hg,hh,by simpa using hc,by simpa using ht⟩⟩

theorem Own.has {B:Nat} {w:World} {a:Option Addr} {n c:Nat} {xs:List Int} (h:Own B w a n c xs):Has w a n xs:=by
 refine ⟨h.1,fun hp=>?_⟩
 obtain ⟨g,e,_,_,_⟩:=h.cell (j:=0) hp
 refine ⟨g,0,e,fun j hj=>?_⟩
 obtain ⟨g',e',_,hc,_⟩:=h.cell hj
 rw [e] at e'
 cases e'
 rw [Nat.zero_add]
 exact hc

theorem run_append_nothing (w:World) (ty:TypeId) (a a2:Option Addr) (n c c2:Nat) (hn:n ≤ c) (ha:a=none→n=0∧c=0):(Builtin.append_ #[34,34] ty #[.slice a n c,.slice a2 0 c2]).run Tryz.prog w=.ok (.slice a n c) w:=by
 obtain ⟨i0,hi,hz0,hz1,hz2⟩:=info_parts info5
 cases a with
 | none =>
  obtain ⟨rfl,rfl⟩:=ha rfl
  cases a2 <;> simp [Builtin.append_,run_underlying Tryz.underlying34,sizeOf,typeInfo,hi,Builtin.lenOf,Builtin.firstCells,loadCells,loadCellsFrom]
 | some x=>cases a2 <;> simp [Builtin.append_,run_underlying Tryz.underlying34,sizeOf,typeInfo,hi,Builtin.lenOf,Builtin.firstCells,storeCells,loadCells,loadCellsFrom,hn]

theorem run_append_bytes {B:Nat} {w:World} {a:Option Addr} {n c:Nat} {xs:List Int} (h:Own B w a n c xs) (hB:B ≤ w.heap.size) {a2:Option Addr} {m:Nat} {ys:List Int} (c2:Nat) (h2:Has w a2 m ys) (hn:n + m ≤ 140737488355328) :
  ∃ a' c' w',(∀ ty,(Builtin.append_ #[34,34] ty #[.slice a n c,.slice a2 m c2]).run Tryz.prog w=.ok (.slice a' (n + m) c') w')∧Own B w' a' (n + m) c' (xs ++ ys) ∧
   (∀ k,k < w.heap.size→(∀ g,a=some ⟨g,0,none⟩→k ≠ g)→w'.heap[k]?=w.heap[k]?)∧Below B w w':=by
 obtain ⟨i0,hi,hz0,hz1,hz2⟩:=info_parts info5
 by_cases h0:m=0
 ·subst h0
  obtain rfl:ys=[]:=List.eq_nil_of_length_eq_zero h2.1
  refine ⟨a,c,w,fun ty=>run_append_nothing w ty a a2 n c c2 h.2.1 (fun e=>?_),by rw [List.append_nil]; exact h,fun _ _ _=>rfl,Below.refl _ _⟩
  rcases h.2.2.2 with ⟨_,e1,e2⟩ | ⟨g,_,e',_⟩
  ·exact ⟨e1,e2⟩
  ·rw [e] at e'; cases e'
 ·obtain ⟨b,off,rfl,hc⟩:=h2.2 (by omega)
  have hl:=h2.1
  have hnews:∀ (j:Nat) (u:Value),(ys.map (Value.int .u8))[j]?=some u→w.cell? ((⟨b,off,none⟩:Addr).add j)=some u:=by
   intro j u hj
   have hjl:j < m:=by have:=(List.getElem?_eq_some_iff.1 hj).1; simp at this; omega
   rw [World.add_zero_spot,hc j hjl]
   rw [List.getElem?_map,List.getElem?_eq_getElem (by omega)] at hj
   rw [List.getElem?_eq_getElem (by omega)]
   simpa using hj
  have hmax:n + m ≤ maxLen:=by unfold maxLen; omega
  obtain ⟨v',w',hr,ho,hg,_⟩:=run_append_own (P:=Tryz.prog) w B 34 0 5 i0 (.int .u8 0) 1 1 Tryz.underlying34 hi hz0 hz1 hz2 rfl (by decide) (.slice a n c) n _ h.owns ⟨b,off,none⟩ m c2 (ys.map (Value.int .u8)) (by simp [hl]) hnews (oneCell_bytes ys) hmax (by omega) hB
  rw [← List.map_append] at ho
  obtain ⟨a',c',rfl,ho'⟩:=Own.of_owns ho
  refine ⟨a',c',w',fun ty=>hr,ho',fun k hk hne=>?_,?_⟩
  ·refine hg.block k hk (fun e=>?_)
   rcases h.2.2.2 with ⟨ha,_,_⟩ | ⟨g,_,ha,_⟩
   ·rw [ha] at e; simp [Value.ownBlock] at e
   ·rw [ha] at e
    simp [Value.ownBlock] at e
    exact hne g ha e
  ·refine (Below.refl B w).grown hg hB (fun k e=>?_)
   rcases h.2.2.2 with ⟨ha,_,_⟩ | ⟨g,_,ha,hgB,_⟩
   ·rw [ha] at e; simp [Value.ownBlock] at e
   ·rw [ha] at e
    simp [Value.ownBlock] at e
    omega

end Go.Proofs.YtknmgefpjdfenaaGreat

/- Slices of numbers. -/
namespace Go.Proofs.YtknmgefpjdfenaaGreat
set_option maxRecDepth 100000
set_option maxHeartbeats 8000000
open Go.RowKit Go.Shelf
set_option linter.unusedVariables false

def IHas (w:World) (a:Option Addr) (len:Nat) (ns:List Int):Prop :=
 ns.length=len∧(0 < len→∃ b off,a=some ⟨b,off,none⟩∧∀ j,j < len→w.cell? ⟨b,off + j,none⟩=some (.int .i64 (ns[j]?.getD 0)))

theorem IHas.lt {w:World} {a:Option Addr} {len:Nat} {zs:List Int} (h:IHas w a len zs) {b off:Nat} (hp:0 < len) (e:a=some ⟨b,off,none⟩):b < w.heap.size:=by
 obtain ⟨b',off',e',hc⟩:=h.2 hp
 rw [e] at e'
 cases e'
 exact cell_block_lt (hc 0 hp)

theorem IHas.later {w w':World} {a:Option Addr} {len:Nat} {zs:List Int} (h:IHas w a len zs) (hb:Below w.heap.size w w'):IHas w' a len zs:=by
 refine ⟨h.1,fun hp=>?_⟩
 obtain ⟨b,off,e,hc⟩:=h.2 hp
 exact ⟨b,off,e,fun j hj=>(hb.cell (p:=⟨b,off + j,none⟩) (h.lt hp e)).trans (hc j hj)⟩

end Go.Proofs.YtknmgefpjdfenaaGreat

/- Contract of codec.lay. -/
namespace Go.Proofs.YtknmgefpjdfenaaGreat
set_option maxRecDepth 100000
set_option maxHeartbeats 8000000
open Go.RowKit Go.Shelf
set_option linter.unusedVariables false

abbrev Prt:=Option Addr × Nat × Nat × List Int

abbrev pv (p:Prt):Value:=.slice p.1 p.2.1 p.2.2.1

theorem Has.lt {w:World} {a:Option Addr} {len:Nat} {zs:List Int} (h:Has w a len zs) {b off:Nat} (hp:0 < len) (e:a=some ⟨b,off,none⟩):b < w.heap.size:=by
 obtain ⟨b',off',e',hc⟩:=h.2 hp
 rw [e] at e'
 cases e'
 exact cell_block_lt (hc 0 hp)

theorem Has.later {w w':World} {a:Option Addr} {len:Nat} {zs:List Int} (h:Has w a len zs) (hb:Below w.heap.size w w'):Has w' a len zs:=by
 refine ⟨h.1,fun hp=>?_⟩
 obtain ⟨b,off,e,hc⟩:=h.2 hp
 exact ⟨b,off,e,fun j hj=>(hb.cell (p:=⟨b,off + j,none⟩) (h.lt hp e)).trans (hc j hj)⟩

end Go.Proofs.YtknmgefpjdfenaaGreat

/- Slices of numbers: append([]int{}, x...), and the contract of skerryref01.SameInts. -/
namespace Go.Proofs.YtknmgefpjdfenaaGreat
set_option maxRecDepth 100000
set_option maxHeartbeats 8000000
open Go.RowKit Go.Shelf
set_option linter.unusedVariables false

theorem ihas_of_row {w:World} {base:Nat} {v:Value} {n:Nat} {ns:List Int} (h:w.ownsRow base 3 1 v n (ns.map (Value.int .i64))):∃ a c,v=.slice a n c∧IHas w a n ns:=by
 obtain ⟨h1,h2⟩:=h
 have hl:ns.length=n:=by simpa using h1
 rcases h2 with ⟨rfl,rfl⟩ | ⟨g,cap,cur,rfl,hg,hh,h2,h3,hc,ht⟩
 ·exact ⟨none,0,rfl,hl,fun h=>by omega⟩
 ·refine ⟨_,cap,rfl,hl,fun hp=>⟨g,0,rfl,fun j hj=>?_⟩⟩
  rw [Nat.zero_add]
  have ht':cur.toList.take n=ns.map (Value.int .i64):=by simpa using ht
  have hx:(cur.toList.take n)[j]?=some (.int .i64 (ns[j]?.getD 0)):=by
   rw [ht',List.getElem?_map,List.getElem?_eq_getElem (by omega)]; rfl
  rw [List.getElem?_take_of_lt hj] at hx
  simp only [World.cell?,hh]
  simpa using hx

end Go.Proofs.YtknmgefpjdfenaaGreat

/- Plain facts on bytes as numbers. -/
namespace Go.Proofs.YtknmgefpjdfenaaGreat
set_option maxRecDepth 100000
set_option maxHeartbeats 8000000
open Go.RowKit Go.Shelf
set_option linter.unusedVariables false

def num:List Int→Int
 | []=>0
 | c :: r=>c + 256 * num r

def digits:Nat→Int→List Int
 | 0,_=>[]
 | k + 1,v=>v % 256 :: digits k (v / 256)

end Go.Proofs.YtknmgefpjdfenaaGreat

/- The contract of skerryref01.SameBytes. -/
namespace Go.Proofs.YtknmgefpjdfenaaGreat
set_option maxRecDepth 100000
set_option maxHeartbeats 8000000
open Go.RowKit Go.Shelf
set_option linter.unusedVariables false

theorem same_true (a1 a2:Option Addr) (l c1 c2:Nat) (zs:List Int) (w:World) (h1:Has w a1 l zs) (h2:Has w a2 l zs) :
  Calls Tryz.prog 40 #[.slice a1 l c1,.slice a2 l c2] w fun e w'=>e=.returned (.bool true)∧w=w':=by
 have e1:=h1.conv c1
 have e2:=h2.conv c2
 clear h1 h2
 go_enter Tryz.func40,Tryz.ntmps40
 go_wp2
 go_ret
 exact ⟨by simp,rfl⟩

end Go.Proofs.YtknmgefpjdfenaaGreat

