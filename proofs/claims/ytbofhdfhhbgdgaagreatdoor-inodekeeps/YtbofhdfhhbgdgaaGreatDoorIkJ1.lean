/- Joined: GBase, DCopy, Fol, GApart, GApartF, GApp, GCheck, GI, CFit, CLay, GInts, GApartI, GApartK, GMore, GNum, GRenew. -/
import Derived.Test.YtbofhdfhhbgdgaaGreatDoorRows
import Derived.WalkKit
import Derived.WalkSpells
import Derived.WalkLawsBesides
import Derived.RangeFuncBox
import Derived.Shelf.Abstract
import Derived.Laws.CopyOwn
import Derived.Deep.OwnRows
import Derived.Laws.BytesArg
import Derived.Laws.BitsAllLaws
import Derived.ArgAppend
import Derived.Deep.RegionWith
import Derived.Deep.QuietTactic
import Derived.BigQuiet
import Derived.Lib.BufferWrite
import Derived.Test.YtbofhdfhhbgdgaaGreatDoorIkJ0
/- Words and laws on slices of bytes, of no function of the program. -/
namespace Go.Proofs.YtbofhdfhhbgdgaaGreatDoor
set_option maxRecDepth 100000
set_option maxHeartbeats 8000000
open Go.RowKit Go.Shelf
set_option linter.unusedVariables false
theorem hide {p:Prop}(h:p):Hid p:=h
theorem ah {p:Prop}(h:Hid p):p:=h
theorem jl {k:IntKind}{a b:Int}(h:a=b):Ending.returned (.int k a)=.returned (.int k b):=by rw[h]
theorem nX {k k':IntKind}{a b c d:Int}(h:a=b)(h':c=d):Ending.returned (.tuple #[.int k a,.int k' c])=.returned (.tuple #[.int k b,.int k' d]):=by rw[h,h']
theorem xH {sv:Value}{c d:Int}(h':c=d):Ending.returned (.tuple #[sv,.int .i64 c])=.returned (.tuple #[sv,.int .i64 d]):=by rw[h']
theorem ng {a b:Bool}(h:a=b):Ending.returned (.bool a)=.returned (.bool b):=by rw[h]
theorem zI {s s':Bool}{c d:Int}(h:s=s')(h':c=d):Ending.returned (.tuple #[.bool s,.int .i64 c])=.returned (.tuple #[.bool s',.int .i64 d]):=by rw[h,h']
theorem info5:(Tryz.prog.info? 5).map (fun i=>(i.zero,i.size,i.bytes))=some (some (.int .u8 0),1,1):=by kernel_rfl
theorem rG:(Tryz.prog.info? 5).map (·.size)=some 1:=by kernel_rfl
theorem dA (zs:List Int):∀ v∈zs.map (Value.int .u8),v.oneCell'=true:=by
 intro v hv
 simp only[List.mem_map] at hv
 obtain⟨z,_,rfl⟩:=hv
 rfl
theorem World.ay (b off j:Nat):(⟨b,off,none⟩:Addr).add j=⟨b,off+j,none⟩:=by unfold Addr.add;split<;>simp_all
def put (zs:List Int) (at':Nat) (ds:List Int):List Int:=zs.take at'++ds++zs.drop (at'+ds.length)
theorem gZ (zs:List Int)(at':Nat)(ds:List Int)(h:at'+ds.length<=zs.length):(put zs at' ds).length=zs.length:=by
 simp[put];omega
theorem afc (zs:List Int)(at':Nat)(ds:List Int)(h:at'+ds.length<=zs.length):((put zs at' ds).drop at').take ds.length=ds:=by
 have h1:(zs.take at').length=at':=by simp;omega
 rw[put,List.append_assoc,List.drop_append_of_le_length (by omega),List.drop_of_length_le (by omega)]
 simp
theorem uJ (zs:List Int)(at':Nat)(ds:List Int)(i:Nat)(h:at'+ds.length<=zs.length)(hi:i<at'\/at'+ds.length<=i):(put zs at' ds)[i]?=zs[i]?:=by
 have h1:(zs.take at').length=at':=by simp;omega
 rw[put]
 rcases hi with hi | hi
 ·rw[List.append_assoc,List.getElem?_append_left (by omega),List.getElem?_take_of_lt hi]
 ·rw[List.getElem?_append_right (by simp;omega),List.getElem?_drop]
  congr 1
  simp;omega
theorem zM (zs:List Int)(at':Nat)(ds:List Int)(h1:∀ z∈zs,0<=z/\z<=255)(h2:∀ z∈ds,0<=z/\z<=255):∀ z∈put zs at' ds,0<=z/\z<=255:=by
 intro z hz
 simp only[put,List.mem_append] at hz
 rcases hz with (hz | hz) | hz
 ·exact h1 z (List.mem_of_mem_take hz)
 ·exact h2 z hz
 ·exact h1 z (List.mem_of_mem_drop hz)
def Row (n0:Nat) (w:World) (a:Option Addr) (len cap:Nat) (zs:List Int):Prop :=
 zs.length=len/\len<=cap/\(len<=140737488351232/\cap<=9223372036854775807)/\(∀ z∈zs,0<=z/\z<=255) /\
 (0<len->∃ b off,a=some ⟨b,off,none⟩/\b<n0/\∀ j,j<len->w.cell? ⟨b,off+j,none⟩=some (.int .u8 (zs[j]?.getD 0)))
theorem Row.below {n0}{w w':World}{a len cap zs}(h:Row n0 w a len cap zs)(hb:Below n0 w w'){n1:Nat}(hn:n0<=n1):Row n1 w' a len cap zs:=by
 obtain⟨h1,h2,h3,h4,h5⟩:=h
 refine⟨h1,h2,h3,h4,fun hp=>?_⟩
 obtain⟨b,off,e,hlt,hc⟩:=h5 hp
 exact⟨b,off,e,by omega,fun j hj=>(hb.cell (p:=⟨b,off+j,none⟩) hlt).trans (hc j hj)⟩
theorem Row.alloc {w a len cap zs}(h:Row w.heap.size w a len cap zs)(o:Obj):Row (w.alloc o).heap.size (w.alloc o) a len cap zs :=
 h.below ((Below.refl _ w).alloc (Nat.le_refl _) o) (by simp)
def Block (w:World) (g:Nat) (zs:List Int):Prop:=w.heap[g]?=some (.cells (zs.map (Value.int .u8)).toArray 5)
theorem oK {W W':World}{row:Option Nat}{k:Nat}{c:Array Value}{t:TypeId}{fr:Nat×Nat}(hs:W.heap[k]?=some (.cells c t fr))(hg:W.grownBy W' row)(hr:∀ r,row=some r->∃ o:Obj,W.heap[r]?=some o/\o.isCells=false):W'.heap[k]?=some (.cells c t fr):=by
 have hlt:k<W.heap.size:=(Array.getElem?_eq_some_iff.1 hs).1
 rw[hg.block k hlt (fun e=>?_)]
 ·exact hs
 ·obtain⟨o,h1,h2⟩:=hr k e.symm
  rw[hs] at h1
  cases h1
  simp[Obj.isCells] at h2
theorem tu {W:World}{k:Nat}{v:Value}{t:TypeId}(h:W.heap[k]?=some (.cells #[v] t)):W.cell? ⟨k,0,none⟩=some v:=by simp[World.cell?,h]
theorem Block.cell {W g zs}(h:Block W g zs){i:Nat}(hi:i<zs.length):W.cell? ⟨g,i,none⟩=some (.int .u8 (zs[i]?.getD 0)):=by
 unfold Block at h
 simp[World.cell?,h,hi]
theorem Block.free {W g zs}(h:Block W g zs)(i:Nat):W.frozen? ⟨g,i,none⟩=false:=by
 unfold Block at h
 simp[World.frozen?,h]
theorem Block.set {W g zs}(h:Block W g zs)(i:Nat)(z:Int):Block (W.setCell ⟨g,i,none⟩ (.int .u8 z)) g (zs.set i z):=by
 unfold Block at *
 have hlt:g<W.heap.size:=(Array.getElem?_eq_some_iff.1 h).1
 rw[setCell_eq_setRow W g i _ 5 (0,0) _ h,setRow_heap W g _ _ 5 _ h]
 simp[List.map_set]
theorem Block.lt {W g zs}(h:Block W g zs):g<W.heap.size:=(Array.getElem?_eq_some_iff.1 h).1
theorem Block.below {W W':World}{g n:Nat}{zs}(h:Block W g zs)(hb:Below n W W')(hg:g<n):Block W' g zs:=(hb.block g hg).trans h
theorem Block.row {w g zs}(h:Block w g zs){len:Nat}(hl:zs.length=len)(hc:len<=140737488351232)(hby:∀ z∈zs,0<=z/\z<=255):Row w.heap.size w (some ⟨g,0,none⟩) len len zs :=
 ⟨hl,Nat.le_refl _,⟨hc,by omega⟩,hby,fun _=>⟨g,0,rfl,h.lt,fun j hj=>by rw[Nat.zero_add];exact h.cell (by omega)⟩⟩
def Has (w:World) (a:Option Addr) (len:Nat) (zs:List Int):Prop :=
 zs.length=len/\(0<len->∃ b off,a=some ⟨b,off,none⟩/\∀ j,j<len->w.cell? ⟨b,off+j,none⟩=some (.int .u8 (zs[j]?.getD 0)))
theorem Row.has {n0 w a len cap zs}(h:Row n0 w a len cap zs):Has w a len zs :=
 ⟨h.1,fun hp=>by obtain⟨b,off,e,_,hc⟩:=h.2.2.2.2 hp;exact⟨b,off,e,hc⟩⟩
theorem Block.has {w g zs}(h:Block w g zs){len:Nat}(hl:zs.length=len):Has w (some ⟨g,0,none⟩) len zs :=
 ⟨hl,fun _=>⟨g,0,rfl,fun j hj=>by rw[Nat.zero_add];exact h.cell (by omega)⟩⟩
theorem Has.conv {w a len zs}(h:Has w a len zs)(cap:Nat):(convert 62 9 (.slice a len cap)).run Tryz.prog w=.ok (.string (strOfNums zs)) w:=by
 by_cases h0:len=0
 ·subst h0
  have hz:zs=[]:=List.eq_nil_of_length_eq_zero h.1
  subst hz
  rw[run_convert_bytes_string w 62 9 5 _ 0 cap Tryz.underlying62 Tryz.underlying5 Tryz.underlying9]
  cases a<;>simp[Conv.bytesToString,loadCells]
  all_goals rfl
 ·obtain⟨b,off,rfl,hc⟩:=h.2 (by omega)
  exact run_convert_bytes_arg w 62 5 Tryz.underlying62 Tryz.underlying5 b off len cap zs h.1 (fun i hi=>by rw[hc i hi];simp) 9 Tryz.underlying9
def ahS (w:World) (g len:Nat) (zs:List Int):Prop:=zs.length=len/\∃ cur,w.heap[g]?=some (.cells cur 5)/\cur.toList.take len=zs.map (Value.int .u8)
theorem ahS.lt {w g len zs}(h:ahS w g len zs):g<w.heap.size:=by obtain⟨_,cur,hg,_⟩:=h;exact(Array.getElem?_eq_some_iff.1 hg).1
theorem ahS.cell {w g len zs}(h:ahS w g len zs){i:Nat}(hi:i<len):w.cell? ⟨g,i,none⟩=some (.int .u8 (zs[i]?.getD 0)):=by
 obtain⟨hl,cur,hg,ht⟩:=h
 have h1:(cur.toList.take len)[i]?=some (.int .u8 (zs[i]?.getD 0)):=by
  rw[ht,List.getElem?_map,List.getElem?_eq_getElem (by omega)];rfl
 rw[List.getElem?_take_of_lt hi] at h1
 simp only[World.cell?,hg]
 simpa using h1
theorem ahS.has {w g len zs}(h:ahS w g len zs):Has w (some ⟨g,0,none⟩) len zs :=
 ⟨h.1,fun _=>⟨g,0,rfl,fun j hj=>by rw[Nat.zero_add];exact h.cell hj⟩⟩
theorem wpList_append_run {w w':World}{ops:Array Oper}{rest:List Oper}{o:Oper}{a:Act}{Q:Exit->Act->World->Prop}(t:TypeId)(hgd:o.guard=none)(d s:Operand)
  (ho:o.op=.call { callee:=.builtin .append,args:=#[d,s],argTypes:=#[t,t] }) (v x v':Value) (hd:a.eval d=v) (hs:a.eval s=x)
  (hrun:∀ ty,(Builtin.append_ #[t,t] ty #[v,x]).run Tryz.prog w=.ok v' w')
  (h:wpList Tryz.prog ops Q rest (a.put o.dst v') w'):wpList Tryz.prog ops Q (o::rest) a w:=by
 refine wpList_plain hgd fun K hK=>?_
 have hr:=hrun o.type
 unfold Oper.wp
 simp[execOp,ho,resolve,invoke,builtin,hd,hs,hr,Result.andThen]
 exact hK _ _ h
def cutAt (a:Option Addr) (cap l:Nat):Option Addr:=if cap=l then a else a.map (·.add (l*1))
theorem Has.cut {w a len zs}(h:Has w a len zs){cap l k:Nat}(hc:len<=cap)(hl:l+k<=len):Has w (cutAt a cap l) k ((zs.drop l).take k):=by
 refine⟨by simp[h.1];omega,fun hp=>?_⟩
 obtain⟨b,off,rfl,hcs⟩:=h.2 (by omega)
 refine⟨b,off+l,?_,fun j hj=>?_⟩
 ·unfold cutAt
  rw[if_neg (by omega),Option.map_some,Nat.mul_one,World.ay]
 ·rw[Nat.add_assoc,hcs (l+j) (by omega),List.getElem?_take_of_lt hj,List.getElem?_drop]
theorem sizeOf5 (w:World):(sizeOf (Tryz.prog.elem 62)).run Tryz.prog w=.ok 1 w:=by kernel_rfl
theorem ag5:Tryz.prog.underlying 62=some (.slice (Tryz.prog.elem 62)):=by kernel_rfl
theorem aaD (a:Option Addr)(len cap l k:Nat)(h:l+k<=cap)(w:World) :
  (Instr.slice 62 (.slice a len cap) (some (.int .i64 (l:Int))) (some (.int .i64 ((l:Int)+(k:Int)))) none).run Tryz.prog w=.ok (.slice (cutAt a cap l) k (cap - l)) w:=by
 rw[run_slice_lh (P:=Tryz.prog) (w:=w) 62 a len cap ag5 .i64 .i64 l (l+k) (by omega) (by omega) (by omega),sizeOf5]
 simp only[Result.andThen,sliced]
 have e1:(l:Int).toNat=l:=by omega
 have e2:((l:Int)+(k:Int)).toNat=l+k:=by omega
 rw[e1,e2]
 simp[cutAt,Nat.add_sub_cancel_left]
theorem uF (a:Option Addr)(len cap l:Nat)(h:l<=len)(w:World) :
  (Instr.slice 62 (.slice a len cap) (some (.int .i64 (l:Int))) none none).run Tryz.prog w=.ok (.slice (cutAt a cap l) (len - l) (cap - l)) w:=by
 rw[run_slice_l (P:=Tryz.prog) (w:=w) 62 a len cap ag5 .i64 l (by omega) (by omega),sizeOf5]
 simp only[Result.andThen,sliced]
 have e1:(l:Int).toNat=l:=by omega
 rw[e1]
 simp[cutAt]
def Own (B:Nat) (w:World) (a:Option Addr) (n c:Nat) (xs:List Int):Prop :=
 xs.length=n/\n<=c/\c<=maxLen/\((a=none/\n=0/\c=0)\/∃ g cur,a=some ⟨g,0,none⟩/\B<=g/\w.heap[g]?=some (.cells cur 5)/\cur.size=c/\cur.toList.take n=xs.map (Value.int .u8))
theorem Own.kept {B}{w w':World}{a n c xs}(h:Own B w a n c xs)(hk:∀ g,a=some ⟨g,0,none⟩->w'.heap[g]?=w.heap[g]?):Own B w' a n c xs:=by
 obtain⟨h1,h2,h3,h4⟩:=h
 refine⟨h1,h2,h3,?_⟩
 rcases h4 with h4 | ⟨g,cur,e,hg,hh,r⟩
 ·exact .inl h4
 ·exact .inr ⟨g,cur,e,hg,(hk g e).trans hh,r⟩
theorem Own.cell {B w a n c xs}(h:Own B w a n c xs){j:Nat}(hj:j<n):∃ g,a=some ⟨g,0,none⟩/\B<=g/\w.cell? ⟨g,j,none⟩=some (.int .u8 (xs[j]?.getD 0))/\w.frozen? ⟨g,j,none⟩=false:=by
 obtain⟨h1,h2,h3,h4⟩:=h
 rcases h4 with ⟨_,h4,_⟩ | ⟨g,cur,e,hg,hh,hc,ht⟩
 ·omega
 ·refine⟨g,e,hg,?_,by simp[World.frozen?,hh]⟩
  have hx:(cur.toList.take n)[j]?=some (.int .u8 (xs[j]?.getD 0)):=by
   rw[ht,List.getElem?_map,List.getElem?_eq_getElem (by omega)];rfl
  rw[List.getElem?_take_of_lt hj] at hx
  simp only[World.cell?,hh]
  simpa using hx
theorem Own.lt {B w a n c xs}(h:Own B w a n c xs){g:Nat}(e:a=some ⟨g,0,none⟩):g<w.heap.size/\B<=g/\∃ cur,w.heap[g]?=some (.cells cur 5):=by
 obtain⟨_,_,_,h4⟩:=h
 rcases h4 with ⟨h4,_⟩ | ⟨g',cur,e',hg,hh,_⟩
 ·rw[h4] at e;cases e
 ·rw[e] at e';cases e'
  exact⟨(Array.getElem?_eq_some_iff.1 hh).1,hg,cur,hh⟩
theorem iG {w w':World}{B e size n:Nat}{v:Value}{xs:List Value}(h:w.ownsRow B e size v n xs)(hk:∀ g cur,B<=g->w.heap[g]?=some (.cells cur e (0,0))->w'.heap[g]?=w.heap[g]?):w'.ownsRow B e size v n xs:=by
 obtain⟨h1,h2⟩:=h
 refine⟨h1,?_⟩
 rcases h2 with h2 | ⟨g,cap,cur,rfl,hb,hh,r⟩
 ·exact .inl h2
 ·exact .inr ⟨g,cap,cur,rfl,hb,(hk g cur hb hh).trans hh,r⟩
theorem Own.below {B n:Nat}{w w':World}{a l c xs}(h:Own B w a l c xs)(hb:Below n w w')(hn:w.heap.size<=n):Own B w' a l c xs :=
 h.kept (fun g e=>hb.block g (by have:=(h.lt e).1;omega))
theorem Own.base {B B':Nat}{w a l c xs}(h:Own B w a l c xs)(hb:B'<=B):Own B' w a l c xs:=by
 obtain⟨h1,h2,h3,h4⟩:=h
 refine⟨h1,h2,h3,?_⟩
 rcases h4 with h4 | ⟨g,cur,e,hg,r⟩
 ·exact .inl h4
 ·exact .inr ⟨g,cur,e,by omega,r⟩
def aex (s:ByteArray):List Int:=s.data.toList.map (fun b=>(b.toNat:Int))
theorem aC {w:World}{x:Addr}{v:Value}(h:w.cell? x=some v):x.block<w.heap.size:=by
 cases hb:w.heap[x.block]? with
 | none=>simp[World.cell?,hb] at h
 | some o=>exact(Array.getElem?_eq_some_iff.1 hb).1
theorem lQ (a:Option Addr)(len cap:Nat)(zs:List Int)(w:World)(hr:Row w.heap.size w a len cap zs) :
  Calls Tryz.prog 226 #[.slice a len cap] w fun e w'=>e=.returned (.slice (some ⟨w.heap.size,0,none⟩) len len)/\Block w' w.heap.size zs/\Below w.heap.size w w':=by
 obtain⟨hlen,hlc,hcm,hby,hcell⟩:=hr
 have hmk:=run_make_row' (P:=Tryz.prog) 62 5 (.int .u8 0) 1 Tryz.underlying62 info5 rfl .i64 .i64 len (by omega) (by omega)
 have hb0:Below w.heap.size w (w.alloc (.cells (madeCells #[.int .u8 0] len) 5)):=(Below.refl _ w).alloc (Nat.le_refl _) _
 have hsrc:0<len->∃ ad,a=some ad/\∀ (j:Nat) v,(zs.map (Value.int .u8))[j]?=some v->(w.alloc (.cells (madeCells #[.int .u8 0] len) 5)).cell? (ad.add j)=some v:=by
  intro hp
  obtain⟨b,off,rfl,hb,hc⟩:=hcell hp
  refine⟨_,rfl,fun j v hv=>?_⟩
  rw[World.ay,hb0.cell (p:=⟨b,off+j,none⟩) hb]
  have hj:j<zs.length:=by
   have:=(List.getElem?_eq_some_iff.1 hv).1
   simpa using this
  rw[hc j (by omega)]
  rw[List.getElem?_map,List.getElem?_eq_getElem hj] at hv
  rw[List.getElem?_eq_getElem hj]
  simpa using hv
 have hg:(w.alloc (.cells (madeCells #[.int .u8 0] len) 5)).heap[w.heap.size]?=some (.cells (List.replicate len (Value.int .u8 0)).toArray 5):=by
  rw[World.alloc_heap_new,← toList_madeCells_one,Array.toArray_toList]
 obtain⟨w2,hcp,hg2,hb2⟩:∃ w2,(∀ ty,(Builtin.copy_ #[62,62] ty #[.slice (some ⟨w.heap.size,0,none⟩) len len,.slice a len cap]).run Tryz.prog (w.alloc (.cells (madeCells #[.int .u8 0] len) 5))=.ok (goInt len) w2)/\Block w2 w.heap.size zs/\Below w.heap.size w w2:=by
  by_cases h0:len=0
  ·subst h0
   have hz:zs=[]:=List.eq_nil_of_length_eq_zero hlen
   subst hz
   exact⟨_,fun ty=>run_copy_none _ 62 62 ty 5 _ _ _ _ _ _ Tryz.underlying62 rG rfl,hg,hb0⟩
  ·obtain⟨ad,rfl,hs⟩:=hsrc (by omega)
   refine⟨_,fun ty=>?_,?_,below_setRow hb0 (Nat.le_refl _) (zs.map (Value.int .u8)).toArray⟩
   ·have h:=run_copy_row (P:=Tryz.prog) (w.alloc (.cells (madeCells #[.int .u8 0] len) 5)) 62 62 ty 5 w.heap.size 0 len len ad len cap _ 5 (zs.map (Value.int .u8)) Tryz.underlying62 rG hg (by rw[List.length_map,hlen];exact(Nat.min_self _).symm) hs (by simp[hlen]) (dA zs)
    have e:(List.take 0 (List.replicate len (Value.int .u8 0)).toArray.toList++zs.map (Value.int .u8)++List.drop (0+(zs.map (Value.int .u8)).length) (List.replicate len (Value.int .u8 0)).toArray.toList)=zs.map (Value.int .u8):=by
     simp[hlen]
    rw[e,List.length_map,hlen] at h
    exact h
   ·exact setRow_heap _ _ _ _ 5 _ hg
 clear hg hsrc hcell
 go_enter Tryz.func226,Tryz.ntmps226
 go_wp2
 go_ret
 exact⟨rfl,hg2,hb2⟩
def Tab (w:World):Prop:=∀ k,k<16->w.cell? ⟨0,k,none⟩=some (.int .u32 ((tab k:Nat):Int))
theorem look (w:World)(hT:Tab w)(X:Nat)(hX:X<4294967296):∃ r t Y:Nat,r<16/\w.cell? ⟨0,r,none⟩=some (.int .u32 (t:Int))/\bits .and .u32 (X:Int) 15=(r:Int)/\bits .xor .u32 ((X:Int) / 16) (t:Int)=(Y:Int)/\Y<4294967296/\Hid (Y=st4 X):=by
 refine⟨X%16,tab (X%16),st4 X,by omega,hT _ (by omega),?_,?_,acr hX,rfl⟩
 ·have:=u32_and_nat X 15 hX (by omega)
  rw[nat_mask4] at this
  exact this
 ·rw[aeG]
  have:=u32_xor_nat (X / 16) (tab (X%16)) (by omega) (ais _)
  rw[← this]
  congr 1
theorem yT (b off len cap:Nat)(zs:List Int)(s:Nat)(w:World)(hs:s<4294967296)(hT:Tab w)(hlen:zs.length=len)(hl:len<=140737488355328)(hby:aes zs)
  (hcs:∀ j,j<len->w.cell? ⟨b,off+j,none⟩=some (.int .u8 (zs[j]?.getD 0))) :
  Calls Tryz.prog 275 #[.int .u32 (s:Int),.slice (some ⟨b,off,none⟩) len cap] w fun e w'=>e=.returned (.int .u32 ((agh s zs:Nat):Int))/\w=w':=by
 obtain⟨c0,hc0,hs1,hx0⟩:∃ c0:Nat,Hid (s ^^^ 4294967295=c0)/\c0<4294967296/\bits .xor .u32 (s:Int) 4294967295=(c0:Int):=⟨_,rfl,qB hs (by omega),u32_xor_nat s 4294967295 hs (by omega)⟩
 have HE:Hid (agh s zs=fol c0 zs ^^^ 4294967295):=by unfold agh;rw[hc0.out];rfl
 have HT:=hide hT
 have HB:=hide hby
 have HC:=hide hcs
 clear hc0 hT hby hcs
 go_enter Tryz.func275,Tryz.ntmps275
 go_wp2
 go_loop [5,12] (fun c i=>∃ k:Nat,k<=len/\i=.int .i64 (k:Int)/\c=.int .u32 ((fol c0 (zs.take k):Nat):Int)) (fun _ i=>len - (intOf i).toNat)
 case atStart=>exact⟨0,Nat.zero_le _,rfl,rfl⟩
 case round =>
  obtain⟨k,hk,rfl,rfl⟩:=hrel
  have hC:fol c0 (zs.take k)<4294967296:=ag3 (fun z hz=>HB.out z (List.mem_of_mem_take hz)) hs1
  by_cases hlt:k<len
  ·have hz:=HB.out (zs[k]?.getD 0) (by rw[List.getElem?_eq_getElem (by omega)];exact List.getElem_mem _)
   have HS:=hide (afD c0 zs k (by omega))
   have hck:=HC.out k hlt
   generalize fol c0 (zs.take k)=C at *
   generalize zs[k]?.getD 0=xi at *
   obtain⟨x,rfl⟩:=Int.eq_ofNat_of_zero_le hz.1
   have hx1:(x:Int)%4294967296=x:=by omega
   obtain⟨X,hXe,hX,h1⟩:∃ X:Nat,Hid (X=C ^^^ x)/\X<4294967296/\bits .xor .u32 (C:Int) (x:Int)=(X:Int):=⟨_,rfl,qB hC (by omega),u32_xor_nat C x hC (by omega)⟩
   obtain⟨r,t,Y,hr,ht,h2,h3,hY,hYe⟩:=look w HT.out X hX
   obtain⟨r',t',Z,hr',ht',h2',h3',hZ,hZe⟩:=look w HT.out Y hY
   have HF:Hid (fol c0 (zs.take (k+1))=Z):=by
    show _=_
    rw[HS.out,hZe.out,hYe.out,hXe.out]
    rfl
   clear hXe hYe hZe HS
   go_wp2
   exact⟨⟨k+1,by omega,by go_num,by rw[HF.out]⟩,by simp[intOf];omega⟩
  ·have hX:=u32_xor_nat (fol c0 (zs.take k)) 4294967295 hC (by omega)
   have HX:=hide hX
   obtain rfl:k=len:=by omega
   clear hX
   go_wp2
   go_ret
   refine⟨?_,rfl⟩
   rw[HE.out]
   refine jl ?_
   have HX':=HX.out
   have e:zs.take k=zs:=List.take_of_length_le (by omega)
   rw[e] at HX' ⊢
   exact HX'
theorem yU (a:Option Addr)(cap:Nat)(s:Nat)(w:World)(hs:s<4294967296) :
  Calls Tryz.prog 275 #[.int .u32 (s:Int),.slice a 0 cap] w fun e w'=>e=.returned (.int .u32 ((agh s []:Nat):Int))/\w=w':=by
 obtain⟨c0,hc0,hs1,hx0⟩:∃ c0:Nat,Hid (s ^^^ 4294967295=c0)/\c0<4294967296/\bits .xor .u32 (s:Int) 4294967295=(c0:Int):=⟨_,rfl,qB hs (by omega),u32_xor_nat s 4294967295 hs (by omega)⟩
 have HE:Hid (agh s []=c0 ^^^ 4294967295):=by unfold agh;rw[hc0.out];rfl
 have hX:=u32_xor_nat c0 4294967295 hs1 (by omega)
 have HX:=hide hX
 clear hc0 hX
 go_enter Tryz.func275,Tryz.ntmps275
 go_wp2
 go_loop [5,12] (fun c i=>i=.int .i64 0/\c=.int .u32 (c0:Int)) (fun _ i=>0 - (intOf i).toNat)
 case atStart=>exact⟨rfl,rfl⟩
 case round =>
  obtain⟨rfl,rfl⟩:=hrel
  go_wp2
  go_ret
  refine⟨?_,rfl⟩
  rw[HE.out]
  exact jl HX.out
theorem abv (a:Option Addr)(len cap:Nat)(zs:List Int)(s:Nat)(w:World)(hs:s<4294967296)(hT:Tab w)(hh:Has w a len zs)(hl:len<=140737488355328)(hby:aes zs) :
  Calls Tryz.prog 275 #[.int .u32 (s:Int),.slice a len cap] w fun e w'=>e=.returned (.int .u32 ((agh s zs:Nat):Int))/\w=w':=by
 by_cases h0:len=0
 ·subst h0
  obtain rfl:zs=[]:=List.eq_nil_of_length_eq_zero hh.1
  exact yU a cap s w hs
 ·obtain⟨b,off,rfl,hc⟩:=hh.2 (by omega)
  exact yT b off len cap zs s w hs hT hh.1 hl hby hc
theorem sum_any (a:Option Addr)(len cap:Nat)(zs:List Int)(w:World)(hT:Tab w)(hh:Has w a len zs)(hl:len<=140737488355328)(hby:aes zs) :
  Calls Tryz.prog 261 #[.slice a len cap] w fun e w'=>e=.returned (.int .i64 ((aci zs:Nat):Int))/\w=w':=by
 have hlt:=ach hby
 have K:Hid (Calls Tryz.prog 275 #[.int .u32 0,.slice a len cap] w fun e w'=>e=.returned (.int .u32 ((aci zs:Nat):Int))/\w=w'):=by
  have:=abv a len cap zs 0 w (by omega) hT hh hl hby
  rw[aej] at this
  exact this
 generalize aci zs=S at *
 clear hT hh hby
 go_enter Tryz.func261,Tryz.ntmps261
 go_wp2_with (go_at_call 275;refine(ah K).mono ?_;rintro e w' ⟨rfl,rfl⟩)
 go_ret
 exact⟨jl (by first | rfl | omega),rfl⟩
def mk (n:Int):Int:=(n*7+n / 36+3)%256
structure Lists where
 N:Nat
 B:Nat
 Lb:Nat
 ca:Array Value
 A:Nat->Option Addr
 L:Nat->Nat
 C:Nat->Nat
 off:Nat->Nat
def aj8 (w0 w:World):Prop:=∀ (k:Nat) (cs:Array Value),w0.heap[k]?=some (.cells cs 3)->w.heap[k]?=some (.cells cs 3)
def BI (B:Nat) (w0 w:World):Prop:=Below B w0 w/\aj8 w0 w
theorem BI.refl (B:Nat)(w:World):BI B w w:=⟨Below.refl _ _,fun _ _ h=>h⟩
theorem BI.drew {B:Nat}{w0 w:World}(h:BI B w0 w):BI B w0 w.drew:=⟨h.1.drew,h.2⟩
theorem BI.trans {B:Nat}{w0 w w':World}(h:BI B w0 w)(hb:Below B w w')(hs:aj8 w w'):BI B w0 w':=⟨h.1.trans hb,fun k cs hk=>hs k cs (h.2 k cs hk)⟩
theorem BI.setCell {B:Nat}{w0 w:World}(h:BI B w0 w){g j:Nat}(hg:B<=g)(h5:∃ cur,w.heap[g]?=some (.cells cur 5))(v:Value):BI B w0 (w.setCell ⟨g,j,none⟩ v):=by
 refine h.trans ((Below.refl _ _).setCell (p:=⟨g,j,none⟩) hg _) fun k cs hk=>?_
 have hne:k≠g:=by
  rintro rfl
  obtain⟨cur,h5⟩:=h5
  rw[hk] at h5
  simp at h5
 exact(Below.heap_setCell _ _ _ _ hne).trans hk
def ext (S:Lists) (p q:Nat):Int:=mk ((S.off S.N+6*p+q:Nat):Int)
end Go.Proofs.YtbofhdfhhbgdgaaGreatDoor
/- The contract of skerryref01.ahZ, with a narrower frame (written by tools/ahA.py out of ajv). -/
namespace Go.Proofs.YtbofhdfhhbgdgaaGreatDoor.FA
set_option maxRecDepth 100000
set_option maxHeartbeats 8000000
open Go.RowKit Go.Shelf
set_option linter.unusedVariables false
def aj8 (T:Nat->Prop) (w0 w:World):Prop:=∀ k,k<w0.heap.size->¬ T k->w.heap[k]?=w0.heap[k]?
def BI (B:Nat) (T:Nat->Prop) (w0 w:World):Prop:=Below B w0 w/\aj8 T w0 w
theorem BI.refl (B:Nat)(T:Nat->Prop)(w:World):BI B T w w:=⟨Below.refl _ _,fun _ _ _=>rfl⟩
theorem BI.drew {B:Nat}{T:Nat->Prop}{w0 w:World}(h:BI B T w0 w):BI B T w0 w.drew:=⟨h.1.drew,h.2⟩
theorem BI.trans {B:Nat}{T:Nat->Prop}{w0 w w':World}(h:BI B T w0 w)(hb:Below B w w')(hs:∀ k,k<w0.heap.size->¬ T k->w'.heap[k]?=w.heap[k]?):BI B T w0 w':=⟨h.1.trans hb,fun k hk hn=>(hs k hk hn).trans (h.2 k hk hn)⟩
theorem BI.setCell {B:Nat}{T:Nat->Prop}{w0 w:World}(h:BI B T w0 w){g j:Nat}(hg:B<=g)(h5:T g)(v:Value):BI B T w0 (w.setCell ⟨g,j,none⟩ v):=by
 refine h.trans ((Below.refl _ _).setCell (p:=⟨g,j,none⟩) hg _) fun k hk hn=>?_
 have hne:k≠g:=by
  rintro rfl
  exact hn h5
 exact Below.heap_setCell _ _ _ _ hne
def T (S:Lists) (k:Nat):Prop:=∃ p,p<S.N/\S.A p=some ⟨k,0,none⟩
end Go.Proofs.YtbofhdfhhbgdgaaGreatDoor.FA
/- An append of bytes to a row of the call's own, from whatever source. -/
namespace Go.Proofs.YtbofhdfhhbgdgaaGreatDoor
set_option maxRecDepth 100000
set_option maxHeartbeats 8000000
open Go.RowKit Go.Shelf
set_option linter.unusedVariables false
theorem Own.owns {B w a n c xs}(h:Own B w a n c xs):w.ownsRow B 5 1 (.slice a n c) n (xs.map (Value.int .u8)):=by
 obtain⟨h1,h2,h3,h4⟩:=h
 refine⟨by simp[h1],?_⟩
 rcases h4 with ⟨rfl,rfl,rfl⟩ | ⟨g,cur,rfl,hg,hh,hc,ht⟩
 ·exact .inl ⟨rfl,rfl⟩
 ·exact .inr ⟨g,c,cur,rfl,hg,hh,h2,h3,by simpa using hc,by simpa using ht⟩
theorem Own.ahf {B:Nat}{w:World}{v:Value}{n:Nat}{xs:List Int}(h:w.ownsRow B 5 1 v n (xs.map (Value.int .u8))):∃ a c,v=.slice a n c/\Own B w a n c xs:=by
 obtain⟨h1,h2⟩:=h
 have hl:xs.length=n:=by simpa using h1
 rcases h2 with ⟨rfl,rfl⟩ | ⟨g,cap,cur,rfl,hg,hh,h2,h3,hc,ht⟩
 ·exact⟨none,0,rfl,hl,Nat.le_refl _,by unfold maxLen;omega,.inl ⟨rfl,rfl,rfl⟩⟩
 ·exact⟨_,cap,rfl,hl,h2,h3,.inr ⟨g,cur,rfl,hg,hh,by simpa using hc,by simpa using ht⟩⟩
theorem Own.has {B w a n c xs}(h:Own B w a n c xs):Has w a n xs:=by
 refine⟨h.1,fun hp=>?_⟩
 obtain⟨g,e,_,_,_⟩:=h.cell (j:=0) hp
 refine⟨g,0,e,fun j hj=>?_⟩
 obtain⟨g',e',_,hc,_⟩:=h.cell hj
 rw[e] at e'
 cases e'
 rw[Nat.zero_add]
 exact hc
theorem run_append_nothing (w:World)(ty:TypeId)(a a2:Option Addr)(n c c2:Nat)(hn:n<=c)(ha:a=none->n=0/\c=0):(Builtin.append_ #[62,62] ty #[.slice a n c,.slice a2 0 c2]).run Tryz.prog w=.ok (.slice a n c) w:=by
 obtain⟨i0,hi,hz0,hz1,hz2⟩:=info_parts info5
 cases a with
 | none =>
  obtain⟨rfl,rfl⟩:=ha rfl
  cases a2<;>simp[Builtin.append_,run_underlying Tryz.underlying62,sizeOf,typeInfo,hi,Builtin.lenOf,Builtin.firstCells,loadCells,loadCellsFrom]
 | some x=>cases a2<;>simp[Builtin.append_,run_underlying Tryz.underlying62,sizeOf,typeInfo,hi,Builtin.lenOf,Builtin.firstCells,storeCells,loadCells,loadCellsFrom,hn]
theorem iV {B w a n c xs}(h:Own B w a n c xs)(hB:B<=w.heap.size){a2:Option Addr}{m:Nat}{ys:List Int}(c2:Nat)(h2:Has w a2 m ys)(hn:n+m<=140737488355328) :
  ∃ a' c' w',(∀ ty,(Builtin.append_ #[62,62] ty #[.slice a n c,.slice a2 m c2]).run Tryz.prog w=.ok (.slice a' (n+m) c') w')/\Own B w' a' (n+m) c' (xs++ys) /\
   (∀ k,k<w.heap.size->(∀ g,a=some ⟨g,0,none⟩->k≠g)->w'.heap[k]?=w.heap[k]?)/\Below B w w':=by
 obtain⟨i0,hi,hz0,hz1,hz2⟩:=info_parts info5
 by_cases h0:m=0
 ·subst h0
  obtain rfl:ys=[]:=List.eq_nil_of_length_eq_zero h2.1
  refine⟨a,c,w,fun ty=>run_append_nothing w ty a a2 n c c2 h.2.1 (fun e=>?_),by rw[List.append_nil];exact h,fun _ _ _=>rfl,Below.refl _ _⟩
  rcases h.2.2.2 with ⟨_,e1,e2⟩ | ⟨g,_,e',_⟩
  ·exact⟨e1,e2⟩
  ·rw[e] at e';cases e'
 ·obtain⟨b,off,rfl,hc⟩:=h2.2 (by omega)
  have hl:=h2.1
  have hnews:∀ (j:Nat) (u:Value),(ys.map (Value.int .u8))[j]?=some u->w.cell? ((⟨b,off,none⟩:Addr).add j)=some u:=by
   intro j u hj
   have hjl:j<m:=by have:=(List.getElem?_eq_some_iff.1 hj).1;simp at this;omega
   rw[World.ay,hc j hjl]
   rw[List.getElem?_map,List.getElem?_eq_getElem (by omega)] at hj
   rw[List.getElem?_eq_getElem (by omega)]
   simpa using hj
  have hmax:n+m<=maxLen:=by unfold maxLen;omega
  obtain⟨v',w',hr,ho,hg,_⟩:=run_append_own (P:=Tryz.prog) w B 62 0 5 i0 (.int .u8 0) 1 1 Tryz.underlying62 hi hz0 hz1 hz2 rfl (by decide) (.slice a n c) n _ h.owns ⟨b,off,none⟩ m c2 (ys.map (Value.int .u8)) (by simp[hl]) hnews (dA ys) hmax (by omega) hB
  rw[← List.map_append] at ho
  obtain⟨a',c',rfl,ho'⟩:=Own.ahf ho
  refine⟨a',c',w',fun ty=>hr,ho',fun k hk hne=>?_,?_⟩
  ·refine hg.block k hk (fun e=>?_)
   rcases h.2.2.2 with ⟨ha,_,_⟩ | ⟨g,_,ha,_⟩
   ·rw[ha] at e;simp[Value.ownBlock] at e
   ·rw[ha] at e
    simp[Value.ownBlock] at e
    exact hne g ha e
  ·refine(Below.refl B w).grown hg hB (fun k e=>?_)
   rcases h.2.2.2 with ⟨ha,_,_⟩ | ⟨g,_,ha,hgB,_⟩
   ·rw[ha] at e;simp[Value.ownBlock] at e
   ·rw[ha] at e
    simp[Value.ownBlock] at e
    omega
def dO (len:Nat) (at' n:Int):Int:=if n<0 then 1 else if at'<0 then 2 else if (len:Int) - at'<n then 2 else 0
def cO (len:Nat) (at' n:Int):Int:=if n=1 then dO len at' n else if n=2 then dO len at' n else if n=4 then dO len at' n else 1
theorem yh {len:Nat}{at' n:Int}(h:n<0):dO len at' n=1:=by unfold dO;rw[if_pos h]
theorem oq {len:Nat}{at' n:Int}(h:0<=n)(h2:at'<0):dO len at' n=2:=by unfold dO;rw[if_neg (by omega),if_pos h2]
theorem ou {len:Nat}{at' n:Int}(h:0<=n)(h2:0<=at')(h3:(len:Int) - at'<n):dO len at' n=2:=by unfold dO;rw[if_neg (by omega),if_neg (by omega),if_pos h3]
theorem dJ {len:Nat}{at' n:Int}(h:0<=n)(h2:0<=at')(h3:n<=(len:Int) - at'):dO len at' n=0:=by unfold dO;rw[if_neg (by omega),if_neg (by omega),if_neg (by omega)]
theorem iU (a:Option Addr)(len cap:Nat)(at' n:Int)(w:World)(hl:len<=maxLen)(ha:at'<=9223372036854775807)(hn:-9223372036854775808<=n) :
  Calls Tryz.prog 243 #[.slice a len cap,.int .i64 at',.int .i64 n] w fun e w'=>e=.returned (.int .i64 (dO len at' n))/\w=w':=by
 unfold maxLen at hl
 by_cases h1:n<0
 ·rw[yh h1]
  go_enter Tryz.func243,Tryz.ntmps243
  go_wp2
  go_ret
  exact⟨rfl,rfl⟩
 by_cases h2:at'<0
 ·rw[oq (by omega) h2]
  go_enter Tryz.func243,Tryz.ntmps243
  go_wp2
  go_ret
  exact⟨rfl,rfl⟩
 by_cases h3:(len:Int) - at'<n
 ·rw[ou (by omega) (by omega) h3]
  go_enter Tryz.func243,Tryz.ntmps243
  go_wp2
  go_ret
  exact⟨rfl,rfl⟩
 ·rw[dJ (by omega) (by omega) (by omega)]
  go_enter Tryz.func243,Tryz.ntmps243
  go_wp2
  go_ret
  exact⟨rfl,rfl⟩
theorem bD (a:Option Addr)(len cap:Nat)(at' n:Int)(w:World)(hl:len<=maxLen)(ha:at'<=9223372036854775807) :
  Calls Tryz.prog 236 #[.slice a len cap,.int .i64 at',.int .i64 n] w fun e w'=>e=.returned (.int .i64 (cO len at' n))/\w=w':=by
 unfold cO
 by_cases h1:n=1
 ·subst h1
  rw[if_pos rfl]
  go_enter Tryz.func236,Tryz.ntmps236
  go_wp2_with (go_at_call 243;refine(iU _ _ _ _ _ _ hl ha (by omega)).mono ?_;rintro e w' ⟨rfl,rfl⟩)
  go_ret
  exact⟨rfl,rfl⟩
 by_cases h2:n=2
 ·subst h2
  rw[if_neg (by omega),if_pos rfl]
  go_enter Tryz.func236,Tryz.ntmps236
  go_wp2_with (go_at_call 243;refine(iU _ _ _ _ _ _ hl ha (by omega)).mono ?_;rintro e w' ⟨rfl,rfl⟩)
  go_ret
  exact⟨rfl,rfl⟩
 by_cases h4:n=4
 ·subst h4
  rw[if_neg (by omega),if_neg (by omega),if_pos rfl]
  go_enter Tryz.func236,Tryz.ntmps236
  go_wp2_with (go_at_call 243;refine(iU _ _ _ _ _ _ hl ha (by omega)).mono ?_;rintro e w' ⟨rfl,rfl⟩)
  go_ret
  exact⟨rfl,rfl⟩
 ·rw[if_neg h1,if_neg h2,if_neg h4]
  have e1:(n==1)=false:=by simpa using h1
  have e2:(n==2)=false:=by simpa using h2
  have e4:(n==4)=false:=by simpa using h4
  go_enter Tryz.func236,Tryz.ntmps236
  go_wp2_with fail
  go_ret
  exact⟨rfl,rfl⟩
theorem lX (len:Nat)(at' n:Int):cO len at' n=1\/cO len at' n=2\/(cO len at' n=0/\∃ at0 wd:Nat,at'=at0/\n=wd/\(wd=1\/wd=2\/wd=4)/\at0+wd<=len):=by
 have hp:∀ n:Int,n=1\/n=2\/n=4->dO len at' n=2\/(dO len at' n=0/\∃ at0 wd:Nat,at'=at0/\n=wd/\(wd=1\/wd=2\/wd=4)/\at0+wd<=len):=by
  intro n hn
  by_cases h2:at'<0
  ·exact .inl (oq (by omega) h2)
  by_cases h3:(len:Int) - at'<n
  ·exact .inl (ou (by omega) (by omega) h3)
  ·exact .inr ⟨dJ (by omega) (by omega) (by omega),at'.toNat,n.toNat,by omega,by omega,by omega,by omega⟩
 unfold cO
 by_cases h1:n=1
 ·rw[if_pos h1];exact .inr (hp n (.inl h1))
 rw[if_neg h1]
 by_cases h2:n=2
 ·rw[if_pos h2];exact .inr (hp n (.inr (.inl h2)))
 rw[if_neg h2]
 by_cases h4:n=4
 ·rw[if_pos h4];exact .inr (hp n (.inr (.inr h4)))
 rw[if_neg h4];exact .inl rfl
theorem gX {len at0 wd:Nat}(hw:wd=1\/wd=2\/wd=4)(hat:at0+wd<=len):cO len (at0:Int) (wd:Int)=0:=by
 unfold cO
 rcases hw with rfl | rfl | rfl
 ·rw[if_pos (by omega)];exact dJ (by omega) (by omega) (by omega)
 ·rw[if_neg (by omega),if_pos (by omega)];exact dJ (by omega) (by omega) (by omega)
 ·rw[if_neg (by omega),if_neg (by omega),if_pos (by omega)];exact dJ (by omega) (by omega) (by omega)
def fO (w:World) (a:Option Addr) (len:Nat) (ns:List Int):Prop :=
 ns.length=len/\(0<len->∃ b off,a=some ⟨b,off,none⟩/\∀ j,j<len->w.cell? ⟨b,off+j,none⟩=some (.int .i64 (ns[j]?.getD 0)))
theorem fO.lt {w a len zs}(h:fO w a len zs){b off:Nat}(hp:0<len)(e:a=some ⟨b,off,none⟩):b<w.heap.size:=by
 obtain⟨b',off',e',hc⟩:=h.2 hp
 rw[e] at e'
 cases e'
 exact aC (hc 0 hp)
theorem fO.later {w w':World}{a len zs}(h:fO w a len zs)(hb:Below w.heap.size w w'):fO w' a len zs:=by
 refine⟨h.1,fun hp=>?_⟩
 obtain⟨b,off,e,hc⟩:=h.2 hp
 exact⟨b,off,e,fun j hj=>(hb.cell (p:=⟨b,off+j,none⟩) (h.lt hp e)).trans (hc j hj)⟩
def jU (wd:Nat) (ns:List Int):Bool:=ns.all (fun v=>decide (0<=v/\v<256 ^ wd))
theorem bK {wd:Nat}{ns:List Int}:jU wd ns=true↔∀ v∈ns,0<=v/\v<256 ^ wd:=by simp[jU]
theorem afL {wd:Nat}{ns:List Int}{k:Nat}(hk:k<ns.length)(h:ns[k]?.getD 0<0\/256 ^ wd<=ns[k]?.getD 0):jU wd ns=false:=by
 rw[List.getElem?_eq_getElem hk,Option.getD_some] at h
 cases hf:jU wd ns with
 | false=>rfl
 | true =>
  have:=bK.1 hf _ (List.getElem_mem hk)
  omega
theorem adE {wd:Nat}{ns:List Int}(h:∀ j,j<ns.length->0<=ns[j]?.getD 0/\ns[j]?.getD 0<256 ^ wd):jU wd ns=true:=by
 refine bK.2 fun v hv=>?_
 obtain⟨j,hj,rfl⟩:=List.getElem_of_mem hv
 have:=h j hj
 rwa [List.getElem?_eq_getElem hj,Option.getD_some] at this
theorem yX (wd:Nat)(hw:wd=2\/wd=4)(a:Option Addr)(len cap:Nat)(ns:List Int)(w:World)(h:fO w a len ns)(hl:len<=140737488351232) :
  Calls Tryz.prog 115 #[.int .i64 (wd:Int),.slice a len cap] w fun e w'=>e=.returned (.bool (jU wd ns))/\w=w':=by
 have H:=hide h
 have hlen:=h.1
 clear h
 have hpos:(0:Int)<256 ^ wd:=Int.pow_pos (by omega)
 have hp2:(2:Int) ^ (8*wd)=256 ^ wd:=by rw[Int.pow_mul];rfl
 go_enter Tryz.func115,Tryz.ntmps115
 go_wp2
 go_loop [9] (fun i=>∃ k:Nat,k<=len/\i=.int .i64 (k:Int)/\Hid (∀ j,j<k->0<=ns[j]?.getD 0/\ns[j]?.getD 0<256 ^ wd)) (fun i=>len - (intOf i).toNat)
 case atStart=>exact⟨0,Nat.zero_le _,rfl,fun j hj=>by omega⟩
 case round =>
  obtain⟨k,hk,rfl,hj⟩:=hrel
  by_cases hlt:k<len
  ·obtain⟨b,off,rfl,hc⟩:=H.out.2 (by omega)
   have hck:=hc k hlt
   have aep:=hide (@afL wd ns k (by omega))
   have HJ:Hid (0<=ns[k]?.getD 0/\ns[k]?.getD 0<256 ^ wd->∀ j,j<k+1->0<=ns[j]?.getD 0/\ns[j]?.getD 0<256 ^ wd):=by
    intro h j hjk
    by_cases he:j=k
    ·subst he;exact h
    ·exact hj.out j (by omega)
   generalize ns[k]?.getD 0=z at *
   clear hc
   by_cases h1:z<0
   ·have HN:Hid (jU wd ns=false):=aep.out (.inl h1)
    have hd:decide (z<0)=true:=by simpa using h1
    clear aep HJ
    go_wp2
    go_ret
    exact⟨by rw[HN.out];rfl,rfl⟩
   ·have hd:decide (z<0)=false:=by simpa using h1
    by_cases h2:256 ^ wd<=z
    ·have HN:Hid (jU wd ns=false):=aep.out (.inr h2)
     have hq:(z / 2 ^ (8*wd) != 0)=true:=by
      have:1<=z / 256 ^ wd:=(Int.le_ediv_iff_mul_le hpos).2 (by omega)
      rw[hp2];simp;omega
     clear aep HJ hj h2 hpos hp2
     go_wp2
     go_ret
     exact⟨by rw[HN.out];rfl,rfl⟩
    ·have HJ':Hid (∀ j,j<k+1->0<=ns[j]?.getD 0/\ns[j]?.getD 0<256 ^ wd):=HJ.out ⟨by omega,by omega⟩
     have hq:(z / 2 ^ (8*wd) != 0)=false:=by
      have:z / 256 ^ wd=0:=Int.ediv_eq_zero_of_lt (by omega) (by omega)
      rw[hp2,this];rfl
     clear aep HJ hj h2 hpos hp2
     go_wp2
     exact⟨⟨k+1,by omega,by go_num,HJ'⟩,by simp[intOf];omega⟩
  ·obtain rfl:k=len:=by omega
   have HN:Hid (jU wd ns=true):=adE (fun j hj'=>hj.out j (by omega))
   go_wp2
   go_ret
   exact⟨by rw[HN.out];rfl,rfl⟩
theorem iI (w:World)(n:Nat):Block (w.alloc (.cells (madeCells #[.int .u8 0] n) 5)) w.heap.size (List.replicate n 0):=by
 show (w.alloc _).heap[w.heap.size]?=_
 rw[World.alloc_heap_new,List.map_replicate,← toList_madeCells_one,Array.toArray_toList]
theorem ahK {w}{g size at0:Nat}{xs}(hB:Block w g xs)(hx:xs.length=size){a2:Option Addr}{n:Nat}{ys:List Int}(h:Has w a2 n ys)(c2:Nat)(hfit:at0+n<=size) :
  ∃ w2,(∀ ty,(Builtin.copy_ #[62,62] ty #[.slice (cutAt (some ⟨g,0,none⟩) size at0) (size - at0) (size - at0),.slice a2 n c2]).run Tryz.prog w=.ok (goInt n) w2)/\Block w2 g (put xs at0 ys)/\∀ B,B<=g->Below B w w2:=by
 have hlen:=h.1
 by_cases h0:n=0
 ·subst h0
  obtain rfl:ys=[]:=List.eq_nil_of_length_eq_zero hlen
  refine⟨w,fun ty=>run_copy_none _ 62 62 ty 5 _ _ _ _ _ _ Tryz.underlying62 rG (Nat.min_eq_left (Nat.zero_le _)),?_,fun B _=>Below.refl _ _⟩
  have:put xs at0 []=xs:=by simp[put]
  rw[this];exact hB
 ·obtain⟨b,off,rfl,hc⟩:=h.2 (by omega)
  have hcut:cutAt (some ⟨g,0,none⟩) size at0=some ⟨g,at0,none⟩:=by
   unfold cutAt
   rw[if_neg (by omega),Option.map_some,Nat.mul_one,World.ay,Nat.zero_add]
  have hs:∀ (j:Nat) v,(ys.map (Value.int .u8))[j]?=some v->w.cell? ((⟨b,off,none⟩:Addr).add j)=some v:=by
   intro j v hv
   have hj:j<ys.length:=by
    have:=(List.getElem?_eq_some_iff.1 hv).1
    simpa using this
   rw[World.ay,hc j (by omega)]
   rw[List.getElem?_map,List.getElem?_eq_getElem hj] at hv
   rw[List.getElem?_eq_getElem hj]
   simpa using hv
  have hm:(ys.map (Value.int .u8)).length=Nat.min n (size - at0):=by rw[List.length_map,hlen];exact(Nat.min_eq_left (by omega)).symm
  have hp:((xs.map (Value.int .u8)).take at0++ys.map (Value.int .u8)++(xs.map (Value.int .u8)).drop (at0+(ys.map (Value.int .u8)).length))=(put xs at0 ys).map (Value.int .u8):=by
   simp[put,List.map_take,List.map_drop]
  refine⟨w.setRow g ((put xs at0 ys).map (Value.int .u8)).toArray,fun ty=>?_,setRow_heap w g _ _ 5 _ hB,fun B hBg=>below_setRow (Below.refl _ _) hBg _⟩
  have hr:=run_copy_row (P:=Tryz.prog) w 62 62 ty 5 g at0 (size - at0) (size - at0) ⟨b,off,none⟩ n c2 _ 5 (ys.map (Value.int .u8)) Tryz.underlying62 rG hB hm hs (by simp[hlen,hx];omega) (dA ys)
  rw[List.toList_toArray,hp,List.length_map,hlen] at hr
  rw[hcut]
  exact hr
def bP (size:Nat) (L:List Int):List Int:=L++List.replicate (size - L.length) 0
theorem dZ {size:Nat}{L:List Int}(h:L.length<=size):(bP size L).length=size:=by simp[bP];omega
theorem afu (size:Nat)(L z:List Int)(h:L.length+z.length<=size):put (bP size L) L.length z=bP size (L++z):=by
 simp only[put,bP,List.take_left,List.length_append]
 have e1:(L++List.replicate (size - L.length) 0).drop (L.length+z.length)=List.replicate (size - (L.length+z.length)) (0:Int):=by
  rw[List.drop_append,List.drop_of_length_le (by omega),List.nil_append,List.drop_replicate]
  congr 1;omega
 rw[e1]
theorem o9 (size:Nat)(L:List Int)(h:∀ z∈L,0<=z/\z<=255):∀ z∈bP size L,0<=z/\z<=255:=by
 intro z hz
 rcases List.mem_append.1 hz with hz | hz
 ·exact h z hz
 ·simp at hz;omega
abbrev Prt:=Option Addr×Nat×Nat×List Int
abbrev pv (p:Prt):Value:=.slice p.1 p.2.1 p.2.2.1
def agk (w:World) (a:Option Addr) (n:Nat) (ps:List Prt):Prop :=
 ps.length=n/\(0<n->∃ b off,a=some ⟨b,off,none⟩/\b<w.heap.size/\∀ j,(hj:j<ps.length)->w.cell? ⟨b,off+j,none⟩=some (pv ps[j]))/\∀ p∈ps,Has w p.1 p.2.1 p.2.2.2
theorem Has.lt {w a len zs}(h:Has w a len zs){b off:Nat}(hp:0<len)(e:a=some ⟨b,off,none⟩):b<w.heap.size:=by
 obtain⟨b',off',e',hc⟩:=h.2 hp
 rw[e] at e'
 cases e'
 exact aC (hc 0 hp)
theorem Has.later {w w':World}{a len zs}(h:Has w a len zs)(hb:Below w.heap.size w w'):Has w' a len zs:=by
 refine⟨h.1,fun hp=>?_⟩
 obtain⟨b,off,e,hc⟩:=h.2 hp
 exact⟨b,off,e,fun j hj=>(hb.cell (p:=⟨b,off+j,none⟩) (h.lt hp e)).trans (hc j hj)⟩
theorem agk.later {w w':World}{a n ps}(h:agk w a n ps)(hb:Below w.heap.size w w'):agk w' a n ps:=by
 obtain⟨h1,h2,h3⟩:=h
 refine⟨h1,fun hp=>?_,fun p hp=>(h3 p hp).later hb⟩
 obtain⟨b,off,e,hlt,hc⟩:=h2 hp
 exact⟨b,off,e,Nat.lt_of_lt_of_le hlt hb.size,fun j hj=>(hb.cell (p:=⟨b,off+j,none⟩) hlt).trans (hc j hj)⟩
def nH (ps:List Prt):List Int:=(ps.map (fun p=>p.2.2.2)).flatten
theorem aef (ps:List Prt)(k:Nat)(hk:k<ps.length):nH (ps.take (k+1))=nH (ps.take k)++ps[k].2.2.2:=by
 rw[nH,List.take_succ_eq_append_getElem hk,List.map_append,List.flatten_append]
 simp only[nH,List.map_cons,List.map_nil,List.flatten_cons,List.flatten_nil,List.append_nil]
theorem wo (ps:List Prt)(k:Nat):(nH (ps.take k)).length<=(nH ps).length:=by
 have:nH ps=nH (ps.take k)++nH (ps.drop k):=by
  simp only[nH]
  rw[← List.flatten_append,← List.map_append,List.take_append_drop]
 rw[this,List.length_append];omega
theorem aam (size:Nat)(a:Option Addr)(n cap:Nat)(ps:List Prt)(w:World)(h:agk w a n ps)(hn:n<=1000)(hs:(nH ps).length<=size)(hsz:size<=140737488351300) :
  Calls Tryz.prog 116 #[.int .i64 (size:Int),.slice a n cap] w fun e w'=>e=.returned (.slice (some ⟨w.heap.size,0,none⟩) size size)/\Hid (Block w' w.heap.size (bP size (nH ps)))/\Below w.heap.size w w':=by
 have hmk:=run_make_row' (P:=Tryz.prog) 62 5 (.int .u8 0) 1 Tryz.underlying62 info5 rfl .i64 .i64 size (by omega) (by omega)
 have hb0:Below w.heap.size w (w.alloc (.cells (madeCells #[.int .u8 0] size) 5)):=(Below.refl _ w).alloc (Nat.le_refl _) _
 have HB:Hid (Block (w.alloc (.cells (madeCells #[.int .u8 0] size) 5)) w.heap.size (bP size (nH (ps.take 0)))):=by
  have h0:bP size (nH (ps.take 0))=List.replicate size 0:=by simp[bP,nH]
  rw[h0]
  exact iI w size
 have H:=hide h
 have HS:=hide hs
 have hlen:=h.1
 clear h hs
 go_enter Tryz.func116,Tryz.ntmps116
 go_wp2
 go_loopw [6,13] (fun at' i wr=>∃ k at0:Nat,k<=n/\i=.int .i64 (k:Int)/\at'=.int .i64 (at0:Int)/\at0<=size/\Hid (at0=(nH (ps.take k)).length)/\Hid (Block wr w.heap.size (bP size (nH (ps.take k))))/\Hid (Below w.heap.size w wr)) (fun _ i _=>n - (intOf i).toNat)
 case atStart=>exact⟨0,0,Nat.zero_le _,rfl,rfl,Nat.zero_le _,rfl,HB,hb0⟩
 case round =>
  obtain⟨k,at0,hk,rfl,rfl,hat,he,hBk,hbk⟩:=hrel
  clear HB hmk hb0
  by_cases hlt:k<n
  ·obtain⟨b,off,rfl,_,hc⟩:=(H.out.later hbk.out).2.1 (by omega)
   have hck:=hc k (by omega)
   have ajg:=(H.out.later hbk.out).2.2 ps[k] (List.getElem_mem _)
   have hsu:=aef ps k (by omega)
   have hle:=wo ps (k+1)
   generalize ps[k]=pp at *
   obtain⟨pa,pn,pc,pz⟩:=pp
   dsimp only [pv] at hck ajg hsu
   rw[hsu,List.length_append] at hle
   have hroom:at0+pn<=size:=by have:=he.out;have:=HS.out;have:=ajg.1;omega
   obtain⟨w2,hr,hB2,hb2⟩:=ahK hBk.out (dZ (by have:=he.out;have:=HS.out;omega)) ajg pc hroom
   have HP:Hid (Block w2 w.heap.size (bP size (nH (ps.take (k+1))))/\Hid (Below w.heap.size w w2)/\at0+pn=(nH (ps.take (k+1))).length):=by
    have:=he.out
    subst this
    refine⟨?_,hbk.out.trans (hb2 _ (Nat.le_refl _)),by rw[hsu,List.length_append,ajg.1]⟩
    rw[hsu,← afu size _ _ (by have:=HS.out;omega)]
    exact hB2
   have hcut:=uF (some ⟨w.heap.size,0,none⟩) size size at0 hat
   generalize cutAt (some ⟨w.heap.size,0,none⟩) size at0=ca at *
   generalize hd:size - at0=d at *
   clear hc ajg hsu hle hB2 hb2 he hBk hbk HS
   have hpn:(pn:Int)<=140737488351300:=by omega
   go_wp2
   exact⟨⟨k+1,at0+pn,by omega,by go_num,by go_num,by omega,HP.out.2.2,HP.out.1,HP.out.2.1⟩,by simp[intOf];omega⟩
  ·obtain rfl:k=n:=by omega
   have e:ps.take k=ps:=List.take_of_length_le (by omega)
   rw[e] at hBk
   go_wp2
   go_ret
   exact⟨rfl,hBk,hbk.out⟩
theorem info3:(Tryz.prog.info? 3).map (fun i=>(i.zero,i.size,i.bytes))=some (some (.int .i64 0),1,8):=by kernel_rfl
theorem uN (zs:List Int):∀ v∈zs.map (Value.int .i64),v.oneCell'=true:=by
 intro v hv
 simp only[List.mem_map] at hv
 obtain⟨z,_,rfl⟩:=hv
 rfl
theorem jk (a1 a2:Option Addr)(len c1 c2:Nat)(ns:List Int)(w:World)(h1:fO w a1 len ns)(h2:fO w a2 len ns)(hl:len<=140737488351232) :
  Calls Tryz.prog 22 #[.slice a1 len c1,.slice a2 len c2] w fun e w'=>e=.returned (.bool true)/\∃ m,w'=w.drewN m:=by
 have H1:=hide h1
 have H2:=hide h2
 clear h1 h2
 go_enter Tryz.func22,Tryz.ntmps22
 go_wp2
 go_loopw [5] (fun i wr=>∃ k:Nat,k<=len/\i=.int .i64 (k:Int)/\Hid (∃ m,wr=w.drewN m)) (fun i _=>len - (intOf i).toNat)
 case atStart=>exact⟨0,Nat.zero_le _,rfl,0,rfl⟩
 case round =>
  obtain⟨k,hk,rfl,hw⟩:=hrel
  by_cases hlt:k<len
  ·obtain⟨b1,o1,rfl,hc1⟩:=H1.out.2 (by omega)
   obtain⟨b2,o2,rfl,hc2⟩:=H2.out.2 (by omega)
   have e1:wr.cell? ⟨b1,o1+k,none⟩=some (.int .i64 (ns[k]?.getD 0)):=by obtain⟨m,rfl⟩:=hw.out;exact hc1 k hlt
   have e2:wr.cell? ⟨b2,o2+k,none⟩=some (.int .i64 (ns[k]?.getD 0)):=by obtain⟨m,rfl⟩:=hw.out;exact hc2 k hlt
   generalize ns[k]?.getD 0=z at *
   have hlt':(k:Int)<(len:Int):=by omega
   clear hc1 hc2 hlt
   go_wp2
   go_quiet (fail)
   go_wp2
   refine⟨⟨k+1,by omega,by go_num,?_⟩,by simp[intOf];omega⟩
   obtain⟨m,rfl⟩:=hw.out
   exact⟨_,World.drewN_drewN _ _ _⟩
  ·obtain rfl:k=len:=by omega
   go_wp2
   go_ret
   exact⟨rfl,hw.out⟩
def imk (n:Int):Int:=n
def dD (B:Nat) (w:World) (a:Option Addr) (n c:Nat) (xs:List Int):Prop :=
 xs.length=n/\n<=c/\c<=maxLen/\((a=none/\n=0/\c=0)\/∃ g cur,a=some ⟨g,0,none⟩/\B<=g/\w.heap[g]?=some (.cells cur 3)/\cur.size=c/\cur.toList.take n=xs.map (Value.int .i64))
theorem dD.kept {B}{w w':World}{a n c xs}(h:dD B w a n c xs)(hk:∀ g,a=some ⟨g,0,none⟩->w'.heap[g]?=w.heap[g]?):dD B w' a n c xs:=by
 obtain⟨h1,h2,h3,h4⟩:=h
 refine⟨h1,h2,h3,?_⟩
 rcases h4 with h4 | ⟨g,cur,e,hg,hh,r⟩
 ·exact .inl h4
 ·exact .inr ⟨g,cur,e,hg,(hk g e).trans hh,r⟩
theorem dD.cell {B w a n c xs}(h:dD B w a n c xs){j:Nat}(hj:j<n):∃ g,a=some ⟨g,0,none⟩/\B<=g/\w.cell? ⟨g,j,none⟩=some (.int .i64 (xs[j]?.getD 0))/\w.frozen? ⟨g,j,none⟩=false:=by
 obtain⟨h1,h2,h3,h4⟩:=h
 rcases h4 with ⟨_,h4,_⟩ | ⟨g,cur,e,hg,hh,hc,ht⟩
 ·omega
 ·refine⟨g,e,hg,?_,by simp[World.frozen?,hh]⟩
  have hx:(cur.toList.take n)[j]?=some (.int .i64 (xs[j]?.getD 0)):=by
   rw[ht,List.getElem?_map,List.getElem?_eq_getElem (by omega)];rfl
  rw[List.getElem?_take_of_lt hj] at hx
  simp only[World.cell?,hh]
  simpa using hx
theorem dD.set {B w}{g n c:Nat}{xs}(h:dD B w (some ⟨g,0,none⟩) n c xs)(j:Nat)(z:Int):dD B (w.setCell ⟨g,j,none⟩ (.int .i64 z)) (some ⟨g,0,none⟩) n c (xs.set j z):=by
 obtain⟨h1,h2,h3,h4⟩:=h
 rcases h4 with ⟨h4,_⟩ | ⟨g',cur,e,hg,hh,hc,ht⟩
 ·cases h4
 ·cases e
  refine⟨by simp[h1],h2,h3,.inr ⟨g,_,rfl,hg,by rw[setCell_eq_setRow w g j _ 3 (0,0) _ hh];exact setRow_heap w g _ _ 3 _ hh,by simpa using hc,?_⟩⟩
  rw[Array.toList_setIfInBounds,List.take_set,ht,List.map_set]
theorem fU (B:Nat)(w:World)(ty:TypeId)(a:Option Addr)(n c:Nat)(xs:List Int)(h:dD B w a n c xs)(hB:B<=w.heap.size)(nb:Nat)(z:Int)(hz:w.cell? ⟨nb,0,none⟩=some (.int .i64 z))(hn:n+1<=17592186044416) :
  ∃ a' c' w',(Builtin.append_ #[22,22] ty #[.slice a n c,.slice (some ⟨nb,0,none⟩) 1 1]).run Tryz.prog w=.ok (.slice a' (n+1) c') w'/\dD B w' a' (n+1) c' (xs++[z]) /\
   (∀ k,k<w.heap.size->(∀ g,a=some ⟨g,0,none⟩->k≠g)->w'.heap[k]?=w.heap[k]?)/\Below B w w' /\
   ((a'=a/\c'=c/\∀ m,m<=n->dD B w' a m c (xs.take m))\/(∃ g',a'=some ⟨g',0,none⟩/\w.heap.size<=g'/\∀ k,k<w.heap.size->w'.heap[k]?=w.heap[k]?)):=by
 obtain⟨i0,hi,hz0,hz1,hz2⟩:=info_parts info3
 have hnews:∀ (j:Nat) (u:Value),[Value.int .i64 z][j]?=some u->w.cell? ((⟨nb,0,none⟩:Addr).add j)=some u:=by
  intro j u hj
  cases j with
  | zero=>simp at hj;subst hj;simpa [Addr.add] using hz
  | succ j=>simp at hj
 have h1c:∀ u∈[Value.int .i64 z],u.oneCell'=true:=by intro u hu;simp at hu;subst hu;rfl
 have hmax:n+1<=maxLen:=by unfold maxLen;omega
 obtain⟨h1,h2,h3,h4⟩:=h
 have aae:c<n+1->∀ (v:Value) (w':World),w'.ownsRow w.heap.size 3 1 v (n+1) (xs.map (Value.int .i64)++[Value.int .i64 z])->w.grownBy w' none ->
   ∃ a' c',v=.slice a' (n+1) c'/\dD B w' a' (n+1) c' (xs++[z])/\(∀ k,k<w.heap.size->(∀ g,a=some ⟨g,0,none⟩->k≠g)->w'.heap[k]?=w.heap[k]?)/\Below B w w' /\
    (∃ g',a'=some ⟨g',0,none⟩/\w.heap.size<=g'/\∀ k,k<w.heap.size->w'.heap[k]?=w.heap[k]?):=by
  intro hc v w' ho hg
  have hb:∀ k,k<w.heap.size->w'.heap[k]?=w.heap[k]?:=fun k hk=>hg.block k hk (by simp)
  rcases ho.2 with ⟨_,h0⟩ | ⟨g',cap',cur,rfl,hbg,hh,hnc,hcm,hcs,ht⟩
  ·omega
  ·refine⟨some ⟨g',0,none⟩,cap',rfl,⟨by simp[h1],hnc,hcm,.inr ⟨g',cur,rfl,by omega,hh,by simpa using hcs,by simpa using ht⟩⟩,fun k hk _=>hb k hk,⟨hg.os,hg.tape,hg.output,hg.size,fun k hk=>hb k (by omega)⟩,g',rfl,hbg,hb⟩
 rcases h4 with ⟨rfl,rfl,rfl⟩ | ⟨g,cur,rfl,hg,hh,hc,ht⟩
 ·have hx:xs=[]:=List.eq_nil_of_length_eq_zero h1
  subst hx
  obtain⟨v,w',hr,ho,hgr,_⟩:=run_append_own (P:=Tryz.prog) w w.heap.size 22 ty 3 i0 (.int .i64 0) 1 8 Tryz.underlying22 hi hz0 hz1 hz2 rfl (by decide) (.slice none 0 0) 0 [] (World.ownsRow_nil w _ 3 1) ⟨nb,0,none⟩ 1 1 [Value.int .i64 z] rfl hnews h1c hmax (by omega) (Nat.le_refl _)
  obtain⟨a',c',rfl,k1,k2,k3,k4⟩:=aae (by omega) v w' (by simpa using ho) (by simpa [Value.ownBlock] using hgr)
  exact⟨a',c',w',hr,k1,k2,k3,.inr k4⟩
 ·have holds:∀ (j:Nat) (u:Value),(xs.map (Value.int .i64))[j]?=some u->w.cell? ((⟨g,0,none⟩:Addr).add j)=some u:=by
   intro j u hj
   rw[World.ay,Nat.zero_add]
   have hjl:j<n:=by have:=(List.getElem?_eq_some_iff.1 hj).1;simp at this;omega
   rw[← ht,List.getElem?_take_of_lt hjl] at hj
   simp only[World.cell?,hh]
   simpa using hj
  by_cases hroom:n+1<=c
  ·have hr:=run_append_room (P:=Tryz.prog) w 22 ty 3 i0 Tryz.underlying22 hi g n c cur hh ⟨nb,0,none⟩ 1 1 [Value.int .i64 z] (by rw[hz1];rfl) hnews h1c hroom (by rw[hz1,hc];simp;omega)
   refine⟨_,c,_,hr,?_,?_,below_setRow (Below.refl _ _) hg _,.inl ⟨rfl,rfl,?_⟩⟩
   ·refine⟨by simp[h1],hroom,h3,.inr ⟨g,_,rfl,hg,setRow_heap w g cur _ 3 _ hh,?_,?_⟩⟩
    ·simp[hz1];omega
    ·rw[hz1,Nat.mul_one,ht]
     have hl:(xs.map (Value.int .i64)++[Value.int .i64 z]).length=n+1:=by simp[h1]
     rw[List.toList_toArray,List.take_append_of_le_length (by omega),List.take_of_length_le (by omega)]
     simp
   ·intro k _ hk
    exact setRow_other w g k _ (hk g rfl)
   ·intro m hm
    refine⟨by simp;omega,by omega,h3,.inr ⟨g,_,rfl,hg,setRow_heap w g cur _ 3 _ hh,?_,?_⟩⟩
    ·simp[hz1];omega
    ·rw[hz1,Nat.mul_one,ht,List.append_assoc]
     rw[List.toList_toArray,List.take_append_of_le_length (by simp;omega),List.map_take]
  ·obtain⟨v,w',hr,ho,hgr⟩:=run_append_arg_grows (P:=Tryz.prog) w 22 ty 3 i0 (.int .i64 0) 1 8 Tryz.underlying22 hi hz0 hz1 hz2 rfl (by decide) ⟨g,0,none⟩ n c (xs.map (Value.int .i64)) (by simp[h1]) holds ⟨nb,0,none⟩ 1 1 [Value.int .i64 z] rfl hnews (by omega) hmax (by omega)
   obtain⟨a',c',rfl,k1,k2,k3,k4⟩:=aae (by omega) v w' ho hgr
   exact⟨a',c',w',hr,k1,k2,k3,.inr k4⟩
theorem dD.lt {B w a n c xs}(h:dD B w a n c xs){g:Nat}(e:a=some ⟨g,0,none⟩):g<w.heap.size/\B<=g/\∃ cur,w.heap[g]?=some (.cells cur 3):=by
 obtain⟨_,_,_,h4⟩:=h
 rcases h4 with ⟨h4,_⟩ | ⟨g',cur,e',hg,hh,_⟩
 ·rw[h4] at e;cases e
 ·rw[e] at e';cases e'
  exact⟨(Array.getElem?_eq_some_iff.1 hh).1,hg,cur,hh⟩
theorem dD.below {B n:Nat}{w w':World}{a l c xs}(h:dD B w a l c xs)(hb:Below n w w')(hn:w.heap.size<=n):dD B w' a l c xs :=
 h.kept (fun g e=>hb.block g (by have:=(h.lt e).1;omega))
theorem dD.nil (B:Nat)(w:World):dD B w none 0 0 []:=⟨rfl,Nat.le_refl _,by unfold maxLen;omega,.inl ⟨rfl,rfl,rfl⟩⟩
structure aN where
 N:Nat
 B:Nat
 Lb:Nat
 ca:Array Value
 A:Nat->Option Addr
 L:Nat->Nat
 C:Nat->Nat
 off:Nat->Nat
structure aN.Good (S:aN):Prop where
 few:S.N<=64
 size:S.ca.size=S.N
 at':∀ p,p<S.N->S.ca[p]?=some (.slice (S.A p) (S.L p) (S.C p))
 ajY:S.off 0=0
 aj1:∀ p,p<S.N->S.off (p+1)=S.off p+S.L p
 fit:∀ p,p<S.N->S.L p<=17592186043904
 base:S.B<=S.Lb
 apart:∀ p p',p<S.N->p'<S.N->p≠p'->∀ g,S.A p=some ⟨g,0,none⟩->S.A p'≠some ⟨g,0,none⟩
theorem aN.Good.aiB {S:aN}(h:S.Good)(p:Nat)(hp:p<=S.N):S.off p<=p*17592186043904:=by
 induction p with
 | zero=>exact Nat.le_trans (Nat.le_of_eq h.ajY) (Nat.zero_le _)
 | succ p ih=>rw[h.aj1 p (by omega)];have:=h.fit p (by omega);have:=ih (by omega);omega
theorem aN.Good.acQ {S:aN}(h:S.Good)(p:Nat)(hp:p<=S.N):S.off p<=9007199254478848:=by
 have h1:=h.aiB p hp
 have h2:=h.few
 omega
def mY (S:aN) (w0 w:World) (i j:Nat):Prop :=
 w.heap[S.Lb]?=some (.cells S.ca 22)/\Below S.B w0 w /\
  ∀ p,p<S.N->∃ cs,dD S.B w (S.A p) (S.L p) (S.C p) cs/\∀ q,q<S.L p->(p<i\/(p=i/\q<j))->cs[q]?.getD 0=imk ((S.off p+q:Nat):Int)
theorem mY.ls {S:aN}(hS:S.Good){w0 w:World}{i j:Nat}(h:mY S w0 w i j){p:Nat}(hp:p<S.N):w.cell? ⟨S.Lb,p,none⟩=some (.slice (S.A p) (S.L p) (S.C p)):=by
 simp only[World.cell?,h.1]
 simpa using hS.at' p hp
theorem mY.next {S:aN}{w0 w:World}{i:Nat}(h:mY S w0 w i (S.L i)):mY S w0 w (i+1) 0:=by
 refine⟨h.1,h.2.1,fun p hp=>?_⟩
 obtain⟨cs,ho,hc⟩:=h.2.2 p hp
 refine⟨cs,ho,fun q hq hx=>hc q hq ?_⟩
 by_cases e:p=i
 ·subst e;exact .inr ⟨rfl,hq⟩
 ·exact .inl (by omega)
theorem mY.store {S:aN}(hS:S.Good){w0 w:World}{i j:Nat}(h:mY S w0 w i j)(hi:i<S.N)(hj:j<S.L i) :
  ∃ g v,S.A i=some ⟨g,0,none⟩/\w.cell? ⟨g,j,none⟩=some v/\w.frozen? ⟨g,j,none⟩=false/\mY S w0 (w.setCell ⟨g,j,none⟩ (.int .i64 (imk ((S.off i+j:Nat):Int)))) i (j+1):=by
 obtain⟨cs,ho,hc⟩:=h.2.2 i hi
 obtain⟨g,e,hg,hcell,hfr⟩:=ho.cell hj
 refine⟨g,_,e,hcell,hfr,?_,h.2.1.setCell (p:=⟨g,j,none⟩) hg _,fun p hp=>?_⟩
 ·have hne:S.Lb≠g:=by
   rintro rfl
   rw[e] at ho
   obtain⟨_,_,_,h4⟩:=ho
   rcases h4 with ⟨h4,_⟩ | ⟨g',cur,e',_,hh,_⟩
   ·cases h4
   ·cases e'
    rw[h.1] at hh
    simp at hh
  exact(Below.heap_setCell _ _ _ _ hne).trans h.1
 ·by_cases hpi:p=i
  ·subst hpi
   rw[e] at ho
   have hs:=ho.set j (imk ((S.off p+j:Nat):Int))
   rw[e]
   refine⟨_,hs,fun q hq hx=>?_⟩
   have hl:=ho.1
   by_cases hqj:q=j
   ·subst hqj
    rw[List.getElem?_set_self (by omega)];rfl
   ·rw[List.getElem?_set_ne (by omega)]
    exact hc q hq (by omega)
  ·obtain⟨cs',ho',hc'⟩:=h.2.2 p hp
   refine⟨cs',ho'.kept (fun g' e'=>Below.heap_setCell _ _ _ _ ?_),fun q hq hx=>hc' q hq (by omega)⟩
   rintro rfl
   exact hS.apart i p hi hp (by omega) _ e e'
def gJ (t:Option Addr×Nat×Nat):Value:=.slice t.1 t.2.1 t.2.2
def jd (S:aN) (p q:Nat):Int:=imk ((S.off S.N+6*p+q:Nat):Int)
def gW (S:aN) (B2:Nat) (w0 w:World) (i:Nat) (us:List (Option Addr×Nat×Nat)) (gv:Value):Prop :=
 mY S w0 w S.N 0/\us.length=i/\w.ownsRow B2 22 1 gv i (us.map gJ) /\
 (∀ p t,us[p]?=some t->t.2.1=S.L p+6/\∃ cs,dD S.B w t.1 t.2.1 t.2.2 cs/\∀ q,q<6->cs[S.L p+q]?.getD 0=jd S p q) /\
 (∀ t∈us,∀ k,i<=k->k<S.N->∀ g,S.A k=some ⟨g,0,none⟩->t.1≠some ⟨g,0,none⟩)
def iZ (S:aN) (B2:Nat) (w0 w:World) (i:Nat) (us:List (Option Addr×Nat×Nat)) (gv:Value) (ga:Option Addr) (gc j:Nat):Prop :=
 gW S B2 w0 w i us gv /\
 (∃ cs,dD S.B w ga (S.L i+j) gc cs/\(∀ q,q<S.L i->cs[q]?.getD 0=imk ((S.off i+q:Nat):Int))/\∀ q,q<j->cs[S.L i+q]?.getD 0=jd S i q) /\
 (∀ t∈us,∀ g,ga=some ⟨g,0,none⟩->t.1≠some ⟨g,0,none⟩) /\
 (∀ k,k<S.N->k≠i->∀ g,ga=some ⟨g,0,none⟩->S.A k≠some ⟨g,0,none⟩) /\
 ((ga=S.A i/\gc=S.C i)\/∀ g,ga=some ⟨g,0,none⟩->S.A i≠some ⟨g,0,none⟩)
theorem gW.kept {S:aN}{B2:Nat}{w0 w w':World}{i:Nat}{us:List (Option Addr×Nat×Nat)}{gv:Value}(hS:S.Good)(h:gW S B2 w0 w i us gv)(ga:Option Addr)(hB:Below S.B w w')
  (h5:∀ g,ga=some ⟨g,0,none⟩->∃ cur,w.heap[g]?=some (.cells cur 3))
  (hk:∀ k,k<w.heap.size->(∀ g,ga=some ⟨g,0,none⟩->k≠g)->w'.heap[k]?=w.heap[k]?)
  (hu:∀ t∈us,∀ g,ga=some ⟨g,0,none⟩->t.1≠some ⟨g,0,none⟩)
  (hA:∀ k,k<S.N->k≠i->∀ g,ga=some ⟨g,0,none⟩->S.A k≠some ⟨g,0,none⟩)
  (hi:i<S.N->∃ cs,dD S.B w' (S.A i) (S.L i) (S.C i) cs/\∀ q,q<S.L i->cs[q]?.getD 0=imk ((S.off i+q:Nat):Int)):gW S B2 w0 w' i us gv:=by
 obtain⟨⟨hL,hBw,hown⟩,hul,hrow,hus,hfu⟩:=h
 have hty:∀ (k:Nat) (cur:Array Value),w.heap[k]?=some (Obj.cells cur 22)->w'.heap[k]?=w.heap[k]?:=by
  intro k cur hh
  refine hk k (Array.getElem?_eq_some_iff.1 hh).1 (fun g e hkg=>?_)
  subst hkg
  obtain⟨cur',h'⟩:=h5 _ e
  rw[hh] at h';simp at h'
 refine⟨⟨(hty _ _ hL).trans hL,hBw.trans hB,fun p hp=>?_⟩,hul,iG hrow (fun g cur _ hh=>hty g cur hh),fun p t ht=>?_,hfu⟩
 ·by_cases hpi:p=i
  ·subst hpi
   obtain⟨cs,ho,hc⟩:=hi hp
   exact⟨cs,ho,fun q hq _=>hc q hq⟩
  ·obtain⟨cs,ho,hc⟩:=hown p hp
   refine⟨cs,ho.kept (fun g e=>hk g (ho.lt e).1 (fun g' e' hgg=>?_)),hc⟩
   subst hgg
   exact hA p hp hpi _ e' e
 ·obtain⟨h1,cs,ho,hc⟩:=hus p t ht
  refine⟨h1,cs,ho.kept (fun g e=>hk g (ho.lt e).1 (fun g' e' hgg=>?_)),hc⟩
  subst hgg
  exact hu t (List.mem_of_getElem? ht) _ e' e
theorem gW.alloc {S:aN}{B2:Nat}{w0 w:World}{i:Nat}{us:List (Option Addr×Nat×Nat)}{gv:Value}(hS:S.Good)(h:gW S B2 w0 w i us gv)(hB:S.B<=w.heap.size)(o:Obj):gW S B2 w0 (w.alloc o) i us gv:=by
 refine h.kept hS none ((Below.refl _ w).alloc hB o) (fun g e=>by cases e) (fun k hk _=>Below.heap_alloc w o k hk) (fun _ _ g e=>by cases e) (fun _ _ _ g e=>by cases e) (fun hi=>?_)
 obtain⟨cs,ho,hc⟩:=h.1.2.2 i hi
 exact⟨cs,ho.kept (fun g e=>Below.heap_alloc w o g (ho.lt e).1),fun q hq=>hc q hq (.inl hi)⟩
theorem gW.start {S:aN}{w0 w:World}{B2:Nat}(h:mY S w0 w S.N 0):gW S B2 w0 w 0 [] (.slice none 0 0) :=
 ⟨h,rfl,World.ownsRow_nil w B2 22 1,by simp,by simp⟩
theorem iZ.start {S:aN}(hS:S.Good){B2:Nat}{w0 w:World}{i:Nat}{us:List (Option Addr×Nat×Nat)}{gv:Value}(h:gW S B2 w0 w i us gv)(hi:i<S.N):iZ S B2 w0 w i us gv (S.A i) (S.C i) 0:=by
 obtain⟨cs,ho,hc⟩:=h.1.2.2 i hi
 exact⟨h,⟨cs,ho,fun q hq=>hc q hq (.inl hi),fun q hq=>by omega⟩,fun t ht g e=>h.2.2.2.2 t ht i (Nat.le_refl _) hi g e,fun k hk hki g e=>hS.apart i k hi hk (by omega) g e,.inl ⟨rfl,rfl⟩⟩
theorem iZ.step {S:aN}(hS:S.Good){B2:Nat}{w0 w:World}{i:Nat}{us:List (Option Addr×Nat×Nat)}{gv:Value}{ga:Option Addr}{gc j:Nat}(h:iZ S B2 w0 w i us gv ga gc j)(hi:i<S.N)(hj:j<6)(hB:S.B<=w.heap.size) :
  ∃ a' c' w',(∀ ty,(Builtin.append_ #[22,22] ty #[.slice ga (S.L i+j) gc,.slice (some ⟨w.heap.size,0,none⟩) 1 1]).run Tryz.prog (w.alloc (.cells #[.int .i64 (jd S i j)] 3))=.ok (.slice a' (S.L i+j+1) c') w') /\
   iZ S B2 w0 w' i us gv a' c' (j+1)/\w.heap.size<=w'.heap.size:=by
 obtain⟨h2,⟨cs,ho,hm,he⟩,hu,hA,hd⟩:=h
 obtain⟨z,hz⟩:∃ z,jd S i j=z:=⟨_,rfl⟩
 have hfit:=hS.fit i hi
 have h2':=h2.alloc hS hB (.cells #[.int .i64 (jd S i j)] 3)
 have ho':dD S.B (w.alloc (.cells #[.int .i64 (jd S i j)] 3)) ga (S.L i+j) gc cs:=ho.kept (fun g e=>Below.heap_alloc w _ g (ho.lt e).1)
 have hnew:(w.alloc (.cells #[.int .i64 (jd S i j)] 3)).cell? ⟨w.heap.size,0,none⟩=some (.int .i64 (jd S i j)):=(Boxed.new w 3 (.int .i64 (jd S i j))).cell
 obtain⟨w1,hw1⟩:∃ w1,w.alloc (.cells #[.int .i64 (jd S i j)] 3)=w1:=⟨_,rfl⟩
 have hsz:w1.heap.size=w.heap.size+1:=by rw[← hw1];simp
 rw[hw1] at h2' ho' hnew ⊢
 have hall:=fun ty=>fU S.B w1 ty ga (S.L i+j) gc cs ho' (by omega) w.heap.size (jd S i j) hnew (by omega)
 obtain⟨a',c',w',hr,hown,hk,hb,hcase⟩:=hall 0
 refine⟨a',c',w',fun ty=>?_,?_,?_⟩
 ·have hty:(Builtin.append_ #[22,22] ty #[.slice ga (S.L i+j) gc,.slice (some ⟨w.heap.size,0,none⟩) 1 1])=(Builtin.append_ #[22,22] 0 #[.slice ga (S.L i+j) gc,.slice (some ⟨w.heap.size,0,none⟩) 1 1]):=rfl
  rw[hty];exact hr
 ·have hmark:∀ q,q<S.L i->(cs++[jd S i j])[q]?.getD 0=imk ((S.off i+q:Nat):Int):=by
   intro q hq
   have:=ho.1
   rw[List.getElem?_append_left (by omega)];exact hm q hq
  have adv:∀ q,q<j+1->(cs++[jd S i j])[S.L i+q]?.getD 0=jd S i q:=by
   intro q hq
   have hl:=ho.1
   by_cases hqj:q=j
   ·subst hqj
    rw[List.getElem?_append_right (by omega),hl,Nat.sub_self];rfl
   ·rw[List.getElem?_append_left (by omega)];exact he q (by omega)
  have hAi:i<S.N->∃ cs,dD S.B w' (S.A i) (S.L i) (S.C i) cs/\∀ q,q<S.L i->cs[q]?.getD 0=imk ((S.off i+q:Nat):Int):=by
   intro _
   rcases hcase with ⟨rfl,rfl,hpre⟩ | ⟨g',rfl,hg',hsame⟩
   ·rcases hd with ⟨e1,e2⟩ | hd
    ·rw[← e1,← e2]
     refine⟨_,hpre (S.L i) (by omega),fun q hq=>?_⟩
     rw[List.getElem?_take_of_lt hq];exact hm q hq
    ·obtain⟨cs',hoA,hcA⟩:=h2'.1.2.2 i hi
     refine⟨cs',hoA.kept (fun g e=>hk g (hoA.lt e).1 (fun g2 e2 hgg=>?_)),fun q hq=>hcA q hq (.inl hi)⟩
     subst hgg
     exact hd _ e2 e
   ·obtain⟨cs',hoA,hcA⟩:=h2'.1.2.2 i hi
    exact⟨cs',hoA.kept (fun g e=>hsame g (hoA.lt e).1),fun q hq=>hcA q hq (.inl hi)⟩
  have ako:=h2'.kept hS ga hb (fun g e=>(ho'.lt e).2.2) hk hu hA hAi
  refine⟨ako,⟨cs++[jd S i j],hown,hmark,adv⟩,?_,?_,?_⟩
  ·rcases hcase with ⟨rfl,rfl,_⟩ | ⟨g',rfl,hg',_⟩
   ·exact hu
   ·intro t ht g e e2
    cases e
    obtain⟨p,hp⟩:=List.getElem?_of_mem ht
    obtain⟨_,cs2,ho2,_⟩:=h2'.2.2.2.1 p t hp
    have:=(ho2.lt e2).1
    omega
  ·rcases hcase with ⟨rfl,rfl,_⟩ | ⟨g',rfl,hg',_⟩
   ·exact hA
   ·intro k hk' hki g e e2
    cases e
    obtain⟨cs2,ho2,_⟩:=h2'.1.2.2 k hk'
    have:=(ho2.lt e2).1
    omega
  ·rcases hcase with ⟨rfl,rfl,_⟩ | ⟨g',rfl,hg',_⟩
   ·exact hd
   ·refine .inr (fun g e e2=>?_)
    cases e
    obtain⟨cs2,ho2,_⟩:=h2'.1.2.2 i hi
    have:=(ho2.lt e2).1
    omega
 ·have:=hb.size;omega
theorem iZ.done {S:aN}(hS:S.Good){B2:Nat}{w0 w w':World}{i:Nat}{us:List (Option Addr×Nat×Nat)}{gv gv':Value}{ga:Option Addr}{gc:Nat}(h:iZ S B2 w0 w i us gv ga gc 6)(hi:i<S.N)(hB:S.B<=w.heap.size)(hLb:S.Lb<B2)(hBB:S.B<=B2)
  (o:Obj) (hrow:w'.ownsRow B2 22 1 gv' (i+1) (us.map gJ++[.slice ga (S.L i+6) gc])) (hg:(w.alloc o).grownBy w' gv.ownBlock):gW S B2 w0 w' (i+1) (us++[(ga,S.L i+6,gc)]) gv':=by
 obtain⟨h2,⟨cs,ho,hm,he⟩,hu,hA,hd⟩:=h
 have h2':=h2.alloc hS hB o
 have hrow0:=h2'.2.2.1
 have hkb:∀ k,k<(w.alloc o).heap.size->(k<B2\/∃ cur,(w.alloc o).heap[k]?=some (.cells cur 3))->w'.heap[k]?=(w.alloc o).heap[k]?:=by
  intro k hk hx
  refine hg.block k hk (fun e=>?_)
  rcases hrow0.2 with ⟨e0,_⟩ | ⟨g,cap,cur,e0,hb,hh,_⟩
  ·rw[e0] at e;cases e
  ·rw[e0] at e
   simp only[Value.ownBlock,Option.some.injEq] at e
   subst e
   rcases hx with hx | ⟨cur',hx⟩
   ·omega
   ·rw[hh] at hx;simp at hx
 have hkO:∀ {a:Option Addr} {n c:Nat} {xs:List Int},dD S.B (w.alloc o) a n c xs->dD S.B w' a n c xs:=by
  intro a n c xs hO
  exact hO.kept (fun g e=>hkb g (hO.lt e).1 (.inr (hO.lt e).2.2))
 have ho':dD S.B (w.alloc o) ga (S.L i+6) gc cs:=ho.kept (fun g e=>Below.heap_alloc w _ g (ho.lt e).1)
 have akn:S.Lb<(w.alloc o).heap.size:=(Array.getElem?_eq_some_iff.1 h2'.1.1).1
 refine⟨⟨(hkb _ akn (.inl hLb)).trans h2'.1.1,h2'.1.2.1.trans ⟨hg.os,hg.tape,hg.output,hg.size,fun k hk=>hkb k (by simp;omega) (.inl (by omega))⟩,fun p hp=>?_⟩,by simp[h2.2.1],by simpa [gJ] using hrow,fun p t ht=>?_,?_⟩
 ·obtain⟨cs',hO,hc⟩:=h2'.1.2.2 p hp
  exact⟨cs',hkO hO,hc⟩
 ·by_cases hp:p<us.length
  ·rw[List.getElem?_append_left hp] at ht
   obtain⟨h1,cs',hO,hc⟩:=h2'.2.2.2.1 p t ht
   exact⟨h1,cs',hkO hO,hc⟩
  ·have hul:=h2.2.1
   rw[List.getElem?_append_right (by omega)] at ht
   have hpi:p=i:=by
    have:=(List.getElem?_eq_some_iff.1 ht).1
    simp at this;omega
   subst hpi
   rw[hul,Nat.sub_self] at ht
   simp at ht
   subst ht
   exact⟨rfl,cs,hkO ho',he⟩
 ·intro t ht k hk hkN g e
  rcases List.mem_append.1 ht with ht | ht
  ·exact h2.2.2.2.2 t ht k (by omega) hkN g e
  ·simp at ht
   subst ht
   intro e2
   exact hA k hkN (by omega) g e2 e
theorem gW.shape {S:aN}{B2:Nat}{w0 w:World}{i:Nat}{us:List (Option Addr×Nat×Nat)}{gv:Value}(h:gW S B2 w0 w i us gv):∃ a c,gv=.slice a i c:=by
 rcases h.2.2.1.2 with ⟨e,e0⟩ | ⟨g,cap,cur,e,_⟩
 ·exact⟨none,0,by rw[e,e0]⟩
 ·exact⟨_,cap,e⟩
theorem gW.byte {S:aN}{B2:Nat}{w0 w:World}{i:Nat}{us:List (Option Addr×Nat×Nat)}{gv:Value}(h:gW S B2 w0 w i us gv){k q:Nat}(hk:k<S.N)(hq:q<S.L k) :
  ∃ g,S.A k=some ⟨g,0,none⟩/\w.cell? ⟨g,q,none⟩=some (.int .i64 (imk ((S.off k+q:Nat):Int))):=by
 obtain⟨cs,ho,hc⟩:=h.1.2.2 k hk
 obtain⟨g,e,_,hcell,_⟩:=ho.cell hq
 rw[hc q hq (.inl hk)] at hcell
 exact⟨g,e,hcell⟩
theorem gW.grown {S:aN}{B2:Nat}{w0 w:World}{i c:Nat}{us:List (Option Addr×Nat×Nat)}{a:Option Addr}(h:gW S B2 w0 w i us (.slice a i c)){k:Nat}(hk:k<i) :
  ∃ gb ua uc,a=some ⟨gb,0,none⟩/\w.cell? ⟨gb,k,none⟩=some (.slice ua (S.L k+6) uc)/\∀ q,q<6->∃ g,ua=some ⟨g,0,none⟩/\w.cell? ⟨g,S.L k+q,none⟩=some (.int .i64 (jd S k q)):=by
 have hul:=h.2.1
 obtain⟨t,ht⟩:∃ t,us[k]?=some t:=⟨us[k],List.getElem?_eq_getElem (by omega)⟩
 obtain⟨h1,cs,ho,hc⟩:=h.2.2.2.1 k t ht
 rcases h.2.2.1.2 with ⟨e,e0⟩ | ⟨g,cap,cur,e,_,hh,_,_,_,htk⟩
 ·omega
 ·cases e
  refine⟨g,t.1,t.2.2,rfl,?_,fun q hq=>?_⟩
  ·have hx:(cur.toList.take (i*1))[k]?=some (gJ t):=by rw[htk,List.getElem?_map,ht];rfl
   rw[List.getElem?_take_of_lt (by omega)] at hx
   simp only[World.cell?,hh]
   rw[← h1]
   simpa [gJ] using hx
  ·obtain⟨g',e',_,hcell,_⟩:=ho.cell (j:=S.L k+q) (by omega)
   rw[hc q hq] at hcell
   exact⟨g',e',hcell⟩
end Go.Proofs.YtbofhdfhhbgdgaaGreatDoor
/- The contract of skerryref01.aju, with a narrower frame (written by tools/ah9.py out of ahT and akC). -/
namespace Go.Proofs.YtbofhdfhhbgdgaaGreatDoor.FA
set_option maxRecDepth 100000
set_option maxHeartbeats 8000000
open Go.RowKit Go.Shelf
set_option linter.unusedVariables false
def TI (S:aN) (k:Nat):Prop:=∃ p,p<S.N/\S.A p=some ⟨k,0,none⟩
def mY (S:aN) (w0 w:World) (i j:Nat):Prop :=
 w.heap[S.Lb]?=some (.cells S.ca 22)/\BI S.B (TI S) w0 w /\
  ∀ p,p<S.N->∃ cs,dD S.B w (S.A p) (S.L p) (S.C p) cs/\∀ q,q<S.L p->(p<i\/(p=i/\q<j))->cs[q]?.getD 0=imk ((S.off p+q:Nat):Int)
theorem mY.ls {S:aN}(hS:S.Good){w0 w:World}{i j:Nat}(h:mY S w0 w i j){p:Nat}(hp:p<S.N):w.cell? ⟨S.Lb,p,none⟩=some (.slice (S.A p) (S.L p) (S.C p)):=by
 simp only[World.cell?,h.1]
 simpa using hS.at' p hp
theorem mY.next {S:aN}{w0 w:World}{i:Nat}(h:mY S w0 w i (S.L i)):mY S w0 w (i+1) 0:=by
 refine⟨h.1,h.2.1,fun p hp=>?_⟩
 obtain⟨cs,ho,hc⟩:=h.2.2 p hp
 refine⟨cs,ho,fun q hq hx=>hc q hq ?_⟩
 by_cases e:p=i
 ·subst e;exact .inr ⟨rfl,hq⟩
 ·exact .inl (by omega)
theorem mY.store {S:aN}(hS:S.Good){w0 w:World}{i j:Nat}(h:mY S w0 w i j)(hi:i<S.N)(hj:j<S.L i) :
  ∃ g v,S.A i=some ⟨g,0,none⟩/\w.cell? ⟨g,j,none⟩=some v/\w.frozen? ⟨g,j,none⟩=false/\mY S w0 (w.setCell ⟨g,j,none⟩ (.int .i64 (imk ((S.off i+j:Nat):Int)))) i (j+1):=by
 obtain⟨cs,ho,hc⟩:=h.2.2 i hi
 obtain⟨g,e,hg,hcell,hfr⟩:=ho.cell hj
 refine⟨g,_,e,hcell,hfr,?_,h.2.1.setCell hg ⟨i,hi,e⟩ _,fun p hp=>?_⟩
 ·have hne:S.Lb≠g:=by
   rintro rfl
   rw[e] at ho
   obtain⟨_,_,_,h4⟩:=ho
   rcases h4 with ⟨h4,_⟩ | ⟨g',cur,e',_,hh,_⟩
   ·cases h4
   ·cases e'
    rw[h.1] at hh
    simp at hh
  exact(Below.heap_setCell _ _ _ _ hne).trans h.1
 ·by_cases hpi:p=i
  ·subst hpi
   rw[e] at ho
   have hs:=ho.set j (imk ((S.off p+j:Nat):Int))
   rw[e]
   refine⟨_,hs,fun q hq hx=>?_⟩
   have hl:=ho.1
   by_cases hqj:q=j
   ·subst hqj
    rw[List.getElem?_set_self (by omega)];rfl
   ·rw[List.getElem?_set_ne (by omega)]
    exact hc q hq (by omega)
  ·obtain⟨cs',ho',hc'⟩:=h.2.2 p hp
   refine⟨cs',ho'.kept (fun g' e'=>Below.heap_setCell _ _ _ _ ?_),fun q hq hx=>hc' q hq (by omega)⟩
   rintro rfl
   exact hS.apart i p hi hp (by omega) _ e e'
def gW (S:aN) (B2:Nat) (w0 w:World) (i:Nat) (us:List (Option Addr×Nat×Nat)) (gv:Value):Prop :=
 mY S w0 w S.N 0/\us.length=i/\w.ownsRow B2 22 1 gv i (us.map gJ) /\
 (∀ p t,us[p]?=some t->t.2.1=S.L p+6/\∃ cs,dD S.B w t.1 t.2.1 t.2.2 cs/\∀ q,q<6->cs[S.L p+q]?.getD 0=jd S p q) /\
 (∀ t∈us,∀ k,i<=k->k<S.N->∀ g,S.A k=some ⟨g,0,none⟩->t.1≠some ⟨g,0,none⟩)
def iZ (S:aN) (B2:Nat) (w0 w:World) (i:Nat) (us:List (Option Addr×Nat×Nat)) (gv:Value) (ga:Option Addr) (gc j:Nat):Prop :=
 gW S B2 w0 w i us gv /\
 (∃ cs,dD S.B w ga (S.L i+j) gc cs/\(∀ q,q<S.L i->cs[q]?.getD 0=imk ((S.off i+q:Nat):Int))/\∀ q,q<j->cs[S.L i+q]?.getD 0=jd S i q) /\
 (∀ t∈us,∀ g,ga=some ⟨g,0,none⟩->t.1≠some ⟨g,0,none⟩) /\
 (∀ k,k<S.N->k≠i->∀ g,ga=some ⟨g,0,none⟩->S.A k≠some ⟨g,0,none⟩) /\
 ((ga=S.A i/\gc=S.C i)\/∀ g,ga=some ⟨g,0,none⟩->S.A i≠some ⟨g,0,none⟩) /\
 (∀ g,ga=some ⟨g,0,none⟩->TI S g\/w0.heap.size<=g)
theorem gW.kept {S:aN}{B2:Nat}{w0 w w':World}{i:Nat}{us:List (Option Addr×Nat×Nat)}{gv:Value}(hS:S.Good)(h:gW S B2 w0 w i us gv)(ga:Option Addr)(hB:Below S.B w w')
  (h5:∀ g,ga=some ⟨g,0,none⟩->∃ cur,w.heap[g]?=some (.cells cur 3))
  (hTg:∀ g,ga=some ⟨g,0,none⟩->TI S g\/w0.heap.size<=g)
  (hk:∀ k,k<w.heap.size->(∀ g,ga=some ⟨g,0,none⟩->k≠g)->w'.heap[k]?=w.heap[k]?)
  (hu:∀ t∈us,∀ g,ga=some ⟨g,0,none⟩->t.1≠some ⟨g,0,none⟩)
  (hA:∀ k,k<S.N->k≠i->∀ g,ga=some ⟨g,0,none⟩->S.A k≠some ⟨g,0,none⟩)
  (hi:i<S.N->∃ cs,dD S.B w' (S.A i) (S.L i) (S.C i) cs/\∀ q,q<S.L i->cs[q]?.getD 0=imk ((S.off i+q:Nat):Int)):gW S B2 w0 w' i us gv:=by
 obtain⟨⟨hL,hBw,hown⟩,hul,hrow,hus,hfu⟩:=h
 have hty:∀ (k:Nat) (cur:Array Value),w.heap[k]?=some (Obj.cells cur 22)->w'.heap[k]?=w.heap[k]?:=by
  intro k cur hh
  refine hk k (Array.getElem?_eq_some_iff.1 hh).1 (fun g e hkg=>?_)
  subst hkg
  obtain⟨cur',h'⟩:=h5 _ e
  rw[hh] at h';simp at h'
 have ah4:∀ k,k<w0.heap.size->¬ TI S k->w'.heap[k]?=w.heap[k]?:=by
  intro k hk0 hn
  refine hk k (Nat.lt_of_lt_of_le hk0 hBw.1.size) (fun g e hkg=>?_)
  subst hkg
  rcases hTg _ e with h | h
  ·exact hn h
  ·omega
 refine⟨⟨(hty _ _ hL).trans hL,hBw.trans hB ah4,fun p hp=>?_⟩,hul,iG hrow (fun g cur _ hh=>hty g cur hh),fun p t ht=>?_,hfu⟩
 ·by_cases hpi:p=i
  ·subst hpi
   obtain⟨cs,ho,hc⟩:=hi hp
   exact⟨cs,ho,fun q hq _=>hc q hq⟩
  ·obtain⟨cs,ho,hc⟩:=hown p hp
   refine⟨cs,ho.kept (fun g e=>hk g (ho.lt e).1 (fun g' e' hgg=>?_)),hc⟩
   subst hgg
   exact hA p hp hpi _ e' e
 ·obtain⟨h1,cs,ho,hc⟩:=hus p t ht
  refine⟨h1,cs,ho.kept (fun g e=>hk g (ho.lt e).1 (fun g' e' hgg=>?_)),hc⟩
  subst hgg
  exact hu t (List.mem_of_getElem? ht) _ e' e
theorem gW.alloc {S:aN}{B2:Nat}{w0 w:World}{i:Nat}{us:List (Option Addr×Nat×Nat)}{gv:Value}(hS:S.Good)(h:gW S B2 w0 w i us gv)(hB:S.B<=w.heap.size)(o:Obj):gW S B2 w0 (w.alloc o) i us gv:=by
 refine h.kept hS none ((Below.refl _ w).alloc hB o) (fun g e=>by cases e) (fun g e=>by cases e) (fun k hk _=>Below.heap_alloc w o k hk) (fun _ _ g e=>by cases e) (fun _ _ _ g e=>by cases e) (fun hi=>?_)
 obtain⟨cs,ho,hc⟩:=h.1.2.2 i hi
 exact⟨cs,ho.kept (fun g e=>Below.heap_alloc w o g (ho.lt e).1),fun q hq=>hc q hq (.inl hi)⟩
theorem gW.start {S:aN}{w0 w:World}{B2:Nat}(h:mY S w0 w S.N 0):gW S B2 w0 w 0 [] (.slice none 0 0) :=
 ⟨h,rfl,World.ownsRow_nil w B2 22 1,by simp,by simp⟩
theorem iZ.start {S:aN}(hS:S.Good){B2:Nat}{w0 w:World}{i:Nat}{us:List (Option Addr×Nat×Nat)}{gv:Value}(h:gW S B2 w0 w i us gv)(hi:i<S.N):iZ S B2 w0 w i us gv (S.A i) (S.C i) 0:=by
 obtain⟨cs,ho,hc⟩:=h.1.2.2 i hi
 exact⟨h,⟨cs,ho,fun q hq=>hc q hq (.inl hi),fun q hq=>by omega⟩,fun t ht g e=>h.2.2.2.2 t ht i (Nat.le_refl _) hi g e,fun k hk hki g e=>hS.apart i k hi hk (by omega) g e,.inl ⟨rfl,rfl⟩,fun g e=>.inl ⟨i,hi,e⟩⟩
theorem iZ.step {S:aN}(hS:S.Good){B2:Nat}{w0 w:World}{i:Nat}{us:List (Option Addr×Nat×Nat)}{gv:Value}{ga:Option Addr}{gc j:Nat}(h:iZ S B2 w0 w i us gv ga gc j)(hi:i<S.N)(hj:j<6)(hB:S.B<=w.heap.size) :
  ∃ a' c' w',(∀ ty,(Builtin.append_ #[22,22] ty #[.slice ga (S.L i+j) gc,.slice (some ⟨w.heap.size,0,none⟩) 1 1]).run Tryz.prog (w.alloc (.cells #[.int .i64 (jd S i j)] 3))=.ok (.slice a' (S.L i+j+1) c') w') /\
   iZ S B2 w0 w' i us gv a' c' (j+1)/\w.heap.size<=w'.heap.size:=by
 obtain⟨h2,⟨cs,ho,hm,he⟩,hu,hA,hd,hTg⟩:=h
 obtain⟨z,hz⟩:∃ z,jd S i j=z:=⟨_,rfl⟩
 have hfit:=hS.fit i hi
 have h2':=h2.alloc hS hB (.cells #[.int .i64 (jd S i j)] 3)
 have ho':dD S.B (w.alloc (.cells #[.int .i64 (jd S i j)] 3)) ga (S.L i+j) gc cs:=ho.kept (fun g e=>Below.heap_alloc w _ g (ho.lt e).1)
 have hnew:(w.alloc (.cells #[.int .i64 (jd S i j)] 3)).cell? ⟨w.heap.size,0,none⟩=some (.int .i64 (jd S i j)):=(Boxed.new w 3 (.int .i64 (jd S i j))).cell
 obtain⟨w1,hw1⟩:∃ w1,w.alloc (.cells #[.int .i64 (jd S i j)] 3)=w1:=⟨_,rfl⟩
 have hsz:w1.heap.size=w.heap.size+1:=by rw[← hw1];simp
 rw[hw1] at h2' ho' hnew ⊢
 have hall:=fun ty=>fU S.B w1 ty ga (S.L i+j) gc cs ho' (by omega) w.heap.size (jd S i j) hnew (by omega)
 obtain⟨a',c',w',hr,hown,hk,hb,hcase⟩:=hall 0
 refine⟨a',c',w',fun ty=>?_,?_,?_⟩
 ·have hty:(Builtin.append_ #[22,22] ty #[.slice ga (S.L i+j) gc,.slice (some ⟨w.heap.size,0,none⟩) 1 1])=(Builtin.append_ #[22,22] 0 #[.slice ga (S.L i+j) gc,.slice (some ⟨w.heap.size,0,none⟩) 1 1]):=rfl
  rw[hty];exact hr
 ·have hmark:∀ q,q<S.L i->(cs++[jd S i j])[q]?.getD 0=imk ((S.off i+q:Nat):Int):=by
   intro q hq
   have:=ho.1
   rw[List.getElem?_append_left (by omega)];exact hm q hq
  have adv:∀ q,q<j+1->(cs++[jd S i j])[S.L i+q]?.getD 0=jd S i q:=by
   intro q hq
   have hl:=ho.1
   by_cases hqj:q=j
   ·subst hqj
    rw[List.getElem?_append_right (by omega),hl,Nat.sub_self];rfl
   ·rw[List.getElem?_append_left (by omega)];exact he q (by omega)
  have hAi:i<S.N->∃ cs,dD S.B w' (S.A i) (S.L i) (S.C i) cs/\∀ q,q<S.L i->cs[q]?.getD 0=imk ((S.off i+q:Nat):Int):=by
   intro _
   rcases hcase with ⟨rfl,rfl,hpre⟩ | ⟨g',rfl,hg',hsame⟩
   ·rcases hd with ⟨e1,e2⟩ | hd
    ·rw[← e1,← e2]
     refine⟨_,hpre (S.L i) (by omega),fun q hq=>?_⟩
     rw[List.getElem?_take_of_lt hq];exact hm q hq
    ·obtain⟨cs',hoA,hcA⟩:=h2'.1.2.2 i hi
     refine⟨cs',hoA.kept (fun g e=>hk g (hoA.lt e).1 (fun g2 e2 hgg=>?_)),fun q hq=>hcA q hq (.inl hi)⟩
     subst hgg
     exact hd _ e2 e
   ·obtain⟨cs',hoA,hcA⟩:=h2'.1.2.2 i hi
    exact⟨cs',hoA.kept (fun g e=>hsame g (hoA.lt e).1),fun q hq=>hcA q hq (.inl hi)⟩
  have ako:=h2'.kept hS ga hb (fun g e=>(ho'.lt e).2.2) hTg hk hu hA hAi
  refine⟨ako,⟨cs++[jd S i j],hown,hmark,adv⟩,?_,?_,?_,?_⟩
  ·rcases hcase with ⟨rfl,rfl,_⟩ | ⟨g',rfl,hg',_⟩
   ·exact hu
   ·intro t ht g e e2
    cases e
    obtain⟨p,hp⟩:=List.getElem?_of_mem ht
    obtain⟨_,cs2,ho2,_⟩:=h2'.2.2.2.1 p t hp
    have:=(ho2.lt e2).1
    omega
  ·rcases hcase with ⟨rfl,rfl,_⟩ | ⟨g',rfl,hg',_⟩
   ·exact hA
   ·intro k hk' hki g e e2
    cases e
    obtain⟨cs2,ho2,_⟩:=h2'.1.2.2 k hk'
    have:=(ho2.lt e2).1
    omega
  ·rcases hcase with ⟨rfl,rfl,_⟩ | ⟨g',rfl,hg',_⟩
   ·exact hd
   ·refine .inr (fun g e e2=>?_)
    cases e
    obtain⟨cs2,ho2,_⟩:=h2'.1.2.2 i hi
    have:=(ho2.lt e2).1
    omega
  ·rcases hcase with ⟨rfl,rfl,_⟩ | ⟨g',rfl,hg',_⟩
   ·exact hTg
   ·intro g e
    cases e
    have:=h2'.1.2.1.1.size
    exact .inr (by omega)
 ·have:=hb.size;omega
theorem iZ.done {S:aN}(hS:S.Good){B2:Nat}{w0 w w':World}{i:Nat}{us:List (Option Addr×Nat×Nat)}{gv gv':Value}{ga:Option Addr}{gc:Nat}(h:iZ S B2 w0 w i us gv ga gc 6)(hi:i<S.N)(hB:S.B<=w.heap.size)(hLb:S.Lb<B2)(hBB:S.B<=B2)(h02:w0.heap.size<=B2)
  (o:Obj) (hrow:w'.ownsRow B2 22 1 gv' (i+1) (us.map gJ++[.slice ga (S.L i+6) gc])) (hg:(w.alloc o).grownBy w' gv.ownBlock):gW S B2 w0 w' (i+1) (us++[(ga,S.L i+6,gc)]) gv':=by
 obtain⟨h2,⟨cs,ho,hm,he⟩,hu,hA,hd,hTg⟩:=h
 have h2':=h2.alloc hS hB o
 have hrow0:=h2'.2.2.1
 have hkb:∀ k,k<(w.alloc o).heap.size->(k<B2\/∃ cur,(w.alloc o).heap[k]?=some (.cells cur 3))->w'.heap[k]?=(w.alloc o).heap[k]?:=by
  intro k hk hx
  refine hg.block k hk (fun e=>?_)
  rcases hrow0.2 with ⟨e0,_⟩ | ⟨g,cap,cur,e0,hb,hh,_⟩
  ·rw[e0] at e;cases e
  ·rw[e0] at e
   simp only[Value.ownBlock,Option.some.injEq] at e
   subst e
   rcases hx with hx | ⟨cur',hx⟩
   ·omega
   ·rw[hh] at hx;simp at hx
 have ah4:∀ k,k<w0.heap.size->¬ TI S k->w'.heap[k]?=(w.alloc o).heap[k]?:=by
  intro k hk0 hn
  refine hg.block k (Nat.lt_of_lt_of_le hk0 h2'.1.2.1.1.size) (fun e=>?_)
  rcases hrow0.2 with ⟨e0,_⟩ | ⟨g,cap,cur,e0,hb,hh',_⟩
  ·rw[e0] at e;cases e
  ·rw[e0] at e
   simp only[Value.ownBlock,Option.some.injEq] at e
   subst e
   omega
 have hkO:∀ {a:Option Addr} {n c:Nat} {xs:List Int},dD S.B (w.alloc o) a n c xs->dD S.B w' a n c xs:=by
  intro a n c xs hO
  exact hO.kept (fun g e=>hkb g (hO.lt e).1 (.inr (hO.lt e).2.2))
 have ho':dD S.B (w.alloc o) ga (S.L i+6) gc cs:=ho.kept (fun g e=>Below.heap_alloc w _ g (ho.lt e).1)
 have akn:S.Lb<(w.alloc o).heap.size:=(Array.getElem?_eq_some_iff.1 h2'.1.1).1
 refine⟨⟨(hkb _ akn (.inl hLb)).trans h2'.1.1,h2'.1.2.1.trans ⟨hg.os,hg.tape,hg.output,hg.size,fun k hk=>hkb k (by simp;omega) (.inl (by omega))⟩ ah4,fun p hp=>?_⟩,by simp[h2.2.1],by simpa [gJ] using hrow,fun p t ht=>?_,?_⟩
 ·obtain⟨cs',hO,hc⟩:=h2'.1.2.2 p hp
  exact⟨cs',hkO hO,hc⟩
 ·by_cases hp:p<us.length
  ·rw[List.getElem?_append_left hp] at ht
   obtain⟨h1,cs',hO,hc⟩:=h2'.2.2.2.1 p t ht
   exact⟨h1,cs',hkO hO,hc⟩
  ·have hul:=h2.2.1
   rw[List.getElem?_append_right (by omega)] at ht
   have hpi:p=i:=by
    have:=(List.getElem?_eq_some_iff.1 ht).1
    simp at this;omega
   subst hpi
   rw[hul,Nat.sub_self] at ht
   simp at ht
   subst ht
   exact⟨rfl,cs,hkO ho',he⟩
 ·intro t ht k hk hkN g e
  rcases List.mem_append.1 ht with ht | ht
  ·exact h2.2.2.2.2 t ht k (by omega) hkN g e
  ·simp at ht
   subst ht
   intro e2
   exact hA k hkN (by omega) g e2 e
theorem gW.shape {S:aN}{B2:Nat}{w0 w:World}{i:Nat}{us:List (Option Addr×Nat×Nat)}{gv:Value}(h:gW S B2 w0 w i us gv):∃ a c,gv=.slice a i c:=by
 rcases h.2.2.1.2 with ⟨e,e0⟩ | ⟨g,cap,cur,e,_⟩
 ·exact⟨none,0,by rw[e,e0]⟩
 ·exact⟨_,cap,e⟩
theorem gW.byte {S:aN}{B2:Nat}{w0 w:World}{i:Nat}{us:List (Option Addr×Nat×Nat)}{gv:Value}(h:gW S B2 w0 w i us gv){k q:Nat}(hk:k<S.N)(hq:q<S.L k) :
  ∃ g,S.A k=some ⟨g,0,none⟩/\w.cell? ⟨g,q,none⟩=some (.int .i64 (imk ((S.off k+q:Nat):Int))):=by
 obtain⟨cs,ho,hc⟩:=h.1.2.2 k hk
 obtain⟨g,e,_,hcell,_⟩:=ho.cell hq
 rw[hc q hq (.inl hk)] at hcell
 exact⟨g,e,hcell⟩
theorem gW.grown {S:aN}{B2:Nat}{w0 w:World}{i c:Nat}{us:List (Option Addr×Nat×Nat)}{a:Option Addr}(h:gW S B2 w0 w i us (.slice a i c)){k:Nat}(hk:k<i) :
  ∃ gb ua uc,a=some ⟨gb,0,none⟩/\w.cell? ⟨gb,k,none⟩=some (.slice ua (S.L k+6) uc)/\∀ q,q<6->∃ g,ua=some ⟨g,0,none⟩/\w.cell? ⟨g,S.L k+q,none⟩=some (.int .i64 (jd S k q)):=by
 have hul:=h.2.1
 obtain⟨t,ht⟩:∃ t,us[k]?=some t:=⟨us[k],List.getElem?_eq_getElem (by omega)⟩
 obtain⟨h1,cs,ho,hc⟩:=h.2.2.2.1 k t ht
 rcases h.2.2.1.2 with ⟨e,e0⟩ | ⟨g,cap,cur,e,_,hh,_,_,_,htk⟩
 ·omega
 ·cases e
  refine⟨g,t.1,t.2.2,rfl,?_,fun q hq=>?_⟩
  ·have hx:(cur.toList.take (i*1))[k]?=some (gJ t):=by rw[htk,List.getElem?_map,ht];rfl
   rw[List.getElem?_take_of_lt (by omega)] at hx
   simp only[World.cell?,hh]
   rw[← h1]
   simpa [gJ] using hx
  ·obtain⟨g',e',_,hcell,_⟩:=ho.cell (j:=S.L k+q) (by omega)
   rw[hc q hq] at hcell
   exact⟨g',e',hcell⟩
theorem aiN:(Tryz.prog.info? 22).map (fun i=>(i.zero,i.size,i.bytes))=some (some (.slice none 0 0),1,24):=by kernel_rfl
theorem abm (N Lb:Nat)(S:aN)(hS:S.Good)(w:World)(hN:S.N=N)(hLb:S.Lb=Lb)(h0:mY S w w 0 0)(hB:S.B<=w.heap.size) :
  Calls Tryz.prog 23 #[.slice (some ⟨Lb,0,none⟩) N N] w fun e w'=>e=.returned (.bool true)/\BI S.B (TI S) w w':=by
 have HS:=hide hS
 have H0:=hide h0
 have hNb:N<=64:=by rw[← hN];exact hS.few
 have HN:=hide hN
 have HL:=hide hLb
 have HO0:=hide hS.ajY
 clear hS h0 hN hLb
 go_enter Tryz.func23,Tryz.ntmps23
 go_wp2
 go_loopw [3,4] (fun n i wr=>∃ p o:Nat,p<=N/\i=.int .i64 p/\n=.int .i64 o/\Hid (o=S.off p)/\Hid (mY S w wr p 0)) (fun _ i _=>N - (intOf i).toNat)
 case atStart=>exact⟨0,0,Nat.zero_le _,rfl,rfl,(ah HO0).symm,H0⟩
 case round =>
  obtain⟨p,o,hp,rfl,rfl,ho,hPh⟩:=hrel
  by_cases hlt:p<N
  ·have hSg:=ah HS
   obtain⟨A,hA⟩:∃ A,S.A p=A:=⟨_,rfl⟩
   obtain⟨L,hL⟩:∃ L,S.L p=L:=⟨_,rfl⟩
   obtain⟨C,hC⟩:∃ C,S.C p=C:=⟨_,rfl⟩
   have hob:=hSg.acQ p (by rw[ah HN];omega)
   rw[← ho.out] at hob
   have hLb:L<=17592186043904:=by rw[← hL];exact hSg.fit p (by rw[ah HN];exact hlt)
   have HA:=hide hA
   have HLL:=hide hL
   have HC:=hide hC
   clear hA hL hC hSg
   go_wp2
   go_loopw [3,5] (fun n j wr=>∃ q:Nat,q<=L/\j=.int .i64 q/\n=.int .i64 ((o+q:Nat):Int)/\Hid (mY S w wr p q)) (fun _ j _=>L - (intOf j).toNat)
   case atStart=>exact⟨0,Nat.zero_le _,rfl,rfl,hPh⟩
   case round =>
    obtain⟨q,hq,rfl,rfl,af8⟩:=hrel
    have hls:wr.cell? ⟨Lb,p,none⟩=some (.slice A L C):=by
     have:=(ah af8).ls (ah HS) (p:=p) (by rw[ah HN];exact hlt)
     rwa [ah HL,ah HA,ah HLL,ah HC] at this
    by_cases hlt2:q<L
    ·obtain⟨g,v,eA,hcell,hfr,akm⟩:=(ah af8).store (ah HS) (by rw[ah HN];exact hlt) (by rw[ah HLL];exact hlt2)
     rw[ah HA] at eA
     subst eA
     rw[← ho.out] at akm
     have ant:=hide akm
     clear akm
     have alf:(q:Int)<(L:Int):=by omega
     go_wp2
     exact⟨⟨q+1,by omega,by go_num,by go_num,(by have h:=ah ant;unfold imk at h;exact h)⟩,by simp[intOf];omega⟩
    ·obtain rfl:q=L:=by omega
     go_wp2
     exact⟨⟨p+1,o+q,by omega,by go_num,rfl,by show o+q=S.off (p+1);rw[(ah HS).aj1 p (by rw[ah HN];exact hlt),ah HLL,ho.out],by have h:=ah af8;rw[← ah HLL] at h;exact h.next⟩,by simp[intOf];omega⟩
  ·obtain rfl:p=N:=by omega
   have ah6:=ah hPh
   rw[← ah HN] at ah6
   have HPN:=hide ah6
   obtain⟨B2,hB2⟩:∃ B2,wr.heap.size=B2:=⟨_,rfl⟩
   have HB2:=hide hB2
   have H02:Hid (w.heap.size<=B2):=by rw[← hB2];exact ah6.2.1.1.size
   have HLt:Hid (S.Lb<B2/\S.B<=B2):=by
    refine⟨?_,?_⟩
    ·rw[← hB2];exact(Array.getElem?_eq_some_iff.1 ah6.1).1
    ·rw[← hB2];exact Nat.le_trans hB ah6.2.1.1.size
   have hob:=(ah HS).acQ p (by rw[ah HN];omega)
   rw[← ho.out] at hob
   obtain⟨i22,hi,hz0,hz1,hz2⟩:=info_parts aiN
   have HI:=hide (⟨hi,hz0,hz1,hz2⟩:Tryz.prog.info? 22=some i22/\i22.zero=some (.slice none 0 0)/\i22.size=1/\i22.bytes=24)
   have HST:Hid (gW S B2 w wr 0 [] (.slice none 0 0)):=gW.start ah6
   clear hi hz0 hz1 hz2 hB2 hPh ah6 HPN H0 hlt
   go_wp2
   go_loopw [6,7,8] (fun gr kk i wr=>∃ (m:Nat) (us:List (Option Addr×Nat×Nat)),m<=p/\i=.int .i64 m/\kk=.int .i64 ((o+6*m:Nat):Int)/\Hid (gW S B2 w wr m us gr)/\Hid (B2<=wr.heap.size)) (fun _ _ i _=>p - (intOf i).toNat)
   case atStart=>exact⟨0,[],Nat.zero_le _,rfl,rfl,HST,Nat.le_of_eq (ah HB2).symm⟩
   case round =>
    obtain⟨m,us,hm,rfl,rfl,af8,hsz⟩:=hrel
    clear HB2 HST
    by_cases hlt:m<p
    ·obtain⟨A,hA⟩:∃ A,S.A m=A:=⟨_,rfl⟩
     obtain⟨L,hL⟩:∃ L,S.L m=L:=⟨_,rfl⟩
     obtain⟨C,hC⟩:∃ C,S.C m=C:=⟨_,rfl⟩
     have hls:wr.cell? ⟨Lb,m,none⟩=some (.slice A L C):=by
      have:=(ah af8).1.ls (ah HS) (p:=m) (by rw[ah HN];exact hlt)
      rwa [ah HL,hA,hL,hC] at this
     have hLb:L<=17592186043904:=by rw[← hL];exact(ah HS).fit m (by rw[ah HN];exact hlt)
     have HLL:=hide hL
     have HI0:Hid (iZ S B2 w wr m us u6 A C 0):=by
      have:=iZ.start (ah HS) (ah af8) (by rw[ah HN];exact hlt)
      rwa [hA,hC] at this
     clear hA hL hC
     go_wp2
     go_loopw [7,9,10] (fun kk g j wr=>∃ (q:Nat) (ga:Option Addr) (gc:Nat),q<=6/\j=.int .i64 q/\kk=.int .i64 ((o+6*m+q:Nat):Int)/\g=.slice ga (L+q) gc/\Hid (iZ S B2 w wr m us u6 ga gc q)/\Hid (B2<=wr.heap.size)) (fun _ _ j _=>6 - (intOf j).toNat)
     case atStart=>exact⟨0,A,C,by omega,rfl,rfl,rfl,HI0,hsz⟩
     case round =>
      obtain⟨q,ga,gc,hq,rfl,rfl,rfl,hPi,hsz2⟩:=hrel
      by_cases hlt2:q<6
      ·have hzz:jd S m q=(o:Int)+6*(m:Int)+(q:Int):=by
        unfold jd imk
        rw[ah HN,← ho.out]
        omega
       obtain⟨a',c',w',hrun,alm,hsz3⟩:=(ah hPi).step (ah HS) (by rw[ah HN];exact hlt) hlt2 (Nat.le_trans (ah HLt).2 hsz2.out)
       rw[hzz,ah HLL] at hrun
       have HR:=hide hrun
       have HP':=hide alm
       have HZ3:Hid (B2<=w'.heap.size):=Nat.le_trans hsz2.out hsz3
       clear hrun alm hsz3 hzz
       go_wp2_with (at_builtin;refine wpList_append_run 22 rfl _ _ rfl _ _ _ rfl rfl (ah HR) ?_)
       exact⟨⟨q+1,a',c',by omega,by go_num,by go_num,rfl,HP',HZ3⟩,by simp[intOf];omega⟩
      ·obtain rfl:q=6:=by omega
       have hrw:=(ah hPi).1.2.2.1
       have HRW:Hid ((wr.alloc (.cells #[.slice ga (L+6) gc] 22)).ownsRow B2 22 1 u6 m (us.map gJ)):=hrw.alloc _
       have HNW:Hid (∀ (j:Nat) (u:Value),[Value.slice ga (L+6) gc][j]?=some u->(wr.alloc (.cells #[.slice ga (L+6) gc] 22)).cell? ((⟨wr.heap.size,0,none⟩:Addr).add j)=some u):=by
        intro j u hj
        cases j with
        | zero=>simp at hj;subst hj;rw[World.ay];exact(Boxed.new wr 22 _).cell
        | succ j=>simp at hj
       have HM:Hid (m+1<=maxLen/\(m+1)*24<=140737488355328):=⟨by unfold maxLen;omega,by omega⟩
       have HBs:Hid (B2<=(wr.alloc (.cells #[.slice ga (L+6) gc] 22)).heap.size):=Nat.le_trans hsz2.out (by simp)
       have HOC:Hid (∀ u∈[Value.slice ga (L+6) gc],u.oneCell'=true):=by intro u hu;simp at hu;subst hu;rfl
       clear hrw
       go_wp2_with (at_builtin;refine wpList_append_own _ rfl _ _ 57 rfl B2 22 i22 (.slice none 0 0) 1 24 Tryz.underlying57 (ah HI).1 (ah HI).2.1 (ah HI).2.2.1 (ah HI).2.2.2 rfl (by decide) u6 m (us.map gJ) rfl (ah HRW) ⟨wr.heap.size,0,none⟩ 1 1 [.slice ga (L+6) gc] rfl rfl (ah HNW) (ah HOC) (ah HM).1 (ah HM).2 (ah HBs) ?_;intro gv' w5 hrow hgrow _)
       refine⟨⟨m+1,us++[(ga,S.L m+6,gc)],by omega,by go_num,by go_num,?_,Nat.le_trans (ah HBs) hgrow.size⟩,by simp[intOf];omega⟩
       rw[← ah HLL] at hrow
       exact(ah hPi).done (ah HS) (by rw[ah HN];exact hlt) (Nat.le_trans (ah HLt).2 hsz2.out) (ah HLt).1 (ah HLt).2 (ah H02) _ hrow hgrow
    ·obtain rfl:m=p:=by omega
     obtain⟨gva,gvc,rfl⟩:=(ah af8).shape
     clear HLt HI hsz hlt
     go_wp2
     go_loopw [3,11] (fun n i wr=>∃ k oo:Nat,k<=m/\i=.int .i64 k/\n=.int .i64 oo/\Hid (oo=S.off k)/\Hid (gW S B2 w wr m us (.slice gva m gvc))) (fun _ i _=>m - (intOf i).toNat)
     case atStart=>exact⟨0,0,Nat.zero_le _,rfl,rfl,(ah HO0).symm,af8⟩
     case round =>
      obtain⟨k,oo,hk,rfl,rfl,hoo,hP3⟩:=hrel
      clear af8
      by_cases hlt:k<m
      ·obtain⟨A,hA⟩:∃ A,S.A k=A:=⟨_,rfl⟩
       obtain⟨L,hL⟩:∃ L,S.L k=L:=⟨_,rfl⟩
       obtain⟨C,hC⟩:∃ C,S.C k=C:=⟨_,rfl⟩
       have hLb:L<=17592186043904:=by rw[← hL];exact(ah HS).fit k (by rw[ah HN];exact hlt)
       have amv:=(ah HS).acQ k (by rw[ah HN];omega)
       rw[← hoo.out] at amv
       have HA:=hide hA
       have HLL:=hide hL
       have HC:=hide hC
       clear hA hL hC
       go_wp2
       go_loopw [3,12] (fun n j wr=>∃ q:Nat,q<=L/\j=.int .i64 q/\n=.int .i64 ((oo+q:Nat):Int)/\Hid (gW S B2 w wr m us (.slice gva m gvc))) (fun _ j _=>L - (intOf j).toNat)
       case atStart=>exact⟨0,Nat.zero_le _,rfl,rfl,hP3⟩
       case round =>
        obtain⟨q,hq,rfl,rfl,hP4⟩:=hrel
        clear hP3
        have hls:wr.cell? ⟨Lb,k,none⟩=some (.slice A L C):=by
         have:=(ah hP4).1.ls (ah HS) (p:=k) (by rw[ah HN];exact hlt)
         rwa [ah HL,ah HA,ah HLL,ah HC] at this
        by_cases hlt2:q<L
        ·obtain⟨g,eA,hcell⟩:=(ah hP4).byte (k:=k) (q:=q) (by rw[ah HN];exact hlt) (by rw[ah HLL];exact hlt2)
         rw[ah HA] at eA
         subst eA
         rw[← hoo.out,Int.natCast_add] at hcell
         unfold imk at hcell
         have alf:(q:Int)<(L:Int):=by omega
         have amz:(k:Int)<(m:Int):=by omega
         go_wp2
         exact⟨⟨q+1,by omega,by go_num,by go_num,hP4⟩,by simp[intOf];omega⟩
        ·obtain rfl:q=L:=by omega
         go_wp2
         exact⟨⟨k+1,oo+q,by omega,by go_num,rfl,by show oo+q=S.off (k+1);rw[(ah HS).aj1 k (by rw[ah HN];exact hlt),ah HLL,hoo.out],hP4⟩,by simp[intOf];omega⟩
      ·obtain rfl:k=m:=by omega
       have hoe:oo=o:=by rw[hoo.out,ho.out]
       subst hoe
       clear hoo hlt
       go_wp2
       go_loopw [3,13] (fun n i wr=>∃ m:Nat,m<=k/\i=.int .i64 m/\n=.int .i64 ((oo+6*m:Nat):Int)/\Hid (gW S B2 w wr k us (.slice gva k gvc))) (fun _ i _=>k - (intOf i).toNat)
       case atStart=>exact⟨0,Nat.zero_le _,rfl,rfl,hP3⟩
       case round =>
        obtain⟨m,hm4,rfl,rfl,hP5⟩:=hrel
        clear hP3
        by_cases hlt:m<k
        ·obtain⟨A,hA⟩:∃ A,S.A m=A:=⟨_,rfl⟩
         obtain⟨L,hL⟩:∃ L,S.L m=L:=⟨_,rfl⟩
         obtain⟨C,hC⟩:∃ C,S.C m=C:=⟨_,rfl⟩
         have hLb:L<=17592186043904:=by rw[← hL];exact(ah HS).fit m (by rw[ah HN];exact hlt)
         have hls:wr.cell? ⟨Lb,m,none⟩=some (.slice A L C):=by
          have:=(ah hP5).1.ls (ah HS) (p:=m) (by rw[ah HN];exact hlt)
          rwa [ah HL,hA,hL,hC] at this
         have HLL:=hide hL
         clear hA hL hC
         go_wp2
         go_loopw [3,14] (fun n j wr=>∃ q:Nat,q<=6/\j=.int .i64 ((L+q:Nat):Int)/\n=.int .i64 ((oo+6*m+q:Nat):Int)/\Hid (gW S B2 w wr k us (.slice gva k gvc))) (fun _ j _=>L+6 - (intOf j).toNat)
         case atStart=>exact⟨0,by omega,rfl,rfl,hP5⟩
         case round =>
          obtain⟨q,hq,rfl,rfl,hP6⟩:=hrel
          clear hP5 hls
          obtain⟨gb,ua,uc,e,hgc,hgx⟩:=(ah hP6).grown hlt
          subst e
          rw[ah HLL] at hgc
          have HGX:=hide hgx
          clear hgx
          have amz:(m:Int)<(k:Int):=by omega
          by_cases hlt2:q<6
          ·obtain⟨g,e2,hcell⟩:=ah HGX q hlt2
           subst e2
           have hext:jd S m q=(oo:Int)+6*(m:Int)+(q:Int):=by
            unfold jd imk
            rw[ah HN,← ho.out]
            omega
           rw[ah HLL,hext] at hcell
           clear hext HGX
           have alf:((L+q:Nat):Int)<((L+6:Nat):Int):=by omega
           go_wp2
           exact⟨⟨q+1,by omega,by go_num,by go_num,hP6⟩,by simp[intOf];omega⟩
          ·obtain rfl:q=6:=by omega
           clear HGX
           go_wp2
           exact⟨⟨m+1,by omega,by go_num,by go_num,hP6⟩,by simp[intOf];omega⟩
        ·obtain rfl:m=k:=by omega
         go_wp2
         go_ret
         exact⟨rfl,(ah hP5).1.2.1⟩
abbrev pO:=Option Addr×Nat×Nat
def dR (ts:List pO) (p:Nat):pO:=ts[p]?.getD (none,0,0)
def agy (ts:List pO):Nat->Nat
 | 0=>0
 | p+1=>agy ts p+(dR ts p).2.1
def gK (B Lb:Nat) (ts:List pO):aN :=
 { N:=ts.length,B:=B,Lb:=Lb,ca:=(ts.map gJ).toArray,A:=fun p=>(dR ts p).1,L:=fun p=>(dR ts p).2.1,C:=fun p=>(dR ts p).2.2,off:=agy ts }
def aar (t u:pO):Prop:=∀ g,t.1=some ⟨g,0,none⟩->u.1≠some ⟨g,0,none⟩
theorem ig {ts:List pO}{p:Nat}(h:p<ts.length):dR ts p=ts[p]:=by simp[dR,List.getElem?_eq_getElem h]
theorem sQ {B Lb:Nat}{ts:List pO}(h1:ts.length<=64)(h2:∀ t∈ts,t.2.1<=17592186043904)(h3:B<=Lb)(h4:ts.Pairwise aar):(gK B Lb ts).Good where
 few:=h1
 size:=by simp[gK]
 at':=fun p hp=>by
  have hp':p<ts.length:=hp
  simp[gK,dR,List.getElem?_eq_getElem hp',gJ]
 ajY:=rfl
 aj1:=fun p hp=>rfl
 fit:=fun p hp=>by
  have hp':p<ts.length:=hp
  show (dR ts p).2.1<=_
  rw[ig hp'];exact h2 _ (List.getElem_mem hp')
 base:=h3
 apart:=fun p p' hp hp' hne g e e'=>by
  have hq:p<ts.length:=hp
  have hq':p'<ts.length:=hp'
  have k1:(dR ts p).1=some ⟨g,0,none⟩:=e
  have k2:(dR ts p').1=some ⟨g,0,none⟩:=e'
  rw[ig hq] at k1
  rw[ig hq'] at k2
  rcases Nat.lt_or_ge p p' with hlt | hge
  ·exact List.pairwise_iff_getElem.1 h4 p p' hq hq' hlt g k1 k2
  ·exact List.pairwise_iff_getElem.1 h4 p' p hq' hq (by omega) g k2 k1
theorem vJ {B Lb:Nat}{ts:List pO}{w:World}(hL:w.heap[Lb]?=some (.cells (ts.map gJ).toArray 22))(ho:∀ t∈ts,∃ xs,dD B w t.1 t.2.1 t.2.2 xs):mY (gK B Lb ts) w w 0 0:=by
 refine⟨hL,BI.refl _ _ _,fun p hp=>?_⟩
 have hp':p<ts.length:=hp
 obtain⟨xs,hx⟩:=ho _ (List.getElem_mem hp')
 refine⟨xs,?_,fun q _ h=>by omega⟩
 show dD B w (dR ts p).1 (dR ts p).2.1 (dR ts p).2.2 xs
 rw[ig hp']
 exact hx
theorem yL (B Lb N:Nat)(ts:List pO)(w:World)(hN:ts.length=N)(h1:N<=64)(h2:∀ t∈ts,t.2.1<=17592186043904)(h3:B<=Lb)(h4:ts.Pairwise aar)(hL:w.heap[Lb]?=some (.cells (ts.map gJ).toArray 22))
  (ho:∀ t∈ts,∃ xs,dD B w t.1 t.2.1 t.2.2 xs) :
  Calls Tryz.prog 23 #[.slice (some ⟨Lb,0,none⟩) N N] w fun e w'=>e=.returned (.bool true)/\BI B (TI (gK B Lb ts)) w w' :=
 abm N Lb (gK B Lb ts) (sQ (by omega) h2 h3 h4) w hN rfl (vJ hL ho) (by
  have:=(Array.getElem?_eq_some_iff.1 hL).1
  show B<=_
  omega)
end Go.Proofs.YtbofhdfhhbgdgaaGreatDoor.FA
/- The table stays; rows of bytes. -/
namespace Go.Proofs.YtbofhdfhhbgdgaaGreatDoor
set_option maxRecDepth 100000
set_option maxHeartbeats 8000000
open Go.RowKit Go.Shelf
set_option linter.unusedVariables false
theorem fJ {w}(h:Tab w):0<w.heap.size:=by
 have h0:=h 0 (by omega)
 cases hb:w.heap[0]? with
 | none=>simp[World.cell?,hb] at h0
 | some o=>exact(Array.getElem?_eq_some_iff.1 hb).1
theorem Tab.below {n:Nat}{w w':World}(h:Tab w)(hb:Below n w w')(hn:0<n):Tab w':=fun k hk=>(hb.cell (p:=⟨0,k,none⟩) hn).trans (h k hk)
theorem Row.aex {n w a len cap zs}(h:Row n w a len cap zs):aes zs:=h.2.2.2.1
def num:List Int->Int
 | []=>0
 | c::r=>c+256*num r
def digits:Nat->Int->List Int
 | 0,_=>[]
 | k+1,v=>v%256::digits k (v / 256)
def aev (l:List Int):Int:=l.foldl (fun v c=>v*256+c) 0
theorem vK (l:List Int)(c:Int):aev (l++[c])=aev l*256+c:=by simp[aev]
theorem mF (l:List Int):aev l.reverse=num l:=by
 induction l with
 | nil=>rfl
 | cons c r ih=>rw[List.reverse_cons,vK,ih,num];omega
theorem qw (k:Nat):∀ v:Int,0<=v->v<256 ^ k->num (digits k v)=v:=by
 induction k with
 | zero=>intro v h1 h2;simp[digits,num] at *;omega
 | succ k ih =>
  intro v h1 h2
  have:v / 256<256 ^ k:=by rw[Int.pow_succ] at h2;omega
  rw[digits,num,ih _ (by omega) this];omega
theorem length_digits (k:Nat):∀ v,(digits k v).length=k:=by
 induction k with
 | zero=>intro v;rfl
 | succ k ih=>intro v;simp[digits,ih]
theorem jV (k:Nat):∀ v,∀ z∈digits k v,0<=z/\z<=255:=by
 induction k with
 | zero=>intro v z h;simp[digits] at h
 | succ k ih =>
  intro v z h
  rcases List.mem_cons.1 h with rfl | h
  ·omega
  ·exact ih _ _ h
theorem uO (l:List Int)(h:∀ z∈l,0<=z/\z<=255):0<=num l/\num l<256 ^ l.length:=by
 induction l with
 | nil=>simp[num]
 | cons c r ih =>
  have h1:=ih (fun z hz=>h z (by simp[hz]))
  have h2:=h c (by simp)
  simp only[num,List.length_cons,Int.pow_succ]
  omega
theorem abn (l:List Int)(h:∀ z∈l,0<=z/\z<=255):0<=aev l/\aev l<256 ^ l.length:=by
 have:=uO l.reverse (by simpa using h)
 rw[← mF,List.reverse_reverse,List.length_reverse] at this
 exact this
theorem yx (x c:Nat)(hc:c<256):x*256 ||| c=x*256+c:=nat_join 8 (x*256) c (by omega) (by omega)
theorem ahd (v c:Int)(h1:0<=v)(h2:v<16777216)(h3:0<=c)(h4:c<=255):bits .or .i64 (v*256) c=v*256+c:=by
 obtain⟨x,rfl⟩:=Int.eq_ofNat_of_zero_le h1
 obtain⟨y,rfl⟩:=Int.eq_ofNat_of_zero_le h3
 have e1:(BitVec.ofInt 64 ((x:Int)*256)).toNat=x*256:=by
  have:((x:Int)*256)=((x*256:Nat):Int):=by omega
  rw[this];exact ofInt_u64 _ (by omega)
 have e2:(BitVec.ofInt 64 (y:Int)).toNat=y:=ofInt_u64 _ (by omega)
 have e3:x*256 ||| y=x*256+y:=yx x y (by omega)
 show IntKind.i64.wrap ((BitVec.ofInt 64 ((x:Int)*256) ||| BitVec.ofInt 64 (y:Int)).toNat:Int)=_
 rw[BitVec.toNat_or,e1,e2,e3];simp only[IntKind.wrap,IntKind.bits,IntKind.signed];simp
 omega
theorem acE (a:Option Addr)(len cap:Nat)(zs:List Int)(w:World)(hr:Row w.heap.size w a len cap zs) :
  Calls Tryz.prog 240 #[.slice a len cap] w fun e w'=>e=.returned (.slice (some ⟨w.heap.size,0,none⟩) len len)/\Block w' w.heap.size zs/\Below w.heap.size w w':=by
 obtain⟨hlen,hlc,hcm,hby,hcell⟩:=hr
 have hmk:=run_make_row' (P:=Tryz.prog) 62 5 (.int .u8 0) 1 Tryz.underlying62 info5 rfl .i64 .i64 len (by omega) (by omega)
 have hb0:Below w.heap.size w (w.alloc (.cells (madeCells #[.int .u8 0] len) 5)):=(Below.refl _ w).alloc (Nat.le_refl _) _
 have hsrc:0<len->∃ ad,a=some ad/\∀ (j:Nat) v,(zs.map (Value.int .u8))[j]?=some v->(w.alloc (.cells (madeCells #[.int .u8 0] len) 5)).cell? (ad.add j)=some v:=by
  intro hp
  obtain⟨b,off,rfl,hb,hc⟩:=hcell hp
  refine⟨_,rfl,fun j v hv=>?_⟩
  rw[World.ay,hb0.cell (p:=⟨b,off+j,none⟩) hb]
  have hj:j<zs.length:=by
   have:=(List.getElem?_eq_some_iff.1 hv).1
   simpa using this
  rw[hc j (by omega)]
  rw[List.getElem?_map,List.getElem?_eq_getElem hj] at hv
  rw[List.getElem?_eq_getElem hj]
  simpa using hv
 have hg:(w.alloc (.cells (madeCells #[.int .u8 0] len) 5)).heap[w.heap.size]?=some (.cells (List.replicate len (Value.int .u8 0)).toArray 5):=by
  rw[World.alloc_heap_new,← toList_madeCells_one,Array.toArray_toList]
 obtain⟨w2,hcp,hg2,hb2⟩:∃ w2,(∀ ty,(Builtin.copy_ #[62,62] ty #[.slice (some ⟨w.heap.size,0,none⟩) len len,.slice a len cap]).run Tryz.prog (w.alloc (.cells (madeCells #[.int .u8 0] len) 5))=.ok (goInt len) w2)/\Block w2 w.heap.size zs/\Below w.heap.size w w2:=by
  by_cases h0:len=0
  ·subst h0
   have hz:zs=[]:=List.eq_nil_of_length_eq_zero hlen
   subst hz
   exact⟨_,fun ty=>run_copy_none _ 62 62 ty 5 _ _ _ _ _ _ Tryz.underlying62 rG rfl,hg,hb0⟩
  ·obtain⟨ad,rfl,hs⟩:=hsrc (by omega)
   refine⟨_,fun ty=>?_,?_,below_setRow hb0 (Nat.le_refl _) (zs.map (Value.int .u8)).toArray⟩
   ·have h:=run_copy_row (P:=Tryz.prog) (w.alloc (.cells (madeCells #[.int .u8 0] len) 5)) 62 62 ty 5 w.heap.size 0 len len ad len cap _ 5 (zs.map (Value.int .u8)) Tryz.underlying62 rG hg (by rw[List.length_map,hlen];exact(Nat.min_self _).symm) hs (by simp[hlen]) (dA zs)
    have e:(List.take 0 (List.replicate len (Value.int .u8 0)).toArray.toList++zs.map (Value.int .u8)++List.drop (0+(zs.map (Value.int .u8)).length) (List.replicate len (Value.int .u8 0)).toArray.toList)=zs.map (Value.int .u8):=by
     simp[hlen]
    rw[e,List.length_map,hlen] at h
    exact h
   ·exact setRow_heap _ _ _ _ 5 _ hg
 clear hg hsrc hcell
 go_enter Tryz.func240,Tryz.ntmps240
 go_wp2
 go_ret
 exact⟨rfl,hg2,hb2⟩
theorem aeP (a:Option Addr)(len cap:Nat)(zs:List Int)(w:World)(n:Nat)(hn:w.heap.size=n)(hr:Row w.heap.size w a len cap zs) :
  Calls Tryz.prog 240 #[.slice a len cap] w fun e w'=>e=.returned (.slice (some ⟨n,0,none⟩) len len)/\Hid (Block w' n zs)/\Below n w w':=by
 subst hn;exact acE a len cap zs w hr
end Go.Proofs.YtbofhdfhhbgdgaaGreatDoor
