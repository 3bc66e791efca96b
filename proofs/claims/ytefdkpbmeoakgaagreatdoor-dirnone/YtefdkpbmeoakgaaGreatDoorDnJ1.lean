/- Joined: GBase, DCopy, Fol, GApart, GApp, GCheck, GI, CFit, CLay, GInts, GApartI, GMore, GNum, GRenew, GSeek, GText. -/
import Derived.Test.YtefdkpbmeoakgaaGreatDoorRows
import Derived.WalkKit
import Derived.WalkSpells
import Derived.WalkLawsBesides
import Derived.RangeFuncBox
import Derived.Shelf.Abstract
import Derived.Laws.CopyOwn
import Derived.Deep.OwnRows
import Derived.Laws.BytesArg
import Derived.Laws.BitsAllLaws
import Derived.ArgAppend
import Derived.Deep.RegionWith
import Derived.Deep.QuietTactic
import Derived.BigQuiet
import Derived.Lib.BufferWrite
import Derived.Test.YtefdkpbmeoakgaaGreatDoorDnJ0
/- Words and laws on slices of bytes, of no function of the program. -/
namespace Go.Proofs.YtefdkpbmeoakgaaGreatDoor
set_option maxRecDepth 100000
set_option maxHeartbeats 8000000
open Go.RowKit Go.Shelf
set_option linter.unusedVariables false
abbrev zC (b:Nat) (t:TypeId):Obj:=.cells #[.pointer (some ⟨b,0,none⟩)] t
abbrev zI (z:Int):Obj:=.cells #[.int .i64 z] 3
abbrev zB (q:Bool):Obj:=.cells #[.bool q] 4
theorem hide {p:Prop}(h:p):Hid p:=h
theorem ah {p:Prop}(h:Hid p):p:=h
theorem dY {k:IntKind}{a b:Int}(h:a=b):Ending.returned (.int k a)=.returned (.int k b):=by rw[h]
theorem lX {k k':IntKind}{a b c d:Int}(h:a=b)(h':c=d):Ending.returned (.tuple #[.int k a,.int k' c])=.returned (.tuple #[.int k b,.int k' d]):=by rw[h,h']
theorem yQ {sv:Value}{c d:Int}(h':c=d):Ending.returned (.tuple #[sv,.int .i64 c])=.returned (.tuple #[sv,.int .i64 d]):=by rw[h']
theorem kP {a b:Bool}(h:a=b):Ending.returned (.bool a)=.returned (.bool b):=by rw[h]
theorem aho {s s':ByteArray}{c d:Int}(h:s=s')(h':c=d):Ending.returned (.tuple #[.string s,.int .i64 c])=.returned (.tuple #[.string s',.int .i64 d]):=by rw[h,h']
theorem aat {s s':Bool}{c d:Int}(h:s=s')(h':c=d):Ending.returned (.tuple #[.bool s,.int .i64 c])=.returned (.tuple #[.bool s',.int .i64 d]):=by rw[h,h']
theorem agV {k:IntKind}{a b:Int}(h:a=b):Value.int k a=Value.int k b:=by rw[h]
theorem info5:(Tryz.prog.info? 5).map (fun i=>(i.zero,i.size,i.bytes))=some (some (.int .u8 0),1,1):=by kernel_rfl
theorem qI:(Tryz.prog.info? 5).map (·.size)=some 1:=by kernel_rfl
theorem cu (zs:List Int):∀ v∈zs.map (Value.int .u8),v.oneCell'=true:=by
 intro v hv
 simp only[List.mem_map] at hv
 obtain⟨z,_,rfl⟩:=hv
 rfl
theorem World.aF (b off j:Nat):(⟨b,off,none⟩:Addr).add j=⟨b,off+j,none⟩:=by unfold Addr.add;split<;>simp_all
def put (zs:List Int) (at':Nat) (ds:List Int):List Int:=zs.take at'++ds++zs.drop (at'+ds.length)
theorem ab8 (zs:List Int)(at':Nat)(ds:List Int)(h:at'+ds.length<=zs.length):(put zs at' ds).length=zs.length:=by
 simp[put];omega
theorem adh (zs:List Int)(at':Nat)(ds:List Int)(i:Nat)(h:at'+ds.length<=zs.length)(hi:i<at'\/at'+ds.length<=i):(put zs at' ds)[i]?=zs[i]?:=by
 have h1:(zs.take at').length=at':=by simp;omega
 rw[put]
 rcases hi with hi | hi
 ·rw[List.append_assoc,List.getElem?_append_left (by omega),List.getElem?_take_of_lt hi]
 ·rw[List.getElem?_append_right (by simp;omega),List.getElem?_drop]
  congr 1
  simp;omega
theorem afw (zs:List Int)(at':Nat)(ds:List Int)(h1:∀ z∈zs,0<=z/\z<=255)(h2:∀ z∈ds,0<=z/\z<=255):∀ z∈put zs at' ds,0<=z/\z<=255:=by
 intro z hz
 simp only[put,List.mem_append] at hz
 rcases hz with (hz | hz) | hz
 ·exact h1 z (List.mem_of_mem_take hz)
 ·exact h2 z hz
 ·exact h1 z (List.mem_of_mem_drop hz)
def Row (n0:Nat) (w:World) (a:Option Addr) (len cap:Nat) (zs:List Int):Prop :=
 zs.length=len/\len<=cap/\(len<=140737488351232/\cap<=9223372036854775807)/\(∀ z∈zs,0<=z/\z<=255) /\
 (0<len->∃ b off,a=some ⟨b,off,none⟩/\b<n0/\∀ j,j<len->w.cell? ⟨b,off+j,none⟩=some (.int .u8 (zs[j]?.getD 0)))
theorem Row.below {n0}{w w':World}{a len cap zs}(h:Row n0 w a len cap zs)(hb:Below n0 w w'){n1:Nat}(hn:n0<=n1):Row n1 w' a len cap zs:=by
 obtain⟨h1,h2,h3,h4,h5⟩:=h
 refine⟨h1,h2,h3,h4,fun hp=>?_⟩
 obtain⟨b,off,e,hlt,hc⟩:=h5 hp
 exact⟨b,off,e,by omega,fun j hj=>(hb.cell (p:=⟨b,off+j,none⟩) hlt).trans (hc j hj)⟩
theorem Row.alloc {w a len cap zs}(h:Row w.heap.size w a len cap zs)(o:Obj):Row (w.alloc o).heap.size (w.alloc o) a len cap zs :=
 h.below ((Below.refl _ w).alloc (Nat.le_refl _) o) (by simp)
def Block (w:World) (g:Nat) (zs:List Int):Prop:=w.heap[g]?=some (.cells (zs.map (Value.int .u8)).toArray 5)
theorem pV {W W':World}{row:Option Nat}{k:Nat}{c:Array Value}{t:TypeId}{fr:Nat×Nat}(hs:W.heap[k]?=some (.cells c t fr))(hg:W.grownBy W' row)(hr:∀ r,row=some r->∃ o:Obj,W.heap[r]?=some o/\o.isCells=false):W'.heap[k]?=some (.cells c t fr):=by
 have hlt:k<W.heap.size:=(Array.getElem?_eq_some_iff.1 hs).1
 rw[hg.block k hlt (fun e=>?_)]
 ·exact hs
 ·obtain⟨o,h1,h2⟩:=hr k e.symm
  rw[hs] at h1
  cases h1
  simp[Obj.isCells] at h2
theorem uK {W:World}{k:Nat}{v:Value}{t:TypeId}(h:W.heap[k]?=some (.cells #[v] t)):W.cell? ⟨k,0,none⟩=some v:=by simp[World.cell?,h]
theorem Block.cell {W g zs}(h:Block W g zs){i:Nat}(hi:i<zs.length):W.cell? ⟨g,i,none⟩=some (.int .u8 (zs[i]?.getD 0)):=by
 unfold Block at h
 simp[World.cell?,h,hi]
theorem Block.free {W g zs}(h:Block W g zs)(i:Nat):W.frozen? ⟨g,i,none⟩=false:=by
 unfold Block at h
 simp[World.frozen?,h]
theorem Block.set {W g zs}(h:Block W g zs)(i:Nat)(z:Int):Block (W.setCell ⟨g,i,none⟩ (.int .u8 z)) g (zs.set i z):=by
 unfold Block at *
 have hlt:g<W.heap.size:=(Array.getElem?_eq_some_iff.1 h).1
 rw[setCell_eq_setRow W g i _ 5 (0,0) _ h,setRow_heap W g _ _ 5 _ h]
 simp[List.map_set]
theorem Block.lt {W g zs}(h:Block W g zs):g<W.heap.size:=(Array.getElem?_eq_some_iff.1 h).1
theorem Block.below {W W':World}{g n:Nat}{zs}(h:Block W g zs)(hb:Below n W W')(hg:g<n):Block W' g zs:=(hb.block g hg).trans h
theorem Block.row {w g zs}(h:Block w g zs){len:Nat}(hl:zs.length=len)(hc:len<=140737488351232)(hby:∀ z∈zs,0<=z/\z<=255):Row w.heap.size w (some ⟨g,0,none⟩) len len zs :=
 ⟨hl,Nat.le_refl _,⟨hc,by omega⟩,hby,fun _=>⟨g,0,rfl,h.lt,fun j hj=>by rw[Nat.zero_add];exact h.cell (by omega)⟩⟩
def Has (w:World) (a:Option Addr) (len:Nat) (zs:List Int):Prop :=
 zs.length=len/\(0<len->∃ b off,a=some ⟨b,off,none⟩/\∀ j,j<len->w.cell? ⟨b,off+j,none⟩=some (.int .u8 (zs[j]?.getD 0)))
theorem Row.has {n0 w a len cap zs}(h:Row n0 w a len cap zs):Has w a len zs :=
 ⟨h.1,fun hp=>by obtain⟨b,off,e,_,hc⟩:=h.2.2.2.2 hp;exact⟨b,off,e,hc⟩⟩
theorem Block.has {w g zs}(h:Block w g zs){len:Nat}(hl:zs.length=len):Has w (some ⟨g,0,none⟩) len zs :=
 ⟨hl,fun _=>⟨g,0,rfl,fun j hj=>by rw[Nat.zero_add];exact h.cell (by omega)⟩⟩
theorem Has.conv {w a len zs}(h:Has w a len zs)(cap:Nat):(convert 71 9 (.slice a len cap)).run Tryz.prog w=.ok (.string (strOfNums zs)) w:=by
 by_cases h0:len=0
 ·subst h0
  have hz:zs=[]:=List.eq_nil_of_length_eq_zero h.1
  subst hz
  rw[run_convert_bytes_string w 71 9 5 _ 0 cap Tryz.underlying71 Tryz.underlying5 Tryz.underlying9]
  cases a<;>simp[Conv.bytesToString,loadCells]
  all_goals rfl
 ·obtain⟨b,off,rfl,hc⟩:=h.2 (by omega)
  exact run_convert_bytes_arg w 71 5 Tryz.underlying71 Tryz.underlying5 b off len cap zs h.1 (fun i hi=>by rw[hc i hi];simp) 9 Tryz.underlying9
def ai4 (w:World) (g len:Nat) (zs:List Int):Prop:=zs.length=len/\∃ cur,w.heap[g]?=some (.cells cur 5)/\cur.toList.take len=zs.map (Value.int .u8)
theorem ai4.lt {w g len zs}(h:ai4 w g len zs):g<w.heap.size:=by obtain⟨_,cur,hg,_⟩:=h;exact(Array.getElem?_eq_some_iff.1 hg).1
theorem ai4.cell {w g len zs}(h:ai4 w g len zs){i:Nat}(hi:i<len):w.cell? ⟨g,i,none⟩=some (.int .u8 (zs[i]?.getD 0)):=by
 obtain⟨hl,cur,hg,ht⟩:=h
 have h1:(cur.toList.take len)[i]?=some (.int .u8 (zs[i]?.getD 0)):=by
  rw[ht,List.getElem?_map,List.getElem?_eq_getElem (by omega)];rfl
 rw[List.getElem?_take_of_lt hi] at h1
 simp only[World.cell?,hg]
 simpa using h1
theorem ai4.has {w g len zs}(h:ai4 w g len zs):Has w (some ⟨g,0,none⟩) len zs :=
 ⟨h.1,fun _=>⟨g,0,rfl,fun j hj=>by rw[Nat.zero_add];exact h.cell hj⟩⟩
theorem wpList_append_run {w w':World}{ops:Array Oper}{rest:List Oper}{o:Oper}{a:Act}{Q:Exit->Act->World->Prop}(t:TypeId)(hgd:o.guard=none)(d s:Operand)
  (ho:o.op=.call { callee:=.builtin .append,args:=#[d,s],argTypes:=#[t,t] }) (v x v':Value) (hd:a.eval d=v) (hs:a.eval s=x)
  (hrun:∀ ty,(Builtin.append_ #[t,t] ty #[v,x]).run Tryz.prog w=.ok v' w')
  (h:wpList Tryz.prog ops Q rest (a.put o.dst v') w'):wpList Tryz.prog ops Q (o::rest) a w:=by
 refine wpList_plain hgd fun K hK=>?_
 have hr:=hrun o.type
 unfold Oper.wp
 simp[execOp,ho,resolve,invoke,builtin,hd,hs,hr,Result.andThen]
 exact hK _ _ h
def cutAt (a:Option Addr) (cap l:Nat):Option Addr:=if cap=l then a else a.map (·.add (l*1))
theorem Has.cut {w a len zs}(h:Has w a len zs){cap l k:Nat}(hc:len<=cap)(hl:l+k<=len):Has w (cutAt a cap l) k ((zs.drop l).take k):=by
 refine⟨by simp[h.1];omega,fun hp=>?_⟩
 obtain⟨b,off,rfl,hcs⟩:=h.2 (by omega)
 refine⟨b,off+l,?_,fun j hj=>?_⟩
 ·unfold cutAt
  rw[if_neg (by omega),Option.map_some,Nat.mul_one,World.aF]
 ·rw[Nat.add_assoc,hcs (l+j) (by omega),List.getElem?_take_of_lt hj,List.getElem?_drop]
theorem sizeOf5 (w:World):(sizeOf (Tryz.prog.elem 71)).run Tryz.prog w=.ok 1 w:=by kernel_rfl
theorem aeh:Tryz.prog.underlying 71=some (.slice (Tryz.prog.elem 71)):=by kernel_rfl
theorem iH (a:Option Addr)(len cap l k:Nat)(h:l+k<=cap)(w:World) :
  (Instr.slice 71 (.slice a len cap) (some (.int .i64 (l:Int))) (some (.int .i64 ((l:Int)+(k:Int)))) none).run Tryz.prog w=.ok (.slice (cutAt a cap l) k (cap - l)) w:=by
 rw[run_slice_lh (P:=Tryz.prog) (w:=w) 71 a len cap aeh .i64 .i64 l (l+k) (by omega) (by omega) (by omega),sizeOf5]
 simp only[Result.andThen,sliced]
 have e1:(l:Int).toNat=l:=by omega
 have e2:((l:Int)+(k:Int)).toNat=l+k:=by omega
 rw[e1,e2]
 simp[cutAt,Nat.add_sub_cancel_left]
theorem jq (a:Option Addr)(len cap l:Nat)(h:l<=len)(w:World) :
  (Instr.slice 71 (.slice a len cap) (some (.int .i64 (l:Int))) none none).run Tryz.prog w=.ok (.slice (cutAt a cap l) (len - l) (cap - l)) w:=by
 rw[run_slice_l (P:=Tryz.prog) (w:=w) 71 a len cap aeh .i64 l (by omega) (by omega),sizeOf5]
 simp only[Result.andThen,sliced]
 have e1:(l:Int).toNat=l:=by omega
 rw[e1]
 simp[cutAt]
theorem acU (a:Option Addr)(len cap k:Nat)(h:k<=cap)(w:World) :
  (Instr.slice 71 (.slice a len cap) none (some (.int .i64 (k:Int))) none).run Tryz.prog w=.ok (.slice (cutAt a cap 0) k cap) w:=by
 rw[run_slice_h (P:=Tryz.prog) (w:=w) 71 a len cap aeh .i64 k (by omega) (by omega),sizeOf5]
 simp only[Result.andThen,sliced]
 have e1:(k:Int).toNat=k:=by omega
 rw[e1]
 simp[cutAt]
theorem ajK {w a len zs}(h:Has w a len zs){cap l k:Nat}(hc:len<=cap)(hl:l+k<=len) :
  ∃ a1 c1,(∀ w,(Instr.slice 71 (.slice a len cap) (some (.int .i64 (l:Int))) (some (.int .i64 ((l:Int)+(k:Int)))) none).run Tryz.prog w=.ok (.slice a1 k c1) w)/\k<=c1/\Has w a1 k ((zs.drop l).take k) :=
 ⟨_,_,fun w=>iH a len cap l k (by omega) w,by omega,h.cut hc hl⟩
theorem akC {w a len zs}(h:Has w a len zs){cap l:Nat}(hc:len<=cap)(hl:l<=len) :
  ∃ a1 c1,(∀ w,(Instr.slice 71 (.slice a len cap) (some (.int .i64 (l:Int))) none none).run Tryz.prog w=.ok (.slice a1 (len - l) c1) w)/\len - l<=c1/\Has w a1 (len - l) (zs.drop l):=by
 refine⟨_,_,fun w=>jq a len cap l hl w,by omega,?_⟩
 have:=h.cut hc (l:=l) (k:=len - l) (by omega)
 rwa [List.take_of_length_le (by simp[h.1])] at this
theorem akD {w a len zs}(h:Has w a len zs){cap k:Nat}(hc:len<=cap)(hk:k<=len) :
  ∃ a1 c1,(∀ w,(Instr.slice 71 (.slice a len cap) none (some (.int .i64 (k:Int))) none).run Tryz.prog w=.ok (.slice a1 k c1) w)/\k<=c1/\Has w a1 k (zs.take k):=by
 refine⟨_,_,fun w=>acU a len cap k (by omega) w,by omega,?_⟩
 have:=h.cut hc (l:=0) (k:=k) (by omega)
 simpa using this
def Own (B:Nat) (w:World) (a:Option Addr) (n c:Nat) (xs:List Int):Prop :=
 xs.length=n/\n<=c/\c<=maxLen/\((a=none/\n=0/\c=0)\/∃ g cur,a=some ⟨g,0,none⟩/\B<=g/\w.heap[g]?=some (.cells cur 5)/\cur.size=c/\cur.toList.take n=xs.map (Value.int .u8))
theorem Own.kept {B}{w w':World}{a n c xs}(h:Own B w a n c xs)(hk:∀ g,a=some ⟨g,0,none⟩->w'.heap[g]?=w.heap[g]?):Own B w' a n c xs:=by
 obtain⟨h1,h2,h3,h4⟩:=h
 refine⟨h1,h2,h3,?_⟩
 rcases h4 with h4 | ⟨g,cur,e,hg,hh,r⟩
 ·exact .inl h4
 ·exact .inr ⟨g,cur,e,hg,(hk g e).trans hh,r⟩
theorem Own.cell {B w a n c xs}(h:Own B w a n c xs){j:Nat}(hj:j<n):∃ g,a=some ⟨g,0,none⟩/\B<=g/\w.cell? ⟨g,j,none⟩=some (.int .u8 (xs[j]?.getD 0))/\w.frozen? ⟨g,j,none⟩=false:=by
 obtain⟨h1,h2,h3,h4⟩:=h
 rcases h4 with ⟨_,h4,_⟩ | ⟨g,cur,e,hg,hh,hc,ht⟩
 ·omega
 ·refine⟨g,e,hg,?_,by simp[World.frozen?,hh]⟩
  have hx:(cur.toList.take n)[j]?=some (.int .u8 (xs[j]?.getD 0)):=by
   rw[ht,List.getElem?_map,List.getElem?_eq_getElem (by omega)];rfl
  rw[List.getElem?_take_of_lt hj] at hx
  simp only[World.cell?,hh]
  simpa using hx
theorem Own.lt {B w a n c xs}(h:Own B w a n c xs){g:Nat}(e:a=some ⟨g,0,none⟩):g<w.heap.size/\B<=g/\∃ cur,w.heap[g]?=some (.cells cur 5):=by
 obtain⟨_,_,_,h4⟩:=h
 rcases h4 with ⟨h4,_⟩ | ⟨g',cur,e',hg,hh,_⟩
 ·rw[h4] at e;cases e
 ·rw[e] at e';cases e'
  exact⟨(Array.getElem?_eq_some_iff.1 hh).1,hg,cur,hh⟩
theorem uf {w w':World}{B e size n:Nat}{v:Value}{xs:List Value}(h:w.ownsRow B e size v n xs)(hk:∀ g cur,B<=g->w.heap[g]?=some (.cells cur e (0,0))->w'.heap[g]?=w.heap[g]?):w'.ownsRow B e size v n xs:=by
 obtain⟨h1,h2⟩:=h
 refine⟨h1,?_⟩
 rcases h2 with h2 | ⟨g,cap,cur,rfl,hb,hh,r⟩
 ·exact .inl h2
 ·exact .inr ⟨g,cap,cur,rfl,hb,(hk g cur hb hh).trans hh,r⟩
theorem Own.below {B n:Nat}{w w':World}{a l c xs}(h:Own B w a l c xs)(hb:Below n w w')(hn:w.heap.size<=n):Own B w' a l c xs :=
 h.kept (fun g e=>hb.block g (by have:=(h.lt e).1;omega))
theorem Own.base {B B':Nat}{w a l c xs}(h:Own B w a l c xs)(hb:B'<=B):Own B' w a l c xs:=by
 obtain⟨h1,h2,h3,h4⟩:=h
 refine⟨h1,h2,h3,?_⟩
 rcases h4 with h4 | ⟨g,cur,e,hg,r⟩
 ·exact .inl h4
 ·exact .inr ⟨g,cur,e,by omega,r⟩
def iF (s:ByteArray):List Int:=s.data.toList.map (fun b=>(b.toNat:Int))
theorem bsize (s:ByteArray):s.data.toList.length=s.size:=rfl
theorem jd (s:ByteArray):(iF s).length=s.size:=by rw[iF,List.length_map,bsize]
theorem xP (s:ByteArray):∀ z∈iF s,0<=z/\z<=255:=by
 intro z hz
 simp only[iF,List.mem_map] at hz
 obtain⟨b,_,rfl⟩:=hz
 have:=b.toNat_lt
 omega
theorem agp (s:ByteArray)(k:Nat)(h:k<s.size):(iF s)[k]?.getD 0=(s[k].toNat:Int):=by
 have h':k<s.data.toList.length:=by rw[bsize];exact h
 simp only[iF,List.getElem?_map,List.getElem?_eq_getElem h',Option.map_some,Option.getD_some]
 rfl
theorem aO {w:World}{x:Addr}{v:Value}(h:w.cell? x=some v):x.block<w.heap.size:=by
 cases hb:w.heap[x.block]? with
 | none=>simp[World.cell?,hb] at h
 | some o=>exact(Array.getElem?_eq_some_iff.1 hb).1
theorem mO (a:Option Addr)(len cap:Nat)(zs:List Int)(w:World)(hr:Row w.heap.size w a len cap zs) :
  Calls Tryz.prog 115 #[.slice a len cap] w fun e w'=>e=.returned (.slice (some ⟨w.heap.size,0,none⟩) len len)/\Block w' w.heap.size zs/\Below w.heap.size w w':=by
 obtain⟨hlen,hlc,hcm,hby,hcell⟩:=hr
 have hmk:=run_make_row' (P:=Tryz.prog) 71 5 (.int .u8 0) 1 Tryz.underlying71 info5 rfl .i64 .i64 len (by omega) (by omega)
 have hb0:Below w.heap.size w (w.alloc (.cells (madeCells #[.int .u8 0] len) 5)):=(Below.refl _ w).alloc (Nat.le_refl _) _
 have hsrc:0<len->∃ ad,a=some ad/\∀ (j:Nat) v,(zs.map (Value.int .u8))[j]?=some v->(w.alloc (.cells (madeCells #[.int .u8 0] len) 5)).cell? (ad.add j)=some v:=by
  intro hp
  obtain⟨b,off,rfl,hb,hc⟩:=hcell hp
  refine⟨_,rfl,fun j v hv=>?_⟩
  rw[World.aF,hb0.cell (p:=⟨b,off+j,none⟩) hb]
  have hj:j<zs.length:=by
   have:=(List.getElem?_eq_some_iff.1 hv).1
   simpa using this
  rw[hc j (by omega)]
  rw[List.getElem?_map,List.getElem?_eq_getElem hj] at hv
  rw[List.getElem?_eq_getElem hj]
  simpa using hv
 have hg:(w.alloc (.cells (madeCells #[.int .u8 0] len) 5)).heap[w.heap.size]?=some (.cells (List.replicate len (Value.int .u8 0)).toArray 5):=by
  rw[World.alloc_heap_new,← toList_madeCells_one,Array.toArray_toList]
 obtain⟨w2,hcp,hg2,hb2⟩:∃ w2,(∀ ty,(Builtin.copy_ #[71,71] ty #[.slice (some ⟨w.heap.size,0,none⟩) len len,.slice a len cap]).run Tryz.prog (w.alloc (.cells (madeCells #[.int .u8 0] len) 5))=.ok (goInt len) w2)/\Block w2 w.heap.size zs/\Below w.heap.size w w2:=by
  by_cases h0:len=0
  ·subst h0
   have hz:zs=[]:=List.eq_nil_of_length_eq_zero hlen
   subst hz
   exact⟨_,fun ty=>run_copy_none _ 71 71 ty 5 _ _ _ _ _ _ Tryz.underlying71 qI rfl,hg,hb0⟩
  ·obtain⟨ad,rfl,hs⟩:=hsrc (by omega)
   refine⟨_,fun ty=>?_,?_,below_setRow hb0 (Nat.le_refl _) (zs.map (Value.int .u8)).toArray⟩
   ·have h:=run_copy_row (P:=Tryz.prog) (w.alloc (.cells (madeCells #[.int .u8 0] len) 5)) 71 71 ty 5 w.heap.size 0 len len ad len cap _ 5 (zs.map (Value.int .u8)) Tryz.underlying71 qI hg (by rw[List.length_map,hlen];exact(Nat.min_self _).symm) hs (by simp[hlen]) (cu zs)
    have e:(List.take 0 (List.replicate len (Value.int .u8 0)).toArray.toList++zs.map (Value.int .u8)++List.drop (0+(zs.map (Value.int .u8)).length) (List.replicate len (Value.int .u8 0)).toArray.toList)=zs.map (Value.int .u8):=by
     simp[hlen]
    rw[e,List.length_map,hlen] at h
    exact h
   ·exact setRow_heap _ _ _ _ 5 _ hg
 clear hg hsrc hcell
 go_enter Tryz.func115,Tryz.ntmps115
 go_wp2
 go_ret
 exact⟨rfl,hg2,hb2⟩
def Tab (w:World):Prop:=∀ k,k<16->w.cell? ⟨1,k,none⟩=some (.int .u32 ((tab k:Nat):Int))
theorem look (w:World)(hT:Tab w)(X:Nat)(hX:X<4294967296):∃ r t Y:Nat,r<16/\w.cell? ⟨1,r,none⟩=some (.int .u32 (t:Int))/\bits .and .u32 (X:Int) 15=(r:Int)/\bits .xor .u32 ((X:Int) / 16) (t:Int)=(Y:Int)/\Y<4294967296/\Hid (Y=st4 X):=by
 refine⟨X%16,tab (X%16),st4 X,by omega,hT _ (by omega),?_,?_,acJ hX,rfl⟩
 ·have:=u32_and_nat X 15 hX (by omega)
  rw[nat_mask4] at this
  exact this
 ·rw[afb]
  have:=u32_xor_nat (X / 16) (tab (X%16)) (by omega) (aiK _)
  rw[← this]
  congr 1
theorem zQ (b off len cap:Nat)(zs:List Int)(s:Nat)(w:World)(hs:s<4294967296)(hT:Tab w)(hlen:zs.length=len)(hl:len<=140737488355328)(hby:aeH zs)
  (hcs:∀ j,j<len->w.cell? ⟨b,off+j,none⟩=some (.int .u8 (zs[j]?.getD 0))) :
  Calls Tryz.prog 192 #[.int .u32 (s:Int),.slice (some ⟨b,off,none⟩) len cap] w fun e w'=>e=.returned (.int .u32 ((agw s zs:Nat):Int))/\w=w':=by
 obtain⟨c0,hc0,hs1,hx0⟩:∃ c0:Nat,Hid (s ^^^ 4294967295=c0)/\c0<4294967296/\bits .xor .u32 (s:Int) 4294967295=(c0:Int):=⟨_,rfl,rF hs (by omega),u32_xor_nat s 4294967295 hs (by omega)⟩
 have HE:Hid (agw s zs=fol c0 zs ^^^ 4294967295):=by unfold agw;rw[hc0.out];rfl
 have HT:=hide hT
 have HB:=hide hby
 have HC:=hide hcs
 clear hc0 hT hby hcs
 go_enter Tryz.func192,Tryz.ntmps192
 go_wp2
 go_loop [5,12] (fun c i=>∃ k:Nat,k<=len/\i=.int .i64 (k:Int)/\c=.int .u32 ((fol c0 (zs.take k):Nat):Int)) (fun _ i=>len - (intOf i).toNat)
 case atStart=>exact⟨0,Nat.zero_le _,rfl,rfl⟩
 case round =>
  obtain⟨k,hk,rfl,rfl⟩:=hrel
  have hC:fol c0 (zs.take k)<4294967296:=agL (fun z hz=>HB.out z (List.mem_of_mem_take hz)) hs1
  by_cases hlt:k<len
  ·have hz:=HB.out (zs[k]?.getD 0) (by rw[List.getElem?_eq_getElem (by omega)];exact List.getElem_mem _)
   have HS:=hide (afW c0 zs k (by omega))
   have hck:=HC.out k hlt
   generalize fol c0 (zs.take k)=C at *
   generalize zs[k]?.getD 0=xi at *
   obtain⟨x,rfl⟩:=Int.eq_ofNat_of_zero_le hz.1
   have hx1:(x:Int)%4294967296=x:=by omega
   obtain⟨X,hXe,hX,h1⟩:∃ X:Nat,Hid (X=C ^^^ x)/\X<4294967296/\bits .xor .u32 (C:Int) (x:Int)=(X:Int):=⟨_,rfl,rF hC (by omega),u32_xor_nat C x hC (by omega)⟩
   obtain⟨r,t,Y,hr,ht,h2,h3,hY,hYe⟩:=look w HT.out X hX
   obtain⟨r',t',Z,hr',ht',h2',h3',hZ,hZe⟩:=look w HT.out Y hY
   have HF:Hid (fol c0 (zs.take (k+1))=Z):=by
    show _=_
    rw[HS.out,hZe.out,hYe.out,hXe.out]
    rfl
   clear hXe hYe hZe HS
   go_wp2
   exact⟨⟨k+1,by omega,by go_num,by rw[HF.out]⟩,by simp[intOf];omega⟩
  ·have hX:=u32_xor_nat (fol c0 (zs.take k)) 4294967295 hC (by omega)
   have HX:=hide hX
   obtain rfl:k=len:=by omega
   clear hX
   go_wp2
   go_ret
   refine⟨?_,rfl⟩
   rw[HE.out]
   refine dY ?_
   have HX':=HX.out
   have e:zs.take k=zs:=List.take_of_length_le (by omega)
   rw[e] at HX' ⊢
   exact HX'
theorem zS (a:Option Addr)(cap:Nat)(s:Nat)(w:World)(hs:s<4294967296) :
  Calls Tryz.prog 192 #[.int .u32 (s:Int),.slice a 0 cap] w fun e w'=>e=.returned (.int .u32 ((agw s []:Nat):Int))/\w=w':=by
 obtain⟨c0,hc0,hs1,hx0⟩:∃ c0:Nat,Hid (s ^^^ 4294967295=c0)/\c0<4294967296/\bits .xor .u32 (s:Int) 4294967295=(c0:Int):=⟨_,rfl,rF hs (by omega),u32_xor_nat s 4294967295 hs (by omega)⟩
 have HE:Hid (agw s []=c0 ^^^ 4294967295):=by unfold agw;rw[hc0.out];rfl
 have hX:=u32_xor_nat c0 4294967295 hs1 (by omega)
 have HX:=hide hX
 clear hc0 hX
 go_enter Tryz.func192,Tryz.ntmps192
 go_wp2
 go_loop [5,12] (fun c i=>i=.int .i64 0/\c=.int .u32 (c0:Int)) (fun _ i=>0 - (intOf i).toNat)
 case atStart=>exact⟨rfl,rfl⟩
 case round =>
  obtain⟨rfl,rfl⟩:=hrel
  go_wp2
  go_ret
  refine⟨?_,rfl⟩
  rw[HE.out]
  exact dY HX.out
theorem abN (a:Option Addr)(len cap:Nat)(zs:List Int)(s:Nat)(w:World)(hs:s<4294967296)(hT:Tab w)(hh:Has w a len zs)(hl:len<=140737488355328)(hby:aeH zs) :
  Calls Tryz.prog 192 #[.int .u32 (s:Int),.slice a len cap] w fun e w'=>e=.returned (.int .u32 ((agw s zs:Nat):Int))/\w=w':=by
 by_cases h0:len=0
 ·subst h0
  obtain rfl:zs=[]:=List.eq_nil_of_length_eq_zero hh.1
  exact zS a cap s w hs
 ·obtain⟨b,off,rfl,hc⟩:=hh.2 (by omega)
  exact zQ b off len cap zs s w hs hT hh.1 hl hby hc
theorem sum_any (a:Option Addr)(len cap:Nat)(zs:List Int)(w:World)(hT:Tab w)(hh:Has w a len zs)(hl:len<=140737488355328)(hby:aeH zs) :
  Calls Tryz.prog 155 #[.slice a len cap] w fun e w'=>e=.returned (.int .i64 ((acH zs:Nat):Int))/\w=w':=by
 have hlt:=acG hby
 have K:Hid (Calls Tryz.prog 192 #[.int .u32 0,.slice a len cap] w fun e w'=>e=.returned (.int .u32 ((acH zs:Nat):Int))/\w=w'):=by
  have:=abN a len cap zs 0 w (by omega) hT hh hl hby
  rw[aeA] at this
  exact this
 generalize acH zs=S at *
 clear hT hh hby
 go_enter Tryz.func155,Tryz.ntmps155
 go_wp2_with (go_at_call 192;refine(ah K).mono ?_;rintro e w' ⟨rfl,rfl⟩)
 go_ret
 exact⟨dY (by first | rfl | omega),rfl⟩
def mk (n:Int):Int:=(n*7+n / 36+3)%256
structure Lists where
 N:Nat
 B:Nat
 Lb:Nat
 ca:Array Value
 A:Nat->Option Addr
 L:Nat->Nat
 C:Nat->Nat
 off:Nat->Nat
def ext (S:Lists) (p q:Nat):Int:=mk ((S.off S.N+6*p+q:Nat):Int)
theorem Own.owns {B w a n c xs}(h:Own B w a n c xs):w.ownsRow B 5 1 (.slice a n c) n (xs.map (Value.int .u8)):=by
 obtain⟨h1,h2,h3,h4⟩:=h
 refine⟨by simp[h1],?_⟩
 rcases h4 with ⟨rfl,rfl,rfl⟩ | ⟨g,cur,rfl,hg,hh,hc,ht⟩
 ·exact .inl ⟨rfl,rfl⟩
 ·exact .inr ⟨g,c,cur,rfl,hg,hh,h2,h3,by simpa using hc,by simpa using ht⟩
theorem Own.ahx {B:Nat}{w:World}{v:Value}{n:Nat}{xs:List Int}(h:w.ownsRow B 5 1 v n (xs.map (Value.int .u8))):∃ a c,v=.slice a n c/\Own B w a n c xs:=by
 obtain⟨h1,h2⟩:=h
 have hl:xs.length=n:=by simpa using h1
 rcases h2 with ⟨rfl,rfl⟩ | ⟨g,cap,cur,rfl,hg,hh,h2,h3,hc,ht⟩
 ·exact⟨none,0,rfl,hl,Nat.le_refl _,by unfold maxLen;omega,.inl ⟨rfl,rfl,rfl⟩⟩
 ·exact⟨_,cap,rfl,hl,h2,h3,.inr ⟨g,cur,rfl,hg,hh,by simpa using hc,by simpa using ht⟩⟩
theorem Own.has {B w a n c xs}(h:Own B w a n c xs):Has w a n xs:=by
 refine⟨h.1,fun hp=>?_⟩
 obtain⟨g,e,_,_,_⟩:=h.cell (j:=0) hp
 refine⟨g,0,e,fun j hj=>?_⟩
 obtain⟨g',e',_,hc,_⟩:=h.cell hj
 rw[e] at e'
 cases e'
 rw[Nat.zero_add]
 exact hc
theorem run_append_nothing (w:World)(ty:TypeId)(a a2:Option Addr)(n c c2:Nat)(hn:n<=c)(ha:a=none->n=0/\c=0):(Builtin.append_ #[71,71] ty #[.slice a n c,.slice a2 0 c2]).run Tryz.prog w=.ok (.slice a n c) w:=by
 obtain⟨i0,hi,hz0,hz1,hz2⟩:=info_parts info5
 cases a with
 | none =>
  obtain⟨rfl,rfl⟩:=ha rfl
  cases a2<;>simp[Builtin.append_,run_underlying Tryz.underlying71,sizeOf,typeInfo,hi,Builtin.lenOf,Builtin.firstCells,loadCells,loadCellsFrom]
 | some x=>cases a2<;>simp[Builtin.append_,run_underlying Tryz.underlying71,sizeOf,typeInfo,hi,Builtin.lenOf,Builtin.firstCells,storeCells,loadCells,loadCellsFrom,hn]
theorem jg {B w a n c xs}(h:Own B w a n c xs)(hB:B<=w.heap.size){a2:Option Addr}{m:Nat}{ys:List Int}(c2:Nat)(h2:Has w a2 m ys)(hn:n+m<=140737488355328) :
  ∃ a' c' w',(∀ ty,(Builtin.append_ #[71,71] ty #[.slice a n c,.slice a2 m c2]).run Tryz.prog w=.ok (.slice a' (n+m) c') w')/\Own B w' a' (n+m) c' (xs++ys) /\
   (∀ k,k<w.heap.size->(∀ g,a=some ⟨g,0,none⟩->k≠g)->w'.heap[k]?=w.heap[k]?)/\Below B w w':=by
 obtain⟨i0,hi,hz0,hz1,hz2⟩:=info_parts info5
 by_cases h0:m=0
 ·subst h0
  obtain rfl:ys=[]:=List.eq_nil_of_length_eq_zero h2.1
  refine⟨a,c,w,fun ty=>run_append_nothing w ty a a2 n c c2 h.2.1 (fun e=>?_),by rw[List.append_nil];exact h,fun _ _ _=>rfl,Below.refl _ _⟩
  rcases h.2.2.2 with ⟨_,e1,e2⟩ | ⟨g,_,e',_⟩
  ·exact⟨e1,e2⟩
  ·rw[e] at e';cases e'
 ·obtain⟨b,off,rfl,hc⟩:=h2.2 (by omega)
  have hl:=h2.1
  have hnews:∀ (j:Nat) (u:Value),(ys.map (Value.int .u8))[j]?=some u->w.cell? ((⟨b,off,none⟩:Addr).add j)=some u:=by
   intro j u hj
   have hjl:j<m:=by have:=(List.getElem?_eq_some_iff.1 hj).1;simp at this;omega
   rw[World.aF,hc j hjl]
   rw[List.getElem?_map,List.getElem?_eq_getElem (by omega)] at hj
   rw[List.getElem?_eq_getElem (by omega)]
   simpa using hj
  have hmax:n+m<=maxLen:=by unfold maxLen;omega
  obtain⟨v',w',hr,ho,hg,_⟩:=run_append_own (P:=Tryz.prog) w B 71 0 5 i0 (.int .u8 0) 1 1 Tryz.underlying71 hi hz0 hz1 hz2 rfl (by decide) (.slice a n c) n _ h.owns ⟨b,off,none⟩ m c2 (ys.map (Value.int .u8)) (by simp[hl]) hnews (cu ys) hmax (by omega) hB
  rw[← List.map_append] at ho
  obtain⟨a',c',rfl,ho'⟩:=Own.ahx ho
  refine⟨a',c',w',fun ty=>hr,ho',fun k hk hne=>?_,?_⟩
  ·refine hg.block k hk (fun e=>?_)
   rcases h.2.2.2 with ⟨ha,_,_⟩ | ⟨g,_,ha,_⟩
   ·rw[ha] at e;simp[Value.ownBlock] at e
   ·rw[ha] at e
    simp[Value.ownBlock] at e
    exact hne g ha e
  ·refine(Below.refl B w).grown hg hB (fun k e=>?_)
   rcases h.2.2.2 with ⟨ha,_,_⟩ | ⟨g,_,ha,hgB,_⟩
   ·rw[ha] at e;simp[Value.ownBlock] at e
   ·rw[ha] at e
    simp[Value.ownBlock] at e
    omega
def aY (len:Nat) (at' n:Int):Int:=if n<0 then 1 else if at'<0 then 2 else if (len:Int) - at'<n then 2 else 0
def dO (len:Nat) (at' n:Int):Int:=if n=1 then aY len at' n else if n=2 then aY len at' n else if n=4 then aY len at' n else 1
theorem oQ {len:Nat}{at' n:Int}(h:n<0):aY len at' n=1:=by unfold aY;rw[if_pos h]
theorem jX {len:Nat}{at' n:Int}(h:0<=n)(h2:at'<0):aY len at' n=2:=by unfold aY;rw[if_neg (by omega),if_pos h2]
theorem jY {len:Nat}{at' n:Int}(h:0<=n)(h2:0<=at')(h3:(len:Int) - at'<n):aY len at' n=2:=by unfold aY;rw[if_neg (by omega),if_neg (by omega),if_pos h3]
theorem dA {len:Nat}{at' n:Int}(h:0<=n)(h2:0<=at')(h3:n<=(len:Int) - at'):aY len at' n=0:=by unfold aY;rw[if_neg (by omega),if_neg (by omega),if_neg (by omega)]
theorem eG (a:Option Addr)(len cap:Nat)(at' n:Int)(w:World)(hl:len<=maxLen)(ha:at'<=9223372036854775807)(hn:-9223372036854775808<=n) :
  Calls Tryz.prog 196 #[.slice a len cap,.int .i64 at',.int .i64 n] w fun e w'=>e=.returned (.int .i64 (aY len at' n))/\w=w':=by
 unfold maxLen at hl
 by_cases h1:n<0
 ·rw[oQ h1]
  go_enter Tryz.func196,Tryz.ntmps196
  go_wp2
  go_ret
  exact⟨rfl,rfl⟩
 by_cases h2:at'<0
 ·rw[jX (by omega) h2]
  go_enter Tryz.func196,Tryz.ntmps196
  go_wp2
  go_ret
  exact⟨rfl,rfl⟩
 by_cases h3:(len:Int) - at'<n
 ·rw[jY (by omega) (by omega) h3]
  go_enter Tryz.func196,Tryz.ntmps196
  go_wp2
  go_ret
  exact⟨rfl,rfl⟩
 ·rw[dA (by omega) (by omega) (by omega)]
  go_enter Tryz.func196,Tryz.ntmps196
  go_wp2
  go_ret
  exact⟨rfl,rfl⟩
theorem bU (a:Option Addr)(len cap:Nat)(at' n:Int)(w:World)(hl:len<=maxLen)(ha:at'<=9223372036854775807) :
  Calls Tryz.prog 165 #[.slice a len cap,.int .i64 at',.int .i64 n] w fun e w'=>e=.returned (.int .i64 (dO len at' n))/\w=w':=by
 unfold dO
 by_cases h1:n=1
 ·subst h1
  rw[if_pos rfl]
  go_enter Tryz.func165,Tryz.ntmps165
  go_wp2_with (go_at_call 196;refine(eG _ _ _ _ _ _ hl ha (by omega)).mono ?_;rintro e w' ⟨rfl,rfl⟩)
  go_ret
  exact⟨rfl,rfl⟩
 by_cases h2:n=2
 ·subst h2
  rw[if_neg (by omega),if_pos rfl]
  go_enter Tryz.func165,Tryz.ntmps165
  go_wp2_with (go_at_call 196;refine(eG _ _ _ _ _ _ hl ha (by omega)).mono ?_;rintro e w' ⟨rfl,rfl⟩)
  go_ret
  exact⟨rfl,rfl⟩
 by_cases h4:n=4
 ·subst h4
  rw[if_neg (by omega),if_neg (by omega),if_pos rfl]
  go_enter Tryz.func165,Tryz.ntmps165
  go_wp2_with (go_at_call 196;refine(eG _ _ _ _ _ _ hl ha (by omega)).mono ?_;rintro e w' ⟨rfl,rfl⟩)
  go_ret
  exact⟨rfl,rfl⟩
 ·rw[if_neg h1,if_neg h2,if_neg h4]
  have e1:(n==1)=false:=by simpa using h1
  have e2:(n==2)=false:=by simpa using h2
  have e4:(n==4)=false:=by simpa using h4
  go_enter Tryz.func165,Tryz.ntmps165
  go_wp2_with fail
  go_ret
  exact⟨rfl,rfl⟩
theorem tY (len:Nat)(at' n:Int):(n<0/\aY len at' n=1)\/(0<=n/\at'<0/\aY len at' n=2)\/(0<=n/\0<=at'/\(len:Int) - at'<n/\aY len at' n=2)\/(0<=n/\0<=at'/\n<=(len:Int) - at'/\aY len at' n=0):=by
 by_cases h1:n<0
 ·exact .inl ⟨h1,oQ h1⟩
 by_cases h2:at'<0
 ·exact .inr (.inl ⟨by omega,h2,jX (by omega) h2⟩)
 by_cases h3:(len:Int) - at'<n
 ·exact .inr (.inr (.inl ⟨by omega,by omega,h3,jY (by omega) (by omega) h3⟩))
 ·exact .inr (.inr (.inr ⟨by omega,by omega,by omega,dA (by omega) (by omega) (by omega)⟩))
theorem xI (a:Option Addr)(len cap at0 n0:Nat)(w:World)(hl:len<=140737488351232)(hat:at0+n0<=len) :
  Calls Tryz.prog 196 #[.slice a len cap,.int .i64 (at0:Int),.int .i64 (n0:Int)] w fun e w'=>e=.returned (.int .i64 0)/\w=w':=by
 refine(eG a len cap at0 n0 w (by unfold maxLen;omega) (by omega) (by omega)).mono ?_
 rintro e w' ⟨rfl,rfl⟩
 exact⟨dY (dA (by omega) (by omega) (by omega)),rfl⟩
theorem ahu {len}{at' n:Int}(h:aY len at' n=0):∃ at0 n0:Nat,at'=at0/\n=n0/\at0+n0<=len:=by
 rcases tY len at' n with g | g | g | g
 ·omega
 ·omega
 ·omega
 ·exact⟨at'.toNat,n.toNat,by omega,by omega,by omega⟩
theorem ny (len:Nat)(at' n:Int):dO len at' n=1\/dO len at' n=2\/(dO len at' n=0/\∃ at0 wd:Nat,at'=at0/\n=wd/\(wd=1\/wd=2\/wd=4)/\at0+wd<=len):=by
 have hp:∀ n:Int,n=1\/n=2\/n=4->aY len at' n=2\/(aY len at' n=0/\∃ at0 wd:Nat,at'=at0/\n=wd/\(wd=1\/wd=2\/wd=4)/\at0+wd<=len):=by
  intro n hn
  by_cases h2:at'<0
  ·exact .inl (jX (by omega) h2)
  by_cases h3:(len:Int) - at'<n
  ·exact .inl (jY (by omega) (by omega) h3)
  ·exact .inr ⟨dA (by omega) (by omega) (by omega),at'.toNat,n.toNat,by omega,by omega,by omega,by omega⟩
 unfold dO
 by_cases h1:n=1
 ·rw[if_pos h1];exact .inr (hp n (.inl h1))
 rw[if_neg h1]
 by_cases h2:n=2
 ·rw[if_pos h2];exact .inr (hp n (.inr (.inl h2)))
 rw[if_neg h2]
 by_cases h4:n=4
 ·rw[if_pos h4];exact .inr (hp n (.inr (.inr h4)))
 rw[if_neg h4];exact .inl rfl
theorem kV {len at0 wd:Nat}(hw:wd=1\/wd=2\/wd=4)(hat:at0+wd<=len):dO len (at0:Int) (wd:Int)=0:=by
 unfold dO
 rcases hw with rfl | rfl | rfl
 ·rw[if_pos (by omega)];exact dA (by omega) (by omega) (by omega)
 ·rw[if_neg (by omega),if_pos (by omega)];exact dA (by omega) (by omega) (by omega)
 ·rw[if_neg (by omega),if_neg (by omega),if_pos (by omega)];exact dA (by omega) (by omega) (by omega)
def jh (w:World) (a:Option Addr) (len:Nat) (ns:List Int):Prop :=
 ns.length=len/\(0<len->∃ b off,a=some ⟨b,off,none⟩/\∀ j,j<len->w.cell? ⟨b,off+j,none⟩=some (.int .i64 (ns[j]?.getD 0)))
theorem jh.lt {w a len zs}(h:jh w a len zs){b off:Nat}(hp:0<len)(e:a=some ⟨b,off,none⟩):b<w.heap.size:=by
 obtain⟨b',off',e',hc⟩:=h.2 hp
 rw[e] at e'
 cases e'
 exact aO (hc 0 hp)
theorem jh.later {w w':World}{a len zs}(h:jh w a len zs)(hb:Below w.heap.size w w'):jh w' a len zs:=by
 refine⟨h.1,fun hp=>?_⟩
 obtain⟨b,off,e,hc⟩:=h.2 hp
 exact⟨b,off,e,fun j hj=>(hb.cell (p:=⟨b,off+j,none⟩) (h.lt hp e)).trans (hc j hj)⟩
def iD (wd:Nat) (ns:List Int):Bool:=ns.all (fun v=>decide (0<=v/\v<256 ^ wd))
theorem dR {wd:Nat}{ns:List Int}:iD wd ns=true↔∀ v∈ns,0<=v/\v<256 ^ wd:=by simp[iD]
theorem agf {wd:Nat}{ns:List Int}{k:Nat}(hk:k<ns.length)(h:ns[k]?.getD 0<0\/256 ^ wd<=ns[k]?.getD 0):iD wd ns=false:=by
 rw[List.getElem?_eq_getElem hk,Option.getD_some] at h
 cases hf:iD wd ns with
 | false=>rfl
 | true =>
  have:=dR.1 hf _ (List.getElem_mem hk)
  omega
theorem aea {wd:Nat}{ns:List Int}(h:∀ j,j<ns.length->0<=ns[j]?.getD 0/\ns[j]?.getD 0<256 ^ wd):iD wd ns=true:=by
 refine dR.2 fun v hv=>?_
 obtain⟨j,hj,rfl⟩:=List.getElem_of_mem hv
 have:=h j hj
 rwa [List.getElem?_eq_getElem hj,Option.getD_some] at this
theorem uG (wd:Nat)(hw:wd=2\/wd=4)(a:Option Addr)(len cap:Nat)(ns:List Int)(w:World)(h:jh w a len ns)(hl:len<=140737488351232) :
  Calls Tryz.prog 80 #[.int .i64 (wd:Int),.slice a len cap] w fun e w'=>e=.returned (.bool (iD wd ns))/\w=w':=by
 have H:=hide h
 have hlen:=h.1
 clear h
 have hpos:(0:Int)<256 ^ wd:=Int.pow_pos (by omega)
 have hp2:(2:Int) ^ (8*wd)=256 ^ wd:=by rw[Int.pow_mul];rfl
 go_enter Tryz.func80,Tryz.ntmps80
 go_wp2
 go_loop [9] (fun i=>∃ k:Nat,k<=len/\i=.int .i64 (k:Int)/\Hid (∀ j,j<k->0<=ns[j]?.getD 0/\ns[j]?.getD 0<256 ^ wd)) (fun i=>len - (intOf i).toNat)
 case atStart=>exact⟨0,Nat.zero_le _,rfl,fun j hj=>by omega⟩
 case round =>
  obtain⟨k,hk,rfl,hj⟩:=hrel
  by_cases hlt:k<len
  ·obtain⟨b,off,rfl,hc⟩:=H.out.2 (by omega)
   have hck:=hc k hlt
   have aeE:=hide (@agf wd ns k (by omega))
   have HJ:Hid (0<=ns[k]?.getD 0/\ns[k]?.getD 0<256 ^ wd->∀ j,j<k+1->0<=ns[j]?.getD 0/\ns[j]?.getD 0<256 ^ wd):=by
    intro h j hjk
    by_cases he:j=k
    ·subst he;exact h
    ·exact hj.out j (by omega)
   generalize ns[k]?.getD 0=z at *
   clear hc
   by_cases h1:z<0
   ·have HN:Hid (iD wd ns=false):=aeE.out (.inl h1)
    have hd:decide (z<0)=true:=by simpa using h1
    clear aeE HJ
    go_wp2
    go_ret
    exact⟨by rw[HN.out];rfl,rfl⟩
   ·have hd:decide (z<0)=false:=by simpa using h1
    by_cases h2:256 ^ wd<=z
    ·have HN:Hid (iD wd ns=false):=aeE.out (.inr h2)
     have hq:(z / 2 ^ (8*wd) != 0)=true:=by
      have:1<=z / 256 ^ wd:=(Int.le_ediv_iff_mul_le hpos).2 (by omega)
      rw[hp2];simp;omega
     clear aeE HJ hj h2 hpos hp2
     go_wp2
     go_ret
     exact⟨by rw[HN.out];rfl,rfl⟩
    ·have HJ':Hid (∀ j,j<k+1->0<=ns[j]?.getD 0/\ns[j]?.getD 0<256 ^ wd):=HJ.out ⟨by omega,by omega⟩
     have hq:(z / 2 ^ (8*wd) != 0)=false:=by
      have:z / 256 ^ wd=0:=Int.ediv_eq_zero_of_lt (by omega) (by omega)
      rw[hp2,this];rfl
     clear aeE HJ hj h2 hpos hp2
     go_wp2
     exact⟨⟨k+1,by omega,by go_num,HJ'⟩,by simp[intOf];omega⟩
  ·obtain rfl:k=len:=by omega
   have HN:Hid (iD wd ns=true):=aea (fun j hj'=>hj.out j (by omega))
   go_wp2
   go_ret
   exact⟨by rw[HN.out];rfl,rfl⟩
theorem oW (w:World)(n:Nat):Block (w.alloc (.cells (madeCells #[.int .u8 0] n) 5)) w.heap.size (List.replicate n 0):=by
 show (w.alloc _).heap[w.heap.size]?=_
 rw[World.alloc_heap_new,List.map_replicate,← toList_madeCells_one,Array.toArray_toList]
theorem ait {w}{g size at0:Nat}{xs}(hB:Block w g xs)(hx:xs.length=size){a2:Option Addr}{n:Nat}{ys:List Int}(h:Has w a2 n ys)(c2:Nat)(hfit:at0+n<=size) :
  ∃ w2,(∀ ty,(Builtin.copy_ #[71,71] ty #[.slice (cutAt (some ⟨g,0,none⟩) size at0) (size - at0) (size - at0),.slice a2 n c2]).run Tryz.prog w=.ok (goInt n) w2)/\Block w2 g (put xs at0 ys)/\∀ B,B<=g->Below B w w2:=by
 have hlen:=h.1
 by_cases h0:n=0
 ·subst h0
  obtain rfl:ys=[]:=List.eq_nil_of_length_eq_zero hlen
  refine⟨w,fun ty=>run_copy_none _ 71 71 ty 5 _ _ _ _ _ _ Tryz.underlying71 qI (Nat.min_eq_left (Nat.zero_le _)),?_,fun B _=>Below.refl _ _⟩
  have:put xs at0 []=xs:=by simp[put]
  rw[this];exact hB
 ·obtain⟨b,off,rfl,hc⟩:=h.2 (by omega)
  have hcut:cutAt (some ⟨g,0,none⟩) size at0=some ⟨g,at0,none⟩:=by
   unfold cutAt
   rw[if_neg (by omega),Option.map_some,Nat.mul_one,World.aF,Nat.zero_add]
  have hs:∀ (j:Nat) v,(ys.map (Value.int .u8))[j]?=some v->w.cell? ((⟨b,off,none⟩:Addr).add j)=some v:=by
   intro j v hv
   have hj:j<ys.length:=by
    have:=(List.getElem?_eq_some_iff.1 hv).1
    simpa using this
   rw[World.aF,hc j (by omega)]
   rw[List.getElem?_map,List.getElem?_eq_getElem hj] at hv
   rw[List.getElem?_eq_getElem hj]
   simpa using hv
  have hm:(ys.map (Value.int .u8)).length=Nat.min n (size - at0):=by rw[List.length_map,hlen];exact(Nat.min_eq_left (by omega)).symm
  have hp:((xs.map (Value.int .u8)).take at0++ys.map (Value.int .u8)++(xs.map (Value.int .u8)).drop (at0+(ys.map (Value.int .u8)).length))=(put xs at0 ys).map (Value.int .u8):=by
   simp[put,List.map_take,List.map_drop]
  refine⟨w.setRow g ((put xs at0 ys).map (Value.int .u8)).toArray,fun ty=>?_,setRow_heap w g _ _ 5 _ hB,fun B hBg=>below_setRow (Below.refl _ _) hBg _⟩
  have hr:=run_copy_row (P:=Tryz.prog) w 71 71 ty 5 g at0 (size - at0) (size - at0) ⟨b,off,none⟩ n c2 _ 5 (ys.map (Value.int .u8)) Tryz.underlying71 qI hB hm hs (by simp[hlen,hx];omega) (cu ys)
  rw[List.toList_toArray,hp,List.length_map,hlen] at hr
  rw[hcut]
  exact hr
def aZ (size:Nat) (L:List Int):List Int:=L++List.replicate (size - L.length) 0
theorem dH {size:Nat}{L:List Int}(h:L.length<=size):(aZ size L).length=size:=by simp[aZ];omega
theorem afH (size:Nat)(L z:List Int)(h:L.length+z.length<=size):put (aZ size L) L.length z=aZ size (L++z):=by
 simp only[put,aZ,List.take_left,List.length_append]
 have e1:(L++List.replicate (size - L.length) 0).drop (L.length+z.length)=List.replicate (size - (L.length+z.length)) (0:Int):=by
  rw[List.drop_append,List.drop_of_length_le (by omega),List.nil_append,List.drop_replicate]
  congr 1;omega
 rw[e1]
theorem pJ (size:Nat)(L:List Int)(h:∀ z∈L,0<=z/\z<=255):∀ z∈aZ size L,0<=z/\z<=255:=by
 intro z hz
 rcases List.mem_append.1 hz with hz | hz
 ·exact h z hz
 ·simp at hz;omega
abbrev Prt:=Option Addr×Nat×Nat×List Int
abbrev pv (p:Prt):Value:=.slice p.1 p.2.1 p.2.2.1
def agz (w:World) (a:Option Addr) (n:Nat) (ps:List Prt):Prop :=
 ps.length=n/\(0<n->∃ b off,a=some ⟨b,off,none⟩/\b<w.heap.size/\∀ j,(hj:j<ps.length)->w.cell? ⟨b,off+j,none⟩=some (pv ps[j]))/\∀ p∈ps,Has w p.1 p.2.1 p.2.2.2
theorem Has.lt {w a len zs}(h:Has w a len zs){b off:Nat}(hp:0<len)(e:a=some ⟨b,off,none⟩):b<w.heap.size:=by
 obtain⟨b',off',e',hc⟩:=h.2 hp
 rw[e] at e'
 cases e'
 exact aO (hc 0 hp)
theorem Has.later {w w':World}{a len zs}(h:Has w a len zs)(hb:Below w.heap.size w w'):Has w' a len zs:=by
 refine⟨h.1,fun hp=>?_⟩
 obtain⟨b,off,e,hc⟩:=h.2 hp
 exact⟨b,off,e,fun j hj=>(hb.cell (p:=⟨b,off+j,none⟩) (h.lt hp e)).trans (hc j hj)⟩
theorem agz.later {w w':World}{a n ps}(h:agz w a n ps)(hb:Below w.heap.size w w'):agz w' a n ps:=by
 obtain⟨h1,h2,h3⟩:=h
 refine⟨h1,fun hp=>?_,fun p hp=>(h3 p hp).later hb⟩
 obtain⟨b,off,e,hlt,hc⟩:=h2 hp
 exact⟨b,off,e,Nat.lt_of_lt_of_le hlt hb.size,fun j hj=>(hb.cell (p:=⟨b,off+j,none⟩) hlt).trans (hc j hj)⟩
def lK (ps:List Prt):List Int:=(ps.map (fun p=>p.2.2.2)).flatten
theorem ae6 (ps:List Prt)(k:Nat)(hk:k<ps.length):lK (ps.take (k+1))=lK (ps.take k)++ps[k].2.2.2:=by
 rw[lK,List.take_succ_eq_append_getElem hk,List.map_append,List.flatten_append]
 simp only[lK,List.map_cons,List.map_nil,List.flatten_cons,List.flatten_nil,List.append_nil]
theorem xX (ps:List Prt)(k:Nat):(lK (ps.take k)).length<=(lK ps).length:=by
 have:lK ps=lK (ps.take k)++lK (ps.drop k):=by
  simp only[lK]
  rw[← List.flatten_append,← List.map_append,List.take_append_drop]
 rw[this,List.length_append];omega
theorem aaL (size:Nat)(a:Option Addr)(n cap:Nat)(ps:List Prt)(w:World)(h:agz w a n ps)(hn:n<=1000)(hs:(lK ps).length<=size)(hsz:size<=140737488351300) :
  Calls Tryz.prog 81 #[.int .i64 (size:Int),.slice a n cap] w fun e w'=>e=.returned (.slice (some ⟨w.heap.size,0,none⟩) size size)/\Hid (Block w' w.heap.size (aZ size (lK ps)))/\Below w.heap.size w w':=by
 have hmk:=run_make_row' (P:=Tryz.prog) 71 5 (.int .u8 0) 1 Tryz.underlying71 info5 rfl .i64 .i64 size (by omega) (by omega)
 have hb0:Below w.heap.size w (w.alloc (.cells (madeCells #[.int .u8 0] size) 5)):=(Below.refl _ w).alloc (Nat.le_refl _) _
 have HB:Hid (Block (w.alloc (.cells (madeCells #[.int .u8 0] size) 5)) w.heap.size (aZ size (lK (ps.take 0)))):=by
  have h0:aZ size (lK (ps.take 0))=List.replicate size 0:=by simp[aZ,lK]
  rw[h0]
  exact oW w size
 have H:=hide h
 have HS:=hide hs
 have hlen:=h.1
 clear h hs
 go_enter Tryz.func81,Tryz.ntmps81
 go_wp2
 go_loopw [6,13] (fun at' i wr=>∃ k at0:Nat,k<=n/\i=.int .i64 (k:Int)/\at'=.int .i64 (at0:Int)/\at0<=size/\Hid (at0=(lK (ps.take k)).length)/\Hid (Block wr w.heap.size (aZ size (lK (ps.take k))))/\Hid (Below w.heap.size w wr)) (fun _ i _=>n - (intOf i).toNat)
 case atStart=>exact⟨0,0,Nat.zero_le _,rfl,rfl,Nat.zero_le _,rfl,HB,hb0⟩
 case round =>
  obtain⟨k,at0,hk,rfl,rfl,hat,he,hBk,hbk⟩:=hrel
  clear HB hmk hb0
  by_cases hlt:k<n
  ·obtain⟨b,off,rfl,_,hc⟩:=(H.out.later hbk.out).2.1 (by omega)
   have hck:=hc k (by omega)
   have aj2:=(H.out.later hbk.out).2.2 ps[k] (List.getElem_mem _)
   have hsu:=ae6 ps k (by omega)
   have hle:=xX ps (k+1)
   generalize ps[k]=pp at *
   obtain⟨pa,pn,pc,pz⟩:=pp
   dsimp only [pv] at hck aj2 hsu
   rw[hsu,List.length_append] at hle
   have hroom:at0+pn<=size:=by have:=he.out;have:=HS.out;have:=aj2.1;omega
   obtain⟨w2,hr,hB2,hb2⟩:=ait hBk.out (dH (by have:=he.out;have:=HS.out;omega)) aj2 pc hroom
   have HP:Hid (Block w2 w.heap.size (aZ size (lK (ps.take (k+1))))/\Hid (Below w.heap.size w w2)/\at0+pn=(lK (ps.take (k+1))).length):=by
    have:=he.out
    subst this
    refine⟨?_,hbk.out.trans (hb2 _ (Nat.le_refl _)),by rw[hsu,List.length_append,aj2.1]⟩
    rw[hsu,← afH size _ _ (by have:=HS.out;omega)]
    exact hB2
   have hcut:=jq (some ⟨w.heap.size,0,none⟩) size size at0 hat
   generalize cutAt (some ⟨w.heap.size,0,none⟩) size at0=ca at *
   generalize hd:size - at0=d at *
   clear hc aj2 hsu hle hB2 hb2 he hBk hbk HS
   have hpn:(pn:Int)<=140737488351300:=by omega
   go_wp2
   exact⟨⟨k+1,at0+pn,by omega,by go_num,by go_num,by omega,HP.out.2.2,HP.out.1,HP.out.2.1⟩,by simp[intOf];omega⟩
  ·obtain rfl:k=n:=by omega
   have e:ps.take k=ps:=List.take_of_length_le (by omega)
   rw[e] at hBk
   go_wp2
   go_ret
   exact⟨rfl,hBk,hbk.out⟩
theorem info3:(Tryz.prog.info? 3).map (fun i=>(i.zero,i.size,i.bytes))=some (some (.int .i64 0),1,8):=by kernel_rfl
theorem vX (zs:List Int):∀ v∈zs.map (Value.int .i64),v.oneCell'=true:=by
 intro v hv
 simp only[List.mem_map] at hv
 obtain⟨z,_,rfl⟩:=hv
 rfl
def qE (B:Nat) (w:World) (a:Option Addr) (n c:Nat) (xs:List Int):Prop :=
 xs.length=n/\n<=c/\c<=maxLen/\((a=none/\n=0/\c=0)\/∃ g cur,a=some ⟨g,0,none⟩/\B<=g/\w.heap[g]?=some (.cells cur 3)/\cur.size=c/\cur.toList.take n=xs.map (Value.int .i64))
theorem qE.kept {B}{w w':World}{a n c xs}(h:qE B w a n c xs)(hk:∀ g,a=some ⟨g,0,none⟩->w'.heap[g]?=w.heap[g]?):qE B w' a n c xs:=by
 obtain⟨h1,h2,h3,h4⟩:=h
 refine⟨h1,h2,h3,?_⟩
 rcases h4 with h4 | ⟨g,cur,e,hg,hh,r⟩
 ·exact .inl h4
 ·exact .inr ⟨g,cur,e,hg,(hk g e).trans hh,r⟩
theorem qE.cell {B w a n c xs}(h:qE B w a n c xs){j:Nat}(hj:j<n):∃ g,a=some ⟨g,0,none⟩/\B<=g/\w.cell? ⟨g,j,none⟩=some (.int .i64 (xs[j]?.getD 0))/\w.frozen? ⟨g,j,none⟩=false:=by
 obtain⟨h1,h2,h3,h4⟩:=h
 rcases h4 with ⟨_,h4,_⟩ | ⟨g,cur,e,hg,hh,hc,ht⟩
 ·omega
 ·refine⟨g,e,hg,?_,by simp[World.frozen?,hh]⟩
  have hx:(cur.toList.take n)[j]?=some (.int .i64 (xs[j]?.getD 0)):=by
   rw[ht,List.getElem?_map,List.getElem?_eq_getElem (by omega)];rfl
  rw[List.getElem?_take_of_lt hj] at hx
  simp only[World.cell?,hh]
  simpa using hx
theorem qE.lt {B w a n c xs}(h:qE B w a n c xs){g:Nat}(e:a=some ⟨g,0,none⟩):g<w.heap.size/\B<=g/\∃ cur,w.heap[g]?=some (.cells cur 3):=by
 obtain⟨_,_,_,h4⟩:=h
 rcases h4 with ⟨h4,_⟩ | ⟨g',cur,e',hg,hh,_⟩
 ·rw[h4] at e;cases e
 ·rw[e] at e';cases e'
  exact⟨(Array.getElem?_eq_some_iff.1 hh).1,hg,cur,hh⟩
theorem qE.below {B n:Nat}{w w':World}{a l c xs}(h:qE B w a l c xs)(hb:Below n w w')(hn:w.heap.size<=n):qE B w' a l c xs :=
 h.kept (fun g e=>hb.block g (by have:=(h.lt e).1;omega))
theorem qE.nil (B:Nat)(w:World):qE B w none 0 0 []:=⟨rfl,Nat.le_refl _,by unfold maxLen;omega,.inl ⟨rfl,rfl,rfl⟩⟩
theorem gq {w}(h:Tab w):1<w.heap.size:=by
 have h0:=h 0 (by omega)
 cases hb:w.heap[1]? with
 | none=>simp[World.cell?,hb] at h0
 | some o=>exact(Array.getElem?_eq_some_iff.1 hb).1
theorem Tab.below {n:Nat}{w w':World}(h:Tab w)(hb:Below n w w')(hn:1<n):Tab w':=fun k hk=>(hb.cell (p:=⟨1,k,none⟩) hn).trans (h k hk)
theorem Row.iF {n w a len cap zs}(h:Row n w a len cap zs):aeH zs:=h.2.2.2.1
def num:List Int->Int
 | []=>0
 | c::r=>c+256*num r
def digits:Nat->Int->List Int
 | 0,_=>[]
 | k+1,v=>v%256::digits k (v / 256)
def aeJ (l:List Int):Int:=l.foldl (fun v c=>v*256+c) 0
theorem wQ (l:List Int)(c:Int):aeJ (l++[c])=aeJ l*256+c:=by simp[aeJ]
theorem nG (l:List Int):aeJ l.reverse=num l:=by
 induction l with
 | nil=>rfl
 | cons c r ih=>rw[List.reverse_cons,wQ,ih,num];omega
theorem ab1 (k:Nat):∀ v:Int,0<=v->v<256 ^ k->num (digits k v)=v:=by
 induction k with
 | zero=>intro v h1 h2;simp[digits,num] at *;omega
 | succ k ih =>
  intro v h1 h2
  have:v / 256<256 ^ k:=by rw[Int.pow_succ] at h2;omega
  rw[digits,num,ih _ (by omega) this];omega
theorem length_digits (k:Nat):∀ v,(digits k v).length=k:=by
 induction k with
 | zero=>intro v;rfl
 | succ k ih=>intro v;simp[digits,ih]
theorem qp (k:Nat):∀ v,∀ z∈digits k v,0<=z/\z<=255:=by
 induction k with
 | zero=>intro v z h;simp[digits] at h
 | succ k ih =>
  intro v z h
  rcases List.mem_cons.1 h with rfl | h
  ·omega
  ·exact ih _ _ h
theorem vY (l:List Int)(h:∀ z∈l,0<=z/\z<=255):0<=num l/\num l<256 ^ l.length:=by
 induction l with
 | nil=>simp[num]
 | cons c r ih =>
  have h1:=ih (fun z hz=>h z (by simp[hz]))
  have h2:=h c (by simp)
  simp only[num,List.length_cons,Int.pow_succ]
  omega
theorem abG (l:List Int)(h:∀ z∈l,0<=z/\z<=255):0<=aeJ l/\aeJ l<256 ^ l.length:=by
 have:=vY l.reverse (by simpa using h)
 rw[← nG,List.reverse_reverse,List.length_reverse] at this
 exact this
theorem zn (x c:Nat)(hc:c<256):x*256 ||| c=x*256+c:=nat_join 8 (x*256) c (by omega) (by omega)
theorem ahw (v c:Int)(h1:0<=v)(h2:v<16777216)(h3:0<=c)(h4:c<=255):bits .or .i64 (v*256) c=v*256+c:=by
 obtain⟨x,rfl⟩:=Int.eq_ofNat_of_zero_le h1
 obtain⟨y,rfl⟩:=Int.eq_ofNat_of_zero_le h3
 have e1:(BitVec.ofInt 64 ((x:Int)*256)).toNat=x*256:=by
  have:((x:Int)*256)=((x*256:Nat):Int):=by omega
  rw[this];exact ofInt_u64 _ (by omega)
 have e2:(BitVec.ofInt 64 (y:Int)).toNat=y:=ofInt_u64 _ (by omega)
 have e3:x*256 ||| y=x*256+y:=zn x y (by omega)
 show IntKind.i64.wrap ((BitVec.ofInt 64 ((x:Int)*256) ||| BitVec.ofInt 64 (y:Int)).toNat:Int)=_
 rw[BitVec.toNat_or,e1,e2,e3];simp only[IntKind.wrap,IntKind.bits,IntKind.signed];simp
 omega
theorem ade (a:Option Addr)(len cap:Nat)(zs:List Int)(w:World)(hr:Row w.heap.size w a len cap zs) :
  Calls Tryz.prog 166 #[.slice a len cap] w fun e w'=>e=.returned (.slice (some ⟨w.heap.size,0,none⟩) len len)/\Block w' w.heap.size zs/\Below w.heap.size w w':=by
 obtain⟨hlen,hlc,hcm,hby,hcell⟩:=hr
 have hmk:=run_make_row' (P:=Tryz.prog) 71 5 (.int .u8 0) 1 Tryz.underlying71 info5 rfl .i64 .i64 len (by omega) (by omega)
 have hb0:Below w.heap.size w (w.alloc (.cells (madeCells #[.int .u8 0] len) 5)):=(Below.refl _ w).alloc (Nat.le_refl _) _
 have hsrc:0<len->∃ ad,a=some ad/\∀ (j:Nat) v,(zs.map (Value.int .u8))[j]?=some v->(w.alloc (.cells (madeCells #[.int .u8 0] len) 5)).cell? (ad.add j)=some v:=by
  intro hp
  obtain⟨b,off,rfl,hb,hc⟩:=hcell hp
  refine⟨_,rfl,fun j v hv=>?_⟩
  rw[World.aF,hb0.cell (p:=⟨b,off+j,none⟩) hb]
  have hj:j<zs.length:=by
   have:=(List.getElem?_eq_some_iff.1 hv).1
   simpa using this
  rw[hc j (by omega)]
  rw[List.getElem?_map,List.getElem?_eq_getElem hj] at hv
  rw[List.getElem?_eq_getElem hj]
  simpa using hv
 have hg:(w.alloc (.cells (madeCells #[.int .u8 0] len) 5)).heap[w.heap.size]?=some (.cells (List.replicate len (Value.int .u8 0)).toArray 5):=by
  rw[World.alloc_heap_new,← toList_madeCells_one,Array.toArray_toList]
 obtain⟨w2,hcp,hg2,hb2⟩:∃ w2,(∀ ty,(Builtin.copy_ #[71,71] ty #[.slice (some ⟨w.heap.size,0,none⟩) len len,.slice a len cap]).run Tryz.prog (w.alloc (.cells (madeCells #[.int .u8 0] len) 5))=.ok (goInt len) w2)/\Block w2 w.heap.size zs/\Below w.heap.size w w2:=by
  by_cases h0:len=0
  ·subst h0
   have hz:zs=[]:=List.eq_nil_of_length_eq_zero hlen
   subst hz
   exact⟨_,fun ty=>run_copy_none _ 71 71 ty 5 _ _ _ _ _ _ Tryz.underlying71 qI rfl,hg,hb0⟩
  ·obtain⟨ad,rfl,hs⟩:=hsrc (by omega)
   refine⟨_,fun ty=>?_,?_,below_setRow hb0 (Nat.le_refl _) (zs.map (Value.int .u8)).toArray⟩
   ·have h:=run_copy_row (P:=Tryz.prog) (w.alloc (.cells (madeCells #[.int .u8 0] len) 5)) 71 71 ty 5 w.heap.size 0 len len ad len cap _ 5 (zs.map (Value.int .u8)) Tryz.underlying71 qI hg (by rw[List.length_map,hlen];exact(Nat.min_self _).symm) hs (by simp[hlen]) (cu zs)
    have e:(List.take 0 (List.replicate len (Value.int .u8 0)).toArray.toList++zs.map (Value.int .u8)++List.drop (0+(zs.map (Value.int .u8)).length) (List.replicate len (Value.int .u8 0)).toArray.toList)=zs.map (Value.int .u8):=by
     simp[hlen]
    rw[e,List.length_map,hlen] at h
    exact h
   ·exact setRow_heap _ _ _ _ 5 _ hg
 clear hg hsrc hcell
 go_enter Tryz.func166,Tryz.ntmps166
 go_wp2
 go_ret
 exact⟨rfl,hg2,hb2⟩
theorem afp (a:Option Addr)(len cap:Nat)(zs:List Int)(w:World)(n:Nat)(hn:w.heap.size=n)(hr:Row w.heap.size w a len cap zs) :
  Calls Tryz.prog 166 #[.slice a len cap] w fun e w'=>e=.returned (.slice (some ⟨n,0,none⟩) len len)/\Hid (Block w' n zs)/\Below n w w':=by
 subst hn;exact ade a len cap zs w hr
def lead (p:Int->Bool):List Int->Nat
 | []=>0
 | c::r=>if p c=true then 0 else lead p r+1
theorem ad6 (p:Int->Bool)(l:List Int):lead p l<=l.length:=by
 induction l with
 | nil=>simp[lead]
 | cons c r ih=>simp only[lead,List.length_cons];split<;>omega
theorem aa5 (p:Int->Bool)(l:List Int)(k:Nat)(h:k<=lead p l)(hk:k<l.length)(hp:p (l[k]?.getD 0)=true):lead p l=k:=by
 induction l generalizing k with
 | nil=>simp at hk
 | cons c r ih =>
  cases k with
  | zero=>simp at hp;simp[lead,hp]
  | succ k =>
   simp only[lead] at h ⊢
   by_cases hc:p c=true
   ·rw[if_pos hc] at h;omega
   ·rw[if_neg hc] at h ⊢
    simp at hk hp
    rw[ih k (by omega) (by omega) (by simpa using hp)]
theorem wI (p:Int->Bool)(l:List Int)(k:Nat)(h:k<=lead p l)(hk:k<l.length)(hp:p (l[k]?.getD 0)=false):k+1<=lead p l:=by
 induction l generalizing k with
 | nil=>simp at hk
 | cons c r ih =>
  cases k with
  | zero=>simp at hp;simp[lead,hp]
  | succ k =>
   simp only[lead] at h ⊢
   by_cases hc:p c=true
   ·rw[if_pos hc] at h;omega
   ·rw[if_neg hc] at h ⊢
    simp at hk hp
    have:=ih k (by omega) (by omega) (by simpa using hp)
    omega
theorem aa6 (p:Int->Bool)(l:List Int)(h:l.length<=lead p l):lead p l=l.length:=by have:=ad6 p l;omega
def isz (z:Int):Bool:=z==0
def nz (z:Int):Bool:=z != 0
def aaP (l:List Int):Bool:=lead nz l==l.length
theorem adF (c:Int)(w:World):Calls Tryz.prog 203 #[.int .u8 c] w fun e w'=>e=.returned (.bool (isz c))/\w=w':=by
 go_enter Tryz.func203,Tryz.ntmps203
 go_wp2
 go_ret
 exact⟨rfl,rfl⟩
theorem agC (c:Int)(w:World):Calls Tryz.prog 221 #[.int .u8 c] w fun e w'=>e=.returned (.bool (nz c))/\w=w':=by
 go_enter Tryz.func221,Tryz.ntmps221
 go_wp2
 go_ret
 exact⟨rfl,rfl⟩
theorem afj (a:Option Addr)(len cap:Nat)(zs:List Int)(w:World)(h:Has w a len zs)(hl:len<=140737488351232) :
  Calls Tryz.prog 202 #[.slice a len cap,.func (.func 203) #[] #[]] w fun e w'=>e=.returned (.int .i64 (lead isz zs:Int))/\w=w':=by
 have hlen:=h.1
 have H:=hide h.2
 have HH:=hide (fun k=>aa5 isz zs k)
 have HM:=hide (fun k=>wI isz zs k)
 have HE:=hide (aa6 isz zs)
 clear h
 go_enter Tryz.func202,Tryz.ntmps202
 go_wp2
 go_loop [5,6,9] (fun x y i=>∃ k:Nat,k<=len/\Hid (k<=lead isz zs)/\i=.int .i64 k) (fun _ _ i=>len - (intOf i).toNat)
 case atStart=>exact⟨0,Nat.zero_le _,Nat.zero_le _,rfl⟩
 case round =>
  obtain⟨k,hk,hle,rfl⟩:=hrel
  by_cases hlt:k<len
  ·obtain⟨b,off,rfl,hcs⟩:=ah H (by omega)
   have hc:=hcs k hlt
   obtain⟨z,hz⟩:∃ z,zs[k]?.getD 0=z:=⟨_,rfl⟩
   rw[hz] at hc
   have HZ:=hide hz
   clear hcs hz
   by_cases hp:isz z=true
   ·go_wp2_with (go_at_call 203;refine(adF _ _).mono ?_;rintro e w' ⟨rfl,rfl⟩)
    go_ret
    exact⟨dY (by rw[ah HH k hle.out (by omega) (by rw[ah HZ];exact hp)]),rfl⟩
   ·have hp':isz z=false:=by simpa using hp
    go_wp2_with (go_at_call 203;refine(adF _ _).mono ?_;rintro e w' ⟨rfl,rfl⟩)
    exact⟨⟨k+1,by omega,ah HM k hle.out (by omega) (by rw[ah HZ];exact hp'),by go_num⟩,by simp[intOf];omega⟩
  ·obtain rfl:k=len:=by omega
   go_wp2
   go_ret
   exact⟨dY (by rw[ah HE (by rw[hlen];exact hle.out),hlen]),rfl⟩
theorem ahm (a:Option Addr)(len cap:Nat)(zs:List Int)(w:World)(h:Has w a len zs)(hl:len<=140737488351232) :
  Calls Tryz.prog 202 #[.slice a len cap,.func (.func 221) #[] #[]] w fun e w'=>e=.returned (.int .i64 (lead nz zs:Int))/\w=w':=by
 have hlen:=h.1
 have H:=hide h.2
 have HH:=hide (fun k=>aa5 nz zs k)
 have HM:=hide (fun k=>wI nz zs k)
 have HE:=hide (aa6 nz zs)
 clear h
 go_enter Tryz.func202,Tryz.ntmps202
 go_wp2
 go_loop [5,6,9] (fun x y i=>∃ k:Nat,k<=len/\Hid (k<=lead nz zs)/\i=.int .i64 k) (fun _ _ i=>len - (intOf i).toNat)
 case atStart=>exact⟨0,Nat.zero_le _,Nat.zero_le _,rfl⟩
 case round =>
  obtain⟨k,hk,hle,rfl⟩:=hrel
  by_cases hlt:k<len
  ·obtain⟨b,off,rfl,hcs⟩:=ah H (by omega)
   have hc:=hcs k hlt
   obtain⟨z,hz⟩:∃ z,zs[k]?.getD 0=z:=⟨_,rfl⟩
   rw[hz] at hc
   have HZ:=hide hz
   clear hcs hz
   by_cases hp:nz z=true
   ·go_wp2_with (go_at_call 221;refine(agC _ _).mono ?_;rintro e w' ⟨rfl,rfl⟩)
    go_ret
    exact⟨dY (by rw[ah HH k hle.out (by omega) (by rw[ah HZ];exact hp)]),rfl⟩
   ·have hp':nz z=false:=by simpa using hp
    go_wp2_with (go_at_call 221;refine(agC _ _).mono ?_;rintro e w' ⟨rfl,rfl⟩)
    exact⟨⟨k+1,by omega,ah HM k hle.out (by omega) (by rw[ah HZ];exact hp'),by go_num⟩,by simp[intOf];omega⟩
  ·obtain rfl:k=len:=by omega
   go_wp2
   go_ret
   exact⟨dY (by rw[ah HE (by rw[hlen];exact hle.out),hlen]),rfl⟩
theorem aan (a:Option Addr)(len cap:Nat)(zs:List Int)(w:World)(h:Has w a len zs)(hl:len<=140737488351232) :
  Calls Tryz.prog 204 #[.slice a len cap] w fun e w'=>e=.returned (.bool (aaP zs))/\w=w':=by
 have K:=hide (ahm a len cap zs w h hl)
 have hlen:=h.1
 clear h
 go_enter Tryz.func204,Tryz.ntmps204
 go_wp2_with (go_at_call 202;refine(ah K).mono ?_;rintro e w' ⟨rfl,rfl⟩)
 go_ret
 exact⟨kP (by unfold aaP;rw[hlen,Bool.eq_iff_iff];simp;omega),rfl⟩
def partOf (zs:List Int) (at' n:Int):List Int:=(zs.drop at'.toNat).take n.toNat
def oh (zs:List Int) (at' n:Int):Int:=if aY zs.length at' n=0 then (if aaP ((partOf zs at' n).drop (lead isz (partOf zs at' n)))=true then 0 else 4) else aY zs.length at' n
def jT (zs:List Int) (at' n:Int):ByteArray:=if oh zs at' n=0 then strOfNums ((partOf zs at' n).take (lead isz (partOf zs at' n))) else strOfNums []
theorem aeW (a:Option Addr)(len cap:Nat)(at' n:Int)(w:World)(hl:len<=140737488351232)(ha:at'<=9223372036854775807)(hn:-9223372036854775808<=n)(he:aY len at' n≠0) :
  Calls Tryz.prog 171 #[.slice a len cap,.int .i64 at',.int .i64 n] w fun e w'=>e=.returned (.tuple #[.string (strOfNums []),.int .i64 (aY len at' n)])/\w=w':=by
 have hc:=eG a len cap at' n w (by unfold maxLen;omega) ha hn
 obtain⟨q,hq⟩:∃ q,aY len at' n=q:=⟨_,rfl⟩
 rw[hq] at hc he ⊢
 clear hq
 have hne:(q != 0)=true:=by simpa using he
 have HC:=hide hc
 clear hc he
 go_enter Tryz.func171,Tryz.ntmps171
 go_wp2_with (go_at_call 196;refine(ah HC).mono ?_;rintro e w' ⟨rfl,rfl⟩)
 go_ret2
 exact⟨rfl,rfl⟩
theorem ahb (a:Option Addr)(len cap at0 n0:Nat)(zs pt:List Int)(w:World)(h:Has w a len zs)(hc:len<=cap)(hl:len<=140737488351232)(hat:at0+n0<=len)(hpt:(zs.drop at0).take n0=pt)(K:Nat)(hK:lead isz pt=K) :
  Calls Tryz.prog 171 #[.slice a len cap,.int .i64 (at0:Int),.int .i64 (n0:Int)] w fun e w'=>(e=if aaP (pt.drop K)=true then .returned (.tuple #[.string (strOfNums (pt.take K)),.int .i64 0]) else .returned (.tuple #[.string (strOfNums []),.int .i64 4]))/\w=w':=by
 obtain⟨a1,c1,hs1,hc1,hH1⟩:=ajK h hc hat
 rw[hpt] at hH1
 have hKn:K<=n0:=by have:=ad6 isz pt;rw[hK,hH1.1] at this;exact this
 obtain⟨a2,c2,hs2,hc2,hH2⟩:=akC hH1 hc1 hKn
 obtain⟨a3,c3,hs3,hc3,hH3⟩:=akD hH1 hc1 hKn
 have hcv:=hH3.conv c3
 have K0:=hide (xI a len cap at0 n0 w hl hat)
 have K1:=afj a1 n0 c1 _ w hH1 (by omega)
 rw[hK] at K1
 have K1:=hide K1
 have K2:=aan a2 (n0 - K) c2 _ w hH2 (by omega)
 obtain⟨z,hz⟩:∃ z,aaP (pt.drop K)=z:=⟨_,rfl⟩
 rw[hz] at K2 ⊢
 have K2:=hide K2
 clear h hH1 hH2 hH3 hz hK hpt hc1 hc2 hc3
 cases z
 ·go_enter Tryz.func171,Tryz.ntmps171
  go_wp2_with (first
   | (go_at_call 196;refine(ah K0).mono ?_;rintro e w' ⟨rfl,rfl⟩)
   | (go_at_call 202;refine(ah K1).mono ?_;rintro e w' ⟨rfl,rfl⟩)
   | (go_at_call 204;refine(ah K2).mono ?_;rintro e w' ⟨rfl,rfl⟩))
  go_ret2
  exact⟨rfl,rfl⟩
 ·go_enter Tryz.func171,Tryz.ntmps171
  go_wp2_with (first
   | (go_at_call 196;refine(ah K0).mono ?_;rintro e w' ⟨rfl,rfl⟩)
   | (go_at_call 202;refine(ah K1).mono ?_;rintro e w' ⟨rfl,rfl⟩)
   | (go_at_call 204;refine(ah K2).mono ?_;rintro e w' ⟨rfl,rfl⟩))
  go_ret2
  exact⟨rfl,rfl⟩
theorem aeX (a:Option Addr)(len cap:Nat)(zs:List Int)(at' n:Int)(w:World)(h:Has w a len zs)(hc:len<=cap)(hl:len<=140737488351232)(ha:at'<=9223372036854775807)(hn:-9223372036854775808<=n) :
  Calls Tryz.prog 171 #[.slice a len cap,.int .i64 at',.int .i64 n] w fun e w'=>e=.returned (.tuple #[.string (jT zs at' n),.int .i64 (oh zs at' n)])/\w=w':=by
 by_cases he:aY len at' n=0
 ·obtain⟨at0,n0,rfl,rfl,hat⟩:=ahu he
  refine(ahb a len cap at0 n0 zs _ w h hc hl hat rfl _ rfl).mono ?_
  rintro e w' ⟨rfl,rfl⟩
  refine⟨?_,rfl⟩
  unfold jT oh partOf
  rw[h.1,he,if_pos rfl,Int.toNat_natCast,Int.toNat_natCast]
  by_cases hz:aaP (((zs.drop at0).take n0).drop (lead isz ((zs.drop at0).take n0)))=true
  ·rw[if_pos hz,if_pos hz,if_pos rfl]
  ·rw[if_neg hz,if_neg hz,if_neg (by omega)]
 ·refine(aeW a len cap at' n w hl ha hn he).mono ?_
  rintro e w' ⟨rfl,rfl⟩
  refine⟨aho ?_ ?_,rfl⟩
  ·unfold jT oh;rw[h.1,if_neg he,if_neg he]
  ·unfold oh;rw[h.1,if_neg he]
end Go.Proofs.YtefdkpbmeoakgaaGreatDoor
