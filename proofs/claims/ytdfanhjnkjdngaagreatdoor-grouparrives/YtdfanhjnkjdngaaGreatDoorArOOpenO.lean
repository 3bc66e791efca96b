/- A script of calls that came in, opened. -/
import Derived.Test.YtdfanhjnkjdngaaGreatDoorArJ15
import Derived.Test.YtdfanhjnkjdngaaGreatDoorArJ15
import Derived.Deep.Slices
import Derived.SizedLaws
namespace Go.Proofs.YtdfanhjnkjdngaaGreatDoor
set_option maxRecDepth 100000
set_option maxHeartbeats 8000000
open Go.ChangeAt Go.ChangeShapes Go.RowKit Go.Shelf Go.WideShapes Go.Deep
set_option linter.unusedVariables false

structure OpD where
 kind:Int
 n:Int
 x:Int
 pa:Option Addr
 pl:Nat
 pc:Nat
 picks:List Int

structure OpAt (W:World) (b off i:Nat) (o:OpD):Prop where
 c0:W.cell? ⟨b,off + i * 4,none⟩=some (.int .i64 o.kind)
 c1:W.cell? ⟨b,off + i * 4 + 1,none⟩=some (.int .i64 o.n)
 c2:W.cell? ⟨b,off + i * 4 + 2,none⟩=some (.int .u8 o.x)
 c3:W.cell? ⟨b,off + i * 4 + 3,none⟩=some (.slice o.pa o.pl o.pc)
 xb:0 ≤ o.x∧o.x ≤ 255
 ints:IHas W o.pa o.pl o.picks
 pb:o.pl ≤ o.pc∧o.pc ≤ 9223372036854775807
 nb:-9223372036854775808 ≤ o.n∧o.n ≤ 9223372036854775807

def OpsAt (W:World) (a:Option Addr) (len:Nat):Prop:=len ≤ 140737488351232∧(0 < len→∃ b off,a=some ⟨b,off,none⟩∧b < W.heap.size∧∀ i,i < len→∃ o,OpAt W b off i o)

theorem u8_max {x:Int} (h:(Lit.int .u8 x).wf=true):0 ≤ x∧x ≤ 255:=by
 simp [Lit.wf,IntKind.min,IntKind.max,IntKind.signed,IntKind.bits] at h
 omega

theorem cellsOp:Tryz.prog.cellsOf 71=4:=by kernel_rfl

theorem bytesOp:Tryz.prog.bytesOf 71=48:=by kernel_rfl

theorem cellsI:Tryz.prog.cellsOf 40=1:=by kernel_rfl

theorem fields_under {t:TypeId} {L:List (String × TypeId × Nat)} (h:(match Tryz.prog.underlying t with | some (.struct fs)=>fs.toList.map (fun f=>(f.name,f.type,f.offset)) | _=>[])=L) (hL:L ≠ []) :
  ∃ fs,Tryz.prog.underlying t=some (.struct fs)∧fs.toList.map (fun f=>(f.name,f.type,f.offset))=L:=by
 split at h
 ·exact ⟨_,by assumption,h⟩
 ·exact absurd h.symm hL

theorem underOp : ∃ fs, Tryz.prog.underlying 71 = some (.struct fs) ∧ fs.toList.map (fun f => (f.name, f.type, f.offset)) = [("Kind", 3, 0), ("N", 3, 1), ("X", 5, 2), ("L", 40, 3)] :=
 fields_under (by kernel_rfl) (by simp)

theorem all_mem {H:Type} {P:Program} {e:TypeId}:∀ {ds:List (DataW H)} {d:DataW H},d ∈ ds→∀ x ∈ d.weights P e,x ∈ DataW.weightsAll P e ds
 | d0 :: ds,d,hd,x,hx=>by
  simp only [DataW.weightsAll,List.mem_append]
  rcases List.mem_cons.1 hd with rfl | hd
  ·exact .inl hx
  ·exact .inr (all_mem hd x hx)

theorem slice_of {H:Type} {enc:TypeId × Value→H} {W:World} {fuel:Nat} {t e:TypeId} {v:Value} {x:DataW H × List MemPlace} (ht:Tryz.prog.underlying t=some (.slice e)) (h:DataW.trod enc Tryz.prog W 0 (fun _=>true) true fuel t [v]=some x):∃ a l c,v=.slice a l c:=by
 rcases open_slice ht h with ⟨e,_⟩ | ⟨a,len,cap,m,n,D,Pl,e,_⟩
 ·cases e; exact ⟨_,_,_,rfl⟩
 ·cases e; exact ⟨_,_,_,rfl⟩

theorem field_of7 {fs:Array Field} {L:List (String × TypeId × Nat)} (h:fs.toList.map (fun f=>(f.name,f.type,f.offset))=L) (k:Nat) (n:String) (t:TypeId) (o:Nat) (hk:L[k]?=some (n,t,o)):∃ f,fs[k]?=some f∧f.type=t∧f.offset=o:=by
 rw [← h,List.getElem?_map,Array.getElem?_toList] at hk
 cases hf:fs[k]? with
 | none=>rw [hf] at hk; cases hk
 | some f =>
  rw [hf] at hk
  simp at hk
  exact ⟨f,rfl,hk.2.1,hk.2.2⟩

theorem open_irow2 {H:Type} {enc:TypeId × Value→H} {W:World} {a0:Option Addr} {len0 cap0:Nat} {d0:DataW H} {p0:List MemPlace} (h0:DataW.Trod enc Tryz.prog W 0 (fun _=>true) true 40 (.slice a0 len0 cap0) d0 p0)
  (hsz:∀ elems spare,d0=.slice elems spare→(elems.length + spare.length) * Tryz.prog.bytesOf 3 ≤ reachBytes):∃ ns,IHas W a0 len0 ns∧len0 ≤ 17592186043904∧len0 ≤ cap0∧cap0 ≤ 9223372036854775807:=by
 obtain ⟨ns,h1,h2⟩:=open_irow h0 hsz
 refine ⟨ns,h1,h2,?_⟩
 obtain ⟨fuel,hf⟩:=h0
 rcases open_slice Tryz.underlying40 hf with ⟨e,_⟩ | ⟨a,len,cap,m,n,D,Pl,e,_,hl,hm,_⟩
 ·simp [Value.cells] at e
  omega
 ·simp [Value.cells] at e
  unfold maxLen at hm
  omega

def IArg (W:World) (a:Option Addr) (len cap:Nat) (ns:List Int):Prop:=IHas W a len ns∧len ≤ 17592186043904∧(len ≤ cap∧cap ≤ 9223372036854775807)∧(a=none→cap=0∧len=0)

theorem open_irow3 {H:Type} {enc:TypeId × Value→H} {W:World} {a0:Option Addr} {len0 cap0:Nat} {d0:DataW H} {p0:List MemPlace} (h0:DataW.Trod enc Tryz.prog W 0 (fun _=>true) true 40 (.slice a0 len0 cap0) d0 p0)
  (hsz:∀ elems spare,d0=.slice elems spare→(elems.length + spare.length) * Tryz.prog.bytesOf 3 ≤ reachBytes):∃ ns,IArg W a0 len0 cap0 ns:=by
 obtain ⟨ns,h1,h2,h3⟩:=open_irow2 h0 hsz
 refine ⟨ns,h1,h2,h3,?_⟩
 obtain ⟨fuel,hf⟩:=h0
 rcases open_slice Tryz.underlying40 hf with ⟨e,_⟩ | ⟨a,len,cap,m,n,D,Pl,e,_⟩
 ·simp [Value.cells] at e
  intro _
  omega
 ·simp [Value.cells] at e
  intro e0
  rw [e0] at e
  cases e.1

theorem open_op {H:Type} {enc:TypeId × Value→H} {W:World} {b off i fuel:Nat} {cs:List Value} {x:DataW H × List MemPlace} (hc:∀ j,j < 4→W.cell? ⟨b,off + i * 4 + j,none⟩=cs[j]?) (hl:cs.length=4) (h:DataW.trod enc Tryz.prog W 0 (fun _=>true) true fuel 71 cs=some x)
  (hw:∀ q ∈ DataW.weights Tryz.prog 71 x.1,decide (q ≤ reachBytes)=true):∃ o,OpAt W b off i o:=by
 obtain ⟨fs,hu,hfs⟩:=underOp
 obtain ⟨xs,n,rfl,rfl,_,hxl,hall⟩:=DataW.trod_struct hu h
 have hlen:fs.size=4:=by have:=congrArg List.length hfs; simpa using this
 obtain ⟨x0,x1,x2,x3,rfl⟩:∃ x0 x1 x2 x3,xs=[x0,x1,x2,x3]:=by
  match xs,hxl.trans hlen with
  | [x0,x1,x2,x3],_=>exact ⟨_,_,_,_,rfl⟩
 obtain ⟨y0,y1,y2,y3,rfl⟩:∃ y0 y1 y2 y3,cs=[y0,y1,y2,y3]:=by
  match cs,hl with
  | [y0,y1,y2,y3],_=>exact ⟨_,_,_,_,rfl⟩
 have fld : ∀ (j : Nat) (nm : String) (t : TypeId) (o : Nat), ([("Kind", 3, 0), ("N", 3, 1), ("X", 5, 2), ("L", 40, 3)] : List (String × TypeId × Nat))[j]? = some (nm, t, o) → DataW.trod enc Tryz.prog W 0 (fun _ => true) true n t (([y0, y1, y2, y3].drop o).take (Tryz.prog.cellsOf t)) = [x0, x1, x2, x3][j]? := by
  intro j nm t o hj
  obtain ⟨f,h1,h2,h3⟩:=field_of7 hfs j nm t o hj
  have h4:=hall j f h1
  rw [h2,h3] at h4
  exact h4
 have f0 := fld 0 "Kind" 3 0 rfl
 have f1 := fld 1 "N" 3 1 rfl
 have f2 := fld 2 "X" 5 2 rfl
 have f3 := fld 3 "L" 40 3 rfl
 rw [cells3] at f0 f1
 rw [cells5] at f2
 rw [cellsI] at f3
 simp only [List.drop_zero,List.drop_succ_cons,List.take_succ_cons,List.take_zero,List.getElem?_cons_zero,List.getElem?_cons_succ] at f0 f1 f2 f3
 obtain ⟨z0,e0,_,_⟩:=DataW.trod_int Tryz.underlying3 f0
 obtain ⟨z1,e1,_,hz1⟩:=DataW.trod_int Tryz.underlying3 f1
 cases e0
 cases e1
 obtain ⟨z2,e2,_,hz2⟩:=DataW.trod_int Tryz.underlying5 f2
 cases e2
 obtain ⟨pa,pl,pc,rfl⟩:=slice_of Tryz.underlying40 f3
 have hty:fs.toList.map (·.type)=[3,3,5,40]:=by
  have:=congrArg (List.map (fun q:String × TypeId × Nat=>q.2.1)) hfs
  rw [List.map_map] at this
  exact this
 have wmem:∀ (j:Nat) (t:TypeId) (d:DataW H),[3,3,5,40][j]?=some t→[x0.1,x1.1,x2.1,x3.1][j]?=some d→∀ q ∈ DataW.weights Tryz.prog t d,q ≤ reachBytes:=by
  intro j t d ht hd q hq
  refine of_decide_eq_true (hw q ?_)
  simp only [List.map_cons,List.map_nil,DataW.weights,hu,hty]
  exact DataW.weights_mem_each ht hd q hq
 obtain ⟨ns,hi1,_,hi3⟩:=open_irow2 (enc:=enc) (d0:=x3.1) (p0:=x3.2) ⟨n,f3⟩ (fun elems spare e=>by
  refine wmem 3 40 x3.1 rfl rfl _ ?_
  rw [e]
  simp [DataW.weights,Tryz.underlying40])
 exact ⟨⟨z0,z1,z2,pa,pl,pc,ns⟩,hc 0 (by omega),hc 1 (by omega),hc 2 (by omega),hc 3 (by omega),u8_max hz2,hi1,hi3,int_max hz1⟩

theorem open_ops {H:Type} {enc:TypeId × Value→H} {W:World} {a0:Option Addr} {len0 cap0:Nat} {d0:DataW H} {p0:List MemPlace} (h0:DataW.Trod enc Tryz.prog W 0 (fun _=>true) true 61 (.slice a0 len0 cap0) d0 p0)
  (hw:∀ q ∈ DataW.weights Tryz.prog 61 d0,decide (q ≤ reachBytes)=true):OpsAt W a0 len0:=by
 obtain ⟨fuel,hf⟩:=h0
 rcases open_slice Tryz.underlying61 hf with ⟨e,_⟩ | ⟨a,len,cap,m,n,D,Pl,e,_,hl,hm,hmm,hx,hel⟩
 ·simp [Value.cells] at e
  obtain ⟨rfl,rfl,rfl⟩:=e
  exact ⟨by omega,fun h=>by omega⟩
 ·simp [Value.cells] at e
  obtain ⟨rfl,rfl,rfl⟩:=e
  simp only [if_true] at hmm
  subst hmm
  have hd:=congrArg Prod.fst hx
  simp only at hd
  have hW:∀ q ∈ DataW.weights Tryz.prog 61 d0,q ≤ reachBytes:=fun q hq=>of_decide_eq_true (hw q hq)
  have hlen:len0 ≤ 140737488351232:=by
   have:=hW ((((List.range len0).map D).length + ((List.range (m - len0)).map fun j=>D (len0 + j)).length) * Tryz.prog.bytesOf 71) (by rw [hd]; simp [DataW.weights,Tryz.underlying61])
   rw [bytesOp] at this
   simp [reachBytes] at this
   omega
  refine ⟨hlen,fun hp=>?_⟩
  obtain ⟨b,off,spot⟩:=a
  have hspot:spot=none:=by
   obtain ⟨cs',h1,_⟩:=hel 0 (by omega)
   rw [cellsOp] at h1
   obtain ⟨_,h2,h3⟩:=World.cells?_some h1
   have h4:=h3 0 (by omega)
   rw [List.getElem?_eq_getElem (by omega)] at h4
   have:=World.cell?_spot h4
   simpa [Addr.add] using this
  subst hspot
  have hop:∀ i,i < len0→∃ o,OpAt W b off i o:=by
   intro i hi
   obtain ⟨cs',h1,h2⟩:=hel i (by omega)
   rw [cellsOp] at h1
   obtain ⟨_,h3,h4⟩:=World.cells?_some h1
   refine open_op (enc:=enc) (x:=(D i,Pl i)) (fun j hj=>?_) h3 h2 (fun q hq=>hw q ?_)
   ·have:=h4 j hj
    rw [World.add_zero_spot,World.add_zero_spot] at this
    exact this
   ·rw [hd]
    simp only [DataW.weights,Tryz.underlying61,List.mem_cons,List.mem_append]
    refine .inr (.inl (all_mem (d:=D i) ?_ q hq))
    exact List.mem_map.2 ⟨i,List.mem_range.2 hi,rfl⟩
  refine ⟨b,off,rfl,?_,hop⟩
  obtain ⟨o,ho⟩:=hop 0 hp
  exact cell_block_lt ho.c0

end Go.Proofs.YtdfanhjnkjdngaaGreatDoor
