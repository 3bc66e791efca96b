/- Joined: TOpenO, SOpenU, SOpenF. -/
import Derived.Test.YtknmgefpjdfenaaGreatSfJ9
import Derived.Test.YtknmgefpjdfenaaGreatSfVOpen
import Derived.Deep.Slices
import Derived.SizedLaws
/- A script of calls on a tree that came in, opened. -/
namespace Go.Proofs.YtknmgefpjdfenaaGreat
set_option maxRecDepth 100000
set_option maxHeartbeats 8000000
open Go.ChangeAt Go.ChangeShapes Go.RowKit Go.Shelf Go.WideShapes Go.Deep
set_option linter.unusedVariables false

structure OpD where
 kind:Int
 a:List UInt8
 b:List UInt8
 f:Int
 n:Int
 m:Int
 da:Option Addr
 dl:Nat
 dc:Nat
 data:List Int

def OpD.v (o:OpD):Array Value:=#[.int .i64 o.kind,.string (St o.a),.string (St o.b),.int .i64 o.f,.int .i64 o.n,.int .i64 o.m,.slice o.da o.dl o.dc]

structure OpAt (W:World) (b off i:Nat) (o:OpD):Prop where
 c0:W.cell? ⟨b,off + i * 7,none⟩=some (.int .i64 o.kind)
 c1:W.cell? ⟨b,off + i * 7 + 1,none⟩=some (.string (St o.a))
 c2:W.cell? ⟨b,off + i * 7 + 2,none⟩=some (.string (St o.b))
 c3:W.cell? ⟨b,off + i * 7 + 3,none⟩=some (.int .i64 o.f)
 c4:W.cell? ⟨b,off + i * 7 + 4,none⟩=some (.int .i64 o.n)
 c5:W.cell? ⟨b,off + i * 7 + 5,none⟩=some (.int .i64 o.m)
 c6:W.cell? ⟨b,off + i * 7 + 6,none⟩=some (.slice o.da o.dl o.dc)
 row:Row W.heap.size W o.da o.dl o.dc o.data
 la:o.a.length ≤ 9223372036854775807
 lb:o.b.length ≤ 9223372036854775807

theorem cellsOp:Tryz.prog.cellsOf 36=7:=by kernel_rfl

theorem bytesOp:Tryz.prog.bytesOf 36=88:=by kernel_rfl


theorem cellsB:Tryz.prog.cellsOf 34=1:=by kernel_rfl

theorem fields_under {t:TypeId} {L:List (String × TypeId × Nat)} (h:(match Tryz.prog.underlying t with | some (.struct fs)=>fs.toList.map (fun f=>(f.name,f.type,f.offset)) | _=>[])=L) (hL:L ≠ []) :
  ∃ fs,Tryz.prog.underlying t=some (.struct fs)∧fs.toList.map (fun f=>(f.name,f.type,f.offset))=L:=by
 split at h
 ·exact ⟨_,by assumption,h⟩
 ·exact absurd h.symm hL

theorem underOp : ∃ fs, Tryz.prog.underlying 36 = some (.struct fs) ∧ fs.toList.map (fun f => (f.name, f.type, f.offset)) = [("Kind", 3, 0), ("A", 9, 1), ("B", 9, 2), ("F", 3, 3), ("N", 3, 4), ("M", 3, 5), ("Data", 34, 6)] :=
 fields_under (by kernel_rfl) (by simp)

theorem all_mem {H:Type} {P:Program} {e:TypeId}:∀ {ds:List (DataW H)} {d:DataW H},d ∈ ds→∀ x ∈ d.weights P e,x ∈ DataW.weightsAll P e ds
 | d0 :: ds,d,hd,x,hx=>by
  simp only [DataW.weightsAll,List.mem_append]
  rcases List.mem_cons.1 hd with rfl | hd
  ·exact .inl hx
  ·exact .inr (all_mem hd x hx)

theorem slice_of {H:Type} {enc:TypeId × Value→H} {W:World} {fuel:Nat} {t e:TypeId} {v:Value} {x:DataW H × List MemPlace} (ht:Tryz.prog.underlying t=some (.slice e)) (h:DataW.trod enc Tryz.prog W 0 (fun _=>true) true fuel t [v]=some x):∃ a l c,v=.slice a l c:=by
 rcases open_slice ht h with ⟨e,_⟩ | ⟨a,len,cap,m,n,D,Pl,e,_⟩
 ·cases e; exact ⟨_,_,_,rfl⟩
 ·cases e; exact ⟨_,_,_,rfl⟩

theorem field_of7 {fs:Array Field} {L:List (String × TypeId × Nat)} (h:fs.toList.map (fun f=>(f.name,f.type,f.offset))=L) (k:Nat) (n:String) (t:TypeId) (o:Nat) (hk:L[k]?=some (n,t,o)):∃ f,fs[k]?=some f∧f.type=t∧f.offset=o:=by
 rw [← h,List.getElem?_map,Array.getElem?_toList] at hk
 cases hf:fs[k]? with
 | none=>rw [hf] at hk; cases hk
 | some f =>
  rw [hf] at hk
  simp at hk
  exact ⟨f,rfl,hk.2.1,hk.2.2⟩

end Go.Proofs.YtknmgefpjdfenaaGreat

/- A script of calls on a tree that came in, opened under a bound on its bulk. -/
namespace Go.Proofs.YtknmgefpjdfenaaGreat
set_option maxRecDepth 100000
set_option maxHeartbeats 8000000
open Go.ChangeAt Go.ChangeShapes Go.RowKit Go.Shelf Go.WideShapes Go.Deep
set_option linter.unusedVariables false

def OpsU (W:World) (a:Option Addr) (len:Nat):Prop:=len ≤ 1700000000000∧(0 < len→∃ b off,a=some ⟨b,off,none⟩∧b < W.heap.size∧∀ i,i < len→∃ o,OpAt W b off i o∧o.n ≤ 9223372036854775807)

end Go.Proofs.YtknmgefpjdfenaaGreat

/- A script of calls on a tree that came in, opened under the form's own reach. -/
namespace Go.Proofs.YtknmgefpjdfenaaGreat
set_option maxRecDepth 100000
set_option maxHeartbeats 8000000
open Go.ChangeAt Go.ChangeShapes Go.RowKit Go.Shelf Go.WideShapes Go.Deep
set_option linter.unusedVariables false

theorem open_opF {H:Type} {enc:TypeId × Value→H} {W:World} {b off i fuel:Nat} {cs:List Value} {x:DataW H × List MemPlace} (hc:∀ j,j < 7→W.cell? ⟨b,off + i * 7 + j,none⟩=cs[j]?) (hl:cs.length=7) (h:DataW.trod enc Tryz.prog W 0 (fun _=>true) true fuel 36 cs=some x)
  (hw:∀ q ∈ DataW.weights Tryz.prog 36 x.1,decide (q ≤ reachBytes)=true):∃ o,OpAt W b off i o∧o.n ≤ 9223372036854775807:=by
 obtain ⟨fs,hu,hfs⟩:=underOp
 obtain ⟨xs,n,rfl,rfl,_,hxl,hall⟩:=DataW.trod_struct hu h
 have hlen:fs.size=7:=by have:=congrArg List.length hfs; simpa using this
 obtain ⟨x0,x1,x2,x3,x4,x5,x6,rfl⟩:∃ x0 x1 x2 x3 x4 x5 x6,xs=[x0,x1,x2,x3,x4,x5,x6]:=by
  match xs,hxl.trans hlen with
  | [x0,x1,x2,x3,x4,x5,x6],_=>exact ⟨_,_,_,_,_,_,_,rfl⟩
 obtain ⟨y0,y1,y2,y3,y4,y5,y6,rfl⟩:∃ y0 y1 y2 y3 y4 y5 y6,cs=[y0,y1,y2,y3,y4,y5,y6]:=by
  match cs,hl with
  | [y0,y1,y2,y3,y4,y5,y6],_=>exact ⟨_,_,_,_,_,_,_,rfl⟩
 have fld : ∀ (j : Nat) (nm : String) (t : TypeId) (o : Nat), ([("Kind", 3, 0), ("A", 9, 1), ("B", 9, 2), ("F", 3, 3), ("N", 3, 4), ("M", 3, 5), ("Data", 34, 6)] : List (String × TypeId × Nat))[j]? = some (nm, t, o) → DataW.trod enc Tryz.prog W 0 (fun _ => true) true n t (([y0, y1, y2, y3, y4, y5, y6].drop o).take (Tryz.prog.cellsOf t)) = [x0, x1, x2, x3, x4, x5, x6][j]? := by
  intro j nm t o hj
  obtain ⟨f,h1,h2,h3⟩:=field_of7 hfs j nm t o hj
  have h4:=hall j f h1
  rw [h2,h3] at h4
  exact h4
 have f0 := fld 0 "Kind" 3 0 rfl
 have f1 := fld 1 "A" 9 1 rfl
 have f2 := fld 2 "B" 9 2 rfl
 have f3 := fld 3 "F" 3 3 rfl
 have f4 := fld 4 "N" 3 4 rfl
 have f5 := fld 5 "M" 3 5 rfl
 have f6 := fld 6 "Data" 34 6 rfl
 rw [cells3] at f0 f3 f4 f5
 rw [cells9] at f1 f2
 rw [cellsB] at f6
 simp only [List.drop_zero,List.drop_succ_cons,List.take_succ_cons,List.take_zero,List.getElem?_cons_zero,List.getElem?_cons_succ] at f0 f1 f2 f3 f4 f5 f6
 obtain ⟨z0,e0,_,_⟩:=DataW.trod_int Tryz.underlying3 f0
 obtain ⟨z1,e1,_,hz1⟩:=DataW.trod_string Tryz.underlying9 f1
 obtain ⟨z2,e2,_,hz2⟩:=DataW.trod_string Tryz.underlying9 f2
 obtain ⟨z3,e3,_,_⟩:=DataW.trod_int Tryz.underlying3 f3
 obtain ⟨z4,e4,_,hz4⟩:=DataW.trod_int Tryz.underlying3 f4
 obtain ⟨z5,e5,_,_⟩:=DataW.trod_int Tryz.underlying3 f5
 cases e0
 cases e1
 cases e2
 cases e3
 cases e4
 cases e5
 obtain ⟨da,dl,dc,rfl⟩:=slice_of Tryz.underlying34 f6
 have hty:fs.toList.map (·.type)=[3,9,9,3,3,3,34]:=by
  have:=congrArg (List.map (fun q:String × TypeId × Nat=>q.2.1)) hfs
  rw [List.map_map] at this
  exact this
 have wmem:∀ (j:Nat) (t:TypeId) (d:DataW H),[3,9,9,3,3,3,34][j]?=some t→[x0.1,x1.1,x2.1,x3.1,x4.1,x5.1,x6.1][j]?=some d→∀ q ∈ DataW.weights Tryz.prog t d,q ≤ reachBytes:=by
  intro j t d ht hd q hq
  refine of_decide_eq_true (hw q ?_)
  simp only [List.map_cons,List.map_nil,DataW.weights,hu,hty]
  exact DataW.weights_mem_each ht hd q hq
 obtain ⟨zs,hrow⟩:=open_row (enc:=enc) (d0:=x6.1) (p0:=x6.2) ⟨n,f6⟩ (fun elems spare e=>by
  refine wmem 6 34 x6.1 rfl rfl _ ?_
  rw [e]
  simp [DataW.weights,Tryz.underlying34])
 have hn4:z4 ≤ 9223372036854775807:=by
  simp [Lit.wf,IntKind.min,IntKind.max,IntKind.signed,IntKind.bits] at hz4
  omega
 unfold maxLen at hz1 hz2
 have sl:∀ z:ByteArray,z.size ≤ 9223372036854775807→z.data.toList.length ≤ 9223372036854775807:=fun z hz=>by
  have e:z.data.toList.length=z.size:=rfl
  rw [e]
  exact hz
 refine ⟨⟨z0,z1.data.toList,z2.data.toList,z3,z4,z5,da,dl,dc,zs⟩,⟨hc 0 (by omega),?_,?_,hc 3 (by omega),hc 4 (by omega),hc 5 (by omega),hc 6 (by omega),hrow,sl z1 hz1,sl z2 hz2⟩,hn4⟩
 ·show _=some (Value.string (St z1.data.toList))
  rw [St_data]
  exact hc 1 (by omega)
 ·show _=some (Value.string (St z2.data.toList))
  rw [St_data]
  exact hc 2 (by omega)

theorem open_opsF {H:Type} {enc:TypeId × Value→H} {W:World} {a0:Option Addr} {len0 cap0:Nat} {d0:DataW H} {p0:List MemPlace} (h0:DataW.Trod enc Tryz.prog W 0 (fun _=>true) true 24 (.slice a0 len0 cap0) d0 p0)
  (hw:∀ q ∈ DataW.weights Tryz.prog 24 d0,decide (q ≤ reachBytes)=true):OpsU W a0 len0:=by
 obtain ⟨fuel,hf⟩:=h0
 rcases open_slice Tryz.underlying24 hf with ⟨e,_⟩ | ⟨a,len,cap,m,n,D,Pl,e,_,hl,hm,hmm,hx,hel⟩
 ·simp [Value.cells] at e
  obtain ⟨rfl,rfl,rfl⟩:=e
  exact ⟨by omega,fun h=>by omega⟩
 ·simp [Value.cells] at e
  obtain ⟨rfl,rfl,rfl⟩:=e
  simp only [if_true] at hmm
  subst hmm
  have hd:=congrArg Prod.fst hx
  simp only at hd
  have hW:∀ q ∈ DataW.weights Tryz.prog 24 d0,q ≤ reachBytes:=fun q hq=>of_decide_eq_true (hw q hq)
  have hlen:len0 ≤ 1700000000000:=by
   have:=hW ((((List.range len0).map D).length + ((List.range (m - len0)).map fun j=>D (len0 + j)).length) * Tryz.prog.bytesOf 36) (by rw [hd]; simp [DataW.weights,Tryz.underlying24])
   rw [bytesOp] at this
   simp [reachBytes] at this
   omega
  refine ⟨hlen,fun hp=>?_⟩
  obtain ⟨b,off,spot⟩:=a
  have hspot:spot=none:=by
   obtain ⟨cs',h1,_⟩:=hel 0 (by omega)
   rw [cellsOp] at h1
   obtain ⟨_,h2,h3⟩:=World.cells?_some h1
   have h4:=h3 0 (by omega)
   rw [List.getElem?_eq_getElem (by omega)] at h4
   have:=World.cell?_spot h4
   simpa [Addr.add] using this
  subst hspot
  have hop:∀ i,i < len0→∃ o,OpAt W b off i o∧o.n ≤ 9223372036854775807:=by
   intro i hi
   obtain ⟨cs',h1,h2⟩:=hel i (by omega)
   rw [cellsOp] at h1
   obtain ⟨_,h3,h4⟩:=World.cells?_some h1
   refine open_opF (enc:=enc) (x:=(D i,Pl i)) (fun j hj=>?_) h3 h2 (fun q hq=>hw q ?_)
   ·have:=h4 j hj
    rw [World.add_zero_spot,World.add_zero_spot] at this
    exact this
   ·rw [hd]
    simp only [DataW.weights,Tryz.underlying24,List.mem_cons,List.mem_append]
    refine .inr (.inl (all_mem (d:=D i) ?_ q hq))
    exact List.mem_map.2 ⟨i,List.mem_range.2 hi,rfl⟩
  refine ⟨b,off,rfl,?_,hop⟩
  obtain ⟨o,ho,_⟩:=hop 0 hp
  exact cell_block_lt ho.c0

end Go.Proofs.YtknmgefpjdfenaaGreat

