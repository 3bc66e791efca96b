/- A plan that came in, opened. -/
import Derived.Test.YtlpgfigbpjpdhaaGreatDoorFnJ21
import Derived.Test.YtlpgfigbpjpdhaaGreatDoorFnJ10
import Derived.Test.YtlpgfigbpjpdhaaGreatDoorFnJ6
import Derived.ChangeArms
namespace Go.Proofs.YtlpgfigbpjpdhaaGreatDoor
set_option maxRecDepth 100000
set_option maxHeartbeats 8000000
open Go.ChangeAt Go.ChangeShapes Go.RowKit Go.Shelf Go.WideShapes
set_option linter.unusedVariables false

theorem aeM:Tryz.prog.underlying 118=some (.struct (Tryz.prog.fieldsOf 118)):=by kernel_rfl
theorem aeS:Tryz.prog.stoodInHeld 118=false:=by kernel_rfl

theorem xk : (Tryz.prog.fieldsOf 118).toList.map (fun f => (f.name, f.type, f.offset)) = [("Seq", 3, 0), ("Tail", 3, 1), ("Used", 3, 2)] := by kernel_rfl

theorem ajo (P:Nat→Int)(k:Nat)(hk:k<3):(Hc P)[k]?=some (.int .i64 (P k)):=by
 have:k=0∨k=1∨k=2:=by omega
 rcases this with rfl | rfl | rfl<;>rfl

theorem aaq (P:Nat→Int)(k:Nat)(hk:k<3)(w:World):(part 3 (Hc P) k).run Tryz.prog w=.ok (.int .i64 (P k)) w:=by
 have h:=ajo P k hk
 simp only[part,isAgg,Sem.run_bind,run_underlying Tryz.underlying3,Result.andThen_ok,Sem.run_pure]
 rw[h]
 rfl

theorem rX (P Q : Nat → Int) (w : World) : ∀ fs : List Field, (∀ f ∈ fs, f.name ≠ "_" ∧ f.type = 3 ∧ f.offset < 3) →
  ∃ r:Bool,(Op.eqFields 9999 (Hc P) (Hc Q) fs).run Tryz.prog w=.ok r w∧(r=true↔∀ f∈fs,P f.offset=Q f.offset)
 | [],_=>⟨true,by simp[Op.eqFields],by simp⟩
 | f::fs,h=>by
  obtain⟨h1,h2,h3⟩:=h f (by simp)
  obtain⟨r,hr,hi⟩:=rX P Q w fs (fun g hg=>h g (by simp[hg]))
  by_cases hE:P f.offset=Q f.offset
  ·refine⟨r,?_,by simp[hi,hE]⟩
   simp only[Op.eqFields,h1,ne_eq,not_false_eq_true,if_true,Sem.run_bind,h2,aaq P _ h3,aaq Q _ h3,Result.andThen_ok,run_equalIn_int w 9998 3 .i64 .i64 _ _ Tryz.underlying3,hE]
   simpa using hr
  ·refine⟨false,?_,by simp[hE]⟩
   simp only[Op.eqFields,h1,ne_eq,not_false_eq_true,if_true,Sem.run_bind,h2,aaq P _ h3,aaq Q _ h3,Result.andThen_ok,run_equalIn_int w 9998 3 .i64 .i64 _ _ Tryz.underlying3]
   simp[hE]

theorem rV : ∀ f ∈ (Tryz.prog.fieldsOf 118).toList, f.name ≠ "_" ∧ f.type = 3 ∧ f.offset < 3 := by
 have h:=xk
 intro f hf
 have:(f.name,f.type,f.offset)∈(Tryz.prog.fieldsOf 118).toList.map (fun f=>(f.name,f.type,f.offset)):=List.mem_map.2 ⟨f,hf,rfl⟩
 rw[h] at this
 simp only[List.mem_cons,List.not_mem_nil,or_false,Prod.mk.injEq] at this
 rcases this with ⟨a,b,c⟩ | ⟨a,b,c⟩ | ⟨a,b,c⟩<;>exact⟨by rw[a];decide,b,by omega⟩

theorem zM (k:Nat)(hk:k<3):∃ f∈(Tryz.prog.fieldsOf 118).toList,f.offset=k:=by
 have h:=xk
 have:k∈((Tryz.prog.fieldsOf 118).toList.map (fun f=>(f.name,f.type,f.offset))).map (·.2.2):=by
  rw[h]
  simp
  omega
 rw[List.map_map,List.mem_map] at this
 obtain⟨f,hf,e⟩:=this
 exact⟨f,hf,e⟩

theorem qo (P Q:Nat→Int)(w:World):∃ r:Bool,(Op.equalIn 10000 118 (Hv P) (Hv Q)).run Tryz.prog w=.ok r w∧(r=true↔∀ k,k<3→P k=Q k):=by
 obtain⟨r,hr,hi⟩:=rX P Q w _ rV
 refine⟨r,?_,?_⟩
 ·rw[run_equalIn_struct w 9999 118 _ _ aeM aeS]
  exact hr
 ·rw[hi]
  constructor
  ·intro h k hk
   obtain⟨f,hf,rfl⟩:=zM k hk
   exact h f hf
  ·intro h f hf
   exact h _ (rV f hf).2.2

theorem wu {P Q:Nat→Int}(h:∀ k,k<3→P k=Q k)(w:World):(binOp .neq 118 (Hv P) (Hv Q)).run Tryz.prog w=.ok (.bool false) w:=by
 obtain⟨r,hr,hi⟩:=qo P Q w
 rw[run_neq_struct,hr,hi.2 h];rfl

theorem uf {P Q:Nat→Int}(h:¬ ∀ k,k<3→P k=Q k)(w:World):(binOp .neq 118 (Hv P) (Hv Q)).run Tryz.prog w=.ok (.bool true) w:=by
 obtain⟨r,hr,hi⟩:=qo P Q w
 have:r=false:=by cases r with | false=>rfl | true=>exact absurd (hi.1 rfl) h
 rw[run_neq_struct,hr,this];rfl

end Go.Proofs.YtlpgfigbpjpdhaaGreatDoor
