/- A plan that came in, opened. -/
import Derived.Test.YtbofhdfhhbgdgaaGreatDoorIaJ23
import Derived.Test.YtbofhdfhhbgdgaaGreatDoorIaJ10
import Derived.Test.YtbofhdfhhbgdgaaGreatDoorIaJ5
import Derived.ChangeArms
namespace Go.Proofs.YtbofhdfhhbgdgaaGreatDoor
set_option maxRecDepth 100000
set_option maxHeartbeats 8000000
open Go.ChangeAt Go.ChangeShapes Go.RowKit Go.Shelf Go.WideShapes
set_option linter.unusedVariables false

theorem afb:Tryz.prog.underlying 96=some (.struct (Tryz.prog.fieldsOf 96)):=by kernel_rfl
theorem afh:Tryz.prog.stoodInHeld 96=false:=by kernel_rfl

theorem wC : (Tryz.prog.fieldsOf 96).toList.map (fun f => (f.name, f.type, f.offset)) = [("Seq", 3, 0), ("Tail", 3, 1), ("Used", 3, 2)] := by kernel_rfl

theorem ajM (P:Nat→Int)(k:Nat)(hk:k<3):(Hc P)[k]?=some (.int .i64 (P k)):=by
 have:k=0∨k=1∨k=2:=by omega
 rcases this with rfl | rfl | rfl<;>rfl

theorem aah (P:Nat→Int)(k:Nat)(hk:k<3)(w:World):(part 3 (Hc P) k).run Tryz.prog w=.ok (.int .i64 (P k)) w:=by
 have h:=ajM P k hk
 simp only[part,isAgg,Sem.run_bind,run_underlying Tryz.underlying3,Result.andThen_ok,Sem.run_pure]
 rw[h]
 rfl

theorem qO (P Q : Nat → Int) (w : World) : ∀ fs : List Field, (∀ f ∈ fs, f.name ≠ "_" ∧ f.type = 3 ∧ f.offset < 3) →
  ∃ r:Bool,(Op.eqFields 9999 (Hc P) (Hc Q) fs).run Tryz.prog w=.ok r w∧(r=true↔∀ f∈fs,P f.offset=Q f.offset)
 | [],_=>⟨true,by simp[Op.eqFields],by simp⟩
 | f::fs,h=>by
  obtain⟨h1,h2,h3⟩:=h f (by simp)
  obtain⟨r,hr,hi⟩:=qO P Q w fs (fun g hg=>h g (by simp[hg]))
  by_cases hE:P f.offset=Q f.offset
  ·refine⟨r,?_,by simp[hi,hE]⟩
   simp only[Op.eqFields,h1,ne_eq,not_false_eq_true,if_true,Sem.run_bind,h2,aah P _ h3,aah Q _ h3,Result.andThen_ok,run_equalIn_int w 9998 3 .i64 .i64 _ _ Tryz.underlying3,hE]
   simpa using hr
  ·refine⟨false,?_,by simp[hE]⟩
   simp only[Op.eqFields,h1,ne_eq,not_false_eq_true,if_true,Sem.run_bind,h2,aah P _ h3,aah Q _ h3,Result.andThen_ok,run_equalIn_int w 9998 3 .i64 .i64 _ _ Tryz.underlying3]
   simp[hE]

theorem qM : ∀ f ∈ (Tryz.prog.fieldsOf 96).toList, f.name ≠ "_" ∧ f.type = 3 ∧ f.offset < 3 := by
 have h:=wC
 intro f hf
 have:(f.name,f.type,f.offset)∈(Tryz.prog.fieldsOf 96).toList.map (fun f=>(f.name,f.type,f.offset)):=List.mem_map.2 ⟨f,hf,rfl⟩
 rw[h] at this
 simp only[List.mem_cons,List.not_mem_nil,or_false,Prod.mk.injEq] at this
 rcases this with ⟨a,b,c⟩ | ⟨a,b,c⟩ | ⟨a,b,c⟩<;>exact⟨by rw[a];decide,b,by omega⟩

theorem zy (k:Nat)(hk:k<3):∃ f∈(Tryz.prog.fieldsOf 96).toList,f.offset=k:=by
 have h:=wC
 have:k∈((Tryz.prog.fieldsOf 96).toList.map (fun f=>(f.name,f.type,f.offset))).map (·.2.2):=by
  rw[h]
  simp
  omega
 rw[List.map_map,List.mem_map] at this
 obtain⟨f,hf,e⟩:=this
 exact⟨f,hf,e⟩

theorem pq (P Q:Nat→Int)(w:World):∃ r:Bool,(Op.equalIn 10000 96 (Hv P) (Hv Q)).run Tryz.prog w=.ok r w∧(r=true↔∀ k,k<3→P k=Q k):=by
 obtain⟨r,hr,hi⟩:=qO P Q w _ qM
 refine⟨r,?_,?_⟩
 ·rw[run_equalIn_struct w 9999 96 _ _ afb afh]
  exact hr
 ·rw[hi]
  constructor
  ·intro h k hk
   obtain⟨f,hf,rfl⟩:=zy k hk
   exact h f hf
  ·intro h f hf
   exact h _ (qM f hf).2.2

theorem vI {P Q:Nat→Int}(h:∀ k,k<3→P k=Q k)(w:World):(binOp .neq 96 (Hv P) (Hv Q)).run Tryz.prog w=.ok (.bool false) w:=by
 obtain⟨r,hr,hi⟩:=pq P Q w
 rw[run_neq_struct,hr,hi.2 h];rfl

theorem sG {P Q:Nat→Int}(h:¬ ∀ k,k<3→P k=Q k)(w:World):(binOp .neq 96 (Hv P) (Hv Q)).run Tryz.prog w=.ok (.bool true) w:=by
 obtain⟨r,hr,hi⟩:=pq P Q w
 have:r=false:=by cases r with | false=>rfl | true=>exact absurd (hi.1 rfl) h
 rw[run_neq_struct,hr,this];rfl

end Go.Proofs.YtbofhdfhhbgdgaaGreatDoor
