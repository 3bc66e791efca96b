/- A block of cells of whatever kind, and all of them written. -/
import Derived.Test.YtknmgefpjdfenaaGreatSfJ1
import Derived.Orders
import Derived.Lib.SlBytesConst
import Derived.Test.YtknmgefpjdfenaaGreatSfJ1
import Derived.Test.YtknmgefpjdfenaaGreatSfJ16
import Derived.OwnWalk
import Derived.Deep.DeepCutAuto
namespace Go.Proofs.YtknmgefpjdfenaaGreat
set_option maxRecDepth 100000
set_option maxHeartbeats 8000000
open Go.RowKit Go.Shelf
set_option linter.unusedVariables false

def Bl (u:World) (g:Nat) (cs:Array Value) (t:TypeId):Prop:=u.heap[g]?=some (.cells cs t (0,0))

theorem Bl.lt {u:World} {g:Nat} {cs:Array Value} {t:TypeId} (h:Bl u g cs t):g < u.heap.size:=(Array.getElem?_eq_some_iff.1 h).1

theorem Bl.new (u:World) (cs:Array Value) (t:TypeId):Bl (u.alloc (.cells cs t)) u.heap.size cs t:=World.alloc_heap_new u _

theorem Bl.call {u u':World} {g:Nat} {cs:Array Value} {t:TypeId} (h:Bl u g cs t) (hb:Below u.heap.size u u'):Bl u' g cs t:=(hb.block g h.lt).trans h

theorem Bl.drew {u:World} {g:Nat} {cs:Array Value} {t:TypeId} (h:Bl u g cs t):Bl u.drew g cs t:=h

theorem Bl.cell {u:World} {g:Nat} {cs:Array Value} {t:TypeId} (h:Bl u g cs t) (k:Nat) (v:Value) (hk:cs[k]?=some v):u.cell? ⟨g,k,none⟩=some v:=by
 unfold Bl at h
 simp only [World.cell?,h]
 exact hk

theorem Bl.free {u:World} {g:Nat} {cs:Array Value} {t:TypeId} (h:Bl u g cs t) (i:Nat):u.frozen? ⟨g,i,none⟩=false:=by
 unfold Bl at h; simp [World.frozen?,h]

theorem Bl.set {u:World} {g:Nat} {cs:Array Value} {t:TypeId} (h:Bl u g cs t) (k:Nat) (v:Value):Bl (u.setCell ⟨g,k,none⟩ v) g (cs.setIfInBounds k v) t:=by
 unfold Bl at *
 rw [setCell_eq_setRow u g k _ t (0,0) _ h]
 exact setRow_heap u g _ _ t _ h

theorem Bl.other {u:World} {g:Nat} {cs:Array Value} {t:TypeId} (h:Bl u g cs t) (b:Addr) (v:Value) (hne:g ≠ b.block):Bl (u.setCell b v) g cs t:=(Below.heap_setCell u b v g hne).trans h

def setAll (u:World) (g:Nat):Nat→List Value→World
 | _,[]=>u
 | k,v :: vs=>setAll (u.setCell ⟨g,k,none⟩ v) g (k + 1) vs

theorem setAll_bl {g:Nat} {t:TypeId}:∀ (vs:List Value) (u:World) (k:Nat) (cs:Array Value),Bl u g cs t→k + vs.length=cs.size→Bl (setAll u g k vs) g (cs.toList.take k ++ vs).toArray t:=by
 intro vs
 induction vs with
 | nil =>
  intro u k cs h hk
  simp only [List.length_nil,Nat.add_zero] at hk
  have:(cs.toList.take k ++ []).toArray=cs:=by
   rw [List.append_nil,List.take_of_length_le (by simp; omega)]
  rw [this]; exact h
 | cons v vs ih =>
  intro u k cs h hk
  simp only [List.length_cons] at hk
  have:=ih (u.setCell ⟨g,k,none⟩ v) (k + 1) (cs.setIfInBounds k v) (h.set k v) (by simp; omega)
  have e:(cs.setIfInBounds k v).toList.take (k + 1) ++ vs=cs.toList.take k ++ (v :: vs):=by
   have hlt:k < cs.toList.length:=by simp; omega
   rw [Array.toList_setIfInBounds,List.take_succ_eq_append_getElem (by simpa using hlt),List.getElem_set_self,List.take_set_of_le (Nat.le_refl _),List.append_assoc]
   rfl
  rw [e] at this
  exact this

theorem setAll_whole {g:Nat} {t:TypeId} (vs:List Value) (u:World) (cs:Array Value) (h:Bl u g cs t) (hk:vs.length=cs.size):Bl (setAll u g 0 vs) g vs.toArray t:=by
 have:=setAll_bl vs u 0 cs h (by omega)
 simpa using this

theorem below_setAll {n g:Nat} (hg:n ≤ g):∀ (vs:List Value) (w u:World) (k:Nat),Below n w u→Below n w (setAll u g k vs):=by
 intro vs
 induction vs with
 | nil=>intro w u k h; exact h
 | cons v vs ih=>intro w u k h; exact ih w _ (k + 1) (h.setCell hg _)

end Go.Proofs.YtknmgefpjdfenaaGreat
