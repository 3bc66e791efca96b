/- A list of numbers that came in, opened. -/
import Derived.Test.YtdfanhjnkjdngabGreatDoorAkJ14
import Derived.Test.YtdfanhjnkjdngabGreatDoorAkJ14
import Derived.Deep.Slices
import Derived.SizedLaws
namespace Go.Proofs.YtdfanhjnkjdngabGreatDoor
set_option maxRecDepth 100000
set_option maxHeartbeats 8000000
open Go.ChangeAt Go.ChangeShapes Go.RowKit Go.Shelf Go.WideShapes Go.Deep
set_option linter.unusedVariables false

theorem open_irow2 {H:Type} {enc:TypeId × Value→H} {W:World} {a0:Option Addr} {len0 cap0:Nat} {d0:DataW H} {p0:List MemPlace} (h0:DataW.Trod enc Tryz.prog W 0 (fun _=>true) true 37 (.slice a0 len0 cap0) d0 p0)
  (hsz:∀ elems spare,d0=.slice elems spare→(elems.length + spare.length) * Tryz.prog.bytesOf 3 ≤ reachBytes):∃ ns,IHas W a0 len0 ns∧len0 ≤ 17592186043904∧len0 ≤ cap0∧cap0 ≤ 9223372036854775807:=by
 obtain ⟨ns,h1,h2⟩:=open_irow h0 hsz
 refine ⟨ns,h1,h2,?_⟩
 obtain ⟨fuel,hf⟩:=h0
 rcases open_slice Tryz.underlying37 hf with ⟨e,_⟩ | ⟨a,len,cap,m,n,D,Pl,e,_,hl,hm,_⟩
 ·simp [Value.cells] at e
  omega
 ·simp [Value.cells] at e
  unfold maxLen at hm
  omega

def IArg (W:World) (a:Option Addr) (len cap:Nat) (ns:List Int):Prop:=IHas W a len ns∧len ≤ 17592186043904∧(len ≤ cap∧cap ≤ 9223372036854775807)∧(a=none→cap=0∧len=0)

theorem open_irow3 {H:Type} {enc:TypeId × Value→H} {W:World} {a0:Option Addr} {len0 cap0:Nat} {d0:DataW H} {p0:List MemPlace} (h0:DataW.Trod enc Tryz.prog W 0 (fun _=>true) true 37 (.slice a0 len0 cap0) d0 p0)
  (hsz:∀ elems spare,d0=.slice elems spare→(elems.length + spare.length) * Tryz.prog.bytesOf 3 ≤ reachBytes):∃ ns,IArg W a0 len0 cap0 ns:=by
 obtain ⟨ns,h1,h2,h3⟩:=open_irow2 h0 hsz
 refine ⟨ns,h1,h2,h3,?_⟩
 obtain ⟨fuel,hf⟩:=h0
 rcases open_slice Tryz.underlying37 hf with ⟨e,_⟩ | ⟨a,len,cap,m,n,D,Pl,e,_⟩
 ·simp [Value.cells] at e
  intro _
  omega
 ·simp [Value.cells] at e
  intro e0
  rw [e0] at e
  cases e.1

end Go.Proofs.YtdfanhjnkjdngabGreatDoor
