/- A scope with one label, over which the run flows at first. -/
import Derived.Test.YtokngjcfkkceiaaGreatDoorInJ1
import Derived.WalkMore
import Derived.ScopeJumps
namespace Go.Proofs.YtokngjcfkkceiaaGreatDoor
set_option maxRecDepth 100000
set_option maxHeartbeats 8000000
open Go.RowKit Go.Shelf
set_option linter.unusedVariables false

theorem jump_mono {Q:Exit→Act→World→Prop}{l:Nat}{J J':Act→World→Prop}(h:∀ a w,J a w→J' a w):∀ e a w,Exit.jump l J Q e a w→Exit.jump l J' Q e a w:=by
 intro e a w hq
 cases e with
 | goto l'=>exact⟨hq.1,h a w hq.2⟩
 | normal=>exact hq
 | exit id=>exact hq
 | ret=>exact hq
 | panic ch=>exact hq
 | outgrown=>exact hq

theorem wp_scope_one {P:Program}{a:Act}{w:World}{Q:Exit→Act→World→Prop}{c r:Code}(l:Nat)(J:Act→World→Prop)(μ:Act→World→Nat)(hf:findLabel c l=some (.seq .skip r))
  (pass:∀ a w,J a w→r.wp P (Exit.jump l (fun a' w'=>J a' w'∧μ a' w'<μ a w) Q) a w)
  (first:(∀ a w,J a w→r.wp P (Exit.jump l J Q) a w)→c.wp P (Exit.jump l J Q) a w):(Code.scope c).wp P Q a w :=
 wp_scope_jumps l J μ hf (first (fun a w h=>wp_mono (pass a w h) (jump_mono (fun _ _ h=>h.1)))) (fun a w h=>wp_seq (x:=.skip) (wp_skip (pass a w h)))

def lenOf:Value→Nat | .slice _ n _=>n | _=>0

end Go.Proofs.YtokngjcfkkceiaaGreatDoor
