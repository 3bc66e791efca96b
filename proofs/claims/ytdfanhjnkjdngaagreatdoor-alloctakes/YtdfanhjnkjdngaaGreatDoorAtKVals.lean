/- slices.Sorted(slices.Values(list)): the text GVals. -/
import Derived.Test.YtdfanhjnkjdngaaGreatDoorAtJ28
import Derived.Test.YtdfanhjnkjdngaaGreatDoorAtGVals
namespace Go.Proofs.YtdfanhjnkjdngaaGreatDoor

end Go.Proofs.YtdfanhjnkjdngaaGreatDoor
