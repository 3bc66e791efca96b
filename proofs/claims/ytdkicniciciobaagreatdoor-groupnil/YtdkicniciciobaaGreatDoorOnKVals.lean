/- slices.Sorted(slices.Values(list)): the text GVals. -/
import Derived.Test.YtdkicniciciobaaGreatDoorOnJ25
import Derived.Test.YtdkicniciciobaaGreatDoorOnGVals
namespace Go.Proofs.YtdkicniciciobaaGreatDoor

end Go.Proofs.YtdkicniciciobaaGreatDoor
