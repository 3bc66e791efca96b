/- slices.Sorted(slices.Values(list)): the text GVals. -/
import Derived.Test.YtdkicniciciobaaGreatDoorOkJ25
import Derived.Test.YtdkicniciciobaaGreatDoorOkGVals
namespace Go.Proofs.YtdkicniciciobaaGreatDoor

end Go.Proofs.YtdkicniciciobaaGreatDoor
