/- slices.Sorted(slices.Values(list)): the text GVals. -/
import Derived.Test.YtdkicniciciobaaGreatDoorOrJ24
import Derived.Test.YtdkicniciciobaaGreatDoorOrGVals
namespace Go.Proofs.YtdkicniciciobaaGreatDoor

end Go.Proofs.YtdkicniciciobaaGreatDoor
