/- Contract of strings.ReplaceAll, laid at this program. -/
import Derived.Test.YtgemgmdnnjaghaaGreatDoorProg
import Derived.Shelf.Strings.Replace
namespace Go.Proofs.YtgemgmdnnjaghaaGreatDoor
open Go.Shelf
end Go.Proofs.YtgemgmdnnjaghaaGreatDoor
