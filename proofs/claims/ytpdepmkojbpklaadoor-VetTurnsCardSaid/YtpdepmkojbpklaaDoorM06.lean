/- sync.Once and its lock, in one goroutine; the table of atoms' map is made once. -/
import Derived.Test.YtpdepmkojbpklaaDoorM05
import Derived.Tactics
import Derived.Tactics2
import Derived.Defers
import Derived.Laws.Pointers
import Derived.Laws.LoneSync
import Derived.Laws.NewBlocks
import Derived.Maps.Own
import Derived.Carry
/- sync.Once and its lock, in one goroutine; the table of atoms' map is made once. -/
namespace Go.Proofs.YtpdepmkojbpklaaDoor
open Go.RowKit

end Go.Proofs.YtpdepmkojbpklaaDoor
