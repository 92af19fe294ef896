import Derived.Test.YtlednkbnhnjgcaaRefBit
import Derived.Test.YtlednkbnhnjgcaaNum2
import Derived.Test.YtlednkbnhnjgcaaNumMem2
namespace Go.Proofs.Ytlednkbnhnjgcaa
open Go.RowKit

end Go.Proofs.Ytlednkbnhnjgcaa
