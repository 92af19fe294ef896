import Derived.Test.YtlednkbnhnjgcaaRefMove
namespace Go.Proofs.Ytlednkbnhnjgcaa
open Go.RowKit

end Go.Proofs.Ytlednkbnhnjgcaa
