import Derived.Test.YtanlaannkdiieaaD7
namespace Go.Proofs.Ytanlaannkdiieaa
open Go.RowKit Go.Sort
set_option maxRecDepth 100000
set_option maxHeartbeats 1000000

end Go.Proofs.Ytanlaannkdiieaa
