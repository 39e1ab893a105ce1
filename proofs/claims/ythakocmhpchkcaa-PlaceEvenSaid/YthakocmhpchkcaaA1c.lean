import Derived.Test.YthakocmhpchkcaaA1
namespace Go.Proofs.Ythakocmhpchkcaa
open Go.RowKit Go.Sort
set_option maxRecDepth 100000
set_option maxHeartbeats 1000000

end Go.Proofs.Ythakocmhpchkcaa
