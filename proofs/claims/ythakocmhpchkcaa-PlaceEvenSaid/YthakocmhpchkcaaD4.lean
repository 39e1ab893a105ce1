import Derived.Test.YthakocmhpchkcaaD3
namespace Go.Proofs.Ythakocmhpchkcaa
open Go.RowKit Go.Sort
set_option maxRecDepth 100000
set_option maxHeartbeats 2000000

end Go.Proofs.Ythakocmhpchkcaa
