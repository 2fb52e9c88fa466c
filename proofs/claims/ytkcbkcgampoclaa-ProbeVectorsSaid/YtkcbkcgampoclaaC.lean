import Derived.Test.YtkcbkcgampoclaaB
namespace Go.Proofs.Ytkcbkcgampoclaa
open Go.RowKit Amp
attribute [local go_sem] ix0 ix1 ix2 ix3

end Go.Proofs.Ytkcbkcgampoclaa
