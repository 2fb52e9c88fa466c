import Derived.Test.YtkcbkcgampoclaaEq
namespace Go.Proofs.Ytkcbkcgampoclaa
open Go.RowKit Amp
attribute [local go_sem] ix0 ix1 ix2 ix3
attribute [local go_sem] run_eqNum run_neNum

end Go.Proofs.Ytkcbkcgampoclaa
