import Derived.Test.YtjodjfllgofkaaaEq
namespace Go.Proofs.Ytjodjfllgofkaaa
open Go.RowKit Amp
attribute [local go_sem] ix0 ix1 ix2 ix3 jx0 jx1 jx2 jx3
attribute [local go_sem] run_eqNum run_neNum

end Go.Proofs.Ytjodjfllgofkaaa
