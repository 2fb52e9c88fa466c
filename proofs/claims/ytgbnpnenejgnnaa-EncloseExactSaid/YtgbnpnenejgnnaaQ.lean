import Derived.Test.YtgbnpnenejgnnaaP
namespace Go.Proofs.Ytgbnpnenejgnnaa
open Go.RowKit Amp
attribute [local go_sem] ix0 ix1 ix2 ix3 jx0 jx1 jx2 jx3

end Go.Proofs.Ytgbnpnenejgnnaa
