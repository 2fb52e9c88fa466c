import Derived.Test.YtpjfpkhcadombaaIb
import Derived.RegionTactic
import Derived.Deep.RegionHeld3
namespace Amp
/-- An item of a circuit. -/
structure It where
  kind : Int
  at' : Int
  n : Int
  name : ByteArray
end Amp
