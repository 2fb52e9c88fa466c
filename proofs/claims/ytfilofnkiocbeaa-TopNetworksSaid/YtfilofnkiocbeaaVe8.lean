import Derived.Test.YtfilofnkiocbeaaVc8
import Derived.Test.YtfilofnkiocbeaaVd8
namespace Go.Proofs.Ytfilofnkiocbeaa
open Go.RowKit Ben
theorem halR_0 : HalR 0 := fun cap m dap base a ao bo p q f w hm hb P ha hc hd => hal_0' cap m dap base a ao bo p q f w hm hb P ha hc hd
theorem halR_1 : HalR 1 := fun cap m dap base a ao bo p q f w hm hb P ha hc hd => hal_1' cap m dap base a ao bo p q f w hm hb P ha hc hd
theorem halR_2 : HalR 2 := fun cap m dap base a ao bo p q f w hm hb P ha hc hd => hal_2' cap m dap base a ao bo p q f w hm hb P ha hc hd
theorem waysR_0 : WaysR 0 := rways_zero
theorem waysR_1 : WaysR 1 := rways_0 halR_0 waysR_0
theorem waysR_2 : WaysR 2 := rways_1 halR_1 waysR_1
theorem waysR_3 : WaysR 3 := rways_2 halR_2 waysR_2
/-- The reference's ways, at every level. -/
theorem waysR_any : ∀ k, k ≤ 3 → WaysR k
  | 0, _ => waysR_0
  | 1, _ => waysR_1
  | 2, _ => waysR_2
  | 3, _ => waysR_3
  | k + 4, h => by omega
end Go.Proofs.Ytfilofnkiocbeaa
