/- What is proved: for all sequences of at most 60 right calls, a region of the program's store that was closed is refused by every call from then on, whatever is done behind it; no condition. -/
import Derived.Test.YtfoacgdahonapaaClosedStore
import Derived.Test.YtfoacgdahonapaaSaid
namespace Go.Proofs.Ytfoacgdahonapaa

theorem store_closed : Rows.StoreClosedSaid := closed_said laws

end Go.Proofs.Ytfoacgdahonapaa
