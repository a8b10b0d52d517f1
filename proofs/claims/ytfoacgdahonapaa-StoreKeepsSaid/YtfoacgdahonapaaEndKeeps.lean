/- What is proved: for all sequences of at most 60 right calls, each cell of an open region of the program's store has what was set there last, or 0, and just as many fields as it was made with, no two cells of open regions have a word in common, and Words is the sum of their words; no condition. -/
import Derived.Test.YtfoacgdahonapaaClosedStore
import Derived.Test.YtfoacgdahonapaaSaid
namespace Go.Proofs.Ytfoacgdahonapaa

theorem store_keeps : Rows.StoreKeepsSaid := keeps_said laws

end Go.Proofs.Ytfoacgdahonapaa
