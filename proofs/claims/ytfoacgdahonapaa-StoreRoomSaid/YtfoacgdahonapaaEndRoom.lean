/- What is proved: for all sequences of at most 60 right calls, the open regions of the program's store take at most as many pages as promised for their cells, and at least as many as their words need, and as long as no cell of more than 16 words was made no fresh page is taken while one waits; no condition. -/
import Derived.Test.YtfoacgdahonapaaClosedStore
import Derived.Test.YtfoacgdahonapaaSaid
namespace Go.Proofs.Ytfoacgdahonapaa

theorem store_room : Rows.StoreRoomSaid := room_said laws quiet

end Go.Proofs.Ytfoacgdahonapaa
