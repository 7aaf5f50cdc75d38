/- The contract on a map's copy: with the others. -/
import Derived.Test.YtcpgamidimfflaaGreatIter
