/- The seat has no copies of holds: nothing to lay. -/
import Derived.Test.YtkkhdjchfhmliaaGreatChecked
