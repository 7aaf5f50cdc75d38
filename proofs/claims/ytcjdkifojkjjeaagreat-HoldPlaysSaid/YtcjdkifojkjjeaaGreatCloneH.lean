/- No copy of holds is made here: nothing. -/
import Derived.Test.YtcjdkifojkjjeaaGreatProg
