/- Accounts, together. -/
import Derived.Test.YtcgonkcgdenmdaaChartC
