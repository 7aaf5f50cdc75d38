/- Accounts, together. -/
import Derived.Test.YtcjdkifojkjjeaaGreatChartC
