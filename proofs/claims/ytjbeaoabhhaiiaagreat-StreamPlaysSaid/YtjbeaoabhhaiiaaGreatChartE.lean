/- Accounts, together. -/
import Derived.Test.YtjbeaoabhhaiiaaGreatChartC
