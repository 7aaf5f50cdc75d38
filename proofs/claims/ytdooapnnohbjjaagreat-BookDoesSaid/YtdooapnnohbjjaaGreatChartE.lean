/- Accounts, together. -/
import Derived.Test.YtdooapnnohbjjaaGreatChartC
