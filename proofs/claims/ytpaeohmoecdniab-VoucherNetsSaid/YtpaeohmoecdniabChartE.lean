/- Accounts, together. -/
import Derived.Test.YtpaeohmoecdniabChartC
