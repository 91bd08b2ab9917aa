/- Nothing is laid. -/
import Derived.Test.YtpfjpeddplkbgaaChecked
