/- Nothing of the library is laid here. -/
import Derived.Test.YtifkombocmdmfaaChecked
