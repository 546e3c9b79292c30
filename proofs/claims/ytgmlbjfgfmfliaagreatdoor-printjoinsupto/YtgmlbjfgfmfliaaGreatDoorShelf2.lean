/- (empty) -/
import Derived.Test.YtgmlbjfgfmfliaaGreatDoorShelf
