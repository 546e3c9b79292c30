/- (empty) -/
import Derived.Test.YtglpabfjnngbnaaGreatDoorShelf
