/- (empty) -/
import Derived.Test.YtlabcadpkdgjnaaGreatDoorShelf
