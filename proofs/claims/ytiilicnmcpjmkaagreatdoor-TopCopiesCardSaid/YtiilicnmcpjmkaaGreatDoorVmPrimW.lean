/- All given contracts of the written cards in one. -/
import Derived.Test.YtiilicnmcpjmkaaGreatDoorVmPrimN
import Derived.Test.YtiilicnmcpjmkaaGreatDoorVmPrimE
