/- The set of ASCII signs. -/
import Derived.Test.YtockimgedckheaaGreatDoorShelf
