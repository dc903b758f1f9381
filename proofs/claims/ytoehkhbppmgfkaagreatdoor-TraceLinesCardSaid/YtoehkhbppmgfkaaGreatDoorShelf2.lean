/- The shelf. -/
import Derived.Test.YtoehkhbppmgfkaaGreatDoorShelf
