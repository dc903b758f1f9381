/- Nothing more of the shelf is wanted here. -/
import Derived.Test.YtpihpoapapfnkaaGreatDoorShelf
