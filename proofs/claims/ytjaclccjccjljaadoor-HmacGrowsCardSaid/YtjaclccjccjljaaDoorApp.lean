/- Slices of bytes of the call's own, behind the reference's words. -/
import Derived.Test.YtjaclccjccjljaaDoorRefA
import Derived.Test.YtjaclccjccjljaaDoorAppB
