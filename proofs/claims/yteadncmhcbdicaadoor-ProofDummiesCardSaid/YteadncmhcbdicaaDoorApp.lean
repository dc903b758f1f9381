/- Slices of bytes of the call's own, behind the words of 64 bits. -/
import Derived.Test.YteadncmhcbdicaaDoorNumU
import Derived.Test.YteadncmhcbdicaaDoorAppB
