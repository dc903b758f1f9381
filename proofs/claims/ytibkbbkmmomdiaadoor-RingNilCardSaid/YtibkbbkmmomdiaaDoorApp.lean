/- Slices of bytes of the call's own, behind the words of 64 bits. -/
import Derived.Test.YtibkbbkmmomdiaaDoorNumU
import Derived.Test.YtibkbbkmmomdiaaDoorAppB
