/-
  All that the walk of laws.FnTypes wants, together. No statement is proved here.
-/
import Derived.Test.YtjchjdcaampghaaDoorTDd
import Derived.Test.YtjchjdcaampghaaDoorTDe
import Derived.Test.YtjchjdcaampghaaDoorTDf
import Derived.Test.YtjchjdcaampghaaDoorTFj
import Derived.Test.YtjchjdcaampghaaDoorTFs
import Derived.Test.YtjchjdcaampghaaDoorTSl
import Derived.Test.YtjchjdcaampghaaDoorTSe
import Derived.Test.YtjchjdcaampghaaDoorTEi
import Derived.Test.YtjchjdcaampghaaDoorSameG
import Derived.Test.YtjchjdcaampghaaDoorTByL
import Derived.Test.YtjchjdcaampghaaDoorTRdI
import Derived.Test.YtjchjdcaampghaaDoorTSize
