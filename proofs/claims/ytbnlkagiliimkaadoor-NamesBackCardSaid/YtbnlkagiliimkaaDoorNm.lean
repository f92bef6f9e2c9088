/-
  Own work. The contracts of package names, all six.
-/
import Derived.Test.YtbnlkagiliimkaaDoorNm2
import Derived.Test.YtbnlkagiliimkaaDoorNm4
import Derived.Test.YtbnlkagiliimkaaDoorRq
import Derived.Test.YtbnlkagiliimkaaDoorRx
