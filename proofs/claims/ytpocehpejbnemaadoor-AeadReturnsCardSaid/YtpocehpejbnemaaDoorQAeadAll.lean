/-
  All that the laws of chapter 12 use.
-/
import Derived.Test.YtpocehpejbnemaaDoorQAeadLaw
import Derived.Test.YtpocehpejbnemaaDoorQLaidQ
import Derived.Test.YtpocehpejbnemaaDoorQChange
import Derived.Test.YtpocehpejbnemaaDoorQRAeadTag

