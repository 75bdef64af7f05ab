/- disk XXXVI: DiskRenames' walk and what comes in. -/
import Derived.Test.YtonnkfijifdgcaaDli
import Derived.Test.YtonnkfijifdgcaaDlj
