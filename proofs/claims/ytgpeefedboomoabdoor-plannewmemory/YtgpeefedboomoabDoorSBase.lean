/- What the texts on sums stand on. -/
import Derived.Test.YtgpeefedboomoabDoorSame
import Derived.BigQuiet
import Derived.Deep.QuietTactic
import Derived.OpenShut
import Derived.Laws.BitsAllLaws
