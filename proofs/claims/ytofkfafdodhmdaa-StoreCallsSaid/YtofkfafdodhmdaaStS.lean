/- Texts beside calls. Conditions: the slices hold them, a million at most. -/
import Derived.Test.YtofkfafdodhmdaaStR
import Derived.Test.YtofkfafdodhmdaaStSa
