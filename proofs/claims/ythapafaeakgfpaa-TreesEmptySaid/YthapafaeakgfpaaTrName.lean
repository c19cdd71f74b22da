/- Is it a name: the document's Name (NameB has it). -/
import Derived.Test.YthapafaeakgfpaaTrKids
import Derived.Test.YthapafaeakgfpaaNameB
