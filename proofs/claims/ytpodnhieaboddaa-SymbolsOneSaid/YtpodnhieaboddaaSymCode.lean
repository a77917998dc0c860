/-
  What is proved here: nothing new: package symbols' contracts in one text: Put, Table, Bind, Kind, Defined, Check.
  Conditions: none.
-/
import Derived.Test.YtpodnhieaboddaaSymPut
import Derived.Test.YtpodnhieaboddaaSymTab
import Derived.Test.YtpodnhieaboddaaSymChk
namespace Go.Proofs.Ytpodnhieaboddaa
end Go.Proofs.Ytpodnhieaboddaa
