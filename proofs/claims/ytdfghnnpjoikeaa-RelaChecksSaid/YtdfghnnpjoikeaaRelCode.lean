/-
  What is proved here: nothing new: package rela's contracts in one text: Put, Table, Check, Value.
  Conditions: none.
-/
import Derived.Test.YtdfghnnpjoikeaaRelTab
import Derived.Test.YtdfghnnpjoikeaaRelChk
namespace Go.Proofs.Ytdfghnnpjoikeaa
end Go.Proofs.Ytdfghnnpjoikeaa
