/-
  What is proved here: a few facts of the library under shorter names.
  Conditions: none.
-/
import Derived.Lib.Hide
namespace Go.Proofs.YtclgbdfkdbbinaaGreat
open Go
theorem hZz {p : Prop} (h : p) : RowKit.Hid p := h
theorem lZr (n : Nat) : n ≤ n := Nat.le_refl n
theorem gZe {α : Type _} {a : α} {l : List α} {i : Nat} : l.getD i a = l[i]?.getD a := List.getD_eq_getElem?_getD
theorem gZg {α : Type _} {l : List α} {i : Nat} (h : i < l.length) : l[i]? = some l[i] := List.getElem?_eq_getElem h
theorem lZa {α : Type _} {as bs : List α} : (as ++ bs).length = as.length + bs.length := List.length_append
theorem dZc {p : Prop} (h : p := by decide) : p := h
theorem oZm {p : Prop} (h : p := by omega) : p := h
end Go.Proofs.YtclgbdfkdbbinaaGreat
