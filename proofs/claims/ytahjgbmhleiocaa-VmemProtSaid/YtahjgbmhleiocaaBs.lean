/-
  What is proved here: a slice of bytes as one thing: its address, length, room and the bytes it reads as (for fields of structs); what the frame hands over of one.
  Conditions: none.
-/
import Derived.Test.YtahjgbmhleiocaaBase
import Derived.ProofKit
import Derived.OpenShut
import Derived.ChangeSame
namespace Go.Proofs.Ytahjgbmhleiocaa
open Go.RowKit Go.ChangeShapes Go.WideShapes
set_option linter.unusedVariables false

structure Bs where
  a : Option Addr
  n : Nat
  c : Nat
  zs : List Int
def Bs.zero : Bs := ⟨none, 0, 0, []⟩
structure Bs.Ok (w : World) (B : Nat) (b : Bs) : Prop where
  bys : Bys w B b.a b.n b.zs
  le : b.n ≤ b.c
  max : (b.c : Int) ≤ 9223372036854775807
  nil : b.a = none → b.c = 0
theorem Bs.zero_ok (w : World) (B : Nat) : Bs.zero.Ok w B := ⟨Bys.empty _ _ _, Nat.le_refl _, by decide, fun _ => rfl⟩
theorem Bs.Ok.below {w w' : World} {B : Nat} {b : Bs} (h : b.Ok w B) (hb : Below B w w') : b.Ok w' B := ⟨h.bys.below hb, h.le, h.max, h.nil⟩
theorem Bs.Ok.more {w : World} {B B' : Nat} {b : Bs} (h : b.Ok w B) (hB : B ≤ B') : b.Ok w B' := ⟨h.bys.more hB, h.le, h.max, h.nil⟩
theorem Bs.open {H : Type} {enc : TypeId × Value → H} {P : Program} {w : World} {base : Nat} {held : Bool} {t e : TypeId} {fuel : Nat} {cs : List Value} {x : DataW H × List MemPlace}
    (ht : P.underlying t = some (.slice e)) (he : P.underlying e = some (.int .u8)) (hc : P.cellsOf e = 1) (h : DataW.trod enc P w base (fun _ => true) held fuel t cs = some x) : ∃ b : Bs, b.Ok w w.heap.size ∧ cs = [.slice b.a b.n b.c] := by
  rcases open_ints ht he hc h with ⟨hcs, _⟩ | ⟨a, len, cap, zs, hcs, _, hl, hm, hz, _, hcell, hwz⟩
  · exact ⟨Bs.zero, Bs.zero_ok _ _, hcs⟩
  · have hr : IsRow .u8 w (some a) len cap zs := .inr ⟨a, rfl, hl, hm, by simpa using hz, hcell, hwz⟩
    obtain ⟨h1, h2, h3⟩ := hr.bys
    exact ⟨⟨some a, len, cap, zs.take len⟩, ⟨h1, h2, h3, fun e => by cases e⟩, hcs⟩
end Go.Proofs.Ytahjgbmhleiocaa
