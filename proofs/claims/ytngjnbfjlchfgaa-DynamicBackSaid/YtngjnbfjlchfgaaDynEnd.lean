/-
  What is proved here: words for the last statement of the statements of dynamic: an Info as the model has it; both Gets in the same words.
  Conditions: none.
-/
import Derived.Test.YtngjnbfjlchfgaaDynAwake
import Derived.Test.YtngjnbfjlchfgaaFEnd
namespace Go.Proofs.Ytngjnbfjlchfgaa
open Go.RowKit
set_option linter.unusedVariables false

/-- An Info as the model has it. -/
def Mdl (a : Option Addr) (n c : Nat) (V : List Int) (u : Value) (w : World) : Prop := ∃ g, u = .agg #[.slice a n c, .slice (some ⟨g, 0, none⟩) 7 7] ∧ Nus w w.heap.size (some ⟨g, 0, none⟩) 7 V
theorem Mdl.mono (a : Option Addr) (n c : Nat) (V : List Int) : Mono (Mdl a n c V) := fun _ _ _ h hb => by
  obtain ⟨g, e, hm⟩ := h
  exact ⟨g, e, (hm.below hb).more hb.size⟩
/-- What the code's Get tells, with the seven values written out. -/
theorem TellsC.parts {st : StD} {e : Int} {r : Ending} {w' : World} (h : TellsC st e r w') : ∃ (na : Option Addr) (nn nc : Nat) (x0 x1 x2 x3 x4 x5 x6 : Int), st.v = [x0, x1, x2, x3, x4, x5, x6] ∧ r = .returned (.tuple #[.agg #[.slice na nn nc, .int .u64 x0, .int .u64 x1, .int .u64 x2, .int .u64 x3, .int .u64 x4, .int .u64 x5, .int .u64 x6], .int .i64 e]) ∧ Nus w' w'.heap.size na nn st.nd ∧ (nn : Int) ≤ 9223372036854775807 ∧ ∀ n ∈ st.v, 0 ≤ n ∧ n ≤ 18446744073709551615 := by
  obtain ⟨na, nn, nc, rfl, h1, h2, h3, h4⟩ := h
  obtain ⟨x0, x1, x2, x3, x4, x5, x6, hv⟩ := list7 h3
  refine ⟨na, nn, nc, x0, x1, x2, x3, x4, x5, x6, hv, ?_, h1, h2, h4⟩
  rw [hv]; rfl
theorem model_parts (a : Option Addr) (n c : Nat) (x0 x1 x2 x3 x4 x5 x6 : Int) (w : World) (hV : ∀ x ∈ [x0, x1, x2, x3, x4, x5, x6], 0 ≤ x ∧ x ≤ 18446744073709551615) :
    Calls Try.prog 12 #[.agg #[.slice a n c, .int .u64 x0, .int .u64 x1, .int .u64 x2, .int .u64 x3, .int .u64 x4, .int .u64 x5, .int .u64 x6]] w fun r w' => (∃ u, r = .returned u ∧ Mdl a n c [x0, x1, x2, x3, x4, x5, x6] u w') ∧ Below w.heap.size w w' :=
  (model_any a n c [x0, x1, x2, x3, x4, x5, x6] w hV rfl).mono fun _ _ h => by
    obtain ⟨⟨g, rfl, hn⟩, hb⟩ := h
    exact ⟨⟨_, rfl, g, rfl, hn⟩, hb⟩
theorem k7 {w : World} {g : Nat} {v0 v1 v2 v3 v4 v5 v6 : Value} {t : TypeId} (h : Blk w g #[v0, v1, v2, v3, v4, v5, v6] t) :
    w.cell? ⟨g, 0, none⟩ = some v0 ∧ w.cell? ⟨g, 1, none⟩ = some v1 ∧ w.cell? ⟨g, 2, none⟩ = some v2 ∧ w.cell? ⟨g, 3, none⟩ = some v3 ∧ w.cell? ⟨g, 4, none⟩ = some v4 ∧ w.cell? ⟨g, 5, none⟩ = some v5 ∧ w.cell? ⟨g, 6, none⟩ = some v6 :=
  ⟨h.cell 0, h.cell 1, h.cell 2, h.cell 3, h.cell 4, h.cell 5, h.cell 6⟩
theorem put_parts (B : Nat) (a : Option Addr) (n c : Nat) (N : List Int) (x0 x1 x2 x3 x4 x5 x6 : Int) (w : World) (h1 : Nus w B a n N) (hV : ∀ x ∈ [x0, x1, x2, x3, x4, x5, x6], 0 ≤ x ∧ x ≤ 18446744073709551615) (hB : B ≤ w.heap.size) (hn : n ≤ 1000) :
    Calls Try.prog 10 #[.agg #[.slice a n c, .int .u64 x0, .int .u64 x1, .int .u64 x2, .int .u64 x3, .int .u64 x4, .int .u64 x5, .int .u64 x6]] w fun r w' => (∃ u, r = .returned u ∧ w'.ownsRow w.heap.size 5 1 u (putBy N [x0, x1, x2, x3, x4, x5, x6]).length ((putBy N [x0, x1, x2, x3, x4, x5, x6]).map (Value.int .u8))) ∧ Below w.heap.size w w' :=
  put_ok B a n c N [x0, x1, x2, x3, x4, x5, x6] w h1 hV rfl hB hn
theorem own_slice_cap {w : World} {base n : Nat} {e : TypeId} {v : Value} {xs : List Value} (h : w.ownsRow base e 1 v n xs) : ∃ a c, v = .slice a n c ∧ n ≤ c ∧ (c : Int) ≤ 9223372036854775807 := by
  rcases h.2 with ⟨hv, e0⟩ | ⟨g, c, cur, hv, _, _, h1, h2, _⟩
  · exact ⟨none, 0, by rw [hv, e0], by omega, by omega⟩
  · exact ⟨_, _, hv, h1, by unfold maxLen at h2; omega⟩
theorem own_some_cap {w : World} {base n : Nat} {e : TypeId} {v : Value} {xs : List Value} (h : w.ownsRow base e 1 v n xs) (h0 : 0 < n) : ∃ g c, v = .slice (some ⟨g, 0, none⟩) n c ∧ base ≤ g ∧ n ≤ c ∧ (c : Int) ≤ 9223372036854775807 := by
  rcases h.2 with ⟨hv, e0⟩ | ⟨g, c, cur, hv, hg, _, h1, h2, _⟩
  · omega
  · exact ⟨_, _, hv, hg, h1, by unfold maxLen at h2; omega⟩
theorem own_Reads {w : World} {base : Nat} {u : Value} {zs : List Int} (h : w.ownsRow base 5 1 u zs.length (zs.map (Value.int .u8))) (hz : ∀ n ∈ zs, 0 ≤ n ∧ n ≤ 255) : Reads zs u w := by
  obtain ⟨a, c, rfl⟩ := own_slice h
  exact ⟨a, c, rfl, Bys.own hz h⟩
theorem putBy_bd (N V : List Int) : ∀ n ∈ putBy N V, 0 ≤ n ∧ n ≤ 255 := entsB_bd _
end Go.Proofs.Ytngjnbfjlchfgaa
