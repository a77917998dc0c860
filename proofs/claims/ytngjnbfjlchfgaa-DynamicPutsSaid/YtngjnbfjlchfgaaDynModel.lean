/-
  What is proved here: 'model' of the statements of dynamic: what an Info is for the reference.
  Conditions: none but that the arguments are values of their types.
-/
import Derived.Test.YtngjnbfjlchfgaaDynRef
namespace Go.Proofs.Ytngjnbfjlchfgaa
open Go.RowKit
set_option linter.unusedVariables false
set_option linter.unusedSimpArgs false

/-- An Info of the program, as a value. -/
def infoV (a : Option Addr) (n c : Nat) (V : List Int) : Value :=
  .agg #[.slice a n c, .int .u64 (V.getD 0 0), .int .u64 (V.getD 1 0), .int .u64 (V.getD 2 0), .int .u64 (V.getD 3 0), .int .u64 (V.getD 4 0), .int .u64 (V.getD 5 0), .int .u64 (V.getD 6 0)]
set_option maxHeartbeats 800000 in
theorem model_any (a : Option Addr) (n c : Nat) (V : List Int) (w : World) (hV : ∀ x ∈ V, 0 ≤ x ∧ x ≤ 18446744073709551615) (hl : V.length = 7) :
    Calls Try.prog 12 #[infoV a n c V] w fun r w' => (∃ g, r = .returned (.agg #[.slice a n c, .slice (some ⟨g, 0, none⟩) 7 7]) ∧ Nus w' w'.heap.size (some ⟨g, 0, none⟩) 7 V) ∧ Below w.heap.size w w' := by
  rcases V with _ | ⟨x0, _ | ⟨x1, _ | ⟨x2, _ | ⟨x3, _ | ⟨x4, _ | ⟨x5, _ | ⟨x6, _ | ⟨x7, V⟩⟩⟩⟩⟩⟩⟩⟩
  all_goals first | (exfalso; simp at hl; done) | (exfalso; simp at hl; omega) | skip
  have HB : Hid (∀ o o' o'', Below w.heap.size w (((w.alloc o).alloc o').alloc o'')) := Lib.hid (fun o o' o'' => (((Below.refl _ _).alloc (Nat.le_refl _) o).alloc (by simp) o').alloc (by simp; omega) o'')
  have HN : Hid (∀ (W : World) (G : Nat), G = W.heap.size → Nus (W.alloc (.cells #[.int .u64 x0, .int .u64 x1, .int .u64 x2, .int .u64 x3, .int .u64 x4, .int .u64 x5, .int .u64 x6] 23)) (W.heap.size + 1) (some ⟨G, 0, none⟩) 7 [x0, x1, x2, x3, x4, x5, x6]) := Lib.hid (fun W G e => e ▸ Nus.lit W [x0, x1, x2, x3, x4, x5, x6] hV 23)
  unfold infoV
  simp only [List.getD_cons_zero, List.getD_cons_succ]
  clear hV hl
  go_enter Try.func12, Try.ntmps12
  go_wp2
  refine bodyPost_ret (v := .agg #[.slice a n c, .slice (some ⟨w.heap.size + 2, 0, none⟩) 7 7]) (by simp [results, Try.results12, go_sem]) rfl ⟨⟨_, rfl, ?_⟩, ?_⟩
  · exact (HN.out _ _ (by simp)).more (by simp)
  · exact HB.out _ _ _
end Go.Proofs.Ytngjnbfjlchfgaa
