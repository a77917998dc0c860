/-
  What is proved here: New of package disk.
  Conditions: none.
-/
import Derived.Test.YthogdieplfpopaaDskUse
namespace Go.Proofs.Ythogdieplfpopaa
open Go.RowKit Go.WideMaps Go.Maps
set_option linter.unusedVariables false
set_option linter.unusedSimpArgs false

def S0 (g : Nat) : Sh := ⟨g, none, none, .slice none 0 0, 0, [], [], fun k => k = g, fun _ => False⟩
set_option maxHeartbeats 800000 in
theorem new_ok (w : World) (room : Int) (h0 : -9223372036854775808 ≤ room) (h1 : room ≤ 9223372036854775807) (e : Nat) :
    Calls Try.prog 10 #[.int .i64 room] w fun r w' => r = .returned (ptrV w.heap.size) ∧ At w' (S0 w.heap.size) (dk0 room) 0 e ∧ w.grownBy w' none := by
  have hat : ∀ m, m = (if room < 0 then 0 else room) → At (w.alloc (.cells #[.int .i64 m, .map none, .map none, .slice none 0 0, .int .i64 0, .bool false] 63)) (S0 w.heap.size) (dk0 room) 0 e := fun m hm => by
    refine ⟨⟨?_, rfl, ⟨by show (-9223372036854775808 : Int) ≤ 0; decide, by show (0 : Int) ≤ 9223372036854775807; decide⟩, by unfold dk0; simp only; split <;> omega, rfl⟩, ?_, ?_, fun k hk => ?_⟩
    · rw [hm]; exact Blk.new w _ _
    · exact ⟨rfl, rfl, fun i hi => hi.elim, fun i hi => hi.elim, fun i s hi => hi.elim, fun i s hi => hi.elim, fun i s hi => hi.elim, fun i j hi => hi.elim, fun i s j t k hi => hi.elim, rfl, rfl, (fun b hb => by cases hb), (fun x hx => by cases hx), (fun x hx => by cases hx), List.nodup_nil, List.nodup_nil, (fun x hx => by cases hx), (fun x hx => by cases hx), fun i hi => hi.elim, fun i s k hi => hi.elim, (fun b hb => by cases hb), (fun b hb => by cases hb)⟩
    · exact ⟨World.ownsRow_nil _ _ _ _, fun j hj => absurd hj (by simp [dk0]), Nat.le_refl _, fun k hk => by cases hk⟩
    · have hk : k = w.heap.size := hk
      rw [hk, al_size]; omega
  have hg := fun m => al_grown w w (.cells #[.int .i64 m, .map none, .map none, .slice none 0 0, .int .i64 0, .bool false] 63) (gr_refl w)
  have HAT := Lib.hid hat
  have HG := Lib.hid hg
  clear hat hg
  by_cases hr : room < 0
  · have hm : max room 0 = 0 := by omega
    have hm2 : (if room < 0 then 0 else room) = 0 := by rw [if_pos hr]
    rw [hm2] at HAT
    clear hm2
    go_enter Try.func10, Try.ntmps10
    go_wp2
    go_ret
    exact ⟨rfl, HAT.out _ rfl, HG.out _⟩
  · have hm2 : (if room < 0 then 0 else room) = room := by rw [if_neg hr]
    rw [hm2] at HAT
    clear hm2
    have hm : max room 0 = room := by omega
    go_enter Try.func10, Try.ntmps10
    go_wp2
    go_ret
    exact ⟨rfl, HAT.out _ rfl, HG.out _⟩
end Go.Proofs.Ythogdieplfpopaa
