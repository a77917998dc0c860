/-
  What is proved here: the document's examples hold: 'awake' returns true, and writes nothing that was there.
  Conditions: none.
-/
import Derived.Test.YtjcjngmcjlffaaaOctRefs
import Derived.Test.YtjcjngmcjlffaaaOctRound
namespace Go.Proofs.Ytjcjngmcjlffaaa
open Go.RowKit
set_option linter.unusedVariables false

/-- A new block of bytes reads as its list. -/
theorem Bys.alloc_new (w : World) (zs : List Int) (hz : ∀ n ∈ zs, 0 ≤ n ∧ n ≤ 255) (t : TypeId) : Bys (w.alloc (.cells (zs.map (Value.int .u8)).toArray t)) (w.heap.size + 1) (some ⟨w.heap.size, 0, none⟩) zs.length zs := by
  refine ⟨rfl, hz, fun h => ⟨w.heap.size, 0, rfl, by omega, fun i hi => ?_⟩⟩
  rw [Nat.zero_add, World.cell?_alloc_at _ _ _ _ rfl]
  have := getElem_map_u8 hi
  simpa using this

theorem get_ex (B g : Nat) (w : World) (hb : Bys w B (some ⟨g, 0, none⟩) 4 [1, 2, 3, 4]) :
    Calls Try.prog 12 #[.slice (some ⟨g, 0, none⟩) 4 4, .int .u64 1, .int .i64 2] w fun e w' => e = .returned (.tuple #[.int .u64 770, .int .i64 0]) ∧ w = w' :=
  get_ok B (some ⟨g, 0, none⟩) 4 4 [1, 2, 3, 4] 1 2 w hb (by decide) (by decide) (by decide)

theorem set_ex (B g N : Nat) (w : World) (hb : Bys w B (some ⟨g, 0, none⟩) 3 [1, 2, 3]) (hB : B ≤ w.heap.size) (hN : w.heap.size = N) :
    Calls Try.prog 14 #[.slice (some ⟨g, 0, none⟩) 3 3, .int .u64 1, .int .i64 2, .int .u64 513] w fun e w' =>
      e = .returned (.tuple #[.slice (some ⟨N, 0, none⟩) 3 3, .int .i64 0]) ∧ Bys w' w'.heap.size (some ⟨N, 0, none⟩) 3 [1, 1, 2] ∧ Below N w w' := by
  subst hN
  exact (set_ok B (some ⟨g, 0, none⟩) 3 3 [1, 2, 3] 1 2 513 w hb hB (by decide) (by decide) (by decide) (by decide) (by decide)).mono fun e w' ⟨h1, h2, h3⟩ =>
    ⟨h1, Bys.own (zs := [1, 1, 2]) (by decide) h2, h3⟩

theorem cut_ex (B g N : Nat) (w : World) (hb : Bys w B (some ⟨g, 0, none⟩) 3 [1, 2, 3]) (hB : B ≤ w.heap.size) (hN : w.heap.size = N) :
    Calls Try.prog 16 #[.slice (some ⟨g, 0, none⟩) 3 3, .int .u64 1, .int .u64 2] w fun e w' =>
      e = .returned (.tuple #[.slice (some ⟨N, 0, none⟩) 2 2, .int .i64 0]) ∧ Bys w' w'.heap.size (some ⟨N, 0, none⟩) 2 [2, 3] ∧ Below N w w' := by
  subst hN
  exact (cut_ok B (some ⟨g, 0, none⟩) 3 3 [1, 2, 3] 1 2 w hb hB (by decide) (by decide) (by decide) (by decide)).mono fun e w' ⟨h1, h2, h3⟩ =>
    ⟨h1, Bys.own (zs := [2, 3]) (by decide) h2, h3⟩

/-- The blocks that 'awake' writes out. -/
theorem new4 (w : World) : Bys (w.alloc (.cells #[.int .u8 1, .int .u8 2, .int .u8 3, .int .u8 4] 5)) (w.heap.size + 1) (some ⟨w.heap.size, 0, none⟩) 4 [1, 2, 3, 4] := Bys.alloc_new w [1, 2, 3, 4] (by decide) 5
theorem new3 (w : World) (N : Nat) (hN : w.heap.size = N) : Bys (w.alloc (.cells #[.int .u8 1, .int .u8 2, .int .u8 3] 5)) (N + 1) (some ⟨N, 0, none⟩) 3 [1, 2, 3] := by
  subst hN
  exact Bys.alloc_new w [1, 2, 3] (by decide) 5

theorem p2_256 : IsP2 256 := ⟨8, by decide, rfl⟩
theorem up_ex (w : World) : Calls Try.prog 18 #[.int .u64 257, .int .u64 256] w fun e w' => e = .returned (.tuple #[.int .u64 512, .int .i64 0]) ∧ w = w' :=
  up_next 257 256 w (by decide) (by decide) p2_256 (by decide) (by decide)
theorem down_ex (w : World) : Calls Try.prog 20 #[.int .u64 257, .int .u64 256] w fun e w' => e = .returned (.tuple #[.int .u64 256, .int .i64 0]) ∧ w = w' :=
  down_ok 257 256 w (by decide) (by decide) p2_256
theorem meet_ex1 (w : World) : Calls Try.prog 23 #[.int .u64 0, .int .u64 6, .int .u64 5, .int .u64 2] w fun e w' => e = .returned (.bool true) ∧ w = w' :=
  meet_any 0 6 5 2 w (by decide) (by decide) (by decide) (by decide) (by decide) (by decide)
theorem meet_ex2 (w : World) : Calls Try.prog 23 #[.int .u64 0, .int .u64 5, .int .u64 5, .int .u64 2] w fun e w' => e = .returned (.bool false) ∧ w = w' :=
  meet_any 0 5 5 2 w (by decide) (by decide) (by decide) (by decide) (by decide) (by decide)

/-- 'string(b)' of a slice that reads as a list. -/
theorem Bys.conv {w : World} {B : Nat} {a : Option Addr} {len : Nat} {zs : List Int} (h : Bys w B a len zs) (cap : Nat) :
    (convert 22 9 (.slice a len cap)).run Try.prog w = .ok (.string (strOfNums zs)) w := by
  rcases Nat.eq_zero_or_pos len with h0 | h0
  · subst h0
    obtain rfl : zs = [] := List.eq_nil_of_length_eq_zero h.1
    cases a with
    | none => exact run_convert_bytes_nil w 22 5 Try.underlying22 Try.underlying5 0 cap 9 Try.underlying9
    | some ad =>
      rw [run_convert_bytes_string w 22 9 5 _ 0 cap Try.underlying22 Try.underlying5 Try.underlying9, run_bytesToString w _ 0 cap [] rfl]
      rfl
  · obtain ⟨b, off, rfl, _, hc⟩ := h.2.2 h0
    exact run_convert_bytes_arg w 22 5 Try.underlying22 Try.underlying5 b off len cap zs h.1 hc 9 Try.underlying9

set_option maxHeartbeats 800000 in
theorem awake_any (w : World) :
    Calls Try.prog 11 #[] w fun e w' => e = .returned (.bool true) ∧ Below w.heap.size w w' := by
  go_enter Try.func11, Try.ntmps11
  go_wp2_with fail
  refine (get_ex (w.heap.size + 1) _ _ (new4 w)).mono ?_
  rintro e w1 ⟨rfl, rfl⟩
  go_wp2_with fail
  refine (set_ex (w.heap.size + 2) _ (w.heap.size + 2) _ (new3 _ (w.heap.size + 1) (by simp)) (by simp) (by simp)).mono ?_
  rintro e w2 ⟨rfl, hs2, hb2⟩
  have hbw : Below w.heap.size w w2 := (((Below.refl _ _).alloc (Nat.le_refl _) _).alloc (by simp) _).trans (hb2.mono (by omega))
  have HS2 := Lib.hid hs2
  clear hs2 hb2
  go_wp2_with fail
  refine (cut_ex (w2.heap.size + 1) _ (w2.heap.size + 1) _ (new3 w2 _ rfl) (by simp) (by simp)).mono ?_
  rintro e w3 ⟨rfl, hs3, hb3⟩
  have hc2 := ((HS2.out.below ((Below.refl _ _).alloc (Nat.le_refl _) _)).below (hb3.mono (by omega))).conv 3
  have hc3 := hs3.conv 2
  have hbw3 : Below w.heap.size w w3 := (hbw.alloc hbw.size _).trans (hb3.mono (by have := hbw.size; omega))
  rw [show strOfNums [1, 1, 2] = ⟨#[1, 1, 2]⟩ from rfl] at hc2
  rw [show strOfNums [2, 3] = ⟨#[2, 3]⟩ from rfl] at hc3
  clear hs3 hb3 hbw
  go_wp2_with (first | (go_at_call 18; refine (up_ex _).mono ?_; rintro e w' ⟨rfl, rfl⟩) | (go_at_call 20; refine (down_ex _).mono ?_; rintro e w' ⟨rfl, rfl⟩) | (go_at_call 23; with_reducible refine (meet_ex1 _).mono ?_; rintro e w' ⟨rfl, rfl⟩) | (go_at_call 23; with_reducible refine (meet_ex2 _).mono ?_; rintro e w' ⟨rfl, rfl⟩))
  go_ret
  exact ⟨rfl, hbw3⟩

/-- What a proof's frame hands over of a slice of integers that came in: it is nil, or it leads to a row of 'cap' cells, the numbers 'zs'. -/
def IsRow (k : IntKind) (w : World) (a : Option Addr) (len cap : Nat) (zs : List Int) : Prop :=
  (a = none ∧ len = 0 ∧ cap = 0 ∧ zs = []) ∨
  ∃ x, a = some x ∧ len ≤ cap ∧ cap ≤ maxLen ∧ zs.length = cap ∧ (∀ i, i < zs.length → w.cell? (x.add i) = some (.int k (zs.getD i 0))) ∧ ∀ n ∈ zs, (Lit.int k n).wf = true

theorem block_lt {w : World} {p : Addr} {v : Value} (h : w.cell? p = some v) : p.block < w.heap.size := by
  rcases Nat.lt_or_ge p.block w.heap.size with hl | hl
  · exact hl
  · simp [World.cell?, Array.getElem?_eq_none hl] at h

theorem IsRow.bys {w : World} {a : Option Addr} {len cap : Nat} {zs : List Int} (h : IsRow .u8 w a len cap zs) :
    Bys w w.heap.size a len (zs.take len) ∧ len ≤ cap ∧ (cap : Int) ≤ 9223372036854775807 := by
  rcases h with ⟨rfl, rfl, rfl, rfl⟩ | ⟨⟨b, off, spot⟩, rfl, hl, hm, hz, hc, hw⟩
  · exact ⟨Bys.empty _ _ _, Nat.le_refl _, by omega⟩
  · have hm' : (cap : Int) ≤ 9223372036854775807 := by unfold maxLen at hm; omega
    refine ⟨⟨by rw [List.length_take]; omega, fun n hn => ?_, fun h0 => ?_⟩, hl, hm'⟩
    · have := hw n (List.mem_of_mem_take hn)
      simpa [Lit.wf, IntKind.min, IntKind.max, IntKind.signed, IntKind.bits] using this
    · have h1 := hc 0 (by omega)
      have hs : spot = none := by simpa [Addr.add] using World.cell?_spot h1
      subst hs
      rw [add_none] at h1
      refine ⟨b, off, rfl, block_lt h1, fun i hi => ?_⟩
      have h2 := hc i (by omega)
      rw [add_none] at h2
      rw [h2, List.getD_eq_getElem?_getD, List.getD_eq_getElem?_getD, List.getElem?_take_of_lt hi]

/-- A row of the call's own stays one while nothing that was there is written. -/
theorem own_below {w w' : World} {base n : Nat} {e : TypeId} {v : Value} {xs : List Value} (h : w.ownsRow base e 1 v n xs) (hb : Below w.heap.size w w') : w'.ownsRow base e 1 v n xs :=
  h.kept (row := none) ⟨hb.os, hb.tape, hb.output, hb.size, fun k hk _ => hb.block k hk⟩ (by cases v.ownBlock <;> simp)

theorem bd_u64 {n : Int} (h : (Lit.int .u64 n).wf = true) : 0 ≤ n ∧ n ≤ 18446744073709551615 := by
  simpa [Lit.wf, IntKind.min, IntKind.max, IntKind.signed, IntKind.bits] using h
theorem bd_i64 {n : Int} (h : (Lit.int .i64 n).wf = true) : -9223372036854775808 ≤ n ∧ n ≤ 9223372036854775807 := by
  simpa [Lit.wf, IntKind.min, IntKind.max, IntKind.signed, IntKind.bits] using h
end Go.Proofs.Ytjcjngmcjlffaaa
