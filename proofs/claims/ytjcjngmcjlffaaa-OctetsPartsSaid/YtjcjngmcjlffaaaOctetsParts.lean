/-
  What is proved here: the law OctetsParts: for every input it returns true and leaves its argument as it was.
  Conditions: none of our own; the law's row says what its input is.
-/
import Derived.Test.YtjcjngmcjlffaaaRows
import Derived.Test.YtjcjngmcjlffaaaOctAwake
import Derived.Test.YtjcjngmcjlffaaaOctSum
import Derived.WalkKit
import Derived.ProofKit
import Derived.OpenShut
import Derived.ShutString
import Derived.ChangeOld
import Derived.Below
namespace Go.Proofs.Ytjcjngmcjlffaaa.octetsParts
open Go.ChangeShapes Go.WideShapes Go.ChangeAt Go.RowKit
set_option linter.unusedVariables false

theorem own : ownKnob Try.prog.godebug = none := by kernel_rfl
theorem laidOut : laidOutB Try.prog = true := by kernel_rfl
theorem cells40 : Try.prog.cellsOf 40 = 8 := by kernel_rfl
theorem cells5 : Try.prog.cellsOf 5 = 1 := by kernel_rfl

/-- A part of b bytes at its place, added on: the three sums of the law. -/
theorem part_step {zs : List Int} {i b c s q : Nat} (hz : ∀ n ∈ zs, 0 ≤ n ∧ n ≤ 255) (hl : zs.length = 8) (hb : 1 ≤ b) (hi : b * (i + 1) ≤ 8) (hs : s = 8 * b * i) (hc : c = b * (i + 1)) (hq : q = b * i) :
    IntKind.u64.wrap (num (piece zs 0 q) + IntKind.u64.wrap (num (piece zs q b) * 2 ^ s)) = num (piece zs 0 c) := by
  subst hq
  have h1 : b * (i + 1) = b * i + b := by rw [Nat.mul_add, Nat.mul_one]
  have hx := num_piece_lt (p := 0) (k := b * i) hz (by omega)
  have hy := num_piece_lt (p := b * i) (k := b) hz (by omega)
  have hs2 := num_piece_add (zs := zs) (p := 0) (a := b * i) (b := b) (by omega)
  rw [Nat.zero_add] at hs2
  have := (add_step (x := num (piece zs 0 (b * i))) (y := num (piece zs (b * i) b)) (a := b * i) (b := b) (s := s) (by rw [hs, Nat.mul_assoc]) (by omega) hx.1 hx.2 hy.1 hy.2).2.1
  rw [this, hc, h1, hs2]

theorem get_at (B : Nat) (a : Option Addr) (len cap : Nat) (zs : List Int) (P N : Int) (p n : Nat) (w : World) (hP : P = (p : Int)) (hN : N = (n : Int)) (hb : Bys w B a len zs) (h : n = 1 ∨ n = 2 ∨ n = 4 ∨ n = 8) (hl : (len : Int) ≤ 9223372036854775807) (hs : p + n ≤ len) :
    Calls Try.prog 12 #[.slice a len cap, .int .u64 P, .int .i64 N] w fun e w' => e = .returned (.tuple #[.int .u64 (num (piece zs p n)), .int .i64 0]) ∧ w = w' := by
  subst hP; subst hN
  exact get_ok B a len cap zs p n w hb h hl hs

set_option maxRecDepth 100000 in
set_option maxHeartbeats 1600000 in
theorem walk (z0 z1 z2 z3 z4 z5 z6 z7 : Int) (w : World) (hz : ∀ n ∈ [z0, z1, z2, z3, z4, z5, z6, z7], 0 ≤ n ∧ n ≤ 255) :
    Calls Try.prog 9 #[.agg #[.int .u8 z0, .int .u8 z1, .int .u8 z2, .int .u8 z3, .int .u8 z4, .int .u8 z5, .int .u8 z6, .int .u8 z7]] w fun e w' => e = .returned (.bool true) ∧ Below w.heap.size w w' := by
  have hby := Bys.alloc_new w [z0, z1, z2, z3, z4, z5, z6, z7] hz 40
  have hb0 : Below w.heap.size w (w.alloc (.cells #[.int .u8 z0, .int .u8 z1, .int .u8 z2, .int .u8 z3, .int .u8 z4, .int .u8 z5, .int .u8 z6, .int .u8 z7] 40)) := (Below.refl _ _).alloc (Nat.le_refl _) _
  have HBY : Hid (Bys (w.alloc (.cells #[.int .u8 z0, .int .u8 z1, .int .u8 z2, .int .u8 z3, .int .u8 z4, .int .u8 z5, .int .u8 z6, .int .u8 z7] 40)) (w.heap.size + 1) (some ⟨w.heap.size, 0, none⟩) 8 [z0, z1, z2, z3, z4, z5, z6, z7]) := Lib.hid hby
  have HB0 := Lib.hid hb0
  have HZ := Lib.hid hz
  clear hby hb0 hz
  go_enter Try.func9, Try.ntmps9
  go_wp2_with fail
  refine (awake_any _).mono ?_
  rintro e w1 ⟨rfl, hb1⟩
  have hsz : (w.alloc (.cells #[.int .u8 z0, .int .u8 z1, .int .u8 z2, .int .u8 z3, .int .u8 z4, .int .u8 z5, .int .u8 z6, .int .u8 z7] 40)).heap.size = w.heap.size + 1 := by simp
  rw [hsz] at hb1
  have HBY1 := Lib.hid (HBY.out.below hb1)
  have hbw1 := HB0.out.trans (hb1.mono (by omega))
  generalize [z0, z1, z2, z3, z4, z5, z6, z7] = zs at HBY HBY1 HZ
  clear hsz hb1
  have HL : Hid (zs.length = 8) := Lib.hid HBY.out.1
  clear HBY
  go_wp2_with fail
  refine (get_at _ _ _ _ zs _ _ 0 8 _ rfl rfl HBY1.out (by decide) (by decide) (by decide)).mono ?_
  rintro e w' ⟨rfl, rfl⟩
  go_wp2_with fail
  go_loop [6, 7, 8, 9] (fun y z v i => ∃ k : Nat, k ≤ 8 ∧ i = .int .i64 k ∧ y = .int .u64 (num (piece zs 0 (4 * min k 2))) ∧ z = .int .u64 (num (piece zs 0 (2 * min k 4))) ∧ v = .int .u64 (num (piece zs 0 k))) (fun _ _ _ i => 8 - (intOf i).toNat)
  case atStart => exact ⟨0, by omega, rfl, rfl, rfl, rfl⟩
  case round =>
    obtain ⟨k, hk, rfl, rfl, rfl, rfl⟩ := hrel
    by_cases hlt : k < 8
    · have hC := Lib.hid (part_step (zs := zs) (i := k) (b := 1) (c := k + 1) (s := 8 * k) (q := k) HZ.out HL.out (by omega) (by omega) (by omega) (by omega) (by omega))
      by_cases h4 : k < 4
      · have hB := Lib.hid (part_step (zs := zs) (i := k) (b := 2) (c := 2 * (k + 1)) (s := 16 * k) (q := 2 * k) HZ.out HL.out (by omega) (by omega) (by omega) (by omega) (by omega))
        rw [show min k 4 = k from by omega]
        by_cases h2 : k < 2
        · have hA := Lib.hid (part_step (zs := zs) (i := k) (b := 4) (c := 4 * (k + 1)) (s := 32 * k) (q := 4 * k) HZ.out HL.out (by omega) (by omega) (by omega) (by omega) (by omega))
          rw [show min k 2 = k from by omega]
          go_wp2_with fail
          refine (get_at _ _ _ _ zs _ _ (4 * k) 4 _ (by omega) rfl HBY1.out (by decide) (by decide) (by omega)).mono ?_
          rintro e w' ⟨rfl, rfl⟩
          go_wp2_with fail
          refine (get_at _ _ _ _ zs _ _ (2 * k) 2 _ (by omega) rfl HBY1.out (by decide) (by decide) (by omega)).mono ?_
          rintro e w' ⟨rfl, rfl⟩
          go_wp2_with fail
          refine (get_at _ _ _ _ zs _ _ k 1 _ rfl rfl HBY1.out (by decide) (by decide) (by omega)).mono ?_
          rintro e w' ⟨rfl, rfl⟩
          go_wp2_with fail
          go_round
          case rel => exact ⟨k + 1, by omega, by go_num, by rw [hA.out, show min (k + 1) 2 = k + 1 from by omega], by rw [hB.out, show min (k + 1) 4 = k + 1 from by omega], by rw [hC.out]⟩
          case measure => simp [intOf]; omega
        · rw [show min k 2 = 2 from by omega]
          go_wp2_with fail
          refine (get_at _ _ _ _ zs _ _ (2 * k) 2 _ (by omega) rfl HBY1.out (by decide) (by decide) (by omega)).mono ?_
          rintro e w' ⟨rfl, rfl⟩
          go_wp2_with fail
          refine (get_at _ _ _ _ zs _ _ k 1 _ rfl rfl HBY1.out (by decide) (by decide) (by omega)).mono ?_
          rintro e w' ⟨rfl, rfl⟩
          go_wp2_with fail
          go_round
          case rel => exact ⟨k + 1, by omega, by go_num, by rw [show min (k + 1) 2 = 2 from by omega], by rw [hB.out, show min (k + 1) 4 = k + 1 from by omega], by rw [hC.out]⟩
          case measure => simp [intOf]; omega
      · rw [show min k 4 = 4 from by omega, show min k 2 = 2 from by omega]
        go_wp2_with fail
        refine (get_at _ _ _ _ zs _ _ k 1 _ rfl rfl HBY1.out (by decide) (by decide) (by omega)).mono ?_
        rintro e w' ⟨rfl, rfl⟩
        go_wp2_with fail
        go_round
        case rel => exact ⟨k + 1, by omega, by go_num, by rw [show min (k + 1) 2 = 2 from by omega], by rw [show min (k + 1) 4 = 4 from by omega], by rw [hC.out]⟩
        case measure => simp [intOf]; omega
    · obtain rfl : k = 8 := by omega
      go_wp2_with fail
      go_ret
      exact ⟨rfl, hbw1⟩

/-- One cell of the array: a byte. -/
theorem cell_u8 {H : Type} {enc : TypeId × Value → H} {w : World} {base m i : Nat} {spare : Nat → Bool} {held : Bool} {l : List Value} {x : DataW H × List MemPlace} (c : Value) (hc : l[i]? = some c)
    (h : DataW.trod enc Try.prog w base spare held m 5 ((l.drop (i * Try.prog.cellsOf 5)).take (Try.prog.cellsOf 5)) = some x) : ∃ z, c = .int .u8 z ∧ (0 ≤ z ∧ z ≤ 255) := by
  rw [cells5, Nat.mul_one] at h
  obtain ⟨hlt, hce⟩ := List.getElem?_eq_some_iff.1 hc
  rw [List.drop_eq_getElem_cons hlt, hce] at h
  obtain ⟨z, e0, rfl, hw⟩ := DataW.trod_int Try.underlying5 h
  refine ⟨z, by simpa using e0, ?_⟩
  simpa [Lit.wf, IntKind.min, IntKind.max, IntKind.signed, IntKind.bits] using hw

theorem list8 {α : Type} (l : List α) (h : (⟨l⟩ : Array α).size = 8) : ∃ a b c d e f g i, l = [a, b, c, d, e, f, g, i] := by
  match l, h with
  | [a, b, c, d, e, f, g, i], _ => exact ⟨a, b, c, d, e, f, g, i, rfl⟩

set_option maxRecDepth 100000 in
theorem lifted (os : Os) (started : os.Started) (H : Type) (enc : TypeId × Value → H) :
    ReturnsInHanded {} Try.checked os 9 .any (Rows.octetsPartsSpec.pre6 enc Try.prog Try.f9 Rows.octetsPartsRow.domain false) (Rows.octetsPartsSpec.post enc Try.prog Try.f9 false true false false) := by
  refine returnsInHanded_of_change (C := Try.checked) own started (by kernel_rfl) Try.func9
    (ChangeSpec.witness6 (enc := enc) (C := Try.checked) false ⟨#[], #[.agg #[.int .u8 0, .int .u8 0, .int .u8 0, .int .u8 0, .int .u8 0, .int .u8 0, .int .u8 0, .int .u8 0]], []⟩ 8 (by kernel_rfl) (by kernel_rfl) (by kernel_rfl) (by kernel_rfl)) ?_
  intro W base args ds gs before hval0 hW hcnd _
  have hval : ∀ (j : Nat) t v, Try.f9.params[j]? = some t → args[j]? = some v → Value.okWide Try.prog W .any base t v := hval0
  have hW' := hW
  obtain ⟨p, q, hA0, hV, rfl, hfz, hnd⟩ := hW
  have hA : DataW.TrodAll enc Try.prog W 0 (fun _ => true) true Try.f9.params.toList args.toList ds p := hA0
  rw [Try.params9] at hA hval
  obtain ⟨v0, vs0, d0, ds0, p0, q0, hargs, rfl, rfl, h0, r0⟩ := trodAll_cons hA
  obtain ⟨rfl, rfl, rfl⟩ := trodAll_nil r0
  obtain rfl : args = #[v0] := by cases args; simp_all
  obtain ⟨rfl, rfl⟩ := trodVars_none hV
  obtain ⟨cs, rfl, hsz, _⟩ : ∃ cs, v0 = .agg cs ∧ cs.size = Try.prog.cellsOf 40 ∧ Row.okWide Try.prog W .any base 40 cs := by
    have := hval 0 40 v0 rfl rfl
    simpa [Value.okWide, Try.underlying40] using this
  rw [cells40] at hsz
  have k0 := h0
  have lt0 : ∀ x ∈ p0, x.block < W.heap.size := by obtain ⟨m, hm⟩ := k0; exact DataW.trod_lt m _ _ _ hm
  obtain ⟨l⟩ := cs
  obtain ⟨z0, z1, z2, z3, z4, z5, z6, z7, rfl, hz⟩ : ∃ z0 z1 z2 z3 z4 z5 z6 z7 : Int, l = [.int .u8 z0, .int .u8 z1, .int .u8 z2, .int .u8 z3, .int .u8 z4, .int .u8 z5, .int .u8 z6, .int .u8 z7] ∧ ∀ n ∈ [z0, z1, z2, z3, z4, z5, z6, z7], 0 ≤ n ∧ n ≤ 255 := by
    obtain ⟨fuel, hf⟩ := h0
    obtain ⟨xs, m, _, _, _, hn, hel⟩ := DataW.trod_array Try.underlying40 hf
    obtain ⟨c0, c1, c2, c3, c4, c5, c6, c7, rfl⟩ := list8 l hsz
    have get : ∀ (i : Nat) (hi : i < 8) (c : Value), ([c0, c1, c2, c3, c4, c5, c6, c7] : List Value)[i]? = some c → ∃ z, c = .int .u8 z ∧ (0 ≤ z ∧ z ≤ 255) := fun i hi c hc => by
      have he := hel i hi
      rw [List.getElem?_eq_getElem (by omega)] at he
      exact cell_u8 c hc he
    obtain ⟨z0, rfl, b0⟩ := get 0 (by decide) _ rfl
    obtain ⟨z1, rfl, b1⟩ := get 1 (by decide) _ rfl
    obtain ⟨z2, rfl, b2⟩ := get 2 (by decide) _ rfl
    obtain ⟨z3, rfl, b3⟩ := get 3 (by decide) _ rfl
    obtain ⟨z4, rfl, b4⟩ := get 4 (by decide) _ rfl
    obtain ⟨z5, rfl, b5⟩ := get 5 (by decide) _ rfl
    obtain ⟨z6, rfl, b6⟩ := get 6 (by decide) _ rfl
    obtain ⟨z7, rfl, b7⟩ := get 7 (by decide) _ rfl
    refine ⟨z0, z1, z2, z3, z4, z5, z6, z7, rfl, ?_⟩
    intro n hn
    simp only [List.mem_cons, List.not_mem_nil, or_false] at hn
    rcases hn with rfl | rfl | rfl | rfl | rfl | rfl | rfl | rfl <;> assumption
  clear hA0 hval0
  refine (walk z0 z1 z2 z3 z4 z5 z6 z7 W hz).mono fun e W' ⟨he, bel⟩ => ?_
  subst he
  exact ⟨_, rfl, _, _, _, [], _, [], hW', trodAll_mk1 (shut_bool Try.underlying4 _), (trodAll_cons_mk (Below.trod laidOut (by kernel_rfl) (of_decide_eq_true (by kernel_rfl)) k0 bel lt0) trodAll_mk0), rfl, bel.frame _, fun h => by cases h⟩

theorem over : Rows.octetsPartsRow.holds Try.pinned (OpenSpec.ofChange Rows.octetsPartsSpec) :=
  OpenClaim.holds_of_wide 9 Try.f9 rfl rfl rfl rfl rfl rfl rfl ⟨rfl, rfl, rfl, rfl, rfl⟩ rfl rfl rfl rfl rfl (by kernel_rfl) Try.func9 (by kernel_rfl)
    (of_decide_eq_true (by kernel_rfl)) (by unfold Func.isWrapper; first | (rw [if_pos (by decide +kernel)]; kernel_rfl) | (rw [if_neg (by decide +kernel)]; exact ⟨rfl, rfl⟩))
    (fun os started H enc _ => lifted os started H enc)

theorem proved : Rows.OctetsPartsSaid := over
#print axioms proved
end Go.Proofs.Ytjcjngmcjlffaaa.octetsParts
