/-
  What is proved here: the law OctetsSets: for every input it returns true and leaves its arguments as they were.
  Conditions: none of our own; the law's row says what its input is.
-/
import Derived.Test.YtjcjngmcjlffaaaRows
import Derived.Test.YtjcjngmcjlffaaaOctAwake
import Derived.WalkKit
import Derived.ProofKit
import Derived.OpenShut
import Derived.ShutString
import Derived.ChangeOld
import Derived.Below
namespace Go.Proofs.Ytjcjngmcjlffaaa.octetsSets
open Go.ChangeShapes Go.WideShapes Go.ChangeAt Go.RowKit
open Go.ChangeMaps (open_string shut_string)
set_option linter.unusedVariables false

theorem own : ownKnob Try.prog.godebug = none := by kernel_rfl
theorem laidOut : laidOutB Try.prog = true := by kernel_rfl

/-- The law's road, whatever the two calls make (the same list R, the same error). -/
theorem core (a : Option Addr) (len cap : Nat) (zs R : List Int) (p n x er : Int) (w : World) (hb : Bys w w.heap.size a len zs) (hR : ∀ y ∈ R, 0 ≤ y ∧ y ≤ 255) (hl : len ≤ 2000) (hRl : R.length ≤ 2000)
    (HS : Hid (∀ W : World, Below w.heap.size w W → Calls Try.prog 14 #[.slice a len cap, .int .u64 p, .int .i64 n, .int .u64 x] W fun e W' =>
      ∃ ca cc, e = .returned (.tuple #[.slice ca R.length cc, .int .i64 er]) ∧ W'.ownsRow W.heap.size 5 1 (.slice ca R.length cc) R.length (R.map (Value.int .u8)) ∧ Below W.heap.size W W'))
    (HR : Hid (∀ W : World, Below w.heap.size w W → Calls Try.prog 15 #[.slice a len cap, .int .u64 p, .int .i64 n, .int .u64 x] W fun e W' =>
      ∃ ca cc, e = .returned (.tuple #[.slice ca R.length cc, .int .i64 er]) ∧ W'.ownsRow W.heap.size 5 1 (.slice ca R.length cc) R.length (R.map (Value.int .u8)) ∧ Below W.heap.size W W')) :
    Calls Try.prog 4 #[.slice a len cap, .int .u64 p, .int .i64 n, .int .u64 x] w fun e w' => e = .returned (.bool true) ∧ Below w.heap.size w w' := by
  have HB := Lib.hid hb
  have HRB := Lib.hid hR
  have hli : (len : Int) ≤ 2000 := by omega
  obtain ⟨m, hm⟩ : ∃ m, m = R.length := ⟨_, rfl⟩
  rw [← hm] at HS HR hRl
  have HM := Lib.hid hm
  clear hb hR hm
  go_enter Try.func4, Try.ntmps4
  go_wp2_with fail
  refine (awake_any _).mono ?_
  rintro e w1 ⟨rfl, hb1⟩
  have hc1 := (HB.out.below hb1).conv cap
  go_wp2_with fail
  refine (HS.out _ hb1).mono ?_
  rintro e w2 ⟨ca, cc, rfl, hown2, hb2⟩
  have HO2 := Lib.hid hown2
  have hbw2 := hb1.trans (hb2.mono hb1.size)
  clear hown2 hc1
  go_wp2_with fail
  refine (HR.out _ hbw2).mono ?_
  rintro e w3 ⟨da, dc, rfl, hown3, hb3⟩
  have HC3 := ((Bys.own HRB.out (HM.out ▸ HO2.out)).below hb3).conv cc
  rw [← HM.out] at HC3
  have HD3 := (Bys.own HRB.out (HM.out ▸ hown3)).conv dc
  rw [← HM.out] at HD3
  have hbw3 := hbw2.trans (hb3.mono hbw2.size)
  have HO3 : Hid (w3.ownsRow w1.heap.size 5 1 (.slice ca m cc) m (R.map (Value.int .u8))) := Lib.hid (own_below HO2.out hb3)
  clear hown3
  go_wp2_with fail
  go_loopw [16] (fun i wr => ∃ (k : Nat) (ys : List Int), k ≤ m ∧ ys.length = m ∧ i = .int .i64 k ∧ wr.ownsRow w1.heap.size 5 1 (.slice ca m cc) m (ys.map (Value.int .u8)) ∧ Below w.heap.size w wr) (fun i _ => m - (intOf i).toNat)
  case atStart => exact ⟨0, R, Nat.zero_le _, HM.out.symm, rfl, HO3.out, hbw3⟩
  case round =>
    obtain ⟨k, ys, hk, hys, rfl, hown, hbel⟩ := hrel
    by_cases hlt : k < m
    · obtain ⟨g, c, hv, hbg⟩ := own_some hown (by omega)
      injection hv with hv1 hv2 hv3
      subst hv1
      have hc := hown.cellAt k (by omega)
      rw [getElem_map_u8 (by omega)] at hc
      have hf := hown.frozenAt k
      generalize ys.getD k 0 = y at hc
      have hst := hown.stored k (.int .u8 (bits .xor .u8 y 255))
      rw [map_set_u8] at hst
      have hbs := hbel.setCell (p := ⟨g, k, none⟩) (Nat.le_trans hb1.size hbg) (.int .u8 (bits .xor .u8 y 255))
      have HST := Lib.hid hst
      have HBS := Lib.hid hbs
      have HYS := Lib.hid hys
      clear hown hbel hst hbs hv2 hv3 hys
      go_wp2
      go_roundw
      case rel => exact ⟨k + 1, ys.set k (bits .xor .u8 y 255), by omega, by rw [List.length_set]; exact HYS.out, by go_num, HST.out.1, HBS.out⟩
      case measure => simp [intOf]; omega
    · have hcb := (HB.out.below hbel).conv cap
      clear hown
      go_wp2
      go_ret
      exact ⟨rfl, hbel⟩
set_option maxHeartbeats 800000 in
theorem walk (a0 : Option Addr) (len0 cap0 : Nat) (z0 : List Int) (a1 : Int) (a2 : Int) (a3 : Int) (w : World) (w0 : IsRow .u8 w a0 len0 cap0 z0) (w1 : (Lit.int .u64 a1).wf = true) (w2 : (Lit.int .i64 a2).wf = true) (w3 : (Lit.int .u64 a3).wf = true) :
    Calls Try.prog 4 #[.slice a0 len0 cap0, .int .u64 a1, .int .i64 a2, .int .u64 a3] w fun e w' => e = .returned (.bool true) ∧ Below w.heap.size w w' := by
  obtain ⟨hb, hcap, hcm⟩ := w0.bys
  obtain ⟨p0, p1⟩ := bd_u64 w1
  obtain ⟨x0, x1⟩ := bd_u64 w3
  by_cases hl : len0 ≤ 2000
  · have hl1 : (len0 : Int) ≤ 9223372036854775807 := by omega
    by_cases hw : a2 = 1 ∨ a2 = 2 ∨ a2 = 4 ∨ a2 = 8
    · by_cases hs : a1 + a2 ≤ (len0 : Int)
      · obtain ⟨p, rfl⟩ := Int.eq_ofNat_of_zero_le p0
        obtain ⟨n, rfl⟩ := Int.eq_ofNat_of_zero_le (show 0 ≤ a2 by omega)
        have hRl := setB_len (zs := z0.take len0) (p := p) (k := n) a3 (by have := hb.1; omega)
        rw [hb.1] at hRl
        refine core a0 len0 cap0 _ (setB (z0.take len0) p a3 n) _ _ _ 0 w hb (setB_bd p n a3 hb.2.1) hl (by omega) (fun W hW => ?_) (fun W hW => ?_)
        · exact (set_ok _ _ _ _ _ p n a3 W (hb.below hW) hW.size (by omega) (by omega) (by omega) x0 x1).mono fun e W' ⟨h1, h2, h3⟩ => ⟨some ⟨W.heap.size, 0, none⟩, len0, by rw [hRl]; exact h1, by rw [hRl]; exact h2, h3⟩
        · exact (rset_ok _ _ _ _ _ p n a3 W (hb.below hW) hW.size (by omega) (by omega) (by omega) x0 x1).mono fun e W' ⟨g, c, h1, h2, h3⟩ => ⟨some ⟨g, 0, none⟩, c, by rw [hRl]; exact h1, by rw [hRl]; exact h2, h3⟩
      · refine core a0 len0 cap0 _ [] _ _ _ 10 w hb (fun _ h => by cases h) hl (by decide) (fun W hW => ?_) (fun W hW => ?_)
        · exact (set_range _ _ _ _ _ _ W hw hl1 p0 p1 (by omega)).mono fun e W' ⟨h1, h2⟩ => ⟨_, _, h1, World.ownsRow_nil _ _ _ _, h2 ▸ Below.refl _ _⟩
        · exact (rset_range _ _ _ _ _ _ W hw hl1 p0 p1 (by omega)).mono fun e W' ⟨h1, h2⟩ => ⟨_, _, h1, World.ownsRow_nil _ _ _ _, h2 ▸ Below.refl _ _⟩
    · refine core a0 len0 cap0 _ [] _ _ _ 1 w hb (fun _ h => by cases h) hl (by decide) (fun W hW => ?_) (fun W hW => ?_)
      · exact (set_arg _ _ _ _ _ _ W (by omega) (by omega) (by omega) (by omega)).mono fun e W' ⟨h1, h2⟩ => ⟨_, _, h1, World.ownsRow_nil _ _ _ _, h2 ▸ Below.refl _ _⟩
      · exact (rset_arg _ _ _ _ _ _ W (by omega) (by omega) (by omega) (by omega)).mono fun e W' ⟨h1, h2⟩ => ⟨_, _, h1, World.ownsRow_nil _ _ _ _, h2 ▸ Below.refl _ _⟩
  · have hl1 : (2000 : Int) < (len0 : Int) := by omega
    have hl2 : (len0 : Int) ≤ 9223372036854775807 := by omega
    clear w0 hb w1 w2 w3
    go_enter Try.func4, Try.ntmps4
    go_wp2_with (go_at_call 11; refine (awake_any _).mono ?_; rintro e w1 ⟨rfl, hb1⟩)
    go_ret
    exact ⟨rfl, by assumption⟩

set_option maxRecDepth 100000 in
theorem lifted (os : Os) (started : os.Started) (H : Type) (enc : TypeId × Value → H) :
    ReturnsInHanded {} Try.checked os 4 .any (Rows.octetsSetsSpec.pre6 enc Try.prog Try.f4 Rows.octetsSetsRow.domain false) (Rows.octetsSetsSpec.post enc Try.prog Try.f4 false true false false) := by
  refine returnsInHanded_of_change (C := Try.checked) own started (by kernel_rfl) Try.func4
    (ChangeSpec.witness6 (enc := enc) (C := Try.checked) false ⟨#[], #[.slice none 0 0, .int .u64 0, .int .i64 0, .int .u64 0], []⟩ 8 (by kernel_rfl) (by kernel_rfl) (by kernel_rfl) (by kernel_rfl)) ?_
  intro W base args ds gs before hval0 hW hcnd _
  have hval : ∀ (j : Nat) t v, Try.f4.params[j]? = some t → args[j]? = some v → Value.okWide Try.prog W .any base t v := hval0
  have hW' := hW
  obtain ⟨p, q, hA0, hV, rfl, hfz, hnd⟩ := hW
  have hA : DataW.TrodAll enc Try.prog W 0 (fun _ => true) true Try.f4.params.toList args.toList ds p := hA0
  rw [Try.params4] at hA hval
  obtain ⟨v0, vs0, d0, ds0, p0, q0, hargs, rfl, rfl, h0, r0⟩ := trodAll_cons hA
  obtain ⟨v1, vs1, d1, ds1, p1, q1, rfl, rfl, rfl, h1, r1⟩ := trodAll_cons r0
  obtain ⟨v2, vs2, d2, ds2, p2, q2, rfl, rfl, rfl, h2, r2⟩ := trodAll_cons r1
  obtain ⟨v3, vs3, d3, ds3, p3, q3, rfl, rfl, rfl, h3, r3⟩ := trodAll_cons r2
  obtain ⟨rfl, rfl, rfl⟩ := trodAll_nil r3
  obtain rfl : args = #[v0, v1, v2, v3] := by cases args; simp_all
  obtain ⟨rfl, rfl⟩ := trodVars_none hV
  obtain ⟨a0, len0, cap0, rfl⟩ := okWide_slice Try.underlying22 (hval 0 22 v0 rfl rfl)
  have k0 := h0
  have lt0 : ∀ x ∈ p0, x.block < W.heap.size := by obtain ⟨m, hm⟩ := k0; exact DataW.trod_lt m _ _ _ hm
  obtain ⟨z0, w0⟩ : ∃ zs, IsRow .u8 W a0 len0 cap0 zs := by
    obtain ⟨fuel, hf⟩ := h0
    rcases open_ints Try.underlying22 Try.underlying5 (by kernel_rfl) hf with ⟨hcs, _⟩ | ⟨x, l, c, zs, hcs, _, hl, hm, hz, _, hcell, hwz⟩
    · simp [Value.cells] at hcs
      obtain ⟨rfl, rfl, rfl⟩ := hcs
      exact ⟨[], .inl ⟨rfl, rfl, rfl, rfl⟩⟩
    · simp [Value.cells] at hcs
      obtain ⟨rfl, rfl, rfl⟩ := hcs
      exact ⟨zs, .inr ⟨_, rfl, hl, hm, by simpa using hz, hcell, hwz⟩⟩
  obtain ⟨a1, rfl, rfl, rfl, w1⟩ := open_int Try.underlying23 (hval 1 23 v1 rfl rfl) h1
  obtain ⟨a2, rfl, rfl, rfl, w2⟩ := open_int Try.underlying3 (hval 2 3 v2 rfl rfl) h2
  obtain ⟨a3, rfl, rfl, rfl, w3⟩ := open_int Try.underlying23 (hval 3 23 v3 rfl rfl) h3
  clear hA0 hval0
  refine (walk a0 len0 cap0 z0 a1 a2 a3 W w0 w1 w2 w3).mono fun e W' ⟨he, bel⟩ => ?_
  subst he
  exact ⟨_, rfl, _, _, _, [], _, [], hW', trodAll_mk1 (shut_bool Try.underlying4 _), (trodAll_cons_mk (Below.trod laidOut (by kernel_rfl) (of_decide_eq_true (by kernel_rfl)) k0 bel lt0) (trodAll_cons_mk (shut_int Try.underlying23 w1) (trodAll_cons_mk (shut_int Try.underlying3 w2) (trodAll_cons_mk (shut_int Try.underlying23 w3) trodAll_mk0)))), rfl, bel.frame _, fun h => by cases h⟩

theorem over : Rows.octetsSetsRow.holds Try.pinned (OpenSpec.ofChange Rows.octetsSetsSpec) :=
  OpenClaim.holds_of_wide 4 Try.f4 rfl rfl rfl rfl rfl rfl rfl ⟨rfl, rfl, rfl, rfl, rfl⟩ rfl rfl rfl rfl rfl (by kernel_rfl) Try.func4 (by kernel_rfl)
    (of_decide_eq_true (by kernel_rfl)) (by unfold Func.isWrapper; first | (rw [if_pos (by decide +kernel)]; kernel_rfl) | (rw [if_neg (by decide +kernel)]; exact ⟨rfl, rfl⟩))
    (fun os started H enc _ => lifted os started H enc)

theorem proved : Rows.OctetsSetsSaid := over
#print axioms proved
end Go.Proofs.Ytjcjngmcjlffaaa.octetsSets
