/-
  What is proved here: the law OctetsBack: for every input it returns true and leaves its arguments as they were.
  Conditions: none of our own; the law's row says what its input is.
-/
import Derived.Test.YtjcjngmcjlffaaaRows
import Derived.Test.YtjcjngmcjlffaaaOctMask
import Derived.Test.YtjcjngmcjlffaaaOctSum
import Derived.WalkKit
import Derived.ProofKit
import Derived.OpenShut
import Derived.ShutString
import Derived.ChangeOld
import Derived.Below
namespace Go.Proofs.Ytjcjngmcjlffaaa.octetsBack
open Go.ChangeShapes Go.WideShapes Go.ChangeAt Go.RowKit
open Go.ChangeMaps (open_string shut_string)
set_option linter.unusedVariables false

theorem own : ownKnob Try.prog.godebug = none := by kernel_rfl
theorem laidOut : laidOutB Try.prog = true := by kernel_rfl

set_option maxRecDepth 100000 in
set_option maxHeartbeats 3200000 in
/-- The law's road at the width n and the place k. -/
theorem core (a : Option Addr) (len cap : Nat) (zs : List Int) (a1 a2 x : Int) (j n q k : Nat) (w : World) (hb : Hid (Bys w w.heap.size a len zs)) (hl8 : 8 ≤ (len : Int)) (hl2 : (len : Int) ≤ 2000)
    (hj : bits .and .i64 a2 3 = (j : Int)) (hq : bits .and .i64 a1 16777215 = (q : Int)) (hq1 : (q : Int) ≤ 16777215) (hn : Hid (WidAt j n)) (hj4 : j < 4) (hn1 : 1 ≤ n) (hn8 : n ≤ 8)
    (hk : (q : Int) % ((len : Int) - (n : Int) + 1) = (k : Int)) (hkn : k + n ≤ len) (x0 : 0 ≤ x) (x1 : x ≤ 18446744073709551615) :
    Calls Try.prog 8 #[.slice a len cap, .int .i64 a1, .int .i64 a2, .int .u64 x] w fun e w' => e = .returned (.bool true) ∧ Below w.heap.size w w' := by
  go_enter Try.func8, Try.ntmps8
  go_wp2_with fail
  refine (awake_any _).mono ?_
  rintro e w1 ⟨rfl, hb1⟩
  have hc := hn.out.cell w1 3
  go_wp2_with fail
  refine (set_ok w.heap.size _ _ _ zs k n x _ ((hb.out.below hb1).below ((Below.refl _ _).alloc hb1.size _)) (by have := hb1.size; simp; omega) hn.out.is (by omega) hkn x0 x1).mono ?_
  rintro e w2 ⟨rfl, hown2, hb2⟩
  rw [show (w1.alloc (.cells #[.int .i64 1, .int .i64 2, .int .i64 4, .int .i64 8] 3)).heap.size = w1.heap.size + 1 from by simp] at *
  have hbw2 : Below w.heap.size w w2 := (hb1.alloc hb1.size _).trans (hb2.mono (by have := hb1.size; omega))
  have hby2 := Bys.own (setB_bd k n x hb.out.2.1) hown2
  have HBY2 := Lib.hid hby2
  have HOWN2 := Lib.hid hown2
  clear hown2 hby2 hb2 hb1
  obtain ⟨Z, hZ⟩ : ∃ Z, Z = setB zs k x n := ⟨_, rfl⟩
  rw [← hZ] at HBY2 HOWN2
  have HZ := Lib.hid hZ
  clear hZ hc
  go_wp2_with fail
  refine (get_ok _ _ _ _ _ k n _ HBY2.out hn.out.is (by omega) hkn).mono ?_
  rintro e w' ⟨rfl, rfl⟩
  obtain ⟨Y, hY⟩ : ∃ Y, Y = num (piece Z k n) := ⟨_, rfl⟩
  rw [← hY]
  have HY := Lib.hid hY
  clear hY
  go_wp2_with fail
  refine (cut_ok _ _ _ _ _ k n _ HBY2.out (Nat.le_refl _) (Nat.le_refl _) (by omega) (by omega) hkn).mono ?_
  rintro e w4 ⟨rfl, hown4, hb4⟩
  have HBY4 := Lib.hid (Bys.own (piece_mem HBY2.out.2.1) hown4)
  have hbw4 := hbw2.trans (hb4.mono hbw2.size)
  have HC4 := Lib.hid (HBY2.out.below hb4)
  have hsz24 : w2.heap.size ≤ w4.heap.size := hb4.size
  clear hown4 hb4
  go_wp2_with fail
  go_loopw [18] (fun i wr => ∃ t : Nat, t ≤ len ∧ i = .int .i64 t ∧ Below w4.heap.size w4 wr) (fun i _ => len - (intOf i).toNat)
  case atStart => exact ⟨0, Nat.zero_le _, rfl, Below.refl _ _⟩
  case round =>
    obtain ⟨t, ht, rfl, hbel⟩ := hrel
    by_cases hlt : t < len
    · obtain ⟨b, off, rfl, hbB, hcell⟩ := hb.out.2.2 (by omega)
      have hcb := (hbel.cell (p := ⟨b, off + t, none⟩) (by have := hbw4.size; show b < _; omega)).trans ((hbw4.cell (p := ⟨b, off + t, none⟩) hbB).trans (hcell t hlt))
      obtain ⟨b2, off2, e2, hb2B, hcell2⟩ := HC4.out.2.2 (by omega)
      injection e2 with e2
      injection e2 with e2 e3
      subst e2; subst e3
      have hcc := (hbel.cell (p := ⟨w1.heap.size + 1, 0 + t, none⟩) (by show w1.heap.size + 1 < _; omega)).trans (hcell2 t hlt)
      rw [Nat.zero_add] at hcc
      have HBEL := Lib.hid hbel
      clear hcell hcell2 hbel
      by_cases h1 : t < k
      · rw [HZ.out, setB_other x (by rw [hb.out.1]; omega) (Or.inl h1)] at hcc
        generalize zs.getD t 0 = y at hcb hcc
        have hi1 : (t : Int) < (k : Int) := by omega
        go_wp2_with fail
        go_quiet (fail)
        go_wp2
        go_roundw
        case rel => exact ⟨t + 1, by omega, by go_num, below_drewN HBEL.out _⟩
        case measure => simp [intOf]; omega
      · have hi1 : decide (t < k) = false := by simp; omega
        have hi3 : decide ((t : Int) < (k : Int)) = false := by simp; omega
        clear h1
        by_cases h2 : k + n ≤ t
        · rw [HZ.out, setB_other x (by rw [hb.out.1]; omega) (Or.inr h2)] at hcc
          generalize zs.getD t 0 = y at hcb hcc
          have hi2 : (k : Int) + (n : Int) ≤ (t : Int) := by omega
          have hi4 : decide (k + n ≤ t) = true := by simp; omega
          go_wp2_with fail
          go_quiet (fail)
          go_wp2
          go_roundw
          case rel => exact ⟨t + 1, by omega, by go_num, below_drewN HBEL.out _⟩
          case measure => simp [intOf]; omega
        · have hi2 : decide ((k : Int) + (n : Int) ≤ (t : Int)) = false := by simp; omega
          have hi4 : decide (k + n ≤ t) = false := by simp; omega
          clear hcc hcb
          go_wp2_with fail
          go_quiet (fail)
          go_wp2
          go_roundw
          case rel => exact ⟨t + 1, by omega, by go_num, below_drewN HBEL.out _⟩
          case measure => simp [intOf]; omega
    · have HBY := Lib.hid (HBY4.out.below hbel)
      have hbw5 := hbw4.trans (hbel.mono hbw4.size)
      obtain ⟨D, hD⟩ : ∃ D, D = piece Z k n := ⟨_, rfl⟩
      rw [← hD] at HBY HY
      have HDL := Lib.hid HBY.out.1
      have HD := Lib.hid hD
      clear hD hbel
      go_wp2_with fail
      go_loop [19, 20] (fun z i => ∃ u : Nat, u ≤ n ∧ i = .int .i64 u ∧ z = .int .u64 (num (piece D 0 u))) (fun _ i => n - (intOf i).toNat)
      case atStart => exact ⟨0, Nat.zero_le _, rfl, rfl⟩
      case round =>
        obtain ⟨u, hu, rfl, rfl⟩ := hrel
        by_cases hlt2 : u < n
        · obtain ⟨b3, off3, e3, hb3B, hcell3⟩ := HBY.out.2.2 (by omega)
          injection e3 with e3
          injection e3 with e3 e4
          subst e3; subst e4
          have hcd := hcell3 u hlt2
          rw [Nat.zero_add] at hcd
          have hyb := getD_bd HBY.out.2.1 u
          have hx := num_piece_lt (p := 0) (k := u) HBY.out.2.1 (by rw [HDL.out]; omega)
          have hst := num_piece_succ (zs := D) (p := 0) (k := u) (by rw [HDL.out]; omega)
          rw [Nat.zero_add] at hst
          generalize D.getD u 0 = y at hcd hyb hst
          obtain ⟨a1', a2', a3', a4'⟩ := add_step (x := num (piece D 0 u)) (y := y) (a := u) (b := 1) (s := 8 * u) rfl (by omega) hx.1 hx.2 hyb.1 (by omega)
          rw [← hst] at a2' a4'
          have HA := Lib.hid a2'
          obtain ⟨y0, y1⟩ := hyb
          clear hcell3 hx hst a1' a2' a3' a4'
          go_wp2
          go_round
          case rel => exact ⟨u + 1, by omega, by go_num, by rw [HA.out]⟩
          case measure => simp [intOf]; omega
        · obtain rfl : u = n := by omega
          have hDY : num (piece D 0 u) = Y := by
            rw [HY.out]; congr 1; exact List.take_of_length_le (by rw [List.drop_zero, HDL.out]; exact Nat.le_refl _)
          have hYx : Y = x % 256 ^ u := by
            rw [HY.out, HD.out, HZ.out, setB_piece x (by rw [hb.out.1]; omega), num_digs x0]
          rcases hn.out with ⟨rfl, rfl⟩ | ⟨rfl, rfl⟩ | ⟨rfl, rfl⟩ | ⟨rfl, rfl⟩
          · have HF : Hid (Y = bits .and .u64 x 255) := Lib.hid (by
              have hM := mask_num x0 x1 (n := 1) (by decide)
              rw [show (256 : Int) ^ 1 - 1 = 255 from by decide] at hM
              rw [hM]; exact hYx)
            clear hYx
            go_wp2_with fail
            go_ret
            exact ⟨ret_bool (beq_iff_eq.2 HF.out), hbw5⟩
          · have HF : Hid (Y = bits .and .u64 x 65535) := Lib.hid (by
              have hM := mask_num x0 x1 (n := 2) (by decide)
              rw [show (256 : Int) ^ 2 - 1 = 65535 from by decide] at hM
              rw [hM]; exact hYx)
            clear hYx
            go_wp2_with fail
            go_ret
            exact ⟨ret_bool (beq_iff_eq.2 HF.out), hbw5⟩
          · have HF : Hid (Y = bits .and .u64 x 4294967295) := Lib.hid (by
              have hM := mask_num x0 x1 (n := 4) (by decide)
              rw [show (256 : Int) ^ 4 - 1 = 4294967295 from by decide] at hM
              rw [hM]; exact hYx)
            clear hYx
            go_wp2_with fail
            go_ret
            exact ⟨ret_bool (beq_iff_eq.2 HF.out), hbw5⟩
          · have HF : Hid (Y = x) := Lib.hid (by
              rw [hYx]; exact Int.emod_eq_of_lt x0 (by rw [show (256 : Int) ^ 8 = 18446744073709551616 from by decide]; omega))
            clear hYx
            go_wp2_with fail
            all_goals go_ret
            all_goals first | exact ⟨rfl, hbw5⟩ | exact ⟨ret_bool (beq_iff_eq.2 HF.out), hbw5⟩ | (exfalso; have := HF.out; simp_all; done)
set_option maxRecDepth 100000 in
set_option maxHeartbeats 800000 in
theorem walk (a0 : Option Addr) (len0 cap0 : Nat) (z0 : List Int) (a1 : Int) (a2 : Int) (a3 : Int) (w : World) (w0 : IsRow .u8 w a0 len0 cap0 z0) (w1 : (Lit.int .i64 a1).wf = true) (w2 : (Lit.int .i64 a2).wf = true) (w3 : (Lit.int .u64 a3).wf = true) :
    Calls Try.prog 8 #[.slice a0 len0 cap0, .int .i64 a1, .int .i64 a2, .int .u64 a3] w fun e w' => e = .returned (.bool true) ∧ Below w.heap.size w w' := by
  obtain ⟨hb, hcap, hcm⟩ := w0.bys
  obtain ⟨x0, x1⟩ := bd_u64 w3
  by_cases hl : 8 ≤ len0 ∧ len0 ≤ 2000
  · obtain ⟨j, hj3, hj⟩ := i64_mask a2 3 (by decide)
    obtain ⟨q, hq2, hq⟩ := i64_mask a1 16777215 (by decide)
    obtain ⟨n, hn⟩ := widAt_of hj3
    obtain ⟨n1, n2, n3⟩ := hn.lt
    have hd : 0 < (len0 : Int) - (n : Int) + 1 := by omega
    have hm0 := Int.emod_nonneg (q : Int) (show (len0 : Int) - (n : Int) + 1 ≠ 0 by omega)
    have hm1 := Int.emod_lt_of_pos (q : Int) hd
    obtain ⟨k, hk⟩ := Int.eq_ofNat_of_zero_le hm0
    exact core a0 len0 cap0 _ a1 a2 a3 j n q k w (Lib.hid hb) (by omega) (by omega) hj hq (by omega) (Lib.hid hn) n1 n2 n3 hk (by omega) x0 x1
  · have hl2 : (len0 : Int) ≤ 9223372036854775807 := by omega
    clear w0 hb w1 w2 w3
    by_cases h8 : len0 < 8
    · have hl1 : (len0 : Int) < 8 := by omega
      go_enter Try.func8, Try.ntmps8
      go_wp2_with (go_at_call 11; refine (awake_any _).mono ?_; rintro e w1 ⟨rfl, hb1⟩)
      go_ret
      exact ⟨rfl, by assumption⟩
    · have hl1 : (2000 : Int) < (len0 : Int) := by omega
      go_enter Try.func8, Try.ntmps8
      go_wp2_with (go_at_call 11; refine (awake_any _).mono ?_; rintro e w1 ⟨rfl, hb1⟩)
      go_ret
      exact ⟨rfl, by assumption⟩

set_option maxRecDepth 100000 in
theorem lifted (os : Os) (started : os.Started) (H : Type) (enc : TypeId × Value → H) :
    ReturnsInHanded {} Try.checked os 8 .any (Rows.octetsBackSpec.pre6 enc Try.prog Try.f8 Rows.octetsBackRow.domain false) (Rows.octetsBackSpec.post enc Try.prog Try.f8 false true false false) := by
  refine returnsInHanded_of_change (C := Try.checked) own started (by kernel_rfl) Try.func8
    (ChangeSpec.witness6 (enc := enc) (C := Try.checked) false ⟨#[], #[.slice none 0 0, .int .i64 0, .int .i64 0, .int .u64 0], []⟩ 8 (by kernel_rfl) (by kernel_rfl) (by kernel_rfl) (by kernel_rfl)) ?_
  intro W base args ds gs before hval0 hW hcnd _
  have hval : ∀ (j : Nat) t v, Try.f8.params[j]? = some t → args[j]? = some v → Value.okWide Try.prog W .any base t v := hval0
  have hW' := hW
  obtain ⟨p, q, hA0, hV, rfl, hfz, hnd⟩ := hW
  have hA : DataW.TrodAll enc Try.prog W 0 (fun _ => true) true Try.f8.params.toList args.toList ds p := hA0
  rw [Try.params8] at hA hval
  obtain ⟨v0, vs0, d0, ds0, p0, q0, hargs, rfl, rfl, h0, r0⟩ := trodAll_cons hA
  obtain ⟨v1, vs1, d1, ds1, p1, q1, rfl, rfl, rfl, h1, r1⟩ := trodAll_cons r0
  obtain ⟨v2, vs2, d2, ds2, p2, q2, rfl, rfl, rfl, h2, r2⟩ := trodAll_cons r1
  obtain ⟨v3, vs3, d3, ds3, p3, q3, rfl, rfl, rfl, h3, r3⟩ := trodAll_cons r2
  obtain ⟨rfl, rfl, rfl⟩ := trodAll_nil r3
  obtain rfl : args = #[v0, v1, v2, v3] := by cases args; simp_all
  obtain ⟨rfl, rfl⟩ := trodVars_none hV
  obtain ⟨a0, len0, cap0, rfl⟩ := okWide_slice Try.underlying22 (hval 0 22 v0 rfl rfl)
  have k0 := h0
  have lt0 : ∀ x ∈ p0, x.block < W.heap.size := by obtain ⟨m, hm⟩ := k0; exact DataW.trod_lt m _ _ _ hm
  obtain ⟨z0, w0⟩ : ∃ zs, IsRow .u8 W a0 len0 cap0 zs := by
    obtain ⟨fuel, hf⟩ := h0
    rcases open_ints Try.underlying22 Try.underlying5 (by kernel_rfl) hf with ⟨hcs, _⟩ | ⟨x, l, c, zs, hcs, _, hl, hm, hz, _, hcell, hwz⟩
    · simp [Value.cells] at hcs
      obtain ⟨rfl, rfl, rfl⟩ := hcs
      exact ⟨[], .inl ⟨rfl, rfl, rfl, rfl⟩⟩
    · simp [Value.cells] at hcs
      obtain ⟨rfl, rfl, rfl⟩ := hcs
      exact ⟨zs, .inr ⟨_, rfl, hl, hm, by simpa using hz, hcell, hwz⟩⟩
  obtain ⟨a1, rfl, rfl, rfl, w1⟩ := open_int Try.underlying3 (hval 1 3 v1 rfl rfl) h1
  obtain ⟨a2, rfl, rfl, rfl, w2⟩ := open_int Try.underlying3 (hval 2 3 v2 rfl rfl) h2
  obtain ⟨a3, rfl, rfl, rfl, w3⟩ := open_int Try.underlying23 (hval 3 23 v3 rfl rfl) h3
  clear hA0 hval0
  refine (walk a0 len0 cap0 z0 a1 a2 a3 W w0 w1 w2 w3).mono fun e W' ⟨he, bel⟩ => ?_
  subst he
  exact ⟨_, rfl, _, _, _, [], _, [], hW', trodAll_mk1 (shut_bool Try.underlying4 _), (trodAll_cons_mk (Below.trod laidOut (by kernel_rfl) (of_decide_eq_true (by kernel_rfl)) k0 bel lt0) (trodAll_cons_mk (shut_int Try.underlying3 w1) (trodAll_cons_mk (shut_int Try.underlying3 w2) (trodAll_cons_mk (shut_int Try.underlying23 w3) trodAll_mk0)))), rfl, bel.frame _, fun h => by cases h⟩

theorem over : Rows.octetsBackRow.holds Try.pinned (OpenSpec.ofChange Rows.octetsBackSpec) :=
  OpenClaim.holds_of_wide 8 Try.f8 rfl rfl rfl rfl rfl rfl rfl ⟨rfl, rfl, rfl, rfl, rfl⟩ rfl rfl rfl rfl rfl (by kernel_rfl) Try.func8 (by kernel_rfl)
    (of_decide_eq_true (by kernel_rfl)) (by unfold Func.isWrapper; first | (rw [if_pos (by decide +kernel)]; kernel_rfl) | (rw [if_neg (by decide +kernel)]; exact ⟨rfl, rfl⟩))
    (fun os started H enc _ => lifted os started H enc)

theorem proved : Rows.OctetsBackSaid := over
#print axioms proved
end Go.Proofs.Ytjcjngmcjlffaaa.octetsBack
