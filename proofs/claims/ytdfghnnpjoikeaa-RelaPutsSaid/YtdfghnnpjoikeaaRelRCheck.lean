/-
  What is proved here: Check and Value of the reference of rela.
  Conditions: none but that the arguments are values of their types.
-/
import Derived.Test.YtdfghnnpjoikeaaRelRef
namespace Go.Proofs.Ytdfghnnpjoikeaa
open Go.RowKit
set_option linter.unusedVariables false
set_option linter.unusedSimpArgs false

set_option maxRecDepth 100000 in
set_option maxHeartbeats 3200000 in
theorem rcheck7_any (B : Nat) (a : Option Addr) (len cap : Nat) (L : List Rl) (n : Int) (w : World) (hs : Rl.Sl w B a len L) (hB : B ≤ w.heap.size) (hl : (len : Int) ≤ 9223372036854775807) (hn0 : -9223372036854775808 ≤ n) (hn1 : n ≤ 9223372036854775807) :
    Calls Try.prog 15 #[.slice a len cap, .int .i64 n] w fun e w' => e = .returned (.int .i64 (checkL L n)) ∧ Below w.heap.size w w' := by
  obtain ⟨r, hr⟩ : ∃ r, checkL L n = r := ⟨_, rfl⟩
  rw [hr]
  have HG : Hid ((∀ k, k < len → errL (L.getD k Rl.zero) n = 0) → r = 0) := Lib.hid (fun h => hr ▸ checkL_good (by rw [hs.hl]; exact h))
  have HX : Hid (∀ k, k < len → (∀ j, j < k → errL (L.getD j Rl.zero) n = 0) → ∀ e, errL (L.getD k Rl.zero) n = e → e ≠ 0 → r = e) := Lib.hid (fun k hk h0 e he h => by
    subst he
    exact hr ▸ checkL_bad (by rw [hs.hl]; exact hk) h0 h)
  have HS := Lib.hid hs
  clear hr hs
  go_enter Try.func15, Try.ntmps15
  go_wp2
  go_loopw [5] (fun i wr => ∃ k : Nat, k ≤ len ∧ i = .int .i64 k ∧ (∀ j, j < k → errL (L.getD j Rl.zero) n = 0) ∧ Below w.heap.size w wr) (fun i _ => len - (intOf i).toNat)
  case atStart => exact ⟨0, Nat.zero_le _, rfl, fun j hj => absurd hj (by omega), Below.refl _ _⟩
  case round =>
    obtain ⟨k, hk, rfl, hno, hbel⟩ := hrel
    by_cases hlt : k < len
    · obtain ⟨b, off, rfl, hbB, hcell⟩ := HS.out.hc (by omega)
      obtain ⟨c0, c1, c2, c3⟩ := (hcell k hlt).below (hbel.mono hB) hbB
      have hok := HS.out.okAt hlt
      have HNX := Lib.hid (good_upto hno)
      have HBD := Lib.hid (HX.out k hlt hno)
      have hlti : (k : Int) < len := by omega
      have HBE := Lib.hid hbel
      generalize L.getD k Rl.zero = s at c0 c1 c2 c3 hok HNX HBD
      obtain ⟨⟨a0, a1⟩, ⟨b0, b1⟩, ⟨o0, o1⟩, ⟨d0, d1⟩⟩ := hok
      obtain ⟨of, ty, sy, ad⟩ := s
      simp only at c0 c1 c2 c3 a0 a1 b0 b1 o0 o1 d0 d1
      have hbw : b < wr.heap.size := by have := hbel.size; omega
      have HK := Lib.hid (fun w1 => known7_any ty w1)
      have HEQ : Hid (errL ⟨of, ty, sy, ad⟩ n = if knownL ty = false then 33 else if 0 < sy ∧ (n < 0 ∨ n ≤ sy) then 10 else if ((ty = 0 ∨ ty = 8) ∧ sy ≠ 0) ∨ (¬ (ty = 0 ∨ ty = 8) ∧ sy = 0) then 11 else 0) := Lib.hid rfl
      clear hcell hno hbel
      cases hkn : knownL ty with
      | false =>
        rw [hkn] at HK HEQ
        have HR := Lib.hid (HBD.out 33 (by rw [HEQ.out, if_pos rfl]) (by decide))
        clear HEQ HBD HNX
        go_wp2_with (go_at_call 25; refine (HK.out _).mono ?_; rintro e w' ⟨rfl, rfl⟩)
        go_ret
        exact ⟨ret_i64 HR.out.symm, HBE.out⟩
      | true =>
        rw [hkn] at HK HEQ
        by_cases hsy : sy = 0
        · subst hsy
          by_cases hty0 : ty = 0
          · subst hty0
            have HR := Lib.hid (HNX.out (by rw [HEQ.out, if_neg (by decide), if_neg (by omega), if_neg (by omega)]))
            clear HEQ HBD HNX
            go_wp2_with (go_at_call 25; refine (HK.out _).mono ?_; rintro e w' ⟨rfl, rfl⟩)
            go_quiet (fail)
            go_wp2
            go_roundw
            case rel => exact ⟨k + 1, by omega, by go_num, HR.out, below_drewN HBE.out _⟩
            case measure => (simp [intOf] <;> omega)
          · have htyb : (ty == 0) = false := by simpa using hty0
            by_cases hty8 : ty = 8
            · subst hty8
              have HR := Lib.hid (HNX.out (by rw [HEQ.out, if_neg (by decide), if_neg (by omega), if_neg (by omega)]))
              clear HEQ HBD HNX
              go_wp2_with (go_at_call 25; refine (HK.out _).mono ?_; rintro e w' ⟨rfl, rfl⟩)
              go_quiet (fail)
              go_wp2
              go_roundw
              case rel => exact ⟨k + 1, by omega, by go_num, HR.out, below_drewN HBE.out _⟩
              case measure => (simp [intOf] <;> omega)
            · have htyc : (ty == 8) = false := by simpa using hty8
              have HR := Lib.hid (HBD.out 11 (by rw [HEQ.out, if_neg (by decide), if_neg (by omega), if_pos (by omega)]) (by decide))
              clear HEQ HBD HNX
              go_wp2_with (go_at_call 25; refine (HK.out _).mono ?_; rintro e w' ⟨rfl, rfl⟩)
              go_quiet (fail)
              go_wp2
              go_ret
              exact ⟨ret_i64 HR.out.symm, below_drewN HBE.out _⟩
        · have hsy0 : 0 < sy := by omega
          have hsyb : (sy == 0) = false := by simpa using hsy
          by_cases hn : n < 0
          · have HR := Lib.hid (HBD.out 10 (by rw [HEQ.out, if_neg (by decide), if_pos ⟨hsy0, .inl hn⟩]) (by decide))
            clear HEQ HBD HNX
            go_wp2_with (go_at_call 25; refine (HK.out _).mono ?_; rintro e w' ⟨rfl, rfl⟩)
            go_ret
            exact ⟨ret_i64 HR.out.symm, HBE.out⟩
          · have hnw : IntKind.u64.wrap n = n := by rw [IntKind.wrap_u64]; omega
            by_cases hns : n ≤ sy
            · have HR := Lib.hid (HBD.out 10 (by rw [HEQ.out, if_neg (by decide), if_pos ⟨hsy0, .inr hns⟩]) (by decide))
              clear HEQ HBD HNX
              go_wp2_with (go_at_call 25; refine (HK.out _).mono ?_; rintro e w' ⟨rfl, rfl⟩)
              go_ret
              exact ⟨ret_i64 HR.out.symm, HBE.out⟩
            · have hng : ¬ (0 < sy ∧ (n < 0 ∨ n ≤ sy)) := by omega
              by_cases hty0 : ty = 0
              · subst hty0
                have HR := Lib.hid (HBD.out 11 (by rw [HEQ.out, if_neg (by decide), if_neg (by omega), if_pos (by omega)]) (by decide))
                clear HEQ HBD HNX
                go_wp2_with (go_at_call 25; refine (HK.out _).mono ?_; rintro e w' ⟨rfl, rfl⟩)
                go_quiet (fail)
                go_wp2
                go_ret
                exact ⟨ret_i64 HR.out.symm, below_drewN HBE.out _⟩
              · have htyb : (ty == 0) = false := by simpa using hty0
                by_cases hty8 : ty = 8
                · subst hty8
                  have HR := Lib.hid (HBD.out 11 (by rw [HEQ.out, if_neg (by decide), if_neg (by omega), if_pos (by omega)]) (by decide))
                  clear HEQ HBD HNX
                  go_wp2_with (go_at_call 25; refine (HK.out _).mono ?_; rintro e w' ⟨rfl, rfl⟩)
                  go_quiet (fail)
                  go_wp2
                  go_ret
                  exact ⟨ret_i64 HR.out.symm, below_drewN HBE.out _⟩
                · have htyc : (ty == 8) = false := by simpa using hty8
                  have HR := Lib.hid (HNX.out (by rw [HEQ.out, if_neg (by decide), if_neg (by omega), if_neg (by omega)]))
                  clear HEQ HBD HNX
                  go_wp2_with (go_at_call 25; refine (HK.out _).mono ?_; rintro e w' ⟨rfl, rfl⟩)
                  go_quiet (fail)
                  go_wp2
                  go_roundw
                  case rel => exact ⟨k + 1, by omega, by go_num, HR.out, below_drewN HBE.out _⟩
                  case measure => (simp [intOf] <;> omega)
    · obtain rfl : k = len := by omega
      have HB := Lib.hid hbel
      have HN := Lib.hid (HG.out hno)
      clear hbel hno
      go_wp2
      go_ret
      exact ⟨ret_i64 HN.out.symm, HB.out⟩

set_option maxHeartbeats 1600000 in
theorem rvalue7_any (t base symbol add : Int) (w : World) (t0 : 0 ≤ t) (t1 : t ≤ 4294967295) (s0 : 0 ≤ symbol) (s1 : symbol ≤ 18446744073709551615) (b0 : 0 ≤ base) (b1 : base ≤ 18446744073709551615) :
    Calls Try.prog 17 #[.int .u32 t, .int .u64 base, .int .u64 symbol, .int .i64 add] w fun r w' => r = .returned (.tuple #[.int .u64 (valL t base symbol add).1, .int .i64 (valL t base symbol add).2]) ∧ w = w' := by
  obtain ⟨v, e, hve⟩ : ∃ v e, valL t base symbol add = (v, e) := ⟨_, _, rfl⟩
  rw [hve]
  have HV : Hid ((if knownL t = false then ((0 : Int), (33 : Int)) else if t = 0 then (0, 0) else if t = 8 then (IntKind.u64.wrap (base + IntKind.u64.wrap add), 0) else if t = 6 ∨ t = 7 ∨ t = 16 then (symbol, 0) else (IntKind.u64.wrap (symbol + IntKind.u64.wrap add), 0)) = (v, e)) := Lib.hid (by rw [← hve]; rfl)
  have HK := Lib.hid (fun w1 => known7_any t w1)
  clear hve
  cases hkn : knownL t with
  | false =>
    rw [hkn] at HK HV
    have h := HV.out
    rw [if_pos rfl] at h
    injection h with h1 h2
    subst h1; subst h2
    clear HV
    go_enter Try.func17, Try.ntmps17
    go_wp2_with (go_at_call 25; refine (HK.out _).mono ?_; rintro e w' ⟨rfl, rfl⟩)
    go_ret2
    exact ⟨rfl, rfl⟩
  | true =>
    rw [hkn] at HK HV
    have h := HV.out
    rw [if_neg (by decide)] at h
    clear HV
    by_cases h0 : t = 0
    · subst h0
      rw [if_pos rfl] at h
      injection h with h1 h2
      subst h1; subst h2
      go_enter Try.func17, Try.ntmps17
      go_wp2_with (go_at_call 25; refine (HK.out _).mono ?_; rintro e w' ⟨rfl, rfl⟩)
      go_ret2
      exact ⟨rfl, rfl⟩
    · rw [if_neg h0] at h
      have g0 : (t == 0) = false := by simpa using h0
      by_cases h8 : t = 8
      · subst h8
        rw [if_pos rfl] at h
        injection h with h1 h2
        subst h1; subst h2
        go_enter Try.func17, Try.ntmps17
        go_wp2_with (go_at_call 25; refine (HK.out _).mono ?_; rintro e w' ⟨rfl, rfl⟩)
        go_ret2
        exact ⟨rfl, rfl⟩
      · rw [if_neg h8] at h
        have g8 : (t == 8) = false := by simpa using h8
        by_cases h6 : t = 6
        · subst h6
          rw [if_pos (by decide)] at h
          injection h with h1 h2
          subst h1; subst h2
          go_enter Try.func17, Try.ntmps17
          go_wp2_with (go_at_call 25; refine (HK.out _).mono ?_; rintro e w' ⟨rfl, rfl⟩)
          go_ret2
          exact ⟨rfl, rfl⟩
        · by_cases h7 : t = 7
          · subst h7
            rw [if_pos (by decide)] at h
            injection h with h1 h2
            subst h1; subst h2
            go_enter Try.func17, Try.ntmps17
            go_wp2_with (go_at_call 25; refine (HK.out _).mono ?_; rintro e w' ⟨rfl, rfl⟩)
            go_ret2
            exact ⟨rfl, rfl⟩
          · by_cases h16 : t = 16
            · subst h16
              rw [if_pos (by decide)] at h
              injection h with h1 h2
              subst h1; subst h2
              go_enter Try.func17, Try.ntmps17
              go_wp2_with (go_at_call 25; refine (HK.out _).mono ?_; rintro e w' ⟨rfl, rfl⟩)
              go_ret2
              exact ⟨rfl, rfl⟩
            · rw [if_neg (by omega)] at h
              have g6 : (t == 6) = false := by simpa using h6
              have g7 : (t == 7) = false := by simpa using h7
              have g16 : (t == 16) = false := by simpa using h16
              injection h with h1 h2
              subst h1; subst h2
              go_enter Try.func17, Try.ntmps17
              go_wp2_with (go_at_call 25; refine (HK.out _).mono ?_; rintro e w' ⟨rfl, rfl⟩)
              go_ret2
              exact ⟨rfl, rfl⟩
end Go.Proofs.Ytdfghnnpjoikeaa
