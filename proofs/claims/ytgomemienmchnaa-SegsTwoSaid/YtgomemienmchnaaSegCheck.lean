/-
  What is proved here: Check of package segs: the document's error, or none.
  Conditions: none but that the arguments are values of their types.
-/
import Derived.Test.YtgomemienmchnaaSegLoaded
namespace Go.Proofs.Ytgomemienmchnaa
open Go.RowKit
set_option linter.unusedVariables false
set_option linter.unusedSimpArgs false

theorem at1_alone {L : List Sg} {size : Int} {k : Nat} (h : aloneS (L.getD k sg0) size ≠ 0) : at1 L size k = aloneS (L.getD k sg0) size := by
  unfold at1 step1
  rw [if_pos h]
theorem at1_load {L : List Sg} {size : Int} {k : Nat} (h : aloneS (L.getD k sg0) size = 0) (h1 : (L.getD k sg0).ty = 1) : at1 L size k = if firstS (L.getD k sg0) < lastEnd (L.take k) then 12 else 0 := by
  unfold at1 step1
  rw [if_neg (by omega), if_pos h1]
theorem at1_one {L : List Sg} {size : Int} {k : Nat} (h : aloneS (L.getD k sg0) size = 0) (h1 : (L.getD k sg0).ty = 2 ∨ (L.getD k sg0).ty = 7) : at1 L size k = if ((L.take k).find? (kindB (L.getD k sg0).ty)).isSome = true then 12 else 0 := by
  unfold at1 step1
  rw [if_neg (by omega), if_neg (by omega), if_pos h1, any_find]
  rfl
theorem at1_rest {L : List Sg} {size : Int} {k : Nat} (h : aloneS (L.getD k sg0) size = 0) (h1 : (L.getD k sg0).ty ≠ 1) (h2 : (L.getD k sg0).ty ≠ 2) (h7 : (L.getD k sg0).ty ≠ 7) : at1 L size k = 0 := by
  unfold at1 step1
  rw [if_neg (by omega), if_neg h1, if_neg (by omega)]
theorem lastEnd_step {L : List Sg} {k : Nat} (h : k < L.length) : lastEnd (L.take (k + 1)) = if (L.getD k sg0).ty = 1 then behindS (L.getD k sg0) else lastEnd (L.take k) := by
  rw [take_snoc h, lastEnd_snoc]
theorem chk_at1' {L : List Sg} {size r : Int} {k : Nat} (hr : checkS L size = r) (h : ∀ j, j < k → at1 L size j = 0) (hk : k < L.length) (he : at1 L size k ≠ 0) : r = at1 L size k := by
  rw [← hr, chk_at1 h hk he]

set_option maxRecDepth 100000 in
set_option maxHeartbeats 3200000 in
theorem check1_any (B : Nat) (a : Option Addr) (len cap : Nat) (L : List Sg) (size : Int) (w : World) (hs : Sgs w B a len L) (hB : B ≤ w.heap.size) (hcap : len ≤ cap) (hcm : (cap : Int) ≤ 9223372036854775807) (z0 : 0 ≤ size) (z1 : size ≤ 18446744073709551615) :
    Calls Try.prog 18 #[.slice a len cap, .int .u64 size] w fun e w' => e = .returned (.int .i64 (checkS L size)) ∧ Below w.heap.size w w' := by
  obtain ⟨r, hr⟩ : ∃ r, checkS L size = r := ⟨_, rfl⟩
  rw [hr]
  have HR := Lib.hid hr
  have HS := Lib.hid hs
  clear hr hs
  go_enter Try.func18, Try.ntmps18
  go_wp2
  go_loopw [5, 6, 7, 8, 9, 10, 11, 12, 15] (fun v _ _ _ _ _ _ _ i wr => ∃ k : Nat, k ≤ len ∧ i = .int .i64 k ∧ v = .int .u64 (lastEnd (L.take k)) ∧ (∀ j, j < k → at1 L size j = 0) ∧ Below w.heap.size w wr) (fun _ _ _ _ _ _ _ _ i _ => len - (intOf i).toNat)
  case atStart => exact ⟨0, Nat.zero_le _, rfl, rfl, fun j hj => absurd hj (by omega), Below.refl _ _⟩
  case round =>
    obtain ⟨k, hk, rfl, rfl, hno, hbel⟩ := hrel
    by_cases hlt : k < len
    · obtain ⟨b, off, rfl, hbB, hcell⟩ := HS.out.hc (by omega)
      have hsev := (hcell k hlt).below (hbel.mono hB) hbB
      have hok := HS.out.okAt hlt
      have hLl := HS.out.hl
      have HA := Lib.hid (at1_alone (L := L) (size := size) (k := k))
      have HL := Lib.hid (at1_load (L := L) (size := size) (k := k))
      have HO := Lib.hid (at1_one (L := L) (size := size) (k := k))
      have HE := Lib.hid (at1_rest (L := L) (size := size) (k := k))
      have HLE := Lib.hid (lastEnd_step (L := L) (k := k) (by omega))
      have HNO := Lib.hid (upto_succ hno)
      have HRE := Lib.hid (chk_at1' HR.out hno (by omega))
      have HF : Hid (∀ t w1, Below w.heap.size w w1 → Calls Try.prog 22 #[.slice (some ⟨b, off, none⟩) k cap, .int .u32 t] w1 fun e w' => e = .returned (.tuple #[foundV ((L.take k).find? (kindB t)), .bool ((L.take k).find? (kindB t)).isSome]) ∧ Below w1.heap.size w1 w') := Lib.hid (fun t w1 h1 =>
        sfind_any B _ k cap (L.take k) t w1 ((HS.out.below (h1.mono hB)).front (by omega)) (by have := h1.size; omega) (by omega))
      obtain ⟨s, hsd⟩ : ∃ s, L.getD k sg0 = s := ⟨_, rfl⟩
      obtain ⟨le, hle⟩ : ∃ le, lastEnd (L.take k) = le := ⟨_, rfl⟩
      rw [hsd] at hsev hok HA HL HO HE HLE
      rw [hle] at HL HLE ⊢
      have HB2 : Hid (∀ o, Below w.heap.size w (wr.alloc o)) := Lib.hid (fun o => hbel.alloc hbel.size o)
      have hbs := hbel.size
      have HCA := Lib.hid (fun w1 => alone_any s size w1 hok z0 z1)
      have HPA := Lib.hid (fun h w1 => pages_ok s w1 hok h)
      have HSZ := Lib.hid hlt
      clear hcell hsd hno hbel hok hle
      obtain ⟨c0, c1, c2, c3, c4, c5, c6⟩ := hsev
      obtain ⟨e, he⟩ : ∃ e, aloneS s size = e := ⟨_, rfl⟩
      rw [he] at HA HCA HL HO HE
      by_cases he0 : e = 0
      · subst he0
        have hal := alone0 he
        have HV := Lib.hid hal.va
        clear he hal HA
        obtain ⟨ty, fl, ot, va, fi, me, al⟩ := s
        simp only at c0 c1 c2 c3 c4 c5 c6
        by_cases h1 : ty = 1
        · have hll := HL.out rfl h1
          have hv := HV.out (by show ty ≠ 0; omega)
          have HP := Lib.hid (HPA.out hv)
          have HLE' := HLE.out
          rw [if_pos (show (⟨ty, fl, ot, va, fi, me, al⟩ : Sg).ty = 1 from h1)] at HLE'
          subst h1
          generalize firstS ⟨1, fl, ot, va, fi, me, al⟩ = fs at hll HP
          generalize behindS ⟨1, fl, ot, va, fi, me, al⟩ = bh at HLE' HP
          clear HF HL HO HE HPA HV hv
          unfold Sg.val at *
          simp only at HCA HP
          by_cases hov : fs < le
          · rw [if_pos hov] at hll
            have hr2 := HRE.out (by rw [hll]; decide)
            rw [hll] at hr2
            subst hr2
            clear HRE HNO hll HLE HLE'
            go_wp2_with fail
            refine (HCA.out _).mono ?_
            rintro e w2 ⟨rfl, hb2⟩
            obtain ⟨q0, q1, q2, q3, q4, q5, q6⟩ := ((Blk.new wr _ _).later hb2).c7
            have HB3 := Lib.hid ((HB2.out _).trans (hb2.mono (HB2.out _).size))
            clear hb2
            go_wp2_with fail
            refine (HP.out _).mono ?_
            rintro e w3 ⟨rfl, hb3⟩
            have HB4 := Lib.hid (HB3.out.trans (hb3.mono HB3.out.size))
            clear hb3
            go_wp2
            go_ret
            exact ⟨rfl, HB4.out⟩
          · rw [if_neg hov] at hll
            have hn := Lib.hid (HNO.out hll)
            clear HRE HNO hll
            go_wp2_with fail
            refine (HCA.out _).mono ?_
            rintro e w2 ⟨rfl, hb2⟩
            obtain ⟨q0, q1, q2, q3, q4, q5, q6⟩ := ((Blk.new wr _ _).later hb2).c7
            have HB3 := Lib.hid ((HB2.out _).trans (hb2.mono (HB2.out _).size))
            clear hb2
            go_wp2_with fail
            refine (HP.out _).mono ?_
            rintro e w3 ⟨rfl, hb3⟩
            have HB4 := Lib.hid (HB3.out.trans (hb3.mono HB3.out.size))
            clear hb3
            go_wp2
            go_roundw
            case rel => exact ⟨k + 1, by omega, by go_num, by rw [HLE'], hn.out, HB4.out⟩
            case measure => simp [intOf]; omega
        · have HLE' := HLE.out
          rw [if_neg (show ¬ (⟨ty, fl, ot, va, fi, me, al⟩ : Sg).ty = 1 from h1)] at HLE'
          by_cases h27 : ty = 2 ∨ ty = 7
          · have hoo := HO.out rfl h27
            have HFT := Lib.hid (HF.out ty)
            simp only at hoo
            obtain ⟨q, hq⟩ : ∃ q, ((L.take k).find? (kindB ty)).isSome = q := ⟨_, rfl⟩
            rw [hq, foundV_eq] at HFT
            rw [hq] at hoo
            generalize ((L.take k).find? (kindB ty)).getD sg0 = s2 at HFT
            obtain ⟨ty2, fl2, ot2, va2, fi2, me2, al2⟩ := s2
            clear HF HL HO HE HPA HV hq
            unfold Sg.val at *
            simp only at HCA HFT
            have HOO := Lib.hid hoo
            rcases h27 with rfl | rfl
            all_goals
                clear hoo
                go_wp2_with fail
                refine (HCA.out _).mono ?_
                rintro e w2 ⟨rfl, hb2⟩
                obtain ⟨q0, q1, q2, q3, q4, q5, q6⟩ := ((Blk.new wr _ _).later hb2).c7
                have hqa := fun o => (((Blk.new wr _ _).later hb2).alloc o).c7.1
                have hqb := fun o => ((((Blk.new wr _ _).later hb2).drew).alloc o).c7.1
                have HB3 := Lib.hid ((HB2.out _).trans (hb2.mono (HB2.out _).size))
                clear hb2
                go_wp2
                go_region_with (go_at_call 22; refine (HFT.out _ (by first | exact HB3.out.drew | exact HB3.out.drew.alloc HB3.out.size _)).mono ?_; rintro r2 w4 ⟨rfl, hb4⟩; (first | (have zb : Blk w4 w2.heap.size #[.int .u32 0, .int .u32 0, .int .u64 0, .int .u64 0, .int .u64 0, .int .u64 0, .int .u64 0] 25 := (Blk.new w2.drew _ _).later hb4; have zz := zb.c7; have zf := zb.f7; clear zb; obtain ⟨z0', z1', z2', z3', z4', z5', z6'⟩ := zz; obtain ⟨y0, y1, y2, y3, y4, y5, y6⟩ := zf) | skip); have HB5 : Hid (Below w.heap.size w w4) := Lib.hid (by first | exact HB3.out.drew.trans (hb4.mono HB3.out.size) | exact (HB3.out.drew.alloc HB3.out.size _).trans (hb4.mono (HB3.out.drew.alloc HB3.out.size _).size)); clear hb4)
                all_goals
                  cases q with
                  | true =>
                    have hoo := HOO.out
                    rw [if_pos rfl] at hoo
                    have hr2 := HRE.out (by rw [hoo]; decide)
                    rw [hoo] at hr2
                    subst hr2
                    clear HRE HNO hoo HLE HLE' HOO
                    go_wp2
                    go_ret
                    exact ⟨rfl, by first | with_reducible exact HB5.out.alloc HB5.out.size _ | with_reducible exact (((((((HB5.out.setCell HB3.out.size _).setCell HB3.out.size _).setCell HB3.out.size _).setCell HB3.out.size _).setCell HB3.out.size _).setCell HB3.out.size _).setCell HB3.out.size _)⟩
                  | false =>
                    have hoo := HOO.out
                    rw [if_neg (by decide)] at hoo
                    have hn := Lib.hid (HNO.out hoo)
                    clear HRE HNO hoo HOO
                    go_wp2
                    go_roundw
                    case rel => exact ⟨k + 1, by omega, by go_num, by rw [HLE'], hn.out, by first | with_reducible exact HB5.out.alloc HB5.out.size _ | with_reducible exact (((((((HB5.out.setCell HB3.out.size _).setCell HB3.out.size _).setCell HB3.out.size _).setCell HB3.out.size _).setCell HB3.out.size _).setCell HB3.out.size _).setCell HB3.out.size _)⟩
                    case measure => simp [intOf]; omega
          · have hn := Lib.hid (HNO.out (HE.out rfl h1 (fun h => h27 (.inl h)) (fun h => h27 (.inr h))))
            have h1' : (ty == 1) = false := by simpa using h1
            have h2' : (ty == 2) = false := by simp; omega
            have h7' : (ty == 7) = false := by simp; omega
            clear HRE HNO HF HL HO HE HPA HV h27 h1
            unfold Sg.val at *
            simp only at HCA
            go_wp2_with fail
            refine (HCA.out _).mono ?_
            rintro e w2 ⟨rfl, hb2⟩
            obtain ⟨q0, q1, q2, q3, q4, q5, q6⟩ := ((Blk.new wr _ _).later hb2).c7
            have HB3 := Lib.hid ((HB2.out _).trans (hb2.mono (HB2.out _).size))
            clear hb2
            go_wp2
            go_roundw
            case rel => exact ⟨k + 1, by omega, by go_num, by rw [HLE'], hn.out, HB3.out⟩
            case measure => simp [intOf]; omega
      · have ha := HA.out he0
        have hr2 := HRE.out (by rw [ha]; exact he0)
        rw [ha] at hr2
        subst hr2
        have he0' : (r != 0) = true := by simpa using he0
        obtain ⟨ty, fl, ot, va, fi, me, al⟩ := s
        simp only at c0 c1 c2 c3 c4 c5 c6
        clear HRE HNO HF HL HO HE HPA HA ha
        unfold Sg.val at *
        simp only at HCA
        go_wp2_with fail
        refine (HCA.out _).mono ?_
        rintro e w2 ⟨rfl, hb2⟩
        have HB3 := Lib.hid ((HB2.out _).trans (hb2.mono (HB2.out _).size))
        clear hb2
        go_wp2
        go_ret
        exact ⟨rfl, HB3.out⟩
    · obtain rfl : k = len := by omega
      have hLl := HS.out.hl
      have hrr : checkS L size = firstErr (at2 L) 0 L.length := by
        unfold checkS
        rw [firstErr_no (fun j _ hj => hno j (by omega)), if_pos rfl]
      have HC := Lib.hid (loaded_any B a k cap L wr (HS.out.below (hbel.mono hB)) (by have := hbel.size; omega) (by omega))
      rw [← hrr, HR.out] at HC
      have HB3 := Lib.hid hbel
      clear hbel hno hrr
      go_wp2_with fail
      refine HC.out.mono ?_
      rintro e w2 ⟨rfl, hb2⟩
      have HB4 := Lib.hid (HB3.out.trans (hb2.mono HB3.out.size))
      clear hb2
      go_wp2
      go_ret
      exact ⟨rfl, HB4.out⟩
end Go.Proofs.Ytgomemienmchnaa
