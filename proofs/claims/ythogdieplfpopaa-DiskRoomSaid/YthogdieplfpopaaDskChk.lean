/-
  What is proved here: checkWrite of package disk.
  Conditions: none.
-/
import Derived.Test.YthogdieplfpopaaDskNew
import Derived.Deep.Cut
import Derived.Deep.CutBlock
import Derived.Deep.DeepCutAuto
import Derived.Test.YthogdieplfpopaaFEnd
import Derived.Test.YthogdieplfpopaaFRun
namespace Go.Proofs.Ythogdieplfpopaa
open Go.RowKit Go.WideMaps Go.Maps
set_option linter.unusedVariables false
set_option linter.unusedSimpArgs false

def errW (d : Dk) (x : ByteArray) (p : Int) (n : Nat) : Int :=
  match findD d.l x with
  | none => 20
  | some f => if p < 0 ∨ ((d.is.getD f []).length : Int) < p then 1
      else if ((d.is.getD f []).length : Int) < p + n ∧ d.room - usedD d < p + n - (d.is.getD f []).length then 22 else 0
set_option maxHeartbeats 6400000 in
set_option maxRecDepth 100000 in
theorem chk_ok {w : World} {S : Sh} {d : Dk} {c e : Nat} (h : At w S d c e) {x : ByteArray} (hx : x.size ≤ maxLen) (p : Int) (n : Nat) (hn : n ≤ 1099511627776) (he : e ≤ 1099511627776) (hU : usedD d < 4611686018427387904) (hU0 : 0 ≤ usedD d) (hp0 : -9223372036854775808 ≤ p) (hp1 : p ≤ 9223372036854775807) :
    Calls Try.prog 44 #[ptrV S.g, .string x, .int .i64 p, .int .i64 n] w fun r w' => r = .returned (.int .i64 (errW d x p n)) ∧ Below w.heap.size w w' := by
  have hf := find_ok h.hd hx
  unfold errW
  cases hfi : findD d.l x with
  | none =>
    rw [hfi] at hf
    simp only [fileP] at hf
    have HF := Lib.hid hf
    have hq := eql_nil w
    clear h hx hf hfi hU hU0
    unfold ptrV at *
    go_enter Try.func44, Try.ntmps44
    go_wp2_with fail
    refine HF.out.mono ?_
    rintro r w' ⟨rfl, rfl⟩
    go_wp2
    go_ret
    exact ⟨rfl, Below.refl _ _⟩
  | some f =>
    rw [hfi] at hf
    simp only [fileP] at hf
    have HF := Lib.hid hf
    have hlf : S.live f := by
      obtain ⟨y, hy1, _, hy3⟩ := find_mem hfi
      rw [← hy3]; exact h.fs.nam0 y hy1
    have hq := eql_ptr (S.fb f) w
    obtain ⟨ra, rcap, hre⟩ := own_sl (h.fs.row f false hlf)
    have hcell : w.cell? ⟨S.fb f, 0, none⟩ = some (.slice ra (d.is.getD f []).length rcap) := by
      have := (h.fs.file f hlf).cell 0
      rw [this, ← show S.row f false = .slice ra (d.is.getD f []).length rcap from hre]; rfl
    have hlen : (d.is.getD f []).length ≤ 1099511627776 := Nat.le_trans (h.fs.len f false hlf) he
    have hroom := (ds_cells h.ds).1
    have hrb := h.ds.rb
    have HUS : Hid (∀ w9, Below w.drew.heap.size w.drew w9 → Calls Try.prog 24 #[ptrV S.g] w9 fun r w' => r = .returned (.int .i64 (usedD d)) ∧ Below w9.heap.size w9 w') := Lib.hid (fun w9 hb => used_ok (h.drew.below hb) hU)
    have HD : Hid (∀ w1, Below w.drew.heap.size w.drew w1 → w1.cell? ⟨S.g, 0, none⟩ = some (.int .i64 d.room)) := Lib.hid (fun w1 hb => (Blk.later (w := w.drew) h.ds.disk hb).cell 0)
    have hgl := h.ds.disk.lt
    clear h hx hf hfi hlf hre
    simp only
    generalize (d.is.getD f []).length = len at *
    generalize usedD d = us at *
    generalize d.room = room at *
    unfold ptrV at *
    by_cases hp : p < 0 ∨ (len : Int) < p
    · rw [if_pos hp]
      clear HUS
      by_cases hp2 : p < 0
      · have hd1 : decide (p < 0) = true := decide_eq_true hp2
        go_enter Try.func44, Try.ntmps44
        go_wp2_with fail
        refine HF.out.mono ?_
        rintro r w' ⟨rfl, rfl⟩
        go_wp2
        go_ret
        exact ⟨rfl, Below.refl _ _⟩
      · have hp3 : (len : Int) < p := by omega
        go_enter Try.func44, Try.ntmps44
        go_wp2_with fail
        refine HF.out.mono ?_
        rintro r w' ⟨rfl, rfl⟩
        go_wp2
        go_ret
        exact ⟨rfl, Below.refl _ _⟩
    · rw [if_neg hp]
      have hp2 : ¬ p < 0 := fun h => hp (.inl h)
      have hp3 : ¬ (len : Int) < p := fun h => hp (.inr h)
      clear hp
      have hni : (n : Int) ≤ 1099511627776 := by omega
      have hli : (len : Int) ≤ 1099511627776 := by omega
      by_cases hgr : (len : Int) < p + n
      · have hgd : (0 : Int) < p + n - len := by omega
        have hb1 : decide ((0 : Int) < p + n - len) = true := decide_eq_true hgd
        have hcut : (if (len : Int) < p + n ∧ room - us < p + n - len then (22 : Int) else 0) = if room - us < p + n - len then 22 else 0 := by
          by_cases h2 : room - us < p + n - len
          · rw [if_pos ⟨hgr, h2⟩, if_pos h2]
          · rw [if_neg (fun h => h2 h.2), if_neg h2]
        rw [hcut]
        clear hcut
        have hsum : IntKind.i64.wrap (room - us) = room - us := by rw [IntKind.wrap_i64]; omega
        go_enter Try.func44, Try.ntmps44
        go_wp2_with fail
        refine HF.out.mono ?_
        rintro r w' ⟨rfl, rfl⟩
        have HSUM := Lib.hid hsum
        clear hsum
        go_upto_region 8 with fail
        refine wp_region_facts (by kernel_rfl) Stays Stays.refl Stays.trans 48 rfl [35, 36, 37, 38, 39, 40, 41, 42, 43, 44, 45, 46, 47] (factsOf [Is (.int .i64 (p + n - len)), Is (.bool true), Is (.bool true), Is (.int .i64 (p + n - len)), Is (.pointer (some ⟨S.g, 0, none⟩)), Is (.pointer (some ⟨S.g, 0, none⟩)), Is (.pointer (some ⟨S.g, 0, none⟩)), Is (.int .i64 room), Is (.pointer (some ⟨S.g, 0, none⟩)), Is (.int .i64 us), Is (.int .i64 (room - us)), Is (.bool (decide (room - us < p + n - len))), Is (.bool (decide (room - us < p + n - len)))]) (by kernel_rfl) (factsOf_mono (mono_cons (Is.mono _) (mono_cons (Is.mono _) (mono_cons (Is.mono _) (mono_cons (Is.mono _) (mono_cons (Is.mono _) (mono_cons (Is.mono _) (mono_cons (Is.mono _) (mono_cons (Is.mono _) (mono_cons (Is.mono _) (mono_cons (Is.mono _) (mono_cons (Is.mono _) (mono_cons (Is.mono _) (mono_cons (Is.mono _) mono_nil)))))))))))))) ?steps35 ?fin35
        case fin35 =>
          intro v w2 hb2 hF
          have hlast : v 12 = .bool (decide (room - us < p + n - len)) := hF 12 (by decide)
          have HBF : Hid (Below w'.heap.size w' w2) := Lib.hid ((Below.refl _ _).drew.trans hb2)
          clear hb2 hF
          simp only [putAll, List.set_cons_succ, List.set_cons_zero, Nat.reduceAdd, hlast]
          by_cases h2 : room - us < p + n - len
          · have hd2 : decide (room - us < p + n - len) = true := decide_eq_true h2
            simp only [hd2, if_pos h2]
            go_wp2
            go_ret
            exact ⟨rfl, HBF.out⟩
          · have hd2 : decide (room - us < p + n - len) = false := decide_eq_false h2
            simp only [hd2, if_neg h2]
            go_wp2
            go_ret
            exact ⟨rfl, HBF.out⟩
        case steps35 =>
          refine ⟨?_, ?_, ?_, ?_, ?_, ?_, ?_, ?_, ?_, ?_, ?_, ?_, ?_, trivial⟩
          all_goals intro y w2 hb hy0 hp0
          all_goals have hy := Lib.hid hy0
          all_goals have hp := Lib.hid hp0
          all_goals have hst := Lib.hid hb
          all_goals clear hy0 hp0 hb
          · have e1 : y 11 = .int .i64 (p + n - len) := hy.out 11 (by decide)
            refine StepG.plain rfl fun K Q hK => ?_
            have v1 := (eval_frame 48 y [] (t := 11) (by decide)).trans e1
            obtain ⟨A, hA⟩ : ∃ A, (⟨frameOf 48 y, []⟩ : Act) = A := ⟨_, rfl⟩
            rw [hA] at v1 hK ⊢
            clear hA hy hp
            simp only [Act.eval] at v1
            go_simp
            exact hK _ _ ⟨Stays.refl _, by first | rfl | simp [Is] | (simp [factsOf, Is]; done)⟩
          · have e1 : y 35 = .int .i64 (p + n - len) := hp.out 0 (by decide)
            refine StepG.plain rfl fun K Q hK => ?_
            have v1 := (eval_frame 48 y [] (t := 35) (by decide)).trans e1
            obtain ⟨A, hA⟩ : ∃ A, (⟨frameOf 48 y, []⟩ : Act) = A := ⟨_, rfl⟩
            rw [hA] at v1 hK ⊢
            clear hA hy hp
            simp only [Act.eval] at v1
            go_simp
            exact hK _ _ ⟨Stays.refl _, by first | rfl | simp [Is] | (simp [factsOf, Is]; done)⟩
          · have e1 : y 36 = .bool true := hp.out 1 (by decide)
            refine StepG.plain rfl fun K Q hK => ?_
            have v1 := (eval_frame 48 y [] (t := 36) (by decide)).trans e1
            obtain ⟨A, hA⟩ : ∃ A, (⟨frameOf 48 y, []⟩ : Act) = A := ⟨_, rfl⟩
            rw [hA] at v1 hK ⊢
            clear hA hy hp
            simp only [Act.eval] at v1
            go_simp
            exact hK _ _ ⟨Stays.refl _, by first | rfl | simp [Is] | (simp [factsOf, Is]; done)⟩
          · have e1 : y 11 = .int .i64 (p + n - len) := hy.out 11 (by decide)
            refine StepG.yes (b := true) (t := 37) rfl rfl rfl (by decide) (hp.out 2 (by decide)) fun K Q hK => ?_
            have v1 := (eval_frame 48 y [] (t := 11) (by decide)).trans e1
            obtain ⟨A, hA⟩ : ∃ A, (⟨frameOf 48 y, []⟩ : Act) = A := ⟨_, rfl⟩
            rw [hA] at v1 hK ⊢
            clear hA hy hp
            simp only [Act.eval] at v1
            go_simp
            exact hK _ _ ⟨Stays.refl _, by first | rfl | simp [Is] | (simp [factsOf, Is]; done)⟩
          · have e1 : y 0 = .pointer (some ⟨S.g, 0, none⟩) := hy.out 0 (by decide)
            refine StepG.yes (b := true) (t := 37) rfl rfl rfl (by decide) (hp.out 2 (by decide)) fun K Q hK => ?_
            have v1 := (eval_frame 48 y [] (t := 0) (by decide)).trans e1
            obtain ⟨A, hA⟩ : ∃ A, (⟨frameOf 48 y, []⟩ : Act) = A := ⟨_, rfl⟩
            rw [hA] at v1 hK ⊢
            clear hA hy hp
            simp only [Act.eval] at v1
            go_simp
            exact hK _ _ ⟨Stays.refl _, by first | rfl | simp [Is] | (simp [factsOf, Is]; done)⟩
          · have e1 : y 39 = .pointer (some ⟨S.g, 0, none⟩) := hp.out 4 (by decide)
            refine StepG.yes (b := true) (t := 37) rfl rfl rfl (by decide) (hp.out 2 (by decide)) fun K Q hK => ?_
            have v1 := (eval_frame 48 y [] (t := 39) (by decide)).trans e1
            obtain ⟨A, hA⟩ : ∃ A, (⟨frameOf 48 y, []⟩ : Act) = A := ⟨_, rfl⟩
            rw [hA] at v1 hK ⊢
            clear hA hy hp
            simp only [Act.eval] at v1
            go_simp
            exact hK _ _ ⟨Stays.refl _, by first | rfl | simp [Is] | (simp [factsOf, Is]; done)⟩
          · have e1 : y 40 = .pointer (some ⟨S.g, 0, none⟩) := hp.out 5 (by decide)
            refine StepG.yes (b := true) (t := 37) rfl rfl rfl (by decide) (hp.out 2 (by decide)) fun K Q hK => ?_
            have v1 := (eval_frame 48 y [] (t := 40) (by decide)).trans e1
            obtain ⟨A, hA⟩ : ∃ A, (⟨frameOf 48 y, []⟩ : Act) = A := ⟨_, rfl⟩
            rw [hA] at v1 hK ⊢
            clear hA hy hp
            simp only [Act.eval] at v1
            go_simp
            exact hK _ _ ⟨Stays.refl _, by first | rfl | simp [Is] | (simp [factsOf, Is]; done)⟩
          · have e1 : y 41 = .pointer (some ⟨S.g, 0, none⟩) := hp.out 6 (by decide)
            have hce := HD.out _ hst.out
            refine StepG.yes (b := true) (t := 37) rfl rfl rfl (by decide) (hp.out 2 (by decide)) fun K Q hK => ?_
            have v1 := (eval_frame 48 y [] (t := 41) (by decide)).trans e1
            obtain ⟨A, hA⟩ : ∃ A, (⟨frameOf 48 y, []⟩ : Act) = A := ⟨_, rfl⟩
            rw [hA] at v1 hK ⊢
            clear hA hy hp
            simp only [Act.eval] at v1
            go_simp
            exact hK _ _ ⟨Stays.refl _, by first | rfl | simp [Is] | (simp [factsOf, Is]; done)⟩
          · have e1 : y 0 = .pointer (some ⟨S.g, 0, none⟩) := hy.out 0 (by decide)
            refine StepG.yes (b := true) (t := 37) rfl rfl rfl (by decide) (hp.out 2 (by decide)) fun K Q hK => ?_
            have v1 := (eval_frame 48 y [] (t := 0) (by decide)).trans e1
            obtain ⟨A, hA⟩ : ∃ A, (⟨frameOf 48 y, []⟩ : Act) = A := ⟨_, rfl⟩
            rw [hA] at v1 hK ⊢
            clear hA hy hp
            simp only [Act.eval] at v1
            go_simp
            exact hK _ _ ⟨Stays.refl _, by first | rfl | simp [Is] | (simp [factsOf, Is]; done)⟩
          · have e1 : y 43 = .pointer (some ⟨S.g, 0, none⟩) := hp.out 8 (by decide)
            refine StepG.yes (b := true) (t := 37) rfl rfl rfl (by decide) (hp.out 2 (by decide)) fun K Q hK => ?_
            have v1 := (eval_frame 48 y [] (t := 43) (by decide)).trans e1
            obtain ⟨A, hA⟩ : ∃ A, (⟨frameOf 48 y, []⟩ : Act) = A := ⟨_, rfl⟩
            rw [hA] at v1 hK ⊢
            clear hA hy hp
            simp only [Act.eval] at v1
            go_simp
            refine (HUS.out _ hst.out).mono ?_
            rintro r w7 ⟨rfl, hb7⟩
            exact hK _ _ ⟨hb7, rfl⟩
          · have e1 : y 42 = .int .i64 room := hp.out 7 (by decide)
            have e2 : y 44 = .int .i64 us := hp.out 9 (by decide)
            have hwr := HSUM.out
            refine StepG.yes (b := true) (t := 37) rfl rfl rfl (by decide) (hp.out 2 (by decide)) fun K Q hK => ?_
            have v1 := (eval_frame 48 y [] (t := 42) (by decide)).trans e1
            have v2 := (eval_frame 48 y [] (t := 44) (by decide)).trans e2
            obtain ⟨A, hA⟩ : ∃ A, (⟨frameOf 48 y, []⟩ : Act) = A := ⟨_, rfl⟩
            rw [hA] at v1 v2 hK ⊢
            clear hA hy hp
            simp only [Act.eval] at v1 v2
            go_simp
            exact hK _ _ ⟨Stays.refl _, by first | rfl | simp [Is] | (simp [factsOf, Is]; done)⟩
          · have e1 : y 38 = .int .i64 (p + n - len) := hp.out 3 (by decide)
            have e2 : y 45 = .int .i64 (room - us) := hp.out 10 (by decide)
            refine StepG.yes (b := true) (t := 37) rfl rfl rfl (by decide) (hp.out 2 (by decide)) fun K Q hK => ?_
            have v1 := (eval_frame 48 y [] (t := 38) (by decide)).trans e1
            have v2 := (eval_frame 48 y [] (t := 45) (by decide)).trans e2
            obtain ⟨A, hA⟩ : ∃ A, (⟨frameOf 48 y, []⟩ : Act) = A := ⟨_, rfl⟩
            rw [hA] at v1 v2 hK ⊢
            clear hA hy hp
            simp only [Act.eval] at v1 v2
            go_simp
            exact hK _ _ ⟨Stays.refl _, by first | rfl | simp [Is] | (simp [factsOf, Is]; done)⟩
          · have e1 : y 37 = .bool true := hp.out 2 (by decide)
            have e2 : y 46 = .bool (decide (room - us < p + n - len)) := hp.out 11 (by decide)
            refine StepG.plain rfl fun K Q hK => ?_
            have v1 := (eval_frame 48 y [] (t := 37) (by decide)).trans e1
            have v2 := (eval_frame 48 y [] (t := 46) (by decide)).trans e2
            obtain ⟨A, hA⟩ : ∃ A, (⟨frameOf 48 y, []⟩ : Act) = A := ⟨_, rfl⟩
            rw [hA] at v1 v2 hK ⊢
            clear hA hy hp
            simp only [Act.eval] at v1 v2
            go_simp
            exact hK _ _ ⟨Stays.refl _, by first | rfl | simp [Is] | (simp [factsOf, Is]; done)⟩
      · have hgd : ¬ (0 : Int) < p + n - len := by omega
        have hb1 : decide ((0 : Int) < p + n - len) = false := decide_eq_false hgd
        rw [if_neg (fun h => hgr h.1)]
        clear HUS
        go_enter Try.func44, Try.ntmps44
        go_wp2_with fail
        refine HF.out.mono ?_
        rintro r w' ⟨rfl, rfl⟩
        go_upto_region 8 with fail
        refine wp_region_facts (by kernel_rfl) Stays Stays.refl Stays.trans 48 rfl [35, 36, 37, 38, 39, 40, 41, 42, 43, 44, 45, 46, 47] (factsOf [Is (.int .i64 (p + n - len)), Is (.bool false), Is (.bool false), Is (undef), Is (undef), Is (undef), Is (undef), Is (undef), Is (undef), Is (undef), Is (undef), Is (undef), Is (.bool false)]) (by kernel_rfl) (factsOf_mono (mono_cons (Is.mono _) (mono_cons (Is.mono _) (mono_cons (Is.mono _) (mono_cons (Is.mono _) (mono_cons (Is.mono _) (mono_cons (Is.mono _) (mono_cons (Is.mono _) (mono_cons (Is.mono _) (mono_cons (Is.mono _) (mono_cons (Is.mono _) (mono_cons (Is.mono _) (mono_cons (Is.mono _) (mono_cons (Is.mono _) mono_nil)))))))))))))) ?steps35 ?fin35
        case fin35 =>
          intro v w2 hb2 hF
          have hlast : v 12 = .bool false := hF 12 (by decide)
          have HBF : Hid (Below w'.heap.size w' w2) := Lib.hid ((Below.refl _ _).drew.trans hb2)
          clear hb2 hF
          simp only [putAll, List.set_cons_succ, List.set_cons_zero, Nat.reduceAdd, hlast]
          go_wp2
          go_ret
          exact ⟨rfl, HBF.out⟩
        case steps35 =>
          refine ⟨?_, ?_, ?_, ?_, ?_, ?_, ?_, ?_, ?_, ?_, ?_, ?_, ?_, trivial⟩
          all_goals intro y w2 hb hy0 hp0
          all_goals have hy := Lib.hid hy0
          all_goals have hp := Lib.hid hp0
          all_goals have hst := Lib.hid hb
          all_goals clear hy0 hp0 hb
          · have e1 : y 11 = .int .i64 (p + n - len) := hy.out 11 (by decide)
            refine StepG.plain rfl fun K Q hK => ?_
            have v1 := (eval_frame 48 y [] (t := 11) (by decide)).trans e1
            obtain ⟨A, hA⟩ : ∃ A, (⟨frameOf 48 y, []⟩ : Act) = A := ⟨_, rfl⟩
            rw [hA] at v1 hK ⊢
            clear hA hy hp
            simp only [Act.eval] at v1
            go_simp
            exact hK _ _ ⟨Stays.refl _, by first | rfl | simp [Is] | (simp [factsOf, Is]; done)⟩
          · have e1 : y 35 = .int .i64 (p + n - len) := hp.out 0 (by decide)
            refine StepG.plain rfl fun K Q hK => ?_
            have v1 := (eval_frame 48 y [] (t := 35) (by decide)).trans e1
            obtain ⟨A, hA⟩ : ∃ A, (⟨frameOf 48 y, []⟩ : Act) = A := ⟨_, rfl⟩
            rw [hA] at v1 hK ⊢
            clear hA hy hp
            simp only [Act.eval] at v1
            go_simp
            exact hK _ _ ⟨Stays.refl _, by rw [decide_eq_false (show ¬ (len : Int) < p + n by omega)]; rfl⟩
          · have e1 : y 36 = .bool false := hp.out 1 (by decide)
            refine StepG.plain rfl fun K Q hK => ?_
            have v1 := (eval_frame 48 y [] (t := 36) (by decide)).trans e1
            obtain ⟨A, hA⟩ : ∃ A, (⟨frameOf 48 y, []⟩ : Act) = A := ⟨_, rfl⟩
            rw [hA] at v1 hK ⊢
            clear hA hy hp
            simp only [Act.eval] at v1
            go_simp
            exact hK _ _ ⟨Stays.refl _, by first | rfl | simp [Is] | (simp [factsOf, Is]; done)⟩
          · exact StepG.no (b := true) (c := false) (t := 37) rfl rfl rfl (by decide) (hp.out 2 (by decide)) (by decide) rfl
          · exact StepG.no (b := true) (c := false) (t := 37) rfl rfl rfl (by decide) (hp.out 2 (by decide)) (by decide) rfl
          · exact StepG.no (b := true) (c := false) (t := 37) rfl rfl rfl (by decide) (hp.out 2 (by decide)) (by decide) rfl
          · exact StepG.no (b := true) (c := false) (t := 37) rfl rfl rfl (by decide) (hp.out 2 (by decide)) (by decide) rfl
          · exact StepG.no (b := true) (c := false) (t := 37) rfl rfl rfl (by decide) (hp.out 2 (by decide)) (by decide) rfl
          · exact StepG.no (b := true) (c := false) (t := 37) rfl rfl rfl (by decide) (hp.out 2 (by decide)) (by decide) rfl
          · exact StepG.no (b := true) (c := false) (t := 37) rfl rfl rfl (by decide) (hp.out 2 (by decide)) (by decide) rfl
          · exact StepG.no (b := true) (c := false) (t := 37) rfl rfl rfl (by decide) (hp.out 2 (by decide)) (by decide) rfl
          · exact StepG.no (b := true) (c := false) (t := 37) rfl rfl rfl (by decide) (hp.out 2 (by decide)) (by decide) rfl
          · have e1 : y 37 = .bool false := hp.out 2 (by decide)
            have e2 : y 46 = undef := hp.out 11 (by decide)
            refine StepG.plain rfl fun K Q hK => ?_
            have v1 := (eval_frame 48 y [] (t := 37) (by decide)).trans e1
            have v2 := (eval_frame 48 y [] (t := 46) (by decide)).trans e2
            obtain ⟨A, hA⟩ : ∃ A, (⟨frameOf 48 y, []⟩ : Act) = A := ⟨_, rfl⟩
            rw [hA] at v1 v2 hK ⊢
            clear hA hy hp
            simp only [Act.eval] at v1 v2
            go_simp
            exact hK _ _ ⟨Stays.refl _, by first | rfl | simp [Is] | (simp [factsOf, Is]; done)⟩
end Go.Proofs.Ythogdieplfpopaa
