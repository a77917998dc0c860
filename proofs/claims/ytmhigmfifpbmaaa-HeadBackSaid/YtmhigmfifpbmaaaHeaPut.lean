/-
  What is proved here: Put of package head: the 64 bytes of a head that may be, in new memory, or the error that the document names; nothing that was there is written.
  Conditions: none but that the arguments are values of their types.
-/
import Derived.Test.YtmhigmfifpbmaaaHeaJoin
import Derived.Test.YtmhigmfifpbmaaaFacts
namespace Go.Proofs.Ytmhigmfifpbmaaa
open Go.RowKit
set_option linter.unusedVariables false

/-- The parts of a head's bytes. -/
def parts (k e s c : Int) : List (List Int) := [hd0, digs k 2, digs 19823 2, digs 1 4, digs e 8, digs s 8, digs 0 8, digs 0 4, digs 64 2, digs 56 2, digs c 2, digs 0 2, digs 0 2, digs 0 2]
theorem parts_flat (k e s c : Int) : (parts k e s c).flatten = enc k e s c := by simp [parts, enc]

theorem parts_bd (k e s c : Int) : ∀ i, i < 14 → ∀ n ∈ (parts k e s c).getD i [], 0 ≤ n ∧ n ≤ 255 := by
  intro i hi n hn
  refine enc_bd k e s c n ?_
  rw [← parts_flat]
  have hl : i < (parts k e s c).length := hi
  rw [List.getD_eq_getElem?_getD, List.getElem?_eq_getElem hl] at hn
  exact List.mem_flatten.2 ⟨_, List.getElem_mem hl, hn⟩

/-- A value that is known, in whatever world. -/
def Is (v : Value) : Value → World → Prop := fun u _ => u = v
/-- A slice of slices of bytes. -/
def Rows2 (zss : List (List Int)) (u : Value) (w : World) : Prop := ∃ vs g, u = .slice (some ⟨g, 0, none⟩) zss.length zss.length ∧ Cel w w.heap.size (some ⟨g, 0, none⟩) zss.length vs ∧ ∀ i, i < zss.length → Made (zss.getD i []) (vs.getD i undef) w
theorem Made.kept {B m : Nat} {zs : List Int} {u : Value} {w w' : World} (h : Made zs u w) (hb : Kept B m w w') : Made zs u w' := by
  obtain ⟨g, c, e, h1, h2, h3⟩ := h
  exact ⟨g, c, e, h1, h2, h3.kept hb⟩
theorem Rows2.kept {B m : Nat} {zss : List (List Int)} {u : Value} {w w' : World} (h : Rows2 zss u w) (hb : Kept B m w w') : Rows2 zss u w' := by
  obtain ⟨vs, g, e, hc, hm⟩ := h
  exact ⟨vs, g, e, hc.kept hb, fun i hi => (hm i hi).kept hb⟩
/-- A row of bytes of the call's own. -/
def Own (B : Nat) (zs : List Int) (u : Value) (w : World) : Prop := w.ownsRow B 5 1 u zs.length (zs.map (Value.int .u8))
/-- A literal's row, whole. -/
def Whole (B : Nat) (zs : List Int) (u : Value) (w : World) : Prop := ∃ g fr, u = .slice (some ⟨g, 0, none⟩) zs.length zs.length ∧ B ≤ g ∧ w.heap[g]? = some (.cells (zs.map (Value.int .u8)).toArray 5 fr)
theorem Whole.kept {B B' m : Nat} {zs : List Int} {u : Value} {w w' : World} (h : Whole B zs u w) (hb : Kept B' m w w') : Whole B zs u w' := by
  obtain ⟨g, fr, e, hB, hg⟩ := h
  obtain ⟨fr', h', _⟩ := hb.cells _ _ _ _ hg
  exact ⟨g, fr', e, hB, h'⟩
theorem Whole.made {B : Nat} {zs : List Int} {u : Value} {w : World} (h : Whole B zs u w) (hz : ∀ n ∈ zs, 0 ≤ n ∧ n ≤ 255) (hl : zs.length ≤ 1000000) : Made zs u w := by
  obtain ⟨g, fr, e, hB, hg⟩ := h
  have hlt := (Array.getElem?_eq_some_iff.1 hg).1
  refine ⟨g, zs.length, e, Nat.le_refl _, by omega, rfl, hz, fun _ => ⟨g, 0, rfl, hlt, fun i hi => ?_⟩⟩
  unfold World.cell?
  simp only [hg, Nat.zero_add]
  have := getElem_map_u8 hi
  simpa using this

set_option maxHeartbeats 400000 in
theorem put_arg (k e s c : Int) (w : World) (h : validB k c = false) :
    Calls Try.prog 8 #[headV k e s c] w fun r w' => r = .returned (.tuple #[.slice none 0 0, .int .i64 1]) ∧ Below w.heap.size w w' := by
  have HV : Hid (∀ w1, Calls Try.prog 13 #[headV k e s c] w1 fun r w' => r = .returned (.bool false) ∧ Below w1.heap.size w1 w') := Lib.hid (fun w1 => h ▸ valid_any k e s c w1)
  clear h
  unfold headV at *
  go_enter Try.func8, Try.ntmps8
  go_wp2_with (go_at_call 13; refine (HV.out _).mono ?_)
  rintro r w1 ⟨rfl, hb⟩
  have hbb : Below w.heap.size w w1 := ((Below.refl _ _).alloc (Nat.le_refl _) _).trans (hb.mono (by simp))
  clear hb
  go_wp2
  go_ret2
  exact ⟨rfl, hbb⟩

/-- The facts of Put's last statement, one an operation. -/
def putFs (B b : Nat) (k e s c : Int) : List (Value → World → Prop) :=
  [Whole B hd0, Made hd0, Is (.pointer (some ⟨b, 0, none⟩)), Is (.int .i64 k), Is (.int .u64 k), Made (digs k 2), Made (digs 19823 2), Made (digs 1 4), Is (.pointer (some ⟨b, 1, none⟩)), Is (.int .u64 e), Made (digs e 8),
   Is (.pointer (some ⟨b, 2, none⟩)), Is (.int .u64 s), Made (digs s 8), Made (digs 0 8), Made (digs 0 4), Made (digs 64 2), Made (digs 56 2), Is (.pointer (some ⟨b, 3, none⟩)), Is (.int .i64 c), Is (.int .u64 c), Made (digs c 2),
   Made (digs 0 2), Made (digs 0 2), Made (digs 0 2), Rows2 (parts k e s c), Own B (enc k e s c), Own B (enc k e s c), Is (.int .i64 0)]
def putF (B b : Nat) (k e s c : Int) (i : Nat) : Value → World → Prop := (putFs B b k e s c).getD i fun _ _ => True

theorem putF_mono (B b : Nat) (k e s c : Int) : ∀ (i : Nat) (u : Value) (w w' : World), putF B b k e s c i u w → Kept B 16 w w' → putF B b k e s c i u w' := by
  intro i u w w' h hb
  unfold putF at *
  by_cases hi : i < (putFs B b k e s c).length
  · rw [List.getD_eq_getElem?_getD, List.getElem?_eq_getElem hi] at *
    have hm := List.getElem_mem hi
    generalize (putFs B b k e s c)[i] = f at *
    simp only [putFs, List.mem_cons, List.not_mem_nil, or_false] at hm
    rcases hm with rfl | rfl | rfl | rfl | rfl | rfl | rfl | rfl | rfl | rfl | rfl | rfl | rfl | rfl | rfl | rfl | rfl | rfl | rfl | rfl | rfl | rfl | rfl | rfl | rfl | rfl | rfl | rfl | rfl
    all_goals first | exact Made.kept h hb | exact Rows2.kept h hb | exact Whole.kept h hb | exact own_kept (n := (enc k e s c).length) h hb (by rw [enc_len]; decide) | exact h
  · rw [List.getD_eq_getElem?_getD, List.getElem?_eq_none (by omega)]
    trivial

theorem fr34 (y : Nat → Value) : frameOf 34 y = #[y 0, y 1, y 2, y 3, y 4, y 5, y 6, y 7, y 8, y 9, y 10, y 11, y 12, y 13, y 14, y 15, y 16, y 17, y 18, y 19, y 20, y 21, y 22, y 23, y 24, y 25, y 26, y 27, y 28, y 29, y 30, y 31, y 32, y 33] := rfl

set_option maxRecDepth 100000 in
set_option maxHeartbeats 1600000 in
theorem put_own (k e s c : Int) (w : World) (h : validB k c = true) (e0 : 0 ≤ e) (e1' : e ≤ 18446744073709551615) (s0 : 0 ≤ s) (s1 : s ≤ 18446744073709551615) :
    Calls Try.prog 8 #[headV k e s c] w fun r w' => (∃ u, r = .returned (.tuple #[u, .int .i64 0]) ∧ w'.ownsRow w.heap.size 5 1 u 64 ((enc k e s c).map (Value.int .u8))) ∧ Below w.heap.size w w' := by
  have HV : Hid (∀ w1, Calls Try.prog 13 #[headV k e s c] w1 fun r w' => r = .returned (.bool true) ∧ Below w1.heap.size w1 w') := Lib.hid (fun w1 => h ▸ valid_any k e s c w1)
  obtain ⟨k0, k1, c0, c1⟩ := validB_iff.1 h
  clear h
  unfold headV at *
  go_enter Try.func8, Try.ntmps8
  go_wp2_with (go_at_call 13; refine (HV.out _).mono ?_)
  rintro r w1 ⟨rfl, hb⟩
  have hbb : Below w.heap.size w w1 := ((Below.refl _ _).alloc (Nat.le_refl _) _).trans (hb.mono (by simp))
  have q0 : w1.cell? ⟨w.heap.size, 0, none⟩ = some (.int .i64 k) := (hb.cell (p := ⟨w.heap.size, 0, none⟩) (by simp)).trans (by simp [World.cell?_alloc_at])
  have q1 : w1.cell? ⟨w.heap.size, 1, none⟩ = some (.int .u64 e) := (hb.cell (p := ⟨w.heap.size, 1, none⟩) (by simp)).trans (by simp [World.cell?_alloc_at])
  have q2 : w1.cell? ⟨w.heap.size, 2, none⟩ = some (.int .u64 s) := (hb.cell (p := ⟨w.heap.size, 2, none⟩) (by simp)).trans (by simp [World.cell?_alloc_at])
  have q3 : w1.cell? ⟨w.heap.size, 3, none⟩ = some (.int .i64 c) := (hb.cell (p := ⟨w.heap.size, 3, none⟩) (by simp)).trans (by simp [World.cell?_alloc_at])
  have hbs : w.heap.size < w1.heap.size := by have := hb.size; simp at this; omega
  clear hb
  obtain ⟨b, hbe⟩ : ∃ b, w.heap.size = b := ⟨_, rfl⟩
  rw [hbe] at q0 q1 q2 q3 hbs
  go_wp2
  refine wp_region_facts (by kernel_rfl) (Kept w1.heap.size 16) (Kept.refl _ _) (fun _ _ _ h h' => h.trans h') 34 rfl [7, 8, 9, 10, 11, 12, 13, 14, 15, 16, 17, 18, 19, 20, 21, 22, 23, 24, 25, 26, 27, 28, 29, 30, 31, 32, 33, 2, 3] (putF w1.heap.size b k e s c) (by kernel_rfl) (putF_mono w1.heap.size b k e s c) ?steps ?fin
  case fin =>
    intro v w2 hb2 hF
    obtain ⟨u, hu⟩ : ∃ u, v 27 = u := ⟨_, rfl⟩
    have h2 : Own w1.heap.size (enc k e s c) u w2 := hu ▸ hF 27 (by decide)
    unfold Own at h2
    rw [enc_len] at h2
    have h4 := own_base h2 hbb.size
    have h3 : v 28 = .int .i64 0 := hF 28 (by decide)
    simp only [putAll, List.set_cons_succ, List.set_cons_zero, Nat.reduceAdd, h3, hu]
    go_wp2
    go_ret2
    exact ⟨⟨u, rfl, h4⟩, hbb.drew.trans (hb2.below.mono hbb.size)⟩
  case steps =>
    obtain ⟨B, hBe⟩ : ∃ B, w1.heap.size = B := ⟨_, rfl⟩
    have HC : Hid (∀ w2, Kept B 16 w1.drew w2 → B ≤ w2.heap.size ∧ w2.cell? ⟨b, 0, none⟩ = some (.int .i64 k) ∧ w2.cell? ⟨b, 1, none⟩ = some (.int .u64 e) ∧ w2.cell? ⟨b, 2, none⟩ = some (.int .u64 s) ∧ w2.cell? ⟨b, 3, none⟩ = some (.int .i64 c)) := Lib.hid (fun w2 hw =>
      ⟨hBe ▸ hw.size, hw.cell q0, hw.cell q1, hw.cell q2, hw.cell q3⟩)
    rw [hBe]
    clear q0 q1 q2 q3 HV hbb hbs hbe hBe
    refine ⟨?_, ?_, ?_, ?_, ?_, ?_, ?_, ?_, ?_, ?_, ?_, ?_, ?_, ?_, ?_, ?_, ?_, ?_, ?_, ?_, ?_, ?_, ?_, ?_, ?_, ?_, ?_, ?_, ?_, trivial⟩
    all_goals intro y w2 hb hy0 hp0
    all_goals refine StepG.plain rfl ?_
    all_goals intro K Q hK
    all_goals obtain ⟨hB, q0, q1, q2, q3⟩ := HC.out w2 hb
    all_goals simp only [fr34] at hK ⊢
    all_goals have hy := Lib.hid hy0
    all_goals have hp := Lib.hid hp0
    all_goals clear hy0 hp0
    · go_simp
      refine hK _ _ ⟨Kept.of_below hB ((Below.refl _ _).alloc (Nat.le_refl _) _), w2.heap.size, (0, 0), rfl, hB, heap_alloc_new w2 _⟩
    · obtain ⟨g, fr, hu, hg1, hg2⟩ : Whole B hd0 (y 7) w2 := hp.out 0 (by decide)
      have hM : Whole B hd0 (y 7) w2 := ⟨g, fr, hu, hg1, hg2⟩
      rw [hu] at hK hM ⊢
      have hrun := run_convert_own (P := Try.prog) w2 26 5 g hd0.length hd0.length _ fr hg2 Try.underlying26 Try.underlying5
      have hkp : Kept B 16 w2 (w2.freeze ⟨g, ((hd0.map (Value.int .u8)).toArray).size, none⟩ 1) := Kept.freeze hg1 hg2 rfl
      go_simp
      exact hK _ _ ⟨hkp, (hM.kept hkp).made (by decide) (by decide)⟩
    · have e1 : y 1 = .pointer (some ⟨b, 0, none⟩) := hy.out 1 (by decide)
      rw [e1] at hK ⊢
      go_simp
      exact hK _ _ ⟨Kept.refl _ _ _, rfl⟩
    · have e1 : y 9 = .pointer (some ⟨b, 0, none⟩) := hp.out 2 (by decide)
      rw [e1] at hK ⊢
      go_simp
      exact hK _ _ ⟨Kept.refl _ _ _, rfl⟩
    · have e1 : y 10 = .int .i64 k := hp.out 3 (by decide)
      have hw : IntKind.u64.wrap k = k := by rw [IntKind.wrap_u64]; omega
      rw [e1] at hK ⊢
      go_simp
      exact hK _ _ ⟨Kept.refl _ _ _, rfl⟩
    · have e1 : y 11 = .int .u64 k := hp.out 4 (by decide)
      rw [e1] at hK ⊢
      go_simp
      go_at_call 15
      refine (number_ok k 2 _ (by decide) (by omega) (by omega)).mono ?_
      rintro r w3 ⟨⟨u, rfl, hm⟩, hb3⟩
      exact hK u w3 ⟨Kept.of_below hB hb3, hm⟩
    · go_simp
      go_at_call 15
      refine (number_ok 19823 2 _ (by decide) (by decide) (by decide)).mono ?_
      rintro r w3 ⟨⟨u, rfl, hm⟩, hb3⟩
      exact hK u w3 ⟨Kept.of_below hB hb3, hm⟩
    · go_simp
      go_at_call 15
      refine (number_ok 1 4 _ (by decide) (by decide) (by decide)).mono ?_
      rintro r w3 ⟨⟨u, rfl, hm⟩, hb3⟩
      exact hK u w3 ⟨Kept.of_below hB hb3, hm⟩
    · have e1 : y 1 = .pointer (some ⟨b, 0, none⟩) := hy.out 1 (by decide)
      rw [e1] at hK ⊢
      go_simp
      exact hK _ _ ⟨Kept.refl _ _ _, rfl⟩
    · have e1 : y 15 = .pointer (some ⟨b, 1, none⟩) := hp.out 8 (by decide)
      rw [e1] at hK ⊢
      go_simp
      exact hK _ _ ⟨Kept.refl _ _ _, rfl⟩
    · have e1 : y 16 = .int .u64 e := hp.out 9 (by decide)
      rw [e1] at hK ⊢
      go_simp
      go_at_call 15
      refine (number_ok e 8 _ (by decide) e0 e1').mono ?_
      rintro r w3 ⟨⟨u, rfl, hm⟩, hb3⟩
      exact hK u w3 ⟨Kept.of_below hB hb3, hm⟩
    · have e1 : y 1 = .pointer (some ⟨b, 0, none⟩) := hy.out 1 (by decide)
      rw [e1] at hK ⊢
      go_simp
      exact hK _ _ ⟨Kept.refl _ _ _, rfl⟩
    · have e1 : y 18 = .pointer (some ⟨b, 2, none⟩) := hp.out 11 (by decide)
      rw [e1] at hK ⊢
      go_simp
      exact hK _ _ ⟨Kept.refl _ _ _, rfl⟩
    · have e1 : y 19 = .int .u64 s := hp.out 12 (by decide)
      rw [e1] at hK ⊢
      go_simp
      go_at_call 15
      refine (number_ok s 8 _ (by decide) s0 s1).mono ?_
      rintro r w3 ⟨⟨u, rfl, hm⟩, hb3⟩
      exact hK u w3 ⟨Kept.of_below hB hb3, hm⟩
    · go_simp
      go_at_call 15
      refine (number_ok 0 8 _ (by decide) (by decide) (by decide)).mono ?_
      rintro r w3 ⟨⟨u, rfl, hm⟩, hb3⟩
      exact hK u w3 ⟨Kept.of_below hB hb3, hm⟩
    · go_simp
      go_at_call 15
      refine (number_ok 0 4 _ (by decide) (by decide) (by decide)).mono ?_
      rintro r w3 ⟨⟨u, rfl, hm⟩, hb3⟩
      exact hK u w3 ⟨Kept.of_below hB hb3, hm⟩
    · go_simp
      go_at_call 15
      refine (number_ok 64 2 _ (by decide) (by decide) (by decide)).mono ?_
      rintro r w3 ⟨⟨u, rfl, hm⟩, hb3⟩
      exact hK u w3 ⟨Kept.of_below hB hb3, hm⟩
    · go_simp
      go_at_call 15
      refine (number_ok 56 2 _ (by decide) (by decide) (by decide)).mono ?_
      rintro r w3 ⟨⟨u, rfl, hm⟩, hb3⟩
      exact hK u w3 ⟨Kept.of_below hB hb3, hm⟩
    · have e1 : y 1 = .pointer (some ⟨b, 0, none⟩) := hy.out 1 (by decide)
      rw [e1] at hK ⊢
      go_simp
      exact hK _ _ ⟨Kept.refl _ _ _, rfl⟩
    · have e1 : y 25 = .pointer (some ⟨b, 3, none⟩) := hp.out 18 (by decide)
      rw [e1] at hK ⊢
      go_simp
      exact hK _ _ ⟨Kept.refl _ _ _, rfl⟩
    · have e1 : y 26 = .int .i64 c := hp.out 19 (by decide)
      have hw : IntKind.u64.wrap c = c := by rw [IntKind.wrap_u64]; omega
      rw [e1] at hK ⊢
      go_simp
      exact hK _ _ ⟨Kept.refl _ _ _, rfl⟩
    · have e1 : y 27 = .int .u64 c := hp.out 20 (by decide)
      rw [e1] at hK ⊢
      go_simp
      go_at_call 15
      refine (number_ok c 2 _ (by decide) (by omega) (by omega)).mono ?_
      rintro r w3 ⟨⟨u, rfl, hm⟩, hb3⟩
      exact hK u w3 ⟨Kept.of_below hB hb3, hm⟩
    · go_simp
      go_at_call 15
      refine (number_ok 0 2 _ (by decide) (by decide) (by decide)).mono ?_
      rintro r w3 ⟨⟨u, rfl, hm⟩, hb3⟩
      exact hK u w3 ⟨Kept.of_below hB hb3, hm⟩
    · go_simp
      go_at_call 15
      refine (number_ok 0 2 _ (by decide) (by decide) (by decide)).mono ?_
      rintro r w3 ⟨⟨u, rfl, hm⟩, hb3⟩
      exact hK u w3 ⟨Kept.of_below hB hb3, hm⟩
    · go_simp
      go_at_call 15
      refine (number_ok 0 2 _ (by decide) (by decide) (by decide)).mono ?_
      rintro r w3 ⟨⟨u, rfl, hm⟩, hb3⟩
      exact hK u w3 ⟨Kept.of_below hB hb3, hm⟩
    · have m0 : Made hd0 (y 8) w2 := hp.out 1 (by decide)
      have m1 : Made (digs k 2) (y 12) w2 := hp.out 5 (by decide)
      have m2 : Made (digs 19823 2) (y 13) w2 := hp.out 6 (by decide)
      have m3 : Made (digs 1 4) (y 14) w2 := hp.out 7 (by decide)
      have m4 : Made (digs e 8) (y 17) w2 := hp.out 10 (by decide)
      have m5 : Made (digs s 8) (y 20) w2 := hp.out 13 (by decide)
      have m6 : Made (digs 0 8) (y 21) w2 := hp.out 14 (by decide)
      have m7 : Made (digs 0 4) (y 22) w2 := hp.out 15 (by decide)
      have m8 : Made (digs 64 2) (y 23) w2 := hp.out 16 (by decide)
      have m9 : Made (digs 56 2) (y 24) w2 := hp.out 17 (by decide)
      have m10 : Made (digs c 2) (y 28) w2 := hp.out 21 (by decide)
      have m11 : Made (digs 0 2) (y 29) w2 := hp.out 22 (by decide)
      have m12 : Made (digs 0 2) (y 30) w2 := hp.out 23 (by decide)
      have m13 : Made (digs 0 2) (y 31) w2 := hp.out 24 (by decide)
      have M : ∀ i, i < 14 → Made ((parts k e s c).getD i []) ([y 8, y 12, y 13, y 14, y 17, y 20, y 21, y 22, y 23, y 24, y 28, y 29, y 30, y 31].getD i undef) w2 := by
        intro i hi
        have : i = 0 ∨ i = 1 ∨ i = 2 ∨ i = 3 ∨ i = 4 ∨ i = 5 ∨ i = 6 ∨ i = 7 ∨ i = 8 ∨ i = 9 ∨ i = 10 ∨ i = 11 ∨ i = 12 ∨ i = 13 := by omega
        rcases this with rfl | rfl | rfl | rfl | rfl | rfl | rfl | rfl | rfl | rfl | rfl | rfl | rfl | rfl
        all_goals assumption
      obtain ⟨g0, a0, u0, -⟩ := m0
      obtain ⟨g1, a1, u1, -⟩ := m1
      obtain ⟨g2, a2, u2, -⟩ := m2
      obtain ⟨g3, a3, u3, -⟩ := m3
      obtain ⟨g4, a4, u4, -⟩ := m4
      obtain ⟨g5, a5, u5, -⟩ := m5
      obtain ⟨g6, a6, u6, -⟩ := m6
      obtain ⟨g7, a7, u7, -⟩ := m7
      obtain ⟨g8, a8, u8, -⟩ := m8
      obtain ⟨g9, a9, u9, -⟩ := m9
      obtain ⟨g10, a10, u10, -⟩ := m10
      obtain ⟨g11, a11, u11, -⟩ := m11
      obtain ⟨g12, a12, u12, -⟩ := m12
      obtain ⟨g13, a13, u13, -⟩ := m13
      rw [u0, u1, u2, u3, u4, u5, u6, u7, u8, u9, u10, u11, u12, u13] at hK M ⊢
      go_simp
      have hkp := Kept.of_below (m := 16) hB ((Below.refl w2.heap.size w2).alloc (Nat.le_refl _) (.cells #[.slice (some ⟨g0, 0, none⟩) hd0.length a0, .slice (some ⟨g1, 0, none⟩) (digs k 2).length a1, .slice (some ⟨g2, 0, none⟩) (digs 19823 2).length a2, .slice (some ⟨g3, 0, none⟩) (digs 1 4).length a3, .slice (some ⟨g4, 0, none⟩) (digs e 8).length a4, .slice (some ⟨g5, 0, none⟩) (digs s 8).length a5, .slice (some ⟨g6, 0, none⟩) (digs 0 8).length a6, .slice (some ⟨g7, 0, none⟩) (digs 0 4).length a7, .slice (some ⟨g8, 0, none⟩) (digs 64 2).length a8, .slice (some ⟨g9, 0, none⟩) (digs 56 2).length a9, .slice (some ⟨g10, 0, none⟩) (digs c 2).length a10, .slice (some ⟨g11, 0, none⟩) (digs 0 2).length a11, .slice (some ⟨g12, 0, none⟩) (digs 0 2).length a12, .slice (some ⟨g13, 0, none⟩) (digs 0 2).length a13] 26))
      refine hK _ _ ⟨hkp, _, w2.heap.size, rfl, ⟨?_, fun _ => ⟨w2.heap.size, 0, rfl, ?_, fun i hi => ?_⟩⟩, fun i hi => (M i hi).kept hkp⟩
      · rfl
      · simp
      · rw [Nat.zero_add, World.cell?_alloc_at _ _ _ _ rfl, ← List.getElem?_toArray]
    · obtain ⟨vs, g, hu, hc, hm⟩ : Rows2 (parts k e s c) (y 32) w2 := hp.out 25 (by decide)
      rw [hu] at hK ⊢
      go_simp
      go_at_call 14
      refine (join_ok _ _ _ _ vs (parts k e s c) _ hc (Nat.le_refl _) (show (14 : Int) ≤ 9223372036854775807 by decide) rfl hm (parts_bd k e s c) (by rw [parts_flat, enc_len]; decide) (by rw [parts_flat, enc_len]; decide)).mono ?_
      rintro r w3 ⟨⟨u, rfl, hm⟩, hb3⟩
      rw [parts_flat] at hm
      exact hK u w3 ⟨Kept.of_below hB hb3, own_base hm hB⟩
    · have m : Own B (enc k e s c) (y 33) w2 := hp.out 26 (by decide)
      go_simp
      exact hK _ _ ⟨Kept.refl _ _ _, m⟩
    · go_simp
      exact hK _ _ ⟨Kept.refl _ _ _, rfl⟩

theorem put_ok (k e s c : Int) (w : World) (h : validB k c = true) (e0 : 0 ≤ e) (e1 : e ≤ 18446744073709551615) (s0 : 0 ≤ s) (s1 : s ≤ 18446744073709551615) :
    Calls Try.prog 8 #[headV k e s c] w fun r w' => (∃ u, r = .returned (.tuple #[u, .int .i64 0]) ∧ Made (enc k e s c) u w') ∧ Below w.heap.size w w' :=
  (put_own k e s c w h e0 e1 s0 s1).mono fun r w' ⟨⟨u, hr, ho⟩, hb⟩ => ⟨⟨u, hr, own_made (base := w.heap.size) (by rw [enc_len]; exact ho) (by rw [enc_len]; decide) (enc_bd k e s c)⟩, hb⟩
end Go.Proofs.Ytmhigmfifpbmaaa
