/-
  What is proved here: the document's example holds: 'awake' returns true, and writes nothing that was there.
  Conditions: none.
-/
import Derived.Test.YtkgakdlalmmdiaaNotCode
namespace Go.Proofs.Ytkgakdlalmmdiaa
open Go.RowKit
set_option linter.unusedVariables false
set_option linter.unusedSimpArgs false

def ex8 : Nd := ⟨[97], 5, [7]⟩
def ex8b : List Int := [2, 0, 0, 0, 1, 0, 0, 0, 5, 0, 0, 0, 97, 0, 0, 0, 7, 0, 0, 0]
theorem ex8_put : putN [ex8] = (0, ex8b) := by decide +kernel
theorem ex8_get : getN ex8b = (0, [ex8]) := by kernel_rfl
theorem ex8_cut : getN (piece ex8b 0 19) = (10, []) := by kernel_rfl
theorem ex8_find : findN [ex8] [97] 5 = some [7] := by decide +kernel
theorem ex8_flat : (flatN [ex8]).length = 20 := by decide +kernel
theorem ex8_str : strOfNums ex8b = ⟨#[2, 0, 0, 0, 1, 0, 0, 0, 5, 0, 0, 0, 97, 0, 0, 0, 7, 0, 0, 0]⟩ := by decide +kernel
theorem ex8_bd : ∀ n ∈ ex8b, 0 ≤ n ∧ n ≤ 255 := by decide +kernel
theorem Rw.own {base : Nat} {w : World} {v : Value} {zs : List Int} (h : Rw base w v zs) (hz : ∀ n ∈ zs, 0 ≤ n ∧ n ≤ 255) : ∃ a c, v = .slice a zs.length c ∧ zs.length ≤ c ∧ (c : Int) ≤ 9223372036854775807 ∧ Bys w w.heap.size a zs.length zs := by
  unfold Rw at h
  rcases h.2 with ⟨hv, e0⟩ | ⟨g, c, cur, hv, _, _, h1, h2, _⟩
  · subst hv; exact ⟨none, 0, by rw [e0], by omega, by omega, by rw [e0] at h ⊢; exact Bys.own hz h⟩
  · subst hv; exact ⟨_, c, rfl, h1, by unfold maxLen at h2; omega, Bys.own hz h⟩
set_option maxRecDepth 100000 in
set_option maxHeartbeats 3200000 in
theorem awake_any (w : World) :
    Calls Try.prog 9 #[] w fun e w' => e = .returned (.bool true) ∧ Below w.heap.size w w' := by
  obtain ⟨X1, hX1⟩ : ∃ X : Obj, X = .cells #[.int .u8 7] 5 := ⟨_, rfl⟩
  obtain ⟨s, hs⟩ : ∃ s : Nt, s = ⟨⟨#[97]⟩, 5, ⟨some ⟨w.heap.size, 0, none⟩, 1, 1, [7]⟩⟩ := ⟨_, rfl⟩
  have hnd : s.nd = ex8 := by rw [hs]; rfl
  have HSL : Hid (Nt.Sl ((w.alloc (.cells #[.int .u8 7] 5)).alloc (.cells #[.string ⟨#[97]⟩, .int .u32 5, .slice (some ⟨w.heap.size, 0, none⟩) 1 1] 42)) (w.heap.size + 2) (some ⟨w.heap.size + 1, 0, none⟩) 1 [s]) := Lib.hid (by
    refine ⟨rfl, fun x hx => ?_, fun _ => ⟨w.heap.size + 1, 0, rfl, by omega, fun i hi => ?_⟩⟩
    · obtain rfl := List.mem_singleton.1 hx
      rw [hs]
      refine ⟨show 1 ≤ maxLen by decide, show (0 : Int) ≤ 5 ∧ (5 : Int) ≤ 4294967295 by decide, ?_⟩
      have h1 := Bys.alloc_new w [7] (by decide) 5
      have h2 : Below (w.heap.size + 1) (w.alloc (.cells #[.int .u8 7] 5)) ((w.alloc (.cells #[.int .u8 7] 5)).alloc (.cells #[.string ⟨#[97]⟩, .int .u32 5, .slice (some ⟨w.heap.size, 0, none⟩) 1 1] 42)) := (Below.refl _ _).alloc (by simp) _
      exact ⟨(h1.below h2).more (by omega), Nat.le_refl _, show ((1 : Nat) : Int) ≤ 9223372036854775807 by decide, fun e => by cases e⟩
    · obtain rfl : i = 0 := by omega
      have hb := Blk.new (w.alloc (.cells #[.int .u8 7] 5)) #[.string ⟨#[97]⟩, .int .u32 5, .slice (some ⟨w.heap.size, 0, none⟩) 1 1] 42
      rw [World.size_alloc] at hb
      have : ([s] : List Nt).getD 0 Nt.zero = s := rfl
      rw [this, hs]
      exact Nt.of_blk (s := ⟨⟨#[97]⟩, 5, ⟨some ⟨w.heap.size, 0, none⟩, 1, 1, [7]⟩⟩) hb)
  have HP : Hid (Calls Try.prog 11 #[.slice (some ⟨w.heap.size + 1, 0, none⟩) 1 1] ((w.alloc (.cells #[.int .u8 7] 5)).alloc (.cells #[.string ⟨#[97]⟩, .int .u32 5, .slice (some ⟨w.heap.size, 0, none⟩) 1 1] 42)) (PutPost (0, ex8b) ((w.alloc (.cells #[.int .u8 7] 5)).alloc (.cells #[.string ⟨#[97]⟩, .int .u32 5, .slice (some ⟨w.heap.size, 0, none⟩) 1 1] 42)))) := Lib.hid (by
    have h := nput_any _ _ 1 1 [s] _ HSL.out (by simp) (by decide) (by rw [List.map_singleton, hnd, ex8_flat]; decide) (Nat.le_refl _) (by decide)
    rw [List.map_singleton, hnd, ex8_put] at h
    exact h)
  clear hs hnd HSL hX1
  have HB0 : Hid (∀ o o', Below w.heap.size w ((w.alloc o).alloc o')) := Lib.hid (fun o o' => ((Below.refl _ _).alloc (Nat.le_refl _) _).alloc (by simp) _)
  go_enter Try.func9, Try.ntmps9
  go_wp2_with fail
  refine HP.out.mono ?_
  rintro r w1 ⟨⟨u, rfl, ho⟩, hb⟩
  obtain ⟨ba, bc, rfl, hbc1, hbc2, hm⟩ := Rw.own ho ex8_bd
  have HB1 := Lib.hid ((HB0.out _ _).trans (hb.mono (HB0.out _ _).size))
  have HG : Hid (Calls Try.prog 14 #[.slice ba 20 bc] w1 (GetPost (0, [ex8]) w1)) := Lib.hid (by
    have h := nget_any _ _ _ bc _ w1 hm (Nat.le_refl _) hbc1 hbc2
    rw [ex8_get] at h
    exact h)
  have HM := Lib.hid hm
  have hcv : (convert 25 9 (.slice ba 20 bc)).run Try.prog w1 = .ok (.string ⟨#[2, 0, 0, 0, 1, 0, 0, 0, 5, 0, 0, 0, 97, 0, 0, 0, 7, 0, 0, 0]⟩) w1 := ex8_str ▸ hm.conv bc
  have hbl : ex8b.length = 20 := rfl
  obtain ⟨g, o, rfl, -, -⟩ := hm.2.2 (by decide)
  rw [hbl]
  clear ho hb hm HP
  go_wp2_with fail
  refine HG.out.mono ?_
  rintro r w4 ⟨⟨la, lc, M, rfl, hlc, hlc2, hsl, hM⟩, hb4⟩
  have hM1 : M.length = 1 := by have := congrArg List.length hM; simpa using this
  have HB4 := Lib.hid (HB1.out.trans (hb4.mono HB1.out.size))
  rw [hM1] at hsl hlc2 ⊢
  have HF : Hid (Calls Try.prog 17 #[.slice la 1 lc, .string ⟨#[97]⟩, .int .u32 5] w4 (FindPost (some [7]) w4)) := Lib.hid (by
    have h := nfind_any _ la 1 lc M ⟨#[97]⟩ 5 w4 hsl (Nat.le_refl _) (by decide) (fun s hs => ?_) hlc2 hlc (by decide) (by decide) (by decide)
    · rw [hM] at h
      exact h
    · have h1 : s.nd ∈ M.map Nt.nd := List.mem_map_of_mem hs
      rw [hM, List.mem_singleton] at h1
      have h2 := (hsl.hok s hs).de.bys.1
      have h3 : s.de.zs = [7] := congrArg Nd.de h1
      rw [h3] at h2
      rw [← h2]; decide)
  have HM4 := Lib.hid ((HM.out.below hb4).more hb4.size)
  clear hsl hM hb4
  go_wp2_with fail
  refine HF.out.mono ?_
  rintro r w5 ⟨⟨u, rfl, ho⟩, hb5⟩
  obtain ⟨da, dc, rfl, -, -, hdm⟩ := Rw.own ho (by decide)
  have HB5 := Lib.hid (HB4.out.trans (hb5.mono HB4.out.size))
  have hm5 := HM4.out.below hb5
  have hs5 := hm5.sub (p := 0) (n := 19) (by decide)
  have HG2 : Hid (Calls Try.prog 14 #[.slice (some ⟨g, o, none⟩) 19 bc] w5 (GetPost (10, []) w5)) := Lib.hid (by
    have h := nget_any _ (some ⟨g, o + 0, none⟩) 19 bc _ w5 hs5 hb5.size (by have : ex8b.length = 20 := rfl; omega) hbc2
    rw [ex8_cut] at h
    exact h)
  have HD := Lib.hid hdm
  have hbc3 : (20 : Int) ≤ bc := by have : ex8b.length = 20 := rfl; omega
  clear ho hb5 hm5 hs5 hdm
  simp only [Option.getD_some, Option.isSome_some, List.length_cons, List.length_nil]
  go_wp2_with fail
  refine HG2.out.mono ?_
  rintro r w6 ⟨⟨la2, lc2, M2, rfl, -, -, -, hM2⟩, hb6⟩
  obtain rfl : M2 = [] := by simpa using hM2
  have hd6 := HD.out.below hb6
  have hcd : (convert 25 9 (.slice da 1 dc)).run Try.prog w6 = .ok (.string ⟨#[7]⟩) w6 := hd6.conv dc
  have HB6 := Lib.hid (HB5.out.trans (hb6.mono HB5.out.size))
  clear hb6 hd6
  go_wp2
  go_ret
  exact ⟨rfl, HB6.out⟩
end Go.Proofs.Ytkgakdlalmmdiaa
