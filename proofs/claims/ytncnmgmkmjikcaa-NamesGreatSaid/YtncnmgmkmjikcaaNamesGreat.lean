/-
  What is proved here: the law NamesGreat: for every input it returns true and leaves its argument as it was.
  Conditions: none of our own; the law's row says what its input is.
-/
import Derived.Test.YtncnmgmkmjikcaaRows
import Derived.Test.YtncnmgmkmjikcaaNamOne
import Derived.Test.YtncnmgmkmjikcaaMask
import Derived.WalkKit
import Derived.ProofKit
import Derived.OpenShut
import Derived.ShutString
import Derived.ChangeOld
import Derived.Below
namespace Go.Proofs.Ytncnmgmkmjikcaa.namesGreat
open Go.ChangeShapes Go.WideShapes Go.ChangeAt Go.RowKit
open Go.ChangeMaps (open_string shut_string)
set_option linter.unusedVariables false

theorem own : ownKnob Try.prog.godebug = none := by kernel_rfl
theorem laidOut : laidOutB Try.prog = true := by kernel_rfl

set_option maxRecDepth 100000 in
set_option maxHeartbeats 1600000 in
theorem core (a : Int) (k : Int) (w : World) (hk0 : 0 ≤ k) (hk : k ≤ 7) (hand : bits .and .i64 a 7 = k) :
    Calls Try.prog 6 #[.int .i64 a] w fun e w' => e = .returned (.bool true) ∧ Below w.heap.size w w' := by
  obtain ⟨i0, hi, hz0, hz1, hz2⟩ := info_parts info_u8
  have HI := Lib.hid hi
  have HZ0 := Lib.hid hz0
  have HZ1 := Lib.hid hz1
  have HZ2 := Lib.hid hz2
  obtain ⟨m, hm⟩ : ∃ m, m = 65530 + k.toNat := ⟨_, rfl⟩
  have HMK : Hid ((65530 : Int) + k = ((m : Nat) : Int)) := Lib.hid (by omega)
  have hm1 : 65530 ≤ m := by omega
  have hm2 : m ≤ 65537 := by omega
  have hkm : k = (m : Int) - 65530 := by omega
  have HKM := Lib.hid hkm
  clear hi hz0 hz1 hz2 hm hkm
  go_enter Try.func6, Try.ntmps6
  go_wp2_with fail
  refine (awake_any _).mono ?_
  rintro e w1 ⟨rfl, hb1⟩
  go_wp2_with (at_make; refine wpList_make_full _ rfl _ _ 22 rfl w1.heap.size 5 i0 (.int .u8 0) 1 Try.underlying22 HI.out HZ0.out HZ1.out .i64 .i64 _ _ m rfl rfl ?c4 ?c5 ?c1 ?c2 ?c3 ?_)
  case c4 => exact HMK.out
  case c5 => exact HMK.out
  case c1 => rw [HZ2.out]; omega
  case c2 => unfold maxLen; omega
  case c3 => exact Nat.le_refl _
  intro w2 hown hg
  rw [toList_madeCells_one] at hown
  have hb2 : Below w.heap.size w w2 := hb1.grown hg hb1.size (fun _ e => by cases e)
  have HO2 : Hid (w2.ownsRow w1.heap.size 5 1 (.slice (some ⟨w1.heap.size, 0, none⟩) m m) m ((List.replicate m (0 : Int)).map (Value.int .u8))) := Lib.hid (by rw [List.map_replicate]; exact hown)
  clear hown hg
  go_wp2
  go_loopw [6] (fun i wr => ∃ (j : Nat) (ys : List Int), j ≤ m ∧ ys.length = m ∧ (∀ q, q < j → ys.getD q 0 = 97) ∧ i = .int .i64 j ∧ wr.ownsRow w1.heap.size 5 1 (.slice (some ⟨w1.heap.size, 0, none⟩) m m) m (ys.map (Value.int .u8)) ∧ Below w.heap.size w wr) (fun i _ => m - (intOf i).toNat)
  case atStart => exact ⟨0, List.replicate m 0, Nat.zero_le _, List.length_replicate, fun q hq => absurd hq (Nat.not_lt_zero _), rfl, HO2.out, hb2⟩
  case round =>
    obtain ⟨j, ys, hj, hys, h97, rfl, hown, hbel⟩ := hrel
    have HYS := Lib.hid hys
    have H97 := Lib.hid h97
    by_cases hlt : j < m
    · have hc := hown.cellAt j (by omega)
      rw [getElem_map_u8 (by omega)] at hc
      have hf := hown.frozenAt j
      generalize ys.getD j 0 = y at hc
      have hst := hown.stored j (.int .u8 97)
      rw [map_set_u8] at hst
      have hbs := hbel.setCell (p := ⟨w1.heap.size, j, none⟩) hb1.size (.int .u8 97)
      have HST := Lib.hid hst
      have HBS := Lib.hid hbs
      have HNX : Hid (∀ q, q < j + 1 → (ys.set j 97).getD q 0 = 97) := Lib.hid (fun q hq => by
        rw [List.getD_eq_getElem?_getD, List.getElem?_set]
        by_cases hqj : j = q
        · subst hqj; rw [if_pos rfl, if_pos (by omega)]; rfl
        · rw [if_neg hqj, ← List.getD_eq_getElem?_getD]; exact h97 q (by omega))
      clear hown hbel hst hbs hys h97
      go_wp2
      go_roundw
      case rel => exact ⟨j + 1, ys.set j 97, by omega, by rw [List.length_set]; exact HYS.out, HNX.out, by go_num, HST.out.1, HBS.out⟩
      case measure => simp [intOf]; omega
    · obtain rfl : j = m := by omega
      have hzb : ∀ n ∈ ys, 0 ≤ n ∧ n ≤ 255 := by
        intro n hn
        obtain ⟨q, hq, rfl⟩ := List.getElem_of_mem hn
        have := h97 q (by omega)
        rw [List.getD_eq_getElem?_getD, List.getElem?_eq_getElem hq] at this
        simp at this
        omega
      have hconv := (Bys.own hzb hown).conv j
      obtain ⟨s, hs⟩ : ∃ s, s = strOfNums ys := ⟨_, rfl⟩
      rw [← hs] at hconv
      have hsz : s.size = j := by rw [hs, size_strOfNums, hys]
      have hnz : NoZ (bs s) := by
        rw [hs, bs_strOfNums hzb]
        intro q hq
        rw [h97 q (by omega)]; decide
      have hne : s ≠ .empty := size_ne (by omega)
      have HTL : Hid ((tab [s] [s].length).length = j + 2) := Lib.hid (by rw [tab_one_len hne, hsz])
      have HSM : Hid (∀ i, (nm [s] i).size ≤ maxLen) := Lib.hid (nm_one_le (by rw [hsz]; unfold maxLen; omega))
      have HCL := Lib.hid (clean_one hnz)
      have HSTR := Lib.hid (Strs.alloc_new wr [s] 9)
      have hsw : (wr.alloc (.cells #[.string s] 9)).heap.size = wr.heap.size + 1 := by simp
      have hbA : Below w.heap.size w (wr.alloc (.cells #[.string s] 9)) := hbel.alloc hbel.size _
      have HSW := Lib.hid hsw
      have HBA := Lib.hid hbA
      clear hs hsz hnz hne hzb hown h97 hys hsw hbA
      by_cases h4 : k ≤ 4
      · have HG : Hid (Gives 15 (.slice (some ⟨wr.heap.size, 0, none⟩) 1 1) (wr.alloc (.cells #[.string s] 9)) (tab [s] [s].length) (outs [s] [s].length) 0) := Lib.hid
          (build_gives 1 (L := [s]) (HSW.out ▸ HSTR.out) (by decide) HSM.out (.inr (.inr ⟨rfl, rfl, rfl, HCL.out, by rw [HTL.out]; have := HKM.out; omega⟩)))
        unfold Gives at HG
        rw [HTL.out] at HG
        have HJ : Hid (((j + 2 : Nat) : Int) = 65532 + k) := Lib.hid (by have := HMK.out; omega)
        go_wp2_with fail
        refine (HG.out _ (Below.refl _ _)).mono ?_
        rintro e w4 ⟨ta, tc, pa, pc, rfl, hR, hO, hb4⟩
        have hbw := HBA.out.trans (hb4.mono HBA.out.size)
        have hj2 : ((j : Int) + 2 == 65532 + k) = true := by rw [beq_iff_eq]; have := HJ.out; omega
        clear hR hO hm1 hm2
        go_wp2
        go_ret
        exact ⟨rfl, hbw⟩
      · have h4i : (4 : Int) < k := by omega
        have HG : Hid (Gives 15 (.slice (some ⟨wr.heap.size, 0, none⟩) 1 1) (wr.alloc (.cells #[.string s] 9)) [] [] 13) := Lib.hid
          (build_gives 1 (L := [s]) (HSW.out ▸ HSTR.out) (by decide) HSM.out (.inr (.inl ⟨rfl, rfl, rfl, HCL.out, by rw [HTL.out]; have := HKM.out; omega⟩)))
        unfold Gives at HG
        go_wp2_with fail
        refine (HG.out _ (Below.refl _ _)).mono ?_
        rintro e w4 ⟨ta, tc, pa, pc, rfl, hR, hO, hb4⟩
        have hbw := HBA.out.trans (hb4.mono HBA.out.size)
        clear hR hO hm1 hm2
        go_wp2
        go_ret
        exact ⟨rfl, hbw⟩
set_option maxRecDepth 100000 in
set_option maxHeartbeats 1600000 in
theorem walk (a0 : Int) (w : World) (w0 : (Lit.int .i64 a0).wf = true) :
    Calls Try.prog 6 #[.int .i64 a0] w fun e w' => e = .returned (.bool true) ∧ Below w.heap.size w w' := by
  obtain ⟨k, hk, hand⟩ := i64_mask a0 7 (by decide)
  exact core a0 k w (by omega) (by omega) hand

set_option maxRecDepth 100000 in
theorem lifted (os : Os) (started : os.Started) (H : Type) (enc : TypeId × Value → H) :
    ReturnsInHanded {} Try.checked os 6 .any (Rows.namesGreatSpec.pre6 enc Try.prog Try.f6 Rows.namesGreatRow.domain false) (Rows.namesGreatSpec.post enc Try.prog Try.f6 false true false false) := by
  refine returnsInHanded_of_change (C := Try.checked) own started (by kernel_rfl) Try.func6
    (ChangeSpec.witness6 (enc := enc) (C := Try.checked) false ⟨#[], #[.int .i64 0], []⟩ 8 (by kernel_rfl) (by kernel_rfl) (by kernel_rfl) (by kernel_rfl)) ?_
  intro W base args ds gs before hval0 hW hcnd _
  have hval : ∀ (j : Nat) t v, Try.f6.params[j]? = some t → args[j]? = some v → Value.okWide Try.prog W .any base t v := hval0
  have hW' := hW
  obtain ⟨p, q, hA0, hV, rfl, hfz, hnd⟩ := hW
  have hA : DataW.TrodAll enc Try.prog W 0 (fun _ => true) true Try.f6.params.toList args.toList ds p := hA0
  rw [Try.params6] at hA hval
  obtain ⟨v0, vs0, d0, ds0, p0, q0, hargs, rfl, rfl, h0, r0⟩ := trodAll_cons hA
  obtain ⟨rfl, rfl, rfl⟩ := trodAll_nil r0
  obtain rfl : args = #[v0] := by cases args; simp_all
  obtain ⟨rfl, rfl⟩ := trodVars_none hV
  obtain ⟨a0, rfl, rfl, rfl, w0⟩ := open_int Try.underlying3 (hval 0 3 v0 rfl rfl) h0
  clear hA0 hval0
  refine (walk a0 W w0).mono fun e W' ⟨he, bel⟩ => ?_
  subst he
  exact ⟨_, rfl, _, _, _, [], _, [], hW', trodAll_mk1 (shut_bool Try.underlying4 _), (trodAll_cons_mk (shut_int Try.underlying3 w0) trodAll_mk0), rfl, bel.frame _, fun h => by cases h⟩

theorem over : Rows.namesGreatRow.holds Try.pinned (OpenSpec.ofChange Rows.namesGreatSpec) :=
  OpenClaim.holds_of_wide 6 Try.f6 rfl rfl rfl rfl rfl rfl rfl ⟨rfl, rfl, rfl, rfl, rfl⟩ rfl rfl rfl rfl rfl (by kernel_rfl) Try.func6 (by kernel_rfl)
    (of_decide_eq_true (by kernel_rfl)) (by unfold Func.isWrapper; first | (rw [if_pos (by decide +kernel)]; kernel_rfl) | (rw [if_neg (by decide +kernel)]; exact ⟨rfl, rfl⟩))
    (fun os started H enc _ => lifted os started H enc)

theorem proved : Rows.NamesGreatSaid := over
#print axioms proved
end Go.Proofs.Ytncnmgmkmjikcaa.namesGreat
