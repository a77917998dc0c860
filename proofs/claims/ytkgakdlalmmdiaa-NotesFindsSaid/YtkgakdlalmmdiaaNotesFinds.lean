/-
  What is proved here: NotesFinds: the first note of any name and type is found, in new memory; writing to what is told writes nothing else.
  Conditions: none of our own; the law's row says what its input is.
-/
import Derived.Test.YtkgakdlalmmdiaaRows
import Derived.Test.YtkgakdlalmmdiaaNotEnd
import Derived.Test.YtkgakdlalmmdiaaNotFrame
import Derived.Test.YtkgakdlalmmdiaaApp
import Derived.WalkKit
import Derived.ProofKit
import Derived.OpenShut
import Derived.ShutString
import Derived.ChangeOld
import Derived.Below
namespace Go.Proofs.Ytkgakdlalmmdiaa.notesFinds
open Go.ChangeShapes Go.WideShapes Go.ChangeAt Go.RowKit
open Go.ChangeMaps (open_string shut_string)
set_option linter.unusedVariables false

theorem own : ownKnob Try.prog.godebug = none := by kernel_rfl
theorem laidOut : laidOutB Try.prog = true := by kernel_rfl

set_option maxRecDepth 100000 in
set_option maxHeartbeats 1600000 in
theorem walk (a0 : Option Addr) (len0 cap0 : Nat) (z0 : List Nt) (a1 : ByteArray) (a2 : Int) (w : World) (w0 : Nt.Is w a0 len0 cap0 z0) (w1 : a1.size ≤ maxLen) (w2 : (Lit.int .u32 a2).wf = true) :
    Calls Try.prog 5 #[.slice a0 len0 cap0, .string a1, .int .u32 a2] w fun e w' => e = .returned (.bool true) ∧ Below w.heap.size w w' := by
  obtain ⟨hs, hcap, hcm⟩ := w0.sl
  obtain ⟨k0, k1⟩ : 0 ≤ a2 ∧ a2 ≤ 4294967295 := Nt.wf_uint32 w2
  have HNM := Lib.hid w1
  generalize z0.take len0 = L at hs
  have HS := Lib.hid hs
  clear w0 w1 w2 hs
  go_enter Try.func5, Try.ntmps5
  go_wp2_with fail
  refine (awake_any _).mono ?_
  rintro r v1 ⟨rfl, hb1⟩
  have HB1 := Lib.hid hb1
  clear hb1
  obtain ⟨fb, hfb⟩ : ∃ fb, fewN L = fb := ⟨_, rfl⟩
  have HF := few8_any w.heap.size a0 len0 cap0 L v1 (HS.out.below HB1.out) (by omega)
  rw [hfb] at HF
  have HF := Lib.hid HF
  have HFE : Hid (fb = true → len0 ≤ 20 ∧ (flatN (L.map Nt.nd)).length ≤ 900000 ∧ ∀ s ∈ L, s.de.n ≤ 500) := Lib.hid (fun e => few_end HS.out (hfb.trans e))
  clear hfb
  go_wp2_with fail
  refine HF.out.mono ?_
  rintro r v2 ⟨rfl, rfl⟩
  clear HF
  cases fb with
  | false =>
    go_wp2
    go_ret
    exact ⟨rfl, HB1.out⟩
  | true =>
    obtain ⟨hf1, -, hf3⟩ := HFE.out rfl
    have hfi := nfind_any w.heap.size a0 len0 cap0 L a1 a2 v1 (HS.out.below HB1.out) HB1.out.size (by omega) (fun s hs => by have := hf3 s hs; omega) hcap hcm HNM.out k0 k1
    have HFN : Hid ((∀ j, j < len0 → hitN a1 a2 (L.getD j Nt.zero) = false) → findN (L.map Nt.nd) (bs a1) a2 = none) := Lib.hid (fun h => findN_no (by rw [HS.out.hl]; exact h))
    have HFS : Hid (∀ k, k < len0 → (∀ j, j < k → hitN a1 a2 (L.getD j Nt.zero) = false) → hitN a1 a2 (L.getD k Nt.zero) = true → findN (L.map Nt.nd) (bs a1) a2 = some (L.getD k Nt.zero).de.zs) := Lib.hid (fun k h1 h2 h3 => findN_at h2 (by rw [HS.out.hl]; exact h1) h3)
    have HF3 : Hid (∀ k, k < len0 → (L.getD k Nt.zero).de.n ≤ 500) := Lib.hid (fun k h => hf3 _ (Nt.getD_mem (by rw [HS.out.hl]; exact h)))
    generalize findN (L.map Nt.nd) (bs a1) a2 = F at hfi HFN HFS
    have HFI := Lib.hid hfi
    clear hfi hf3 HFE HNM
    go_wp2_with fail
    refine HFI.out.mono ?_
    rintro r v3 ⟨⟨u, rfl, ho⟩, hb3⟩
    have HB3 := Lib.hid (HB1.out.trans (hb3.mono HB1.out.size))
    have HO : Hid (v3.ownsRow w.heap.size 5 1 u (F.getD []).length ((F.getD []).map (Value.int .u8))) := Lib.hid (own_base ho HB1.out.size)
    obtain ⟨da, dc, rfl, hdc1, hdc2⟩ := own8_slice ho
    obtain ⟨n, hn⟩ : ∃ n, (F.getD []).length = n := ⟨_, rfl⟩
    obtain ⟨fs, hfs⟩ : ∃ fs, F.isSome = fs := ⟨_, rfl⟩
    have HNN := Lib.hid hn
    have HFF := Lib.hid hfs
    rw [hn] at HO hdc1 ⊢
    rw [hfs]
    clear ho hb3 HFI hn hfs
    go_wp2
    go_loop [11] (fun i => ∃ k : Nat, k ≤ len0 ∧ i = .int .i64 k ∧ ∀ j, j < k → hitN a1 a2 (L.getD j Nt.zero) = false) (fun i => len0 - (intOf i).toNat)
    case atStart => exact ⟨0, Nat.zero_le _, rfl, fun j hj => absurd hj (by omega)⟩
    case round =>
      obtain ⟨k, hk, rfl, hno⟩ := hrel
      by_cases hlt : k < len0
      · obtain ⟨b, off, rfl, hbB, hcell⟩ := HS.out.hc (by omega)
        have HAT : Hid (∀ w', Below w.heap.size w w' → Nt.At w' b (off + k * 3) (L.getD k Nt.zero) ∧ (L.getD k Nt.zero).de.Ok w' w.heap.size) := Lib.hid (fun w' h => ⟨(hcell k hlt).below h hbB, (HS.out.okAt hlt).de.below h⟩)
        have HNX : Hid (hitN a1 a2 (L.getD k Nt.zero) = false → ∀ j, j < k + 1 → hitN a1 a2 (L.getD j Nt.zero) = false) := Lib.hid (fun h => upto_no (P := fun j => hitN a1 a2 (L.getD j Nt.zero)) hno h)
        have HHY := Lib.hid (HFS.out k hlt hno)
        have hl5 := HF3.out k hlt
        have hlti : (k : Int) < len0 := by omega
        clear hcell hno
        generalize L.getD k Nt.zero = s at HAT HNX HHY hl5
        obtain ⟨⟨x0, x1, x2⟩, hde⟩ := HAT.out v3 HB3.out
        have HYE := Lib.hid (hitN_yes (name := a1) (kind := a2) (s := s))
        have HNE := Lib.hid (hitN_no (name := a1) (kind := a2) (s := s))
        obtain ⟨na, ty, de⟩ := s
        simp only at x0 x1 x2 hde HYE HNE HHY hl5 HAT
        by_cases q1 : na = a1
        · subst q1
          have q1b : (na.toList == na.toList) = true := by simp
          by_cases q2 : ty = a2
          · subst q2
            have hF := HHY.out (HYE.out rfl rfl)
            subst hF
            have hnn : de.n = n := by rw [← hde.bys.1]; exact HNN.out
            obtain rfl : fs = true := HFF.out.symm
            have hcv1 : (convert 25 9 (.slice de.a n de.c)).run Try.prog v3 = .ok (.string (strOfNums de.zs)) v3 := hnn ▸ hde.bys.conv de.c
            have hdm : Bys v3 v3.heap.size da n de.zs := Bys.own hde.bys.2.1 HO.out
            have hcv2 : (convert 25 9 (.slice da n dc)).run Try.prog v3 = .ok (.string (strOfNums de.zs)) v3 := hdm.conv dc
            have HCV : Hid (∀ w', Below w.heap.size w w' → (convert 25 9 (.slice de.a n de.c)).run Try.prog w' = .ok (.string (strOfNums de.zs)) w') := Lib.hid (fun w' h => hnn ▸ (HAT.out w' h).2.bys.conv de.c)
            have HAT2 : Hid (∀ w', Below w.heap.size w w' → w'.cell? ⟨b, off + k * 3 + 2, none⟩ = some (.slice de.a n de.c)) := Lib.hid (fun w' h => hnn ▸ (HAT.out w' h).1.c2)
            have HO2 : Hid (∃ ys : List Int, ys.length = n ∧ v3.ownsRow w.heap.size 5 1 (.slice da n dc) n (ys.map (Value.int .u8))) := Lib.hid ⟨de.zs, by rw [hde.bys.1]; exact hnn, HO.out⟩
            generalize strOfNums de.zs = S at hcv1 hcv2 HCV
            have hSb : (S.toList == S.toList) = true := by simp
            have hn5 : (n : Int) ≤ 500 := by omega
            rw [hnn] at x2
            clear hnn
            clear HNX HHY HYE HNE HFN HFS HFF HNN HF3 hde hdm HO HAT hl5
            go_wp2
            go_loopw [14] (fun i wr => ∃ j : Nat, j ≤ n ∧ i = .int .i64 j ∧ (∃ ys : List Int, ys.length = n ∧ wr.ownsRow w.heap.size 5 1 (.slice da n dc) n (ys.map (Value.int .u8))) ∧ Below w.heap.size w wr) (fun i _ => n - (intOf i).toNat)
            case atStart => exact ⟨0, Nat.zero_le _, rfl, HO2.out, HB3.out⟩
            case round =>
              obtain ⟨j, hj, rfl, ⟨ys, hyl, hown⟩, hbel⟩ := hrel
              by_cases hjn : j < n
              · obtain ⟨g, c', hv, hg⟩ := own_some hown (by omega)
                injection hv with hv1 hv2 hv3
                subst hv1; subst hv3
                have hc := hown.cellAt j (by omega)
                rw [getElem_map_u8 (by omega)] at hc
                have hf := hown.frozenAt j
                obtain ⟨y, hy⟩ : ∃ y, ys.getD j 0 = y := ⟨_, rfl⟩
                rw [hy] at hc
                obtain ⟨y2, hy2⟩ : ∃ y2, bits .xor .u8 y 255 = y2 := ⟨_, rfl⟩
                have hst := hown.stored j (.int .u8 y2)
                rw [map_set_u8] at hst
                have hbs := hbel.setCell (p := ⟨g, j, none⟩) hg (.int .u8 y2)
                have hji : (j : Int) < n := by omega
                have HST := Lib.hid hst
                have HBS := Lib.hid hbs
                have HYL : Hid ((ys.set j y2).length = n) := Lib.hid (by rw [List.length_set]; exact hyl)
                clear hown hbel hst hbs hy
                go_wp2
                go_roundw
                case rel => exact ⟨j + 1, by omega, by go_num, ⟨_, HYL.out, HST.out.1⟩, HBS.out⟩
                case measure => (simp [intOf] <;> omega)
              · obtain rfl : j = n := by omega
                have hx := HAT2.out wr hbel
                have hcv3 := HCV.out wr hbel
                have HBE := Lib.hid hbel
                clear hown hbel hyl
                go_wp2
                go_ret
                exact ⟨rfl, HBE.out⟩
          · have hF := Lib.hid (HNX.out (HNE.out (fun h => q2 h.2)))
            have q2b : (ty == a2) = false := by simpa using q2
            clear HNX HHY HYE HNE
            go_wp2
            go_round
            case rel => exact ⟨k + 1, by omega, by go_num, hF.out⟩
            case measure => (simp [intOf] <;> omega)
        · have hF := Lib.hid (HNX.out (HNE.out (fun h => q1 h.1)))
          have q1b := str_ne q1
          have q1c : ¬ na.toList = a1.toList := fun e => q1 (str_inj e)
          clear HNX HHY HYE HNE
          go_wp2
          go_round
          case rel => exact ⟨k + 1, by omega, by go_num, hF.out⟩
          case measure => (simp [intOf] <;> omega)
      · obtain rfl : k = len0 := by omega
        have hF := HFN.out hno
        subst hF
        obtain rfl : fs = false := HFF.out.symm
        obtain rfl : n = 0 := HNN.out.symm
        clear hno
        go_wp2
        go_ret
        exact ⟨rfl, HB3.out⟩

set_option maxRecDepth 100000 in
theorem lifted (os : Os) (started : os.Started) (H : Type) (enc : TypeId × Value → H) :
    ReturnsInHanded {} Try.checked os 5 .any (Rows.notesFindsSpec.pre6 enc Try.prog Try.f5 Rows.notesFindsRow.domain false) (Rows.notesFindsSpec.post enc Try.prog Try.f5 false true false false) := by
  refine returnsInHanded_of_change (C := Try.checked) own started (by kernel_rfl) Try.func5
    (ChangeSpec.witness6 (enc := enc) (C := Try.checked) false ⟨#[], #[.slice none 0 0, .string ByteArray.empty, .int .u32 0], []⟩ 8 (by kernel_rfl) (by kernel_rfl) (by kernel_rfl) (by kernel_rfl)) ?_
  intro W base args ds gs before hval0 hW hcnd _
  have hval : ∀ (j : Nat) t v, Try.f5.params[j]? = some t → args[j]? = some v → Value.okWide Try.prog W .any base t v := hval0
  have hW' := hW
  obtain ⟨p, q, hA0, hV, rfl, hfz, hnd⟩ := hW
  have hA : DataW.TrodAll enc Try.prog W 0 (fun _ => true) true Try.f5.params.toList args.toList ds p := hA0
  rw [Try.params5] at hA hval
  obtain ⟨v0, vs0, d0, ds0, p0, q0, hargs, rfl, rfl, h0, r0⟩ := trodAll_cons hA
  obtain ⟨v1, vs1, d1, ds1, p1, q1, rfl, rfl, rfl, h1, r1⟩ := trodAll_cons r0
  obtain ⟨v2, vs2, d2, ds2, p2, q2, rfl, rfl, rfl, h2, r2⟩ := trodAll_cons r1
  obtain ⟨rfl, rfl, rfl⟩ := trodAll_nil r2
  obtain rfl : args = #[v0, v1, v2] := by cases args; simp_all
  obtain ⟨rfl, rfl⟩ := trodVars_none hV
  obtain ⟨a0, len0, cap0, rfl⟩ := okWide_slice Try.underlying22 (hval 0 22 v0 rfl rfl)
  have k0 := h0
  have lt0 : ∀ x ∈ p0, x.block < W.heap.size := by obtain ⟨m, hm⟩ := k0; exact DataW.trod_lt m _ _ _ hm
  obtain ⟨z0, w0⟩ : ∃ zs, Nt.Is W a0 len0 cap0 zs := by
    obtain ⟨fuel, hf⟩ := h0
    exact Nt.opens hf
  obtain ⟨a1, rfl, rfl, rfl, w1⟩ := open_string Try.underlying9 (hval 1 9 v1 rfl rfl) h1
  obtain ⟨a2, rfl, rfl, rfl, w2⟩ := open_int Try.underlying38 (hval 2 38 v2 rfl rfl) h2
  clear hA0 hval0
  refine (walk a0 len0 cap0 z0 a1 a2 W w0 w1 w2).mono fun e W' ⟨he, bel⟩ => ?_
  subst he
  exact ⟨_, rfl, _, _, _, [], _, [], hW', trodAll_mk1 (shut_bool Try.underlying4 _), (trodAll_cons_mk (Below.trod laidOut (by kernel_rfl) (of_decide_eq_true (by kernel_rfl)) k0 bel lt0) (trodAll_cons_mk (shut_string Try.underlying9 w1) (trodAll_cons_mk (shut_int Try.underlying38 w2) trodAll_mk0))), rfl, bel.frame _, fun h => by cases h⟩

theorem over : Rows.notesFindsRow.holds Try.pinned (OpenSpec.ofChange Rows.notesFindsSpec) :=
  OpenClaim.holds_of_wide 5 Try.f5 rfl rfl rfl rfl rfl rfl rfl ⟨rfl, rfl, rfl, rfl, rfl⟩ rfl rfl rfl rfl rfl (by kernel_rfl) Try.func5 (by kernel_rfl)
    (of_decide_eq_true (by kernel_rfl)) (by unfold Func.isWrapper; first | (rw [if_pos (by decide +kernel)]; kernel_rfl) | (rw [if_neg (by decide +kernel)]; exact ⟨rfl, rfl⟩))
    (fun os started H enc _ => lifted os started H enc)

theorem proved : Rows.NotesFindsSaid := over
#print axioms proved
end Go.Proofs.Ytkgakdlalmmdiaa.notesFinds
