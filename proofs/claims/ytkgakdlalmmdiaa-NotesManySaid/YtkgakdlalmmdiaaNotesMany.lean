/-
  What is proved here: NotesMany: notes have as many bytes as there may be, and no more.
  Conditions: none of our own; the law's row says what its input is.
-/
import Derived.Test.YtkgakdlalmmdiaaRows
import Derived.Test.YtkgakdlalmmdiaaNotEnd
import Derived.Test.YtkgakdlalmmdiaaNotFrame
import Derived.Test.YtkgakdlalmmdiaaMask
import Derived.WalkKit
import Derived.ProofKit
import Derived.OpenShut
import Derived.ShutString
import Derived.ChangeOld
import Derived.Below
namespace Go.Proofs.Ytkgakdlalmmdiaa.notesMany
open Go.ChangeShapes Go.WideShapes Go.ChangeAt Go.RowKit
open Go.ChangeMaps (open_string shut_string)
set_option linter.unusedVariables false

theorem own : ownKnob Try.prog.godebug = none := by kernel_rfl
theorem laidOut : laidOutB Try.prog = true := by kernel_rfl

set_option maxRecDepth 100000 in
set_option maxHeartbeats 1600000 in
theorem walk (a0 : Int) (w : World) (w0 : (Lit.int .i64 a0).wf = true) :
    Calls Try.prog 8 #[.int .i64 a0] w fun e w' => e = .returned (.bool true) ∧ Below w.heap.size w w' := by
  obtain ⟨i0, hi, hz0, hz1, hz2⟩ := info_parts info_u8
  have HI := Lib.hid hi
  have HZ0 := Lib.hid hz0
  have HZ1 := Lib.hid hz1
  have HZ2 := Lib.hid hz2
  obtain ⟨m, hm63, hmask⟩ := i64_mask a0 63 (by decide)
  have hmask2 : bits .and .i64 a0 63 = (m : Int) := hmask
  have hmi : (m : Int) ≤ 63 := by omega
  clear w0 hi hz0 hz1 hz2 hmask
  go_enter Try.func8, Try.ntmps8
  go_wp2_with fail
  refine (awake_any _).mono ?_
  rintro r v1 ⟨rfl, hb1⟩
  have HB1 := Lib.hid hb1
  clear hb1
  obtain ⟨k, hk⟩ : ∃ k : Nat, k = 65500 + m := ⟨_, rfl⟩
  have hki : (65500 : Int) + m = (k : Int) := by omega
  have hk1 : (k : Int) ≤ 65563 := by omega
  have hk2 : (65500 : Int) ≤ k := by omega
  clear hk
  go_wp2_with (at_make; refine wpList_make_full _ rfl _ _ 25 rfl v1.heap.size 5 i0 (.int .u8 0) 1 Try.underlying25 HI.out HZ0.out HZ1.out .i64 .i64 _ _ k rfl rfl rfl rfl ?c1 ?c2 ?c3 ?_)
  case c1 => rw [HZ2.out]; omega
  case c2 => unfold maxLen; omega
  case c3 => exact Nat.le_refl _
  intro v2 hown hg
  rw [toList_madeCells_one] at hown
  have hb2 : Below v1.heap.size v1 v2 := (Below.refl _ _).grown hg (Nat.le_refl _) (fun _ e => by cases e)
  have HB2 := Lib.hid (HB1.out.trans (hb2.mono HB1.out.size))
  have hbys : Bys v2 v2.heap.size (some ⟨v1.heap.size, 0, none⟩) k (List.replicate k 0) := Bys.own (bsn_bd k) (by rw [List.map_replicate]; exact hown)
  obtain ⟨s, hs⟩ : ∃ s : Nt, s = ⟨⟨#[97, 98, 99]⟩, 0, ⟨some ⟨v1.heap.size, 0, none⟩, k, k, List.replicate k 0⟩⟩ := ⟨_, rfl⟩
  have hso : s.Ok v2 v2.heap.size := by
    rw [hs]
    exact ⟨show 3 ≤ maxLen by decide, show (0 : Int) ≤ 0 ∧ (0 : Int) ≤ 4294967295 by decide, ⟨hbys, Nat.le_refl _, by show (k : Int) ≤ _; omega, fun e => by cases e⟩⟩
  have hnd : s.nd = many8 k := by rw [hs]; rfl
  have hsl := Nt.Sl.lit1 v2 s 42 hso
  have hu := (upN_le k).2.1
  have hp := nput_any _ _ 1 1 [s] _ hsl (by simp) (by decide) (by rw [List.map_singleton, hnd, many8_len]; omega) (Nat.le_refl _) (by decide)
  rw [List.map_singleton, hnd, many8_put, hs] at hp
  unfold Nt.cells at hp
  simp only at hp
  have HP := Lib.hid hp
  have hui : (16 : Int) + ((k : Int) + 3) / 4 * 4 = ((16 + upN k : Nat) : Int) := by unfold upN; omega
  have HB2a : Hid (∀ o, Below w.heap.size w (v2.alloc o)) := Lib.hid (fun o => HB2.out.alloc HB2.out.size o)
  clear hown hg hb2 hbys hs hso hnd hsl hp hmask2
  by_cases hbig : 65536 < 16 + upN k
  · rw [if_pos hbig] at HP
    obtain ⟨q, hq⟩ : ∃ q, 16 + upN k = q := ⟨_, rfl⟩
    rw [hq] at hui hbig
    have hqi : (65536 : Int) < q := by omega
    clear hq hu
    go_wp2_with fail
    refine HP.out.mono ?_
    rintro r v3 ⟨⟨u, rfl, ho⟩, hb3⟩
    obtain ⟨ua, uc, rfl, -, -⟩ := own8_slice ho
    have HB3 := Lib.hid ((HB2a.out _).trans (hb3.mono (HB2a.out _).size))
    clear ho hb3
    go_wp2
    go_ret
    exact ⟨rfl, HB3.out⟩
  · rw [if_neg hbig] at HP
    have hfl := many8_len k
    have HGE := Lib.hid (many8_get hbig)
    have HBD := Lib.hid (flatN_bd (L := [many8 k]) (fun d hd => by obtain rfl := List.mem_singleton.1 hd; exact many8_ok k))
    generalize flatN [many8 k] = F at HP hfl HGE HBD
    obtain ⟨q, hq⟩ : ∃ q, 16 + upN k = q := ⟨_, rfl⟩
    rw [hq] at hui hbig hfl
    have hqi : (q : Int) ≤ 65536 := by omega
    clear hq hu
    go_wp2_with fail
    refine HP.out.mono ?_
    rintro r v3 ⟨⟨u, rfl, ho⟩, hb3⟩
    obtain ⟨ba, bc, rfl, hbc1, hbc2, hm3⟩ := Rw.own ho HBD.out
    have HB3 := Lib.hid ((HB2a.out _).trans (hb3.mono (HB2a.out _).size))
    have hget := nget_any _ ba _ bc F v3 hm3 (Nat.le_refl _) hbc1 hbc2
    simp only at hget hbc1 ⊢
    rw [HGE.out, hfl] at hget
    rw [hfl] at hbc1 ⊢
    have HG := Lib.hid hget
    clear ho hb3 hm3 hget HP HGE
    go_wp2_with fail
    refine HG.out.mono ?_
    rintro r v4 ⟨⟨la, lc, M, rfl, -, hlc1, hsl, hM⟩, hb4⟩
    have hM1 : M.length = 1 := by have := congrArg List.length hM; simpa using this
    rw [hM1] at hsl hlc1 ⊢
    obtain ⟨b, off, rfl, hbB, hcell⟩ := hsl.hc (by decide)
    have hat := hcell 0 (by decide)
    have hde := (hsl.okAt (i := 0) (by decide)).de.bys.1
    have hnd : (M.getD 0 Nt.zero).nd = many8 k := by
      have h1 : (M.getD 0 Nt.zero).nd ∈ M.map Nt.nd := List.mem_map_of_mem (Nt.getD_mem (by omega))
      rw [hM] at h1
      exact List.mem_singleton.1 h1
    have hzs : (M.getD 0 Nt.zero).de.zs = List.replicate k 0 := congrArg Nd.de hnd
    generalize M.getD 0 Nt.zero = s at hat hde hzs
    rw [hzs, List.length_replicate] at hde
    have HDE := Lib.hid hde.symm
    clear hde
    have HAT := Lib.hid hat
    have HBB := Lib.hid hbB
    have HB4 := Lib.hid (HB3.out.trans (hb4.mono HB3.out.size))
    have hlci : (1 : Int) ≤ lc := by omega
    clear hsl hM hb4 hat hcell hnd hzs HG hM1
    go_wp2_with (at_make; refine wpList_make_full _ rfl _ _ 25 rfl v4.heap.size 5 i0 (.int .u8 0) 1 Try.underlying25 HI.out HZ0.out HZ1.out .i64 .i64 _ _ 65537 rfl rfl rfl rfl ?d1 ?d2 ?d3 ?_)
    case d1 => rw [HZ2.out]; omega
    case d2 => unfold maxLen; omega
    case d3 => exact Nat.le_refl _
    intro v5 hown hg
    rw [toList_madeCells_one] at hown
    have hb5 : Below v4.heap.size v4 v5 := (Below.refl _ _).grown hg (Nat.le_refl _) (fun _ e => by cases e)
    have HB5 := Lib.hid (HB4.out.trans (hb5.mono HB4.out.size))
    have hby5 : Bys v5 v5.heap.size (some ⟨v4.heap.size, 0, none⟩) 65537 (List.replicate 65537 0) := Bys.own (bsn_bd 65537) (by rw [List.map_replicate]; exact hown)
    have hget := nget_any _ _ 65537 65537 _ v5 hby5 (Nat.le_refl _) (Nat.le_refl _) (by decide)
    rw [getN_long (by rw [List.length_replicate]; decide)] at hget
    have HG2 := Lib.hid hget
    have HA5 := Lib.hid (HAT.out.below hb5 HBB.out)
    have hz45 := hb5.size
    clear hown hg hb5 hby5 hget
    go_wp2_with fail
    refine HG2.out.mono ?_
    rintro r v6 ⟨⟨pa, pc, N, rfl, -, -, -, hN⟩, hb6⟩
    obtain rfl : N = [] := by simpa using hN
    have HB6 := Lib.hid (HB5.out.trans (hb6.mono HB5.out.size))
    obtain ⟨x0, x1, x2⟩ := HA5.out.below hb6 (Nat.lt_of_lt_of_le HBB.out hz45)
    rw [HDE.out] at x2
    simp only [Nat.zero_mul, Nat.add_zero] at x0 x1 x2
    clear hb6
    go_wp2
    go_ret
    exact ⟨rfl, HB6.out⟩

set_option maxRecDepth 100000 in
theorem lifted (os : Os) (started : os.Started) (H : Type) (enc : TypeId × Value → H) :
    ReturnsInHanded {} Try.checked os 8 .any (Rows.notesManySpec.pre6 enc Try.prog Try.f8 Rows.notesManyRow.domain false) (Rows.notesManySpec.post enc Try.prog Try.f8 false true false false) := by
  refine returnsInHanded_of_change (C := Try.checked) own started (by kernel_rfl) Try.func8
    (ChangeSpec.witness6 (enc := enc) (C := Try.checked) false ⟨#[], #[.int .i64 0], []⟩ 8 (by kernel_rfl) (by kernel_rfl) (by kernel_rfl) (by kernel_rfl)) ?_
  intro W base args ds gs before hval0 hW hcnd _
  have hval : ∀ (j : Nat) t v, Try.f8.params[j]? = some t → args[j]? = some v → Value.okWide Try.prog W .any base t v := hval0
  have hW' := hW
  obtain ⟨p, q, hA0, hV, rfl, hfz, hnd⟩ := hW
  have hA : DataW.TrodAll enc Try.prog W 0 (fun _ => true) true Try.f8.params.toList args.toList ds p := hA0
  rw [Try.params8] at hA hval
  obtain ⟨v0, vs0, d0, ds0, p0, q0, hargs, rfl, rfl, h0, r0⟩ := trodAll_cons hA
  obtain ⟨rfl, rfl, rfl⟩ := trodAll_nil r0
  obtain rfl : args = #[v0] := by cases args; simp_all
  obtain ⟨rfl, rfl⟩ := trodVars_none hV
  obtain ⟨a0, rfl, rfl, rfl, w0⟩ := open_int Try.underlying3 (hval 0 3 v0 rfl rfl) h0
  clear hA0 hval0
  refine (walk a0 W w0).mono fun e W' ⟨he, bel⟩ => ?_
  subst he
  exact ⟨_, rfl, _, _, _, [], _, [], hW', trodAll_mk1 (shut_bool Try.underlying4 _), (trodAll_cons_mk (shut_int Try.underlying3 w0) trodAll_mk0), rfl, bel.frame _, fun h => by cases h⟩

theorem over : Rows.notesManyRow.holds Try.pinned (OpenSpec.ofChange Rows.notesManySpec) :=
  OpenClaim.holds_of_wide 8 Try.f8 rfl rfl rfl rfl rfl rfl rfl ⟨rfl, rfl, rfl, rfl, rfl⟩ rfl rfl rfl rfl rfl (by kernel_rfl) Try.func8 (by kernel_rfl)
    (of_decide_eq_true (by kernel_rfl)) (by unfold Func.isWrapper; first | (rw [if_pos (by decide +kernel)]; kernel_rfl) | (rw [if_neg (by decide +kernel)]; exact ⟨rfl, rfl⟩))
    (fun os started H enc _ => lifted os started H enc)

theorem proved : Rows.NotesManySaid := over
#print axioms proved
end Go.Proofs.Ytkgakdlalmmdiaa.notesMany
