/-
  What is proved here: Crash of package disk.
  Conditions: none.
-/
import Derived.Test.YthogdieplfpopaaDskCrA
import Derived.Test.YthogdieplfpopaaFWords
import Derived.Maps.RangeWalk
import Derived.Sort.MapsRangeIn
import Derived.Laws.IdiomRangeMap
import Derived.Deep.Cut
import Derived.Deep.CutBlock
import Derived.Deep.DeepCutAuto
namespace Go.Proofs.Ythogdieplfpopaa
open Go.RowKit Go.WideMaps Go.Maps
set_option linter.unusedVariables false
set_option linter.unusedSimpArgs false

/-- What is kept, handed in: bools that are not the disk's. -/
def KeepIs (w : World) (S : Sh) (v : Value) (kl : List Bool) : Prop := (v = .slice none 0 0 ∧ kl = []) ∨ ∃ ad cap, v = .slice (some ad) kl.length cap ∧ kl.length ≤ cap ∧ (kl ≠ [] → ad.block < w.heap.size ∧ ¬ S.own ad.block) ∧ ∀ j, j < kl.length → w.cell? (ad.add j) = some (.bool (kl.getD j false))
theorem KeepIs.fr {w w' : World} {S S' : Sh} {v : Value} {kl : List Bool} (h : KeepIs w S v kl) (hf : Fr w w' S S') : KeepIs w' S' v kl := by
  rcases h with h | ⟨ad, cap, h1, h0, h2, h3⟩
  · exact .inl h
  · have h5 : kl ≠ [] → ∀ h : Nat, ¬ S'.own ad.block := fun hz _ hx => by
      obtain ⟨hb, hn⟩ := h2 hz
      rcases hf.own' _ hx with h4 | h4
      · exact hn h4
      · omega
    refine .inr ⟨ad, cap, h1, h0, fun hz => ⟨Nat.lt_of_lt_of_le (h2 hz).1 hf.size, h5 hz 0⟩, fun j hj => ?_⟩
    have hz : kl ≠ [] := fun e => by rw [e] at hj; cases hj
    rw [World.cell?_of_block (hf.frm _ (by rw [add_block]; exact (h2 hz).1) (by rw [add_block]; exact (h2 hz).2))]
    exact h3 j hj
theorem fr73 (y : Nat → Value) : frameOf 73 y = List.toArray (y 0 :: y 1 :: y 2 :: y 3 :: y 4 :: y 5 :: y 6 :: y 7 :: y 8 :: y 9 :: y 10 :: y 11 :: y 12 :: y 13 :: y 14 :: y 15 :: y 16 :: y 17 :: y 18 :: y 19 :: y 20 :: y 21 :: y 22 :: y 23 :: y 24 :: y 25 :: y 26 :: y 27 :: y 28 :: y 29 :: y 30 :: y 31 :: y 32 :: y 33 :: y 34 :: y 35 :: y 36 :: y 37 :: y 38 :: y 39 :: y 40 :: y 41 :: y 42 :: y 43 :: y 44 :: y 45 :: y 46 :: y 47 :: y 48 :: y 49 :: y 50 :: y 51 :: y 52 :: y 53 :: y 54 :: y 55 :: y 56 :: y 57 :: y 58 :: y 59 :: y 60 :: y 61 :: y 62 :: y 63 :: y 64 :: y 65 :: y 66 :: y 67 :: y 68 :: y 69 :: y 70 :: y 71 :: y 72 :: []) := rfl
structure PC11 (w0 : World) (F : Nat) (Post : World → Prop) (L : Nat → Bool) (y : Nat → Value) (w : World) : Prop where
  a : L 6 = false → w = w0
  b : L 6 = true → L 10 = false → ∃ a n c, y 60 = .slice a n c ∧ w.frozen? ⟨F, 0, none⟩ = false ∧ (∃ v, w.cell? ⟨F, 0, none⟩ = some v) ∧ Hid (Post (w.setCell ⟨F, 0, none⟩ (.slice a n c)))
  c : L 10 = true → Post w
structure PC7 (w0 : World) (g : Nat) (Post : World → Prop) (L : Nat → Bool) (y : Nat → Value) (w : World) : Prop where
  a : L 6 = false → w = w0
  b : L 6 = true → L 10 = false → ∃ m, y 40 = .map m ∧ w.frozen? ⟨g, 1, none⟩ = false ∧ (∃ v, w.cell? ⟨g, 1, none⟩ = some v) ∧ Hid (Post (w.setCell ⟨g, 1, none⟩ (.map m)))
  c : L 10 = true → Post w
set_option maxHeartbeats 6400000 in
set_option maxRecDepth 100000 in
theorem Crash_ok {w : World} {S : Sh} {d : Dk} {c e : Nat} (h : At w S d c e) {kv : Value} (kl : List Bool) (hkv : KeepIs w S kv kl) (hc : c + d.wait.length < 1099511627776) (he : e ≤ 1099511627776) (hkl : kl.length ≤ 1099511627776) :
    Calls Try.prog 18 #[ptrV S.g, kv] w fun r w' => r = .returned (.tuple #[]) ∧ ∃ S', At w' S' (crashD d kl) (c + d.wait.length) e ∧ Fr w w' S S' := by
  have hq := cmp_ptr S.g w
  have HH := Lib.hid h
  have HKV := Lib.hid hkv
  obtain ⟨pa, pcap, hpe⟩ := own_sl h.pn.pend
  have HPE := Lib.hid hpe
  obtain ⟨n, hn⟩ : ∃ n, d.wait.length = n := ⟨_, rfl⟩
  have HN := Lib.hid hn
  have c3 : w.cell? ⟨S.g, 3, none⟩ = some (.slice pa n pcap) := by rw [← hn, ← hpe]; exact (ds_cells h.ds).2.2.2.1
  rw [hn] at hc
  have hni : (n : Int) < 1099511627776 := by omega
  have HC := Lib.hid hc
  obtain ⟨ka, kc, hke⟩ : ∃ a c, kv = .slice a kl.length c := by
    rcases hkv with ⟨e1, e2⟩ | ⟨ad, cap, e1, _⟩
    · exact ⟨none, 0, by rw [e1, e2]; rfl⟩
    · exact ⟨_, _, e1⟩
  have HKE := Lib.hid hke
  obtain ⟨m, hm⟩ : ∃ m, kl.length = m := ⟨_, rfl⟩
  have HM := Lib.hid hm
  have HST : Hid (CrI w S d c e (fun i _ => kl.getD i false) 0 w S d) := Lib.hid (CrI.start h.hd)
  rw [hke, hm]
  rw [hm] at hkl
  have hmi : (m : Int) ≤ 1099511627776 := by omega
  clear h hpe hn hc hkv hke hm
  have hsf : ∀ a fn f c w, (store a (.func fn f c)).run Try.prog w = stored Try.prog w a (.func fn f c) .plain := fun a fn f c w => run_store Try.prog w a _ _ rfl
  unfold ptrV at *
  go_enter Try.func18, Try.ntmps18
  go_wp2
  go_loopw [4, 5, 15] (fun _ _ i wr => ∃ k Si Di, k ≤ n ∧ i = .int .i64 k ∧ Hid (CrI w S d c e (fun i _ => kl.getD i false) k wr Si Di)) (fun _ _ i _ => n - (intOf i).toNat)
  case atStart => exact ⟨0, S, d, Nat.zero_le _, rfl, HST.out⟩
  case round =>
    obtain ⟨k, Si, Di, hkn, rfl, HS⟩ := hrel
    by_cases hlt : k < n
    · have hlti : (k : Int) < n := by omega
      have hp1 := HH.out.pn.mv HS.out.mv HS.out.wt
      have hrow := hp1.pend
      rw [HS.out.wt, HS.out.mv.pv, HS.out.mv.pc, HN.out] at hrow
      have hop := hp1.ops k (by rw [HS.out.wt, HN.out]; exact hlt)
      rw [HS.out.wt, HS.out.mv.pc] at hop
      obtain ⟨pb, cap9, e9, hcap9, q0, q1, hpb⟩ := settle_n (L := []) (S := S) hrow hlt
      rw [HPE.out, HN.out] at e9
      have hcapi : (k : Int) < cap9 := by omega
      injection e9 with e91 e92 e93
      subst e91
      subst e93
      obtain ⟨p, hp0⟩ := op_ptr hop
      rw [hp0] at q0 hop
      have hal := HS.out.alloc (.cells #[.pointer p, S.pc.getD (2 * k + 1) undef] 83)
      have hopA : OpAt (wr.alloc (.cells #[.pointer p, S.pc.getD (2 * k + 1) undef] 83)) Si e (d.wait.getD k do0) (.pointer p) (S.pc.getD (2 * k + 1) undef) := hop.grown HS.out.hd.sm (World.grownBy_alloc _ _ none) (fun _ h => by cases h)
      have HAL := Lib.hid hal
      have hkA := HKV.out.fr hal.mv.fr
      by_cases hkm : k < m
      · have hkmi : (k : Int) < m := by omega
        have hcellk : ∃ ad, ka = some ad ∧ m ≤ kc ∧ (wr.alloc (.cells #[.pointer p, S.pc.getD (2 * k + 1) undef] 83)).cell? (ad.add k) = some (.bool (kl.getD k false)) := by
          rcases hkA with ⟨e1, e2⟩ | ⟨ad, cap, e1, e2, _, e3⟩
          · have := HM.out; rw [e2] at this; simp at this; omega
          · rw [HKE.out] at e1
            injection e1 with e4 _ e5
            exact ⟨ad, e4, by have := HM.out; omega, e3 k (by have := HM.out; omega)⟩
        obtain ⟨ad, rfl, hmk, hck⟩ := hcellk
        have hkki : (k : Int) < kc := by omega
        cases hch : kl.getD k false with
        | true =>
          rw [hch] at hck
          have hact := act_ok hal.hd hopA true (by have := HC.out; unfold maxLen; omega) he
          have HY := Lib.hid (fun (w2 : World) (S2 : Sh) (m2 : Mv (wr.alloc (.cells #[.pointer p, S.pc.getD (2 * k + 1) undef] 83)) w2 Si S2) (h2 : Hd w2 S2 (actD true Di (d.wait.getD k do0)) (c + k + 1) e) => HAL.out.yes (by rw [HN.out]; exact hlt) hch m2 h2)
          clear hal hopA hop hrow hp1 HAL hch hkA
          generalize S.pc.getD (2 * k + 1) undef = fv at *
          generalize actD true Di (d.wait.getD k do0) = da at *
          simp only [if_true] at hact
          rcases hact with ⟨x, y, z, rfl, ha⟩ | ⟨x, y, z, rfl, ha⟩ | ⟨x, y, z, rfl, ha⟩ | ⟨x, y, rfl, ha⟩
          all_goals have HA := Lib.hid ha
          all_goals clear ha
          all_goals go_wp2_with fail
          all_goals refine HA.out.mono ?_
          all_goals rintro r w2 ⟨rfl, S2, m2, h2⟩
          all_goals have HX := Lib.hid (HY.out w2 S2 m2 h2)
          all_goals clear m2 h2 HY
          all_goals go_wp2
          all_goals go_roundw
          all_goals first
            | exact ⟨k + 1, S2, da, by omega, by go_num, HX.out⟩
            | (simp [intOf] <;> omega)
        | false =>
          rw [hch] at hck
          obtain ⟨fn, cs, hfn⟩ := op_fun hopA
          have HX := Lib.hid (HAL.out.skip (by rw [HN.out]; exact hlt) hch)
          clear hal hopA hop hrow hp1 HAL hch hkA
          generalize S.pc.getD (2 * k + 1) undef = fv at *
          subst hfn
          go_wp2
          go_roundw
          all_goals first
            | exact ⟨k + 1, Si, Di, by omega, by go_num, HX.out⟩
            | (simp [intOf] <;> omega)
      · have hkmi : ¬ (k : Int) < m := by omega
        have hch : kl.getD k false = false := by rw [List.getD_eq_getElem?_getD, List.getElem?_eq_none (by have := HM.out; omega)]; rfl
        obtain ⟨fn, cs, hfn⟩ := op_fun hopA
        have HX := Lib.hid (HAL.out.skip (by rw [HN.out]; exact hlt) hch)
        clear hal hopA hop hrow hp1 HAL hch hkA
        generalize S.pc.getD (2 * k + 1) undef = fv at *
        subst hfn
        go_wp2
        go_roundw
        all_goals first
          | exact ⟨k + 1, Si, Di, by omega, by go_num, HX.out⟩
          | (simp [intOf] <;> omega)
    · obtain rfl : k = n := by omega
      obtain ⟨hmv, hhd, rl, hrl⟩ := HS.out.done HN.out.symm
      have HM1 : Hid (wr.drew.cell? ⟨S.g, 2, none⟩ = some (.map Si.m1)) := Lib.hid (by rw [← hmv.g]; exact (ds_cells hhd.ds).2.2.1)
      have hst7 := mclone_step hhd
      rw [hmv.g] at hst7
      have HCL : Hid (Calls Try.prog 54 #[.map Si.m1] wr.drew fun r w1 => ∃ m, r = .returned (.map m) ∧ w1.frozen? ⟨S.g, 1, none⟩ = false ∧ (∃ v, w1.cell? ⟨S.g, 1, none⟩ = some v) ∧ Hid (∃ S2, Hd (w1.setCell ⟨S.g, 1, none⟩ (.map m)) S2 { Di with l := Di.s } (c + d.wait.length) e ∧ Fr w (w1.setCell ⟨S.g, 1, none⟩ (.map m)) S S2 ∧ S2.fl = Si.fl ∧ S2.live = S.live ∧ S2.left = S.left)) := Lib.hid (hst7.mono fun r w1 hr => by
        obtain ⟨m, a1, a2, a3, a4⟩ := hr
        obtain ⟨S2, b1, b2, b3, b4, b5, b6, b7⟩ := a4.out
        exact ⟨m, a1, a2, a3, Lib.hid ⟨S2, b1, hmv.fr.trans b2, b4, b5.trans hmv.live, b7.trans hmv.left⟩⟩)
      have HRL := Lib.hid hrl
      clear hst7 hmv hhd hrl
      go_upto_region 7 with fail
      refine wp_region_a (by kernel_rfl) 73 rfl [34, 35, 36, 37, 38, 39, 40, 41, 42, 43, 73] (fun _ _ => True) (factsOf [Is (.pointer (some ⟨S.g, 0, none⟩)), Is (.pointer (some ⟨S.g, 0, none⟩)), Is (.pointer (some ⟨S.g, 0, none⟩)), Is (.pointer (some ⟨S.g, 1, none⟩)), Is (.pointer (some ⟨S.g, 2, none⟩)), Is (.map Si.m1), AnyB, Is (.pointer (some ⟨S.g, 0, none⟩)), Is (.pointer (some ⟨S.g, 1, none⟩)), Is (.pointer (some ⟨S.g, 1, none⟩)), AnyB]) (JA [6, 10] [40] (PC7 wr.drew S.g (fun w9 => ∃ S2, Hd w9 S2 { Di with l := Di.s } (c + d.wait.length) e ∧ Fr w w9 S S2 ∧ S2.fl = Si.fl ∧ S2.live = S.live ∧ S2.left = S.left))) ?mono7 ?hj7 (by kernel_rfl) ?start7 ?steps7 ?fin7
      case mono7 => exact factsOf_monoR (monoR_cons (Is.monoR _ _) (monoR_cons (Is.monoR _ _) (monoR_cons (Is.monoR _ _) (monoR_cons (Is.monoR _ _) (monoR_cons (Is.monoR _ _) (monoR_cons (Is.monoR _ _) (monoR_cons (AnyB.monoR _) (monoR_cons (Is.monoR _ _) (monoR_cons (Is.monoR _ _) (monoR_cons (Is.monoR _ _) (monoR_cons (AnyB.monoR _) (monoR_nil _))))))))))))
      case hj7 => exact JA.congr (by decide)
      case start7 =>
        refine JA.of fun L' y' h1 h2 => ?_
        exact ⟨fun _ => rfl, (fun h => by rw [h1 6 (by decide)] at h; cases h), (fun h => by rw [h1 10 (by decide)] at h; cases h)⟩
      case fin7 =>
        intro y L w9 hJ hall hF hT
        have hP := hJ.out
        clear hJ hF
        have hpo := hP.c (hall 10 (by decide))
        obtain ⟨S2, hd2, fr2, _, _, _⟩ := hpo
        have t0 : y 0 = .pointer (some ⟨S.g, 0, none⟩) := hT 0 (by decide)
        rw [fr73, t0]
        clear hP hall hT t0
        obtain ⟨yo, hyo⟩ : ∃ yo, yo = y := ⟨_, rfl⟩
        subst hyo
        have c1 : w9.cell? ⟨S.g, 1, none⟩ = some (.map S2.m0) := by rw [← fr2.g]; exact (ds_cells hd2.ds).2.1
        have hmp : MapV w9 S2.m0 Di.s S2.fb (c + d.wait.length) := hd2.fs.mp0
        cases hm2 : S2.m0 with
        | none =>
          rw [hm2] at hmp c1
          have hl : Di.s = [] := hmp
          have hcb0 : CrB w S S2 Di (c + d.wait.length) e w9.heap.size (fun _ => false) (w9.alloc (.mapIter none 0 #[] 0)) S2 { Di with l := Di.s } := CrB.start hd2 fr2 (World.grownBy_alloc _ _ none) (fun x hx => by rw [hl] at hx; cases hx) (Nat.le_refl _) (by simp)
          have HE := Lib.hid (hcb0.fin (fun _ => rfl) HRL.out)
          have hd3 := hcb0.hd.ds.disk
          rw [hcb0.fr.g] at hd3
          have c3 := hd3.cell 3
          have c4 := hd3.cell 4
          have c5 := hd3.cell 5
          have f3 := hd3.frozen 3
          have f4 := hd3.frozen 4
          have f5 := hd3.frozen 5
          have HD3 := Lib.hid hd3
          clear hd3
          clear hmp hl hcb0 hd2 fr2 hm2
          have hrg := run_range_nilMap (P := Try.prog) w9 59 9 73 Try.underlying59
          have hnx : ∀ ty, (Instr.next (.pointer (some ⟨w9.heap.size, 0, none⟩)) false ty).run Try.prog (w9.alloc (.mapIter none 0 #[] 0)) = _ := fun ty => run_next_nilMap w9 ty 0 0 #[]
          go_wp2
          refine wp_loop_rounds 1 ?_
          rw [rounds_succ]
          go_upto_region 12 with fail
          clear hq hsf hni hkn hlt hrg hnx c1 hmi hkl he
          go_wp2
          go_end0
          exact ⟨rfl, HE.out⟩
        | some b =>
          rw [hm2] at hmp c1
          obtain ⟨D, n, hn, hown, hi⟩ := hmp
          have HI := Lib.hid hi
          have HD2 := Lib.hid hd2
          have HF2 := Lib.hid fr2
          have HM2' := Lib.hid hm2
          clear hi hd2 fr2 hm2 hn
          obtain ⟨w9a, hw9a⟩ : ∃ w9a, w9a = w9 := ⟨_, rfl⟩
          subst hw9a
          go_wp2_with (first | (at_range; refine wpList_range_own _ rfl _ 59 rfl 9 73 law_str Try.underlying59 _ b n D rfl hown ?_; intro w0 hrg0 hg0 hs0) | go_in)
          go_frame
          have HC0 : Hid (CrB w S S2 Di (c + d.wait.length) e w9a.heap.size (fun k => Maps.has D k) w0 S2 { Di with l := Di.s }) := Lib.hid (CrB.start HD2.out HF2.out hg0 (fun x hx => by
            have := (HI.out x.n).1
            rw [this, find_nd HD2.out.fs.nd1 hx]; rfl) (Nat.le_refl _) hrg0.lt)
          go_loopw [7] (fun _ wr => ∃ (left : Lit → Bool) (cnt : Nat) (Sk : Sh) (Dj : Dk), wr.ranges Try.prog 9 ptrR b w9a.heap.size n D left cnt ∧ Hid (CrB w S S2 Di (c + d.wait.length) e w9a.heap.size left wr Sk Dj)) (fun _ wr => wr.rangeLeft b w9a.heap.size)
          case atStart => exact ⟨_, _, S2, { Di with l := Di.s }, hrg0, HC0⟩
          case round =>
            obtain ⟨left, cnt, Sk, Dj, hrg, HCB⟩ := hrel
            have HRG := Lib.hid hrg
            go_wp2_with (first
              | (at_next; refine wpList_next_ranges _ rfl _ rfl 9 law_str ptrR Value.string mkP (fun key kl hk => Maps.keyOf_string_inv Try.underlying9 hk) inv_ptr b w9a.heap.size n D _ _ rfl HRG.out ?_ ?_)
              | go_in)
            · intro hc0 hl0
              have HE := Lib.hid (HCB.out.fin hl0 HRL.out)
              have hd3 := HCB.out.hd.ds.disk
              rw [HCB.out.fr.g] at hd3
              have c3 := hd3.cell 3
              have c4 := hd3.cell 4
              have c5 := hd3.cell 5
              have f3 := hd3.frozen 3
              have f4 := hd3.frozen 4
              have f5 := hd3.frozen 5
              clear hd3 hrg hrg0 hg0 hs0 hown
              go_upto_region 12 with fail
              clear hq hsf hni hkn hlt c1 hmi hkl he hl0 hc0
              go_wp2
              go_end0
              exact ⟨rfl, HE.out⟩
            · intro x cc kl y1 y2 w1 cnt1 hkx hlx hvy hat hrg1 hlt hg1 hs1 hen
              obtain ⟨rfl, f, hf, hcv⟩ := entry_is HI.out hkx hvy hat
              have hcb1 := HCB.out.turn hg1 (fun k hk => by injection hk with hk; exact hk.symm)
              have hst := hcb1.step he hf hrg1
              have hlf := hcb1.file hf
              have hcell : w1.drew.cell? ⟨Sk.fb f, 1, none⟩ = some (Sk.row f true) := (hcb1.hd.fs.file f hlf).cell 1
              obtain ⟨ra, rcap, hre⟩ := own_sl (hcb1.hd.fs.row f true hlf)
              obtain ⟨rn, hrn⟩ : ∃ rn, (Dj.of f true).length = rn := ⟨_, rfl⟩
              rw [hre, hrn] at hst hcell
              rw [hcb1.fb] at hcell
              obtain ⟨F, hF⟩ : ∃ F, S2.fb f = F := ⟨_, rfl⟩
              rw [hF] at hst hcell hcv
              have HM2 := Lib.hid hcell
              have HCL := Lib.hid hst
              have HLT := Lib.hid hlt
              rw [hcv] at hen ⊢
              clear hst hcell hrg1 hg1 hs1 hkx hvy hat hlt hrg hf hlf hre hcv hcb1 hF hrn hrg0 hg0 hs0 hown
              go_upto_region 11 with fail
              refine wp_region_a (by kernel_rfl) 73 rfl [54, 55, 56, 57, 58, 59, 60, 61, 62, 63, 73] (fun _ _ => True) (factsOf [Is (.pointer (some ⟨F, 0, none⟩)), Is (.pointer (some ⟨F, 0, none⟩)), Is (.pointer (some ⟨F, 0, none⟩)), Is (.pointer (some ⟨F, 0, none⟩)), Is (.pointer (some ⟨F, 1, none⟩)), Is (.slice ra rn rcap), AnyB, Is (.pointer (some ⟨F, 0, none⟩)), Is (.pointer (some ⟨F, 0, none⟩)), Is (.pointer (some ⟨F, 0, none⟩)), AnyB]) (JA [6, 10] [60] (PC11 w1.drew F (fun wz => ∃ Sk' Dj', wz.ranges Try.prog 9 ptrR b w9a.heap.size n D (fun z => left z && !z.sameKey (keyS x)) cnt1 ∧ CrB w S S2 Di (c + d.wait.length) e w9a.heap.size (fun z => left z && !z.sameKey (keyS x)) wz Sk' Dj'))) ?mono11 ?hj11 (by kernel_rfl) ?start11 ?steps11 ?fin11
              case mono11 => exact factsOf_monoR (monoR_cons (Is.monoR _ _) (monoR_cons (Is.monoR _ _) (monoR_cons (Is.monoR _ _) (monoR_cons (Is.monoR _ _) (monoR_cons (Is.monoR _ _) (monoR_cons (Is.monoR _ _) (monoR_cons (AnyB.monoR _) (monoR_cons (Is.monoR _ _) (monoR_cons (Is.monoR _ _) (monoR_cons (Is.monoR _ _) (monoR_cons (AnyB.monoR _) (monoR_nil _))))))))))))
              case hj11 => exact JA.congr (by decide)
              case start11 =>
                refine JA.of fun L' y' h1 h2 => ?_
                exact ⟨fun _ => rfl, (fun h => by rw [h1 6 (by decide)] at h; cases h), (fun h => by rw [h1 10 (by decide)] at h; cases h)⟩
              case fin11 =>
                intro y L w9 hJ hall hF hT
                have hP := hJ.out
                clear hJ hF
                obtain ⟨Sk2, Dj2, hr2, hc2⟩ := hP.c (hall 10 (by decide))
                have t0 : y 0 = .pointer (some ⟨S.g, 0, none⟩) := hT 0 (by decide)
                have t49 : y 49 = .pointer (some ⟨w9a.heap.size, 0, none⟩) := hT 49 (by decide)
                have HR2 := Lib.hid hr2
                have HC2 := Lib.hid hc2
                clear hP hall hr2 hc2
                have t1 : y 1 = yo 1 := hT 1 (by decide)
                have t2 : y 2 = yo 2 := hT 2 (by decide)
                have t3 : y 3 = yo 3 := hT 3 (by decide)
                have t4 : y 4 = yo 4 := hT 4 (by decide)
                have t5 : y 5 = yo 5 := hT 5 (by decide)
                have t6 : y 6 = yo 6 := hT 6 (by decide)
                have t8 : y 8 = yo 8 := hT 8 (by decide)
                have t9 : y 9 = yo 9 := hT 9 (by decide)
                have t10 : y 10 = yo 10 := hT 10 (by decide)
                have t11 : y 11 = yo 11 := hT 11 (by decide)
                have t12 : y 12 = yo 12 := hT 12 (by decide)
                have t13 : y 13 = yo 13 := hT 13 (by decide)
                have t14 : y 14 = yo 14 := hT 14 (by decide)
                have t15 : y 15 = yo 15 := hT 15 (by decide)
                have t16 : y 16 = yo 16 := hT 16 (by decide)
                have t17 : y 17 = yo 17 := hT 17 (by decide)
                have t18 : y 18 = yo 18 := hT 18 (by decide)
                have t19 : y 19 = yo 19 := hT 19 (by decide)
                have t20 : y 20 = yo 20 := hT 20 (by decide)
                have t21 : y 21 = yo 21 := hT 21 (by decide)
                have t22 : y 22 = yo 22 := hT 22 (by decide)
                have t23 : y 23 = yo 23 := hT 23 (by decide)
                have t24 : y 24 = yo 24 := hT 24 (by decide)
                have t25 : y 25 = yo 25 := hT 25 (by decide)
                have t26 : y 26 = yo 26 := hT 26 (by decide)
                have t27 : y 27 = yo 27 := hT 27 (by decide)
                have t28 : y 28 = yo 28 := hT 28 (by decide)
                have t29 : y 29 = yo 29 := hT 29 (by decide)
                have t30 : y 30 = yo 30 := hT 30 (by decide)
                have t31 : y 31 = yo 31 := hT 31 (by decide)
                have t32 : y 32 = yo 32 := hT 32 (by decide)
                have t33 : y 33 = yo 33 := hT 33 (by decide)
                have t34 : y 34 = yo 34 := hT 34 (by decide)
                have t35 : y 35 = yo 35 := hT 35 (by decide)
                have t36 : y 36 = yo 36 := hT 36 (by decide)
                have t37 : y 37 = yo 37 := hT 37 (by decide)
                have t38 : y 38 = yo 38 := hT 38 (by decide)
                have t39 : y 39 = yo 39 := hT 39 (by decide)
                have t40 : y 40 = yo 40 := hT 40 (by decide)
                have t41 : y 41 = yo 41 := hT 41 (by decide)
                have t42 : y 42 = yo 42 := hT 42 (by decide)
                have t43 : y 43 = yo 43 := hT 43 (by decide)
                have t64 : y 64 = yo 64 := hT 64 (by decide)
                have t65 : y 65 = yo 65 := hT 65 (by decide)
                have t66 : y 66 = yo 66 := hT 66 (by decide)
                have t67 : y 67 = yo 67 := hT 67 (by decide)
                have t68 : y 68 = yo 68 := hT 68 (by decide)
                have t69 : y 69 = yo 69 := hT 69 (by decide)
                have t70 : y 70 = yo 70 := hT 70 (by decide)
                have t71 : y 71 = yo 71 := hT 71 (by decide)
                have t72 : y 72 = yo 72 := hT 72 (by decide)
                have t44 : y 44 = .pointer (some ⟨S.g, 0, none⟩) := hT 44 (by decide)
                have t45 : y 45 = .pointer (some ⟨S.g, 0, none⟩) := hT 45 (by decide)
                have t46 : y 46 = .pointer (some ⟨S.g, 1, none⟩) := hT 46 (by decide)
                have t47 : y 47 = .pointer (some ⟨S.g, 1, none⟩) := hT 47 (by decide)
                have t48 : y 48 = .map (some b) := hT 48 (by decide)
                rw [fr73, t0, t49, t1, t2, t3, t4, t5, t6, t8, t9, t10, t11, t12, t13, t14, t15, t16, t17, t18, t19, t20, t21, t22, t23, t24, t25, t26, t27, t28, t29, t30, t31, t32, t33, t34, t35, t36, t37, t38, t39, t40, t41, t42, t43, t64, t65, t66, t67, t68, t69, t70, t71, t72, t44, t45, t46, t47, t48]
                clear hT t0 t49 t1 t2 t3 t4 t5 t6 t8 t9 t10 t11 t12 t13 t14 t15 t16 t17 t18 t19 t20 t21 t22 t23 t24 t25 t26 t27 t28 t29 t30 t31 t32 t33 t34 t35 t36 t37 t38 t39 t40 t41 t42 t43 t64 t65 t66 t67 t68 t69 t70 t71 t72 t44 t45 t46 t47 t48
                go_roundw
                case rel => exact ⟨_, _, _, _, _, _, _, _, _, _, _, _, _, _, _, ⟨_, cnt1, Sk2, Dj2, HR2.out, HC2⟩, rfl⟩
                case measure => rw [HR2.out.left_eq, HRG.out.left_eq]; exact HLT.out
              case steps11 =>
                refine ⟨?_, ?_, ?_, ?_, ?_, ?_, ?_, ?_, ?_, ?_, ?_, trivial⟩
                all_goals intro L y w9 hJ hL hy0 hp0 hcl hun
                all_goals have hy := Lib.hid hy0
                all_goals have hp := Lib.hid hp0
                all_goals have HJ := Lib.hid hJ
                all_goals have HP := Lib.hid hJ.out
                all_goals have hU := Lib.hid hun
                all_goals clear hy0 hp0 hun hJ
                · have e1 : y 7 = .pointer (some ⟨F, 0, none⟩) := hy.out 7 (by decide)
                  intro K Q hK
                  clear hcl hL
                  have v1 := (eval_frame 73 y [] (t := 7) (by decide)).trans e1
                  obtain ⟨A, hA⟩ : ∃ A, (⟨frameOf 73 y, []⟩ : Act) = A := ⟨_, rfl⟩
                  rw [hA] at v1 hK ⊢
                  clear hA hy hp
                  simp only [Act.eval] at v1
                  go_simp
                  exact hK _ _ ⟨trivial, fun _ => rfl, HJ.out.pure (by decide) (by decide)⟩
                · have e1 : y 7 = .pointer (some ⟨F, 0, none⟩) := hy.out 7 (by decide)
                  intro K Q hK
                  clear hcl hL
                  have v1 := (eval_frame 73 y [] (t := 7) (by decide)).trans e1
                  obtain ⟨A, hA⟩ : ∃ A, (⟨frameOf 73 y, []⟩ : Act) = A := ⟨_, rfl⟩
                  rw [hA] at v1 hK ⊢
                  clear hA hy hp
                  simp only [Act.eval] at v1
                  go_simp
                  exact hK _ _ ⟨trivial, fun _ => rfl, HJ.out.pure (by decide) (by decide)⟩
                · have e1 : y 55 = .pointer (some ⟨F, 0, none⟩) := (hp.out 1 (by decide)).2 (by decide)
                  intro K Q hK
                  clear hcl hL
                  have v1 := (eval_frame 73 y [] (t := 55) (by decide)).trans e1
                  obtain ⟨A, hA⟩ : ∃ A, (⟨frameOf 73 y, []⟩ : Act) = A := ⟨_, rfl⟩
                  rw [hA] at v1 hK ⊢
                  clear hA hy hp
                  simp only [Act.eval] at v1
                  go_simp
                  exact hK _ _ ⟨trivial, fun _ => rfl, HJ.out.pure (by decide) (by decide)⟩
                · have e1 : y 56 = .pointer (some ⟨F, 0, none⟩) := (hp.out 2 (by decide)).2 (by decide)
                  intro K Q hK
                  clear hcl hL
                  have v1 := (eval_frame 73 y [] (t := 56) (by decide)).trans e1
                  obtain ⟨A, hA⟩ : ∃ A, (⟨frameOf 73 y, []⟩ : Act) = A := ⟨_, rfl⟩
                  rw [hA] at v1 hK ⊢
                  clear hA hy hp
                  simp only [Act.eval] at v1
                  go_simp
                  exact hK _ _ ⟨trivial, fun _ => rfl, HJ.out.pure (by decide) (by decide)⟩
                · have e1 : y 57 = .pointer (some ⟨F, 0, none⟩) := (hp.out 3 (by decide)).2 (by decide)
                  intro K Q hK
                  clear hcl hL
                  have v1 := (eval_frame 73 y [] (t := 57) (by decide)).trans e1
                  obtain ⟨A, hA⟩ : ∃ A, (⟨frameOf 73 y, []⟩ : Act) = A := ⟨_, rfl⟩
                  rw [hA] at v1 hK ⊢
                  clear hA hy hp
                  simp only [Act.eval] at v1
                  go_simp
                  exact hK _ _ ⟨trivial, fun _ => rfl, HJ.out.pure (by decide) (by decide)⟩
                · have e1 : y 58 = .pointer (some ⟨F, 1, none⟩) := (hp.out 4 (by decide)).2 (by decide)
                  have hN6 : L 6 = false := by
                    cases h : L 6 with
                    | false => rfl
                    | true => have := (hcl 6 _ rfl h 5 (by decide)); rw [hL] at this; cases this
                  have q1 : w9.cell? ⟨F, 1, none⟩ = some (.slice ra rn rcap) := ((fun (_ : Nat) => (by rw [HP.out.a hN6]; exact HM2.out : w9.cell? ⟨F, 1, none⟩ = some (.slice ra rn rcap))) 1)
                  intro K Q hK
                  clear hcl hL
                  have v1 := (eval_frame 73 y [] (t := 58) (by decide)).trans e1
                  obtain ⟨A, hA⟩ : ∃ A, (⟨frameOf 73 y, []⟩ : Act) = A := ⟨_, rfl⟩
                  rw [hA] at v1 hK ⊢
                  clear hA hy hp
                  simp only [Act.eval] at v1
                  go_simp
                  exact hK _ _ ⟨trivial, fun _ => rfl, HJ.out.pure (by decide) (by decide)⟩
                · have e1 : y 59 = .slice ra rn rcap := (hp.out 5 (by decide)).2 (by decide)
                  have hN6 : L 6 = false := hL
                  have hN10 : L 10 = false := by
                    cases h : L 10 with
                    | false => rfl
                    | true => have := (hcl 10 _ rfl h 6 (by decide)); rw [hL] at this; cases this
                  obtain rfl := HP.out.a hN6
                  intro K Q hK
                  clear hcl hL
                  have v1 := (eval_frame 73 y [] (t := 59) (by decide)).trans e1
                  obtain ⟨A, hA⟩ : ∃ A, (⟨frameOf 73 y, []⟩ : Act) = A := ⟨_, rfl⟩
                  rw [hA] at v1 hK ⊢
                  clear hA hy hp
                  simp only [Act.eval] at v1
                  go_simp
                  refine HCL.out.mono ?_
                  rintro r w1 ⟨a7, n7, c7, rfl, f7, v7, k7⟩
                  exact hK _ _ ⟨trivial, fun _ => trivial, JA.step fun L' y' h1 h2 h3 h4 => ⟨(fun h => by rw [h2 (by decide)] at h; cases h), fun _ _ => ⟨a7, n7, c7, h4 (by decide), f7, v7, k7⟩, (fun h => by rw [h1 10 (by decide) (by decide), hN10] at h; cases h)⟩⟩
                · have e1 : y 54 = .pointer (some ⟨F, 0, none⟩) := (hp.out 0 (by decide)).2 (by decide)
                  intro K Q hK
                  clear hcl hL
                  have v1 := (eval_frame 73 y [] (t := 54) (by decide)).trans e1
                  obtain ⟨A, hA⟩ : ∃ A, (⟨frameOf 73 y, []⟩ : Act) = A := ⟨_, rfl⟩
                  rw [hA] at v1 hK ⊢
                  clear hA hy hp
                  simp only [Act.eval] at v1
                  go_simp
                  exact hK _ _ ⟨trivial, fun _ => rfl, HJ.out.pure (by decide) (by decide)⟩
                · have e1 : y 61 = .pointer (some ⟨F, 0, none⟩) := (hp.out 7 (by decide)).2 (by decide)
                  intro K Q hK
                  clear hcl hL
                  have v1 := (eval_frame 73 y [] (t := 61) (by decide)).trans e1
                  obtain ⟨A, hA⟩ : ∃ A, (⟨frameOf 73 y, []⟩ : Act) = A := ⟨_, rfl⟩
                  rw [hA] at v1 hK ⊢
                  clear hA hy hp
                  simp only [Act.eval] at v1
                  go_simp
                  exact hK _ _ ⟨trivial, fun _ => rfl, HJ.out.pure (by decide) (by decide)⟩
                · have e1 : y 62 = .pointer (some ⟨F, 0, none⟩) := (hp.out 8 (by decide)).2 (by decide)
                  intro K Q hK
                  clear hcl hL
                  have v1 := (eval_frame 73 y [] (t := 62) (by decide)).trans e1
                  obtain ⟨A, hA⟩ : ∃ A, (⟨frameOf 73 y, []⟩ : Act) = A := ⟨_, rfl⟩
                  rw [hA] at v1 hK ⊢
                  clear hA hy hp
                  simp only [Act.eval] at v1
                  go_simp
                  exact hK _ _ ⟨trivial, fun _ => rfl, HJ.out.pure (by decide) (by decide)⟩
                · have e1 : y 63 = .pointer (some ⟨F, 0, none⟩) := (hp.out 9 (by decide)).2 (by decide)
                  have hL6 : L 6 = true := (hp.out 6 (by decide)).1
                  obtain ⟨a7, n7, c7, e2, f7, ⟨v7, k7⟩, hpost⟩ := HP.out.b hL6 hL
                  have hN10 : L 10 = false := hL
                  intro K Q hK
                  clear hcl hL
                  have v1 := (eval_frame 73 y [] (t := 63) (by decide)).trans e1
                  have v2 := (eval_frame 73 y [] (t := 60) (by decide)).trans e2
                  obtain ⟨A, hA⟩ : ∃ A, (⟨frameOf 73 y, []⟩ : Act) = A := ⟨_, rfl⟩
                  rw [hA] at v1 v2 hK ⊢
                  clear hA hy hp
                  simp only [Act.eval] at v1 v2
                  go_simp
                  exact hK undef _ ⟨trivial, fun h => absurd h (by decide), JA.step fun L' y' h1 h2 h3 h4 => ⟨(fun h => by rw [h1 6 (by decide) (by decide), hL6] at h; cases h), (fun _ h => by rw [h2 (by decide)] at h; cases h), fun _ => hpost.out⟩⟩
      case steps7 =>
        refine ⟨?_, ?_, ?_, ?_, ?_, ?_, ?_, ?_, ?_, ?_, ?_, trivial⟩
        all_goals intro L y w9 hJ hL hy0 hp0 hcl hun
        all_goals have hy := Lib.hid hy0
        all_goals have hp := Lib.hid hp0
        all_goals have HJ := Lib.hid hJ
        all_goals have HP := Lib.hid hJ.out
        all_goals have hU := Lib.hid hun
        all_goals clear hy0 hp0 hun hJ
        · have e1 : y 0 = .pointer (some ⟨S.g, 0, none⟩) := hy.out 0 (by decide)
          intro K Q hK
          clear hcl hL
          have v1 := (eval_frame 73 y [] (t := 0) (by decide)).trans e1
          obtain ⟨A, hA⟩ : ∃ A, (⟨frameOf 73 y, []⟩ : Act) = A := ⟨_, rfl⟩
          rw [hA] at v1 hK ⊢
          clear hA hy hp
          simp only [Act.eval] at v1
          go_simp
          exact hK _ _ ⟨trivial, fun _ => rfl, HJ.out.pure (by decide) (by decide)⟩
        · have e1 : y 0 = .pointer (some ⟨S.g, 0, none⟩) := hy.out 0 (by decide)
          intro K Q hK
          clear hcl hL
          have v1 := (eval_frame 73 y [] (t := 0) (by decide)).trans e1
          obtain ⟨A, hA⟩ : ∃ A, (⟨frameOf 73 y, []⟩ : Act) = A := ⟨_, rfl⟩
          rw [hA] at v1 hK ⊢
          clear hA hy hp
          simp only [Act.eval] at v1
          go_simp
          exact hK _ _ ⟨trivial, fun _ => rfl, HJ.out.pure (by decide) (by decide)⟩
        · have e1 : y 35 = .pointer (some ⟨S.g, 0, none⟩) := (hp.out 1 (by decide)).2 (by decide)
          intro K Q hK
          clear hcl hL
          have v1 := (eval_frame 73 y [] (t := 35) (by decide)).trans e1
          obtain ⟨A, hA⟩ : ∃ A, (⟨frameOf 73 y, []⟩ : Act) = A := ⟨_, rfl⟩
          rw [hA] at v1 hK ⊢
          clear hA hy hp
          simp only [Act.eval] at v1
          go_simp
          exact hK _ _ ⟨trivial, fun _ => rfl, HJ.out.pure (by decide) (by decide)⟩
        · have e1 : y 36 = .pointer (some ⟨S.g, 0, none⟩) := (hp.out 2 (by decide)).2 (by decide)
          intro K Q hK
          clear hcl hL
          have v1 := (eval_frame 73 y [] (t := 36) (by decide)).trans e1
          obtain ⟨A, hA⟩ : ∃ A, (⟨frameOf 73 y, []⟩ : Act) = A := ⟨_, rfl⟩
          rw [hA] at v1 hK ⊢
          clear hA hy hp
          simp only [Act.eval] at v1
          go_simp
          exact hK _ _ ⟨trivial, fun _ => rfl, HJ.out.pure (by decide) (by decide)⟩
        · have e1 : y 37 = .pointer (some ⟨S.g, 1, none⟩) := (hp.out 3 (by decide)).2 (by decide)
          intro K Q hK
          clear hcl hL
          have v1 := (eval_frame 73 y [] (t := 37) (by decide)).trans e1
          obtain ⟨A, hA⟩ : ∃ A, (⟨frameOf 73 y, []⟩ : Act) = A := ⟨_, rfl⟩
          rw [hA] at v1 hK ⊢
          clear hA hy hp
          simp only [Act.eval] at v1
          go_simp
          exact hK _ _ ⟨trivial, fun _ => rfl, HJ.out.pure (by decide) (by decide)⟩
        · have e1 : y 38 = .pointer (some ⟨S.g, 2, none⟩) := (hp.out 4 (by decide)).2 (by decide)
          have hN6 : L 6 = false := by
            cases h : L 6 with
            | false => rfl
            | true => have := (hcl 6 _ rfl h 5 (by decide)); rw [hL] at this; cases this
          have q2 : w9.cell? ⟨S.g, 2, none⟩ = some (.map Si.m1) := ((fun (_ : Nat) => (by rw [HP.out.a hN6]; exact HM1.out : w9.cell? ⟨S.g, 2, none⟩ = some (.map Si.m1))) 2)
          intro K Q hK
          clear hcl hL
          have v1 := (eval_frame 73 y [] (t := 38) (by decide)).trans e1
          obtain ⟨A, hA⟩ : ∃ A, (⟨frameOf 73 y, []⟩ : Act) = A := ⟨_, rfl⟩
          rw [hA] at v1 hK ⊢
          clear hA hy hp
          simp only [Act.eval] at v1
          go_simp
          exact hK _ _ ⟨trivial, fun _ => rfl, HJ.out.pure (by decide) (by decide)⟩
        · have e1 : y 39 = .map Si.m1 := (hp.out 5 (by decide)).2 (by decide)
          have hN6 : L 6 = false := hL
          have hN10 : L 10 = false := by
            cases h : L 10 with
            | false => rfl
            | true => have := (hcl 10 _ rfl h 6 (by decide)); rw [hL] at this; cases this
          obtain rfl := HP.out.a hN6
          intro K Q hK
          clear hcl hL
          have v1 := (eval_frame 73 y [] (t := 39) (by decide)).trans e1
          obtain ⟨A, hA⟩ : ∃ A, (⟨frameOf 73 y, []⟩ : Act) = A := ⟨_, rfl⟩
          rw [hA] at v1 hK ⊢
          clear hA hy hp
          simp only [Act.eval] at v1
          go_simp
          refine HCL.out.mono ?_
          rintro r w1 ⟨m7, rfl, f7, v7, k7⟩
          exact hK _ _ ⟨trivial, fun _ => trivial, JA.step fun L' y' h1 h2 h3 h4 => ⟨(fun h => by rw [h2 (by decide)] at h; cases h), fun _ _ => ⟨m7, h4 (by decide), f7, v7, k7⟩, (fun h => by rw [h1 10 (by decide) (by decide), hN10] at h; cases h)⟩⟩
        · have e1 : y 34 = .pointer (some ⟨S.g, 0, none⟩) := (hp.out 0 (by decide)).2 (by decide)
          intro K Q hK
          clear hcl hL
          have v1 := (eval_frame 73 y [] (t := 34) (by decide)).trans e1
          obtain ⟨A, hA⟩ : ∃ A, (⟨frameOf 73 y, []⟩ : Act) = A := ⟨_, rfl⟩
          rw [hA] at v1 hK ⊢
          clear hA hy hp
          simp only [Act.eval] at v1
          go_simp
          exact hK _ _ ⟨trivial, fun _ => rfl, HJ.out.pure (by decide) (by decide)⟩
        · have e1 : y 41 = .pointer (some ⟨S.g, 0, none⟩) := (hp.out 7 (by decide)).2 (by decide)
          intro K Q hK
          clear hcl hL
          have v1 := (eval_frame 73 y [] (t := 41) (by decide)).trans e1
          obtain ⟨A, hA⟩ : ∃ A, (⟨frameOf 73 y, []⟩ : Act) = A := ⟨_, rfl⟩
          rw [hA] at v1 hK ⊢
          clear hA hy hp
          simp only [Act.eval] at v1
          go_simp
          exact hK _ _ ⟨trivial, fun _ => rfl, HJ.out.pure (by decide) (by decide)⟩
        · have e1 : y 42 = .pointer (some ⟨S.g, 1, none⟩) := (hp.out 8 (by decide)).2 (by decide)
          intro K Q hK
          clear hcl hL
          have v1 := (eval_frame 73 y [] (t := 42) (by decide)).trans e1
          obtain ⟨A, hA⟩ : ∃ A, (⟨frameOf 73 y, []⟩ : Act) = A := ⟨_, rfl⟩
          rw [hA] at v1 hK ⊢
          clear hA hy hp
          simp only [Act.eval] at v1
          go_simp
          exact hK _ _ ⟨trivial, fun _ => rfl, HJ.out.pure (by decide) (by decide)⟩
        · have e1 : y 43 = .pointer (some ⟨S.g, 1, none⟩) := (hp.out 9 (by decide)).2 (by decide)
          have hL6 : L 6 = true := (hp.out 6 (by decide)).1
          obtain ⟨m7, e2, f7, ⟨v7, k7⟩, hpost⟩ := HP.out.b hL6 hL
          have hN10 : L 10 = false := hL
          intro K Q hK
          clear hcl hL
          have v1 := (eval_frame 73 y [] (t := 43) (by decide)).trans e1
          have v2 := (eval_frame 73 y [] (t := 40) (by decide)).trans e2
          obtain ⟨A, hA⟩ : ∃ A, (⟨frameOf 73 y, []⟩ : Act) = A := ⟨_, rfl⟩
          rw [hA] at v1 v2 hK ⊢
          clear hA hy hp
          simp only [Act.eval] at v1 v2
          go_simp
          exact hK undef _ ⟨trivial, fun h => absurd h (by decide), JA.step fun L' y' h1 h2 h3 h4 => ⟨(fun h => by rw [h1 6 (by decide) (by decide), hL6] at h; cases h), (fun _ h => by rw [h2 (by decide)] at h; cases h), fun _ => hpost.out⟩⟩
end Go.Proofs.Ythogdieplfpopaa
