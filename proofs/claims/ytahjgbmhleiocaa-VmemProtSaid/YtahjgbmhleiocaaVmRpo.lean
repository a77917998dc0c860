/-
  What is proved here: the reference's Poke.
  Conditions: none but that the arguments are values of their types, and at most 2^18 bytes.
-/
import Derived.Test.YtahjgbmhleiocaaVmRm
import Derived.Test.YtahjgbmhleiocaaVmKp
import Derived.Test.YtahjgbmhleiocaaFWords
import Derived.Lib.AppendStr
namespace Go.Proofs.Ytahjgbmhleiocaa
open Go.RowKit Go.WideMaps Go.Maps
set_option linter.unusedVariables false
set_option linter.unusedSimpArgs false

theorem laid_step {zs bs : List Int} {o j : Nat} (h : o + bs.length ≤ zs.length) (hj : j < bs.length) : (laidB zs o (bs.take j)).set (o + j) (bs.getD j 0) = laidB zs o (bs.take (j + 1)) := by
  have h1 : (bs.take j).length = j := by rw [List.length_take]; omega
  have h2 : (bs.take (j + 1)).length = j + 1 := by rw [List.length_take]; omega
  have e1 : (laidB zs o (bs.take j)).length = zs.length := laidB_len (by omega)
  have e2 : (laidB zs o (bs.take (j + 1))).length = zs.length := laidB_len (by omega)
  refine List.ext_getElem (by rw [List.length_set, e1, e2]) fun i hi1 hi2 => ?_
  have hiz : i < zs.length := by rw [e2] at hi2; exact hi2
  have a1 := laid_get (zs := zs) (bs := bs.take j) (o := o) (by omega) hiz
  have a2 := laid_get (zs := zs) (bs := bs.take (j + 1)) (o := o) (by omega) hiz
  rw [List.getD_eq_getElem?_getD, List.getElem?_eq_getElem hi2, h2] at a2
  rw [List.getD_eq_getElem?_getD, List.getElem?_eq_getElem (by rw [e1]; exact hiz), h1] at a1
  simp only [Option.getD_some] at a1 a2
  rw [List.getElem_set, a2]
  by_cases e : o + j = i
  · rw [if_pos e, if_pos (by omega), show i - o = j by omega, List.getD_eq_getElem?_getD, List.getD_eq_getElem?_getD, List.getElem?_take_of_lt (by omega)]
  · rw [if_neg e, a1]
    by_cases h3 : o ≤ i ∧ i < o + j
    · rw [if_pos h3, if_pos (by omega), List.getD_eq_getElem?_getD, List.getD_eq_getElem?_getD, List.getElem?_take_of_lt (by omega), List.getElem?_take_of_lt (by omega)]
    · rw [if_neg h3, if_neg (by omega)]
theorem own_r8 {w : World} {base n : Nat} {v : Value} {xs : List Value} (h : w.ownsRow base 5 1 v n xs) (hn : 0 < n) : ∃ g c, v = .slice (some ⟨g, 0, none⟩) n c ∧ base ≤ g ∧ (n : Int) ≤ c ∧ (c : Int) ≤ 9223372036854775807 := by
  rcases h with ⟨hl, ⟨_, e0⟩ | ⟨g, cap, cur, hv, hg, _, h1, h2, _⟩⟩
  · omega
  · exact ⟨g, cap, hv, hg, by omega, by unfold maxLen at h2; omega⟩
theorem laid_none {zs : List Int} {o : Nat} (bs : List Int) : laidB zs o (bs.take 0) = zs := by
  unfold laidB
  simp
theorem poke_round {d : Bool} {N : List Pg} {x k : Nat} {zs : List Int} {p : Pg} (hn : (N.map (·.a)).Nodup) (hf : findP N ((x + k) / 256 * 256) = some p) (hk : k < zs.length) {m : Nat} (hm : m = min (zs.length - k) (256 - (x + k) % 256)) :
    pokeW d N (x + k) (zs.drop k) = pokeW d (withP N (putD d ((x + k) % 256) ((zs.drop k).take m) p)) (x + (k + m)) (zs.drop (k + m)) ∧ withP N (putD d ((x + k) % 256) ((zs.drop k).take m) p) = updP N ((x + k) / 256 * 256) (putD d ((x + k) % 256) ((zs.drop k).take m)) := by
  have hl : (zs.drop k).length = zs.length - k := List.length_drop ..
  have hw : withP N (putD d ((x + k) % 256) ((zs.drop k).take m) p) = updP N ((x + k) / 256 * 256) (putD d ((x + k) % 256) ((zs.drop k).take m)) := by
    unfold withP
    rw [putD_a, (findP_mem hf).2, hf]
    exact upd_const (f := putD d ((x + k) % 256) ((zs.drop k).take m)) hn hf
  refine ⟨?_, hw⟩
  rw [hw, poke_step (by rw [hl]; omega), hl, ← hm, List.drop_drop, show x + k + m = x + (k + m) by omega]
theorem putD_ok {d : Bool} {o : Nat} {bs : List Int} {p : Pg} (h : p.Ok) (ho : o + bs.length ≤ 256) (hb : ∀ n ∈ bs, 0 ≤ n ∧ n ≤ 255) : (putD d o bs p).Ok := by
  have := putPg_ok h ho hb
  exact ⟨this.al, this.lt, this.pr, this.fi, this.of, this.len, this.bd⟩
/-- What the reference's Poke answers. -/
def rpokeR (d : Bool) (M : List Pg) (x : Nat) (zs : List Int) : List Pg × Int := if zs.length = 0 then (M, 0) else if (spanP M x zs.length).isSome = true then (pokeW d M x zs, 0) else (M, 40)
structure PPk (wr : World) (PC : Array Value) (L : Nat → Bool) (y : Nat → Value) (w9 : World) : Prop where
  bel : Below wr.heap.size wr w9
  a : L 10 = true → ∃ g, y 12 = .pointer (some ⟨g, 0, none⟩) ∧ wr.heap.size ≤ g ∧ (L 11 = false → Blk w9 g #[.int .u64 0, .int .i64 0, .bool false, .string .empty, .int .u64 0, .string .empty] 66) ∧ (L 11 = true → Blk w9 g PC 66)
theorem PPk.alloc {wr w9 : World} {PC : Array Value} {L L' : Nat → Bool} {y y' : Nat → Value} (h : PPk wr PC L y w9) (o : Obj) (h0 : L' 10 = L 10) (h1 : L' 11 = L 11) (hy : y' 12 = y 12) : PPk wr PC L' y' (w9.alloc o) :=
  ⟨h.bel.alloc h.bel.size o, fun q => by
    obtain ⟨g, e1, e2, e3, e4⟩ := h.a (h0 ▸ q)
    exact ⟨g, hy.trans e1, e2, fun q => (e3 (h1 ▸ q)).alloc o, fun q => (e4 (h1 ▸ q)).alloc o⟩⟩
theorem PPk.stored {wr w9 : World} {g : Nat} {v0 v1 v2 v3 v4 v5 : Value} {L' : Nat → Bool} {y' : Nat → Value} (hb : Below wr.heap.size wr w9) (hz : Blk w9 g #[.int .u64 0, .int .i64 0, .bool false, .string .empty, .int .u64 0, .string .empty] 66) (hge : wr.heap.size ≤ g) (hy : y' 12 = .pointer (some ⟨g, 0, none⟩)) (h1 : L' 11 = true) :
    PPk wr #[v0, v1, v2, v3, v4, v5] L' y' ((((((w9.setCell ⟨g, 0, none⟩ v0).setCell ⟨g, 1, none⟩ v1).setCell ⟨g, 2, none⟩ v2).setCell ⟨g, 3, none⟩ v3).setCell ⟨g, 4, none⟩ v4).setCell ⟨g, 5, none⟩ v5) :=
  ⟨(((((hb.setCell (p := ⟨g, 0, none⟩) hge v0).setCell (p := ⟨g, 1, none⟩) hge v1).setCell (p := ⟨g, 2, none⟩) hge v2).setCell (p := ⟨g, 3, none⟩) hge v3).setCell (p := ⟨g, 4, none⟩) hge v4).setCell (p := ⟨g, 5, none⟩) hge v5, fun _ => ⟨g, hy, hge, (fun q => by rw [h1] at q; cases q), fun _ => ((((((hz.put 0 v0).put 1 v1).put 2 v2).put 3 v3).put 4 v4).put 5 v5)⟩⟩
theorem fr84 (y : Nat → Value) : frameOf 84 y = #[y 0, y 1, y 2, y 3, y 4, y 5, y 6, y 7, y 8, y 9, y 10, y 11, y 12, y 13, y 14, y 15, y 16, y 17, y 18, y 19, y 20, y 21, y 22, y 23, y 24, y 25, y 26, y 27, y 28, y 29, y 30, y 31, y 32, y 33, y 34, y 35, y 36, y 37, y 38, y 39, y 40, y 41, y 42, y 43, y 44, y 45, y 46, y 47, y 48, y 49, y 50, y 51, y 52, y 53, y 54, y 55, y 56, y 57, y 58, y 59, y 60, y 61, y 62, y 63, y 64, y 65, y 66, y 67, y 68, y 69, y 70, y 71, y 72, y 73, y 74, y 75, y 76, y 77, y 78, y 79, y 80, y 81, y 82, y 83] := rfl
set_option maxHeartbeats 12800000 in
set_option maxRecDepth 100000 in
theorem rpoke_ok {w : World} {B : Nat} {a : Option Addr} {n c : Nat} {M : List Pg} (h : RAt w B a n c M) (hB : B ≤ w.heap.size) (x : Nat) (x1 : x ≤ 18446744073709551615) (zs : List Int) (bd : Option Addr) (bn bc : Nat) (hb : Bys w w.heap.size bd bn zs) (hcc : bn ≤ bc) (hbc : (bc : Int) ≤ 9223372036854775807) (hbn : bn ≤ 262144) (d : Bool) :
    Calls Try.prog 44 #[mv a n c, .int .u64 x, .slice bd bn bc, .bool d] w fun e w' => ∃ a' n' c', e = .returned (.tuple #[mv a' n' c', .int .i64 (rpokeR d M x zs).2]) ∧ RAt w' w'.heap.size a' n' c' (rpokeR d M x zs).1 ∧ Below w.heap.size w w' := by
  have HH := Lib.hid h
  have HB := Lib.hid hB
  have HBY := Lib.hid hb
  have hzl : zs.length = bn := hb.1
  have HZL := Lib.hid hzl
  have HZB := Lib.hid hb.2.1
  obtain ⟨R, hR⟩ : ∃ R, rpokeR d M x zs = R := ⟨_, rfl⟩
  have HR := Lib.hid hR
  rw [hR]
  have hnc : (bn : Int) ≤ 9223372036854775807 := by omega
  obtain ⟨w1, hw1⟩ : ∃ w1, (w.alloc (.cells #[.slice a n c] 34)).alloc (.cells #[.slice none 0 0] 34) = w1 := ⟨_, rfl⟩
  have hz1 : w1.heap.size = w.heap.size + 2 := by rw [← hw1]; simp
  have HZ1 := Lib.hid hz1
  have B1 : Hid (Blk w1 w.heap.size #[.slice a n c] 34) := Lib.hid (by rw [← hw1]; exact (Blk.new w _ _).alloc _)
  have B2 : Hid (Blk w1 (w.heap.size + 1) #[.slice none 0 0] 34) := Lib.hid (by
    rw [← hw1]
    have := Blk.new (w.alloc (.cells #[.slice a n c] 34)) #[.slice none 0 0] 34
    rw [World.size_alloc] at this
    exact this)
  have HWB : Hid (Below w.heap.size w w1) := Lib.hid (by rw [← hw1]; exact ((Below.refl _ _).alloc (Nat.le_refl _) _).alloc (by rw [World.size_alloc]; omega) _)
  have HRT : Hid (∀ (wx : World) (a' : Option Addr) (n' c' : Nat) (N : List Pg), RAt wx wx.heap.size a' n' c' N → Below w.heap.size w wx → Blk wx (w.heap.size + 1) #[.slice none 0 0] 34 → RAt (wx.setCell ⟨w.heap.size + 1, 0, none⟩ (.slice a' n' c')) (wx.setCell ⟨w.heap.size + 1, 0, none⟩ (.slice a' n' c')).heap.size a' n' c' N ∧ Below w.heap.size w (wx.setCell ⟨w.heap.size + 1, 0, none⟩ (.slice a' n' c'))) := Lib.hid (fun wx a' n' c' N h1 h2 h3 => by
    refine ⟨?_, h2.setCell (p := ⟨w.heap.size + 1, 0, none⟩) (by show w.heap.size ≤ w.heap.size + 1; omega) _⟩
    have := h1.setBox h3 (.slice a' n' c')
    rw [World.size_setCell]; exact this)
  have k1 := B1.out.cell 0
  have k2 := B2.out.cell 0
  have f2 := B2.out.frozen 0
  have ee : ∀ (wx : World) (a' : Option Addr) (n' c' : Nat), Blk wx (w.heap.size + 1) #[.slice none 0 0] 34 → (wx.setCell ⟨w.heap.size + 1, 0, none⟩ (.slice a' n' c')).cell? ⟨w.heap.size + 1, 0, none⟩ = some (.slice a' n' c') := fun wx a' n' c' hx => World.cell?_setCell_same' _ _ _ (by rw [hx.cell 0]; rfl)
  have HEE := Lib.hid ee
  unfold mv
  clear h hB hb hR hz1 ee
  by_cases h0 : bn = 0
  · subst h0
    have e1 := HEE.out w1 a n c B2.out
    have HR0 : Hid (R = (M, 0)) := Lib.hid (by rw [← HR.out]; unfold rpokeR; rw [if_pos hzl])
    clear hzl
    go_enter Try.func44, Try.ntmps44
    go_wp2
    refine bodyPost_ret (v := .tuple #[.agg #[.slice a n c], .int .i64 0]) (by simp [results, Try.results44, go_sem, e1]) rfl ?_
    rw [HR0.out]
    have hra := HH.out.below (HWB.out.mono HB.out)
    exact ⟨a, n, c, rfl, HRT.out w1 a n c M (hra.more (Nat.le_trans HB.out HWB.out.size)) HWB.out B2.out⟩
  · have h0i : ¬ (bn : Int) = 0 := by omega
    have h0b : ((bn : Int) == 0) = false := by simp; omega
    have hra := (HH.out.below (HWB.out.mono HB.out)).more (Nat.le_trans HB.out HWB.out.size)
    have HRA := Lib.hid hra
    have HTH := Lib.hid (there_ok hra (Nat.le_refl _) x bn x1 (by omega) hbn)
    have hwb : IntKind.u64.wrap (bn : Int) = bn := by rw [IntKind.wrap_u64]; omega
    unfold mv at HTH
    obtain ⟨T, hT⟩ : ∃ T, (spanP M x bn).isSome = T := ⟨_, rfl⟩
    rw [hT] at HTH
    have HT := Lib.hid hT
    clear hra hT
    go_enter Try.func44, Try.ntmps44
    go_wp2_with fail
    refine HTH.out.mono ?_
    rintro r w2 ⟨rfl, hb2⟩
    have HB2 := Lib.hid hb2
    have HW2 := Lib.hid (HWB.out.trans (hb2.mono HWB.out.size))
    have HK1 := Lib.hid (B1.out.later hb2)
    have HK2 := Lib.hid (B2.out.later hb2)
    clear hb2 k1 k2 f2 hw1 HTH
    have k1 := HK1.out.cell 0
    have k2 := HK2.out.cell 0
    have f2 := HK2.out.frozen 0
    cases T with
    | false =>
      have e1 := HEE.out w2 a n c HK2.out
      have HR0 : Hid (R = (M, 40)) := Lib.hid (by rw [← HR.out]; unfold rpokeR; rw [if_neg (by rw [hzl]; exact h0), hzl, HT.out]; rfl)
      clear hzl
      go_wp2
      refine bodyPost_ret (v := .tuple #[.agg #[.slice a n c], .int .i64 40]) (by simp [results, Try.results44, go_sem, e1]) rfl ?_
      rw [HR0.out]
      exact ⟨a, n, c, rfl, HRT.out w2 a n c M ((HRA.out.below HB2.out).more HB2.out.size) HW2.out HK2.out⟩
    | true =>
      have HR0 : Hid (R = (pokeW d M x zs, 0)) := Lib.hid (by rw [← HR.out]; unfold rpokeR; rw [if_neg (by rw [hzl]; exact h0), hzl, HT.out]; rfl)
      obtain ⟨Z, hZ⟩ : ∃ Z, pokeW d M x zs = Z := ⟨_, rfl⟩
      have HZZ := Lib.hid hZ
      have HTOP : Hid (x + bn ≤ 4294967296) := Lib.hid (by
        obtain ⟨L, hL⟩ := Option.isSome_iff_exists.1 HT.out
        exact span_top HH.out.ok hL (by omega))
      have HALL : Hid (∀ i, i < bn → (findP M ((x + i) / 256 * 256)).isSome = true) := Lib.hid ((span_all bn x).1 HT.out)
      rw [hZ] at HR0
      have HZL2 := Lib.hid hzl
      clear hzl hZ k1 k2 f2
      go_wp2
      go_loopw [11] (fun i wr => ∃ (k : Nat) (a' : Option Addr) (n' c' : Nat) (N : List Pg), k ≤ bn ∧ i = .int .i64 k ∧ Hid (RAt wr wr.heap.size a' n' c' N) ∧ Hid (Blk wr w.heap.size #[.slice a' n' c'] 34) ∧ Hid (Blk wr (w.heap.size + 1) #[.slice none 0 0] 34) ∧ Hid (pokeW d N (x + k) (zs.drop k) = Z) ∧ Hid (∀ y, (findP N y).isSome = (findP M y).isSome) ∧ Hid (Below w.heap.size w wr)) (fun i _ => bn - (intOf i).toNat)
      case atStart => exact ⟨0, a, n, c, M, Nat.zero_le _, rfl, Lib.hid ((HRA.out.below HB2.out).more HB2.out.size), HK1, HK2, Lib.hid (by rw [List.drop_zero]; exact HZZ.out), Lib.hid (fun _ => rfl), HW2⟩
      case round =>
        obtain ⟨k, a', n', c', N, hk, rfl, HRN, HG1, HG2, HPO, HSM, HBW⟩ := hrel
        have k1 := HG1.out.cell 0
        by_cases hlt : k < bn
        · have hlti : (k : Int) < bn := by omega
          have hki : k < bn := hlt
          have hfs : (findP N ((x + k) / 256 * 256)).isSome = true := by rw [HSM.out]; exact HALL.out k hlt
          obtain ⟨p, hp⟩ := Option.isSome_iff_exists.1 hfs
          obtain ⟨i, hi, hidx, hgd⟩ := idx_some 0 hp
          rw [Int.zero_add] at hidx
          have htop := HTOP.out
          have hwx : IntKind.u64.wrap ((x : Int) + (k : Int)) = (x : Int) + (k : Int) := by rw [IntKind.wrap_u64]; omega
          have HWX := Lib.hid hwx
          have HWK : Hid (IntKind.u64.wrap (k : Int) = (k : Int)) := Lib.hid (by rw [IntKind.wrap_u64]; omega)
          have HNL := Lib.hid HRN.out.len
          have hil : (i : Int) < n' := by rw [HNL.out]; omega
          have HIL := Lib.hid hil
          obtain ⟨b, off, rfl, hbB, hat⟩ := HRN.out.at (k := i) (by omega)
          rw [hgd] at hat
          have HAT : Hid (∀ wx, Below wr.heap.size wr wx → Rp.At wx b (off + i * 6) (rp p)) := Lib.hid (fun wx hb => hat.below hb hbB)
          have HG4 : Hid (∀ wx, Below wr.heap.size wr wx → wx.cell? ⟨w.heap.size, 0, none⟩ = some (.slice (some ⟨b, off, none⟩) n' c')) := Lib.hid (fun wx hb => (HG1.out.later hb).cell 0)
          have HFD : Hid (∀ wx, Below wr.heap.size wr wx → Calls Try.prog 53 #[.agg #[.slice (some ⟨b, off, none⟩) n' c'], .int .u64 ((x : Int) + (k : Int))] wx fun e w' => e = .returned (.int .i64 (i : Int)) ∧ w' = wx.alloc (.cells #[.slice (some ⟨b, off, none⟩) n' c'] 34)) := Lib.hid (fun wx hb => by
            have h1 := rfind_ok (HRN.out.below hb) hb.size (x + k) (by omega)
            rw [hidx] at h1
            exact h1)
          have HP0 := Lib.hid hp
          have hpok := HRN.out.ok p (findP_mem hp).1
          have HPOK := Lib.hid hpok
          clear hki hfs hp hi hidx hgd htop hwx hil hat k1 hpok
          go_wp2_with fail
          refine wp_region_a (by kernel_rfl) 84 rfl [32, 33, 34, 35, 36, 37, 38, 39, 40, 41, 12, 84] (fun _ _ => True) (factsOf [Is (.pointer (some ⟨w.heap.size, 0, none⟩)), Is (.slice (some ⟨b, off, none⟩) n' c'), Is (.agg #[.slice (some ⟨b, off, none⟩) n' c']), Is (.int .u64 (x : Int)), Is (.int .i64 (k : Int)), Is (.int .u64 (k : Int)), Is (.int .u64 ((x : Int) + (k : Int))), Is (.int .i64 (i : Int)), Is (.pointer (some ⟨b, off + i * 6, none⟩)), Is (.agg #[.int .u64 p.a, .int .i64 p.prot, .bool p.dirty, .string p.file, .int .u64 p.off, .string (strOfNums p.b)]), AnyB, AnyB]) (JA [10, 11] [12] (PPk wr #[.int .u64 p.a, .int .i64 p.prot, .bool p.dirty, .string p.file, .int .u64 p.off, .string (strOfNums p.b)])) ?mono8 ?hj8 (by kernel_rfl) ?start8 ?steps8 ?fin8
          case mono8 => exact factsOf_monoR (monoR_cons (Is.monoR _ _) (monoR_cons (Is.monoR _ _) (monoR_cons (Is.monoR _ _) (monoR_cons (Is.monoR _ _) (monoR_cons (Is.monoR _ _) (monoR_cons (Is.monoR _ _) (monoR_cons (Is.monoR _ _) (monoR_cons (Is.monoR _ _) (monoR_cons (Is.monoR _ _) (monoR_cons (Is.monoR _ _) (monoR_cons (AnyB.monoR _) (monoR_cons (AnyB.monoR _) (monoR_nil _)))))))))))))
          case hj8 => exact JA.congr (by decide)
          case start8 =>
            refine JA.of fun L' y' h1 h2 => ?_
            exact ⟨Below.drew (Below.refl _ _), (fun h => by rw [h1 10 (by decide)] at h; cases h)⟩
          case fin8 =>
            intro y L w9 hJ hall hF hT
            have hP := hJ.out
            clear hJ hF
            obtain ⟨g, e12, hge, -, hblk⟩ := hP.a (hall 10 (by decide))
            have hbk := hblk (hall 11 (by decide))
            have hbl := hP.bel
            clear hP hall hblk
            have e0 := hT 0 (by decide)
            have e1 := hT 1 (by decide)
            have e2 := hT 2 (by decide)
            have e3 := hT 3 (by decide)
            have e4 := hT 4 (by decide)
            have e5 := hT 5 (by decide)
            have e6 := hT 6 (by decide)
            have e7 := hT 7 (by decide)
            have e8 := hT 8 (by decide)
            have e9 := hT 9 (by decide)
            have e10 := hT 10 (by decide)
            have e11 := hT 11 (by decide)
            have e13 := hT 13 (by decide)
            have e14 := hT 14 (by decide)
            have e15 := hT 15 (by decide)
            have e16 := hT 16 (by decide)
            have e17 := hT 17 (by decide)
            have e18 := hT 18 (by decide)
            have e19 := hT 19 (by decide)
            have e20 := hT 20 (by decide)
            have e21 := hT 21 (by decide)
            have e22 := hT 22 (by decide)
            have e23 := hT 23 (by decide)
            have e24 := hT 24 (by decide)
            have e25 := hT 25 (by decide)
            have e26 := hT 26 (by decide)
            have e27 := hT 27 (by decide)
            have e28 := hT 28 (by decide)
            have e29 := hT 29 (by decide)
            have e30 := hT 30 (by decide)
            have e31 := hT 31 (by decide)
            have e42 := hT 42 (by decide)
            have e43 := hT 43 (by decide)
            have e44 := hT 44 (by decide)
            have e45 := hT 45 (by decide)
            have e46 := hT 46 (by decide)
            have e47 := hT 47 (by decide)
            have e48 := hT 48 (by decide)
            have e49 := hT 49 (by decide)
            have e50 := hT 50 (by decide)
            have e51 := hT 51 (by decide)
            have e52 := hT 52 (by decide)
            have e53 := hT 53 (by decide)
            have e54 := hT 54 (by decide)
            have e55 := hT 55 (by decide)
            have e56 := hT 56 (by decide)
            have e57 := hT 57 (by decide)
            have e58 := hT 58 (by decide)
            have e59 := hT 59 (by decide)
            have e60 := hT 60 (by decide)
            have e61 := hT 61 (by decide)
            have e62 := hT 62 (by decide)
            have e63 := hT 63 (by decide)
            have e64 := hT 64 (by decide)
            have e65 := hT 65 (by decide)
            have e66 := hT 66 (by decide)
            have e67 := hT 67 (by decide)
            have e68 := hT 68 (by decide)
            have e69 := hT 69 (by decide)
            have e70 := hT 70 (by decide)
            have e71 := hT 71 (by decide)
            have e72 := hT 72 (by decide)
            have e73 := hT 73 (by decide)
            have e74 := hT 74 (by decide)
            have e75 := hT 75 (by decide)
            have e76 := hT 76 (by decide)
            have e77 := hT 77 (by decide)
            have e78 := hT 78 (by decide)
            have e79 := hT 79 (by decide)
            have e80 := hT 80 (by decide)
            have e81 := hT 81 (by decide)
            have e82 := hT 82 (by decide)
            have e83 := hT 83 (by decide)
            clear hT
            simp only [List.getD_cons_succ, List.getD_cons_zero] at e0 e1 e2 e3 e4 e5 e6 e7 e8 e9 e10 e11 e13 e14 e15 e16 e17 e18 e19 e20 e21 e22 e23 e24 e25 e26 e27 e28 e29 e30 e31 e42 e43 e44 e45 e46 e47 e48 e49 e50 e51 e52 e53 e54 e55 e56 e57 e58 e59 e60 e61 e62 e63 e64 e65 e66 e67 e68 e69 e70 e71 e72 e73 e74 e75 e76 e77 e78 e79 e80 e81 e82 e83
            rw [fr84]
            simp only [e0, e1, e2, e3, e4, e5, e6, e7, e8, e9, e10, e11, e13, e14, e15, e16, e17, e18, e19, e20, e21, e22, e23, e24, e25, e26, e27, e28, e29, e30, e31, e42, e43, e44, e45, e46, e47, e48, e49, e50, e51, e52, e53, e54, e55, e56, e57, e58, e59, e60, e61, e62, e63, e64, e65, e66, e67, e68, e69, e70, e71, e72, e73, e74, e75, e76, e77, e78, e79, e80, e81, e82, e83, e12]
            clear e12 e0 e1 e2 e3 e4 e5 e6 e7 e8 e9 e10 e11 e13 e14 e15 e16 e17 e18 e19 e20 e21 e22 e23 e24 e25 e26 e27 e28 e29 e30 e31 e42 e43 e44 e45 e46 e47 e48 e49 e50 e51 e52 e53 e54 e55 e56 e57 e58 e59 e60 e61 e62 e63 e64 e65 e66 e67 e68 e69 e70 e71 e72 e73 e74 e75 e76 e77 e78 e79 e80 e81 e82 e83
            obtain ⟨wo, rfl⟩ : ∃ wo : World, wo = wr := ⟨_, rfl⟩
            have HBK := Lib.hid hbk
            have HBL := Lib.hid hbl
            have HGE := Lib.hid hge
            have c5 : w9.cell? ⟨g, 5, none⟩ = some (.string (strOfNums p.b)) := hbk.cell 5
            have hss : (strOfNums p.b).size = 256 := rp_size HPOK.out
            have hsc : Lib.strCells (strOfNums p.b) = p.b.map (Value.int .u8) := (bs_cells _).trans (by rw [show bs (strOfNums p.b) = p.b from rp_bs HPOK.out])
            have HSS := Lib.hid hss
            have HSC := Lib.hid hsc
            obtain ⟨i0, hi0, hz0, hz1, hz2⟩ := info_parts info_u8
            have HI0 := Lib.hid hi0
            have HZ0 := Lib.hid hz0
            have HZS := Lib.hid hz1
            have HZ2 := Lib.hid hz2
            obtain ⟨db, dof, rfl, hdb, hdc⟩ := HBY.out.2.2 (by omega)
            have HDC : Hid (∀ wx, Below w.heap.size w wx → ∀ i, i < bn → wx.cell? ⟨db, dof + i, none⟩ = some (.int .u8 (zs.getD i 0))) := Lib.hid (fun wx hb i hi => ((hb.cell hdb)).trans (hdc i hi))
            obtain ⟨o, ho⟩ : ∃ o, (x + k) % 256 = o := ⟨_, rfl⟩
            have hoi : ((x : Int) + (k : Int)) % 256 = (o : Int) := by omega
            have ho6 : o < 256 := by omega
            obtain ⟨m, hm⟩ : ∃ m, m = min (zs.length - k) (256 - o) := ⟨_, rfl⟩
            have HM := Lib.hid hm
            have HO := Lib.hid ho
            have htp := HTOP.out
            have hxb : (x : Int) + (k : Int) ≤ 4294967296 := by omega
            have hmk : k + m ≤ bn := by have := HZL2.out; omega
            have hmo : o + m ≤ 256 := by omega
            have hm0 : 0 < m := by have := HZL2.out; omega
            have HMX : Hid (k + m = bn ∨ o + m = 256) := Lib.hid (by have := HZL2.out; omega)
            obtain ⟨bs', hbs⟩ : ∃ bs', (zs.drop k).take m = bs' := ⟨_, rfl⟩
            have hbl' : bs'.length = m := by rw [← hbs, List.length_take, List.length_drop, HZL2.out]; omega
            have hbb : ∀ n ∈ bs', 0 ≤ n ∧ n ≤ 255 := fun n hn => by
              rw [← hbs] at hn
              exact HZB.out n (List.mem_of_mem_drop (List.mem_of_mem_take hn))
            have HBG : Hid (∀ j, j < m → bs'.getD j 0 = zs.getD (k + j) 0) := Lib.hid (fun j hj => by
              rw [← hbs, List.getD_eq_getElem?_getD, List.getElem?_take_of_lt hj, List.getElem?_drop, ← List.getD_eq_getElem?_getD])
            have HBS := Lib.hid hbs
            have HBN := Lib.hid hbl'
            have HBB := Lib.hid hbb
            clear hbk hbl hge hss hsc hi0 hz0 hz1 hz2 hdc hdb ho hm htp hbs hbl' hbb
            go_wp2_with (at_builtin; refine Lib.wpList_append_own_string w9 rfl (.tmp 42) (.tmp 44) 25 9 rfl w9.heap.size 5 i0 Try.underlying25 Try.underlying9 HI0.out HZ0.out HZS.out HZ2.out (.slice none 0 0) 0 [] rfl (World.ownsRow_nil _ _ _ _) (strOfNums p.b) rfl (by rw [HSS.out]; decide) (by rw [HSS.out]; decide) (Nat.le_refl _) ?_; intro v1 w5 hown1 hg1 _; rw [HSS.out, HSC.out, Nat.zero_add, List.nil_append] at hown1; obtain ⟨gc, cc, rfl, hgc, hcc1, hcc2⟩ := own_r8 hown1 (by decide); have HR1 := Lib.hid hown1; have HB5 : Hid (Below wo.heap.size wo w5) := Lib.hid (HBL.out.grown hg1 HBL.out.size (fun q e => by cases e)); have HK5 : Hid (Blk w5 g #[.int .u64 p.a, .int .i64 p.prot, .bool p.dirty, .string p.file, .int .u64 p.off, .string (strOfNums p.b)] 66) := Lib.hid (HBK.out.turn hg1 (by intro e; cases e)); have HGC : Hid (g < gc) := Lib.hid (Nat.lt_of_lt_of_le HBK.out.lt hgc); clear hown1 hg1)
            go_loopw [11, 14] (fun i q wx => ∃ (j s t : Nat), j ≤ m ∧ s = k + j ∧ t = o + j ∧ i = .int .i64 s ∧ q = .int .i64 t ∧ Hid (wx.ownsRow w9.heap.size 5 1 (.slice (some ⟨gc, 0, none⟩) 256 cc) 256 ((laidB p.b o (bs'.take j)).map (Value.int .u8))) ∧ Hid (Blk wx g #[.int .u64 p.a, .int .i64 p.prot, .bool p.dirty, .string p.file, .int .u64 p.off, .string (strOfNums p.b)] 66) ∧ Hid (Below wo.heap.size wo wx)) (fun i _ _ => bn - (intOf i).toNat)
            case atStart => exact ⟨0, k, o, Nat.zero_le _, rfl, rfl, rfl, rfl, Lib.hid (by rw [laid_none]; exact HR1.out), HK5, HB5⟩
            case round =>
              obtain ⟨j, s, t, hj, hs, ht, rfl, rfl, HOW, HKJ, HBJ⟩ := hrel
              have HWJ : Hid (Below w.heap.size w wr) := Lib.hid (HBW.out.trans (HBJ.out.mono HBW.out.size))
              have hlb : ∀ q, (laidB p.b o (bs'.take q)).length = 256 := fun q => by
                rw [laidB_len (by rw [List.length_take, HBN.out, HPOK.out.len]; omega), HPOK.out.len]
              by_cases hjm : j < m
              · have q1 : (t : Int) < 256 := by omega
                have q2 : (s : Int) < bn := by omega
                have hd := HDC.out _ HWJ.out s (by omega)
                have hc := HOW.out.cellAt t (by omega)
                rw [getElem_map_u8 (by rw [hlb]; omega)] at hc
                have hf := HOW.out.frozenAt t
                have hst := HOW.out.stored t (.int .u8 (zs.getD s 0))
                rw [map_set_u8] at hst
                have hls := laid_step (zs := p.b) (bs := bs') (o := o) (j := j) (by rw [HBN.out, HPOK.out.len]; exact hmo) (by rw [HBN.out]; exact hjm)
                rw [HBG.out j hjm, ← hs, ← ht] at hls
                rw [hls] at hst
                have HST := Lib.hid hst.1
                have HBS2 := Lib.hid (HBJ.out.setCell (p := ⟨gc, t, none⟩) (by show wo.heap.size ≤ gc; have h1 := HGE.out; have h2 := HGC.out; omega) (.int .u8 (zs.getD s 0)))
                have HKS : Hid (Blk (wr.setCell ⟨gc, t, none⟩ (.int .u8 (zs.getD s 0))) g #[.int .u64 p.a, .int .i64 p.prot, .bool p.dirty, .string p.file, .int .u64 p.off, .string (strOfNums p.b)] 66) := Lib.hid (blk_same HKJ.out (Below.heap_setCell _ _ _ _ (by show g ≠ gc; have := HGC.out; omega)))
                have HJM := Lib.hid hjm
                have HSE := Lib.hid hs
                have HTE := Lib.hid ht
                obtain ⟨zc, hzc⟩ : ∃ z, (laidB p.b o (bs'.take j)).getD t 0 = z := ⟨_, rfl⟩
                obtain ⟨zd, hzd⟩ : ∃ z, zs.getD s 0 = z := ⟨_, rfl⟩
                rw [hzc] at hc
                rw [hzd] at hd HST HBS2 HKS
                clear hst hls hlb hzc hzd hjm hs ht
                go_wp2
                go_roundw
                case rel => exact ⟨j + 1, s + 1, t + 1, HJM.out, by have := HSE.out; omega, by have := HTE.out; omega, by go_num, by go_num, HST, HKS, HBS2⟩
                case measure => have := HSE.out; (simp [intOf] <;> omega)
              · obtain rfl : j = m := by omega
                have hex : ¬ (t : Int) < 256 ∨ ¬ (s : Int) < bn := by have := HMX.out; omega
                have how := HOW.out
                rw [List.take_of_length_le (by rw [HBN.out]; exact Nat.le_refl _)] at how
                have hlb2 := hlb j
                rw [List.take_of_length_le (by rw [HBN.out]; exact Nat.le_refl _)] at hlb2
                obtain ⟨p', hp'⟩ : ∃ p', putD d o bs' p = p' := ⟨_, rfl⟩
                have hpo' : p'.Ok := by rw [← hp']; exact putD_ok HPOK.out (by rw [HBN.out]; exact hmo) HBB.out
                have hpb : laidB p.b o bs' = p'.b := by rw [← hp']; rfl
                rw [hpb] at how
                have hcv := (Bys.own hpo'.bd how).conv cc
                obtain ⟨S5, hS5⟩ : ∃ S5, strOfNums p'.b = S5 := ⟨_, rfl⟩
                rw [hS5] at hcv
                have c5 : wr.cell? ⟨g, 5, none⟩ = some (.string (strOfNums p.b)) := HKJ.out.cell 5
                have c0 : wr.cell? ⟨g, 0, none⟩ = some (.int .u64 p.a) := HKJ.out.cell 0
                have c1 : wr.cell? ⟨g, 1, none⟩ = some (.int .i64 p.prot) := HKJ.out.cell 1
                have c2 : wr.cell? ⟨g, 2, none⟩ = some (.bool p.dirty) := HKJ.out.cell 2
                have c3 : wr.cell? ⟨g, 3, none⟩ = some (.string p.file) := HKJ.out.cell 3
                have c4 : wr.cell? ⟨g, 4, none⟩ = some (.int .u64 p.off) := HKJ.out.cell 4
                have f5 := HKJ.out.frozen 5
                have f2 := HKJ.out.frozen 2
                have hgw : w.heap.size < wo.heap.size := HG1.out.lt
                have hgg := HGE.out
                have hne1 : g ≠ w.heap.size := by omega
                have hne2 : w.heap.size ≠ g := by omega
                have k4 : wr.cell? ⟨w.heap.size, 0, none⟩ = some (.slice (some ⟨b, off, none⟩) n' c') := (HG1.out.later HBJ.out).cell 0
                obtain ⟨DD, hDD⟩ : ∃ DD, (p.dirty || d) = DD := ⟨_, rfl⟩
                obtain ⟨W6, hW6⟩ : ∃ W6, (wr.setCell ⟨g, 5, none⟩ (.string S5)).setCell ⟨g, 2, none⟩ (.bool DD) = W6 := ⟨_, rfl⟩
                have hb6 : Below wo.heap.size wo W6 := by rw [← hW6]; exact (HBJ.out.setCell (p := ⟨g, 5, none⟩) hgg _).setCell (p := ⟨g, 2, none⟩) hgg _
                have hpr := poke_round (d := d) (N := N) (x := x) (k := k) (zs := zs) (p := p) HRN.out.nd HP0.out (by rw [HZL2.out]; exact hlt) (m := j) (by rw [HO.out]; exact HM.out)
                rw [HO.out, HBS.out, hp', HPO.out] at hpr
                have hwl : (withP N p').length ≤ 512 := by rw [hpr.2, upd_len]; exact HRN.out.lm
                have hsm2 : ∀ y, (findP (withP N p') y).isSome = (findP M y).isSome := fun y => by
                  rw [hpr.2, upd_find (f := putD d o bs') (fun _ => rfl), Option.isSome_map, HSM.out]
                have HSM2 := Lib.hid hsm2
                have hwi := rwith_ok (HRN.out.below hb6) hb6.size hpo' hwl
                obtain ⟨N2, hN2⟩ : ∃ N2, withP N p' = N2 := ⟨_, rfl⟩
                rw [hN2] at hwi hpr
                rw [hN2] at HSM2
                unfold mv pv at hwi
                have g0 : p'.a = p.a := by rw [← hp']; rfl
                have g1 : p'.prot = p.prot := by rw [← hp']; rfl
                have g2 : p'.dirty = DD := by rw [← hp', ← hDD]; rfl
                have g3 : p'.file = p.file := by rw [← hp']; rfl
                have g4 : p'.off = p.off := by rw [← hp']; rfl
                rw [g0, g1, g2, g3, g4, hS5] at hwi
                have HWI := Lib.hid hwi
                have HK6 : Hid (Blk W6 g #[.int .u64 p.a, .int .i64 p.prot, .bool DD, .string p.file, .int .u64 p.off, .string S5] 66) := Lib.hid (by rw [← hW6]; exact (HKJ.out.put 5 (.string S5)).put 2 (.bool DD))
                have HB6 := Lib.hid hb6
                have x0 := HK6.out.cell 0
                have x1 := HK6.out.cell 1
                have x2 := HK6.out.cell 2
                have x3 := HK6.out.cell 3
                have x4 := HK6.out.cell 4
                have x5 := HK6.out.cell 5
                have k6 : W6.cell? ⟨w.heap.size, 0, none⟩ = some (.slice (some ⟨b, off, none⟩) n' c') := (HG1.out.later hb6).cell 0
                have HPR := Lib.hid hpr.1
                have HSE := Lib.hid hs
                obtain ⟨DY, hDY⟩ : ∃ DY, p.dirty = DY := ⟨_, rfl⟩
                rw [hDY] at c2 hDD
                clear hlb hlb2 how hpo' hpb hp' hS5 hpr hwl hsm2 hN2 hwi g0 g1 g2 g3 g4 hb6 hgg hgw hDY hs ht
                have HEND : Hid (∀ (w7 : World) (a2 : Option Addr) (n2 c2 : Nat), RAt w7 w7.heap.size a2 n2 c2 N2 → Below W6.heap.size W6 w7 → w7.cell? ⟨w.heap.size, 0, none⟩ = some (.slice (some ⟨b, off, none⟩) n' c') ∧ w7.frozen? ⟨w.heap.size, 0, none⟩ = false ∧ Hid (RAt (w7.setCell ⟨w.heap.size, 0, none⟩ (.slice a2 n2 c2)) (w7.setCell ⟨w.heap.size, 0, none⟩ (.slice a2 n2 c2)).heap.size a2 n2 c2 N2) ∧ Hid (Blk (w7.setCell ⟨w.heap.size, 0, none⟩ (.slice a2 n2 c2)) w.heap.size #[.slice a2 n2 c2] 34) ∧ Hid (Blk (w7.setCell ⟨w.heap.size, 0, none⟩ (.slice a2 n2 c2)) (w.heap.size + 1) #[.slice none 0 0] 34) ∧ Hid (Below w.heap.size w (w7.setCell ⟨w.heap.size, 0, none⟩ (.slice a2 n2 c2)))) := Lib.hid (fun w7 a2 n2 c2 h1 h2 => by
                  have hb7 : Below wo.heap.size wo w7 := HB6.out.trans (h2.mono HB6.out.size)
                  have e1 := HG1.out.later hb7
                  have e2 := HG2.out.later hb7
                  refine ⟨e1.cell 0, e1.frozen 0, Lib.hid ?_, Lib.hid (e1.put 0 _), Lib.hid (blk_same e2 (Below.heap_setCell _ _ _ _ (by show w.heap.size + 1 ≠ w.heap.size; omega))), Lib.hid ((HBW.out.trans (hb7.mono HBW.out.size)).setCell (p := ⟨w.heap.size, 0, none⟩) (Nat.le_refl _) _)⟩
                  rw [World.size_setCell]
                  exact h1.setBox e1 _)
                have HX : Hid (¬ (t : Int) < 256 ∨ ((t : Int) < 256 ∧ ¬ (s : Int) < bn)) := Lib.hid (by omega)
                clear hex
                cases DY with
                | true =>
                  obtain rfl : DD = true := by rw [← hDD]; rfl
                  clear hDD
                  rcases HX.out with hx | ⟨hx0, hx⟩
                  · go_wp2_with fail
                    refine HWI.out.mono ?_
                    rintro r w7 ⟨a2, n2, c2', rfl, hra, hb7⟩
                    obtain ⟨z1, z2, z3, z4, z5, z6⟩ := HEND.out w7 a2 n2 c2' hra hb7
                    clear hra hb7 HX
                    go_wp2
                    go_roundw
                    case rel => exact ⟨s, a2, n2, c2', N2, by have := HSE.out; omega, rfl, z3, z4, z5, Lib.hid (by rw [HSE.out]; exact HPR.out.symm), HSM2, z6⟩
                    case measure => have := HSE.out; (simp [intOf] <;> omega)
                  · go_wp2_with fail
                    refine HWI.out.mono ?_
                    rintro r w7 ⟨a2, n2, c2', rfl, hra, hb7⟩
                    obtain ⟨z1, z2, z3, z4, z5, z6⟩ := HEND.out w7 a2 n2 c2' hra hb7
                    clear hra hb7 HX
                    go_wp2
                    go_roundw
                    case rel => exact ⟨s, a2, n2, c2', N2, by have := HSE.out; omega, rfl, z3, z4, z5, Lib.hid (by rw [HSE.out]; exact HPR.out.symm), HSM2, z6⟩
                    case measure => have := HSE.out; (simp [intOf] <;> omega)
                | false =>
                  obtain rfl : DD = d := by rw [← hDD]; rfl
                  clear hDD
                  rcases HX.out with hx | ⟨hx0, hx⟩
                  · go_wp2_with fail
                    refine HWI.out.mono ?_
                    rintro r w7 ⟨a2, n2, c2', rfl, hra, hb7⟩
                    obtain ⟨z1, z2, z3, z4, z5, z6⟩ := HEND.out w7 a2 n2 c2' hra hb7
                    clear hra hb7 HX
                    go_wp2
                    go_roundw
                    case rel => exact ⟨s, a2, n2, c2', N2, by have := HSE.out; omega, rfl, z3, z4, z5, Lib.hid (by rw [HSE.out]; exact HPR.out.symm), HSM2, z6⟩
                    case measure => have := HSE.out; (simp [intOf] <;> omega)
                  · go_wp2_with fail
                    refine HWI.out.mono ?_
                    rintro r w7 ⟨a2, n2, c2', rfl, hra, hb7⟩
                    obtain ⟨z1, z2, z3, z4, z5, z6⟩ := HEND.out w7 a2 n2 c2' hra hb7
                    clear hra hb7 HX
                    go_wp2
                    go_roundw
                    case rel => exact ⟨s, a2, n2, c2', N2, by have := HSE.out; omega, rfl, z3, z4, z5, Lib.hid (by rw [HSE.out]; exact HPR.out.symm), HSM2, z6⟩
                    case measure => have := HSE.out; (simp [intOf] <;> omega)
          case steps8 =>
            refine ⟨?_, ?_, ?_, ?_, ?_, ?_, ?_, ?_, ?_, ?_, ?_, ?_, trivial⟩
            all_goals intro L y w9 hJ hL hy0 hp0 hcl hun
            all_goals have hy := Lib.hid hy0
            all_goals have hp := Lib.hid hp0
            all_goals have HJ := Lib.hid hJ
            all_goals have HP := Lib.hid hJ.out
            all_goals have hU := Lib.hid hun
            all_goals clear hy0 hp0 hun hJ
            · have e1 : y 4 = .pointer (some ⟨w.heap.size, 0, none⟩) := hy.out 4 (by decide)
              intro K Q hK
              clear hcl hL
              have v1 := (eval_frame 84 y [] (t := 4) (by decide)).trans e1
              obtain ⟨A, hA⟩ : ∃ A, (⟨frameOf 84 y, []⟩ : Act) = A := ⟨_, rfl⟩
              rw [hA] at v1 hK ⊢
              clear hA hy hp
              simp only [Act.eval] at v1
              go_simp
              exact hK _ _ ⟨trivial, fun _ => rfl, HJ.out.pure (by decide) (by decide)⟩
            · have e1 : y 32 = .pointer (some ⟨w.heap.size, 0, none⟩) := (hp.out 0 (by decide)).2 (by decide)
              have q0 : w9.cell? ⟨w.heap.size, 0, none⟩ = some (.slice (some ⟨b, off, none⟩) n' c') := (fun (_ : Nat) => HG4.out _ HP.out.bel) 0
              intro K Q hK
              clear hcl hL
              have v1 := (eval_frame 84 y [] (t := 32) (by decide)).trans e1
              obtain ⟨A, hA⟩ : ∃ A, (⟨frameOf 84 y, []⟩ : Act) = A := ⟨_, rfl⟩
              rw [hA] at v1 hK ⊢
              clear hA hy hp
              simp only [Act.eval] at v1
              go_simp
              exact hK _ _ ⟨trivial, fun _ => rfl, HJ.out.pure (by decide) (by decide)⟩
            · have e1 : y 4 = .pointer (some ⟨w.heap.size, 0, none⟩) := hy.out 4 (by decide)
              have q0 : w9.cell? ⟨w.heap.size, 0, none⟩ = some (.slice (some ⟨b, off, none⟩) n' c') := (fun (_ : Nat) => HG4.out _ HP.out.bel) 0
              intro K Q hK
              clear hcl hL
              have v1 := (eval_frame 84 y [] (t := 4) (by decide)).trans e1
              obtain ⟨A, hA⟩ : ∃ A, (⟨frameOf 84 y, []⟩ : Act) = A := ⟨_, rfl⟩
              rw [hA] at v1 hK ⊢
              clear hA hy hp
              simp only [Act.eval] at v1
              go_simp
              exact hK _ _ ⟨trivial, fun _ => rfl, HJ.out.pure (by decide) (by decide)⟩
            · have e1 : y 1 = .int .u64 (x : Int) := hy.out 1 (by decide)
              intro K Q hK
              clear hcl hL
              have v1 := (eval_frame 84 y [] (t := 1) (by decide)).trans e1
              obtain ⟨A, hA⟩ : ∃ A, (⟨frameOf 84 y, []⟩ : Act) = A := ⟨_, rfl⟩
              rw [hA] at v1 hK ⊢
              clear hA hy hp
              simp only [Act.eval] at v1
              go_simp
              exact hK _ _ ⟨trivial, fun _ => rfl, HJ.out.pure (by decide) (by decide)⟩
            · have e1 : y 11 = .int .i64 (k : Int) := hy.out 11 (by decide)
              intro K Q hK
              clear hcl hL
              have v1 := (eval_frame 84 y [] (t := 11) (by decide)).trans e1
              obtain ⟨A, hA⟩ : ∃ A, (⟨frameOf 84 y, []⟩ : Act) = A := ⟨_, rfl⟩
              rw [hA] at v1 hK ⊢
              clear hA hy hp
              simp only [Act.eval] at v1
              go_simp
              exact hK _ _ ⟨trivial, fun _ => rfl, HJ.out.pure (by decide) (by decide)⟩
            · have e1 : y 36 = .int .i64 (k : Int) := (hp.out 4 (by decide)).2 (by decide)
              have hwk := HWK.out
              intro K Q hK
              clear hcl hL
              have v1 := (eval_frame 84 y [] (t := 36) (by decide)).trans e1
              obtain ⟨A, hA⟩ : ∃ A, (⟨frameOf 84 y, []⟩ : Act) = A := ⟨_, rfl⟩
              rw [hA] at v1 hK ⊢
              clear hA hy hp
              simp only [Act.eval] at v1
              go_simp
              first | exact hK _ _ ⟨trivial, fun _ => rfl, HJ.out.pure (by decide) (by decide)⟩ | (rw [hwk]; exact hK _ _ ⟨trivial, fun _ => rfl, HJ.out.pure (by decide) (by decide)⟩)
            · have e1 : y 35 = .int .u64 (x : Int) := (hp.out 3 (by decide)).2 (by decide)
              have e2 : y 37 = .int .u64 (k : Int) := (hp.out 5 (by decide)).2 (by decide)
              have hwx := HWX.out
              intro K Q hK
              clear hcl hL
              have v1 := (eval_frame 84 y [] (t := 35) (by decide)).trans e1
              have v2 := (eval_frame 84 y [] (t := 37) (by decide)).trans e2
              obtain ⟨A, hA⟩ : ∃ A, (⟨frameOf 84 y, []⟩ : Act) = A := ⟨_, rfl⟩
              rw [hA] at v1 v2 hK ⊢
              clear hA hy hp
              simp only [Act.eval] at v1 v2
              go_simp
              first | exact hK _ _ ⟨trivial, fun _ => rfl, HJ.out.pure (by decide) (by decide)⟩ | (rw [hwx]; exact hK _ _ ⟨trivial, fun _ => rfl, HJ.out.pure (by decide) (by decide)⟩)
            · have e1 : y 34 = .agg #[.slice (some ⟨b, off, none⟩) n' c'] := (hp.out 2 (by decide)).2 (by decide)
              have e2 : y 38 = .int .u64 ((x : Int) + (k : Int)) := (hp.out 6 (by decide)).2 (by decide)
              intro K Q hK
              clear hcl hL
              have v1 := (eval_frame 84 y [] (t := 34) (by decide)).trans e1
              have v2 := (eval_frame 84 y [] (t := 38) (by decide)).trans e2
              obtain ⟨A, hA⟩ : ∃ A, (⟨frameOf 84 y, []⟩ : Act) = A := ⟨_, rfl⟩
              rw [hA] at v1 v2 hK ⊢
              clear hA hy hp
              simp only [Act.eval] at v1 v2
              go_simp
              refine (HFD.out _ HP.out.bel).mono ?_
              rintro r w5 ⟨rfl, rfl⟩
              exact hK _ _ ⟨trivial, fun _ => rfl, JA.step fun L' y' h1 h2 h3 h4 => HP.out.alloc _ (h1 10 (by decide) (by decide)) (h1 11 (by decide) (by decide)) (h3 12 (by decide) (by decide))⟩
            · have e1 : y 33 = .slice (some ⟨b, off, none⟩) n' c' := (hp.out 1 (by decide)).2 (by decide)
              have e2 : y 39 = .int .i64 (i : Int) := (hp.out 7 (by decide)).2 (by decide)
              have hil := HIL.out
              intro K Q hK
              clear hcl hL
              have v1 := (eval_frame 84 y [] (t := 33) (by decide)).trans e1
              have v2 := (eval_frame 84 y [] (t := 39) (by decide)).trans e2
              obtain ⟨A, hA⟩ : ∃ A, (⟨frameOf 84 y, []⟩ : Act) = A := ⟨_, rfl⟩
              rw [hA] at v1 v2 hK ⊢
              clear hA hy hp
              simp only [Act.eval] at v1 v2
              go_simp
              first | exact hK _ _ ⟨trivial, fun _ => rfl, HJ.out.pure (by decide) (by decide)⟩ | (rw [if_pos ⟨by omega, by omega⟩]; exact hK _ _ ⟨trivial, fun _ => rfl, HJ.out.pure (by decide) (by decide)⟩)
            · have e1 : y 40 = .pointer (some ⟨b, off + i * 6, none⟩) := (hp.out 8 (by decide)).2 (by decide)
              obtain ⟨c0, c1, c2, c3, c4, c5⟩ := HAT.out _ HP.out.bel
              intro K Q hK
              clear hcl hL
              have v1 := (eval_frame 84 y [] (t := 40) (by decide)).trans e1
              obtain ⟨A, hA⟩ : ∃ A, (⟨frameOf 84 y, []⟩ : Act) = A := ⟨_, rfl⟩
              rw [hA] at v1 hK ⊢
              clear hA hy hp
              simp only [Act.eval] at v1
              go_simp
              exact hK _ _ ⟨trivial, fun _ => rfl, HJ.out.pure (by decide) (by decide)⟩
            · have hN11 : L 11 = false := by
                cases h : L 11 with
                | false => rfl
                | true => have := (hcl 11 _ rfl h 10 (by decide)); rw [hL] at this; cases this
              intro K Q hK
              clear hcl hL
              obtain ⟨A, hA⟩ : ∃ A, (⟨frameOf 84 y, []⟩ : Act) = A := ⟨_, rfl⟩
              rw [hA] at hK ⊢
              clear hA hy hp
              go_simp
              exact hK _ _ ⟨trivial, fun _ => trivial, JA.step fun L' y' h1 h2 h3 h4 => ⟨HP.out.bel.alloc HP.out.bel.size _, fun _ => ⟨w9.heap.size, h4 (by decide), HP.out.bel.size, fun _ => Blk.new _ _ _, (fun h => by rw [h1 11 (by decide) (by decide), hN11] at h; cases h)⟩⟩⟩
            · have hL10 : L 10 = true := (hp.out 10 (by decide)).1
              obtain ⟨g, e1, hge, hz, -⟩ := HP.out.a hL10
              have e2 : y 41 = .agg #[.int .u64 p.a, .int .i64 p.prot, .bool p.dirty, .string p.file, .int .u64 p.off, .string (strOfNums p.b)] := (hp.out 9 (by decide)).2 (by decide)
              have hN11 : L 11 = false := hL
              obtain ⟨q0, q1, q2, q3, q4, q5⟩ := Rp.cs (hz hN11)
              obtain ⟨f0, f1, f2, f3, f4, f5⟩ := Rp.fs (hz hN11)
              have hzb := Lib.hid (hz hN11)
              have ey := e1
              intro K Q hK
              clear hcl hL
              have v1 := (eval_frame 84 y [] (t := 12) (by decide)).trans e1
              have v2 := (eval_frame 84 y [] (t := 41) (by decide)).trans e2
              obtain ⟨A, hA⟩ : ∃ A, (⟨frameOf 84 y, []⟩ : Act) = A := ⟨_, rfl⟩
              rw [hA] at v1 v2 hK ⊢
              clear hA hy hp
              simp only [Act.eval] at v1 v2
              go_simp
              exact hK undef _ ⟨trivial, fun h => absurd h (by decide), JA.step fun L' y' h1 h2 h3 h4 => PPk.stored HP.out.bel hzb.out hge ((h3 12 (by decide) (by decide)).trans ey) (h2 (by decide))⟩
        · have hlti : ¬ (k : Int) < bn := by omega
          have HZN : Hid (N = Z) := Lib.hid (by
            have := HPO.out
            rw [List.drop_eq_nil_of_le (by rw [HZL2.out]; omega), poke_nil] at this
            exact this)
          have k2 := HG2.out.cell 0
          have f2 := HG2.out.frozen 0
          have e1 := HEE.out wr a' n' c' HG2.out
          go_wp2
          refine bodyPost_ret (v := .tuple #[.agg #[.slice a' n' c'], .int .i64 0]) (by simp [results, Try.results44, go_sem, e1]) rfl ?_
          rw [HR0.out]
          have hz := HRT.out wr a' n' c' N HRN.out HBW.out HG2.out
          rw [HZN.out] at hz
          exact ⟨a', n', c', rfl, hz⟩
end Go.Proofs.Ytahjgbmhleiocaa
