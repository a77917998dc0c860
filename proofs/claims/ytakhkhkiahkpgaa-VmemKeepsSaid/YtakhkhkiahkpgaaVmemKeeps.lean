/-
  What is proved here: VmemKeeps: what is stored is loaded, all other bytes are as they were, and a copy and what is told are new memory.
  Conditions: none of our own; the law's row says what its input is.
-/
import Derived.Test.YtakhkhkiahkpgaaRows
import Derived.Test.YtakhkhkiahkpgaaVmAwk
import Derived.Test.YtakhkhkiahkpgaaVmKp
import Derived.Test.YtakhkhkiahkpgaaVmLd
import Derived.Test.YtakhkhkiahkpgaaApp
import Derived.Test.YtakhkhkiahkpgaaMask
import Derived.WalkKit
import Derived.ProofKit
import Derived.OpenShut
import Derived.ShutString
import Derived.ChangeOld
import Derived.Below
namespace Go.Proofs.Ytakhkhkiahkpgaa.vmemKeeps
open Go.ChangeShapes Go.WideShapes Go.ChangeAt Go.RowKit
open Go.ChangeMaps (open_string shut_string)
set_option linter.unusedVariables false

theorem own : ownKnob Try.prog.godebug = none := by kernel_rfl
theorem laidOut : laidOutB Try.prog = true := by kernel_rfl

theorem own_b8 {w : World} {base n : Nat} {v : Value} {xs : List Value} (h : w.ownsRow base 5 1 v n xs) (hn : 0 < n) : ∃ g c, v = .slice (some ⟨g, 0, none⟩) n c ∧ base ≤ g ∧ (n : Int) ≤ c ∧ (c : Int) ≤ 9223372036854775807 := by
  rcases h with ⟨hl, ⟨_, e0⟩ | ⟨g, cap, cur, hv, hg, _, h1, h2, _⟩⟩
  · omega
  · exact ⟨g, cap, hv, hg, by omega, by unfold maxLen at h2; omega⟩
theorem aw_peek {w w' : World} {S : VS} {M : List Pg} {g c : Nat} (h : AW w w' S M g c) (x n : Nat) (x1 : x ≤ 18446744073709551615) (n1 : n ≤ 268435456) :
    Calls Try.prog 19 #[.pointer (some ⟨g, 0, none⟩), .int .u64 x, .int .u64 n] w' fun e w2 => ∃ v, e = .returned (.tuple #[v, .int .i64 (peekR M x n).2]) ∧ w2.ownsRow w'.heap.size 5 1 v (peekR M x n).1.length ((peekR M x n).1.map (Value.int .u8)) ∧ Below w'.heap.size w' w2 := by
  have h1 := Peek_ok h.at0 x n x1 n1
  unfold ptrV at h1
  rw [h.g] at h1
  exact h1
/-- A page's block: its first byte. -/
def PB (w : World) (b : Nat) : Prop := ∃ (C : Array Value) (x : Int), Blk w b C 67 ∧ C[4]? = some (.int .u8 x)
theorem pb_set {w : World} {b b' : Nat} (h : PB w b) : PB (w.setCell ⟨b', 4, none⟩ (.int .u8 9)) b := by
  obtain ⟨C, x, h1, h2⟩ := h
  by_cases e : b = b'
  · subst e
    refine ⟨C.setIfInBounds 4 (.int .u8 9), 9, h1.put 4 _, ?_⟩
    have := (Array.getElem?_eq_some_iff.1 h2).1
    rw [Array.getElem?_setIfInBounds, if_pos rfl, if_pos this]
  · exact ⟨C, x, blk_same h1 (Below.heap_setCell _ _ _ _ e), h2⟩
theorem pb_of {w : World} {b : Nat} {p : Pg} (h : Blk w b (pgC p) 67) (hl : p.b.length = 256) : PB w b := by
  obtain ⟨_, _, _, _, hc⟩ := pg_cells h hl
  have e := hc 0 (by decide)
  rw [h.cell] at e
  exact ⟨_, _, h, e⟩
set_option maxRecDepth 100000 in
set_option maxHeartbeats 12800000 in
theorem walkAll (w : World) (a0 a1 a2 a3 : Int) (w0 : (Lit.int .u64 a0).wf = true) (w1 : (Lit.int .i64 a1).wf = true) (w2 : (Lit.int .u64 a2).wf = true) (w3 : (Lit.int .u64 a3).wf = true) :
    Calls Try.prog 4 #[.int .u64 a0, .int .i64 a1, .int .u64 a2, .int .u64 a3] w fun e w' => e = .returned (.bool true) ∧ Below w.heap.size w w' := by
  obtain ⟨m, hm, hand⟩ := i64_mask a1 3 (by decide)
  have hand : bits .and .i64 a1 3 = (m : Int) := hand
  obtain ⟨x0, x1⟩ : 0 ≤ a0 ∧ a0 ≤ 18446744073709551615 := by simpa [Lit.wf, IntKind.min, IntKind.max, IntKind.signed, IntKind.bits] using w0
  obtain ⟨u0, u1⟩ : 0 ≤ a2 ∧ a2 ≤ 18446744073709551615 := by simpa [Lit.wf, IntKind.min, IntKind.max, IntKind.signed, IntKind.bits] using w2
  obtain ⟨y0, y1⟩ : 0 ≤ a3 ∧ a3 ≤ 18446744073709551615 := by simpa [Lit.wf, IntKind.min, IntKind.max, IntKind.signed, IntKind.bits] using w3
  clear w0 w1 w2 w3
  obtain ⟨X, rfl⟩ := Int.eq_ofNat_of_zero_le x0
  have hmm : m = 0 ∨ m = 1 ∨ m = 2 ∨ m = 3 := by omega
  clear hm
  have hcs := fun g w => cmp_sp g w
  go_enter Try.func4, Try.ntmps4
  go_wp2_with fail
  refine (awake_ok w).mono ?_
  rintro r0 v0 ⟨rfl, hb⟩
  have HB := Lib.hid hb
  clear hb
  go_wp2_with fail
  refine (AW.new v0).mono ?_
  rintro r1 v1 ⟨rfl, H1⟩
  obtain ⟨g, hg⟩ : ∃ g, v0.heap.size = g := ⟨_, rfl⟩
  rw [hg] at H1 ⊢
  have h2 := H1.out.map 512 768 6 kpS 0 (by decide) (by decide) (by decide) (by decide) (by decide) (by decide)
  rw [kp_map] at h2
  have H2 := Lib.hid h2
  unfold kpS at H2
  clear h2
  go_wp2_with fail
  refine H2.out.mono ?_
  rintro r2 v2 ⟨rfl, h3⟩
  obtain ⟨S, hS⟩ := h3.out
  have H3 := Lib.hid hS
  clear hS h3 H2 hcs H1
  obtain ⟨n, hn, hmn⟩ : ∃ n : Nat, isW n ∧ [Value.int .i64 1, .int .i64 2, .int .i64 4, .int .i64 8][m]? = some (.int .i64 (n : Int)) := by
    rcases hmm with rfl | rfl | rfl | rfl
    · exact ⟨1, by decide, rfl⟩
    · exact ⟨2, by decide, rfl⟩
    · exact ⟨4, by decide, rfl⟩
    · exact ⟨8, by decide, rfl⟩
  have hm0 : (0 : Int) ≤ m := by omega
  have hm4 : (m : Int) < 4 := by omega
  have hml : m < 4 := by omega
  obtain ⟨a, ha⟩ : ∃ a : Nat, 512 + X % 760 = a := ⟨_, rfl⟩
  have ha2 : (512 : Int) + (X : Int) % 760 = (a : Int) := by omega
  have hal : 512 ≤ a := by omega
  have hau : a ≤ 1271 := by omega
  have hcell : (v2.alloc (.cells #[.int .i64 1, .int .i64 2, .int .i64 4, .int .i64 8] 3)).cell? ⟨v2.heap.size, m, none⟩ = some (.int .i64 (n : Int)) := by
    rw [(Blk.new v2 #[.int .i64 1, .int .i64 2, .int .i64 4, .int .i64 8] 3).cell m]
    simpa using hmn
  have H4 := Lib.hid (H3.out.later ((Below.refl v2.heap.size v2).alloc (Nat.le_refl _) (.cells #[.int .i64 1, .int .i64 2, .int .i64 4, .int .i64 8] 3)))
  have HN := Lib.hid hn
  clear hmm hmn hn H3
  go_wp2_with fail
  have kn : isW n := HN.out
  have hnu : 1 ≤ n ∧ n ≤ 8 := by unfold isW at kn; omega
  have h5 := H4.out.store a n a2 (by omega) u0 u1
  rw [kp_new.store kn a2 hal (by omega)] at h5
  have H5 := Lib.hid h5
  have hx := kp_new.poke true a (digs a2 n)
  have hp5 := fun hM => kp_new.back (x := a) kn u0 hal (by omega) hM
  have hpk := fun hM => kp_new.peek (x := a) (n := n) (u := a2) kp_zero hM
  have hy5 := fun hM => hx.back (x := a) (u := a3) kn y0 hal (by omega) hM
  have hs5 := hx.store kn a3 hal (show a + n ≤ 1280 by omega)
  obtain ⟨M, hM⟩ : ∃ M, pokeW true kpM a (digs a2 n) = M := ⟨_, rfl⟩
  rw [hM] at H5 hx hp5 hy5 hs5 hpk
  obtain ⟨M2, hM2⟩ : ∃ M2, pokeW true M a (digs a3 n) = M2 := ⟨_, rfl⟩
  rw [hM2] at hy5 hs5
  clear h5 hM hM2 kn
  refine H5.out.mono ?_
  rintro r5 v5 ⟨rfl, h6⟩
  have H6 := Lib.hid h6.out.1
  have HBK := Lib.hid (hp5 h6.out.1.at0.ok)
  have HPK := Lib.hid (hpk h6.out.1.at0.ok)
  have H7 := Lib.hid H6.out.copy
  have HL3 := Lib.hid (kp_len hx)
  clear h6 hp5 hpk H5
  go_wp2_with fail
  refine H7.out.mono ?_
  rintro r6 v6 ⟨rfl, h7⟩
  obtain ⟨S2, h7⟩ := h7.out
  obtain ⟨g2, hg2⟩ : ∃ g, v5.heap.size = g := ⟨_, rfl⟩
  rw [hg2] at h7 ⊢
  have h8 := h7.store a n a3 (by omega) y0 y1
  rw [hs5] at h8
  have H8 := Lib.hid h8
  clear h7 h8 H7
  go_wp2_with fail
  refine H8.out.mono ?_
  rintro r7 v7 ⟨rfl, h8⟩
  have H9 := Lib.hid h8.out.1
  have HBK2 := Lib.hid (hy5 h8.out.1.at0.ok)
  have h10 := (H6.out.later H9.out.bel).load a n (by omega)
  rw [HBK.out] at h10
  have H10 := Lib.hid h10
  clear h8 hy5 H8 h10
  go_wp2_with fail
  refine H10.out.mono ?_
  rintro r8 v8 ⟨rfl, hb8⟩
  have H11 := Lib.hid (H9.out.later hb8.out)
  have h12 := H11.out.load a n (by omega)
  rw [HBK2.out] at h12
  have H12 := Lib.hid h12
  clear hb8 h12 H10 H9
  go_wp2_with fail
  refine H12.out.mono ?_
  rintro r9 v9 ⟨rfl, hb9⟩
  have H13 := Lib.hid ((H6.out.later H11.out.bel).later hb9.out)
  have HL := Lib.hid (show loadR M a n 4 = (a2 % 256 ^ n, 0) from HBK.out)
  have HX := Lib.hid hx
  clear hb9 HBK HBK2 H12 H11 H6 H4 hs5 hcell hx
  obtain ⟨V, hV⟩ : ∃ V, a2 % 256 ^ n = V := ⟨_, rfl⟩
  obtain ⟨Y, hY⟩ : ∃ Y, a3 % 256 ^ n = Y := ⟨_, rfl⟩
  rw [hV] at HL
  rw [hV, hY]
  by_cases h88 : n = 8
  · subst h88
    have hV8 : V = a2 := by rw [← hV]; omega
    have hY8 : Y = a3 := by rw [← hY]; omega
    subst hV8 hY8
    have HL := Lib.hid (show loadR M a 8 4 = (V, 0) from HL.out)
    clear hV hY
    go_wp2_with fail
    refine (aw_peek H13.out 512 768 (by decide) (by decide)).mono ?_
    rintro r10 v10 ⟨vb, rfl, hrow, hb10⟩
    obtain ⟨Bx, hB1, hB2, hB3⟩ := HPK.out
    rw [hB1] at hrow ⊢
    rw [show (Bx, (0 : Int)).1.length = 768 from hB2] at hrow
    have hrow : v10.ownsRow v9.heap.size 5 1 vb 768 (Bx.map (Value.int .u8)) := hrow
    obtain ⟨gb, cb, rfl, hgb, hcb1, hcb2⟩ := own_b8 hrow (by decide)
    have HR10 := Lib.hid hrow
    have HB10 := Lib.hid hb10
    have HB3 := Lib.hid hB3
    have HB2 := Lib.hid hB2
    clear hrow hb10 hB1 hB2 hB3 HPK
    go_wp2
    go_loopw [22] (fun i wr => ∃ (k : Nat) (ys : List Int), k ≤ 768 ∧ ys.length = 768 ∧ (∀ q, k ≤ q → ys.getD q 0 = Bx.getD q 0) ∧ i = .int .u64 k ∧ wr.ownsRow v9.heap.size 5 1 (.slice (some ⟨gb, 0, none⟩) 768 cb) 768 (ys.map (Value.int .u8)) ∧ Below v9.heap.size v9 wr) (fun i _ => 768 - (intOf i).toNat)
    case atStart => exact ⟨0, Bx, Nat.zero_le _, HB2.out, fun _ _ => rfl, rfl, HR10.out, HB10.out⟩
    case round =>
      obtain ⟨k, ys, hk, hys, hsame, rfl, hown, hbel⟩ := hrel
      by_cases hlt : k < 768
      · have hc := hown.cellAt k (by omega)
        rw [getElem_map_u8 (by omega)] at hc
        have hf := hown.frozenAt k
        have hst := hown.stored k (.int .u8 1)
        rw [map_set_u8] at hst
        have hbs := hbel.setCell (p := ⟨gb, k, none⟩) hgb (.int .u8 1)
        have HST := Lib.hid hst
        have HBS := Lib.hid hbs
        have HYS := Lib.hid hys
        have HNX : Hid (∀ q, k + 1 ≤ q → (ys.set k 1).getD q 0 = Bx.getD q 0) := Lib.hid (fun q hq => by
          rw [List.getD_eq_getElem?_getD, List.getElem?_set, if_neg (by omega), ← List.getD_eq_getElem?_getD]
          exact hsame q (by omega))
        have hyk := hsame k (Nat.le_refl _)
        have hz := HB3.out k hlt
        obtain ⟨yk, hyk2⟩ : ∃ y, ys.getD k 0 = y := ⟨_, rfl⟩
        rw [hyk2] at hc hyk
        rw [← hyk] at hz
        clear hown hbel hst hbs hys hsame hyk hyk2
        by_cases hin : 512 + k < a ∨ a + 8 ≤ 512 + k
        · obtain rfl : yk = 0 := hz hin
          have hki : (512 : Int) + (k : Int) < a ∨ ¬ (512 : Int) + (k : Int) < a := by omega
          have hki2 : (a : Int) + (8 : Int) ≤ 512 + (k : Int) ∨ ¬ (a : Int) + (8 : Int) ≤ 512 + (k : Int) := by omega
          clear hz
          rcases hin with hin | hin
          · have hin1 : (512 : Int) + (k : Int) < a := by omega
            clear hki hki2
            go_wp2
            go_roundw
            case rel => exact ⟨k + 1, ys.set k 1, by omega, by rw [List.length_set]; exact HYS.out, HNX.out, by go_num, HST.out.1, HBS.out⟩
            case measure => simp [intOf]; omega
          · have hin1 : ¬ (512 : Int) + (k : Int) < a := by omega
            have hin2 : (a : Int) + (8 : Int) ≤ 512 + (k : Int) := by omega
            clear hki hki2
            go_wp2
            go_roundw
            case rel => exact ⟨k + 1, ys.set k 1, by omega, by rw [List.length_set]; exact HYS.out, HNX.out, by go_num, HST.out.1, HBS.out⟩
            case measure => simp [intOf]; omega
        · have hin1 : ¬ (512 : Int) + (k : Int) < a := by omega
          have hin2 : ¬ (a : Int) + (8 : Int) ≤ 512 + (k : Int) := by omega
          clear hz
          go_wp2
          go_roundw
          case rel => exact ⟨k + 1, ys.set k 1, by omega, by rw [List.length_set]; exact HYS.out, HNX.out, by go_num, HST.out.1, HBS.out⟩
          case measure => simp [intOf]; omega
      · clear hown
        have H14 := Lib.hid (H13.out.later hbel)
        clear hbel hsame
        have hl3 := HL3.out
        go_wp2_with fail
        refine (H14.out.pages (by rw [HL3.out]; decide)).mono ?_
        rintro r11 v11 ⟨v12, bl, rfl, hbl, hrow, hbk, hb11⟩
        have hlen : ∀ p ∈ M, p.b.length = 256 := fun p hp => (HX.out.ok p hp).1
        have hpb : ∀ j, j < 3 → wr.heap.size ≤ bl.getD j 0 ∧ PB v11 (bl.getD j 0) := fun j hj => by
          have e := hbk j (by rw [hl3]; exact hj)
          exact ⟨e.1, pb_of e.2 (hlen _ (pgs_mem (by rw [hl3]; exact hj)))⟩
        have hfl : ∀ j, j < 3 → (Vp.flat (vps M bl))[j * 6 + 5]? = some (.slice (some ⟨bl.getD j 0, 4, none⟩) 256 256) := fun j hj => by
          have hlv : (vps M bl).length = M.length := vps_len hbl
          have e := (Vp.flat_at (vps M bl) j (by rw [hlv, hl3]; exact hj)).2.2.2.2.2
          rw [vps_at hbl (by rw [hl3]; exact hj)] at e
          exact e
        rw [hl3] at hrow
        obtain ⟨ap, cp, rfl⟩ := own_slp hrow
        obtain ⟨gp, hgp, hcp1, hcp2⟩ : ∃ g, (Value.slice ap 3 cp) = .slice (some ⟨g, 0, none⟩) 3 cp ∧ (3 : Int) ≤ cp ∧ (cp : Int) ≤ 9223372036854775807 := by
          rcases hrow.2 with ⟨_, e0⟩ | ⟨g, cap, cur, hv, _, hg, h1, h2, _⟩
          · cases e0
          · injection hv with x1 x2 x3
            subst x1 x3
            exact ⟨g, rfl, by omega, by unfold maxLen at h2; omega⟩
        injection hgp with x1 x2 x3
        subst x1
        obtain ⟨FL, hFL⟩ : ∃ F, Vp.flat (vps M bl) = F := ⟨_, rfl⟩
        rw [hFL] at hrow hfl
        have HR11 := Lib.hid hrow
        have HPB := Lib.hid hpb
        have HFL := Lib.hid hfl
        have HAW : Hid (∀ wy, Below wr.heap.size v11 wy → AW v0 wy S M g (0 + 512)) := Lib.hid (fun wy hy => H14.out.later (hb11.trans hy))
        have HS11 := Lib.hid (hb11.size)
        obtain ⟨Bz, hBz⟩ : ∃ B, wr.heap.size = B := ⟨_, rfl⟩
        rw [hBz] at HR11 HPB HAW HS11
        clear hrow hbk hb11 hpb hfl hlen hbl hFL x2 x3 hl3 hBz H14 H13
        go_wp2
        go_loopw [24] (fun i wx => ∃ (k : Nat), k ≤ 3 ∧ i = .int .i64 k ∧ wx.ownsRow Bz 27 6 (.slice (some ⟨gp, 0, none⟩) 3 cp) 3 FL ∧ (∀ j, j < 3 → PB wx (bl.getD j 0)) ∧ Below Bz v11 wx) (fun i _ => 3 - (intOf i).toNat)
        case atStart => exact ⟨0, Nat.zero_le _, rfl, HR11.out, fun j hj => (HPB.out j hj).2, Below.refl _ _⟩
        case round =>
          obtain ⟨q, hq, rfl, hown, hpb, hbel⟩ := hrel
          by_cases hlt3 : q < 3
          · have hc := hown.cellAt (q * 6 + 5) (by omega)
            rw [HFL.out q hlt3] at hc
            obtain ⟨C, x, hB, hx⟩ := hpb q hlt3
            obtain ⟨b, hb⟩ : ∃ b, bl.getD q 0 = b := ⟨_, rfl⟩
            have hge := (HPB.out q hlt3).1
            rw [hb] at hc hB hge
            have hcb := (hB.cell 4).trans hx
            have hfb := hB.frozen 4
            have hbs := hbel.setCell (p := ⟨b, 4, none⟩) hge (.int .u8 9)
            have hpb2 : ∀ j, j < 3 → PB (wr.setCell ⟨b, 4, none⟩ (.int .u8 9)) (bl.getD j 0) := fun j hj => pb_set (hpb j hj)
            have hrow2 := hown.kept (grown_set wr b 4 (.int .u8 9)) (.inr (fun e => row_not_page hown hB e.symm))
            have HBS := Lib.hid hbs
            have HPB2 := Lib.hid hpb2
            have HRW2 := Lib.hid hrow2
            clear hown hpb hbel hB hx hbs hpb2 hrow2
            go_wp2
            go_roundw
            case rel => exact ⟨q + 1, by omega, by go_num, HRW2.out, HPB2.out, HBS.out⟩
            case measure => simp [intOf]; omega
          · have h20 := (HAW.out _ hbel).load a 8 (by omega)
            rw [HL.out] at h20
            have H20 := Lib.hid h20
            have H21 := Lib.hid (HAW.out _ hbel)
            clear hown hpb hbel h20
            go_wp2_with fail
            refine H20.out.mono ?_
            rintro r12 v12 ⟨rfl, hb12⟩
            go_wp2
            go_ret
            exact ⟨by first | rfl | (simp; done), HB.out.trans ((H21.out.later hb12.out).bel.mono HB.out.size)⟩
  · have hlt8 : (n : Int) < 8 := by omega
    have hne8 : ¬ (n : Int) = 8 := by omega
    obtain ⟨hB1, hB2⟩ : bits .and .u64 a2 (IntKind.u64.wrap (IntKind.u64.wrap (2 ^ (8 * n)) - 1)) = V ∧ bits .and .u64 a3 (IntKind.u64.wrap (IntKind.u64.wrap (2 ^ (8 * n)) - 1)) = Y := by
      have h3 : n = 1 ∨ n = 2 ∨ n = 4 := by
        have := HN.out
        unfold isW at this; omega
      rw [← hV, ← hY, ← mask_num u0 u1 h3, ← mask_num y0 y1 h3]
      rcases h3 with rfl | rfl | rfl <;> exact ⟨rfl, rfl⟩
    clear hV hY
    go_wp2_with fail
    refine (aw_peek H13.out 512 768 (by decide) (by decide)).mono ?_
    rintro r10 v10 ⟨vb, rfl, hrow, hb10⟩
    obtain ⟨Bx, hB1, hB2, hB3⟩ := HPK.out
    rw [hB1] at hrow ⊢
    rw [show (Bx, (0 : Int)).1.length = 768 from hB2] at hrow
    have hrow : v10.ownsRow v9.heap.size 5 1 vb 768 (Bx.map (Value.int .u8)) := hrow
    obtain ⟨gb, cb, rfl, hgb, hcb1, hcb2⟩ := own_b8 hrow (by decide)
    have HR10 := Lib.hid hrow
    have HB10 := Lib.hid hb10
    have HB3 := Lib.hid hB3
    have HB2 := Lib.hid hB2
    clear hrow hb10 hB1 hB2 hB3 HPK
    go_wp2
    go_loopw [22] (fun i wr => ∃ (k : Nat) (ys : List Int), k ≤ 768 ∧ ys.length = 768 ∧ (∀ q, k ≤ q → ys.getD q 0 = Bx.getD q 0) ∧ i = .int .u64 k ∧ wr.ownsRow v9.heap.size 5 1 (.slice (some ⟨gb, 0, none⟩) 768 cb) 768 (ys.map (Value.int .u8)) ∧ Below v9.heap.size v9 wr) (fun i _ => 768 - (intOf i).toNat)
    case atStart => exact ⟨0, Bx, Nat.zero_le _, HB2.out, fun _ _ => rfl, rfl, HR10.out, HB10.out⟩
    case round =>
      obtain ⟨k, ys, hk, hys, hsame, rfl, hown, hbel⟩ := hrel
      by_cases hlt : k < 768
      · have hc := hown.cellAt k (by omega)
        rw [getElem_map_u8 (by omega)] at hc
        have hf := hown.frozenAt k
        have hst := hown.stored k (.int .u8 1)
        rw [map_set_u8] at hst
        have hbs := hbel.setCell (p := ⟨gb, k, none⟩) hgb (.int .u8 1)
        have HST := Lib.hid hst
        have HBS := Lib.hid hbs
        have HYS := Lib.hid hys
        have HNX : Hid (∀ q, k + 1 ≤ q → (ys.set k 1).getD q 0 = Bx.getD q 0) := Lib.hid (fun q hq => by
          rw [List.getD_eq_getElem?_getD, List.getElem?_set, if_neg (by omega), ← List.getD_eq_getElem?_getD]
          exact hsame q (by omega))
        have hyk := hsame k (Nat.le_refl _)
        have hz := HB3.out k hlt
        obtain ⟨yk, hyk2⟩ : ∃ y, ys.getD k 0 = y := ⟨_, rfl⟩
        rw [hyk2] at hc hyk
        rw [← hyk] at hz
        clear hown hbel hst hbs hys hsame hyk hyk2
        by_cases hin : 512 + k < a ∨ a + n ≤ 512 + k
        · obtain rfl : yk = 0 := hz hin
          have hki : (512 : Int) + (k : Int) < a ∨ ¬ (512 : Int) + (k : Int) < a := by omega
          have hki2 : (a : Int) + (n : Int) ≤ 512 + (k : Int) ∨ ¬ (a : Int) + (n : Int) ≤ 512 + (k : Int) := by omega
          clear hz
          rcases hin with hin | hin
          · have hin1 : (512 : Int) + (k : Int) < a := by omega
            clear hki hki2
            go_wp2
            go_roundw
            case rel => exact ⟨k + 1, ys.set k 1, by omega, by rw [List.length_set]; exact HYS.out, HNX.out, by go_num, HST.out.1, HBS.out⟩
            case measure => simp [intOf]; omega
          · have hin1 : ¬ (512 : Int) + (k : Int) < a := by omega
            have hin2 : (a : Int) + (n : Int) ≤ 512 + (k : Int) := by omega
            clear hki hki2
            go_wp2
            go_roundw
            case rel => exact ⟨k + 1, ys.set k 1, by omega, by rw [List.length_set]; exact HYS.out, HNX.out, by go_num, HST.out.1, HBS.out⟩
            case measure => simp [intOf]; omega
        · have hin1 : ¬ (512 : Int) + (k : Int) < a := by omega
          have hin2 : ¬ (a : Int) + (n : Int) ≤ 512 + (k : Int) := by omega
          clear hz
          go_wp2
          go_roundw
          case rel => exact ⟨k + 1, ys.set k 1, by omega, by rw [List.length_set]; exact HYS.out, HNX.out, by go_num, HST.out.1, HBS.out⟩
          case measure => simp [intOf]; omega
      · clear hown
        have H14 := Lib.hid (H13.out.later hbel)
        clear hbel hsame
        have hl3 := HL3.out
        go_wp2_with fail
        refine (H14.out.pages (by rw [HL3.out]; decide)).mono ?_
        rintro r11 v11 ⟨v12, bl, rfl, hbl, hrow, hbk, hb11⟩
        have hlen : ∀ p ∈ M, p.b.length = 256 := fun p hp => (HX.out.ok p hp).1
        have hpb : ∀ j, j < 3 → wr.heap.size ≤ bl.getD j 0 ∧ PB v11 (bl.getD j 0) := fun j hj => by
          have e := hbk j (by rw [hl3]; exact hj)
          exact ⟨e.1, pb_of e.2 (hlen _ (pgs_mem (by rw [hl3]; exact hj)))⟩
        have hfl : ∀ j, j < 3 → (Vp.flat (vps M bl))[j * 6 + 5]? = some (.slice (some ⟨bl.getD j 0, 4, none⟩) 256 256) := fun j hj => by
          have hlv : (vps M bl).length = M.length := vps_len hbl
          have e := (Vp.flat_at (vps M bl) j (by rw [hlv, hl3]; exact hj)).2.2.2.2.2
          rw [vps_at hbl (by rw [hl3]; exact hj)] at e
          exact e
        rw [hl3] at hrow
        obtain ⟨ap, cp, rfl⟩ := own_slp hrow
        obtain ⟨gp, hgp, hcp1, hcp2⟩ : ∃ g, (Value.slice ap 3 cp) = .slice (some ⟨g, 0, none⟩) 3 cp ∧ (3 : Int) ≤ cp ∧ (cp : Int) ≤ 9223372036854775807 := by
          rcases hrow.2 with ⟨_, e0⟩ | ⟨g, cap, cur, hv, _, hg, h1, h2, _⟩
          · cases e0
          · injection hv with x1 x2 x3
            subst x1 x3
            exact ⟨g, rfl, by omega, by unfold maxLen at h2; omega⟩
        injection hgp with x1 x2 x3
        subst x1
        obtain ⟨FL, hFL⟩ : ∃ F, Vp.flat (vps M bl) = F := ⟨_, rfl⟩
        rw [hFL] at hrow hfl
        have HR11 := Lib.hid hrow
        have HPB := Lib.hid hpb
        have HFL := Lib.hid hfl
        have HAW : Hid (∀ wy, Below wr.heap.size v11 wy → AW v0 wy S M g (0 + 512)) := Lib.hid (fun wy hy => H14.out.later (hb11.trans hy))
        have HS11 := Lib.hid (hb11.size)
        obtain ⟨Bz, hBz⟩ : ∃ B, wr.heap.size = B := ⟨_, rfl⟩
        rw [hBz] at HR11 HPB HAW HS11
        clear hrow hbk hb11 hpb hfl hlen hbl hFL x2 x3 hl3 hBz H14 H13
        go_wp2
        go_loopw [24] (fun i wx => ∃ (k : Nat), k ≤ 3 ∧ i = .int .i64 k ∧ wx.ownsRow Bz 27 6 (.slice (some ⟨gp, 0, none⟩) 3 cp) 3 FL ∧ (∀ j, j < 3 → PB wx (bl.getD j 0)) ∧ Below Bz v11 wx) (fun i _ => 3 - (intOf i).toNat)
        case atStart => exact ⟨0, Nat.zero_le _, rfl, HR11.out, fun j hj => (HPB.out j hj).2, Below.refl _ _⟩
        case round =>
          obtain ⟨q, hq, rfl, hown, hpb, hbel⟩ := hrel
          by_cases hlt3 : q < 3
          · have hc := hown.cellAt (q * 6 + 5) (by omega)
            rw [HFL.out q hlt3] at hc
            obtain ⟨C, x, hB, hx⟩ := hpb q hlt3
            obtain ⟨b, hb⟩ : ∃ b, bl.getD q 0 = b := ⟨_, rfl⟩
            have hge := (HPB.out q hlt3).1
            rw [hb] at hc hB hge
            have hcb := (hB.cell 4).trans hx
            have hfb := hB.frozen 4
            have hbs := hbel.setCell (p := ⟨b, 4, none⟩) hge (.int .u8 9)
            have hpb2 : ∀ j, j < 3 → PB (wr.setCell ⟨b, 4, none⟩ (.int .u8 9)) (bl.getD j 0) := fun j hj => pb_set (hpb j hj)
            have hrow2 := hown.kept (grown_set wr b 4 (.int .u8 9)) (.inr (fun e => row_not_page hown hB e.symm))
            have HBS := Lib.hid hbs
            have HPB2 := Lib.hid hpb2
            have HRW2 := Lib.hid hrow2
            clear hown hpb hbel hB hx hbs hpb2 hrow2
            go_wp2
            go_roundw
            case rel => exact ⟨q + 1, by omega, by go_num, HRW2.out, HPB2.out, HBS.out⟩
            case measure => simp [intOf]; omega
          · have h20 := (HAW.out _ hbel).load a n (by omega)
            rw [HL.out] at h20
            have H20 := Lib.hid h20
            have H21 := Lib.hid (HAW.out _ hbel)
            clear hown hpb hbel h20
            go_wp2_with fail
            refine H20.out.mono ?_
            rintro r12 v12 ⟨rfl, hb12⟩
            go_wp2
            go_ret
            exact ⟨by first | rfl | (simp; done), HB.out.trans ((H21.out.later hb12.out).bel.mono HB.out.size)⟩
set_option maxRecDepth 100000 in
set_option maxHeartbeats 1600000 in
theorem walk (a0 : Int) (a1 : Int) (a2 : Int) (a3 : Int) (w : World) (w0 : (Lit.int .u64 a0).wf = true) (w1 : (Lit.int .i64 a1).wf = true) (w2 : (Lit.int .u64 a2).wf = true) (w3 : (Lit.int .u64 a3).wf = true) :
    Calls Try.prog 4 #[.int .u64 a0, .int .i64 a1, .int .u64 a2, .int .u64 a3] w fun e w' => e = .returned (.bool true) ∧ Below w.heap.size w w' := by
  exact walkAll w a0 a1 a2 a3 w0 w1 w2 w3

set_option maxRecDepth 100000 in
theorem lifted (os : Os) (started : os.Started) (H : Type) (enc : TypeId × Value → H) :
    ReturnsInHanded {} Try.checked os 4 .any (Rows.vmemKeepsSpec.pre6 enc Try.prog Try.f4 Rows.vmemKeepsRow.domain false) (Rows.vmemKeepsSpec.post enc Try.prog Try.f4 false true false false) := by
  refine returnsInHanded_of_change (C := Try.checked) own started (by kernel_rfl) Try.func4
    (ChangeSpec.witness6 (enc := enc) (C := Try.checked) false ⟨#[], #[.int .u64 0, .int .i64 0, .int .u64 0, .int .u64 0], []⟩ 8 (by kernel_rfl) (by kernel_rfl) (by kernel_rfl) (by kernel_rfl)) ?_
  intro W base args ds gs before hval0 hW hcnd _
  have hval : ∀ (j : Nat) t v, Try.f4.params[j]? = some t → args[j]? = some v → Value.okWide Try.prog W .any base t v := hval0
  have hW' := hW
  obtain ⟨p, q, hA0, hV, rfl, hfz, hnd⟩ := hW
  have hA : DataW.TrodAll enc Try.prog W 0 (fun _ => true) true Try.f4.params.toList args.toList ds p := hA0
  rw [Try.params4] at hA hval
  obtain ⟨v0, vs0, d0, ds0, p0, q0, hargs, rfl, rfl, h0, r0⟩ := trodAll_cons hA
  obtain ⟨v1, vs1, d1, ds1, p1, q1, rfl, rfl, rfl, h1, r1⟩ := trodAll_cons r0
  obtain ⟨v2, vs2, d2, ds2, p2, q2, rfl, rfl, rfl, h2, r2⟩ := trodAll_cons r1
  obtain ⟨v3, vs3, d3, ds3, p3, q3, rfl, rfl, rfl, h3, r3⟩ := trodAll_cons r2
  obtain ⟨rfl, rfl, rfl⟩ := trodAll_nil r3
  obtain rfl : args = #[v0, v1, v2, v3] := by cases args; simp_all
  obtain ⟨rfl, rfl⟩ := trodVars_none hV
  obtain ⟨a0, rfl, rfl, rfl, w0⟩ := open_int Try.underlying24 (hval 0 24 v0 rfl rfl) h0
  obtain ⟨a1, rfl, rfl, rfl, w1⟩ := open_int Try.underlying3 (hval 1 3 v1 rfl rfl) h1
  obtain ⟨a2, rfl, rfl, rfl, w2⟩ := open_int Try.underlying24 (hval 2 24 v2 rfl rfl) h2
  obtain ⟨a3, rfl, rfl, rfl, w3⟩ := open_int Try.underlying24 (hval 3 24 v3 rfl rfl) h3
  clear hA0 hval0
  refine (walk a0 a1 a2 a3 W w0 w1 w2 w3).mono fun e W' ⟨he, bel⟩ => ?_
  subst he
  exact ⟨_, rfl, _, _, _, [], _, [], hW', trodAll_mk1 (shut_bool Try.underlying4 _), (trodAll_cons_mk (shut_int Try.underlying24 w0) (trodAll_cons_mk (shut_int Try.underlying3 w1) (trodAll_cons_mk (shut_int Try.underlying24 w2) (trodAll_cons_mk (shut_int Try.underlying24 w3) trodAll_mk0)))), rfl, bel.frame _, fun h => by cases h⟩

theorem over : Rows.vmemKeepsRow.holds Try.pinned (OpenSpec.ofChange Rows.vmemKeepsSpec) :=
  OpenClaim.holds_of_wide 4 Try.f4 rfl rfl rfl rfl rfl rfl rfl ⟨rfl, rfl, rfl, rfl, rfl⟩ rfl rfl rfl rfl rfl (by kernel_rfl) Try.func4 (by kernel_rfl)
    (of_decide_eq_true (by kernel_rfl)) (by unfold Func.isWrapper; first | (rw [if_pos (by decide +kernel)]; kernel_rfl) | (rw [if_neg (by decide +kernel)]; exact ⟨rfl, rfl⟩))
    (fun os started H enc _ => lifted os started H enc)

theorem proved : Rows.VmemKeepsSaid := over
#print axioms proved
end Go.Proofs.Ytakhkhkiahkpgaa.vmemKeeps
