/-
  What is proved here: Map of package vmem.
  Conditions: none.
-/
import Derived.Test.YtkhfmgifpppcmaaDoorVmRng
import Derived.Test.YtkhfmgifpppcmaaDoorVmSto
import Derived.Test.YtkhfmgifpppcmaaDoorOMeet
namespace Go.Proofs.YtkhfmgifpppcmaaDoor
open Go.RowKit Go.WideMaps Go.Maps
set_option linter.unusedVariables false
set_option linter.unusedSimpArgs false

def zeros : List Int := List.replicate 256 0
/-- The page number j of some new ones. -/
def newPg (prot : Int) (f : ByteArray) (off : Int) (x j : Nat) : Pg := ⟨x + j * 256, prot, false, f, if f.toList.isEmpty = true then 0 else IntKind.u64.wrap (off + (j : Int) * 256), zeros⟩
def addN (prot : Int) (f : ByteArray) (off : Int) (M : List Pg) (x : Nat) : Nat → List Pg
  | 0 => M
  | k + 1 => insP (addN prot f off M x k) (newPg prot f off x k)
def overP (M : List Pg) (x n : Nat) : Bool := M.any fun p => meetB p.a 256 x n
def mapR (M : List Pg) (x n : Nat) (prot : Int) (f : ByteArray) (off : Int) : List Pg × Int :=
  if (rangeP x n && protP prot) = true then
    if overP M x n = true then (M, 12) else if 512 < M.length + n / 256 then (M, 13) else (addN prot f off M x (n / 256), 0)
  else (M, 1)
theorem addN_len (prot : Int) (f : ByteArray) (off : Int) (M : List Pg) (x : Nat) : ∀ k, (addN prot f off M x k).length = M.length + k
  | 0 => rfl
  | k + 1 => by
    unfold addN
    rw [ins_len, addN_len prot f off M x k]; omega
theorem addN_find {prot : Int} {f : ByteArray} {off : Int} {M : List Pg} {x : Nat} : ∀ k, (∀ j, j < k → findP M (x + j * 256) = none) → ∀ y, (∀ j, j < k → y ≠ x + j * 256) → findP (addN prot f off M x k) y = findP M y
  | 0, _, y, _ => rfl
  | k + 1, h, y, hy => by
    have ih := addN_find (prot := prot) (f := f) (off := off) k (fun j hj => h j (by omega))
    unfold addN
    rw [ins_find y (by
      show findP (addN prot f off M x k) (x + k * 256) = none
      rw [ih _ (fun j hj => by omega)]
      exact h k (by omega))]
    rw [if_neg (show ¬ y = (newPg prot f off x k).a from hy k (by omega)), ih y (fun j hj => hy j (by omega))]
theorem addN_none {prot : Int} {f : ByteArray} {off : Int} {M : List Pg} {x k : Nat} (h : ∀ j, j ≤ k → findP M (x + j * 256) = none) : findP (addN prot f off M x k) (x + k * 256) = none := by
  rw [addN_find k (fun j hj => h j (by omega)) _ (fun j hj => by omega)]
  exact h k (Nat.le_refl _)
theorem VAt.more {w : World} {S : VS} {M : List Pg} {c c' : Nat} (h : VAt w S M c) (hc : c ≤ c') : VAt w S M c' :=
  ⟨h.sp, by
    have := h.mp
    unfold MapV at *
    split
    · rename_i e; rw [e] at this; exact this
    · rename_i b e
      rw [e] at this
      obtain ⟨D, n, hn, r⟩ := this
      exact ⟨D, n, Nat.le_trans hn hc, r⟩, h.pg, h.inj, h.ok, h.so, h.le, h.og, h.om, h.op, h.sm⟩
theorem VFr.of_below {w w' : World} {S : VS} (h : Below w.heap.size w w') : VFr w w' S S := ⟨h.os, h.tape, h.output, h.size, fun k hk _ => h.block k hk, rfl, fun _ h => .inl h⟩
theorem over_no {M : List Pg} {x n : Nat} (h : overP M x n = false) (hM : ∀ p ∈ M, p.Ok) (hx : x % 256 = 0) (hn : n % 256 = 0) {j : Nat} (hj : j < n / 256) : findP M (x + j * 256) = none := by
  refine findP_none fun hm => ?_
  obtain ⟨p, hp, ha⟩ := List.mem_map.1 hm
  unfold overP at h
  rw [List.any_eq_false] at h
  have h1 := h p hp
  have h2 := (hM p hp).al
  refine h1 ?_
  unfold meetB
  rw [if_neg (by omega), ha]
  split
  · rw [decide_eq_true_eq]; omega
  · rw [decide_eq_true_eq]; omega
theorem newPg_ok {prot : Int} {f : ByteArray} {off : Int} {x n j : Nat} (hr : rangeP x n = true) (hp : protP prot = true) (hf : f.size ≤ maxLen) (hj : j < n / 256) : (newPg prot f off x j).Ok := by
  unfold rangeP at hr
  unfold protP at hp
  simp only [Bool.and_eq_true, decide_eq_true_eq] at hr hp
  refine ⟨?_, ?_, hp, hf, ?_, by show zeros.length = 256; unfold zeros; exact List.length_replicate, fun m hm => ?_⟩
  · show (x + j * 256) % 256 = 0; omega
  · show x + j * 256 < 4294967296; omega
  · show 0 ≤ (if f.toList.isEmpty = true then (0 : Int) else IntKind.u64.wrap (off + (j : Int) * 256)) ∧ (if f.toList.isEmpty = true then (0 : Int) else IntKind.u64.wrap (off + (j : Int) * 256)) ≤ 18446744073709551615
    by_cases e : f.toList.isEmpty = true
    · rw [if_pos e]; exact ⟨by decide, by decide⟩
    · rw [if_neg e]
      have : IntKind.u64.wrap (off + (j : Int) * 256) = (off + (j : Int) * 256) % 18446744073709551616 := rfl
      rw [this]; omega
  · have : m ∈ zeros := hm
    unfold zeros at this
    rw [List.eq_of_mem_replicate this]; exact ⟨by decide, by decide⟩
theorem newC_is (prot : Int) (f : ByteArray) (a : Nat) : pgC ⟨a, prot, false, f, 0, zeros⟩ = ((Tryd.zeroCells54.setIfInBounds 0 (.int .i64 prot)).setIfInBounds 2 (.string f)) := by kernel_rfl
theorem pgC_off (p : Pg) (u : Int) : (pgC p).setIfInBounds 3 (.int .u64 u) = pgC { p with off := u } := by
  unfold pgC
  simp
theorem VFr.added {wk WA w' : World} {S' S'' : VS} (hb : Below wk.heap.size wk WA) (hg : S''.g = S'.g) (ho : ∀ j, S''.own j → S'.own j ∨ j = wk.heap.size ∨ WA.heap.size ≤ j) (hf : ∀ j, j < WA.heap.size → ¬ S'.own j → w'.heap[j]? = WA.heap[j]?) (h1 : w'.os = WA.os) (h2 : w'.tape = WA.tape) (h3 : w'.output = WA.output) (h4 : WA.heap.size ≤ w'.heap.size) : VFr wk w' S' S'' :=
  ⟨h1.trans hb.os, h2.trans hb.tape, h3.trans hb.output, Nat.le_trans hb.size h4, fun k hk hn => (hf k (Nat.lt_of_lt_of_le hk hb.size) hn).trans (hb.block k hk), hg, fun k hk => by
    rcases ho k hk with h | h | h
    · exact .inl h
    · exact .inr (by omega)
    · exact .inr (Nat.le_trans hb.size h)⟩
def MapPost (w : World) (S : VS) (c : Nat) (R : List Pg × Int) (r : Ending) (w' : World) : Prop :=
  r = .returned (.int .i64 R.2) ∧ ∃ S', VAt w' S' R.1 (c + 512) ∧ VFr w w' S S'
set_option maxHeartbeats 12800000 in
set_option maxRecDepth 100000 in
theorem Map_ok {w : World} {S : VS} {M : List Pg} {c : Nat} (h : VAt w S M c) (x n : Nat) (prot : Int) (f : ByteArray) (off : Int) (x1 : x ≤ 18446744073709551615) (n1 : n ≤ 18446744073709551615) (hf : f.size ≤ maxLen) (o0 : 0 ≤ off) (o1 : off ≤ 18446744073709551615) (hc : c ≤ 1099511000000) :
    Calls Tryd.prog 6 #[ptrV S.g, .int .u64 x, .int .u64 n, .int .i64 prot, .string f, .int .u64 off] w (MapPost w S c (mapR M x n prot f off)) := by
  have HR := Lib.hid (range_ok w x n (by omega) (by omega) (by omega) (by omega))
  have HP := Lib.hid (prot_ok w prot)
  have HH := Lib.hid h
  have hcs := cmp_sp S.g w
  unfold mapR MapPost
  cases hr : rangeP x n with
  | false =>
    have HE : Hid (VAt w S M (c + 512)) := Lib.hid (h.more (by omega))
    rw [hr] at HR
    simp only [Bool.false_and, Bool.false_eq_true, if_false]
    clear h hr hc HP
    unfold ptrV at *
    go_enter Tryd.func6, Tryd.ntmps6
    go_wp2_with fail
    refine HR.out.mono ?_
    rintro r0 w0 ⟨rfl, rfl⟩
    go_wp2
    go_ret
    exact ⟨rfl, S, HE.out, VFr.refl _ _⟩
  | true =>
    cases hp : protP prot with
    | false =>
      have HE : Hid (VAt w S M (c + 512)) := Lib.hid (h.more (by omega))
      rw [hr] at HR
      rw [hp] at HP
      simp only [Bool.and_false, Bool.false_eq_true, if_false]
      clear h hr hc hp
      unfold ptrV at *
      go_enter Tryd.func6, Tryd.ntmps6
      go_wp2_with fail
      refine HR.out.mono ?_
      rintro r0 w0 ⟨rfl, rfl⟩
      go_wp2_with fail
      refine HP.out.mono ?_
      rintro r0 w0 ⟨rfl, rfl⟩
      go_wp2
      go_ret
      exact ⟨rfl, S, HE.out, VFr.refl _ _⟩
    | true =>
      rw [hr] at HR
      rw [hp] at HP
      simp only [Bool.and_self, if_true]
      have HRG := Lib.hid hr
      have HPR := Lib.hid hp
      have HC := Lib.hid hc
      have c0 : w.cell? ⟨S.g, 0, none⟩ = some (.map S.m) := h.sp.cell 0
      have HE : Hid (∀ w', Below w.heap.size w w' → VAt w' S M (c + 512)) := Lib.hid (fun w' hb => (h.below hb).more (by omega))
      obtain ⟨R, hR⟩ : ∃ R, (if overP M x n = true then (M, 12) else if 512 < M.length + n / 256 then (M, 13) else (addN prot f off M x (n / 256), (0 : Int))) = R := ⟨_, rfl⟩
      rw [hR]
      have HRR := Lib.hid hR
      have HF := Lib.hid hf
      clear hr hp hc h hR
      unfold ptrV at *
      go_enter Tryd.func6, Tryd.ntmps6
      go_wp2_with fail
      refine HR.out.mono ?_
      rintro r0 w0 ⟨rfl, rfl⟩
      go_wp2_with fail
      refine HP.out.mono ?_
      rintro r0 w0 ⟨rfl, rfl⟩
      clear HR HP
      go_wp2_with (first | (at_range; refine wpList_range_v _ rfl _ rfl rfl HH.out ?_; intro w1 left0 cnt0 hrg0 hall0 hcnt0 hg0 hs0) | go_in)
      go_frame
      have hb0 : Below w0.heap.size w0 w1 := (Below.refl _ _).grown hg0 (Nat.le_refl _) (fun _ h => by cases h)
      go_loopw [13] (fun _ wr => ∃ (left : Lit → Bool) (cnt : Nat), RngV wr S M w0.heap.size left cnt ∧ Hid (∀ p ∈ M, left (keyU p.a) = false → meetB p.a 256 x n = false) ∧ Hid (Below w0.heap.size w0 wr)) (fun _ wr => lftV S w0.heap.size wr)
      case atStart => exact ⟨_, _, hrg0, Lib.hid (fun p hp hl => by rw [hall0 p hp] at hl; cases hl), Lib.hid hb0⟩
      case round =>
        clear hrg0 hall0 hcnt0 hg0 hs0 hb0
        obtain ⟨left, cnt, hrg, HNO, HB⟩ := hrel
        have HRNG := Lib.hid hrg
        go_wp2_with (first | (at_next; refine wpList_next_v _ rfl _ rfl rfl HRNG.out ?_ ?_) | go_in)
        · intro hl0
          have hov : overP M x n = false := by
            unfold overP
            rw [List.any_eq_false]
            intro p hp
            rw [HNO.out p hp (hl0 p hp)]; decide
          have HOV := Lib.hid hov
          have HAT := Lib.hid (HH.out.below HB.out)
          clear hl0 hov hrg HRNG HNO
          have c0 : wr.cell? ⟨S.g, 0, none⟩ = some (.map S.m) := HAT.out.sp.cell 0
          have hlen := HAT.out.mp.len
          have hle := HAT.out.le
          have hrg2 := HRG.out
          unfold rangeP at hrg2
          simp only [Bool.and_eq_true, decide_eq_true_eq] at hrg2
          obtain ⟨m, hm⟩ : ∃ m, n = 256 * m := ⟨n / 256, by omega⟩
          have HX := Lib.hid hrg2
          have hm4 : m ≤ 16777216 := by omega
          have HN : Hid (n / 256 = m) := Lib.hid (by omega)
          have hq : (n : Int) / 256 = m := by omega
          have HNM := Lib.hid hm
          have hni : (n : Int) = (m : Int) * 256 := by omega
          clear hrg2 hm
          by_cases hsz : 512 < M.length + m
          · have hszi : (512 : Int) < (M.length : Int) + (m : Int) := by omega
            have HSZ := Lib.hid hsz
            clear hsz
            go_wp2
            go_ret
            refine ⟨?_, S, ?_, VFr.of_below HB.out⟩
            · rw [← HRR.out, if_neg (by rw [HOV.out]; decide), HN.out, if_pos HSZ.out]; rfl
            · rw [← HRR.out, if_neg (by rw [HOV.out]; decide), HN.out, if_pos HSZ.out]
              exact HE.out _ HB.out
          · have hszi : ¬ (512 : Int) < (M.length : Int) + (m : Int) := by omega
            have HSZ := Lib.hid hsz
            have HRE : Hid (R = (addN prot f off M x m, 0)) := Lib.hid (by rw [← HRR.out, if_neg (by rw [HOV.out]; decide), HN.out, if_neg HSZ.out])
            have HNE : Hid (∀ j, j < m → findP M (x + j * 256) = none) := Lib.hid (fun j hj => over_no HOV.out HH.out.ok (by have := HX.out; omega) (by have := HNM.out; omega) (by rw [HN.out]; exact hj))
            have hx4 : (x : Int) + (m : Int) * 256 ≤ 4294967296 := by have := HX.out; omega
            clear hsz HRR HE HOV
            go_wp2
            obtain ⟨wo, rfl⟩ : ∃ wo : World, wo = wr := ⟨_, rfl⟩
            go_loopw [14, 15] (fun d _ wk => ∃ (k : Nat) (S' : VS), k ≤ m ∧ d = .int .u64 ((k : Int) * 256) ∧ Hid (VAt wk S' (addN prot f off M x k) (c + k)) ∧ Hid (VFr w0 wk S S')) (fun d _ _ => m - (intOf d / 256).toNat)
            case atStart => exact ⟨0, S, Nat.zero_le _, rfl, HAT, Lib.hid (VFr.of_below HB.out)⟩
            case round =>
              obtain ⟨k, S', hkm, rfl, HAT2, HFR⟩ := hrel
              by_cases hlt : k < m
              · have hlti : (k : Int) * 256 < n := by omega
                have HK := Lib.hid hlt
                have hkz : wr.heap.size < wr.heap.size + 1 := Nat.lt_succ_self _
                have hp := newPg_ok (off := off) HRG.out HPR.out HF.out (show k < n / 256 by rw [HN.out]; exact hlt)
                have hna : findP (addN prot f off M x k) (newPg prot f off x k).a = none := addN_none (fun j hj => HNE.out j (by omega))
                have hln : (addN prot f off M x k).length < 512 := by rw [addN_len]; have := HSZ.out; omega
                have hko : ¬ S'.own wr.heap.size := fun ho => Nat.lt_irrefl _ (HAT2.out.sm _ ho)
                have hw2 : IntKind.u64.wrap ((x : Int) + (k : Int) * 256) = (x : Int) + (k : Int) * 256 := by
                  show ((x : Int) + (k : Int) * 256) % 18446744073709551616 = _
                  omega
                have hwd : IntKind.u64.wrap ((k : Int) * 256 + 256) = ((k + 1 : Nat) : Int) * 256 := by
                  show ((k : Int) * 256 + 256) % 18446744073709551616 = _
                  omega
                have HADD : Hid (∀ WA : World, Below wr.heap.size wr WA → Blk WA wr.heap.size (pgC (newPg prot f off x k)) 54 → Calls Tryd.prog 14 #[.pointer (some ⟨S.g, 0, none⟩), .int .u64 ((x : Int) + (k : Int) * 256), .pointer (some ⟨wr.heap.size, 0, none⟩)] WA fun r w' => r = .returned (.tuple #[]) ∧ Hid (∃ S'', VAt w' S'' (addN prot f off M x (k + 1)) (c + (k + 1)) ∧ VFr w0 w' S S'')) := Lib.hid (fun WA hb hk => by
                  have h := add_ok (HAT2.out.below hb) hp hna hln (by have := HC.out; have := HSZ.out; omega) hk hko
                  rw [HFR.out.g] at h
                  refine h.mono ?_
                  rintro r w' ⟨rfl, S'', h1, h2, h3, h4, h5, h6, h7, h8⟩
                  exact ⟨rfl, Lib.hid ⟨S'', h1, HFR.out.trans (VFr.added hb (by rw [h2, HFR.out.g]) h3 h4 h5 h6 h7 h8)⟩⟩)
                clear hp hna hln hko hkz hni hq hlen hle c0 hszi
                cases hfe : f.toList.isEmpty with
                | true =>
                  have hnp : newPg prot f off x k = ⟨x + k * 256, prot, false, f, 0, zeros⟩ := by unfold newPg; rw [if_pos hfe]
                  rw [hnp] at HADD
                  rw [newC_is] at HADD
                  have HC2 := Lib.hid (HADD.out (wr.alloc (.cells ((Tryd.zeroCells54.setIfInBounds 0 (.int .i64 prot)).setIfInBounds 2 (.string f)) 54)) ((Below.refl _ _).alloc (Nat.le_refl _) _) (Blk.new wr _ _))
                  clear HADD hnp
                  go_wp2_with fail
                  refine HC2.out.mono ?_
                  rintro r w4 ⟨rfl, HE4⟩
                  go_wp2
                  go_roundw
                  case rel => exact ⟨k + 1, HE4.out.choose, HK.out, by go_num, Lib.hid HE4.out.choose_spec.1, Lib.hid HE4.out.choose_spec.2⟩
                  case measure => have := HK.out; simp [intOf]; omega
                | false =>
                  have hnp : newPg prot f off x k = { (⟨x + k * 256, prot, false, f, 0, zeros⟩ : Pg) with off := IntKind.u64.wrap (off + (k : Int) * 256) } := by unfold newPg; rw [if_neg (by rw [hfe]; decide)]
                  rw [hnp, ← pgC_off, newC_is] at HADD
                  have HC2 := Lib.hid (HADD.out (wr.alloc (.cells (((Tryd.zeroCells54.setIfInBounds 0 (.int .i64 prot)).setIfInBounds 2 (.string f)).setIfInBounds 3 (.int .u64 (IntKind.u64.wrap (off + (k : Int) * 256)))) 54)) ((Below.refl _ _).alloc (Nat.le_refl _) _) (Blk.new wr _ _))
                  have c3 : (wr.alloc (.cells ((Tryd.zeroCells54.setIfInBounds 0 (.int .i64 prot)).setIfInBounds 2 (.string f)) 54)).cell? ⟨wr.heap.size, 3, none⟩ = some (.int .u64 0) := (Blk.new wr ((Tryd.zeroCells54.setIfInBounds 0 (.int .i64 prot)).setIfInBounds 2 (.string f)) 54).cell 3
                  have f3 : (wr.alloc (.cells ((Tryd.zeroCells54.setIfInBounds 0 (.int .i64 prot)).setIfInBounds 2 (.string f)) 54)).frozen? ⟨wr.heap.size, 3, none⟩ = false := (Blk.new wr ((Tryd.zeroCells54.setIfInBounds 0 (.int .i64 prot)).setIfInBounds 2 (.string f)) 54).frozen 3
                  clear HADD hnp
                  go_wp2_with fail
                  refine HC2.out.mono ?_
                  rintro r w4 ⟨rfl, HE4⟩
                  go_wp2
                  go_roundw
                  case rel => exact ⟨k + 1, HE4.out.choose, HK.out, by go_num, Lib.hid HE4.out.choose_spec.1, Lib.hid HE4.out.choose_spec.2⟩
                  case measure => have := HK.out; simp [intOf]; omega
              · have hlti : ¬ (k : Int) * 256 < n := by omega
                obtain rfl : k = m := by omega
                go_wp2
                go_ret
                rw [HRE.out]
                exact ⟨rfl, S', HAT2.out.more (by have := HSZ.out; omega), HFR.out⟩
        · intro p w2 cnt1 hp hlx hrg1 hlt hg1 hs1 hen
          obtain ⟨hpm, _⟩ := findP_mem hp
          have hpl := (HH.out.ok p hpm).lt
          have hb1 : Below w0.heap.size w0 w2 := HB.out.grown hg1 HB.out.size (fun _ h => by injection h with h; omega)
          have HMT := Lib.hid (meet_any p.a 256 x n w2 (by omega) (by omega) (by decide) (by omega) (by omega) (by omega))
          have HB1 := Lib.hid hb1
          have HRN := Lib.hid hrg1
          have HLT := Lib.hid hlt
          have HPM := Lib.hid hpm
          have HLX := Lib.hid hlx
          have HPF := Lib.hid hp
          cases hme : meetB p.a 256 x n with
          | true =>
            rw [hme] at HMT
            have hov : overP M x n = true := by
              unfold overP
              rw [List.any_eq_true]
              exact ⟨p, hpm, hme⟩
            have HOV := Lib.hid hov
            clear hov hme hp hpm hlx hrg1 hlt hg1 hs1 hb1
            go_wp2_with fail
            refine HMT.out.mono ?_
            rintro r0 w3 ⟨rfl, rfl⟩
            go_wp2
            go_ret
            rw [← HRR.out, if_pos HOV.out]
            exact ⟨rfl, S, HE.out _ HB1.out, VFr.of_below HB1.out⟩
          | false =>
            rw [hme] at HMT
            have HME := Lib.hid hme
            clear hme hp hpm hlx hrg1 hlt hg1 hs1 hb1
            go_wp2_with fail
            refine HMT.out.mono ?_
            rintro r0 w3 ⟨rfl, rfl⟩
            go_wp2
            go_roundw
            case rel => exact ⟨_, cnt1, HRN.out, Lib.hid (fun q hq hl => by
              by_cases e : q.a = p.a
              · rw [e]; exact HME.out
              · refine HNO.out q hq ?_
                rw [key_same] at hl
                simpa [e] using hl), HB1⟩
            case measure => rw [HRN.out.left_eq, HRNG.out.left_eq]; exact HLT.out
end Go.Proofs.YtkhfmgifpppcmaaDoor
