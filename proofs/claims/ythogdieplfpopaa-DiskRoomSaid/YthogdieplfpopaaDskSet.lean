/-
  What is proved here: settle of package disk.
  Conditions: none.
-/
import Derived.Test.YthogdieplfpopaaDskSt0
namespace Go.Proofs.Ythogdieplfpopaa
open Go.RowKit Go.WideMaps Go.Maps
set_option linter.unusedVariables false
set_option linter.unusedSimpArgs false

def SetPost (w : World) (S : Sh) (d : Dk) (c e : Nat) (w' : World) : Prop := ∃ S', At w' S' d c e ∧ Fr w w' S S'
theorem settle_n {L : List Do} {S : Sh} {w : World} {n : Nat} {xs : List Value} {v : Value} (h : w.ownsRow 0 83 2 v n xs) {k : Nat} (hk : k < n) : ∃ pb cap, v = .slice (some ⟨pb, 0, none⟩) n cap ∧ n ≤ cap ∧ w.cell? ⟨pb, k * 2, none⟩ = some (xs.getD (2 * k) undef) ∧ w.cell? ⟨pb, k * 2 + 1, none⟩ = some (xs.getD (2 * k + 1) undef) ∧ pb < w.heap.size := by
  rcases h.2 with ⟨_, e0⟩ | ⟨g, cap, cur, rfl, _, hg, hnc, _, hcs, htake⟩
  · omega
  have hl := h.1
  have hc := h.cells (g := g) rfl
  have key : ∀ j, j < n * 2 → w.cell? ⟨g, j, none⟩ = some (xs.getD j undef) := fun j hj => by
    have hx : xs[j]? = some (xs.getD j undef) := by rw [List.getD_eq_getElem?_getD, List.getElem?_eq_getElem (by omega)]; rfl
    have := hc j _ hx
    rwa [add_cell] at this
  exact ⟨g, cap, rfl, hnc, by have := key (k * 2) (by omega); rwa [show 2 * k = k * 2 by omega], by have := key (k * 2 + 1) (by omega); rwa [show 2 * k = k * 2 by omega], (Array.getElem?_eq_some_iff.1 hg).1⟩
theorem op_fun {w : World} {S : Sh} {e : Nat} {o : Do} {c0 c1 : Value} (h : OpAt w S e o c0 c1) : ∃ fn cs, c1 = .func (.func fn) #[] cs := by
  rcases h with ⟨_, _, _, _, _, _, _, r, _⟩ | ⟨_, _, _, _, _, r, _⟩ | ⟨_, _, _, _, _, r, _⟩ | ⟨_, _, _, _, r, _⟩ <;> exact ⟨_, _, r⟩
set_option maxHeartbeats 6400000 in
set_option maxRecDepth 100000 in
theorem settle_any {w : World} {S : Sh} {d : Dk} {c e : Nat} (h : At w S d c e) (q : Option Addr) (ch : Nat → Do → Bool) (hc : c + d.wait.length < 1099511627776) (he : e ≤ 1099511627776)
    (hcmp : ∀ k wr Si Di p c1, k < d.wait.length → Hd wr Si Di (c + k) e → Mv w wr S Si → OpAt wr Si e (d.wait.getD k do0) (.pointer p) c1 → (binOp .eql 73 (.pointer p) (.pointer q)).run Try.prog wr = .ok (.bool (ch k (d.wait.getD k do0))) wr) :
    Calls Try.prog 51 #[ptrV S.g, .pointer q] w fun r w' => r = .returned (.tuple #[]) ∧ SetPost w S (settledD d ch) (c + d.wait.length) e w' := by
  obtain ⟨i0, hi, hz0, hz1, hz2⟩ := info_parts info_chg
  have HI := Lib.hid hi
  have HZ0 := Lib.hid hz0
  have HZ1 := Lib.hid hz1
  have HZ2 := Lib.hid hz2
  have HH := Lib.hid h
  obtain ⟨pa, pcap, hpe⟩ := own_sl h.pn.pend
  have HPE := Lib.hid hpe
  obtain ⟨n, hn⟩ : ∃ n, d.wait.length = n := ⟨_, rfl⟩
  have HN := Lib.hid hn
  have c3 : w.cell? ⟨S.g, 3, none⟩ = some (.slice pa n pcap) := by rw [← hn, ← hpe]; exact (ds_cells h.ds).2.2.2.1
  rw [hn] at hc
  have hni : (n : Int) < 1099511627776 := by omega
  have HC := Lib.hid hc
  have HCMP := Lib.hid hcmp
  have HDN : Hid (∀ wr Si Di rl rest rc, StI w S d c e ch n wr Si Di rl rest rc → SetPost w S (settledD d ch) (c + d.wait.length) e (wr.setCell ⟨S.g, 3, none⟩ rest) ∧ (∃ v, wr.cell? ⟨S.g, 3, none⟩ = some v) ∧ wr.frozen? ⟨S.g, 3, none⟩ = false) := Lib.hid (fun wr Si Di rl rest rc hs => by
    have hb := hs.hd.ds.disk
    rw [hs.mv.g] at hb
    exact ⟨hs.done hn.symm h.pn, ⟨_, hb.cell 3⟩, hb.frozen 3⟩)
  have HST : Hid (StI w S d c e ch 0 w S d [] (.slice none 0 0) []) := Lib.hid (StI.start h.hd)
  clear hi hz0 hz1 hz2 h hpe hcmp hn hc
  have hsf : ∀ a fn f c w, (store a (.func fn f c)).run Try.prog w = stored Try.prog w a (.func fn f c) .plain := fun a fn f c w => run_store Try.prog w a _ _ rfl
  unfold ptrV at *
  go_enter Try.func51, Try.ntmps51
  go_wp2
  go_loopw [4, 6, 12] (fun rest _ i wr => ∃ k Si Di rl rc, k ≤ n ∧ i = .int .i64 k ∧ Hid (StI w S d c e ch k wr Si Di rl rest rc)) (fun _ _ i _ => n - (intOf i).toNat)
  case atStart => exact ⟨0, S, d, [], [], Nat.zero_le _, rfl, HST.out⟩
  case round =>
    obtain ⟨k, Si, Di, rl, rc, hkn, rfl, HS⟩ := hrel
    obtain ⟨ra, rcap, hre⟩ := own_sl HS.out.row
    by_cases hlt : k < n
    · have hlti : (k : Int) < n := by omega
      have hp1 := HH.out.pn.mv HS.out.mv HS.out.wt
      have hrow := hp1.pend
      rw [HS.out.wt, HS.out.mv.pv, HS.out.mv.pc, HN.out] at hrow
      have hop := hp1.ops k (by rw [HS.out.wt, HN.out]; exact hlt)
      rw [HS.out.wt, HS.out.mv.pc] at hop
      obtain ⟨pb, cap9, e9, hcap9, q0, q1, hpb⟩ := settle_n (L := []) (S := S) hrow hlt
      rw [HPE.out, HN.out] at e9
      have hcapi : (k : Int) < cap9 := by omega
      injection e9 with e91 e92 e93
      subst e91
      subst e93
      obtain ⟨p, hp0⟩ := op_ptr hop
      rw [hp0] at q0 hop
      have HOP := Lib.hid hop
      have hal := HS.out.alloc (.cells #[.pointer p, S.pc.getD (2 * k + 1) undef] 83)
      have hopA : OpAt (wr.alloc (.cells #[.pointer p, S.pc.getD (2 * k + 1) undef] 83)) Si e (d.wait.getD k do0) (.pointer p) (S.pc.getD (2 * k + 1) undef) := hop.grown HS.out.hd.sm (World.grownBy_alloc _ _ none) (fun _ h => by cases h)
      have hq := HCMP.out k _ Si Di p _ (by rw [HN.out]; exact hlt) hal.hd hal.mv hopA
      have HAL := Lib.hid hal
      have HOA := Lib.hid hopA
      cases hch : ch k (d.wait.getD k do0) with
      | true =>
        rw [hch] at hq
        have hact := act_ok hal.hd hopA true (by have := HC.out; unfold maxLen; omega) he
        have HY := Lib.hid (fun (w2 : World) (S2 : Sh) (m2 : Mv (wr.alloc (.cells #[.pointer p, S.pc.getD (2 * k + 1) undef] 83)) w2 Si S2) (h2 : Hd w2 S2 (actD true Di (d.wait.getD k do0)) (c + k + 1) e) => HAL.out.yes (by rw [HN.out]; exact hlt) hch m2 h2)
        clear hal hopA hop hrow hp1 HOP HAL HOA hch
        generalize S.pc.getD (2 * k + 1) undef = fv at *
        generalize actD true Di (d.wait.getD k do0) = da at *
        simp only [if_true] at hact
        subst hre
        rcases hact with ⟨x, y, z, rfl, ha⟩ | ⟨x, y, z, rfl, ha⟩ | ⟨x, y, z, rfl, ha⟩ | ⟨x, y, rfl, ha⟩
        all_goals have HA := Lib.hid ha
        all_goals clear ha
        all_goals go_wp2_with fail
        all_goals refine HA.out.mono ?_
        all_goals rintro r w2 ⟨rfl, S2, m2, h2⟩
        all_goals have HX := Lib.hid (HY.out w2 S2 m2 h2)
        all_goals clear m2 h2 HY
        all_goals go_wp2
        all_goals go_roundw
        all_goals first
          | exact ⟨k + 1, S2, da, rl, rc, by omega, by go_num, HX.out⟩
          | (simp [intOf] <;> omega)
      | false =>
        rw [hch] at hq
        obtain ⟨fn, cs, hfn⟩ := op_fun hopA
        have hsz := al_size wr (.cells #[.pointer p, S.pc.getD (2 * k + 1) undef] 83)
        have HY := Lib.hid (fun (t : TypeId) (w2 : World) (v' : Value) (hr : w2.ownsRow w.heap.size 83 2 v' (rl.length + 1) (rc ++ [.pointer p, S.pc.getD (2 * k + 1) undef])) (hg : ((wr.alloc (.cells #[.pointer p, S.pc.getD (2 * k + 1) undef] 83)).alloc (.cells #[.pointer p, S.pc.getD (2 * k + 1) undef] t)).grownBy w2 (Value.slice ra rl.length rcap).ownBlock) (hv : v'.ownBlock = (Value.slice ra rl.length rcap).ownBlock ∨ v'.ownBlock = some (wr.heap.size + 1 + 1)) => HAL.out.not (v' := v') (by rw [HN.out]; exact hlt) hch HOA.out hr (by
          rw [hre]
          refine ⟨hg.os, hg.tape, hg.output, ?_, fun b hb hne => ?_⟩
          · have := hg.size
            rw [al_size] at this
            omega
          · rw [hg.block b (by rw [al_size]; omega) hne, Below.heap_alloc _ _ _ hb]) (by
          rw [hre]
          rcases hv with h1 | h1
          · exact .inl h1
          · exact .inr (fun b hb => by rw [h1] at hb; injection hb with hb; omega)))
        have HRW := Lib.hid (hal.row.alloc (.cells #[.pointer p, S.pc.getD (2 * k + 1) undef] 83))
        rw [hre] at HRW
        have hrk : rl.length ≤ k := HS.out.le
        have hbz : w.heap.size ≤ wr.heap.size := HS.out.mv.size
        clear hal hopA hop hrow hp1 HOP HAL HOA hch hsz
        generalize S.pc.getD (2 * k + 1) undef = fv at *
        subst hfn
        subst hre
        generalize hrl : rl.length = rn at *
        have HRL := Lib.hid hrl
        clear hrl
        go_wp2_with (at_builtin; refine wpList_append_where rfl _ _ 61 rfl w.heap.size 83 i0 _ 2 16 Try.underlying61 HI.out HZ0.out HZ1.out HZ2.out rfl (by decide) _ rn rc rfl HRW.out _ 1 1 [.pointer p, .func (.func fn) #[] cs] rfl rfl ?d1 ?d2 ?d3 ?d4 ?d5 (by decide) ?_)
        try (case d1 => exact lit_cells (wr.alloc _) [.pointer p, .func (.func fn) #[] cs] _ _ (by simp))
        case d2 => first | exact ⟨rfl, rfl⟩ | (intro u hu; simp at hu; rcases hu with rfl | rfl <;> rfl)
        case d3 => have := HC.out; unfold maxLen; omega
        case d4 => have := HC.out; omega
        case d5 => first | omega | (simp; omega)
        intro v2 w2 ho2 hg2 hv2
        obtain ⟨qa, qc, rfl⟩ := own_sl ho2
        have HX := Lib.hid (HY.out _ w2 _ ho2 hg2 (hv2.imp id (fun e => e.trans (by simp))))
        clear ho2 hg2 hv2 HY
        go_wp2
        go_roundw
        all_goals first
          | exact ⟨k + 1, Si, Di, _, _, by omega, by go_num, HX.out⟩
          | (simp [intOf] <;> omega)
    · obtain rfl : k = n := by omega
      obtain ⟨hd1, ⟨v3, hd2⟩, hd3⟩ := HDN.out _ _ _ _ _ _ HS.out
      have HD1 := Lib.hid hd1
      clear hd1
      subst hre
      go_wp2
      go_end0
      exact ⟨rfl, HD1.out⟩
end Go.Proofs.Ythogdieplfpopaa
