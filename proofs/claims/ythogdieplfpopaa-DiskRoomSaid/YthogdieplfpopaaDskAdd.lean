/-
  What is proved here: add of package disk.
  Conditions: none.
-/
import Derived.Test.YthogdieplfpopaaDskC
namespace Go.Proofs.Ythogdieplfpopaa
open Go.RowKit Go.WideMaps Go.Maps
set_option linter.unusedVariables false
set_option linter.unusedSimpArgs false

theorem Fr.live {w w' : World} {S S' : Sh} (m : Mv w w' S S') : S'.live = S.live := m.live
def AddPost (w : World) (S : Sh) (d : Dk) (c e : Nat) (w' : World) : Prop := ∃ S', At w' S' d c e ∧ Fr w w' S S' ∧ S'.live = S.live ∧ (∀ i, S'.fb i = S.fb i) ∧ S'.left = S.left
theorem op_ptr {w : World} {S : Sh} {e : Nat} {o : Do} {c0 c1 : Value} (h : OpAt w S e o c0 c1) : ∃ p, c0 = .pointer p := by
  rcases h with ⟨_, r0, _⟩ | ⟨_, r0, _⟩ | ⟨_, r0, _⟩ | ⟨_, r0, _⟩ <;> exact ⟨_, r0⟩
theorem own_sl {w : World} {base s n : Nat} {e : TypeId} {v : Value} {xs : List Value} (h : w.ownsRow base e s v n xs) : ∃ a c, v = .slice a n c := by
  rcases h.2 with ⟨hv, e0⟩ | ⟨g, c, cur, hv, hb, _⟩
  · exact ⟨_, _, by rw [hv, e0]⟩
  · exact ⟨_, _, hv⟩
/-- What the append behind the change tells. -/
theorem add_end {w w1 w2 : World} {S S1 : Sh} {d : Dk} {c e : Nat} {o : Do} {c0 c1 : Value} {t : TypeId} (ho : OpAt w S e o c0 c1) (hp : Pn w S d c e) (m : Mv w w1 S S1) (h1 : Hd w1 S1 (actD false d o) (c + 1) e) {v' : Value}
    (hr : w2.ownsRow 0 83 2 v' (d.wait.length + 1) (S.pc ++ [c0, c1])) (hg : (w1.alloc (.cells #[c0, c1] t)).grownBy w2 S1.pv.ownBlock) (hv : v'.ownBlock = S1.pv.ownBlock ∨ v'.ownBlock = some (w1.alloc (.cells #[c0, c1] t)).heap.size) :
    AddPost w S (waitD d o) (c + 1) e (w2.setCell ⟨S.g, 3, none⟩ v') := by
  have hp1 := hp.mv m (act_wait false d o)
  have ho1 := ho.mv m
  have hlp : S.pc.length = 2 * d.wait.length := by rw [hp.pend.1]; omega
  have hg0 : w1.grownBy w2 S1.pv.ownBlock := by
    refine ⟨hg.os, hg.tape, hg.output, ?_, fun k hk hne => ?_⟩
    · have := hg.size; simp at this; omega
    · rw [hg.block k (by simp; omega) hne, Below.heap_alloc _ _ _ hk]
  obtain ⟨ha, hf⟩ := At.pend (d := actD false d o) (w2 := w2) (v' := v') (pc := S.pc ++ [c0, c1]) (wl := d.wait ++ [o]) h1 hp1.pend hp1.op hg0 (by simpa using hr) (by
      rcases hv with h2 | h2
      · exact .inl h2
      · exact .inr (fun k hk => by rw [h2] at hk; injection hk with hk; simp at hk; omega)) (by
      intro j hj
      obtain ⟨e1, e2⟩ := getD_snoc S.pc d.wait.length c0 c1 hlp j
      rw [e1, e2]
      rw [List.length_append] at hj
      by_cases hjn : j < d.wait.length
      · rw [if_pos hjn, if_pos hjn]
        have hx := hp1.ops j (by rw [act_wait]; exact hjn)
        rw [act_wait, m.pc] at hx
        rw [List.getD_eq_getElem?_getD, List.getElem?_append_left hjn, ← List.getD_eq_getElem?_getD]
        exact hx
      · have hje : j = d.wait.length := by simp at hj; omega
        subst hje
        rw [if_neg hjn, if_neg hjn, if_pos rfl, if_pos rfl]
        have e3 : (d.wait ++ [o]).getD d.wait.length do0 = o := by simp [List.getD_eq_getElem?_getD]
        rw [e3]
        exact ho1) (by have := hp.le; rw [List.length_append]; simp; omega)
  rw [m.g] at ha hf
  refine ⟨_, ?_, m.fr.trans hf, m.live, m.fb, m.left⟩
  rw [wait_act]
  exact ha
set_option maxHeartbeats 3200000 in
set_option maxRecDepth 100000 in
theorem add_ok {w : World} {S : Sh} {d : Dk} {c e : Nat} {o : Do} {c0 c1 : Value} (h : Hd w S d c e) (hp : Pn w S d c e) (ho : OpAt w S e o c0 c1) (hc : c < 1099511627776) (he : e ≤ 1099511627776) :
    Calls Try.prog 78 #[ptrV S.g, c0, c1] w fun r w' => r = .returned (.tuple #[]) ∧ AddPost w S (waitD d o) (c + 1) e w' := by
  obtain ⟨i0, hi, hz0, hz1, hz2⟩ := info_parts info_chg
  have HI := Lib.hid hi
  have HZ0 := Lib.hid hz0
  have HZ1 := Lib.hid hz1
  have HZ2 := Lib.hid hz2
  have hact := act_ok h ho false (by unfold maxLen; omega) he
  simp only [Bool.false_eq_true, if_false] at hact
  have hend : Hid (∀ w1 S1, Mv w w1 S S1 → Hd w1 S1 (actD false d o) (c + 1) e → ∀ t w2 v', w2.ownsRow 0 83 2 v' (d.wait.length + 1) (S.pc ++ [c0, c1]) → (w1.alloc (.cells #[c0, c1] t)).grownBy w2 S1.pv.ownBlock → (v'.ownBlock = S1.pv.ownBlock ∨ v'.ownBlock = some (w1.alloc (.cells #[c0, c1] t)).heap.size) →
      AddPost w S (waitD d o) (c + 1) e (w2.setCell ⟨S.g, 3, none⟩ v')) := Lib.hid (fun w1 S1 m h1 t w2 v' a1 a2 a3 => add_end ho hp m h1 a1 a2 a3)
  have hpv : Hid (∀ w1 S1, Mv w w1 S S1 → Hd w1 S1 (actD false d o) (c + 1) e → w1.ownsRow 0 83 2 S.pv d.wait.length S.pc ∧ w1.cell? ⟨S.g, 3, none⟩ = some S.pv ∧ (∀ t w2, (w1.alloc (.cells #[c0, c1] t)).grownBy w2 S.pv.ownBlock → w2.frozen? ⟨S.g, 3, none⟩ = false ∧ ∃ v, w2.cell? ⟨S.g, 3, none⟩ = some v) ∧ S1.pv = S.pv) := Lib.hid (by
    intro w1 S1 m h1
    have hp1 := hp.mv m (act_wait false d o)
    have e1 := hp1.pend
    rw [act_wait, m.pv, m.pc] at e1
    have e2 := (ds_cells h1.ds).2.2.2.1
    rw [m.g, m.pv] at e2
    refine ⟨e1, e2, fun t w2 hg => ?_, m.pv⟩
    have hb := h1.ds.disk
    rw [m.g] at hb
    have hb2 := (hb.alloc (.cells #[c0, c1] t)).turn hg (fun ee => row_blk_ne e1 hb (by decide) ee.symm)
    exact ⟨hb2.frozen 3, _, hb2.cell 3⟩)
  have hle : d.wait.length ≤ 1099511627776 := by have := hp.le; omega
  obtain ⟨p, rfl⟩ := op_ptr ho
  obtain ⟨pa, pn, pcap, hpe⟩ : ∃ a n cap, S.pv = .slice a n cap := by
    obtain ⟨a, c, e⟩ := own_sl hp.pend
    exact ⟨_, _, _, e⟩
  clear hi hz0 hz1 hz2 h hp ho
  generalize waitD d o = dw at *
  generalize actD false d o = da at *
  generalize d.wait.length = n at *
  generalize S.pc = pc at *
  rw [hpe] at hpv
  unfold ptrV
  rcases hact with ⟨x, y, z, rfl, ha⟩ | ⟨x, y, z, rfl, ha⟩ | ⟨x, y, z, rfl, ha⟩ | ⟨x, y, rfl, ha⟩
  · have HA := Lib.hid ha
    clear ha
    go_enter Try.func78, Try.ntmps78
    go_wp2_with fail
    refine HA.out.mono ?_
    rintro r w1 ⟨rfl, S1, hm, h1⟩
    obtain ⟨e1, e2, e3, e4⟩ := hpv.out w1 S1 hm h1
    have hen := hend.out w1 S1 hm h1
    rw [e4] at hen
    have HE := Lib.hid hen
    have HE1 := Lib.hid e1
    have HE3 := Lib.hid e3
    clear e1 e3 e4 hm h1 hend hpv hen hpe
    go_wp2_with (at_builtin; refine wpList_append_where rfl _ _ 61 rfl 0 83 i0 _ 2 16 Try.underlying61 HI.out HZ0.out HZ1.out HZ2.out rfl (by decide) _ n pc rfl (HE1.out.alloc _) _ 1 1 [.pointer p, (.func (.func 81) #[] #[x, y, z])] rfl rfl ?d1 ?d2 ?d3 ?d4 (Nat.zero_le _) (by decide) ?_)
    case d1 => exact lit_cells w1 [.pointer p, (.func (.func 81) #[] #[x, y, z])] _ _ rfl
    case d2 => intro u hu; simp at hu; rcases hu with rfl | rfl <;> rfl
    case d3 => unfold maxLen; omega
    case d4 => omega
    intro v2 w2 ho2 hg2 hv2
    obtain ⟨f3, v3, c3⟩ := HE3.out _ _ hg2
    obtain ⟨qa, qc, rfl⟩ := own_sl ho2
    have HX := Lib.hid (HE.out _ _ _ ho2 hg2 (hv2.imp id (fun e => e.trans (by simp))))
    clear ho2 hg2 hv2
    go_wp2
    go_end0
    exact ⟨rfl, HX.out⟩
  · have HA := Lib.hid ha
    clear ha
    go_enter Try.func78, Try.ntmps78
    go_wp2_with fail
    refine HA.out.mono ?_
    rintro r w1 ⟨rfl, S1, hm, h1⟩
    obtain ⟨e1, e2, e3, e4⟩ := hpv.out w1 S1 hm h1
    have hen := hend.out w1 S1 hm h1
    rw [e4] at hen
    have HE := Lib.hid hen
    have HE1 := Lib.hid e1
    have HE3 := Lib.hid e3
    clear e1 e3 e4 hm h1 hend hpv hen hpe
    go_wp2_with (at_builtin; refine wpList_append_where rfl _ _ 61 rfl 0 83 i0 _ 2 16 Try.underlying61 HI.out HZ0.out HZ1.out HZ2.out rfl (by decide) _ n pc rfl (HE1.out.alloc _) _ 1 1 [.pointer p, (.func (.func 79) #[] #[x, y, z])] rfl rfl ?d1 ?d2 ?d3 ?d4 (Nat.zero_le _) (by decide) ?_)
    case d1 => exact lit_cells w1 [.pointer p, (.func (.func 79) #[] #[x, y, z])] _ _ rfl
    case d2 => intro u hu; simp at hu; rcases hu with rfl | rfl <;> rfl
    case d3 => unfold maxLen; omega
    case d4 => omega
    intro v2 w2 ho2 hg2 hv2
    obtain ⟨f3, v3, c3⟩ := HE3.out _ _ hg2
    obtain ⟨qa, qc, rfl⟩ := own_sl ho2
    have HX := Lib.hid (HE.out _ _ _ ho2 hg2 (hv2.imp id (fun e => e.trans (by simp))))
    clear ho2 hg2 hv2
    go_wp2
    go_end0
    exact ⟨rfl, HX.out⟩
  · have HA := Lib.hid ha
    clear ha
    go_enter Try.func78, Try.ntmps78
    go_wp2_with fail
    refine HA.out.mono ?_
    rintro r w1 ⟨rfl, S1, hm, h1⟩
    obtain ⟨e1, e2, e3, e4⟩ := hpv.out w1 S1 hm h1
    have hen := hend.out w1 S1 hm h1
    rw [e4] at hen
    have HE := Lib.hid hen
    have HE1 := Lib.hid e1
    have HE3 := Lib.hid e3
    clear e1 e3 e4 hm h1 hend hpv hen hpe
    go_wp2_with (at_builtin; refine wpList_append_where rfl _ _ 61 rfl 0 83 i0 _ 2 16 Try.underlying61 HI.out HZ0.out HZ1.out HZ2.out rfl (by decide) _ n pc rfl (HE1.out.alloc _) _ 1 1 [.pointer p, (.func (.func 84) #[] #[x, y, z])] rfl rfl ?d1 ?d2 ?d3 ?d4 (Nat.zero_le _) (by decide) ?_)
    case d1 => exact lit_cells w1 [.pointer p, (.func (.func 84) #[] #[x, y, z])] _ _ rfl
    case d2 => intro u hu; simp at hu; rcases hu with rfl | rfl <;> rfl
    case d3 => unfold maxLen; omega
    case d4 => omega
    intro v2 w2 ho2 hg2 hv2
    obtain ⟨f3, v3, c3⟩ := HE3.out _ _ hg2
    obtain ⟨qa, qc, rfl⟩ := own_sl ho2
    have HX := Lib.hid (HE.out _ _ _ ho2 hg2 (hv2.imp id (fun e => e.trans (by simp))))
    clear ho2 hg2 hv2
    go_wp2
    go_end0
    exact ⟨rfl, HX.out⟩
  · have HA := Lib.hid ha
    clear ha
    go_enter Try.func78, Try.ntmps78
    go_wp2_with fail
    refine HA.out.mono ?_
    rintro r w1 ⟨rfl, S1, hm, h1⟩
    obtain ⟨e1, e2, e3, e4⟩ := hpv.out w1 S1 hm h1
    have hen := hend.out w1 S1 hm h1
    rw [e4] at hen
    have HE := Lib.hid hen
    have HE1 := Lib.hid e1
    have HE3 := Lib.hid e3
    clear e1 e3 e4 hm h1 hend hpv hen hpe
    go_wp2_with (at_builtin; refine wpList_append_where rfl _ _ 61 rfl 0 83 i0 _ 2 16 Try.underlying61 HI.out HZ0.out HZ1.out HZ2.out rfl (by decide) _ n pc rfl (HE1.out.alloc _) _ 1 1 [.pointer p, (.func (.func 85) #[] #[x, y])] rfl rfl ?d1 ?d2 ?d3 ?d4 (Nat.zero_le _) (by decide) ?_)
    case d1 => exact lit_cells w1 [.pointer p, (.func (.func 85) #[] #[x, y])] _ _ rfl
    case d2 => intro u hu; simp at hu; rcases hu with rfl | rfl <;> rfl
    case d3 => unfold maxLen; omega
    case d4 => omega
    intro v2 w2 ho2 hg2 hv2
    obtain ⟨f3, v3, c3⟩ := HE3.out _ _ hg2
    obtain ⟨qa, qc, rfl⟩ := own_sl ho2
    have HX := Lib.hid (HE.out _ _ _ ho2 hg2 (hv2.imp id (fun e => e.trans (by simp))))
    clear ho2 hg2 hv2
    go_wp2
    go_end0
    exact ⟨rfl, HX.out⟩
end Go.Proofs.Ythogdieplfpopaa
