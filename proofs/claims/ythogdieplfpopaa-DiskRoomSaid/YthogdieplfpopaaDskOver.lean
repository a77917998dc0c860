/-
  What is proved here: overwrite of package disk: a row with others from a place on, in the same block or in a new one.
  Conditions: none but that sizes stay below 2^40.
-/
import Derived.Test.YthogdieplfpopaaDskB
import Derived.Test.YthogdieplfpopaaAppF
import Derived.Laws.CopyOwn
namespace Go.Proofs.Ythogdieplfpopaa
open Go.RowKit
set_option linter.unusedVariables false
set_option linter.unusedSimpArgs false

theorem laid_le {s b : List Int} {p : Nat} (h : p + b.length ≤ s.length) : laidD s p b = s.take p ++ (b ++ s.drop (p + b.length)) := by
  unfold laidD
  rw [show p - s.length = 0 by omega, List.replicate_zero, List.append_nil]
theorem laid_gt {s b : List Int} {p : Nat} (h : s.length < p + b.length) : laidD s p b = (s ++ List.replicate (p + b.length - s.length) 0).take p ++ (b ++ (s ++ List.replicate (p + b.length - s.length) 0).drop (p + b.length)) := by
  unfold laidD
  have e1 : s.drop (p + b.length) = [] := List.drop_eq_nil_of_le (by omega)
  have e2 : (s ++ List.replicate (p + b.length - s.length) (0 : Int)).drop (p + b.length) = [] := List.drop_eq_nil_of_le (by simp; omega)
  rw [e1, e2]
  congr 1
  rw [List.take_append, List.take_append, List.take_replicate, List.take_replicate]
  congr 2
  omega
theorem laid_len (s b : List Int) (p : Nat) : (laidD s p b).length = max s.length (p + b.length) := by
  by_cases h : s.length < p + b.length
  · rw [laid_gt h]; simp; omega
  · rw [laid_le (by omega)]; simp; omega
/-- A row that holds cs from place p on, in place of what was there. -/
theorem row_splice {w : World} {g cap p : Nat} {cur : Array Value} {xs cs : List Value} {e : TypeId} (hg : w.heap[g]? = some (.cells cur e (0, 0))) (hnc : xs.length ≤ cap) (hcm : cap ≤ maxLen) (hcs : cur.size = cap) (htake : cur.toList.take xs.length = xs) (hfit : p + cs.length ≤ xs.length) :
    (w.setRow g (cur.toList.take p ++ (cs ++ cur.toList.drop (p + cs.length))).toArray).ownsRow 0 e 1 (.slice (some ⟨g, 0, none⟩) xs.length cap) xs.length (xs.take p ++ (cs ++ xs.drop (p + cs.length))) ∧
    w.grownBy (w.setRow g (cur.toList.take p ++ (cs ++ cur.toList.drop (p + cs.length))).toArray) (some g) := by
  have hl : cur.toList.length = cap := by rw [Array.length_toList]; exact hcs
  refine ⟨⟨by simp; omega, .inr ⟨g, cap, _, rfl, Nat.zero_le _, setRow_heap w g cur _ e _ hg, hnc, hcm, by simp; omega, ?_⟩⟩, ⟨rfl, rfl, rfl, by simp, fun k _ hk => setRow_other w g k _ (fun e => hk (by rw [e]))⟩⟩
  rw [Nat.mul_one]
  have hx : xs = cur.toList.take xs.length := htake.symm
  obtain ⟨n, hn⟩ : ∃ n, xs.length = n := ⟨_, rfl⟩
  rw [hn] at hx hfit hnc ⊢
  rw [hx]
  simp only [List.take_append, List.length_take, List.length_append, List.length_drop, hl]
  rw [List.take_take, List.take_take]
  congr 1
  · congr 1; omega
  · congr 1
    · rw [List.take_of_length_le (by omega)]
    · rw [List.drop_take]
      congr 1; omega
theorem own_fit {w : World} {e : TypeId} {va : Option Addr} {vc n k : Nat} {es : List Value} (h : w.ownsRow 0 e 1 (.slice va n vc) k es) : k ≤ vc := by
  rcases h.2 with ⟨_, e0⟩ | ⟨g', cap, cur, e, _, _, hnc, _⟩
  · omega
  · injection e with _ _ e
    subst e
    exact hnc
theorem add_cell (gb j : Nat) : (⟨gb, 0, none⟩ : Addr).add j = ⟨gb, j, none⟩ := by
  simp [Addr.add]
  intro h
  exact h.symm
set_option maxRecDepth 100000 in
set_option maxHeartbeats 1600000 in
theorem over_ok (v bv : Value) (zs L : List Int) (p : Nat) (w : World) (ho : w.ownsRow 0 5 1 v zs.length (u8V zs)) (hb : w.ownsRow 0 5 1 bv L.length (u8V L)) (hsep : ∀ k, v.ownBlock = some k → bv.ownBlock ≠ some k)
    (h1 : p + L.length ≤ 1099511627776) (h2 : zs.length ≤ 1099511627776) :
    Calls Try.prog 82 #[v, .int .i64 p, bv] w fun r w' => ∃ v', r = .returned v' ∧ w'.ownsRow 0 5 1 v' (laidD zs p L).length (u8V (laidD zs p L)) ∧ w.grownBy w' v.ownBlock ∧ (v'.ownBlock = v.ownBlock ∨ v'.ownBlock = some w.heap.size) := by
  obtain ⟨i0, hi, hz0, hz1, hz2⟩ := info_parts info_u8
  have HI := Lib.hid hi
  have HZ0 := Lib.hid hz0
  have HZ1 := Lib.hid hz1
  have HZ2 := Lib.hid hz2
  obtain ⟨va, vc, rfl⟩ := own_slice ho
  obtain ⟨ba, bc, rfl⟩ := own_slice hb
  have HO := Lib.hid ho
  have HB := Lib.hid hb
  have HS := Lib.hid hsep
  obtain ⟨n, hn⟩ : ∃ n, zs.length = n := ⟨_, rfl⟩
  obtain ⟨m, hm⟩ : ∃ m, L.length = m := ⟨_, rfl⟩
  have HN := Lib.hid hn
  have HM := Lib.hid hm
  rw [hn] at HO HS h2 ⊢
  rw [hm] at HB HS h1 ⊢
  have hni : (n : Int) ≤ 1099511627776 := by omega
  have hpi : (p : Int) + (m : Int) ≤ 1099511627776 := by omega
  -- what stands behind a row of n' bytes that is long enough
  have FIN : Hid (∀ (w1 : World) (v1 : Value) (zs1 : List Int), zs1.length = max n (p + m) → w1.ownsRow 0 5 1 v1 zs1.length (u8V zs1) → w.grownBy w1 (Value.slice va n vc).ownBlock → (v1.ownBlock = (Value.slice va n vc).ownBlock ∨ v1.ownBlock = some w.heap.size) →
      laidD zs p L = zs1.take p ++ (L ++ zs1.drop (p + m)) → 0 < m → ∃ g cap cur, v1 = .slice (some ⟨g, 0, none⟩) zs1.length cap ∧ w1.heap[g]? = some (.cells cur 5 (0, 0)) ∧ zs1.length ≤ cap ∧ p + m ≤ cur.size ∧
      (∃ gb, ba = some ⟨gb, 0, none⟩ ∧ ∀ j v, (u8V L)[j]? = some v → w1.cell? ((⟨gb, 0, none⟩ : Addr).add j) = some v) ∧
      ∀ w2, w2 = w1.setRow g (cur.toList.take p ++ (u8V L ++ cur.toList.drop (p + (u8V L).length))).toArray → w2.ownsRow 0 5 1 v1 (laidD zs p L).length (u8V (laidD zs p L)) ∧ w.grownBy w2 (Value.slice va n vc).ownBlock ∧ (v1.ownBlock = (Value.slice va n vc).ownBlock ∨ v1.ownBlock = some w.heap.size)) := Lib.hid (by
    intro w1 v1 zs1 hl1 ho1 hg1 hv1 hla hm0
    rcases ho1.2 with ⟨_, e0⟩ | ⟨g, cap, cur, rfl, _, hgg, hnc, hcm, hcs, htake⟩
    · omega
    rw [Nat.mul_one] at hcs htake
    have hul : (u8V zs1).length = zs1.length := by simp [u8V]
    have hLl : (u8V L).length = m := by simp [u8V, HM.out]
    have hsp := row_splice (w := w1) (g := g) (cap := cap) (p := p) (cur := cur) (xs := u8V zs1) (cs := u8V L) hgg (by rw [hul]; exact hnc) hcm hcs (by rw [hul]; exact htake) (by rw [hul, hLl]; omega)
    have hbr := HB.out
    refine ⟨g, cap, cur, rfl, hgg, hnc, by omega, ?_, fun w2 hw2 => ?_⟩
    · rcases hbr.2 with ⟨_, e0⟩ | ⟨gb, capb, curb, eb, _, hgb, _⟩
      · omega
      · injection eb with eb
        subst eb
        have hkb : w1.ownsRow 0 5 1 (.slice (some ⟨gb, 0, none⟩) m bc) m (u8V L) := row_keep hbr hg1 (fun k hk => HS.out k hk)
        exact ⟨gb, rfl, hkb.cells (g := gb) rfl⟩
    · subst hw2
      rw [hul] at hsp
      have e1 : u8V (laidD zs p L) = (u8V zs1).take p ++ (u8V L ++ (u8V zs1).drop (p + (u8V L).length)) := by
        rw [hla, hLl]; simp [u8V, List.map_take, List.map_drop]
      have e2 : (laidD zs p L).length = zs1.length := by rw [laid_len, HN.out, HM.out, hl1]
      rw [e1, e2]
      refine ⟨hsp.1, ?_, hv1⟩
      refine ⟨hsp.2.os.trans hg1.os, hsp.2.tape.trans hg1.tape, hsp.2.output.trans hg1.output, Nat.le_trans hg1.size hsp.2.size, fun k hk hne => ?_⟩
      have hkg : some k ≠ some g := fun e => by
        injection e with e
        subst e
        rcases hv1 with h | h
        · exact hne (by rw [← h]; rfl)
        · have : k = w.heap.size := by injection h
          omega
      rw [hsp.2.block k (Nat.lt_of_lt_of_le hk hg1.size) hkg]
      exact hg1.block k hk hne)
  have hone : Hid (∀ x ∈ u8V L, x.oneCell' = true) := Lib.hid (fun x hx => by
    unfold u8V at hx
    obtain ⟨z, _, rfl⟩ := List.mem_map.1 hx
    rfl)
  have hlu : Hid ((u8V L).length = m) := Lib.hid (by simp [u8V, HM.out])
  clear hi hz0 hz1 hz2 ho hb hsep hn hm
  by_cases hgr : n < p + m
  · have hgi : (0 : Int) < (p : Int) + m - n := by omega
    have HW : Hid (IntKind.i64.wrap (((p + m - n : Nat) : Int)) = ((p + m - n : Nat) : Int)) := Lib.hid (by rw [IntKind.wrap_i64]; omega)
    have hcast : ((p : Int) + m - n) = ((p + m - n : Nat) : Int) := by omega
    go_enter Try.func82, Try.ntmps82
    go_wp2_with (at_builtin; refine wpList_append_fresh .i64 rfl _ _ 32 3 rfl 0 5 i0 (.int .u8 0) Try.underlying32 Try.underlying3 HI.out HZ0.out HZ1.out HZ2.out rfl rfl _ n (u8V zs) rfl HO.out (p + m - n) ?x1 HW.out ?x2 (Nat.zero_le _) ?_)
    case x1 => rfl
    case x2 => omega
    intro v1 w1 ho1 hg1 hv1
    have hz1l : (zs ++ List.replicate (p + m - n) (0 : Int)).length = n + (p + m - n) := by rw [List.length_append, List.length_replicate, HN.out]
    have ho2 : w1.ownsRow 0 5 1 v1 (zs ++ List.replicate (p + m - n) (0 : Int)).length (u8V (zs ++ List.replicate (p + m - n) (0 : Int))) := by
      rw [hz1l]
      have e : u8V (zs ++ List.replicate (p + m - n) (0 : Int)) = u8V zs ++ List.replicate (p + m - n) (Value.int .u8 0) := by simp [u8V]
      rw [e]; exact ho1
    have hla := laid_gt (s := zs) (b := L) (p := p) (by rw [HN.out, HM.out]; exact hgr)
    rw [HN.out, HM.out] at hla
    have hmax : (zs ++ List.replicate (p + m - n) (0 : Int)).length = max n (p + m) := by rw [hz1l]; omega
    by_cases hm0 : 0 < m
    · obtain ⟨g, cap, cur, rfl, hcur, hnc, hpc, ⟨gb, rfl, hsrc⟩, hfin⟩ := FIN.out w1 v1 _ hmax ho2 hg1 hv1 hla hm0
      have HCUR := Lib.hid hcur
      have HSRC := Lib.hid hsrc
      have HFIN := Lib.hid hfin
      rw [hmax] at HFIN hnc ⊢
      have hn1 : max n (p + m) = p + m := by omega
      rw [hn1] at HFIN hnc ⊢
      have hnci : (p : Int) + m ≤ cap := by omega
      have HPC := Lib.hid hpc
      clear ho1 ho2 hg1 hv1 hla hcur hsrc hfin hz1l hmax hn1 FIN hpc
      go_wp2_with (with_reducible refine wpList_copy_own rfl _ _ 32 32 rfl 5 Try.underlying32 size_u8 _ _ _ _ _ _ _ rfl rfl cur 5 HCUR.out (u8V L) ?y1 ?y2 ?y3 ?y4 ?_)
      case y1 => rw [hlu.out]; first | exact (Nat.min_eq_left (by omega)).symm | (simp; done)
      case y2 => intro j v h; have := HSRC.out j v h; first | (simpa [Addr.add] using this; done) | (rw [add_cell] at this; simpa [Addr.add] using this; done) | (rw [add_cell] at this; rw [← add_cell] at this; exact this)
      case y3 => rw [hlu.out]; exact HPC.out
      case y4 => exact hone.out
      go_wp2
      go_ret
      exact ⟨.slice (some ⟨g, 0, none⟩) (p + m) cap, rfl, HFIN.out _ rfl⟩
    · obtain rfl : m = 0 := by omega
      have hL : L = [] := List.eq_nil_of_length_eq_zero HM.out
      have hres : laidD zs p L = zs ++ List.replicate (p + 0 - n) (0 : Int) := by rw [hla, hL]; simp
      have hll : (laidD zs p L).length = p := by rw [hres, hz1l]; omega
      rw [← hres, hll] at ho2
      obtain ⟨g, c1, rfl, _⟩ := own_some ho2 (by omega)
      have ho3 : w1.ownsRow 0 5 1 (.slice (some ⟨g, 0, none⟩) p c1) (laidD zs p L).length (u8V (laidD zs p L)) := by rw [hll]; exact ho2
      have HO3 := Lib.hid ho3
      have HG1 := Lib.hid hg1
      have HV1 := Lib.hid hv1
      have hpc : p ≤ c1 := by have := own_fit ho3; rw [hll] at this; exact this
      have hpci : (p : Int) ≤ c1 := by omega
      clear ho1 ho2 hg1 hv1 hla ho3 hz1l hmax hres hll hL FIN hpc
      go_wp2_with (with_reducible refine wpList_copy_nothing rfl _ _ 32 32 rfl 5 Try.underlying32 size_u8 _ _ _ _ _ _ rfl rfl ?y1 ?_)
      try (case y1 => simp)
      go_wp2
      all_goals go_ret
      all_goals first
        | exact ⟨.slice (some ⟨g, 0, none⟩) p c1, rfl, HO3.out, HG1.out, HV1.out⟩
        | (have e : c1 = p := by omega
           subst e
           exact ⟨.slice (some ⟨g, 0, none⟩) c1 c1, rfl, HO3.out, HG1.out, HV1.out⟩)
  · have hgi : ¬ (0 : Int) < (p : Int) + m - n := by omega
    have hla := laid_le (s := zs) (b := L) (p := p) (by rw [HN.out, HM.out]; omega)
    rw [HM.out] at hla
    have hmax : zs.length = max n (p + m) := by rw [HN.out]; omega
    have ho2 : w.ownsRow 0 5 1 (.slice va n vc) zs.length (u8V zs) := by rw [HN.out]; exact HO.out
    have hrefl : w.grownBy w (Value.slice va n vc).ownBlock := ⟨rfl, rfl, rfl, Nat.le_refl _, fun _ _ _ => rfl⟩
    by_cases hm0 : 0 < m
    · obtain ⟨g, cap, cur, hve, hcur, hnc, hpc, ⟨gb, rfl, hsrc⟩, hfin⟩ := FIN.out w _ _ hmax ho2 hrefl (.inl rfl) hla hm0
      injection hve with hv1 hv2 hv3
      subst hv1 hv3
      rw [HN.out] at hnc
      have HCUR := Lib.hid hcur
      have HSRC := Lib.hid hsrc
      have HFIN := Lib.hid hfin
      have HPC := Lib.hid hpc
      have hnci : (n : Int) ≤ vc := by omega
      have hpn : (p : Int) ≤ n := by omega
      clear ho2 hrefl hla hcur hsrc hfin hmax FIN hpc hv2 hnc
      go_enter Try.func82, Try.ntmps82
      go_wp2_with (with_reducible refine wpList_copy_own rfl _ _ 32 32 rfl 5 Try.underlying32 size_u8 _ _ _ _ _ _ _ rfl rfl cur 5 HCUR.out (u8V L) ?y1 ?y2 ?y3 ?y4 ?_)
      case y1 => rw [hlu.out]; first | exact (Nat.min_eq_left (by omega)).symm | (simp; done)
      case y2 => intro j v h; have := HSRC.out j v h; first | (simpa [Addr.add] using this; done) | (rw [add_cell] at this; simpa [Addr.add] using this; done) | (rw [add_cell] at this; rw [← add_cell] at this; exact this)
      case y3 => rw [hlu.out]; exact HPC.out
      case y4 => exact hone.out
      go_wp2
      go_ret
      obtain ⟨f1, f2, _⟩ := HFIN.out _ rfl
      exact ⟨.slice (some ⟨g, 0, none⟩) n vc, rfl, f1, f2, .inl rfl⟩
    · obtain rfl : m = 0 := by omega
      have hL : L = [] := List.eq_nil_of_length_eq_zero HM.out
      have hres : laidD zs p L = zs := by rw [hla, hL]; simp
      rw [hres]
      have HO2 := Lib.hid ho2
      have HR := Lib.hid hrefl
      have hpn : (p : Int) ≤ n := by omega
      have hnc : n ≤ vc := own_fit HO.out
      have hnci : (n : Int) ≤ vc := by omega
      clear ho2 hrefl hla hmax hres hL FIN hnc
      go_enter Try.func82, Try.ntmps82
      go_wp2_with (with_reducible refine wpList_copy_nothing rfl _ _ 32 32 rfl 5 Try.underlying32 size_u8 _ _ _ _ _ _ rfl rfl ?y1 ?_)
      try (case y1 => simp)
      go_wp2
      all_goals go_ret
      all_goals first
        | exact ⟨.slice va n vc, rfl, by first | exact HO.out | exact HO2.out, HR.out, .inl rfl⟩
        | (have e : vc = p := by omega
           subst e
           exact ⟨.slice va n vc, rfl, by first | exact HO.out | exact HO2.out, HR.out, .inl rfl⟩)
        | trace_state
end Go.Proofs.Ythogdieplfpopaa
