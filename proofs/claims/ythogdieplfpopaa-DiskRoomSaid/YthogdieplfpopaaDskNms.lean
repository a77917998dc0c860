/-
  What is proved here: Names of package disk.
  Conditions: none.
-/
import Derived.Test.YthogdieplfpopaaDskUse
import Derived.Test.YthogdieplfpopaaDskShelf
import Derived.Sort.OwnSorted
import Derived.Sort.KeysCollected
namespace Go.Proofs.Ythogdieplfpopaa
open Go.RowKit Go.WideMaps Go.Maps Go.Sort
set_option linter.unusedVariables false
set_option linter.unusedSimpArgs false

/-- A disk's names, rising. -/
def namesB (d : Dk) : List (List UInt8) := (d.l.map (fun x => x.n.data.toList)).mergeSort leB
theorem names_perm {D : DataW Unit} {L : List Dn} {fb : Nat → Nat} (h : MapIs D L fb) (hd : (L.map (·.n)).Nodup) {left : Lit → Bool} (hl : ∀ k, left k = false) {ss : List (List UInt8)} (hC : Collected D left ss) : ss.Perm (L.map (fun x => x.n.data.toList)) := by
  have inj : ∀ a b : ByteArray, a.data.toList = b.data.toList → a = b := fun a b e => ByteArray.ext (Array.ext' e)
  have hnd : (L.map (fun x => x.n.data.toList)).Nodup := by
    have e : L.map (fun x => x.n.data.toList) = (L.map (·.n)).map (fun b => b.data.toList) := by rw [List.map_map]; rfl
    rw [e]
    exact List.Pairwise.map _ (fun a b hab e2 => hab (inj a b e2)) hd
  refine (List.perm_ext_iff_of_nodup hC.1 hnd).2 fun x => ?_
  rw [hC.2 x, hl]
  have e1 := (h ⟨⟨x⟩⟩).1
  have e2 : keyS ⟨⟨x⟩⟩ = .string x := rfl
  rw [e2] at e1
  rw [e1]
  constructor
  · rintro ⟨h1, _⟩
    obtain ⟨f, hf⟩ := Option.isSome_iff_exists.1 h1
    obtain ⟨y, hy, hy2, _⟩ := find_mem hf
    exact List.mem_map.2 ⟨y, hy, by rw [hy2]⟩
  · intro hx
    obtain ⟨y, hy, rfl⟩ := List.mem_map.1 hx
    refine ⟨?_, rfl⟩
    have hf : ∀ L : List Dn, y ∈ L → (findD L y.n).isSome = true := fun L hL => by
      induction L with
      | nil => cases hL
      | cons z r ih =>
        rw [find_cons]
        by_cases e : z.n = y.n
        · rw [if_pos e]; rfl
        · rw [if_neg e]
          rcases List.mem_cons.1 hL with h1 | h1
          · subst h1; exact absurd rfl e
          · exact ih h1
    exact hf L hy
set_option maxHeartbeats 6400000 in
set_option maxRecDepth 100000 in
theorem names_ok {w : World} {S : Sh} {d : Dk} {c e : Nat} (h : At w S d c e) (hc : c ≤ 1099511627776) :
    Calls Try.prog 26 #[ptrV S.g] w fun r w' => ∃ v, r = .returned v ∧ w'.ownsRow w.heap.size 9 1 v (namesB d).length ((namesB d).map encStr) ∧ Below w.heap.size w w' := by
  obtain ⟨c0, c1, c2, c3, c4, c5⟩ := ds_cells h.ds
  have hq := cmp_ptr S.g w
  clear c0 c2 c3 c4 c5
  have hmp := h.fs.mp0
  cases hm : S.m0 with
  | none =>
    rw [hm] at hmp c1
    have hl : d.l = [] := hmp
    have e0 : namesB d = [] := by unfold namesB; rw [hl]; simp
    rw [e0]
    clear h hmp hl e0 hm
    have hrg := run_range_nilMap (P := Try.prog) w 59 9 73 Try.underlying59
    have hnx : ∀ ty, (Instr.next (.pointer (some ⟨w.heap.size, 0, none⟩)) false ty).run Try.prog (w.alloc (.mapIter none 0 #[] 0)) = _ := fun ty => run_next_nilMap w ty 0 0 #[]
    unfold ptrV
    go_enter Try.func26, Try.ntmps26
    go_wp2
    refine wp_loop_rounds 1 ?_
    rw [rounds_succ]
    go_wp2_with fail
    refine (Try.slices_Sort_string_none none 0 _).mono ?_
    rintro r w' ⟨rfl, rfl⟩
    go_wp2
    go_ret
    exact ⟨_, rfl, World.ownsRow_nil _ _ _ _, (Below.refl _ _).alloc (Nat.le_refl _) _⟩
  | some b =>
    rw [hm] at hmp c1
    obtain ⟨D, n, hn, hown, hi⟩ := hmp
    obtain ⟨i0, hi0, hz0, hz1, hz2⟩ := info_parts info_str
    have HI0 := Lib.hid hi0
    have HZ0 := Lib.hid hz0
    have HZ1 := Lib.hid hz1
    have HZ2 := Lib.hid hz2
    have HH := Lib.hid h
    have HI := Lib.hid hi
    have HOWN := Lib.hid hown
    have hsz := hown.size_le
    have hbl := hown.lt
    have HSZ : Hid (Maps.size D ≤ 1099511627776) := Lib.hid (by omega)
    clear h hi hm hi0 hz0 hz1 hz2 hsz hn hc
    unfold ptrV
    go_enter Try.func26, Try.ntmps26
    go_wp2_with (first | (at_range; refine wpList_range_own _ rfl _ 59 rfl 9 73 law_str Try.underlying59 _ b n D rfl hown ?_; intro w0 hrg0 hg0 hs0) | go_in)
    go_frame
    have hb0 : Below w.heap.size w w0 := (Below.refl _ _).grown hg0 (Nat.le_refl _) (fun _ h => by cases h)
    go_loopw [3, 4] (fun v _ wr => ∃ (left : Lit → Bool) (cnt : Nat) (ss : List (List UInt8)), wr.ranges Try.prog 9 ptrR b w.heap.size n D left cnt ∧ ss.length + cnt ≤ Maps.size D ∧
        wr.ownsRow w.heap.size 9 1 v ss.length (ss.map encStr) ∧ Collected D left ss ∧ Below w.heap.size w wr) (fun _ _ wr => wr.rangeLeft b w.heap.size)
    case atStart =>
      exact ⟨_, _, [], hrg0, by simp, World.ownsRow_nil _ _ _ _, Collected.start D, hb0⟩
    case round =>
      obtain ⟨left, cnt, ss, hrg, hcs, hrow, hC, hnx⟩ := hrel
      have HNX := Lib.hid hnx
      have HRG := Lib.hid hrg
      have HROW := Lib.hid hrow
      have HCC := Lib.hid hC
      have HCS := Lib.hid hcs
      obtain ⟨va, vc, hve⟩ := own_sl hrow
      go_wp2_with (first
        | (at_next; refine wpList_next_ranges _ rfl _ rfl 9 law_str ptrR encStr mkP (fun key kl hk => by obtain ⟨x, hx, _⟩ := Maps.keyOf_str Try.underlying9 hk; exact ⟨x, hx⟩) inv_ptr b w.heap.size n D _ _ rfl HRG.out ?_ ?_)
        | go_in)
      · intro hc0 hl0
        have hp := names_perm HI.out HH.out.fs.nd0 hl0 HCC.out
        have hns : namesB d = ss.mergeSort leB := by unfold namesB; exact (mergeSort_of_perm hp).symm
        have HNS := Lib.hid hns
        have HLEN : Hid ((ss.mergeSort leB).length = ss.length) := Lib.hid (by simp)
        clear hns hp hC hrg
        rcases hrow.2 with ⟨hnil, e0⟩ | ⟨g, cap, cur, hve2, hbase, hb, h1, h2, h3, h4⟩
        · have hse : ss = [] := List.eq_nil_of_length_eq_zero e0
          subst hse
          rw [hve] at hnil
          injection hnil with a1 _ a3
          subst a1
          subst a3
          simp only [List.length_nil]
          clear hve hrow hcs e0
          have HNONE := Lib.hid (Try.slices_Sort_string_none none 0 wr)
          go_wp2_with fail
          refine HNONE.out.mono ?_
          rintro r w' ⟨rfl, rfl⟩
          go_wp2
          go_ret
          exact ⟨.slice none 0 0, rfl, by rw [HNS.out, List.mergeSort_nil]; exact World.ownsRow_nil _ _ _ _, HNX.out⟩
        · have hH := holds_of_block (ss := ss) hb (by simpa using h4)
          have hgl : g < wr.heap.size := (Array.getElem?_eq_some_iff.1 hb).1
          have hcn := Try.slices_Sort_string g 0 cap ss wr hH hgl (by have := HSZ.out; have := HCS.out; omega)
          have HCN : Hid (Calls Try.prog 62 #[.slice (some ⟨g, 0, none⟩) ss.length cap] wr fun r w' => r = .returned (.tuple #[]) ∧ Hid (w'.ownsRow w.heap.size 9 1 (.slice (some ⟨g, 0, none⟩) ss.length cap) ss.length ((ss.mergeSort leB).map encStr) ∧ Below w.heap.size w w')) := Lib.hid (hcn.mono fun r w' hr => by
            obtain ⟨rfl, nn, os, rfl⟩ := hr
            exact ⟨rfl, Lib.hid ⟨ownsRow_sorted (by simp) hbase hb h1 h2 h3, HNX.out.grown (grownBy_sorted _) HNX.out.size (fun j hj => by cases hj; exact hbase)⟩⟩)
          rw [hve] at hve2
          injection hve2 with a1 _ a3
          subst a1
          subst a3
          clear hve hrow hcs hH hcn hb h1 h2 h3 h4
          go_wp2_with fail
          refine HCN.out.mono ?_
          rintro r w' ⟨rfl, hx⟩
          go_wp2
          go_ret
          exact ⟨_, rfl, by rw [HNS.out, HLEN.out]; exact hx.out.1, hx.out.2⟩
      · intro x cc kl y1 y2 w1 cnt1 hkx hlx hvy hat hrg1 hlt hg1 hs1 hen
        obtain ⟨x', ex, rfl, _⟩ := Maps.keyOf_str Try.underlying9 hkx
        obtain rfl : x = x' := encStr_inj ex
        have hrow2 := hrow.kept hg1 (Or.inr (row_ne_iter hrow hrg).symm)
        have hnx1 : Below w.heap.size w w1 := hnx.grown hg1 hnx.size (fun _ h => by injection h with h; omega)
        have HC2 := Lib.hid (hC.step hlx hat)
        have HR1 := Lib.hid hrg1
        have HRW := Lib.hid hrow2
        have HN1 := Lib.hid hnx1
        have HLT := Lib.hid hlt
        have hsz1 := hnx1.size
        subst hve
        clear hs1 hrow hrow2 hrg hrg1 hC hlx hat hkx hvy hnx hg1 hlt hcs ex
        go_wp2_with (at_builtin; refine wpList_append_own _ rfl _ _ 26 rfl w.heap.size 9 i0 (.string ⟨#[]⟩) 1 16 Try.underlying26 HI0.out HZ0.out HZ1.out HZ2.out rfl (by decide) _ ss.length (ss.map encStr) rfl (HRW.out.alloc _) ⟨w1.heap.size, 0, none⟩ 1 1 [encStr x] rfl rfl ?d1 ?d2 ?d3 ?d4 ?d5 ?_)
        case d1 => exact lit_cells w1 [encStr x] _ _ rfl
        case d2 => first | rfl | (intro u hu; simp at hu; subst hu; rfl)
        case d3 => have := HSZ.out; have := HCS.out; unfold maxLen; omega
        case d4 => have := HSZ.out; have := HCS.out; omega
        case d5 => first | omega | (simp; omega)
        intro v2 w2 ho2 hg2 _
        have HO2 : Hid (w2.ownsRow w.heap.size 9 1 v2 (ss ++ [x]).length ((ss ++ [x]).map encStr)) := Lib.hid (by simpa using ho2)
        have HB2 : Hid (Below w.heap.size w w2) := Lib.hid ((HN1.out.alloc HN1.out.size _).grown hg2 (by have := HN1.out.size; simp; omega) (fun j hj => (HRW.out.lt j hj).1))
        have HR2 : Hid (w2.ranges Try.prog 9 ptrR b w.heap.size n D _ cnt1) := Lib.hid ((HR1.out.alloc _).kept hg2 (fun ee => by have := (HRW.out.lt b ee.symm).1; omega) (row_ne_iter HRW.out HR1.out))
        clear ho2 hg2
        go_wp2
        go_roundw
        case rel => exact ⟨_, cnt1, ss ++ [x], HR2.out, by have := HCS.out; have := HLT.out; simp; omega, HO2.out, HC2.out, HB2.out⟩
        case measure => rw [HR2.out.left_eq, HRG.out.left_eq]; exact HLT.out
end Go.Proofs.Ythogdieplfpopaa
