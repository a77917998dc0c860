/-
  What is proved here: access, load, Load, Fetch of package vmem.
  Conditions: none.
-/
import Derived.Test.YtkhfmgifpppcmaaDoorVmJoin
import Derived.Test.YtkhfmgifpppcmaaDoorOSet
namespace Go.Proofs.YtkhfmgifpppcmaaDoor
open Go.RowKit Go.WideMaps Go.Maps
set_option linter.unusedVariables false
set_option linter.unusedSimpArgs false

/-- May not all be done with a part's page? -/
def denyP (M : List Pg) (r : Int) (p : Pt) : Bool := match findP M p.a with
  | some q => bits .and .i64 q.prot r == 0
  | none => true
def isW (n : Int) : Prop := n = 1 ∨ n = 2 ∨ n = 4 ∨ n = 8
instance (n : Int) : Decidable (isW n) := by unfold isW; exact inferInstance
def accR (M : List Pg) (x : Nat) (n r : Int) : Int × List Pt :=
  if isW n then match spanP M x n.toNat with
    | none => (40, [])
    | some L => if L.any (denyP M r) = true then (41, []) else (0, L)
  else (1, [])
def AccPost (S : VS) (w : World) (R : Int × List Pt) (r : Ending) (w' : World) : Prop :=
  Below w.heap.size w w' ∧ ∃ v, r = .returned (.tuple #[v, .int .i64 R.1]) ∧ w'.ownsRow w.heap.size 74 2 v R.2.length (ptCs S R.2)
theorem and_ne (M : List Pg) (r : Int) (L : List Pt) (k : Nat) (h : ∀ j, j < k → denyP M r (L.getD j pt0) = false) (hk : L.length ≤ k) : L.any (denyP M r) = false := by
  rw [List.any_eq_false]
  intro p hp
  obtain ⟨j, hj, rfl⟩ := List.getElem_of_mem hp
  have := h j (by omega)
  rw [List.getD_eq_getElem?_getD, List.getElem?_eq_getElem hj] at this
  simpa using this
theorem len_sum (L : List Pt) (h : ∀ p ∈ L, 1 ≤ p.n) : L.length ≤ (L.map (fun x => x.n)).sum := by
  induction L with
  | nil => exact Nat.zero_le _
  | cons p L ih =>
    have h1 := h p (List.mem_cons_self ..)
    have h2 := ih (fun q hq => h q (List.mem_cons_of_mem _ hq))
    simp only [List.length_cons, List.map_cons, List.sum_cons]
    omega
theorem own_below2 {w w' : World} {base s n : Nat} {e : TypeId} {v : Value} {xs : List Value} (h : w.ownsRow base e s v n xs) (hb : Below w.heap.size w w') : w'.ownsRow base e s v n xs :=
  h.kept (row := none) ⟨hb.os, hb.tape, hb.output, hb.size, fun k hk _ => hb.block k hk⟩ (by cases v.ownBlock <;> simp)
set_option maxHeartbeats 12800000 in
set_option maxRecDepth 100000 in
theorem access_ok {w : World} {S : VS} {M : List Pg} {c : Nat} (h : VAt w S M c) (x : Nat) (n r : Int) (x1 : x ≤ 18446744073709551615) :
    Calls Tryd.prog 37 #[ptrV S.g, .int .u64 x, .int .i64 n, .int .i64 r] w (AccPost S w (accR M x n r)) := by
  by_cases hw : isW n
  · have HH := Lib.hid h
    obtain ⟨R, hR⟩ : ∃ R, accR M x n r = R := ⟨_, rfl⟩
    rw [hR]
    have hn1 : n.toNat ≤ 1099511627776 := by unfold isW at hw; omega
    have HF := Lib.hid (vfind_ok h x n.toNat x1 hn1)
    have hR2 : (match spanP M x n.toNat with | none => (40, []) | some L => if L.any (denyP M r) = true then ((41, []) : Int × List Pt) else (0, L)) = R := by
      rw [← hR]; unfold accR; rw [if_pos hw]
    have hgd := span_good (M := M) n.toNat x
    have hln := span_len (M := M) n.toNat x
    obtain ⟨Z, hZ⟩ : ∃ Z, spanP M x n.toNat = Z := ⟨_, rfl⟩
    rw [hZ] at HF hR2
    rw [hZ] at hgd hln
    have HR := Lib.hid hR2
    have HG := Lib.hid hgd
    have HL := Lib.hid hln
    clear hR hR2 hgd hln hZ hn1 h
    unfold isW at hw
    unfold ptrV at *
    rcases hw with rfl | rfl | rfl | rfl
    all_goals simp only [show ((1 : Int)).toNat = 1 from rfl, show ((2 : Int)).toNat = 2 from rfl, show ((4 : Int)).toNat = 4 from rfl, show ((8 : Int)).toNat = 8 from rfl] at HF
    all_goals go_enter Tryd.func37, Tryd.ntmps37
    all_goals go_wp2_with fail
    all_goals refine HF.out.mono ?_
    all_goals rintro r1 w1 ⟨hb1, hr1⟩
    all_goals have HB1 := Lib.hid hb1
    all_goals clear hb1 HF
    all_goals cases Z with
      | none =>
        subst hr1
        have hz := HR.out
        simp only at hz
        subst hz
        go_wp2
        go_ret2
        exact ⟨HB1.out, _, rfl, World.ownsRow_nil _ _ _ _⟩
      | some L =>
        obtain ⟨v, rfl, hv⟩ := hr1
        have hz := HR.out
        simp only at hz
        have HZ := Lib.hid hz
        obtain ⟨va, vc, hve⟩ := own_slp hv
        have HV := Lib.hid hv
        obtain ⟨m, hm⟩ : ∃ m, L.length = m := ⟨_, rfl⟩
        have hm8 : m ≤ 8 := by
          have q1 := len_sum L (fun p hp => (HG.out L rfl p hp).2)
          rw [HL.out L rfl, hm] at q1
          exact Nat.le_trans q1 (by decide)
        have HM := Lib.hid hm
        rw [hm] at hve
        have HVE := Lib.hid hve
        rw [hve]
        clear hz hv hm hve HR
        go_wp2
        go_loopw [13, 41] (fun _ i wr => ∃ k : Nat, k ≤ m ∧ i = .int .i64 k ∧ Hid (∀ j, j < k → denyP M r (L.getD j pt0) = false) ∧ Hid (Below w1.heap.size w1 wr)) (fun _ i _ => m - (intOf i).toNat)
        case atStart => exact ⟨0, Nat.zero_le _, rfl, Lib.hid (fun j hj => absurd hj (Nat.not_lt_zero _)), Lib.hid (Below.refl _ _)⟩
        case round =>
          obtain ⟨k, hkm, rfl, HD, HB⟩ := hrel
          by_cases hlt : k < m
          · have hlti : (k : Int) < m := by omega
            obtain ⟨g, cap, e9, hcap, hg, q0, q1⟩ := pts_n (k := k) HV.out (by rw [HM.out]; exact hlt)
            rw [HVE.out, HM.out] at e9
            injection e9 with e91 e92 e93
            subst e91
            subst e93
            rw [HM.out] at hcap
            have hcapi : (k : Int) < vc := by omega
            have q0 : wr.cell? ⟨g, k * 2, none⟩ = _ := (HB.out.cell hg).trans q0
            have q1 : wr.cell? ⟨g, k * 2 + 1, none⟩ = _ := (HB.out.cell hg).trans q1
            obtain ⟨p, hp⟩ : ∃ p, L.getD k pt0 = p := ⟨_, rfl⟩
            have hpm : p ∈ L := by
              rw [← hp, List.getD_eq_getElem?_getD, List.getElem?_eq_getElem (by rw [HM.out]; exact hlt)]
              exact List.getElem_mem _
            rw [hp] at q0 q1
            obtain ⟨⟨pg, hpg, -⟩, -⟩ := HG.out L rfl p hpm
            have hat := (HH.out.below HB1.out).below HB.out
            obtain ⟨hpm2, hpa⟩ := findP_mem hpg
            have c0 : ∀ o, (wr.alloc o).cell? ⟨S.pb p.a, 0, none⟩ = some (.int .i64 pg.prot) := fun o => by rw [← hpa]; exact ((hat.pg pg hpm2).alloc o).cell 0
            have HK := Lib.hid hlt
            have clt : S.pb p.a < wr.heap.size := by rw [← hpa]; exact (hat.pg pg hpm2).lt
            have hdn : denyP M r p = (bits .and .i64 pg.prot r == 0) := by unfold denyP; rw [hpg]
            have hbl := Lib.hid (fun o => (HB.out.alloc (o := o) HB.out.size))
            cases hde : (bits .and .i64 pg.prot r == 0) with
            | true =>
              have HE : Hid (R = (41, [])) := Lib.hid (by
                have := HZ.out
                rw [if_pos (by rw [List.any_eq_true]; exact ⟨p, hpm, by rw [hdn, hde]⟩)] at this
                exact this.symm)
              clear hat hp hpm hdn hpg
              go_wp2
              go_ret2
              rw [HE.out]
              exact ⟨HB1.out.trans ((hbl.out _).mono HB1.out.size), _, rfl, World.ownsRow_nil _ _ _ _⟩
            | false =>
              have HD2 : Hid (∀ j, j < k + 1 → denyP M r (L.getD j pt0) = false) := Lib.hid (fun j hj => by
                by_cases e : j = k
                · rw [e, hp, hdn, hde]
                · exact HD.out j (by omega))
              clear hat hp hpm hdn hpg
              go_wp2
              go_roundw
              case rel => exact ⟨k + 1, HK.out, by go_num, HD2, hbl.out _⟩
              case measure => have := HK.out; simp [intOf]; omega
          · have hlti : ¬ (k : Int) < m := by omega
            obtain rfl : k = m := by omega
            have HE : Hid (R = (0, L)) := Lib.hid (by
              have := HZ.out
              rw [if_neg (by rw [and_ne M r L k HD.out (by rw [HM.out]; exact Nat.le_refl _)]; decide)] at this
              exact this.symm)
            go_wp2
            go_ret2
            rw [HE.out]
            refine ⟨HB1.out.trans (HB.out.mono HB1.out.size), _, rfl, ?_⟩
            have hv2 := HV.out
            rw [HVE.out] at hv2
            exact own_below2 hv2 HB.out
  · have hR : accR M x n r = (1, []) := by unfold accR; rw [if_neg hw]
    rw [hR]
    unfold isW at hw
    have h1 : (n != 1) = true := by simp; omega
    have h2 : (n != 2) = true := by simp; omega
    have h4 : (n != 4) = true := by simp; omega
    have h8 : (n != 8) = true := by simp; omega
    clear hR hw h
    unfold ptrV
    go_enter Tryd.func37, Tryd.ntmps37
    go_wp2
    go_ret2
    exact ⟨Below.refl _ _, _, rfl, World.ownsRow_nil _ _ _ _⟩
end Go.Proofs.YtkhfmgifpppcmaaDoor
