/-
  What is proved here: join of package vmem: the bytes of parts.
  Conditions: none.
-/
import Derived.Test.YtkhfmgifpppcmaaDoorVmFind
import Derived.Test.YtkhfmgifpppcmaaDoorAppG
namespace Go.Proofs.YtkhfmgifpppcmaaDoor
open Go.RowKit Go.WideMaps Go.Maps
set_option linter.unusedVariables false
set_option linter.unusedSimpArgs false

def pt0 : Pt := ⟨0, 0, 0⟩
/-- A part of a page that is there. -/
def GoodP (M : List Pg) (p : Pt) : Prop := ∃ q, findP M p.a = some q ∧ p.o + p.n ≤ 256
theorem span_good {M : List Pg} (n : Nat) : ∀ (x : Nat) (L : List Pt), spanP M x n = some L → ∀ p ∈ L, GoodP M p ∧ 1 ≤ p.n := by
    induction n using Nat.strongRecOn with
    | ind n ih =>
      intro x L h p hp
      by_cases hz : n = 0
      · subst hz
        rw [span_zero] at h
        injection h with h
        subst h
        cases hp
      · cases hf : findP M (x / 256 * 256) with
        | none => rw [span_none hz hf] at h; cases h
        | some q =>
          rw [span_some hz hf] at h
          cases hr : spanP M (x + min n (256 - x % 256)) (n - min n (256 - x % 256)) with
          | none => rw [hr] at h; cases h
          | some L2 =>
            rw [hr] at h
            have h : (⟨x / 256 * 256, x % 256, min n (256 - x % 256)⟩ : Pt) :: L2 = L := by simpa using h
            subst h
            rcases List.mem_cons.1 hp with rfl | hp
            · refine ⟨⟨q, hf, ?_⟩, ?_⟩
              · show x % 256 + min n (256 - x % 256) ≤ 256
                omega
              · show 1 ≤ min n (256 - x % 256)
                omega
            · exact ih _ (by omega) _ L2 hr p hp
theorem span_len {M : List Pg} (n : Nat) : ∀ (x : Nat) (L : List Pt), spanP M x n = some L → (L.map (·.n)).sum = n := by
    induction n using Nat.strongRecOn with
    | ind n ih =>
      intro x L h
      by_cases hz : n = 0
      · subst hz
        rw [span_zero] at h
        injection h with h
        subst h
        rfl
      · cases hf : findP M (x / 256 * 256) with
        | none => rw [span_none hz hf] at h; cases h
        | some q =>
          rw [span_some hz hf] at h
          cases hr : spanP M (x + min n (256 - x % 256)) (n - min n (256 - x % 256)) with
          | none => rw [hr] at h; cases h
          | some L2 =>
            rw [hr] at h
            have h : (⟨x / 256 * 256, x % 256, min n (256 - x % 256)⟩ : Pt) :: L2 = L := by simpa using h
            subst h
            rw [List.map_cons, List.sum_cons, ih _ (by omega) _ L2 hr]
            show min n (256 - x % 256) + (n - min n (256 - x % 256)) = n
            omega
def bytesP (M : List Pg) (p : Pt) : List Int := match findP M p.a with
  | some q => (q.b.drop p.o).take p.n
  | none => []
def bytesL (M : List Pg) (L : List Pt) : List Int := L.flatMap (bytesP M)
theorem bytesL_snoc (M : List Pg) (L : List Pt) (p : Pt) : bytesL M (L ++ [p]) = bytesL M L ++ bytesP M p := by unfold bytesL; rw [List.flatMap_append]; simp
theorem add_cell (g j : Nat) : (⟨g, 0, none⟩ : Addr).add j = ⟨g, j, none⟩ := by rw [add_none, Nat.zero_add]
/-- A row of parts: the part number k. -/
theorem pts_n {w : World} {base : Nat} {S : VS} {L : List Pt} {v : Value} (h : w.ownsRow base 74 2 v L.length (ptCs S L)) {k : Nat} (hk : k < L.length) :
    ∃ g cap, v = .slice (some ⟨g, 0, none⟩) L.length cap ∧ L.length ≤ cap ∧ g < w.heap.size ∧ w.cell? ⟨g, k * 2, none⟩ = some (.pointer (some ⟨S.pb (L.getD k pt0).a, 0, none⟩)) ∧ w.cell? ⟨g, k * 2 + 1, none⟩ = some (.slice (some ⟨S.pb (L.getD k pt0).a, 4 + (L.getD k pt0).o, none⟩) (L.getD k pt0).n (256 - (L.getD k pt0).o)) := by
  rcases h.2 with ⟨_, e0⟩ | ⟨g, cap, cur, rfl, _, hg, hnc, _, hcs, htake⟩
  · omega
  have hc := h.cells (g := g) rfl
  have key : ∀ (L : List Pt) (k : Nat), k < L.length → (ptCs S L)[k * 2]? = some (.pointer (some ⟨S.pb (L.getD k pt0).a, 0, none⟩)) ∧ (ptCs S L)[k * 2 + 1]? = some (.slice (some ⟨S.pb (L.getD k pt0).a, 4 + (L.getD k pt0).o, none⟩) (L.getD k pt0).n (256 - (L.getD k pt0).o)) := by
    intro L
    induction L with
    | nil => intro k hk; cases hk
    | cons p r ih =>
      intro k hk
      have e : ptCs S (p :: r) = ptrV (S.pb p.a) :: .slice (some ⟨S.pb p.a, 4 + p.o, none⟩) p.n (256 - p.o) :: ptCs S r := rfl
      rw [e]
      cases k with
      | zero => exact ⟨rfl, rfl⟩
      | succ k =>
        have := ih k (by simpa using hk)
        rw [show (k + 1) * 2 = k * 2 + 1 + 1 by omega]
        simp only [List.getElem?_cons_succ, List.getD_cons_succ]
        exact this
  obtain ⟨k1, k2⟩ := key L k hk
  exact ⟨g, cap, rfl, hnc, (Array.getElem?_eq_some_iff.1 hg).1, by have := hc _ _ k1; rwa [add_cell] at this, by have := hc _ _ k2; rwa [add_cell] at this⟩
theorem part_bys {w : World} {S : VS} {M : List Pg} {c : Nat} (h : VAt w S M c) {p : Pt} (hp : GoodP M p) : Bys w w.heap.size (some ⟨S.pb p.a, 4 + p.o, none⟩) p.n (bytesP M p) := by
  obtain ⟨q, hq, ho⟩ := hp
  obtain ⟨hm, ha⟩ := findP_mem hq
  have hok := h.ok q hm
  have hB := h.pg q hm
  obtain ⟨_, _, _, _, hc⟩ := pg_cells hB hok.len
  unfold bytesP
  rw [hq]
  refine ⟨by rw [List.length_take, List.length_drop, hok.len]; omega, fun n hn => hok.bd n (List.mem_of_mem_drop (List.mem_of_mem_take hn)), fun h0 => ⟨S.pb p.a, 4 + p.o, rfl, by rw [← ha]; exact hB.lt, fun i hi => ?_⟩⟩
  rw [← ha, Nat.add_assoc, hc (p.o + i) (by omega), List.getD_eq_getElem?_getD, List.getD_eq_getElem?_getD, List.getElem?_take_of_lt hi, List.getElem?_drop]
set_option maxHeartbeats 6400000 in
set_option maxRecDepth 100000 in
theorem join_ok {w : World} {S : VS} {M : List Pg} {c : Nat} (h : VAt w S M c) {base : Nat} {L : List Pt} {v : Value} (hv : w.ownsRow base 74 2 v L.length (ptCs S L)) (hgd : ∀ p ∈ L, GoodP M p) (hl : L.length ≤ 268435456) :
    Calls Tryd.prog 39 #[v] w fun r w' => ∃ v', r = .returned v' ∧ w'.ownsRow w.heap.size 5 1 v' (bytesL M L).length ((bytesL M L).map (Value.int .u8)) ∧ Below w.heap.size w w' := by
  have HH := Lib.hid h
  have HV := Lib.hid hv
  have HG := Lib.hid hgd
  obtain ⟨va, vc, hve⟩ := own_slp hv
  obtain ⟨i0, hi0, hz0, hz1, hz2⟩ := info_parts info_u8
  have HI := Lib.hid hi0
  have HZ0 := Lib.hid hz0
  have HZ1 := Lib.hid hz1
  have HZ2 := Lib.hid hz2
  obtain ⟨n, hn⟩ : ∃ n, L.length = n := ⟨_, rfl⟩
  have HN := Lib.hid hn
  rw [hn] at hl hve
  have HVE := Lib.hid hve
  rw [hve]
  clear h hv hgd hi0 hz0 hz1 hz2 hve hn
  go_enter Tryd.func39, Tryd.ntmps39
  go_wp2
  go_loopw [3, 5, 8] (fun b _ i wr => ∃ k : Nat, k ≤ n ∧ i = .int .i64 k ∧ Hid (wr.ownsRow w.heap.size 5 1 b (bytesL M (L.take k)).length ((bytesL M (L.take k)).map (Value.int .u8))) ∧ Hid (Below w.heap.size w wr)) (fun _ _ i _ => n - (intOf i).toNat)
  case atStart => exact ⟨0, Nat.zero_le _, rfl, Lib.hid (World.ownsRow_nil _ _ _ _), Lib.hid (Below.refl _ _)⟩
  case round =>
    obtain ⟨k, hkn, rfl, HO, HB⟩ := hrel
    by_cases hlt : k < n
    · have hlti : (k : Int) < n := by omega
      obtain ⟨g, cap, e9, hcap, hg, q0, q1⟩ := pts_n (k := k) HV.out (by rw [HN.out]; exact hlt)
      rw [HVE.out, HN.out] at e9
      injection e9 with e91 e92 e93
      subst e91
      subst e93
      rw [HN.out] at hcap
      have hcapi : (k : Int) < vc := by omega
      have q0 : wr.cell? ⟨g, k * 2, none⟩ = _ := (HB.out.cell hg).trans q0
      have q1 : wr.cell? ⟨g, k * 2 + 1, none⟩ = _ := (HB.out.cell hg).trans q1
      obtain ⟨p, hp⟩ : ∃ p, L.getD k pt0 = p := ⟨_, rfl⟩
      have hpm : p ∈ L := by
        rw [← hp, List.getD_eq_getElem?_getD, List.getElem?_eq_getElem (by rw [HN.out]; exact hlt)]
        exact List.getElem_mem _
      have hsn : L.take (k + 1) = L.take k ++ [p] := by
        rw [List.take_succ_eq_append_getElem (by rw [HN.out]; exact hlt), ← hp, List.getD_eq_getElem?_getD, List.getElem?_eq_getElem (by rw [HN.out]; exact hlt)]; rfl
      rw [hp] at q0 q1
      have hgood := HG.out p hpm
      have HBY := Lib.hid (part_bys (HH.out.below HB.out) hgood)
      have HSN := Lib.hid hsn
      obtain ⟨va, vc2, hve⟩ := own_slp HO.out
      subst hve
      have hlen : (bytesL M (L.take k)).length ≤ 256 * k := by
        have : ∀ l : List Pt, (∀ p ∈ l, GoodP M p) → (bytesL M l).length ≤ 256 * l.length := by
          intro l
          induction l with
          | nil => intro _; exact Nat.le_refl _
          | cons a r ih =>
            intro hh
            have h1 := ih (fun p hp => hh p (List.mem_cons_of_mem _ hp))
            have h2 : (bytesP M a).length ≤ 256 := by
              obtain ⟨q, hq, ho⟩ := hh a (List.mem_cons_self ..)
              unfold bytesP
              rw [hq, List.length_take]
              omega
            show ((bytesP M a) ++ bytesL M r).length ≤ _
            rw [List.length_append, List.length_cons]
            omega
        have h3 := this (L.take k) (fun p hp => HG.out p (List.mem_of_mem_take hp))
        rw [List.length_take] at h3
        omega
      have hpn : p.n ≤ 256 := by obtain ⟨q, hq, ho⟩ := hgood; omega
      obtain ⟨bl, hbl⟩ : ∃ bl, (bytesL M (L.take k)).length = bl := ⟨_, rfl⟩
      rw [hbl] at hlen HO ⊢
      have HBL := Lib.hid hbl
      clear hbl
      clear hp hpm hsn hgood
      go_wp2_with (at_builtin; refine wpList_append_bys rfl _ _ 32 rfl w.heap.size 5 i0 (.int .u8 0) 1 Tryd.underlying32 HI.out HZ0.out HZ1.out HZ2.out rfl _ bl _ rfl (HO.out.alloc _) _ p.n (256 - p.o) wr.heap.size (bytesP M p) rfl (HBY.out.below ((Below.refl _ _).alloc (Nat.le_refl _) _)) (fun e => by cases e) ?d1 ?d2 ?d3 ?_)
      case d1 => unfold maxLen; omega
      case d2 => omega
      case d3 => have := HB.out.size; first | omega | (simp; omega)
      intro v2 w2 ho2 hg2
      have HO2 : Hid (w2.ownsRow w.heap.size 5 1 v2 (bytesL M (L.take (k + 1))).length ((bytesL M (L.take (k + 1))).map (Value.int .u8))) := Lib.hid (by
        rw [HSN.out, bytesL_snoc, List.length_append, HBL.out, HBY.out.1, List.map_append]
        exact ho2)
      have HB2 : Hid (Below w.heap.size w w2) := Lib.hid ((HB.out.alloc HB.out.size _).grown hg2 (by have := HB.out.size; simp; omega) (fun j hj => (HO.out.lt j hj).1))
      clear ho2 hg2
      go_wp2
      go_roundw
      case rel => exact ⟨k + 1, by omega, by go_num, HO2, HB2⟩
      case measure => simp [intOf]; omega
    · have hlti : ¬ (k : Int) < n := by omega
      obtain rfl : k = n := by omega
      have HE : Hid (L.take k = L) := Lib.hid (List.take_of_length_le (by rw [HN.out]; exact Nat.le_refl _))
      go_wp2
      go_ret
      exact ⟨_, rfl, by rw [HE.out] at HO; exact HO.out, HB.out⟩
end Go.Proofs.YtkhfmgifpppcmaaDoor
