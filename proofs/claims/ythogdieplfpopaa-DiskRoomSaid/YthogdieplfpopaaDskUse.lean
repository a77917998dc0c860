/-
  What is proved here: Used of package disk.
  Conditions: none.
-/
import Derived.Test.YthogdieplfpopaaDskSyn
import Derived.Maps.RangeWalk
import Derived.Sort.MapsRangeIn
import Derived.Laws.IdiomRangeMap
namespace Go.Proofs.Ythogdieplfpopaa
open Go.RowKit Go.WideMaps Go.Maps
set_option linter.unusedVariables false
set_option linter.unusedSimpArgs false

/-- How many bytes the files have whose names have come. -/
def doneS (is : List (List Int)) (left : Lit → Bool) : List Dn → Int
  | [] => 0
  | d :: r => (if left (keyS d.n) = true then 0 else ((is.getD d.f []).length : Int)) + doneS is left r
theorem done_le (is : List (List Int)) (left : Lit → Bool) : ∀ L : List Dn, 0 ≤ doneS is left L ∧ doneS is left L ≤ sizesD is L
  | [] => ⟨by simp [doneS], by simp [doneS, sizesD]⟩
  | d :: r => by
    have ih := done_le is left r
    unfold doneS sizesD
    split <;> omega
theorem done_start (is : List (List Int)) {left : Lit → Bool} : ∀ L : List Dn, (∀ x ∈ L, left (keyS x.n) = true) → doneS is left L = 0
  | [], _ => rfl
  | d :: r, h => by
    unfold doneS
    rw [if_pos (h d (by simp)), done_start is r (fun x hx => h x (by simp [hx]))]; rfl
theorem done_end (is : List (List Int)) {left : Lit → Bool} (h : ∀ k, left k = false) : ∀ L : List Dn, doneS is left L = sizesD is L
  | [] => rfl
  | d :: r => by
    unfold doneS sizesD
    rw [if_neg (by rw [h]; decide), done_end is h r]
theorem key_same {x y : ByteArray} : (keyS x).sameKey (keyS y) = decide (x = y) := by
  by_cases h : x = y
  · subst h
    rw [WideAt.sameKey_self (isKeyS x)]; simp
  · rw [sameKey_ne (keyS_ne h)]; simp [h]
theorem done_other (is : List (List Int)) {left : Lit → Bool} {s : ByteArray} : ∀ L : List Dn, (∀ x ∈ L, x.n ≠ s) → doneS is (fun z => left z && !z.sameKey (keyS s)) L = doneS is left L
  | [], _ => rfl
  | d :: r, h => by
    have h1 := h d (by simp)
    unfold doneS
    rw [done_other is r (fun x hx => h x (by simp [hx]))]
    have e1 : (keyS d.n).sameKey (keyS s) = false := by rw [key_same]; simp [h1]
    simp only [e1, Bool.not_false, Bool.and_true]
theorem done_step (is : List (List Int)) {left : Lit → Bool} {s : ByteArray} (hl : left (keyS s) = true) : ∀ (L : List Dn) (f : Nat), (L.map (·.n)).Nodup → findD L s = some f → doneS is (fun z => left z && !z.sameKey (keyS s)) L = doneS is left L + ((is.getD f []).length : Int)
  | [], f, _, h => by cases h
  | d :: r, f, hn, h => by
    rw [List.map_cons, List.nodup_cons] at hn
    rw [find_cons] at h
    unfold doneS
    by_cases e : d.n = s
    · rw [if_pos e] at h
      injection h with h
      subst h
      subst e
      rw [done_other is r (fun x hx e => hn.1 (by rw [← e]; exact List.mem_map_of_mem hx))]
      have e1 : (keyS d.n).sameKey (keyS d.n) = true := by rw [key_same]; simp
      rw [if_pos hl]
      simp only [e1, Bool.not_true, Bool.and_false, Bool.false_eq_true, if_false]
      omega
    · rw [if_neg e] at h
      rw [done_step is hl r f hn.2 h]
      have e1 : (keyS d.n).sameKey (keyS s) = false := by rw [key_same]; simp [e]
      simp only [e1, Bool.not_false, Bool.and_true]
      omega
def mkP : Option Nat → Value
  | none => .pointer none
  | some b => .pointer (some ⟨b, 0, none⟩)
theorem inv_ptr (v : Value) (y : DataW Unit × List MemPlace) (h : ptrR v = some y) : ∃ c, v = mkP c := by
  unfold ptrR at h
  split at h
  · exact ⟨none, rfl⟩
  · exact ⟨some _, rfl⟩
  · cases h
theorem key_inv {x : ByteArray} {kl : Lit} (h : keyOf Try.prog 9 (.string x) = some kl) : kl = keyS x := by
  simp [keyOf, Try.underlying9, mapKey] at h
  exact h.2.symm
/-- What an entry of a directory that has come is. -/
theorem entry_is {D : DataW Unit} {L : List Dn} {fb : Nat → Nat} (h : MapIs D L fb) {x : ByteArray} {c : Option Nat} {kl : Lit} {y : DataW Unit × List MemPlace} (hk : keyOf Try.prog 9 (.string x) = some kl) (hv : ptrR (mkP c) = some y) (ha : ∀ zd, D.atKey kl zd = y.1) :
    kl = keyS x ∧ ∃ f, findD L x = some f ∧ mkP c = .pointer (some ⟨fb f, 0, none⟩) := by
  have e := key_inv hk
  subst e
  refine ⟨rfl, ?_⟩
  obtain ⟨h1, h2⟩ := h x
  have hh : Maps.has D (keyS x) = true := has_true_of_atKey ha
  rw [hh] at h1
  obtain ⟨f, hf⟩ := Option.isSome_iff_exists.1 h1.symm
  refine ⟨f, hf, ?_⟩
  have := h2 f hf (.lit (.bool false))
  rw [ha] at this
  obtain ⟨y1, y2⟩ := y
  simp only at this
  subst this
  exact ptrR_inv_at hv
set_option maxHeartbeats 6400000 in
set_option maxRecDepth 100000 in
theorem used_ok {w : World} {S : Sh} {d : Dk} {c e : Nat} (h : At w S d c e) (hU : usedD d < 4611686018427387904) :
    Calls Try.prog 24 #[ptrV S.g] w fun r w' => r = .returned (.int .i64 (usedD d)) ∧ Below w.heap.size w w' := by
  obtain ⟨c0, c1, c2, c3, c4, c5⟩ := ds_cells h.ds
  have hq := cmp_ptr S.g w
  clear c0 c2 c3 c4 c5
  have hmp := h.fs.mp0
  cases hm : S.m0 with
  | none =>
    rw [hm] at hmp c1
    have hl : d.l = [] := hmp
    have e0 : usedD d = 0 := by unfold usedD; rw [hl]; rfl
    rw [e0]
    clear h hmp hl e0 hU hm
    have hrg := run_range_nilMap (P := Try.prog) w 59 9 73 Try.underlying59
    have hnx : ∀ ty, (Instr.next (.pointer (some ⟨w.heap.size, 0, none⟩)) false ty).run Try.prog (w.alloc (.mapIter none 0 #[] 0)) = _ := fun ty => run_next_nilMap w ty 0 0 #[]
    unfold ptrV
    go_enter Try.func24, Try.ntmps24
    go_wp2
    refine wp_loop_rounds 1 ?_
    rw [rounds_succ]
    go_wp2
    go_ret
    exact ⟨rfl, (Below.refl _ _).alloc (Nat.le_refl _) _⟩
  | some b =>
    rw [hm] at hmp c1
    obtain ⟨D, n, hn, hown, hi⟩ := hmp
    have HH := Lib.hid h
    have HI := Lib.hid hi
    have HU := Lib.hid hU
    clear h hi hm hU
    unfold ptrV
    go_enter Try.func24, Try.ntmps24
    go_wp2_with (first | (at_range; refine wpList_range_own _ rfl _ 59 rfl 9 73 law_str Try.underlying59 _ b n D rfl hown ?_; intro w0 hrg0 hg0 hs0) | go_in)
    go_frame
    have hb0 : Below w.heap.size w w0 := (Below.refl _ _).grown hg0 (Nat.le_refl _) (fun _ h => by cases h)
    go_loopw [3, 5] (fun s _ wr => ∃ (left : Lit → Bool) (cnt : Nat), wr.ranges Try.prog 9 ptrR b w.heap.size n D left cnt ∧ s = .int .i64 (doneS d.is left d.l) ∧ Below w.heap.size w wr) (fun _ _ wr => wr.rangeLeft b w.heap.size)
    case atStart =>
      refine ⟨_, _, hrg0, ?_, hb0⟩
      rw [done_start d.is d.l (fun x hx => by
        have := (HI.out x.n).1
        rw [this]
        have hf : ∀ L : List Dn, x ∈ L → (findD L x.n).isSome = true := fun L hL => by
          induction L with
          | nil => cases hL
          | cons y r ih =>
            rw [find_cons]
            by_cases e : y.n = x.n
            · rw [if_pos e]; rfl
            · rw [if_neg e]
              rcases List.mem_cons.1 hL with h1 | h1
              · subst h1; exact absurd rfl e
              · exact ih h1
        exact hf d.l hx)]
    case round =>
      obtain ⟨left, cnt, hrg, rfl, hnx⟩ := hrel
      have HNX := Lib.hid hnx
      have hdl := done_le d.is left d.l
      have HRG := Lib.hid hrg
      go_wp2_with (first
        | (at_next; refine wpList_next_ranges _ rfl _ rfl 9 law_str ptrR Value.string mkP (fun key kl hk => Maps.keyOf_string_inv Try.underlying9 hk) inv_ptr b w.heap.size n D _ _ rfl HRG.out ?_ ?_)
        | go_in)
      · intro hc0 hl0
        have hsz := done_end d.is hl0 d.l
        have HSZ := Lib.hid hsz
        clear hsz hdl hrg
        go_wp2
        go_ret
        exact ⟨by rw [HSZ.out]; rfl, HNX.out⟩
      · intro x cc kl y1 y2 w1 cnt1 hkx hlx hvy hat hrg1 hlt hg1 hs1 hen
        obtain ⟨rfl, f, hf, hcv⟩ := entry_is HI.out hkx hvy hat
        have hlf : S.live f := by
          obtain ⟨z, hz1, _, hz3⟩ := find_mem hf
          rw [← hz3]; exact HH.out.fs.nam0 z hz1
        have hnx1 : Below w.heap.size w w1 := hnx.grown hg1 hnx.size (fun _ h => by injection h with h; omega)
        have hst := done_step d.is hlx d.l f HH.out.fs.nd0 hf
        have hcell : w1.cell? ⟨S.fb f, 0, none⟩ = some (S.row f false) := ((HH.out.fs.file f hlf).later hnx1).cell 0
        obtain ⟨ra, rcap, hre⟩ := own_sl (HH.out.fs.row f false hlf)
        rw [hre] at hcell
        change w1.cell? ⟨S.fb f, 0, none⟩ = some (.slice ra (d.is.getD f []).length rcap) at hcell
        have hle2 := done_le d.is (fun z => left z && !z.sameKey (keyS x)) d.l
        rw [hst] at hle2
        have hub := HU.out
        unfold usedD at hub
        have HST := Lib.hid hst
        have HR1 := Lib.hid hrg1
        have HN1 := Lib.hid hnx1
        have HLT := Lib.hid hlt
        rw [hcv] at hen ⊢
        clear hst hrg1 hnx1 hg1 hs1 hkx hvy hat hlt hnx hrg hf hlf hre hcv
        generalize (d.is.getD f []).length = fl at *
        generalize hds : doneS d.is left d.l = ds at *
        have HDS := Lib.hid hds
        clear hds
        have hb1 : ds + (fl : Int) ≤ 4611686018427387904 := by omega
        clear hle2 hub
        go_wp2
        go_roundw
        case rel => exact ⟨_, cnt1, HR1.out, by rw [HST.out], HN1.out⟩
        case measure => rw [HR1.out.left_eq, HRG.out.left_eq]; exact HLT.out
end Go.Proofs.Ythogdieplfpopaa
