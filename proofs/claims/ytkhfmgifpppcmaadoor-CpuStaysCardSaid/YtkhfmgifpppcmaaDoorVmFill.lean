/-
  What is proved here: fill of package vmem. · Poke, findRange of package vmem.
  Conditions: as they say.
-/
import Derived.Test.YtkhfmgifpppcmaaDoorVmRng
namespace Go.Proofs.YtkhfmgifpppcmaaDoor
open Go.RowKit Go.WideMaps Go.Maps
set_option linter.unusedVariables false
set_option linter.unusedSimpArgs false

/-- Nothing turns but memory's own. -/
structure TurnV (S : VS) (w w' : World) : Prop where
  os : w'.os = w.os
  tape : w'.tape = w.tape
  output : w'.output = w.output
  size : w.heap.size ≤ w'.heap.size
  block : ∀ k, k < w.heap.size → ¬ S.own k → w'.heap[k]? = w.heap[k]?
theorem TurnV.refl (S : VS) (w : World) : TurnV S w w := ⟨rfl, rfl, rfl, Nat.le_refl _, fun _ _ _ => rfl⟩
theorem TurnV.trans {S : VS} {w w1 w2 : World} (h : TurnV S w w1) (h2 : TurnV S w1 w2) : TurnV S w w2 :=
  ⟨h2.os.trans h.os, h2.tape.trans h.tape, h2.output.trans h.output, Nat.le_trans h.size h2.size, fun k hk ho => (h2.block k (Nat.lt_of_lt_of_le hk h.size) ho).trans (h.block k hk ho)⟩
theorem TurnV.of_below {S : VS} {w w' : World} (h : Below w.heap.size w w') : TurnV S w w' := ⟨h.os, h.tape, h.output, h.size, fun k hk _ => h.block k hk⟩
theorem TurnV.below {S : VS} {B : Nat} {w w' : World} (h : TurnV S w w') (hB : B ≤ w.heap.size) (ho : ∀ k, k < B → ¬ S.own k) : Below B w w' := ⟨h.os, h.tape, h.output, h.size, fun k hk => h.block k (Nat.lt_of_lt_of_le hk hB) (ho k hk)⟩
theorem fill_good {p : Pt} : ∀ {M : List Pg} (L : List Pt) (bs : List Int), GoodP M p → GoodP (fillM M L bs) p
  | M, [], bs, h => h
  | M, q :: r, bs, h => fill_good r _ (upd_good (f := putPg q.o (bs.take q.n)) (fun _ => rfl) h)
theorem take_sum : ∀ (L : List Pt) (j : Nat), ((L.take j).map (fun x => x.n)).sum ≤ (L.map (fun x => x.n)).sum
  | [], j => by simp
  | p :: r, 0 => Nat.zero_le _
  | p :: r, j + 1 => by
    have := take_sum r j
    simp only [List.take_succ_cons, List.map_cons, List.sum_cons]
    omega
set_option maxHeartbeats 12800000 in
set_option maxRecDepth 100000 in
theorem fill_ok {w : World} {S : VS} {M : List Pg} {c : Nat} (h : VAt w S M c) {base : Nat} {L : List Pt} {v : Value} (hv : w.ownsRow base 74 2 v L.length (ptCs S L)) (hsep : ∀ g, v.ownBlock = some g → ¬ S.own g)
    (hgd : ∀ p ∈ L, GoodP M p ∧ 1 ≤ p.n) (hl : L.length ≤ 268435456) (zs : List Int) (bd : Option Addr) (bn bc B : Nat) (hb : Bys w B bd bn zs) (hB : B ≤ w.heap.size) (hbo : ∀ gb ob, bd = some ⟨gb, ob, none⟩ → ¬ S.own gb)
    (hsum : (L.map (fun x => x.n)).sum ≤ bn) (hcc : bn ≤ bc) (hbc : bc ≤ 9223372036854775807) :
    Calls Tryd.prog 16 #[v, .slice bd bn bc] w fun r w' => r = .returned (.tuple #[]) ∧ VAt w' S (fillM M L zs) c ∧ TurnV S w w' := by
  have HH := Lib.hid h
  have HV := Lib.hid hv
  have HG := Lib.hid hgd
  have HY := Lib.hid hb
  have HO := Lib.hid hbo
  have HSU := Lib.hid hsum
  have HSP := Lib.hid hsep
  have HBB := Lib.hid hB
  obtain ⟨va, vc, hve⟩ := own_slp hv
  obtain ⟨n, hn⟩ : ∃ n, L.length = n := ⟨_, rfl⟩
  have HN := Lib.hid hn
  rw [hn] at hl hve
  have HVE := Lib.hid hve
  rw [hve]
  have hbci : (bc : Int) ≤ 9223372036854775807 := by omega
  clear h hv hgd hb hbo hsum hsep hve hn hB
  go_enter Tryd.func16, Tryd.ntmps16
  go_wp2
  go_loopw [1, 5, 8] (fun b _ i wr => ∃ (k sk m mc : Nat) (ba : Option Addr), k ≤ n ∧ i = .int .i64 k ∧ b = .slice ba m mc ∧ Hid (((L.take k).map (fun x => x.n)).sum = sk) ∧ m + sk = bn ∧ mc + sk = bc ∧ Hid (0 < m → ∃ gb ob, bd = some ⟨gb, ob, none⟩ ∧ ba = some ⟨gb, ob + sk, none⟩) ∧ Hid (VAt wr S (fillM M (L.take k) zs) c) ∧ Hid (TurnV S w wr)) (fun _ _ i _ => n - (intOf i).toNat)
  case atStart => exact ⟨0, 0, bn, bc, bd, Nat.zero_le _, rfl, rfl, Lib.hid rfl, rfl, rfl, Lib.hid (fun h0 => by obtain ⟨gb, ob, e, _⟩ := HY.out.2.2 h0; exact ⟨gb, ob, e, e⟩), HH, Lib.hid (TurnV.refl _ _)⟩
  case round =>
    obtain ⟨k, sk, m, mc, ba, hkn, rfl, rfl, HSK, hm, hmc, HBA, HAT, HT⟩ := hrel
    by_cases hlt : k < n
    · have hlti : (k : Int) < n := by omega
      obtain ⟨g, cap, e9, hcap, hg, q0, q1⟩ := pts_n (k := k) HV.out (by rw [HN.out]; exact hlt)
      have hgo : ¬ S.own g := HSP.out g (by rw [e9]; rfl)
      rw [HVE.out, HN.out] at e9
      injection e9 with e91 e92 e93
      subst e91
      subst e93
      rw [HN.out] at hcap
      have hcapi : (k : Int) < vc := by omega
      have q0 : wr.cell? ⟨g, k * 2, none⟩ = _ := (World.cell?_of_block (w := w) (HT.out.block g hg hgo)).trans q0
      have q1 : wr.cell? ⟨g, k * 2 + 1, none⟩ = _ := (World.cell?_of_block (w := w) (HT.out.block g hg hgo)).trans q1
      obtain ⟨p, hp⟩ : ∃ p, L.getD k pt0 = p := ⟨_, rfl⟩
      have hpm : p ∈ L := by
        rw [← hp, List.getD_eq_getElem?_getD, List.getElem?_eq_getElem (by rw [HN.out]; exact hlt)]
        exact List.getElem_mem _
      have hsn : L.take (k + 1) = L.take k ++ [p] := by
        rw [List.take_succ_eq_append_getElem (by rw [HN.out]; exact hlt), ← hp, List.getD_eq_getElem?_getD, List.getElem?_eq_getElem (by rw [HN.out]; exact hlt)]; rfl
      rw [hp] at q0 q1
      obtain ⟨hgood, hp1⟩ := HG.out p hpm
      obtain ⟨q, hq, ho⟩ := fill_good (M := M) (L.take k) zs hgood
      obtain ⟨hqm, hqa⟩ := findP_mem hq
      have hskn : ((L.take (k + 1)).map (fun x => x.n)).sum = sk + p.n := by rw [hsn, List.map_append, List.sum_append, HSK.out]; simp
      have hle : sk + p.n ≤ bn := by
        have := take_sum L (k + 1)
        rw [hskn] at this
        exact Nat.le_trans this HSU.out
      have hpm2 : p.n ≤ m := by omega
      obtain ⟨gb, ob, hbd, hba⟩ := HBA.out (by omega)
      subst hba
      have hgbo : ¬ S.own gb := HO.out gb ob hbd
      obtain ⟨gb', ob', hbd', hgB, hcel⟩ := HY.out.2.2 (by omega)
      rw [hbd] at hbd'
      injection hbd' with hbd'
      injection hbd' with hb1 hb2
      subst hb1
      subst hb2
      have hgbw : gb < w.heap.size := Nat.lt_of_lt_of_le hgB HBB.out
      have hsrc : ∀ i, i < bn → wr.cell? ⟨gb, ob + i, none⟩ = some (.int .u8 (zs.getD i 0)) := fun i hi => (World.cell?_of_block (w := w) (HT.out.block gb hgbw hgbo)).trans (hcel i hi)
      have hgbr : gb < wr.heap.size := Nat.lt_of_lt_of_le hgbw HT.out.size
      -- what is laid
      obtain ⟨bs, hbs⟩ : ∃ bs, (zs.drop sk).take p.n = bs := ⟨_, rfl⟩
      have hbl : bs.length = p.n := by rw [← hbs, List.length_take, List.length_drop, HY.out.1]; omega
      have hbb : ∀ z ∈ bs, 0 ≤ z ∧ z ≤ 255 := fun z hz => HY.out.2.1 z (by rw [← hbs] at hz; exact List.mem_of_mem_drop (List.mem_of_mem_take hz))
      obtain ⟨cs, hcs⟩ : ∃ cs, bs.map (Value.int .u8) = cs := ⟨_, rfl⟩
      have HCL : Hid (cs.length = p.n) := Lib.hid (by rw [← hcs, List.length_map, hbl])
      have HC1 : Hid (∀ x ∈ cs, x.oneCell' = true) := Lib.hid (fun x hx => by rw [← hcs] at hx; obtain ⟨z, _, rfl⟩ := List.mem_map.1 hx; rfl)
      have HSRC : Hid (∀ (j : Nat) (x : Value), cs[j]? = some x → wr.cell? ⟨gb, ob + sk + j, none⟩ = some x) := Lib.hid (fun j x hx => by
        have hj : j < p.n := by
          have := (List.getElem?_eq_some_iff.1 hx).1
          rw [HCL.out] at this; exact this
        have hj2 : sk + j < bn := by omega
        have hj3 : sk + j < zs.length := by rw [HY.out.1]; exact hj2
        rw [Nat.add_assoc, hsrc (sk + j) hj2, ← hx, ← hcs, List.getElem?_map, ← hbs, List.getElem?_take_of_lt hj, List.getElem?_drop, List.getElem?_eq_getElem hj3, List.getD_eq_getElem?_getD, List.getElem?_eq_getElem hj3]
        rfl)
      have hok := HAT.out.ok q hqm
      have HPG : Hid (∀ X, (wr.alloc X).heap[S.pb p.a]? = some (.cells (pgC q) 54 (0, 0))) := Lib.hid (fun X => by rw [← hqa]; exact (HAT.out.pg q hqm).alloc X)
      have HSZ : Hid (4 + p.o + cs.length ≤ (pgC q).size) := Lib.hid (by rw [HCL.out, pgC_size, hok.len]; omega)
      have HEND : Hid (∀ X, VAt ((wr.alloc X).setRow (S.pb p.a) ((pgC q).toList.take (4 + p.o) ++ (cs ++ (pgC q).toList.drop (4 + p.o + p.n))).toArray) S (fillM M (L.take (k + 1)) zs) c ∧ TurnV S w ((wr.alloc X).setRow (S.pb p.a) ((pgC q).toList.take (4 + p.o) ++ (cs ++ (pgC q).toList.drop (4 + p.o + p.n))).toArray)) := Lib.hid (fun X => by
        rw [← HCL.out]
        have hba := (Below.refl wr.heap.size wr).alloc (Nat.le_refl _) X
        refine ⟨?_, HT.out.trans ((TurnV.of_below hba).trans ⟨rfl, rfl, rfl, by simp [World.setRow], fun j hj hno => setRow_other _ _ _ _ (fun e => hno (by rw [e, ← hqa]; exact HAT.out.op q hqm))⟩)⟩
        rw [hsn, fill_snoc, HSK.out, hbs, ← hqa]
        refine (HAT.out.below hba).upd hqm (f := putPg p.o bs) (fun _ => rfl) (putPg_ok hok (by rw [hbl]; exact ho) hbb) ?_ (fun j _ hj => setRow_other _ _ _ _ hj) (by simp [World.setRow])
        have e := setRow_heap (wr.alloc X) (S.pb q.a) (pgC q) ((pgC q).toList.take (4 + p.o) ++ (cs ++ (pgC q).toList.drop (4 + p.o + cs.length))).toArray 54 _ ((HAT.out.pg q hqm).alloc X)
        rw [← pgC_put q p.o bs, hcs]
        exact e)
      have HSKN : Hid (((L.take (k + 1)).map (fun x => x.n)).sum = sk + p.n) := Lib.hid hskn
      have hpi : (p.n : Int) ≤ m := by omega
      have hpc : (p.n : Int) ≤ mc := by omega
      have HBD := Lib.hid hbd
      have HP1 := Lib.hid hp1
      have hmi : (m : Int) ≤ mc := by omega
      clear hp hpm hsn hgood hp1 hq ho hqm hqa hskn hgbo hcel hsrc hbs hbl hbb hcs hok hbd hle hgB hgbw
      have hcl : cs.length = p.n := HCL.out
      go_wp2_with (with_reducible refine wpList_copy_own rfl _ _ 32 32 rfl 5 Tryd.underlying32 size_u8 _ _ _ _ _ _ _ rfl rfl (pgC q) 54 (HPG.out _) cs ?y1 ?y2 ?y3 ?y4 ?_)
      try (case y1 => first | exact (Nat.min_eq_right hpm2).symm | (rw [hcl]; exact (Nat.min_eq_right hpm2).symm) | (simp; omega))
      try (case y2 => exact HSRC.out)
      try (case y3 => first | exact HSZ.out | (rw [← hcl]; exact HSZ.out))
      try (case y4 => exact HC1.out)
      go_wp2
      go_roundw
      case rel => exact ⟨k + 1, sk + p.n, m - p.n, mc - p.n, _, by omega, by go_num, rfl, HSKN, by omega, by omega, Lib.hid (fun _ => ⟨gb, ob, HBD.out, by rw [if_neg (by omega), Nat.add_assoc]⟩), Lib.hid (HEND.out _).1, Lib.hid (HEND.out _).2⟩
      case measure => simp [intOf]; omega
    · have hlti : ¬ (k : Int) < n := by omega
      obtain rfl : k = n := by omega
      have HE : Hid (L.take k = L) := Lib.hid (List.take_of_length_le (by rw [HN.out]; exact Nat.le_refl _))
      rw [HE.out] at HAT
      go_wp2
      go_end0
      exact ⟨rfl, HAT.out, HT.out⟩
end Go.Proofs.YtkhfmgifpppcmaaDoor
namespace Go.Proofs.YtkhfmgifpppcmaaDoor
open Go.RowKit Go.WideMaps Go.Maps
set_option linter.unusedVariables false
set_option linter.unusedSimpArgs false

/-- What Poke makes of memory, and what it answers. -/
def pokeR (M : List Pg) (x : Nat) (bs : List Int) : List Pg × Int := match spanP M x bs.length with
  | none => (M, 40)
  | some L => (fillM M L bs, 0)
theorem own_notown {w : World} {S : VS} {base s n : Nat} {e : TypeId} {v : Value} {xs : List Value} (h : w.ownsRow base e s v n xs) (hS : ∀ k, S.own k → k < base) : ∀ g, v.ownBlock = some g → ¬ S.own g := by
  intro g hg ho
  rcases h.2 with ⟨hv, _⟩ | ⟨g', c, cur, hv, hb, _⟩
  · rw [hv] at hg; cases hg
  · rw [hv] at hg
    have : g' = g := by injection hg
    subst this
    exact Nat.lt_irrefl _ (Nat.lt_of_lt_of_le (hS _ ho) hb)
set_option maxHeartbeats 6400000 in
set_option maxRecDepth 100000 in
theorem Poke_ok {w : World} {S : VS} {M : List Pg} {c : Nat} (h : VAt w S M c) (x : Nat) (x1 : x ≤ 18446744073709551615) (zs : List Int) (bd : Option Addr) (bn bc : Nat) (hb : Bys w w.heap.size bd bn zs) (hbo : ∀ gb ob, bd = some ⟨gb, ob, none⟩ → ¬ S.own gb) (hcc : bn ≤ bc) (hbc : bc ≤ 9223372036854775807) (hbn : bn ≤ 268435456) :
    Calls Tryd.prog 7 #[ptrV S.g, .int .u64 x, .slice bd bn bc] w fun r w' => r = .returned (.int .i64 (pokeR M x zs).2) ∧ VAt w' S (pokeR M x zs).1 c ∧ TurnV S w w' := by
  have HF := Lib.hid (vfind_ok h x bn x1 (by omega))
  have hgd := span_good (M := M) bn x
  have hln := span_len (M := M) bn x
  have HH := Lib.hid h
  have HY := Lib.hid hb
  have HO := Lib.hid hbo
  have hS := Lib.hid h.sm
  have hbl : zs.length = bn := hb.1
  unfold pokeR
  rw [hbl]
  obtain ⟨Z, hZ⟩ : ∃ Z, spanP M x bn = Z := ⟨_, rfl⟩
  rw [hZ] at HF hgd hln ⊢
  have HG := Lib.hid hgd
  have HL := Lib.hid hln
  have HN := Lib.hid hbn
  have HC := Lib.hid hcc
  have HC2 := Lib.hid hbc
  clear hZ hgd hln h hb hbo hbl hcc hbc
  unfold ptrV at *
  go_enter Tryd.func7, Tryd.ntmps7
  go_wp2_with fail
  refine HF.out.mono ?_
  rintro r1 w1 ⟨hb1, hr1⟩
  have HB1 := Lib.hid hb1
  clear hb1 HF
  cases Z with
  | none =>
    subst hr1
    go_wp2_with fail
    refine (fill_ok (HH.out.below HB1.out) (base := w1.heap.size) (L := []) (v := .slice none 0 0) (World.ownsRow_nil _ _ _ _) (fun g hg => by cases hg) (fun p hp => by cases hp) (by decide) zs bd bn bc w.heap.size (HY.out.below HB1.out) HB1.out.size HO.out (by simp) HC.out HC2.out).mono ?_
    rintro r2 w2 ⟨rfl, h2, t2⟩
    have H2 := Lib.hid h2
    have T2 := Lib.hid t2
    clear h2 t2
    go_wp2
    go_ret
    exact ⟨rfl, H2.out, (TurnV.of_below HB1.out).trans T2.out⟩
  | some L =>
    obtain ⟨v, rfl, hv⟩ := hr1
    have HV := Lib.hid hv
    have hl8 : L.length ≤ 268435456 := by
      have q := len_sum L (fun p hp => (HG.out L rfl p hp).2)
      rw [HL.out L rfl] at q
      exact Nat.le_trans q HN.out
    have HL8 := Lib.hid hl8
    clear hv hl8
    go_wp2_with fail
    refine (fill_ok (HH.out.below HB1.out) HV.out (own_notown HV.out hS.out) (fun p hp => HG.out L rfl p hp) HL8.out zs bd bn bc w.heap.size (HY.out.below HB1.out) HB1.out.size HO.out (Nat.le_of_eq (HL.out L rfl)) HC.out HC2.out).mono ?_
    rintro r2 w2 ⟨rfl, h2, t2⟩
    have H2 := Lib.hid h2
    have T2 := Lib.hid t2
    clear h2 t2
    go_wp2
    go_ret
    exact ⟨rfl, H2.out, (TurnV.of_below HB1.out).trans T2.out⟩
/-- The parts of a page range. -/
def rngR (M : List Pg) (x n : Nat) : Int × List Pt := if rangeP x n = true then match spanP M x n with
  | none => (40, [])
  | some L => (0, L) else (1, [])
theorem range_n {x n : Nat} (h : rangeP x n = true) : n ≤ 4294967296 := by
  unfold rangeP at h
  simp only [Bool.and_eq_true, decide_eq_true_eq] at h
  omega
end Go.Proofs.YtkhfmgifpppcmaaDoor
