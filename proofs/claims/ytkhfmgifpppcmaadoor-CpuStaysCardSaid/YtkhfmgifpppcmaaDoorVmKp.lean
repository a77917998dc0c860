/-
  What is proved here: plain words: what is written is there, page by page and byte by byte; loads behind stores. · plain words for VmemKeeps: what is stored over three pages that may be read and written is loaded, all other bytes are as they were.
  Conditions: as they say.
-/
import Derived.Test.YtkhfmgifpppcmaaDoorVmSto
import Derived.Test.YtkhfmgifpppcmaaDoorVmLd
import Derived.Test.YtkhfmgifpppcmaaDoorVmMap
namespace Go.Proofs.YtkhfmgifpppcmaaDoor
open Go.RowKit
set_option linter.unusedVariables false
set_option linter.unusedSimpArgs false

theorem laid_get {zs bs : List Int} {o i : Nat} (h : o + bs.length ≤ zs.length) (hi : i < zs.length) : (laidB zs o bs).getD i 0 = if o ≤ i ∧ i < o + bs.length then bs.getD (i - o) 0 else zs.getD i 0 := by
  unfold laidB
  have hto : (zs.take o).length = o := by rw [List.length_take]; omega
  by_cases h1 : i < o
  · rw [if_neg (by omega), List.getD_eq_getElem?_getD, List.getElem?_append_left (by omega), List.getElem?_take_of_lt h1, ← List.getD_eq_getElem?_getD]
  · rw [List.getD_eq_getElem?_getD, List.getElem?_append_right (by omega), hto]
    by_cases h2 : i < o + bs.length
    · rw [if_pos ⟨by omega, h2⟩, List.getElem?_append_left (by omega), ← List.getD_eq_getElem?_getD]
    · rw [if_neg (by omega), List.getElem?_append_right (by omega), List.getElem?_drop, List.getD_eq_getElem?_getD, show o + bs.length + (i - o - bs.length) = i by omega]
theorem poke_page (d : Bool) (n : Nat) : ∀ (M : List Pg) (x : Nat) (bs : List Int), bs.length = n → (∀ q ∈ M, q.b.length = 256 ∧ q.a % 256 = 0) → ∀ (A : Nat) (p : Pg), findP M A = some p →
    ∃ p', findP (pokeW d M x bs) A = some p' ∧ p'.prot = p.prot ∧ p'.b.length = 256 ∧ p'.a = p.a ∧ p'.file = p.file ∧ p'.off = p.off ∧ ∀ i, i < 256 → p'.b.getD i 0 = if x ≤ A + i ∧ A + i < x + n then bs.getD (A + i - x) 0 else p.b.getD i 0 := by
  induction n using Nat.strongRecOn with
  | ind n ih =>
    intro M x bs hn hM A p hp
    obtain ⟨hm, ha⟩ := findP_mem hp
    obtain ⟨hl, hal⟩ := hM p hm
    by_cases hz : bs.length = 0
    · have hz2 : bs = [] := List.length_eq_zero_iff.1 hz
      subst hz2
      have hn : 0 = n := hn
      rw [poke_nil]
      exact ⟨p, hp, rfl, hl, rfl, rfl, rfl, fun i hi => by rw [if_neg (by omega)]⟩
    · rw [poke_step hz]
      have hd : (bs.drop (min bs.length (256 - x % 256))).length = bs.length - min bs.length (256 - x % 256) := List.length_drop ..
      have htl : (bs.take (min bs.length (256 - x % 256))).length = min bs.length (256 - x % 256) := by rw [List.length_take]; omega
      obtain ⟨M1, hM1⟩ : ∃ M1, updP M (x / 256 * 256) (putD d (x % 256) (bs.take (min bs.length (256 - x % 256)))) = M1 := ⟨_, rfl⟩
      have hM1ok : ∀ q ∈ M1, q.b.length = 256 ∧ q.a % 256 = 0 := by
        intro q hq
        rw [← hM1] at hq
        unfold updP at hq
        obtain ⟨z, hz1, rfl⟩ := List.mem_map.1 hq
        obtain ⟨h1, h2⟩ := hM z hz1
        by_cases e : z.a = x / 256 * 256
        · rw [if_pos e]
          refine ⟨?_, h2⟩
          show (laidB z.b _ _).length = 256
          rw [laidB_len (by rw [htl, h1]; omega), h1]
        · rw [if_neg e]; exact ⟨h1, h2⟩
      have hf1 := upd_find (M := M) (a := x / 256 * 256) (f := putD d (x % 256) (bs.take (min bs.length (256 - x % 256)))) (fun _ => rfl) A
      rw [hp, hM1] at hf1
      simp only [Option.map_some] at hf1
      obtain ⟨p', e1, e2, e3, e4, e5, e6, e7⟩ := ih (bs.length - min bs.length (256 - x % 256)) (by omega) M1 (x + min bs.length (256 - x % 256)) (bs.drop (min bs.length (256 - x % 256))) hd hM1ok A _ hf1
      rw [hM1]
      refine ⟨p', e1, ?_, e3, ?_, ?_, ?_, fun i hi => ?_⟩
      · rw [e2]
        by_cases e : p.a = x / 256 * 256
        · rw [if_pos e]; rfl
        · rw [if_neg e]
      · rw [e4]
        by_cases e : p.a = x / 256 * 256
        · rw [if_pos e]; rfl
        · rw [if_neg e]
      · rw [e5]
        by_cases e : p.a = x / 256 * 256
        · rw [if_pos e]; rfl
        · rw [if_neg e]
      · rw [e6]
        by_cases e : p.a = x / 256 * 256
        · rw [if_pos e]; rfl
        · rw [if_neg e]
      · rw [e7 i hi]
        obtain ⟨k, hk⟩ : ∃ k, min bs.length (256 - x % 256) = k := ⟨_, rfl⟩
        rw [hk] at htl ⊢
        have hdg : ∀ j, (bs.drop k).getD j 0 = bs.getD (k + j) 0 := fun j => by rw [List.getD_eq_getElem?_getD, List.getElem?_drop, ← List.getD_eq_getElem?_getD]
        by_cases h1 : x + k ≤ A + i ∧ A + i < x + k + (bs.length - k)
        · rw [if_pos h1, if_pos (by omega), hdg, show k + (A + i - (x + k)) = A + i - x by omega]
        · rw [if_neg h1]
          by_cases e : p.a = x / 256 * 256
          · rw [if_pos e]
            show (laidB p.b (x % 256) (bs.take k)).getD i 0 = _
            rw [laid_get (by rw [htl, hl]; omega) (by rw [hl]; exact hi), htl]
            by_cases h2 : x % 256 ≤ i ∧ i < x % 256 + k
            · rw [if_pos h2, if_pos (by omega), show A + i - x = i - x % 256 by omega]
              rw [List.getD_eq_getElem?_getD, List.getElem?_take_of_lt (by omega), ← List.getD_eq_getElem?_getD]
            · rw [if_neg h2, if_neg (by omega)]
          · rw [if_neg e, if_neg (by omega)]
end Go.Proofs.YtkhfmgifpppcmaaDoor
namespace Go.Proofs.YtkhfmgifpppcmaaDoor
open Go.RowKit
set_option linter.unusedVariables false
set_option linter.unusedSimpArgs false

theorem poke_as (d : Bool) (n : Nat) : ∀ (M : List Pg) (x : Nat) (bs : List Int), bs.length = n → (pokeW d M x bs).map (·.a) = M.map (·.a) := by
  induction n using Nat.strongRecOn with
  | ind n ih =>
    intro M x bs hn
    by_cases hz : bs.length = 0
    · rw [List.length_eq_zero_iff.1 hz, poke_nil]
    · have hd : (bs.drop (min bs.length (256 - x % 256))).length = bs.length - min bs.length (256 - x % 256) := List.length_drop ..
      rw [poke_step hz, ih (bs.length - min bs.length (256 - x % 256)) (by omega) _ _ _ hd]
      exact upd_as (f := putD d (x % 256) (bs.take (min bs.length (256 - x % 256)))) (fun _ => rfl)
theorem poke_all {Q : Pg → Prop} (d : Bool) (hQ : ∀ q o bs, Q q → Q (putD d o bs q)) (n : Nat) : ∀ (M : List Pg) (x : Nat) (bs : List Int), bs.length = n → (∀ q ∈ M, Q q) → ∀ q ∈ pokeW d M x bs, Q q := by
  induction n using Nat.strongRecOn with
  | ind n ih =>
    intro M x bs hn hM
    by_cases hz : bs.length = 0
    · rw [List.length_eq_zero_iff.1 hz, poke_nil]; exact hM
    · have hd : (bs.drop (min bs.length (256 - x % 256))).length = bs.length - min bs.length (256 - x % 256) := List.length_drop ..
      rw [poke_step hz]
      refine ih (bs.length - min bs.length (256 - x % 256)) (by omega) _ _ _ hd ?_
      intro q hq
      unfold updP at hq
      obtain ⟨z, hz1, rfl⟩ := List.mem_map.1 hq
      by_cases e : z.a = x / 256 * 256
      · rw [if_pos e]; exact hQ _ _ _ (hM z hz1)
      · rw [if_neg e]; exact hM z hz1
/-- The byte at an address. -/
def byteP (M : List Pg) (y : Nat) : Int := match findP M (y / 256 * 256) with
  | some q => q.b.getD (y % 256) 0
  | none => 0
theorem byteP_of {M : List Pg} {y : Nat} {q : Pg} (h : findP M (y / 256 * 256) = some q) : byteP M y = q.b.getD (y % 256) 0 := by unfold byteP; rw [h]
theorem poke_byte {d : Bool} {M : List Pg} {x : Nat} {bs : List Int} (hM : ∀ q ∈ M, q.b.length = 256 ∧ q.a % 256 = 0) {y : Nat} (hy : (findP M (y / 256 * 256)).isSome = true) :
    byteP (pokeW d M x bs) y = if x ≤ y ∧ y < x + bs.length then bs.getD (y - x) 0 else byteP M y := by
  obtain ⟨p, hp⟩ := Option.isSome_iff_exists.1 hy
  obtain ⟨p', h1, _, _, _, _, _, h2⟩ := poke_page d bs.length M x bs rfl hM _ p hp
  rw [byteP_of h1, byteP_of hp, h2 _ (by omega), show y / 256 * 256 + y % 256 = y by omega]
theorem bytesL_len {M : List Pg} (hM : ∀ p ∈ M, p.Ok) : ∀ L : List Pt, (∀ p ∈ L, GoodP M p) → (bytesL M L).length = (L.map (fun x => x.n)).sum
  | [], _ => rfl
  | p :: r, h => by
    obtain ⟨q, hq, ho⟩ := h p (List.mem_cons_self ..)
    have hl := (hM q (findP_mem hq).1).len
    have e : bytesL M (p :: r) = (q.b.drop p.o).take p.n ++ bytesL M r := by
      show bytesP M _ ++ _ = _
      unfold bytesP
      simp only [hq]
      rfl
    rw [e, List.length_append, bytesL_len hM r (fun z hz => h z (List.mem_cons_of_mem _ hz)), List.map_cons, List.sum_cons, List.length_take, List.length_drop, hl]
    omega
/-- Three pages that may be read and written. -/
structure KpM (M : List Pg) : Prop where
  ads : M.map (·.a) = [512, 768, 1024]
  pr : ∀ p ∈ M, p.prot = 6
  ok : ∀ p ∈ M, p.b.length = 256 ∧ p.a % 256 = 0
theorem KpM.find {M : List Pg} (h : KpM M) {y : Nat} (h1 : 512 ≤ y) (h2 : y < 1280) : (findP M (y / 256 * 256)).isSome = true := by
  have hm : y / 256 * 256 ∈ M.map (·.a) := by
    rw [h.ads]
    have : y / 256 * 256 = 512 ∨ y / 256 * 256 = 768 ∨ y / 256 * 256 = 1024 := by omega
    rcases this with e | e | e <;> rw [e] <;> decide
  obtain ⟨p, hp, e⟩ := List.mem_map.1 hm
  rw [← e, findP_of (by rw [h.ads]; decide) hp]; rfl
theorem KpM.span {M : List Pg} (h : KpM M) {x n : Nat} (h1 : 512 ≤ x) (h2 : x + n ≤ 1280) : ∃ L, spanP M x n = some L :=
  Option.isSome_iff_exists.1 ((span_all n x).2 fun i hi => h.find (by omega) (by omega))
theorem KpM.poke {M : List Pg} (h : KpM M) (d : Bool) (x : Nat) (bs : List Int) : KpM (pokeW d M x bs) := by
  have has : (pokeW d M x bs).map (·.a) = [512, 768, 1024] := (poke_as d bs.length M x bs rfl).trans h.ads
  refine ⟨has, poke_all d (Q := fun p => p.prot = 6) (fun q o b hq => hq) bs.length M x bs rfl h.pr, ?_⟩
  intro q hq
  have hn : ((pokeW d M x bs).map (·.a)).Nodup := by rw [has]; decide
  have hf := findP_of hn hq
  have hm : q.a ∈ M.map (·.a) := by rw [h.ads, ← has]; exact List.mem_map_of_mem hq
  obtain ⟨p, hp, e⟩ := List.mem_map.1 hm
  have hfp := findP_of (by rw [h.ads]; decide) hp
  obtain ⟨p', h1, _, h3, h4, _⟩ := poke_page d bs.length M x bs rfl h.ok _ p hfp
  have e : p.a = q.a := e
  rw [e, hf] at h1
  injection h1 with h1
  subst h1
  exact ⟨h3, by rw [h4]; exact (h.ok p hp).2⟩
theorem KpM.acc {M : List Pg} (h : KpM M) {x n : Nat} {r : Int} (hn : isW n) (hr : r = 2 ∨ r = 4) {L : List Pt} (hs : spanP M x n = some L) : accR M x n r = (0, L) := by
  have hd : L.any (denyP M r) = false := by
    rw [List.any_eq_false]
    intro p hp
    obtain ⟨⟨q, hq, _⟩, _⟩ := span_good n x L hs p hp
    unfold denyP
    rw [hq]
    show ¬ (bits .and .i64 q.prot r == 0) = true
    rw [h.pr q (findP_mem hq).1]
    rcases hr with rfl | rfl
    · rw [show (bits .and .i64 6 2 == 0) = false from by kernel_rfl]; exact Bool.noConfusion
    · rw [show (bits .and .i64 6 4 == 0) = false from by kernel_rfl]; exact Bool.noConfusion
  unfold accR
  rw [if_pos hn, Int.toNat_natCast, hs]
  show (if L.any (denyP M r) = true then ((41 : Int), ([] : List Pt)) else (0, L)) = _
  rw [hd]; rfl
theorem KpM.store {M : List Pg} (h : KpM M) {x n : Nat} (hn : isW n) (u : Int) (h1 : 512 ≤ x) (h2 : x + n ≤ 1280) : storeR M x n u = (pokeW true M x (digs u n), 0) := by
  obtain ⟨L, hs⟩ := h.span h1 h2
  unfold storeR
  rw [h.acc hn (.inl rfl) hs, Int.toNat_natCast]
  show (mapL setDirty (fillM M L (digs u n)) L, (0 : Int)) = _
  rw [dirty_poke n M x (digs u n) L (digs_len u n) (by rw [digs_len]; exact hs)]
theorem KpM.bytes {M : List Pg} (h : KpM M) (hM : ∀ p ∈ M, p.Ok) {x n : Nat} {L : List Pt} (hs : spanP M x n = some L) : (bytesL M L).length = n ∧ ∀ i, i < n → (bytesL M L).getD i 0 = byteP M (x + i) := by
  refine ⟨(bytesL_len hM L (fun p hp => (span_good n x L hs p hp).1)).trans (span_len n x L hs), fun i hi => ?_⟩
  obtain ⟨q, hq, e⟩ := span_byte hM n x L hs i hi
  rw [e, byteP_of hq]
/-- What is stored is loaded. -/
theorem KpM.back {M : List Pg} (h : KpM M) {x n : Nat} (hn : isW n) {u : Int} (u0 : 0 ≤ u) (h1 : 512 ≤ x) (h2 : x + n ≤ 1280) (hM : ∀ p ∈ pokeW true M x (digs u n), p.Ok) : loadR (pokeW true M x (digs u n)) x n 4 = (u % 256 ^ n, 0) := by
  have hp := h.poke true x (digs u n)
  obtain ⟨L, hs⟩ := hp.span h1 h2
  obtain ⟨e1, e2⟩ := hp.bytes hM hs
  unfold loadR
  rw [hp.acc hn (.inr rfl) hs]
  show ((num (bytesL _ L) : Int), (0 : Int)) = _
  have e : bytesL (pokeW true M x (digs u n)) L = digs u n := by
    refine List.ext_getElem (by rw [e1, digs_len]) fun i hi1 hi2 => ?_
    have hi : i < n := by rw [e1] at hi1; exact hi1
    have e3 := e2 i hi
    rw [poke_byte h.ok (h.find (by omega) (by omega)), if_pos ⟨by omega, by rw [digs_len]; omega⟩, show x + i - x = i by omega] at e3
    rw [List.getD_eq_getElem?_getD, List.getElem?_eq_getElem hi1, List.getD_eq_getElem?_getD, List.getElem?_eq_getElem hi2] at e3
    exact e3
  rw [e, num_digs u0]
/-- All three pages, peeked. -/
theorem KpM.peek {M : List Pg} (h : KpM M) {x n : Nat} {u : Int} (h0 : ∀ y, 512 ≤ y → y < 1280 → byteP M y = 0) (hM : ∀ p ∈ pokeW true M x (digs u n), p.Ok) :
    ∃ B, peekR (pokeW true M x (digs u n)) 512 768 = (B, 0) ∧ B.length = 768 ∧ ∀ k, k < 768 → (512 + k < x ∨ x + n ≤ 512 + k) → B.getD k 0 = 0 := by
  have hp := h.poke true x (digs u n)
  obtain ⟨L, hs⟩ := hp.span (x := 512) (n := 768) (by omega) (by omega)
  obtain ⟨e1, e2⟩ := hp.bytes hM hs
  refine ⟨bytesL _ L, by unfold peekR; rw [hs], e1, fun k hk hx => ?_⟩
  rw [e2 k hk, poke_byte h.ok (h.find (by omega) (by omega)), digs_len, if_neg (by omega)]
  exact h0 _ (by omega) (by omega)
def kpS : ByteArray := ⟨#[]⟩
def kpM : List Pg := [newPg 6 kpS 0 512 0, newPg 6 kpS 0 512 1, newPg 6 kpS 0 512 2]
theorem kp_map : mapR [] 512 768 6 kpS 0 = (kpM, 0) := by kernel_rfl
theorem kp_new : KpM kpM := by
  refine ⟨by kernel_rfl, ?_, ?_⟩
  · intro p hp
    rcases List.mem_cons.1 hp with rfl | hp
    · rfl
    rcases List.mem_cons.1 hp with rfl | hp
    · rfl
    rcases List.mem_cons.1 hp with rfl | hp
    · rfl
    cases hp
  · intro p hp
    rcases List.mem_cons.1 hp with rfl | hp
    · exact ⟨by kernel_rfl, by kernel_rfl⟩
    rcases List.mem_cons.1 hp with rfl | hp
    · exact ⟨by kernel_rfl, by kernel_rfl⟩
    rcases List.mem_cons.1 hp with rfl | hp
    · exact ⟨by kernel_rfl, by kernel_rfl⟩
    cases hp
theorem kp_zero (y : Nat) (h1 : 512 ≤ y) (h2 : y < 1280) : byteP kpM y = 0 := by
  obtain ⟨q, hq⟩ := Option.isSome_iff_exists.1 (kp_new.find h1 h2)
  rw [byteP_of hq]
  have hb : q.b = zeros := by
    rcases List.mem_cons.1 (findP_mem hq).1 with rfl | hp
    · rfl
    rcases List.mem_cons.1 hp with rfl | hp
    · rfl
    rcases List.mem_cons.1 hp with rfl | hp
    · rfl
    cases hp
  rw [hb]
  unfold zeros
  rw [List.getD_eq_getElem?_getD, List.getElem?_replicate, if_pos (by omega)]; rfl
theorem kp_len {M : List Pg} (h : KpM M) : M.length = 3 := by
  have := congrArg List.length h.ads
  rw [List.length_map] at this
  exact this
end Go.Proofs.YtkhfmgifpppcmaaDoor
