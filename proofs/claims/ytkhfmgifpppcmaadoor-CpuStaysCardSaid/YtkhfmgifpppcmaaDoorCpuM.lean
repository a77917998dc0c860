/-
  What is proved here: plain words: a word that was written over a page that may be executed is fetched; where the words of code stand. · plain words: code that was written over pages that may be executed is fetched word by word; the two instructions of the laws' awake.
  Conditions: as they say.
-/
import Derived.Test.YtkhfmgifpppcmaaDoorVmKp
import Derived.Test.YtkhfmgifpppcmaaDoorCpuK
import Derived.Test.YtkhfmgifpppcmaaDoorCpuP
import Derived.Test.YtkhfmgifpppcmaaDoorCpuV
import Derived.Test.YtkhfmgifpppcmaaDoorVmMap
namespace Go.Proofs.YtkhfmgifpppcmaaDoor
open Go.RowKit Go.WideMaps Go.Maps
set_option linter.unusedVariables false
set_option linter.unusedSimpArgs false

theorem codeB_at : ∀ (L : List Int) (k i : Nat), k < L.length → i < 8 → (codeB L).getD (8 * k + i) 0 = (digs (L.getD k 0) 8).getD i 0
  | [], k, i, h, _ => by simp at h
  | u :: r, 0, i, _, hi => by
    show (digs u 8 ++ codeB r).getD (8 * 0 + i) 0 = (digs u 8).getD i 0
    rw [Nat.mul_zero, Nat.zero_add, List.getD_eq_getElem?_getD, List.getElem?_append_left (by rw [digs_len]; exact hi), ← List.getD_eq_getElem?_getD]
  | u :: r, k + 1, i, h, hi => by
    show (digs u 8 ++ codeB r).getD (8 * (k + 1) + i) 0 = (digs (r.getD k 0) 8).getD i 0
    rw [← codeB_at r k i (by simpa using h) hi, List.getD_eq_getElem?_getD, List.getElem?_append_right (by rw [digs_len]; omega), digs_len, ← List.getD_eq_getElem?_getD, show 8 * (k + 1) + i - 8 = 8 * k + i by omega]
/-- A word that stands on a page that may be executed is fetched. -/
theorem fetch_word {M : List Pg} {x : Nat} {u : Int} (u0 : 0 ≤ u) (u1 : u ≤ 18446744073709551615) (hx : x % 8 = 0) {p : Pg} (hf : findP M (x / 256 * 256) = some p) (hl : p.b.length = 256) (hpr : (bits .and .i64 p.prot 1 == 0) = false) (hb : ∀ i, i < 8 → byteP M (x + i) = (digs u 8).getD i 0) : fetchR M x = (u, 0) := by
  have hs : spanP M x 8 = some [⟨x / 256 * 256, x % 256, 8⟩] := by
    rw [span_some (by decide) hf]
    have hm : min 8 (256 - x % 256) = 8 := by omega
    rw [hm, Nat.sub_self, span_zero]
    rfl
  have hacc : accR M x 8 1 = (0, [⟨x / 256 * 256, x % 256, 8⟩]) := by
    unfold accR
    rw [if_pos (by decide)]
    show (match spanP M x 8 with | none => ((40 : Int), ([] : List Pt)) | some L => if L.any (denyP M 1) = true then (41, []) else (0, L)) = _
    rw [hs]
    have hd : ([(⟨x / 256 * 256, x % 256, 8⟩ : Pt)].any (denyP M 1)) = false := by
      simp only [List.any_cons, List.any_nil, Bool.or_false]
      unfold denyP
      simp only [hf]
      exact hpr
    show (if ([(⟨x / 256 * 256, x % 256, 8⟩ : Pt)].any (denyP M 1)) = true then ((41 : Int), ([] : List Pt)) else (0, _)) = _
    rw [hd]
    rfl
  have hby : bytesL M [⟨x / 256 * 256, x % 256, 8⟩] = digs u 8 := by
    show bytesP M ⟨x / 256 * 256, x % 256, 8⟩ ++ [] = _
    rw [List.append_nil]
    unfold bytesP
    simp only [hf]
    refine List.ext_getElem (by rw [List.length_take, List.length_drop, hl, digs_len]; omega) fun i h1 h2 => ?_
    rw [digs_len] at h2
    have h3 := hb i h2
    rw [byteP_of (q := p) (by rw [show (x + i) / 256 * 256 = x / 256 * 256 by omega]; exact hf), show (x + i) % 256 = x % 256 + i by omega, List.getD_eq_getElem?_getD, List.getD_eq_getElem?_getD, List.getElem?_eq_getElem (by rw [hl]; omega), List.getElem?_eq_getElem (by rw [digs_len]; exact h2)] at h3
    rw [List.getElem_take, List.getElem_drop]
    exact h3
  unfold fetchR
  rw [if_pos hx]
  unfold loadR
  rw [hacc, if_pos rfl, hby, num_digs u0]
  rw [Int.emod_eq_of_lt u0 (by omega)]
/-- Of an instruction that is encoded: what Decode says. -/
theorem dec_of_enc {i : In} {x : Int} (h : encI i = (x, 0)) (hc : cutI x = i) : decI x = (i, 0) := by
  unfold decI
  rw [hc, if_pos h]
theorem doI_tls (s : St) (M : List Pg) (i : In) : (doI s M i).1.tls = s.tls := by
  unfold doI jmpS
  repeat' split
  all_goals simp [St.setR, St.setP]
theorem stepC_tls (s : St) (M : List Pg) : (stepC s M).1.tls = s.tls := by
  unfold stepC
  split
  · split
    · exact doI_tls s M _
    · rfl
  · rfl
/-- A fault leaves the state. -/
theorem doI_fault (s : St) (M : List Pg) (i : In) (h : (doI s M i).2.2.k = 3) : (doI s M i).1 = s := by
  unfold doI at *
  repeat' split at h
  all_goals first | (exfalso; exact absurd h (by decide)) | skip
  all_goals (repeat' split)
  all_goals first | rfl | (exfalso; omega) | contradiction | simp_all
theorem stepC_fault (s : St) (M : List Pg) (h : (stepC s M).2.2.k = 3) : (stepC s M).1 = s := by
  unfold stepC at *
  split at h
  · rename_i h0
    rw [if_pos h0]
    split at h
    · rename_i h1
      rw [if_pos h1]
      exact doI_fault s M _ h
    · rename_i h1
      rw [if_neg h1]
  · rename_i h0
    rw [if_neg h0]
theorem setR_other (s : St) {i v : Int} {k : Nat} (h : k ≠ i.toNat) : (s.setR i v).R.getD k 0 = s.R.getD k 0 := by
  unfold St.setR
  rw [List.getD_eq_getElem?_getD, List.getD_eq_getElem?_getD, List.getElem?_set_ne (Ne.symm h)]
theorem doI_other (s : St) (M : List Pg) (i : In) {k : Nat} (h : k ≠ i.a.toNat) : (doI s M i).1.R.getD k 0 = s.R.getD k 0 := by
  have e : ∀ (t : St) (v : Int), (t.setP v).R = t.R := fun _ _ => rfl
  have hs : ∀ v : Int, (s.setR (i.a.toNat : Nat) v).R.getD k 0 = s.R.getD k 0 := fun v => setR_other s (by rw [Int.toNat_natCast]; exact h)
  unfold doI jmpS
  repeat' split
  all_goals first | rfl | (simp only [e]; first | rfl | exact hs _) | skip
end Go.Proofs.YtkhfmgifpppcmaaDoor
namespace Go.Proofs.YtkhfmgifpppcmaaDoor
open Go.RowKit Go.WideMaps Go.Maps
set_option linter.unusedVariables false
set_option linter.unusedSimpArgs false

/-- A whole row loaded by an operation that a guard stands before. -/
theorem wpList_load_row_g {P : Program} {ops : Array Oper} {rest : List Oper} {o : Oper} {a : Act} {w : World} {Q : Exit → Act → World → Prop} (hw : Region.wanted o (yielded ops a.tmps) = true) (ty : TypeId) (x : Operand) (ho : o.op = .load ty x)
    (g : Nat) (hx : a.eval x = .pointer (some ⟨g, 0, none⟩)) (t : TypeId) (cs : Array Value) (fr : Nat × Nat) (d : TypeDesc) (hg : w.heap[g]? = some (.cells cs t fr))
    (hu : P.underlying ty = some d) (hd : (match d with | .struct _ | .array _ _ => true | _ => false) = true) (hi : (P.info? ty).map (·.size) = some cs.size)
    (h : wpList P ops Q rest (a.put o.dst (.agg cs)) w) : wpList P ops Q (o :: rest) a w :=
  wpList_step fun K hK => by
    simp only [hw, if_true]
    exact wp_load_row ty x ho g hx t cs fr d hg hu hd hi (hK _ _ h)
theorem wp_same_st {s : St} (hs : s.R.length = 32) {o : Oper} {a : Act} {w : World} {K : Act → World → Prop} {Q : Exit → Act → World → Prop} (x y : Operand) (yt : TypeId) (ho : o.op = .binOp .eql 26 x y yt)
    (hx : a.eval x = .agg s.C) (hy : a.eval y = .agg s.C) (h : K (a.put o.dst (.bool true)) w) : o.wp Tryd.prog a w K Q := by
  unfold Oper.wp execOp
  simp only [ho, hx, hy, Sem.run_bind, run_eqGuard_agg (P := Tryd.prog) w .eql 26 x y s.C s.C (by kernel_rfl), st_same hs, Result.andThen_ok, Sem.run_pure]
  exact h
theorem wpList_same_g {s : St} (hs : s.R.length = 32) {ops : Array Oper} {rest : List Oper} {o : Oper} {a : Act} {w : World} {Q : Exit → Act → World → Prop} (hw : Region.wanted o (yielded ops a.tmps) = true) (x y : Operand) (yt : TypeId) (ho : o.op = .binOp .eql 26 x y yt)
    (hx : a.eval x = .agg s.C) (hy : a.eval y = .agg s.C) (h : wpList Tryd.prog ops Q rest (a.put o.dst (.bool true)) w) : wpList Tryd.prog ops Q (o :: rest) a w :=
  wpList_step fun K hK => by
    simp only [hw, if_true]
    exact wp_same_st hs x y yt ho hx hy (hK _ _ h)
theorem code_fetch {M : List Pg} (hM : ∀ q ∈ M, q.b.length = 256 ∧ q.a % 256 = 0) {x : Nat} (hx : x % 8 = 0) {L : List Int} (hb : ∀ u ∈ L, 0 ≤ u ∧ u ≤ 18446744073709551615)
    (hp : ∀ y, x ≤ y → y < x + 8 * L.length → ∃ p, findP M (y / 256 * 256) = some p ∧ (bits .and .i64 p.prot 1 == 0) = false) {k : Nat} (hk : k < L.length) :
    fetchR (pokeW false M x (codeB L)) (x + 8 * k) = (L.getD k 0, 0) := by
  obtain ⟨p, hf, hpr⟩ := hp (x + 8 * k) (by omega) (by omega)
  obtain ⟨p', h1, h2, h3, -, -, -, -⟩ := poke_page false (codeB L).length M x (codeB L) rfl hM _ p hf
  have hu : 0 ≤ L.getD k 0 ∧ L.getD k 0 ≤ 18446744073709551615 := by
    rw [List.getD_eq_getElem?_getD, List.getElem?_eq_getElem hk]; exact hb _ (List.getElem_mem _)
  refine fetch_word hu.1 hu.2 (by omega) h1 h3 (by rw [h2]; exact hpr) fun i hi => ?_
  obtain ⟨p2, hf2, -⟩ := hp (x + 8 * k + i) (by omega) (by omega)
  rw [poke_byte hM (by rw [hf2]; rfl), if_pos ⟨by omega, by rw [codeB_len]; omega⟩, show x + 8 * k + i - x = 8 * k + i by omega, codeB_at L k i hk hi]
/-- A page. -/
def pgA (m : Nat) (f : ByteArray) : Pg := ⟨256, m, false, f, 0, zeros⟩
theorem pgA_ok (m : Nat) (f : ByteArray) : ∀ q ∈ [pgA m f], q.b.length = 256 ∧ q.a % 256 = 0 := fun q hq => by
  rw [List.mem_singleton] at hq
  subst hq
  exact ⟨by unfold pgA zeros; exact List.length_replicate, by show (256 : Nat) % 256 = 0; decide⟩
theorem pgA_find {m : Nat} {f : ByteArray} {y : Nat} (h1 : 256 ≤ y) (h2 : y < 512) : findP [pgA m f] (y / 256 * 256) = some (pgA m f) := by
  rw [findP_cons, if_pos (show (pgA m f).a = y / 256 * 256 from by show 256 = _; omega)]
theorem pgA_map {m : Nat} (h : m ≤ 7) : mapR [] 256 256 m ⟨#[]⟩ 0 = ([pgA m ⟨#[]⟩], 0) := by
  unfold mapR
  have hp : protP (m : Int) = true := by unfold protP; simp; omega
  rw [hp, if_pos (by decide), if_neg (by decide), if_neg (by decide)]
  show (insP [] (newPg (m : Int) ⟨#[]⟩ 0 256 0), (0 : Int)) = _
  unfold newPg insP pgA
  rw [if_pos (show (⟨#[]⟩ : ByteArray).toList.isEmpty = true by kernel_rfl)]
theorem pgA_poke {m : Nat} {f : ByteArray} {bs : List Int} (hl : bs.length ≤ 256) : pokeR [pgA m f] 256 bs = (pokeW false [pgA m f] 256 bs, 0) := by
  unfold pokeR
  have hs : (spanP [pgA m f] 256 bs.length).isSome = true := (span_all _ _).2 fun i hi => by rw [pgA_find (by omega) (by omega)]; rfl
  obtain ⟨L, hL⟩ := Option.isSome_iff_exists.1 hs
  rw [hL]
  show (fillM [pgA m f] L bs, (0 : Int)) = _
  rw [fill_poke bs.length [pgA m f] 256 bs L rfl hL]
theorem pgA_fetch {m : Nat} {f : ByteArray} (hm : (bits .and .i64 (m : Int) 1 == 0) = false) {L : List Int} (hb : ∀ u ∈ L, 0 ≤ u ∧ u ≤ 18446744073709551615) (hl : L.length ≤ 32) {k : Nat} (hk : k < L.length) : fetchR (pokeW false [pgA m f] 256 (codeB L)) (256 + 8 * k) = (L.getD k 0, 0) :=
  code_fetch (pgA_ok m f) (by decide) hb (fun y h1 h2 => ⟨pgA m f, pgA_find h1 (by omega), hm⟩) hk
/-! ### the two instructions of awake -/
def awI : In := ⟨17, 1, 0, 0, -1⟩
def awJ : In := ⟨6, 1, 2, 3, 0⟩
def awX : Int := 18446744069414584593
def awY : Int := 803078
theorem aw_encI : encI awI = (awX, 0) := by kernel_rfl
theorem aw_encJ : encI awJ = (awY, 0) := by kernel_rfl
theorem aw_decI : decI awX = (awI, 0) := dec_of_enc aw_encI (by kernel_rfl)
theorem aw_decJ : decI awY = (awJ, 0) := dec_of_enc aw_encJ (by kernel_rfl)
def aw0 : St := St.zero.setP 256
def aw1 : St := (aw0.setR 1 18446744073709551615).setP 264
def cpM : List Pg := pokeW false [pgA 7 ⟨#[]⟩] 256 (codeB [awX, awY])
theorem awL_bd : ∀ u ∈ [awX, awY], 0 ≤ u ∧ u ≤ 18446744073709551615 := by decide
theorem aw_f1 : fetchR cpM 256 = (awX, 0) := pgA_fetch (m := 7) (by decide) awL_bd (by decide) (k := 0) (by decide)
theorem aw_f2 : fetchR cpM 264 = (awY, 0) := pgA_fetch (m := 7) (by decide) awL_bd (by decide) (k := 1) (by decide)
theorem aw_step1 : stepC aw0 cpM = (aw1, cpM, ⟨0, 0, 0⟩) := by
  unfold stepC
  rw [show aw0.pc.toNat = 256 from rfl, aw_f1, if_pos rfl]
  show (if (decI awX).2 = 0 then doI aw0 cpM (decI awX).1 else _) = _
  rw [aw_decI, if_pos rfl]
  rfl
theorem aw_step2 : stepC aw1 cpM = (aw1, cpM, ⟨3, 43, 264⟩) := by
  unfold stepC
  rw [show aw1.pc.toNat = 264 from rfl, aw_f2, if_pos rfl]
  show (if (decI awY).2 = 0 then doI aw1 cpM (decI awY).1 else _) = _
  rw [aw_decJ, if_pos rfl]
  rfl
end Go.Proofs.YtkhfmgifpppcmaaDoor
