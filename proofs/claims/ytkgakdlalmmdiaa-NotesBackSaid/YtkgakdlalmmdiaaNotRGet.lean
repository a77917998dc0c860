/-
  What is proved here: Get of the reference of notes.
  Conditions: none but that the arguments are values of their types.
-/
import Derived.Test.YtkgakdlalmmdiaaNotRPut
import Derived.Test.YtkgakdlalmmdiaaORGet
namespace Go.Proofs.Ytkgakdlalmmdiaa
open Go.RowKit
set_option linter.unusedVariables false
set_option linter.unusedSimpArgs false

/-- What Get tells of bytes: the notes, whose bytes lie where they lay, and the error. -/
def GetPost (Z : Int × List Nd) (w : World) (e : Ending) (w' : World) : Prop :=
  (∃ (ua : Option Addr) (uc : Nat) (M : List Nt), e = .returned (.tuple #[.slice ua M.length uc, .int .i64 Z.1]) ∧ (uc : Int) ≤ 9223372036854775807 ∧ M.length ≤ uc ∧ Nt.Sl w' w'.heap.size ua M.length M ∧ M.map Nt.nd = Z.2) ∧ Below w.heap.size w w'

theorem cells8_new (w : World) (L : List Value) (t : TypeId) (g : Nat) (hg : g = w.heap.size) : ∀ (j : Nat) (u : Value), L[j]? = some u → (w.alloc (.cells L.toArray t)).cell? ((⟨g, 0, none⟩ : Addr).add j) = some u := by
  intro j u hj
  subst hg
  rw [add_none, Nat.zero_add, (Blk.new w _ _).cell]
  simpa using hj
theorem info_n8 : (Try.prog.info? 51).map (fun i => (i.zero, i.size, i.bytes)) = some (some (.agg #[.string .empty, .int .u32 0, .slice none 0 0]), 3, 48) := by kernel_rfl
theorem nameOk_no {zs : List Int} {p n j : Nat} (hj : j < upN n) (h : ¬ ((zs.getD (p + j) 0 = 0) = (n ≤ j + 1))) : nameOk zs p n = false := by
  cases hq : nameOk zs p n with
  | false => rfl
  | true =>
    unfold nameOk at hq
    rw [List.all_eq_true] at hq
    have := hq j (List.mem_range.2 hj)
    exact absurd (by simpa using this) h
theorem nameOk_yes {zs : List Int} {p n : Nat} (h : ∀ j, j < upN n → ((zs.getD (p + j) 0 = 0) = (n ≤ j + 1))) : nameOk zs p n = true := by
  unfold nameOk
  rw [List.all_eq_true]
  intro j hj
  simpa using h j (List.mem_range.1 hj)
theorem padOk_no {zs : List Int} {p d j : Nat} (hj : j < upN d) (h1 : d ≤ j) (h2 : zs.getD (p + j) 0 ≠ 0) : padOk zs p d = false := by
  cases hq : padOk zs p d with
  | false => rfl
  | true =>
    unfold padOk at hq
    rw [List.all_eq_true] at hq
    have := hq j (List.mem_range.2 hj)
    rcases (by simpa using this : j < d ∨ zs.getD (p + j) 0 = 0) with h | h
    · omega
    · exact absurd h h2
theorem padOk_yes {zs : List Int} {p d : Nat} (h : ∀ j, d ≤ j → j < upN d → zs.getD (p + j) 0 = 0) : padOk zs p d = true := by
  unfold padOk
  rw [List.all_eq_true]
  intro j hj
  by_cases e : j < d
  · simp [e]
  · simpa using Or.inr (h j (by omega) (List.mem_range.1 hj))
theorem Bys.one {w : World} {B b off len : Nat} {zs : List Int} (h : Bys w B (some ⟨b, off, none⟩) len zs) {i : Nat} (hi : i < len) :
    w.cell? ⟨b, off + i, none⟩ = some (.int .u8 (zs.getD i 0)) ∧ 0 ≤ zs.getD i 0 ∧ zs.getD i 0 ≤ 255 := by
  obtain ⟨b', off', e, _, hc⟩ := h.2.2 (by omega)
  injection e with e
  injection e with e1 e2
  subst e1; subst e2
  refine ⟨hc i hi, h.2.1 _ ?_⟩
  rw [List.getD_eq_getElem?_getD, List.getElem?_eq_getElem (by rw [h.1]; exact hi)]
  exact List.getElem_mem _

set_option maxRecDepth 100000 in
set_option maxHeartbeats 3200000 in
theorem rget8_any (B : Nat) (a : Option Addr) (len cap : Nat) (zs : List Int) (w : World) (hb : Bys w B a len zs) (hB : B ≤ w.heap.size) (hcap : len ≤ cap) (hcm : (cap : Int) ≤ 9223372036854775807) :
    Calls Try.prog 15 #[.slice a len cap] w (GetPost (getN zs) w) := by
  have hzl := hb.1
  obtain ⟨i0, hi, hz0, hz1, hz2⟩ := info_parts info_n8
  have HI := Lib.hid hi
  have HZ0 := Lib.hid hz0
  have HZ1 := Lib.hid hz1
  have HZ2 := Lib.hid hz2
  clear hi hz0 hz1 hz2
  have hli : (len : Int) ≤ 9223372036854775807 := by omega
  by_cases hbig : 65536 < len
  · have hg : getN zs = (13, []) := by unfold getN; rw [if_pos (by omega)]
    rw [hg]
    go_enter Try.func15, Try.ntmps15
    go_wp2
    go_ret2
    exact ⟨⟨_, _, [], rfl, by decide, Nat.le_refl _, Nt.Sl.empty _ _ _, rfl⟩, Below.refl _ _⟩
  have hlj : (len : Int) ≤ 65536 := by omega
  obtain ⟨Z, hZ⟩ : ∃ Z, getN zs = Z := ⟨_, rfl⟩
  have HZ : Hid (loopN zs (zs.length + 1) 0 [] = Z) := Lib.hid (by rw [← hZ]; unfold getN; rw [if_neg (by omega)])
  rw [hZ]
  have HBYS : Hid (∀ w', Below w.heap.size w w' → Bys w' B a len zs) := Lib.hid (fun w' h => hb.below (h.mono hB))
  have HZL := Lib.hid hzl
  have HBD := Lib.hid hb.2.1
  clear hb hZ hzl
  have HO0 : Hid (w.ownsRow w.heap.size 51 3 (.slice none 0 0) 0 (Nt.flat [])) := Lib.hid (World.ownsRow_nil _ _ _ _)
  go_enter Try.func15, Try.ntmps15
  go_wp2
  go_loopw [4, 5] (fun v y wr => ∃ (p f : Nat) (M : List Nt), p ≤ len ∧ y = .int .u64 p ∧ len + 1 ≤ p + f ∧ M.length ≤ p ∧ loopN zs f p (M.map Nt.nd) = Z ∧ wr.ownsRow w.heap.size 51 3 v M.length (Nt.flat M) ∧ (∀ s ∈ M, s.Ok w w.heap.size) ∧ Below w.heap.size w wr) (fun _ y _ => len - (intOf y).toNat)
  case atStart => exact ⟨0, len + 1, [], Nat.zero_le _, rfl, by omega, Nat.le_refl _, by rw [← HZL.out]; exact HZ.out, HO0.out, (by intro s h; cases h), Below.refl _ _⟩
  case round =>
    obtain ⟨p, f, M, hp, rfl, hf, hM, hloop, hown, hok, hbel⟩ := hrel
    obtain ⟨va, vc, rfl, hvc, hvm⟩ := Nt.own_slice hown
    have HO := Lib.hid hown
    have HOK := Lib.hid hok
    have HBE := Lib.hid hbel
    obtain ⟨f, rfl⟩ : ∃ f', f = f' + 1 := ⟨f - 1, by omega⟩
    unfold loopN at hloop
    clear hown hok hbel HO0 HZ
    by_cases c1 : p < len
    · rw [if_neg (by rw [HZL.out]; omega)] at hloop
      obtain ⟨b, off, rfl, hbB, -⟩ := (HBYS.out wr HBE.out).2.2 (by omega)
      by_cases c2 : len < p + 12
      · rw [if_pos (by rw [HZL.out]; exact c2)] at hloop
        subst hloop
        have HIN : Hid (Calls Try.prog 26 #[.int .i64 len, .int .u64 p, .int .u64 12] wr fun e w' => e = .returned (.bool false) ∧ wr = w') := Lib.hid (inside_no len p 12 wr (by omega) hli (by omega) (by omega) (by decide) (by decide) (by omega))
        go_wp2_with (go_at_call 26; refine HIN.out.mono ?_; rintro e w' ⟨rfl, rfl⟩)
        go_ret2
        exact ⟨⟨_, _, [], rfl, by decide, Nat.le_refl _, Nt.Sl.empty _ _ _, rfl⟩, HBE.out⟩
      rw [if_neg (by rw [HZL.out]; exact c2)] at hloop
      have HIN : Hid (Calls Try.prog 26 #[.int .i64 len, .int .u64 p, .int .u64 12] wr fun e w' => e = .returned (.bool true) ∧ wr = w') := Lib.hid (inside_yes len p 12 wr (by omega) hli (by omega) (by decide) (by omega))
      obtain ⟨hn1, hn2⟩ := numAt_num HBD.out (p := p) (by rw [HZL.out]; omega)
      obtain ⟨hd1, hd2⟩ := numAt_num HBD.out (p := p + 4) (by rw [HZL.out]; omega)
      obtain ⟨ht1, ht2⟩ := numAt_num HBD.out (p := p + 8) (by rw [HZL.out]; omega)
      have HG1 : Hid (Calls Try.prog 27 #[.slice (some ⟨b, off, none⟩) len cap, .int .u64 p, .int .i64 4] wr fun e w' => e = .returned (.tuple #[.int .u64 (numAt zs p : Nat), .int .i64 0]) ∧ wr = w') := Lib.hid (by
        have h := rget_ok B _ len cap zs p 4 wr (HBYS.out wr HBE.out) (by decide) hli (by omega)
        rwa [← hn1] at h)
      have HG2 : Hid (Calls Try.prog 27 #[.slice (some ⟨b, off, none⟩) len cap, .int .u64 ((p : Int) + 4), .int .i64 4] wr fun e w' => e = .returned (.tuple #[.int .u64 (numAt zs (p + 4) : Nat), .int .i64 0]) ∧ wr = w') := Lib.hid (by
        have h := rget_ok B _ len cap zs (p + 4) 4 wr (HBYS.out wr HBE.out) (by decide) hli (by omega)
        rwa [← hd1] at h)
      have HG3 : Hid (Calls Try.prog 27 #[.slice (some ⟨b, off, none⟩) len cap, .int .u64 ((p : Int) + 8), .int .i64 4] wr fun e w' => e = .returned (.tuple #[.int .u64 (numAt zs (p + 8) : Nat), .int .i64 0]) ∧ wr = w') := Lib.hid (by
        have h := rget_ok B _ len cap zs (p + 8) 4 wr (HBYS.out wr HBE.out) (by decide) hli (by omega)
        rwa [← ht1] at h)
      clear hn1 hd1 ht1
      obtain ⟨n, hn⟩ : ∃ n, numAt zs p = n := ⟨_, rfl⟩
      obtain ⟨d, hd⟩ : ∃ d, numAt zs (p + 4) = d := ⟨_, rfl⟩
      obtain ⟨t, ht⟩ : ∃ t, numAt zs (p + 8) = t := ⟨_, rfl⟩
      rw [hn] at HG1 hn2
      rw [hd] at HG2 hd2
      rw [ht] at HG3 ht2
      rw [hn, hd, ht] at hloop
      have hni : (n : Int) ≤ 4294967295 := by omega
      have hdi : (d : Int) ≤ 4294967295 := by omega
      have hti : (t : Int) ≤ 4294967295 := by omega
      have hu1n := upN_le n
      have hu2n := upN_le d
      have hui : ((upN n : Nat) : Int) ≤ 4294967298 := by omega
      have hvi : ((upN d : Nat) : Int) ≤ 4294967298 := by omega
      have HU1 := Lib.hid (fun wx => up8_ok n wx (by omega))
      have HU2 := Lib.hid (fun wx => up8_ok d wx (by omega))
      clear hn hd ht
      by_cases c3 : n = 0
      · subst c3
        rw [if_pos rfl] at hloop
        subst hloop
        go_wp2_with (first | (go_at_call 26; refine HIN.out.mono ?_; rintro e w' ⟨rfl, rfl⟩) | (go_at_call 27; with_reducible refine HG1.out.mono ?_; rintro e w' ⟨rfl, rfl⟩) | (go_at_call 27; with_reducible refine HG2.out.mono ?_; rintro e w' ⟨rfl, rfl⟩) | (go_at_call 27; with_reducible refine HG3.out.mono ?_; rintro e w' ⟨rfl, rfl⟩))
        go_ret2
        exact ⟨⟨_, _, [], rfl, by decide, Nat.le_refl _, Nt.Sl.empty _ _ _, rfl⟩, HBE.out⟩
      rw [if_neg c3] at hloop
      have hnz : ((n : Int) == 0) = false := by rw [beq_eq_false_iff_ne]; omega
      by_cases c4 : len < p + 12 + upN n
      · rw [if_pos (by rw [HZL.out]; exact c4)] at hloop
        subst hloop
        have HI2 := Lib.hid (inside_no len ((p : Int) + 12) (upN n : Nat) wr (by omega) hli (by omega) (by omega) (by omega) (by omega) (by omega))
        go_wp2_with (first | (go_at_call 26; with_reducible refine HIN.out.mono ?_; rintro e w' ⟨rfl, rfl⟩) | (go_at_call 27; with_reducible refine HG1.out.mono ?_; rintro e w' ⟨rfl, rfl⟩) | (go_at_call 27; with_reducible refine HG2.out.mono ?_; rintro e w' ⟨rfl, rfl⟩) | (go_at_call 27; with_reducible refine HG3.out.mono ?_; rintro e w' ⟨rfl, rfl⟩) | (go_at_call 28; with_reducible refine (HU1.out _).mono ?_; rintro e w' ⟨rfl, rfl⟩) | (go_at_call 26; with_reducible refine HI2.out.mono ?_; rintro e w' ⟨rfl, rfl⟩))
        go_ret2
        exact ⟨⟨_, _, [], rfl, by decide, Nat.le_refl _, Nt.Sl.empty _ _ _, rfl⟩, HBE.out⟩
      rw [if_neg (by rw [HZL.out]; exact c4)] at hloop
      have HI2 := Lib.hid (inside_yes len ((p : Int) + 12) (upN n : Nat) wr (by omega) hli (by omega) (by omega) (by omega))
      go_wp2_with (first | (go_at_call 26; with_reducible refine HIN.out.mono ?_; rintro e w' ⟨rfl, rfl⟩) | (go_at_call 27; with_reducible refine HG1.out.mono ?_; rintro e w' ⟨rfl, rfl⟩) | (go_at_call 27; with_reducible refine HG2.out.mono ?_; rintro e w' ⟨rfl, rfl⟩) | (go_at_call 27; with_reducible refine HG3.out.mono ?_; rintro e w' ⟨rfl, rfl⟩) | (go_at_call 28; with_reducible refine (HU1.out _).mono ?_; rintro e w' ⟨rfl, rfl⟩) | (go_at_call 26; with_reducible refine HI2.out.mono ?_; rintro e w' ⟨rfl, rfl⟩))
      go_loop [13] (fun i => ∃ j : Nat, j ≤ upN n ∧ i = .int .u64 j ∧ ∀ q, q < j → ((zs.getD (p + 12 + q) 0 = 0) = (n ≤ q + 1))) (fun i => upN n - (intOf i).toNat)
      case atStart => exact ⟨0, Nat.zero_le _, rfl, fun q h => absurd h (by omega)⟩
      case round =>
        obtain ⟨j, hj, rfl, hall⟩ := hrel
        have hji : (j : Int) ≤ 4294967298 := by omega
        by_cases hju : j < upN n
        · have hpj : p + 12 + j < len := by omega
          obtain ⟨hcl, hbd0, hbd1⟩ := Bys.one (HBYS.out wr HBE.out) hpj
          obtain ⟨z, hz⟩ : ∃ z, zs.getD (p + 12 + j) 0 = z := ⟨_, rfl⟩
          rw [hz] at hcl hbd0 hbd1
          by_cases cz : z = 0
          · by_cases cn : n ≤ j + 1
            · have cni : (n : Int) ≤ (j : Int) + 1 := by omega
              have cz1 : (z == 0) = true := by simpa using cz
              go_wp2_with (first | (go_at_call 28; with_reducible refine (HU1.out _).mono ?_; rintro e w' ⟨rfl, rfl⟩))
              go_round
              case rel =>
                refine ⟨j + 1, by omega, by go_num, fun q hq => ?_⟩
                by_cases e : q = j
                · rw [e, hz]; simp [cz, cn]
                · exact hall q (by omega)
              case measure => simp [intOf]; omega
            · have cni : ¬ (n : Int) ≤ (j : Int) + 1 := by omega
              have cnj : (j : Int) + 1 < (n : Int) := by omega
              have cz1 : (z == 0) = true := by simpa using cz
              rw [if_pos (nameOk_no hju (by rw [hz]; simp [cz, cn]))] at hloop
              subst hloop
              go_wp2_with (first | (go_at_call 28; with_reducible refine (HU1.out _).mono ?_; rintro e w' ⟨rfl, rfl⟩))
              go_ret2
              exact ⟨⟨_, _, [], rfl, by decide, Nat.le_refl _, Nt.Sl.empty _ _ _, rfl⟩, HBE.out⟩
              exfalso
              have h9 : (!decide ((n : Int) ≤ (j : Int) + 1)) = false := by assumption
              simp at h9; omega
          · by_cases cn : n ≤ j + 1
            · have cni : (n : Int) ≤ (j : Int) + 1 := by omega
              have cz1 : (z == 0) = false := by simpa using cz
              rw [if_pos (nameOk_no hju (by rw [hz]; simp [cz, cn]))] at hloop
              subst hloop
              go_wp2_with (first | (go_at_call 28; with_reducible refine (HU1.out _).mono ?_; rintro e w' ⟨rfl, rfl⟩))
              go_ret2
              exact ⟨⟨_, _, [], rfl, by decide, Nat.le_refl _, Nt.Sl.empty _ _ _, rfl⟩, HBE.out⟩
            · have cni : ¬ (n : Int) ≤ (j : Int) + 1 := by omega
              have cz1 : (z == 0) = false := by simpa using cz
              go_wp2_with (first | (go_at_call 28; with_reducible refine (HU1.out _).mono ?_; rintro e w' ⟨rfl, rfl⟩))
              go_round
              case rel =>
                refine ⟨j + 1, by omega, by go_num, fun q hq => ?_⟩
                by_cases e : q = j
                · rw [e, hz]; simp [cz, cn]
                · exact hall q (by omega)
              case measure => simp [intOf]; omega
        · obtain rfl : j = upN n := by omega
          rw [if_neg (by rw [nameOk_yes hall]; decide)] at hloop
          have hcv : (convert 25 9 (.slice (some ⟨b, off + (p + 12), none⟩) (p + 11 + n - (p + 12)) (cap - (p + 12)))).run Try.prog wr = .ok (.string (strOfNums (piece zs (p + 12) (n - 1)))) wr := by
            have h := ((HBYS.out wr HBE.out).sub (p := p + 12) (n := n - 1) (by omega)).conv (cap - (p + 12))
            rw [show p + 11 + n - (p + 12) = n - 1 by omega]
            exact h
          have hsb : bs (strOfNums (piece zs (p + 12) (n - 1))) = piece zs (p + 12) (n - 1) := bs_strOfNums (piece_mem HBD.out)
          have hsl : (strOfNums (piece zs (p + 12) (n - 1))).size ≤ maxLen := by
            rw [← bs_len, hsb, piece_len (by rw [HZL.out]; omega)]; unfold maxLen; omega
          obtain ⟨nm, hnm⟩ : ∃ nm, strOfNums (piece zs (p + 12) (n - 1)) = nm := ⟨_, rfl⟩
          rw [hnm] at hcv hsb hsl
          clear hnm
          by_cases c6 : len < p + 12 + upN n + upN d
          · rw [if_pos (by rw [HZL.out]; exact c6)] at hloop
            subst hloop
            have HI3 := Lib.hid (inside_no len ((p : Int) + 12 + (upN n : Nat)) (upN d : Nat) wr (by omega) hli (by omega) (by omega) (by omega) (by omega) (by omega))
            go_wp2_with (first | (go_at_call 28; with_reducible refine (HU1.out _).mono ?_; rintro e w' ⟨rfl, rfl⟩) | (go_at_call 28; with_reducible refine (HU2.out _).mono ?_; rintro e w' ⟨rfl, rfl⟩) | (go_at_call 26; with_reducible refine HI3.out.mono ?_; rintro e w' ⟨rfl, rfl⟩))
            go_ret2
            exact ⟨⟨_, _, [], rfl, by decide, Nat.le_refl _, Nt.Sl.empty _ _ _, rfl⟩, HBE.out⟩
          rw [if_neg (by rw [HZL.out]; exact c6)] at hloop
          have HI3 := Lib.hid (inside_yes len ((p : Int) + 12 + (upN n : Nat)) (upN d : Nat) wr (by omega) hli (by omega) (by omega) (by omega))
          go_wp2_with (first | (go_at_call 28; with_reducible refine (HU1.out _).mono ?_; rintro e w' ⟨rfl, rfl⟩) | (go_at_call 28; with_reducible refine (HU2.out _).mono ?_; rintro e w' ⟨rfl, rfl⟩) | (go_at_call 26; with_reducible refine HI3.out.mono ?_; rintro e w' ⟨rfl, rfl⟩))
          go_loop [15] (fun i => ∃ j : Nat, d ≤ j ∧ j ≤ upN d ∧ i = .int .u64 j ∧ ∀ q, d ≤ q → q < j → zs.getD (p + 12 + upN n + q) 0 = 0) (fun i => upN d - (intOf i).toNat)
          case atStart => exact ⟨d, Nat.le_refl _, hu2n.1, rfl, fun q h1 h2 => absurd h1 (by omega)⟩
          case round =>
            obtain ⟨j, hdj, hj, rfl, hpad⟩ := hrel
            have hji : (j : Int) ≤ 4294967298 := by omega
            by_cases hju : j < upN d
            · have hpj : p + 12 + upN n + j < len := by omega
              obtain ⟨hcl, hbd0, hbd1⟩ := Bys.one (HBYS.out wr HBE.out) hpj
              obtain ⟨z, hz⟩ : ∃ z, zs.getD (p + 12 + upN n + j) 0 = z := ⟨_, rfl⟩
              rw [hz] at hcl hbd0 hbd1
              by_cases cz : z = 0
              · have cz1 : (z == 0) = true := by simpa using cz
                go_wp2_with (first | (go_at_call 28; with_reducible refine (HU1.out _).mono ?_; rintro e w' ⟨rfl, rfl⟩) | (go_at_call 28; with_reducible refine (HU2.out _).mono ?_; rintro e w' ⟨rfl, rfl⟩))
                go_round
                case rel =>
                  refine ⟨j + 1, by omega, by omega, by go_num, fun q h1 hq => ?_⟩
                  by_cases e : q = j
                  · rw [e, hz]; exact cz
                  · exact hpad q h1 (by omega)
                case measure => simp [intOf]; omega
              · have cz1 : (z == 0) = false := by simpa using cz
                rw [if_pos (padOk_no hju hdj (by rw [hz]; exact cz))] at hloop
                subst hloop
                go_wp2_with (first | (go_at_call 28; with_reducible refine (HU1.out _).mono ?_; rintro e w' ⟨rfl, rfl⟩) | (go_at_call 28; with_reducible refine (HU2.out _).mono ?_; rintro e w' ⟨rfl, rfl⟩))
                go_ret2
                exact ⟨⟨_, _, [], rfl, by decide, Nat.le_refl _, Nt.Sl.empty _ _ _, rfl⟩, HBE.out⟩
            · obtain rfl : j = upN d := by omega
              rw [if_neg (by rw [padOk_yes hpad]; decide)] at hloop
              have hsub := (HBYS.out w (Below.refl _ _)).sub (p := p + 12 + upN n) (n := d) (by omega)
              by_cases hce : cap = p + 12 + upN n
              · have hd0 : Hid (d = 0) := Lib.hid (by omega)
                subst hce
                have hS : Nt.Ok w w.heap.size ⟨nm, (t : Int), ⟨some ⟨b, off, none⟩, d, 0, piece zs (p + 12 + upN n) d⟩⟩ := ⟨hsl, ⟨by simp only; omega, by simp only; omega⟩, (by rw [hd0.out]; exact Bys.empty _ _ _), by simp only; omega, by simp only; omega, fun h => by cases h⟩
                go_wp2_with (first | (go_at_call 28; with_reducible refine (HU1.out _).mono ?_; rintro e w' ⟨rfl, rfl⟩) | (go_at_call 28; with_reducible refine (HU2.out _).mono ?_; rintro e w' ⟨rfl, rfl⟩) | (at_builtin; refine wpList_append_own _ rfl _ _ 30 rfl w.heap.size 51 i0 _ 3 48 Try.underlying30 HI.out HZ0.out HZ1.out HZ2.out rfl (by decide) _ M.length _ rfl (HO.out.alloc _) ⟨wr.heap.size, 0, none⟩ 1 1 [.string nm, .int .u32 t, .slice (some ⟨b, off, none⟩) d (0)] rfl rfl ?e1 ?e2 ?e3 ?e4 ?e5 ?_))
                case e1 => exact cells8_new wr [.string nm, .int .u32 t, .slice (some ⟨b, off, none⟩) d (0)] _ _ rfl
                case e2 => intro u hu; simp only [List.mem_cons, List.not_mem_nil, or_false] at hu; rcases hu with rfl | rfl | rfl <;> rfl
                case e3 => unfold maxLen; omega
                case e4 => omega
                case e5 => have := HBE.out.size; simp; omega
                intro v4 w4 hv4 hg4 hnil4
                have HB4 : Hid (Below w.heap.size w w4) := Lib.hid ((HBE.out.alloc HBE.out.size _).grown hg4 (by have := HBE.out.size; simp; omega) (fun q e => (HO.out.lt q e).1))
                have HO4 : Hid (w4.ownsRow w.heap.size 51 3 v4 (M ++ [(⟨nm, (t : Int), ⟨some ⟨b, off, none⟩, d, 0, piece zs (p + 12 + upN n) d⟩⟩ : Nt)]).length (Nt.flat (M ++ [(⟨nm, (t : Int), ⟨some ⟨b, off, none⟩, d, 0, piece zs (p + 12 + upN n) d⟩⟩ : Nt)]))) := Lib.hid (by rw [Nt.flat_snoc, List.length_append]; exact hv4)
                clear hv4 hg4 hnil4
                go_wp2_with (first | (go_at_call 28; with_reducible refine (HU1.out _).mono ?_; rintro e w' ⟨rfl, rfl⟩) | (go_at_call 28; with_reducible refine (HU2.out _).mono ?_; rintro e w' ⟨rfl, rfl⟩))
                go_roundw
                case rel =>
                  refine ⟨p + 12 + upN n + upN d, f, M ++ [⟨nm, (t : Int), ⟨some ⟨b, off, none⟩, d, 0, piece zs (p + 12 + upN n) d⟩⟩], by omega, by go_num, by omega, by rw [List.length_append, List.length_cons, List.length_nil]; omega, ?_, HO4.out, ?_, HB4.out⟩
                  · rw [← hloop, List.map_append]; simp only [Nt.nd, List.map_cons, List.map_nil, hsb]
                  · intro s hs
                    rcases List.mem_append.1 hs with h | h
                    · exact HOK.out s h
                    · rw [List.mem_singleton.1 h]; exact hS
                case measure => simp [intOf]; omega
              · have hce2 : ¬ cap - (p + 12 + upN n) = 0 := by omega
                have hS : Nt.Ok w w.heap.size ⟨nm, (t : Int), ⟨some ⟨b, off + (p + 12 + upN n), none⟩, d, cap - (p + 12 + upN n), piece zs (p + 12 + upN n) d⟩⟩ := ⟨hsl, ⟨by simp only; omega, by simp only; omega⟩, hsub.more hB, by simp only; omega, by simp only; omega, fun h => by cases h⟩
                go_wp2_with (first | (go_at_call 28; with_reducible refine (HU1.out _).mono ?_; rintro e w' ⟨rfl, rfl⟩) | (go_at_call 28; with_reducible refine (HU2.out _).mono ?_; rintro e w' ⟨rfl, rfl⟩) | (at_builtin; refine wpList_append_own _ rfl _ _ 30 rfl w.heap.size 51 i0 _ 3 48 Try.underlying30 HI.out HZ0.out HZ1.out HZ2.out rfl (by decide) _ M.length _ rfl (HO.out.alloc _) ⟨wr.heap.size, 0, none⟩ 1 1 [.string nm, .int .u32 t, .slice (some ⟨b, off + (p + 12 + upN n), none⟩) d (cap - (p + 12 + upN n))] rfl rfl ?f1 ?f2 ?f3 ?f4 ?f5 ?_))
                case f1 => exact cells8_new wr [.string nm, .int .u32 t, .slice (some ⟨b, off + (p + 12 + upN n), none⟩) d (cap - (p + 12 + upN n))] _ _ rfl
                case f2 => intro u hu; simp only [List.mem_cons, List.not_mem_nil, or_false] at hu; rcases hu with rfl | rfl | rfl <;> rfl
                case f3 => unfold maxLen; omega
                case f4 => omega
                case f5 => have := HBE.out.size; simp; omega
                intro v4 w4 hv4 hg4 hnil4
                have HB4 : Hid (Below w.heap.size w w4) := Lib.hid ((HBE.out.alloc HBE.out.size _).grown hg4 (by have := HBE.out.size; simp; omega) (fun q e => (HO.out.lt q e).1))
                have HO4 : Hid (w4.ownsRow w.heap.size 51 3 v4 (M ++ [(⟨nm, (t : Int), ⟨some ⟨b, off + (p + 12 + upN n), none⟩, d, cap - (p + 12 + upN n), piece zs (p + 12 + upN n) d⟩⟩ : Nt)]).length (Nt.flat (M ++ [(⟨nm, (t : Int), ⟨some ⟨b, off + (p + 12 + upN n), none⟩, d, cap - (p + 12 + upN n), piece zs (p + 12 + upN n) d⟩⟩ : Nt)]))) := Lib.hid (by rw [Nt.flat_snoc, List.length_append]; exact hv4)
                clear hv4 hg4 hnil4
                go_wp2_with (first | (go_at_call 28; with_reducible refine (HU1.out _).mono ?_; rintro e w' ⟨rfl, rfl⟩) | (go_at_call 28; with_reducible refine (HU2.out _).mono ?_; rintro e w' ⟨rfl, rfl⟩))
                go_roundw
                case rel =>
                  refine ⟨p + 12 + upN n + upN d, f, M ++ [⟨nm, (t : Int), ⟨some ⟨b, off + (p + 12 + upN n), none⟩, d, cap - (p + 12 + upN n), piece zs (p + 12 + upN n) d⟩⟩], by omega, by go_num, by omega, by rw [List.length_append, List.length_cons, List.length_nil]; omega, ?_, HO4.out, ?_, HB4.out⟩
                  · rw [← hloop, List.map_append]; simp only [Nt.nd, List.map_cons, List.map_nil, hsb]
                  · intro s hs
                    rcases List.mem_append.1 hs with h | h
                    · exact HOK.out s h
                    · rw [List.mem_singleton.1 h]; exact hS
                case measure => simp [intOf]; omega
    · rw [if_pos (by rw [HZL.out]; omega)] at hloop
      subst hloop
      go_wp2
      go_ret2
      exact ⟨⟨_, _, M, rfl, hvm, hvc, Nt.Sl.own (fun s h => ((HOK.out s h).below HBE.out).more HBE.out.size) HO.out, rfl⟩, HBE.out⟩
end Go.Proofs.Ytkgakdlalmmdiaa
