/-
  What is proved here: what Build of package names and of the reference give, in one word for all outcomes; each name is at its place of the table, which is one.
  Conditions: slices of at most a million names.
-/
import Derived.Test.YtncnmgmkmjikcaaNamAwake
namespace Go.Proofs.Ytncnmgmkmjikcaa
open Go.RowKit
set_option linter.unusedVariables false

/-- The function f hands back the bytes R, the places O and the error er, in new memory. -/
def Gives (f : Nat) (v : Value) (w0 : World) (R O : List Int) (er : Int) : Prop :=
  ∀ W : World, Below w0.heap.size w0 W → Calls Try.prog f #[v] W fun e W' =>
    ∃ ta tc pa pc, e = .returned (.tuple #[.slice ta R.length tc, .slice pa O.length pc, .int .i64 er]) ∧ W'.ownsRow W.heap.size 5 1 (.slice ta R.length tc) R.length (R.map (Value.int .u8)) ∧
      W'.ownsRow W.heap.size 23 1 (.slice pa O.length pc) O.length (O.map (Value.int .u64)) ∧ Below W.heap.size W W'

/-- What is to be handed back. -/
def Res (L : List ByteArray) (R O : List Int) (er : Int) : Prop :=
  (er = 1 ∧ R = [] ∧ O = [] ∧ ¬ Clean L) ∨ (er = 13 ∧ R = [] ∧ O = [] ∧ Clean L ∧ 65536 < (tab L L.length).length) ∨ (er = 0 ∧ R = tab L L.length ∧ O = outs L L.length ∧ Clean L ∧ R.length ≤ 65536)
theorem Res.bd {L : List ByteArray} {R O : List Int} {er : Int} (h : Res L R O er) : ∀ n ∈ R, 0 ≤ n ∧ n ≤ 255 := by
  rcases h with ⟨_, rfl, _⟩ | ⟨_, rfl, _⟩ | ⟨_, rfl, _⟩
  · intro n hn; cases hn
  · intro n hn; cases hn
  · exact tab_bd L _
theorem Res.one {L : List ByteArray} {R O R' O' : List Int} {er er' : Int} (h : Res L R O er) (k : Res L R' O' er') : R = R' ∧ O = O' ∧ er = er' := by
  rcases h with ⟨rfl, rfl, rfl, h⟩ | ⟨rfl, rfl, rfl, h, h2⟩ | ⟨rfl, rfl, rfl, h, h2⟩ <;> rcases k with ⟨rfl, rfl, rfl, k⟩ | ⟨rfl, rfl, rfl, k, k2⟩ | ⟨rfl, rfl, rfl, k, k2⟩ <;>
    first | exact ⟨rfl, rfl, rfl⟩ | exact absurd k h | exact absurd h k | (exfalso; omega)
theorem not_clean {L : List ByteArray} {i k : Nat} (hi : i < L.length) (h : FirstZ (bs (nm L i)) k) : ¬ Clean L := fun hc => hc i hi k h.1 h.2.1
theorem post_gives {L : List ByteArray} {w W' : World} {e : Ending} (hc : Clean L) (h : BuildPost L w e W') :
    ∃ R O er, Res L R O er ∧ ∃ ta tc pa pc, e = .returned (.tuple #[.slice ta R.length tc, .slice pa O.length pc, .int .i64 er]) ∧ W'.ownsRow w.heap.size 5 1 (.slice ta R.length tc) R.length (R.map (Value.int .u8)) ∧
      W'.ownsRow w.heap.size 23 1 (.slice pa O.length pc) O.length (O.map (Value.int .u64)) ∧ Below w.heap.size w W' := by
  obtain ⟨hb, ⟨h1, rfl⟩ | ⟨h1, ta, tc, pa, pc, rfl, h2, h3⟩⟩ := h
  · exact ⟨[], [], 13, .inr (.inl ⟨rfl, rfl, rfl, hc, h1⟩), none, 0, none, 0, rfl, World.ownsRow_nil _ _ _ _, World.ownsRow_nil _ _ _ _, hb⟩
  · exact ⟨_, _, 0, .inr (.inr ⟨rfl, rfl, rfl, hc, h1⟩), ta, tc, pa, pc, by rw [outs_len], h2, by rw [outs_len]; exact h3, hb⟩
/-- There is one answer for each list of names. -/
theorem res_ex (L : List ByteArray) : ∃ R O er, Res L R O er := by
  rcases clean_or L with hc | ⟨i, k, hi, _, hz⟩
  · by_cases h : 65536 < (tab L L.length).length
    · exact ⟨[], [], 13, .inr (.inl ⟨rfl, rfl, rfl, hc, h⟩)⟩
    · exact ⟨_, _, 0, .inr (.inr ⟨rfl, rfl, rfl, hc, by omega⟩)⟩
  · exact ⟨[], [], 1, .inl ⟨rfl, rfl, rfl, not_clean hi hz⟩⟩
theorem build_gives {w : World} {a : Option Addr} {len : Nat} {L : List ByteArray} (cap : Nat) {R O : List Int} {er : Int} (hs : Strs w w.heap.size a len L) (hl : len ≤ 1000000) (hsz : ∀ i, (nm L i).size ≤ maxLen) (hr : Res L R O er) :
    Gives 15 (.slice a len cap) w R O er := by
  intro W hW
  rcases clean_or L with hc | ⟨i, k, hi, hz, hk⟩
  · refine (build_any w.heap.size a len cap L W (hs.below hW) hW.size hl hsz hc).mono fun e W' h => ?_
    obtain ⟨R', O', er', hr', h2⟩ := post_gives hc h
    obtain ⟨rfl, rfl, rfl⟩ := hr.one hr'
    exact h2
  · refine (build_arg w.heap.size a len cap L W i k (hs.below hW) (by omega) (by rw [← hs.1]; exact hi) hz hk).mono fun e W' ⟨h1, h2⟩ => ?_
    obtain ⟨rfl, rfl, rfl⟩ := hr.one (.inl ⟨rfl, rfl, rfl, not_clean hi hk⟩)
    exact ⟨none, 0, none, 0, h1, World.ownsRow_nil _ _ _ _, World.ownsRow_nil _ _ _ _, h2 ▸ Below.refl _ _⟩
theorem rbuild_gives {w : World} {a : Option Addr} {len : Nat} {L : List ByteArray} (cap : Nat) {R O : List Int} {er : Int} (hs : Strs w w.heap.size a len L) (hl : len ≤ 1000000) (hsz : ∀ i, (nm L i).size ≤ 1000000) (hr : Res L R O er) :
    Gives 16 (.slice a len cap) w R O er := by
  intro W hW
  rcases clean_or L with hc | ⟨i, k, hi, hz, hk⟩
  · refine (rbuild_any w.heap.size a len cap L W (hs.below hW) hW.size hl hsz hc).mono fun e W' h => ?_
    obtain ⟨R', O', er', hr', h2⟩ := post_gives hc h
    obtain ⟨rfl, rfl, rfl⟩ := hr.one hr'
    exact h2
  · refine (rbuild_arg w.heap.size a len cap L W i k (hs.below hW) (by omega) (fun j => Nat.le_trans (hsz j) (by unfold maxLen; omega)) (by rw [← hs.1]; exact hi) hz hk).mono fun e W' ⟨h1, h2⟩ => ?_
    obtain ⟨rfl, rfl, rfl⟩ := hr.one (.inl ⟨rfl, rfl, rfl, not_clean hi hk⟩)
    exact ⟨none, 0, none, 0, h1, World.ownsRow_nil _ _ _ _, World.ownsRow_nil _ _ _ _, h2 ▸ Below.refl _ _⟩

/-! ### what is at the places -/
theorem getD_app_right {zs r : List Int} (i : Nat) : (zs ++ r).getD (zs.length + i) 0 = r.getD i 0 := by
  rw [List.getD_eq_getElem?_getD, List.getElem?_append_right (by omega), Nat.add_sub_cancel_left, List.getD_eq_getElem?_getD]
theorem getD_app_left {zs r : List Int} {i : Nat} (h : i < zs.length) : (zs ++ r).getD i 0 = zs.getD i 0 := by
  rw [List.getD_eq_getElem?_getD, List.getElem?_append_left h, List.getD_eq_getElem?_getD]
theorem tab_first (L : List ByteArray) (k : Nat) : (tab L k).getD 0 0 = 0 := by
  obtain ⟨r, hr⟩ := tab_pre L (Nat.zero_le k)
  rw [hr]; rfl
theorem tab_last (L : List ByteArray) : ∀ k, (tab L k).getD ((tab L k).length - 1) 0 = 0
  | 0 => rfl
  | k + 1 => by
    rw [tab]
    split
    · exact tab_last L k
    · have e : (tab L k ++ (bs (nm L k) ++ [0])).length - 1 = (tab L k).length + (bs (nm L k)).length := by simp
      rw [e, getD_app_right]
      have := getD_app_right (zs := bs (nm L k)) (r := [0]) 0
      rw [Nat.add_zero] at this
      rw [this]; rfl
theorem chk_tab (L : List ByteArray) (k : Nat) : chk (tab L k) = 0 := by
  have h1 := tab_pos L k
  have h2 := tab_first L k
  have h3 := tab_last L k
  unfold chk
  rw [if_neg]
  rintro (h | h | h)
  · omega
  · exact h h2
  · exact h h3
theorem bs_empty : bs .empty = [] := rfl
/-- The name is at its place, with the byte 0 behind it. -/
theorem tab_at {L : List ByteArray} {n : Nat} {s : ByteArray} (h : Seen L n s) : pos L n s + s.size < (tab L n).length ∧ piece (tab L n) (pos L n s) s.size = bs s ∧ (tab L n).getD (pos L n s + s.size) 0 = 0 := by
  by_cases hs : s = .empty
  · subst hs
    rw [pos_empty]
    exact ⟨tab_pos L n, rfl, tab_first L n⟩
  · rcases h with h | ⟨i, h1, h2⟩
    · exact absurd h hs
    · rcases Nat.lt_or_ge (firstAt L s n) n with h3 | h3
      · have hh := firstAt_hit h3
        obtain ⟨f, hf⟩ : ∃ f, f = firstAt L s n := ⟨_, rfl⟩
        have hp : pos L n s = (tab L f).length := by unfold pos; rw [if_neg hs, hf]
        rw [← hf] at hh h3
        have hn : seenB L f (nm L f) = false := by
          rw [Bool.eq_false_iff]
          intro hse
          rcases (seenB_iff _ _ _).1 hse with h4 | ⟨j, h4, h5⟩
          · exact hs (hh.1 ▸ h4)
          · exact hh.2 j h4 (by rw [h5, hh.1])
        obtain ⟨r, hr⟩ := tab_pre L (k := f + 1) (m := n) (by omega)
        rw [tab_new hn, hh.1] at hr
        have e : tab L n = tab L f ++ (bs s ++ ([0] ++ r)) := by rw [hr]; simp only [List.append_assoc]
        rw [hp, e]
        refine ⟨by simp [bs_len], ?_, ?_⟩
        · unfold piece
          rw [List.drop_left, ← bs_len, List.take_left]
        · rw [getD_app_right, ← bs_len]
          have := getD_app_right (zs := bs s) (r := [0] ++ r) 0
          rw [Nat.add_zero] at this
          rw [this]; rfl
      · exact absurd h2 (firstAt_miss (by omega) i h1)
theorem tab_firstZ {L : List ByteArray} {n : Nat} {s : ByteArray} (h : Seen L n s) (hz : NoZ (bs s)) : FirstZ (piece (tab L n) (pos L n s) ((tab L n).length - pos L n s)) s.size := by
  obtain ⟨h1, h2, h3⟩ := tab_at h
  refine ⟨by rw [piece_len (by omega)]; omega, by rw [piece_getD (by omega)]; exact h3, fun i hi => ?_⟩
  rw [piece_getD (by omega), ← piece_getD (n := s.size) hi, h2]
  exact hz i (by rw [bs_len]; exact hi)
/-- At finds the name at its place. -/
theorem at_name {L : List ByteArray} {n : Nat} {s : ByteArray} {B : Nat} {a : Option Addr} {cap : Nat} (w : World) (h : Seen L n s) (hz : NoZ (bs s)) (hb : Bys w B a (tab L n).length (tab L n)) (hcap : (tab L n).length ≤ cap) (hcm : (cap : Int) ≤ 9223372036854775807) :
    Calls Try.prog 10 #[.slice a (tab L n).length cap, .int .u64 (pos L n s : Nat)] w fun e w' => e = .returned (.tuple #[.string s, .int .i64 0]) ∧ w = w' := by
  have := at_ok B a (tab L n).length cap (tab L n) (pos L n s) s.size w hb hcap hcm (pos_lt h) (tab_firstZ h hz)
  rw [(tab_at h).2.1, strOfNums_bs] at this
  exact this
theorem own_cap {w : World} {base n : Nat} {e : TypeId} {a : Option Addr} {c : Nat} {xs : List Value} (h : w.ownsRow base e 1 (.slice a n c) n xs) : n ≤ c ∧ (c : Int) ≤ 9223372036854775807 := by
  rcases h.2 with ⟨hx, e0⟩ | ⟨g, c', cur, hx, _, _, h3, h4, _⟩
  · injection hx with _ _ hx; subst hx; exact ⟨by omega, by omega⟩
  · injection hx with _ _ hx; subst hx; exact ⟨h3, by unfold maxLen at h4; omega⟩
theorem clean_seen {L : List ByteArray} {i : Nat} (hi : i < L.length) : Seen L L.length (nm L i) := .inr ⟨i, hi, rfl⟩
end Go.Proofs.Ytncnmgmkmjikcaa
