/-
  What is proved here: DiskRoom: as long as nothing is removed all files together never have more bytes than there is room for; what is handed in and told is no memory of the disk's; a disk that is none does nothing.
  Conditions: none of our own; the law's row says what its input is.
-/
import Derived.Test.YthogdieplfpopaaRows
import Derived.Test.YthogdieplfpopaaDskRm2
import Derived.Test.YthogdieplfpopaaActFrame
import Derived.Test.YthogdieplfpopaaFWords
import Derived.WalkKit
import Derived.ProofKit
import Derived.OpenShut
import Derived.ShutString
import Derived.ChangeOld
import Derived.Below
namespace Go.Proofs.Ythogdieplfpopaa.diskRoom
open Go.ChangeShapes Go.WideShapes Go.ChangeAt Go.RowKit
open Go.ChangeMaps (open_string shut_string)
set_option linter.unusedVariables false

theorem own : ownKnob Try.prog.godebug = none := by kernel_rfl
theorem laidOut : laidOutB Try.prog = true := by kernel_rfl

set_option maxRecDepth 100000 in
theorem fr270 (y : Nat → Value) : frameOf 270 y = List.toArray (y 0 :: y 1 :: y 2 :: y 3 :: y 4 :: y 5 :: y 6 :: y 7 :: y 8 :: y 9 :: y 10 :: y 11 :: y 12 :: y 13 :: y 14 :: y 15 :: y 16 :: y 17 :: y 18 :: y 19 :: y 20 :: y 21 :: y 22 :: y 23 :: y 24 :: y 25 :: y 26 :: y 27 :: y 28 :: y 29 :: y 30 :: y 31 :: y 32 :: y 33 :: y 34 :: y 35 :: y 36 :: y 37 :: y 38 :: y 39 :: y 40 :: y 41 :: y 42 :: y 43 :: y 44 :: y 45 :: y 46 :: y 47 :: y 48 :: y 49 :: y 50 :: y 51 :: y 52 :: y 53 :: y 54 :: y 55 :: y 56 :: y 57 :: y 58 :: y 59 :: y 60 :: y 61 :: y 62 :: y 63 :: y 64 :: y 65 :: y 66 :: y 67 :: y 68 :: y 69 :: y 70 :: y 71 :: y 72 :: y 73 :: y 74 :: y 75 :: y 76 :: y 77 :: y 78 :: y 79 :: y 80 :: y 81 :: y 82 :: y 83 :: y 84 :: y 85 :: y 86 :: y 87 :: y 88 :: y 89 :: y 90 :: y 91 :: y 92 :: y 93 :: y 94 :: y 95 :: y 96 :: y 97 :: y 98 :: y 99 :: y 100 :: y 101 :: y 102 :: y 103 :: y 104 :: y 105 :: y 106 :: y 107 :: y 108 :: y 109 :: y 110 :: y 111 :: y 112 :: y 113 :: y 114 :: y 115 :: y 116 :: y 117 :: y 118 :: y 119 :: y 120 :: y 121 :: y 122 :: y 123 :: y 124 :: y 125 :: y 126 :: y 127 :: y 128 :: y 129 :: y 130 :: y 131 :: y 132 :: y 133 :: y 134 :: y 135 :: y 136 :: y 137 :: y 138 :: y 139 :: y 140 :: y 141 :: y 142 :: y 143 :: y 144 :: y 145 :: y 146 :: y 147 :: y 148 :: y 149 :: y 150 :: y 151 :: y 152 :: y 153 :: y 154 :: y 155 :: y 156 :: y 157 :: y 158 :: y 159 :: y 160 :: y 161 :: y 162 :: y 163 :: y 164 :: y 165 :: y 166 :: y 167 :: y 168 :: y 169 :: y 170 :: y 171 :: y 172 :: y 173 :: y 174 :: y 175 :: y 176 :: y 177 :: y 178 :: y 179 :: y 180 :: y 181 :: y 182 :: y 183 :: y 184 :: y 185 :: y 186 :: y 187 :: y 188 :: y 189 :: y 190 :: y 191 :: y 192 :: y 193 :: y 194 :: y 195 :: y 196 :: y 197 :: y 198 :: y 199 :: y 200 :: y 201 :: y 202 :: y 203 :: y 204 :: y 205 :: y 206 :: y 207 :: y 208 :: y 209 :: y 210 :: y 211 :: y 212 :: y 213 :: y 214 :: y 215 :: y 216 :: y 217 :: y 218 :: y 219 :: y 220 :: y 221 :: y 222 :: y 223 :: y 224 :: y 225 :: y 226 :: y 227 :: y 228 :: y 229 :: y 230 :: y 231 :: y 232 :: y 233 :: y 234 :: y 235 :: y 236 :: y 237 :: y 238 :: y 239 :: y 240 :: y 241 :: y 242 :: y 243 :: y 244 :: y 245 :: y 246 :: y 247 :: y 248 :: y 249 :: y 250 :: y 251 :: y 252 :: y 253 :: y 254 :: y 255 :: y 256 :: y 257 :: y 258 :: y 259 :: y 260 :: y 261 :: y 262 :: y 263 :: y 264 :: y 265 :: y 266 :: y 267 :: y 268 :: y 269 :: []) := rfl
def W19 (Kp : World → Prop) (e2 : Int) (Post : World → Prop) (r : Ending) (w' : World) : Prop := r = .returned (.int .i64 e2) ∧ Kp w' ∧ Hid (Post w')
structure P19 (w0 : World) (Kp : World → Prop) (Mid : World → Prop) (Post : World → Prop) (L : Nat → Bool) (y : Nat → Value) (w : World) : Prop where
  k : Kp w
  a : L 6 = false → w = w0
  b : L 6 = true → L 13 = false → Hid (Mid w)
  c : L 13 = true → Hid (Post w)
set_option maxRecDepth 100000 in
set_option maxHeartbeats 1600000 in
theorem walk (a0 : Int) (a1 : Option Addr) (len1 cap1 : Nat) (z1 : List Ac) (w : World) (w0 : (Lit.int .i64 a0).wf = true) (w1 : Ac.Is w a1 len1 cap1 z1) :
    Calls Try.prog 5 #[.int .i64 a0, .slice a1 len1 cap1] w fun e w' => e = .returned (.bool true) ∧ Below w.heap.size w w' := by
  obtain ⟨hs, hcap, hcm⟩ := w1.sl
  generalize z1.take len1 = L at hs
  have HS := Lib.hid hs
  obtain ⟨r0, r1⟩ : -9223372036854775808 ≤ a0 ∧ a0 ≤ 9223372036854775807 := by simpa [Lit.wf, IntKind.min, IntKind.max, IntKind.signed, IntKind.bits] using w0
  clear w0 w1 hs
  have hq := fun g w => cmp_ptr g w
  go_enter Try.func5, Try.ntmps5
  go_wp2_with fail
  refine (awake_any w).mono ?_
  rintro r v1 ⟨rfl, hb⟩
  have K1 := Lib.hid hb
  clear hb
  go_wp2_with fail
  refine (Crash_nil v1 none 0 0).mono ?_
  rintro r v2 ⟨rfl, rfl⟩
  go_wp2_with fail
  refine (Cut_nil v2 1).mono ?_
  rintro r v3 ⟨rfl, rfl⟩
  go_wp2_with fail
  refine (Read_nil v3 nA).mono ?_
  rintro r v4 ⟨rfl, rfl⟩
  go_wp2_with fail
  refine (Create_nil v4 nA).mono ?_
  rintro r v5 ⟨rfl, hb⟩
  have K5 := Lib.hid (K1.out.trans (hb.mono K1.out.size))
  clear hb K1
  go_wp2_with fail
  refine (Write_nil v5 nA 0 none 0 0).mono ?_
  rintro r v6 ⟨rfl, hb⟩
  have K6 := Lib.hid (K5.out.trans (hb.mono K5.out.size))
  clear hb K5
  go_wp2_with fail
  refine (Sync_nil v6 nA).mono ?_
  rintro r v7 ⟨rfl, hb⟩
  have K7 := Lib.hid (K6.out.trans (hb.mono K6.out.size))
  clear hb K6
  go_wp2_with fail
  refine (Rename_nil v7 nA nB).mono ?_
  rintro r v8 ⟨rfl, hb⟩
  have K8 := Lib.hid (K7.out.trans (hb.mono K7.out.size))
  clear hb K7
  go_wp2_with fail
  refine (Remove_nil v8 nA).mono ?_
  rintro r v9 ⟨rfl, hb⟩
  have K9 := Lib.hid (K8.out.trans (hb.mono K8.out.size))
  clear hb K8
  go_wp2_with fail
  refine (SyncNames_nil v9).mono ?_
  rintro r v10 ⟨rfl, hb⟩
  have K10 := Lib.hid (K9.out.trans (hb.mono K9.out.size))
  clear hb K9
  go_wp2_with fail
  refine (Off_nil v10).mono ?_
  rintro r v11 ⟨rfl, rfl⟩
  go_wp2_with fail
  refine (Used_nil v11).mono ?_
  rintro r v12 ⟨rfl, rfl⟩
  go_wp2_with fail
  refine (Pending_nil v12).mono ?_
  rintro r v13 ⟨rfl, rfl⟩
  go_wp2_with fail
  refine (Names_nil v13).mono ?_
  rintro r v14 ⟨rfl, rfl⟩
  have KP0 : Hid (KP (fun k => w.heap.size ≤ k) w v14) := Lib.hid (KP.of_below K10.out (fun k hk => hk))
  have HF : Hid (∀ k, v14.heap.size ≤ k → w.heap.size ≤ k) := Lib.hid (fun k hk => Nat.le_trans K10.out.size hk)
  clear K10
  go_wp2_with fail
  refine (Dw.new v14 a0 r0 r1 HF.out).mono ?_
  rintro r v15 ⟨rfl, hd, hk⟩
  obtain ⟨g, hg⟩ : ∃ g, v14.heap.size = g := ⟨_, rfl⟩
  rw [hg] at hd ⊢
  have D0 := Lib.hid hd
  have K0 := Lib.hid (KP0.out.trans hk)
  clear hd hk HF hg KP0
  unfold ptrV
  obtain ⟨R, hR⟩ : ∃ R : Int, (if a0 < 0 then 0 else a0) = R := ⟨_, rfl⟩
  have R0 : Hid (Rnd (dk0 a0) R 0 0) := Lib.hid (hR ▸ Rnd.start a0)
  have hmx : max a0 0 = R := by rw [← hR]; split <;> omega
  clear hR r0 r1
  go_wp2
  go_loopw [10, 11, 12, 13, 14, 15, 16, 17, 18, 19, 20] (fun i _ _ _ _ _ _ _ _ _ _ wr => ∃ (q : Nat) (d : Dk), q ≤ 40 ∧ i = .int .i64 q ∧ Hid (Rnd d R (300 * q) (2 * q)) ∧ Hid (Dw (fun k => w.heap.size ≤ k) g wr d (100 * q) (300 * q)) ∧ Hid (KP (fun k => w.heap.size ≤ k) w wr)) (fun i _ _ _ _ _ _ _ _ _ _ _ => 41 - (intOf i).toNat)
  case atStart => exact ⟨0, dk0 a0, by omega, rfl, R0, D0, K0⟩
  case round =>
    obtain ⟨q, d, hq40, rfl, HR, HD, HK⟩ := hrel
    by_cases hlt : q < len1
    · have hlti : (q : Int) < len1 := by omega
      by_cases h40 : q < 40
      · have h40i : (q : Int) < 40 := by omega
        obtain ⟨bb, off, rfl, hbb, hat0⟩ := HS.out.hc (by omega : 0 < len1)
        have hat := hat0 q hlt
        have hok := HS.out.okAt hlt
        generalize L.getD q Ac.zero = s at hat hok
        obtain ⟨O, hO⟩ : ∃ O, off + q * 6 = O := ⟨_, rfl⟩
        rw [hO] at hat
        have HCELL : Hid (∀ wx, KP (fun k => w.heap.size ≤ k) w wx → Ac.At wx bb O s) := Lib.hid (fun wx hk => hat.below (hk.below (Nat.le_refl _) (fun k hk => hk)) hbb)
        have HOK : Hid (∀ wx, KP (fun k => w.heap.size ≤ k) w wx → s.Ok wx w.heap.size) := Lib.hid (fun wx hk => hok.below (hk.below (Nat.le_refl _) (fun k hk => hk)))
        clear hat hat0 hok
        have c4 := (HCELL.out wr HK.out).c4
        have c5 := (HCELL.out wr HK.out).c5
        by_cases n300 : 300 < s.bo.n
        · have n300i : (300 : Int) < s.bo.n := by omega
          have HE := Lib.hid (HK.out.below (Nat.le_refl _) (fun k hk => hk))
          go_wp2
          go_ret
          exact ⟨rfl, HE.out⟩
        have n300i : ¬ (300 : Int) < s.bo.n := by omega
        by_cases n100 : 100 < s.ke.n
        · have n100i : (100 : Int) < s.ke.n := by omega
          have HE := Lib.hid (HK.out.below (Nat.le_refl _) (fun k hk => hk))
          go_wp2
          go_ret
          exact ⟨rfl, HE.out⟩
        have n100i : ¬ (100 : Int) < s.ke.n := by omega
        obtain ⟨i0, hi0, hz0, hz1, hz2⟩ := info_parts info_u8
        have HI := Lib.hid hi0
        have HZ0 := Lib.hid hz0
        have HZ1 := Lib.hid hz1
        have HZ2 := Lib.hid hz2
        clear hi0 hz0 hz1 hz2
        have HBS := Lib.hid (HOK.out wr HK.out).bo
        go_wp2_with (at_builtin; refine wpList_append_bys rfl _ _ 32 rfl wr.heap.size 5 i0 (.int .u8 0) 1 Try.underlying32 HI.out HZ0.out HZ1.out HZ2.out rfl _ 0 [] rfl (World.ownsRow_nil _ _ _ _) _ s.bo.n s.bo.c w.heap.size s.bo.zs rfl HBS.out.bys HBS.out.nil ?d0a ?d0b ?d0c ?_)
        case d0a => unfold maxLen; omega
        case d0b => omega
        intro vb wb hob hgb
        have hgb : wr.grownBy wb none := hgb
        have hlz : s.bo.zs.length = s.bo.n := HBS.out.bys.1
        have hob : wb.ownsRow wr.heap.size 5 1 vb s.bo.n (u8V s.bo.zs) := by simpa [u8V] using hob
        obtain ⟨ba, bc, rfl⟩ := own_sl hob
        have HZB := Lib.hid HBS.out.bys.2.1
        have D1 := Lib.hid (HD.out.made hgb)
        have K1 := Lib.hid (HK.out.trans (KP.grown hgb (fun k hk => by cases hk)))
        have HBN : Hid (∀ k', (Value.slice ba s.bo.n bc).ownBlock = some k' → ¬ But (fun k => w.heap.size ≤ k) wr wb k' ∧ w.heap.size ≤ k') := Lib.hid (fun k' hk' => by
          obtain ⟨C, hC⟩ := row_blk hob hk'
          have h1 := hC.lt
          have h2 := (hob.lt k' hk').1
          have h3 := HK.out.size
          exact ⟨fun hb => by rcases hb.2 with h4 | h4 <;> omega, by omega⟩)
        have HP1 : Hid (∀ k, But (fun k => w.heap.size ≤ k) wr wb k → w.heap.size ≤ k) := Lib.hid (fun k hk => hk.1)
        generalize But (fun k => w.heap.size ≤ k) wr wb = P1 at D1 HBN HP1
        have HOB := Lib.hid (own_base hob (Nat.zero_le _))
        have HLZ := Lib.hid hlz
        obtain ⟨zs, hzs⟩ : ∃ zs, s.bo.zs = zs := ⟨_, rfl⟩
        rw [hzs] at HOB HZB HLZ
        have HZS := Lib.hid hzs
        obtain ⟨bn, hbn⟩ : ∃ bn, s.bo.n = bn := ⟨_, rfl⟩
        have HBNE := Lib.hid hbn
        rw [hbn] at HOB HLZ HBN n300 n300i ⊢
        obtain ⟨x, hx⟩ : ∃ x, nmI s.a = x := ⟨_, rfl⟩
        have HX : Hid (x.size ≤ maxLen) := Lib.hid (hx ▸ nmI_sz s.a)
        clear hob hgb HBS hlz hzs hbn HD HK c4 c5
        have c1 := (HCELL.out wb K1.out).c1
        go_wp2_with fail
        refine (name_ok wb s.a).mono ?_
        rintro r w2 ⟨rfl, hg2⟩
        rw [hx]
        have D2 := Lib.hid (D1.out.other hg2 (fun k hk => by cases hk))
        have K2 := Lib.hid (K1.out.trans (KP.grown hg2 (fun k hk => by cases hk)))
        have HOB2 := Lib.hid (own_kp HOB.out (KP.grown (P := P1) hg2 (fun k hk => by cases hk)) (fun k hk => (HBN.out k hk).1))
        clear hg2 D1 K1 HOB c1
        obtain ⟨d1, e1, hd1⟩ : ∃ d1 e1, doD d 1 x .empty 0 [] = (d1, e1) := ⟨_, _, rfl⟩
        have HR1 : Hid (Rnd d1 R (300 * q) (2 * q + 1) ∧ e1 ≠ 23) := Lib.hid (by
          have := HR.out.create x
          rw [hd1] at this
          exact this)
        have HD1 := Lib.hid hd1
        clear hd1
        go_wp2_with fail
        refine (D2.out.create HX.out (by omega) (by omega) HD1.out).mono ?_
        rintro r w3 ⟨rfl, hd, hk⟩
        have D3 := Lib.hid hd.drew
        have HK3 : Hid (KP (fun k => w.heap.size ≤ k) w w3.drew) := Lib.hid (K2.out.trans (hk.weak HP1.out).drew)
        have HOB3 : Hid (w3.drew.ownsRow 0 5 1 (.slice ba bn bc) bn (u8V zs)) := Lib.hid (own_kp HOB2.out hk.drew (fun k hk => (HBN.out k hk).1))
        clear hd hk D2 K2 HOB2 HR HD1
        obtain ⟨d2, e2, hd2⟩ : ∃ d2 e2, doD d1 2 x .empty s.p zs = (d2, e2) := ⟨_, _, rfl⟩
        have HR2 : Hid (Rnd d2 R (300 * q + bn) (2 * q + 2)) := Lib.hid (by
          have := HR1.out.1.write x s.p zs
          rw [hd2, HLZ.out] at this
          exact this)
        have HRD : Hid (e2 = 0 → 0 ≤ s.p ∧ ∃ ys, readD d2 x = (ys, 0) ∧ s.p.toNat + zs.length ≤ ys.length ∧ (ys.drop s.p.toNat).take zs.length = zs) := Lib.hid (fun e0 => by
          have := HR1.out.1.read (a := x) (p := s.p) (L := zs) (by rw [hd2]; exact e0)
          rw [hd2] at this
          exact this)
        have HD2 := Lib.hid hd2
        clear hd2
        have HNM : Hid (Calls Try.prog 27 #[.int .i64 s.a] w3.drew fun r w' => r = .returned (.string x) ∧ w3.drew.grownBy w' none) := Lib.hid (by rw [← hx]; exact name_ok w3.drew s.a)
        obtain ⟨Post19, hpost19⟩ : ∃ Post19 : World → Prop, Post19 = fun wz => Dw P1 g wz d2 (100 * q + 2) (300 * q + bn) ∧ KP (fun k => w.heap.size ≤ k) w wz ∧ wz.ownsRow 0 5 1 (.slice ba bn bc) bn (u8V zs) := ⟨_, rfl⟩
        have HMID : Hid (∀ w1, w3.drew.grownBy w1 none → KP (fun k => w.heap.size ≤ k) w w1 ∧ Hid (Calls Try.prog 15 #[.pointer (some ⟨g, 0, none⟩), .string x, .int .i64 s.p, .slice ba bn bc] w1 (W19 (KP (fun k => w.heap.size ≤ k) w) e2 Post19))) := Lib.hid (fun w1 hg1 => by
          have k1 := HK3.out.trans (KP.grown hg1 (fun k hk => by cases hk))
          have o1 := own_kp HOB3.out (KP.grown (P := P1) hg1 (fun k hk => by cases hk)) (fun k hk => (HBN.out k hk).1)
          have dd := D3.out.other hg1 (fun k hk => by cases hk)
          have hbo : Oth P1 w1 (.slice ba bn bc) zs := by
            refine ⟨HZB.out, ?_⟩
            rcases Src.own (by rw [HLZ.out]; exact o1) with hs | ⟨ad, cap, h1, h3⟩
            · exact .inl hs
            · refine .inr ⟨ad, cap, h1, fun hz => ?_, h3⟩
              rcases o1.2 with ⟨e1', e0⟩ | ⟨gb, cp, cur, e1', _, hgb', _⟩
              · exact absurd (List.eq_nil_of_length_eq_zero (by rw [HLZ.out]; exact e0)) hz
              · have e3 := e1'
                rw [h1] at e3
                injection e3 with e3 _ _
                injection e3 with e3
                subst e3
                exact ⟨(Array.getElem?_eq_some_iff.1 hgb').1, (HBN.out gb (by rw [e1']; rfl)).1⟩
          refine ⟨k1, Lib.hid ?_⟩
          have hu := HR1.out.1.used
          have hp := (HOK.out w1 k1).p
          refine (dd.write HX.out hbo (by omega) hp.1 hp.2 (by omega) (by rw [HLZ.out]; omega) HD2.out).mono fun r w' hr => ?_
          obtain ⟨rfl, hd, hk⟩ := hr
          refine ⟨rfl, k1.trans (hk.weak HP1.out), Lib.hid ?_⟩
          rw [hpost19]
          refine ⟨by rw [HLZ.out] at hd; exact hd, k1.trans (hk.weak HP1.out), own_kp o1 hk (fun k hk => (HBN.out k hk).1)⟩)
        have HPO := Lib.hid hpost19
        clear hpost19 D3 HOB3
        go_upto_region 19 with fail
        refine wp_region_a (by kernel_rfl) 270 rfl [128, 129, 130, 131, 132, 133, 134, 135, 136, 137, 138, 139, 140, 141, 13] (fun _ _ => True) (factsOf [Is (.pointer (some ⟨g, 0, none⟩)), Is (.slice (some ⟨bb, off, none⟩) len1 cap1), Is (.int .i64 q), Is (.pointer (some ⟨bb, O, none⟩)), Is (.pointer (some ⟨bb, O + 1, none⟩)), Is (.int .i64 s.a), Is (.string x), Is (.slice (some ⟨bb, off, none⟩) len1 cap1), Is (.int .i64 q), Is (.pointer (some ⟨bb, O, none⟩)), Is (.pointer (some ⟨bb, O + 3, none⟩)), Is (.int .i64 s.p), Is (.slice ba bn bc), Is (.int .i64 e2), Is (.int .i64 e2)]) (JA [6, 13] [] (P19 w3.drew (KP (fun k => w.heap.size ≤ k) w) (fun wx => Calls Try.prog 15 #[.pointer (some ⟨g, 0, none⟩), .string x, .int .i64 s.p, .slice ba bn bc] wx (W19 (KP (fun k => w.heap.size ≤ k) w) e2 Post19)) Post19)) ?mono19 ?hj19 (by kernel_rfl) ?start19 ?steps19 ?fin19
        case mono19 => exact factsOf_monoR (monoR_cons (Is.monoR _ _) (monoR_cons (Is.monoR _ _) (monoR_cons (Is.monoR _ _) (monoR_cons (Is.monoR _ _) (monoR_cons (Is.monoR _ _) (monoR_cons (Is.monoR _ _) (monoR_cons (Is.monoR _ _) (monoR_cons (Is.monoR _ _) (monoR_cons (Is.monoR _ _) (monoR_cons (Is.monoR _ _) (monoR_cons (Is.monoR _ _) (monoR_cons (Is.monoR _ _) (monoR_cons (Is.monoR _ _) (monoR_cons (Is.monoR _ _) (monoR_cons (Is.monoR _ _) (monoR_nil _))))))))))))))))
        case hj19 => exact JA.congr (by decide)
        case start19 =>
          refine JA.of fun L' y' h1 h2 => ?_
          exact ⟨HK3.out, fun _ => rfl, (fun h => by rw [h1 6 (by decide)] at h; cases h), (fun h => by rw [h1 13 (by decide)] at h; cases h)⟩
        case fin19 =>
          intro y L w9 hJ hall hF hT
          have hP := hJ.out
          have f13 : y 13 = .int .i64 e2 := hF 14 (by decide) (by decide)
          clear hJ hF
          have hpo := hP.c (hall 13 (by decide))
          have t2 : y 2 = undef := hT 2 (by decide)
          have t3 : y 3 = undef := hT 3 (by decide)
          have t0 := hT 0 (by decide)
          conv at t0 => rhs; whnf
          have t1 := hT 1 (by decide)
          conv at t1 => rhs; whnf
          have t4 := hT 4 (by decide)
          conv at t4 => rhs; whnf
          have t5 := hT 5 (by decide)
          conv at t5 => rhs; whnf
          have t6 := hT 6 (by decide)
          conv at t6 => rhs; whnf
          have t7 := hT 7 (by decide)
          conv at t7 => rhs; whnf
          have t8 := hT 8 (by decide)
          conv at t8 => rhs; whnf
          have t9 := hT 9 (by decide)
          conv at t9 => rhs; whnf
          have t10 := hT 10 (by decide)
          conv at t10 => rhs; whnf
          have t11 := hT 11 (by decide)
          conv at t11 => rhs; whnf
          have t12 := hT 12 (by decide)
          conv at t12 => rhs; whnf
          have t21 := hT 21 (by decide)
          conv at t21 => rhs; whnf
          have t22 := hT 22 (by decide)
          conv at t22 => rhs; whnf
          have t23 := hT 23 (by decide)
          conv at t23 => rhs; whnf
          have t24 := hT 24 (by decide)
          conv at t24 => rhs; whnf
          have t25 := hT 25 (by decide)
          conv at t25 => rhs; whnf
          have t26 := hT 26 (by decide)
          conv at t26 => rhs; whnf
          have t27 := hT 27 (by decide)
          conv at t27 => rhs; whnf
          have t28 := hT 28 (by decide)
          conv at t28 => rhs; whnf
          have t29 := hT 29 (by decide)
          conv at t29 => rhs; whnf
          have t30 := hT 30 (by decide)
          conv at t30 => rhs; whnf
          have t31 := hT 31 (by decide)
          conv at t31 => rhs; whnf
          have t32 := hT 32 (by decide)
          conv at t32 => rhs; whnf
          have t33 := hT 33 (by decide)
          conv at t33 => rhs; whnf
          have t34 := hT 34 (by decide)
          conv at t34 => rhs; whnf
          have t35 := hT 35 (by decide)
          conv at t35 => rhs; whnf
          have t36 := hT 36 (by decide)
          conv at t36 => rhs; whnf
          have t37 := hT 37 (by decide)
          conv at t37 => rhs; whnf
          have t38 := hT 38 (by decide)
          conv at t38 => rhs; whnf
          have t39 := hT 39 (by decide)
          conv at t39 => rhs; whnf
          have t40 := hT 40 (by decide)
          conv at t40 => rhs; whnf
          have t41 := hT 41 (by decide)
          conv at t41 => rhs; whnf
          have t42 := hT 42 (by decide)
          conv at t42 => rhs; whnf
          have t43 := hT 43 (by decide)
          conv at t43 => rhs; whnf
          have t44 := hT 44 (by decide)
          conv at t44 => rhs; whnf
          have t45 := hT 45 (by decide)
          conv at t45 => rhs; whnf
          have t46 := hT 46 (by decide)
          conv at t46 => rhs; whnf
          have t47 := hT 47 (by decide)
          conv at t47 => rhs; whnf
          have t48 := hT 48 (by decide)
          conv at t48 => rhs; whnf
          have t49 := hT 49 (by decide)
          conv at t49 => rhs; whnf
          have t50 := hT 50 (by decide)
          conv at t50 => rhs; whnf
          have t51 := hT 51 (by decide)
          conv at t51 => rhs; whnf
          have t52 := hT 52 (by decide)
          conv at t52 => rhs; whnf
          have t53 := hT 53 (by decide)
          conv at t53 => rhs; whnf
          have t54 := hT 54 (by decide)
          conv at t54 => rhs; whnf
          have t55 := hT 55 (by decide)
          conv at t55 => rhs; whnf
          have t56 := hT 56 (by decide)
          conv at t56 => rhs; whnf
          have t57 := hT 57 (by decide)
          conv at t57 => rhs; whnf
          have t58 := hT 58 (by decide)
          conv at t58 => rhs; whnf
          have t59 := hT 59 (by decide)
          conv at t59 => rhs; whnf
          have t60 := hT 60 (by decide)
          conv at t60 => rhs; whnf
          have t61 := hT 61 (by decide)
          conv at t61 => rhs; whnf
          have t62 := hT 62 (by decide)
          conv at t62 => rhs; whnf
          have t63 := hT 63 (by decide)
          conv at t63 => rhs; whnf
          have t64 := hT 64 (by decide)
          conv at t64 => rhs; whnf
          have t65 := hT 65 (by decide)
          conv at t65 => rhs; whnf
          have t66 := hT 66 (by decide)
          conv at t66 => rhs; whnf
          have t67 := hT 67 (by decide)
          conv at t67 => rhs; whnf
          have t68 := hT 68 (by decide)
          conv at t68 => rhs; whnf
          have t69 := hT 69 (by decide)
          conv at t69 => rhs; whnf
          have t70 := hT 70 (by decide)
          conv at t70 => rhs; whnf
          have t71 := hT 71 (by decide)
          conv at t71 => rhs; whnf
          have t72 := hT 72 (by decide)
          conv at t72 => rhs; whnf
          have t73 := hT 73 (by decide)
          conv at t73 => rhs; whnf
          have t74 := hT 74 (by decide)
          conv at t74 => rhs; whnf
          have t75 := hT 75 (by decide)
          conv at t75 => rhs; whnf
          have t76 := hT 76 (by decide)
          conv at t76 => rhs; whnf
          have t77 := hT 77 (by decide)
          conv at t77 => rhs; whnf
          have t78 := hT 78 (by decide)
          conv at t78 => rhs; whnf
          have t79 := hT 79 (by decide)
          conv at t79 => rhs; whnf
          have t80 := hT 80 (by decide)
          conv at t80 => rhs; whnf
          have t81 := hT 81 (by decide)
          conv at t81 => rhs; whnf
          have t82 := hT 82 (by decide)
          conv at t82 => rhs; whnf
          have t83 := hT 83 (by decide)
          conv at t83 => rhs; whnf
          have t84 := hT 84 (by decide)
          conv at t84 => rhs; whnf
          have t85 := hT 85 (by decide)
          conv at t85 => rhs; whnf
          have t86 := hT 86 (by decide)
          conv at t86 => rhs; whnf
          rw [fr270, f13, t0, t1, t2, t3, t4, t5, t6, t7, t8, t9, t10, t11, t12, t21, t22, t23, t24, t25, t26, t27, t28, t29, t30, t31, t32, t33, t34, t35, t36, t37, t38, t39, t40, t41, t42, t43, t44, t45, t46, t47, t48, t49, t50, t51, t52, t53, t54, t55, t56, t57, t58, t59, t60, t61, t62, t63, t64, t65, t66, t67, t68, t69, t70, t71, t72, t73, t74, t75, t76, t77, t78, t79, t80, t81, t82, t83, t84, t85, t86]
          clear hP hall hT f13 t0 t1 t2 t3 t4 t5 t6 t7 t8 t9 t10 t11 t12 t21 t22 t23 t24 t25 t26 t27 t28 t29 t30 t31 t32 t33 t34 t35 t36 t37 t38 t39 t40 t41 t42 t43 t44 t45 t46 t47 t48 t49 t50 t51 t52 t53 t54 t55 t56 t57 t58 t59 t60 t61 t62 t63 t64 t65 t66 t67 t68 t69 t70 t71 t72 t73 t74 t75 t76 t77 t78 t79 t80 t81 t82 t83 t84 t85 t86
          rw [HPO.out] at hpo
          obtain ⟨D9, K9, O9⟩ := hpo.out
          have BR9 := Lib.hid (ByR.own O9 HZB.out)
          have D9 := Lib.hid D9
          have K9 := Lib.hid K9
          have HPW := HP1
          clear hpo O9
          go_wp2
          go_loopw [14] (fun k wr => ∃ j : Nat, j ≤ bn ∧ k = .int .i64 j ∧ Hid (ByR wr ba bn) ∧ Hid (Dw P1 g wr d2 (100 * q + 2) (300 * q + bn)) ∧ Hid (KP (fun k => w.heap.size ≤ k) w wr)) (fun k _ => bn - (intOf k).toNat)
          case atStart => exact ⟨0, Nat.zero_le _, rfl, BR9, D9, K9⟩
          case round =>
            obtain ⟨j, hjn, rfl, BL, DL, KL⟩ := hrel
            clear BR9 D9 K9
            by_cases hjl : j < bn
            · have hjli : (j : Int) < bn := by omega
              obtain ⟨kb, hba, hfz, v, v0, v1, hc⟩ := BL.out j hjl
              subst hba
              have hxb := xor_bd v
              have BL2 := Lib.hid (BL.out.set hjl hxb.1 hxb.2)
              have hgs := grown_set wr kb j (.int .u8 (bits .xor .u8 v 255))
              have DL2 := Lib.hid (DL.out.other hgs (fun k hk => by injection hk with hk; subst hk; exact (HBN.out _ rfl).1))
              have KL2 := Lib.hid (KL.out.trans (KP.grown hgs (fun k hk => by injection hk with hk; subst hk; exact (HBN.out _ rfl).2)))
              clear hgs hxb v0 v1
              go_wp2
              go_roundw
              case rel => exact ⟨j + 1, by omega, by go_num, BL2, DL2, KL2⟩
              case measure => simp [intOf]; omega
            · have hjli : ¬ (j : Int) < bn := by omega
              clear hjn hjl BL
              have c0 := (HCELL.out wr KL.out).c0
              obtain ⟨m3, hm3, hand⟩ := i64_mask s.k 3 (by decide)
              have hand : bits .and .i64 s.k 3 = (m3 : Int) := hand
              by_cases h3 : m3 = 0
              · subst h3
                have c5 := (HCELL.out wr KL.out).c5
                have hwt := HR2.out.wait
                go_wp2_with fail
                refine (DL.out.crash s.ke.bl (fun S ho => KeepIs.bo (HOK.out wr KL.out).ke HP1.out KL.out.size ho) (by omega) (by omega) (by rw [(HOK.out wr KL.out).ke.len]; omega) rfl).mono ?_
                rintro r w10 ⟨rfl, hd, hk⟩
                have D10 := Lib.hid (hd.up (c' := 100 * q + 100) (by omega) (Nat.le_refl _))
                have K10 := Lib.hid (KL.out.trans (hk.weak HP1.out))
                have R10 := Lib.hid (HR2.out.crash s.ke.bl)
                have c0' := (HCELL.out w10 K10.out).c0
                clear hd hk DL KL hwt c0 c5
                rcases Classical.em (e2 = 0) with he2 | he2
                · subst he2
                  have hus := R10.out.used
                  have hle : usedD (crashD d2 s.ke.bl) ≤ R := by
                    have := R10.out.rc.rd.used
                    rw [R10.out.room] at this
                    exact this
                  go_wp2_with fail
                  refine (D10.out.used (by omega) rfl).mono ?_
                  rintro r wz ⟨rfl, hd, hk⟩
                  have DZ := Lib.hid (hd.weak (Q := fun k => w.heap.size ≤ k) HPW.out)
                  have KZ := Lib.hid (K10.out.trans (hk.weak HPW.out))
                  have RZ := Lib.hid R10.out
                  have hnu : ¬ R < usedD (crashD d2 s.ke.bl) := by omega
                  have he23 : (e1 == 23) = false := by
                    have := HR1.out.2
                    simpa using this
                  generalize usedD (crashD d2 s.ke.bl) = U at hnu hus hle ⊢
                  have hnd : decide (R < U) = false := decide_eq_false hnu
                  clear hnu hd hk D10 K10 R10 hus hle
                  have hR1 := Lib.hid (RZ.out.up (n' := 300 * ((q + 1 : Nat) : Int)) (k' := 2 * (q + 1)) (by omega) (by omega))
                  have hD1 := Lib.hid (DZ.out.up (c' := 100 * (q + 1)) (e' := 300 * (q + 1)) (by omega) (by omega))
                  go_wp2
                  go_roundw
                  case rel => exact ⟨q + 1, (crashD d2 s.ke.bl), by omega, by go_num, hR1, hD1, KZ⟩
                  case measure => simp [intOf]; omega
                · have he2' := he2
                  have hus := R10.out.used
                  have hle : usedD (crashD d2 s.ke.bl) ≤ R := by
                    have := R10.out.rc.rd.used
                    rw [R10.out.room] at this
                    exact this
                  go_wp2_with fail
                  refine (D10.out.used (by omega) rfl).mono ?_
                  rintro r wz ⟨rfl, hd, hk⟩
                  have DZ := Lib.hid (hd.weak (Q := fun k => w.heap.size ≤ k) HPW.out)
                  have KZ := Lib.hid (K10.out.trans (hk.weak HPW.out))
                  have RZ := Lib.hid R10.out
                  have hnu : ¬ R < usedD (crashD d2 s.ke.bl) := by omega
                  have he23 : (e1 == 23) = false := by
                    have := HR1.out.2
                    simpa using this
                  generalize usedD (crashD d2 s.ke.bl) = U at hnu hus hle ⊢
                  have hnd : decide (R < U) = false := decide_eq_false hnu
                  clear hnu hd hk D10 K10 R10 hus hle
                  have hR1 := Lib.hid (RZ.out.up (n' := 300 * ((q + 1 : Nat) : Int)) (k' := 2 * (q + 1)) (by omega) (by omega))
                  have hD1 := Lib.hid (DZ.out.up (c' := 100 * (q + 1)) (e' := 300 * (q + 1)) (by omega) (by omega))
                  go_wp2
                  go_roundw
                  case rel => exact ⟨q + 1, (crashD d2 s.ke.bl), by omega, by go_num, hR1, hD1, KZ⟩
                  case measure => simp [intOf]; omega
              · have h3i : ¬ (m3 : Int) = 0 := by omega
                rcases Classical.em (e2 = 0) with he2 | he2
                · subst he2
                  obtain ⟨p0, ys, hrd, hln, hpc⟩ := HRD.out rfl
                  obtain ⟨pn, hpn⟩ : ∃ pn : Nat, s.p = pn := ⟨s.p.toNat, by omega⟩
                  have e9 : s.p.toNat = pn := by omega
                  rw [e9, HLZ.out] at hln hpc
                  have HPN := Lib.hid hpn
                  have HLN := Lib.hid hln
                  have HPC := Lib.hid hpc
                  have HRD1 := Lib.hid hrd
                  clear hrd hpc hpn e9 p0
                  have c1 := (HCELL.out wr KL.out).c1
                  go_wp2_with fail
                  refine (name_ok wr s.a).mono ?_
                  rintro r w10 ⟨rfl, hg10⟩
                  rw [hx]
                  have D10 := Lib.hid (DL.out.other hg10 (fun k hk => by cases hk))
                  have K10 := Lib.hid (KL.out.trans (KP.grown hg10 (fun k hk => by cases hk)))
                  clear hg10 DL KL c0 c1
                  go_wp2_with fail
                  refine (D10.out.read2 HX.out (by omega) HRD1.out).mono ?_
                  rintro r w11 ⟨ya, yc, rfl, hd, hk, hyc, hyb, hyo, hyn⟩
                  have D11 := Lib.hid (hd.up (Nat.le_refl _) (Nat.le_refl _))
                  have K11 := Lib.hid (K10.out.trans (hk.weak HP1.out))
                  have HPW : Hid (∀ k, But P1 w10 w11 k → w.heap.size ≤ k) := Lib.hid (fun k hk => HP1.out k hk.1)
                  have HYN : Hid (∀ k', (Value.slice ya ys.length yc).ownBlock = some k' → ¬ But P1 w10 w11 k' ∧ w.heap.size ≤ k') := Lib.hid (fun k' hk' => ⟨(hyn k' hk').2, Nat.le_trans K10.out.size (hyn k' hk').1⟩)
                  have HP21 : Hid (∀ k, But P1 w10 w11 k → P1 k) := Lib.hid (fun k hk => hk.1)
                  have hsr := Src.own hyo
                  obtain ⟨xa', hrun, hcvx⟩ := sub_run hsr hyb hyc HLN.out
                  have BR11 := Lib.hid (ByR.own hyo hyb)
                  have hcv1 := fun n => hcvx (w11.drewN n) hsr
                  rw [HPC.out] at hcv1
                  have HYB := Lib.hid hyb
                  have hmx2 : (yc : Int) ≤ 9223372036854775807 := by
                    rcases hyo.2 with ⟨e1', e0⟩ | ⟨g', cap, cur, e1', _, _, _, r2, _⟩
                    · injection e1' with _ _ e1'
                      omega
                    · injection e1' with _ _ e1'
                      subst e1'
                      unfold maxLen at r2
                      omega
                  generalize But P1 w10 w11 = P2 at D11 HPW HYN HP21
                  have hbc : ∀ n, (convert 32 9 (.slice s.bo.a s.bo.n s.bo.c)).run Try.prog (w11.drewN n) = .ok (.string (strOfNums zs)) (w11.drewN n) := fun n => by
                    have := (HOK.out w11 K11.out).bo.bys
                    rw [HZS.out] at this
                    exact Bys.conv (w := w11.drewN n) this s.bo.c
                  generalize strOfNums zs = SZ at hcv1 hbc
                  have c3 := (HCELL.out w11 K11.out).c3
                  have c4 := (HCELL.out w11 K11.out).c4
                  rw [HPN.out] at c3
                  have HYL := Lib.hid hln
                  have HRD2 := HRD1
                  obtain ⟨yl, hyl⟩ : ∃ yl, ys.length = yl := ⟨_, rfl⟩
                  rw [hyl] at hln hyc hrun BR11 HYN ⊢
                  have hnl : ¬ ((yl : Int) < (pn : Int) + bn) := by omega
                  have hsb : (pn : Int) + bn ≤ 9223372036854775807 := by omega
                  have hnd2 : decide ((yl : Int) < (pn : Int) + bn) = false := decide_eq_false hnl
                  clear hnl
                  clear hd hk hyb hyo hyn hsr hcvx D10 K10
                  go_wp2_with fail
                  go_quiet (fail)
                  go_wp2
                  go_loopw [18] (fun k wr => ∃ j : Nat, j ≤ yl ∧ k = .int .i64 j ∧ Hid (ByR wr ya yl) ∧ Hid (Dw P2 g wr d2 (100 * q + 2) (300 * q + bn)) ∧ Hid (KP (fun k => w.heap.size ≤ k) w wr)) (fun k _ => yl - (intOf k).toNat)
                  case atStart => exact ⟨0, Nat.zero_le _, rfl, Lib.hid (BR11.out.drewN _), Lib.hid (D11.out.drewN _), Lib.hid (K11.out.drewN _)⟩
                  case round =>
                    obtain ⟨j, hjn, rfl, BL, DL, KL⟩ := hrel
                    clear BR11 D11 K11
                    by_cases hjl : j < yl
                    · have hjli : (j : Int) < yl := by omega
                      obtain ⟨kb, hba, hfz, v, v0, v1, hc⟩ := BL.out j hjl
                      subst hba
                      have hxb := xor_bd v
                      have BL2 := Lib.hid (BL.out.set hjl hxb.1 hxb.2)
                      have hgs := grown_set wr kb j (.int .u8 (bits .xor .u8 v 255))
                      have DL2 := Lib.hid (DL.out.other hgs (fun k hk => by injection hk with hk; subst hk; exact (HYN.out _ rfl).1))
                      have KL2 := Lib.hid (KL.out.trans (KP.grown hgs (fun k hk => by injection hk with hk; subst hk; exact (HYN.out _ rfl).2)))
                      clear hgs hxb v0 v1
                      go_wp2
                      go_roundw
                      case rel => exact ⟨j + 1, by omega, by go_num, BL2, DL2, KL2⟩
                      case measure => simp [intOf]; omega
                    · have hjli : ¬ (j : Int) < yl := by omega
                      clear hjn hjl BL
                      clear c3 c4 hcv1 hbc hrun hmx2 hnd2
                      have c1 := (HCELL.out wr KL.out).c1
                      go_wp2_with fail
                      refine (name_ok wr s.a).mono ?_
                      rintro r w12 ⟨rfl, hg12⟩
                      rw [hx]
                      have D12 := Lib.hid (DL.out.other hg12 (fun k hk => by cases hk))
                      have K12 := Lib.hid (KL.out.trans (KP.grown hg12 (fun k hk => by cases hk)))
                      clear hg12 DL KL c1
                      go_wp2_with fail
                      refine (D12.out.read2 HX.out (by omega) HRD2.out).mono ?_
                      rintro r w13 ⟨za, zc, rfl, hd, hk, hyc, hyb, hyo, hyn⟩
                      have D13 := Lib.hid (fun n => hd.drewN n)
                      have K13 := Lib.hid (fun n => (K12.out.trans (hk.weak HPW.out)).drewN n)
                      have k13 := K12.out.trans (hk.weak HPW.out)
                      have HPW3 : Hid (∀ k, But P2 w12 w13 k → w.heap.size ≤ k) := Lib.hid (fun k hk => HPW.out k hk.1)
                      have hsr := Src.own hyo
                      obtain ⟨xa', hrun, hcvx⟩ := sub_run hsr hyb hyc HYL.out
                      have hcv1 := fun n => hcvx (w13.drewN n) hsr
                      rw [HPC.out] at hcv1
                      generalize But P2 w12 w13 = P3 at D13 HPW3
                      have hbc : ∀ n, (convert 32 9 (.slice s.bo.a s.bo.n s.bo.c)).run Try.prog (w13.drewN n) = .ok (.string (strOfNums zs)) (w13.drewN n) := fun n => by
                        have := (HOK.out w13 k13).bo.bys
                        rw [HZS.out] at this
                        exact Bys.conv (w := w13.drewN n) this s.bo.c
                      generalize strOfNums zs = SZ at hcv1 hbc
                      have c4 := (HCELL.out w13 k13).c4
                      rw [hyl] at hyc hrun ⊢
                      clear hd hk hyb hyo hyn hsr hcvx D12 K12 k13 HPW
                      have HPW := HPW3
                      have R13 := HR2
                      go_wp2_with fail
                      go_quiet (fail)
                      have hus := R13.out.used
                      have hle : usedD d2 ≤ R := by
                        have := R13.out.rc.rd.used
                        rw [R13.out.room] at this
                        exact this
                      go_wp2_with fail
                      refine ((D13.out _).used (by omega) rfl).mono ?_
                      rintro r wz ⟨rfl, hd, hk⟩
                      have DZ := Lib.hid (hd.weak (Q := fun k => w.heap.size ≤ k) HPW.out)
                      have KZ := Lib.hid ((K13.out _).trans (hk.weak HPW.out))
                      have RZ := Lib.hid R13.out
                      have hnu : ¬ R < usedD d2 := by omega
                      have he23 : (e1 == 23) = false := by
                        have := HR1.out.2
                        simpa using this
                      generalize usedD d2 = U at hnu hus hle ⊢
                      have hnd : decide (R < U) = false := decide_eq_false hnu
                      clear hnu hd hk D13 K13 R13 hus hle
                      have hR1 := Lib.hid (RZ.out.up (n' := 300 * ((q + 1 : Nat) : Int)) (k' := 2 * (q + 1)) (by omega) (by omega))
                      have hD1 := Lib.hid (DZ.out.up (c' := 100 * (q + 1)) (e' := 300 * (q + 1)) (by omega) (by omega))
                      go_wp2
                      go_roundw
                      case rel => exact ⟨q + 1, d2, by omega, by go_num, hR1, hD1, KZ⟩
                      case measure => simp [intOf]; omega
                · have he2' := he2
                  have D10 := DL
                  have K10 := KL
                  have R10 := HR2
                  have hus := R10.out.used
                  have hle : usedD d2 ≤ R := by
                    have := R10.out.rc.rd.used
                    rw [R10.out.room] at this
                    exact this
                  go_wp2_with fail
                  refine (D10.out.used (by omega) rfl).mono ?_
                  rintro r wz ⟨rfl, hd, hk⟩
                  have DZ := Lib.hid (hd.weak (Q := fun k => w.heap.size ≤ k) HPW.out)
                  have KZ := Lib.hid (K10.out.trans (hk.weak HPW.out))
                  have RZ := Lib.hid R10.out
                  have hnu : ¬ R < usedD d2 := by omega
                  have he23 : (e1 == 23) = false := by
                    have := HR1.out.2
                    simpa using this
                  generalize usedD d2 = U at hnu hus hle ⊢
                  have hnd : decide (R < U) = false := decide_eq_false hnu
                  clear hnu hd hk D10 K10 R10 hus hle
                  have hR1 := Lib.hid (RZ.out.up (n' := 300 * ((q + 1 : Nat) : Int)) (k' := 2 * (q + 1)) (by omega) (by omega))
                  have hD1 := Lib.hid (DZ.out.up (c' := 100 * (q + 1)) (e' := 300 * (q + 1)) (by omega) (by omega))
                  go_wp2
                  go_roundw
                  case rel => exact ⟨q + 1, d2, by omega, by go_num, hR1, hD1, KZ⟩
                  case measure => simp [intOf]; omega
        case steps19 =>
          refine ⟨?_, ?_, ?_, ?_, ?_, ?_, ?_, ?_, ?_, ?_, ?_, ?_, ?_, ?_, ?_, trivial⟩
          all_goals intro L y w9 hJ hL hy0 hp0 hcl hun
          all_goals have hy := Lib.hid hy0
          all_goals have hp := Lib.hid hp0
          all_goals have HJ := Lib.hid hJ
          all_goals have HP := Lib.hid hJ.out
          all_goals have hU := Lib.hid hun
          all_goals clear hy0 hp0 hun hJ
          · have e1 : y 9 = .pointer (some ⟨g, 0, none⟩) := hy.out 9 (by decide)
            intro K Q hK
            clear hcl hL
            have v1 := (eval_frame 270 y [] (t := 9) (by decide)).trans e1
            obtain ⟨A, hA⟩ : ∃ A, (⟨frameOf 270 y, []⟩ : Act) = A := ⟨_, rfl⟩
            rw [hA] at v1 hK ⊢
            clear hA hy hp
            simp only [Act.eval] at v1
            go_simp
            exact hK _ _ ⟨trivial, fun _ => rfl, HJ.out.pure (by decide) (by decide)⟩
          · have e1 : y 1 = .slice (some ⟨bb, off, none⟩) len1 cap1 := hy.out 1 (by decide)
            intro K Q hK
            clear hcl hL
            have v1 := (eval_frame 270 y [] (t := 1) (by decide)).trans e1
            obtain ⟨A, hA⟩ : ∃ A, (⟨frameOf 270 y, []⟩ : Act) = A := ⟨_, rfl⟩
            rw [hA] at v1 hK ⊢
            clear hA hy hp
            simp only [Act.eval] at v1
            go_simp
            exact hK _ _ ⟨trivial, fun _ => rfl, HJ.out.pure (by decide) (by decide)⟩
          · have e1 : y 10 = .int .i64 q := hy.out 10 (by decide)
            intro K Q hK
            clear hcl hL
            have v1 := (eval_frame 270 y [] (t := 10) (by decide)).trans e1
            obtain ⟨A, hA⟩ : ∃ A, (⟨frameOf 270 y, []⟩ : Act) = A := ⟨_, rfl⟩
            rw [hA] at v1 hK ⊢
            clear hA hy hp
            simp only [Act.eval] at v1
            go_simp
            exact hK _ _ ⟨trivial, fun _ => rfl, HJ.out.pure (by decide) (by decide)⟩
          · have e1 : y 129 = .slice (some ⟨bb, off, none⟩) len1 cap1 := (hp.out 1 (by decide)).2 (by decide)
            have e2 : y 130 = .int .i64 q := (hp.out 2 (by decide)).2 (by decide)
            intro K Q hK
            clear hcl hL
            have v1 := (eval_frame 270 y [] (t := 129) (by decide)).trans e1
            have v2 := (eval_frame 270 y [] (t := 130) (by decide)).trans e2
            obtain ⟨A, hA⟩ : ∃ A, (⟨frameOf 270 y, []⟩ : Act) = A := ⟨_, rfl⟩
            rw [hA] at v1 v2 hK ⊢
            clear hA hy hp
            simp only [Act.eval] at v1 v2
            go_simp
            exact hK _ _ ⟨trivial, fun _ => rfl, HJ.out.pure (by decide) (by decide)⟩
          · have e1 : y 131 = .pointer (some ⟨bb, O, none⟩) := (hp.out 3 (by decide)).2 (by decide)
            intro K Q hK
            clear hcl hL
            have v1 := (eval_frame 270 y [] (t := 131) (by decide)).trans e1
            obtain ⟨A, hA⟩ : ∃ A, (⟨frameOf 270 y, []⟩ : Act) = A := ⟨_, rfl⟩
            rw [hA] at v1 hK ⊢
            clear hA hy hp
            simp only [Act.eval] at v1
            go_simp
            exact hK _ _ ⟨trivial, fun _ => rfl, HJ.out.pure (by decide) (by decide)⟩
          · have e1 : y 132 = .pointer (some ⟨bb, O + 1, none⟩) := (hp.out 4 (by decide)).2 (by decide)
            have q1 : w9.cell? ⟨bb, O + 1, none⟩ = some (.int .i64 s.a) := (HCELL.out _ HP.out.k).c1
            intro K Q hK
            clear hcl hL
            have v1 := (eval_frame 270 y [] (t := 132) (by decide)).trans e1
            obtain ⟨A, hA⟩ : ∃ A, (⟨frameOf 270 y, []⟩ : Act) = A := ⟨_, rfl⟩
            rw [hA] at v1 hK ⊢
            clear hA hy hp
            simp only [Act.eval] at v1
            go_simp
            exact hK _ _ ⟨trivial, fun _ => rfl, HJ.out.pure (by decide) (by decide)⟩
          · have e1 : y 133 = .int .i64 s.a := (hp.out 5 (by decide)).2 (by decide)
            have hN6 : L 6 = false := hL
            have hN13 : L 13 = false := by
              cases h : L 13 with
              | false => rfl
              | true => have := (hcl 13 _ rfl h 6 (by decide)); rw [hL] at this; cases this
            obtain rfl := HP.out.a hN6
            intro K Q hK
            clear hcl hL
            have v1 := (eval_frame 270 y [] (t := 133) (by decide)).trans e1
            obtain ⟨A, hA⟩ : ∃ A, (⟨frameOf 270 y, []⟩ : Act) = A := ⟨_, rfl⟩
            rw [hA] at v1 hK ⊢
            clear hA hy hp
            simp only [Act.eval] at v1
            go_simp
            refine HNM.out.mono ?_
            rintro r w1 ⟨rfl, hg1⟩
            obtain ⟨hk1, hm1⟩ := HMID.out w1 hg1
            exact hK _ _ ⟨trivial, fun _ => rfl, JA.step fun L' y' h1 h2 h3 h4 => ⟨hk1, (fun h => by rw [h2 (by decide)] at h; cases h), fun _ _ => hm1, (fun h => by rw [h1 13 (by decide) (by decide), hN13] at h; cases h)⟩⟩
          · have e1 : y 1 = .slice (some ⟨bb, off, none⟩) len1 cap1 := hy.out 1 (by decide)
            intro K Q hK
            clear hcl hL
            have v1 := (eval_frame 270 y [] (t := 1) (by decide)).trans e1
            obtain ⟨A, hA⟩ : ∃ A, (⟨frameOf 270 y, []⟩ : Act) = A := ⟨_, rfl⟩
            rw [hA] at v1 hK ⊢
            clear hA hy hp
            simp only [Act.eval] at v1
            go_simp
            exact hK _ _ ⟨trivial, fun _ => rfl, HJ.out.pure (by decide) (by decide)⟩
          · have e1 : y 10 = .int .i64 q := hy.out 10 (by decide)
            intro K Q hK
            clear hcl hL
            have v1 := (eval_frame 270 y [] (t := 10) (by decide)).trans e1
            obtain ⟨A, hA⟩ : ∃ A, (⟨frameOf 270 y, []⟩ : Act) = A := ⟨_, rfl⟩
            rw [hA] at v1 hK ⊢
            clear hA hy hp
            simp only [Act.eval] at v1
            go_simp
            exact hK _ _ ⟨trivial, fun _ => rfl, HJ.out.pure (by decide) (by decide)⟩
          · have e1 : y 135 = .slice (some ⟨bb, off, none⟩) len1 cap1 := (hp.out 7 (by decide)).2 (by decide)
            have e2 : y 136 = .int .i64 q := (hp.out 8 (by decide)).2 (by decide)
            intro K Q hK
            clear hcl hL
            have v1 := (eval_frame 270 y [] (t := 135) (by decide)).trans e1
            have v2 := (eval_frame 270 y [] (t := 136) (by decide)).trans e2
            obtain ⟨A, hA⟩ : ∃ A, (⟨frameOf 270 y, []⟩ : Act) = A := ⟨_, rfl⟩
            rw [hA] at v1 v2 hK ⊢
            clear hA hy hp
            simp only [Act.eval] at v1 v2
            go_simp
            exact hK _ _ ⟨trivial, fun _ => rfl, HJ.out.pure (by decide) (by decide)⟩
          · have e1 : y 137 = .pointer (some ⟨bb, O, none⟩) := (hp.out 9 (by decide)).2 (by decide)
            intro K Q hK
            clear hcl hL
            have v1 := (eval_frame 270 y [] (t := 137) (by decide)).trans e1
            obtain ⟨A, hA⟩ : ∃ A, (⟨frameOf 270 y, []⟩ : Act) = A := ⟨_, rfl⟩
            rw [hA] at v1 hK ⊢
            clear hA hy hp
            simp only [Act.eval] at v1
            go_simp
            exact hK _ _ ⟨trivial, fun _ => rfl, HJ.out.pure (by decide) (by decide)⟩
          · have e1 : y 138 = .pointer (some ⟨bb, O + 3, none⟩) := (hp.out 10 (by decide)).2 (by decide)
            have q1 : w9.cell? ⟨bb, O + 3, none⟩ = some (.int .i64 s.p) := (HCELL.out _ HP.out.k).c3
            intro K Q hK
            clear hcl hL
            have v1 := (eval_frame 270 y [] (t := 138) (by decide)).trans e1
            obtain ⟨A, hA⟩ : ∃ A, (⟨frameOf 270 y, []⟩ : Act) = A := ⟨_, rfl⟩
            rw [hA] at v1 hK ⊢
            clear hA hy hp
            simp only [Act.eval] at v1
            go_simp
            exact hK _ _ ⟨trivial, fun _ => rfl, HJ.out.pure (by decide) (by decide)⟩
          · have e1 : y 11 = .slice ba bn bc := hy.out 11 (by decide)
            intro K Q hK
            clear hcl hL
            have v1 := (eval_frame 270 y [] (t := 11) (by decide)).trans e1
            obtain ⟨A, hA⟩ : ∃ A, (⟨frameOf 270 y, []⟩ : Act) = A := ⟨_, rfl⟩
            rw [hA] at v1 hK ⊢
            clear hA hy hp
            simp only [Act.eval] at v1
            go_simp
            exact hK _ _ ⟨trivial, fun _ => rfl, HJ.out.pure (by decide) (by decide)⟩
          · have e1 : y 128 = .pointer (some ⟨g, 0, none⟩) := (hp.out 0 (by decide)).2 (by decide)
            have e2 : y 134 = .string x := (hp.out 6 (by decide)).2 (by decide)
            have e3 : y 139 = .int .i64 s.p := (hp.out 11 (by decide)).2 (by decide)
            have e4 : y 140 = .slice ba bn bc := (hp.out 12 (by decide)).2 (by decide)
            have hL6 : L 6 = true := (hp.out 6 (by decide)).1
            have hmid := HP.out.b hL6 hL
            intro K Q hK
            clear hcl hL
            have v1 := (eval_frame 270 y [] (t := 128) (by decide)).trans e1
            have v2 := (eval_frame 270 y [] (t := 134) (by decide)).trans e2
            have v3 := (eval_frame 270 y [] (t := 139) (by decide)).trans e3
            have v4 := (eval_frame 270 y [] (t := 140) (by decide)).trans e4
            obtain ⟨A, hA⟩ : ∃ A, (⟨frameOf 270 y, []⟩ : Act) = A := ⟨_, rfl⟩
            rw [hA] at v1 v2 v3 v4 hK ⊢
            clear hA hy hp
            simp only [Act.eval] at v1 v2 v3 v4
            go_simp
            refine hmid.out.mono ?_
            rintro r w1 ⟨rfl, hk1, hp1⟩
            exact hK _ _ ⟨trivial, fun _ => rfl, JA.step fun L' y' h1 h2 h3 h4 => ⟨hk1, (fun h => by rw [h1 6 (by decide) (by decide), hL6] at h; cases h), (fun _ h => by rw [h2 (by decide)] at h; cases h), fun _ => hp1⟩⟩
          · have e1 : y 141 = .int .i64 e2 := (hp.out 13 (by decide)).2 (by decide)
            intro K Q hK
            clear hcl hL
            have v1 := (eval_frame 270 y [] (t := 141) (by decide)).trans e1
            obtain ⟨A, hA⟩ : ∃ A, (⟨frameOf 270 y, []⟩ : Act) = A := ⟨_, rfl⟩
            rw [hA] at v1 hK ⊢
            clear hA hy hp
            simp only [Act.eval] at v1
            go_simp
            exact hK _ _ ⟨trivial, fun _ => rfl, HJ.out.pure (by decide) (by decide)⟩
      · have h40i : ¬ (q : Int) < 40 := by omega
        have HE := Lib.hid (HK.out.below (Nat.le_refl _) (fun k hk => hk))
        go_wp2
        go_ret
        exact ⟨rfl, HE.out⟩
    · have hlti : ¬ (q : Int) < len1 := by omega
      have HE := Lib.hid (HK.out.below (Nat.le_refl _) (fun k hk => hk))
      go_wp2
      go_ret
      exact ⟨rfl, HE.out⟩

set_option maxRecDepth 100000 in
theorem lifted (os : Os) (started : os.Started) (H : Type) (enc : TypeId × Value → H) :
    ReturnsInHanded {} Try.checked os 5 .any (Rows.diskRoomSpec.pre6 enc Try.prog Try.f5 Rows.diskRoomRow.domain false) (Rows.diskRoomSpec.post enc Try.prog Try.f5 false true false false) := by
  refine returnsInHanded_of_change (C := Try.checked) own started (by kernel_rfl) Try.func5
    (ChangeSpec.witness6 (enc := enc) (C := Try.checked) false ⟨#[], #[.int .i64 0, .slice none 0 0], []⟩ 8 (by kernel_rfl) (by kernel_rfl) (by kernel_rfl) (by kernel_rfl)) ?_
  intro W base args ds gs before hval0 hW hcnd _
  have hval : ∀ (j : Nat) t v, Try.f5.params[j]? = some t → args[j]? = some v → Value.okWide Try.prog W .any base t v := hval0
  have hW' := hW
  obtain ⟨p, q, hA0, hV, rfl, hfz, hnd⟩ := hW
  have hA : DataW.TrodAll enc Try.prog W 0 (fun _ => true) true Try.f5.params.toList args.toList ds p := hA0
  rw [Try.params5] at hA hval
  obtain ⟨v0, vs0, d0, ds0, p0, q0, hargs, rfl, rfl, h0, r0⟩ := trodAll_cons hA
  obtain ⟨v1, vs1, d1, ds1, p1, q1, rfl, rfl, rfl, h1, r1⟩ := trodAll_cons r0
  obtain ⟨rfl, rfl, rfl⟩ := trodAll_nil r1
  obtain rfl : args = #[v0, v1] := by cases args; simp_all
  obtain ⟨rfl, rfl⟩ := trodVars_none hV
  obtain ⟨a0, rfl, rfl, rfl, w0⟩ := open_int Try.underlying3 (hval 0 3 v0 rfl rfl) h0
  obtain ⟨a1, len1, cap1, rfl⟩ := okWide_slice Try.underlying22 (hval 1 22 v1 rfl rfl)
  have k1 := h1
  have lt1 : ∀ x ∈ p1, x.block < W.heap.size := by obtain ⟨m, hm⟩ := k1; exact DataW.trod_lt m _ _ _ hm
  obtain ⟨z1, w1⟩ : ∃ zs, Ac.Is W a1 len1 cap1 zs := by
    obtain ⟨fuel, hf⟩ := h1
    exact Ac.opens hf
  clear hA0 hval0
  refine (walk a0 a1 len1 cap1 z1 W w0 w1).mono fun e W' ⟨he, bel⟩ => ?_
  subst he
  exact ⟨_, rfl, _, _, _, [], _, [], hW', trodAll_mk1 (shut_bool Try.underlying4 _), (trodAll_cons_mk (shut_int Try.underlying3 w0) (trodAll_cons_mk (Below.trod laidOut (by kernel_rfl) (of_decide_eq_true (by kernel_rfl)) k1 bel lt1) trodAll_mk0)), rfl, bel.frame _, fun h => by cases h⟩

theorem over : Rows.diskRoomRow.holds Try.pinned (OpenSpec.ofChange Rows.diskRoomSpec) :=
  OpenClaim.holds_of_wide 5 Try.f5 rfl rfl rfl rfl rfl rfl rfl ⟨rfl, rfl, rfl, rfl, rfl⟩ rfl rfl rfl rfl rfl (by kernel_rfl) Try.func5 (by kernel_rfl)
    (of_decide_eq_true (by kernel_rfl)) (by unfold Func.isWrapper; first | (rw [if_pos (by decide +kernel)]; kernel_rfl) | (rw [if_neg (by decide +kernel)]; exact ⟨rfl, rfl⟩))
    (fun os started H enc _ => lifted os started H enc)

theorem proved : Rows.DiskRoomSaid := over
#print axioms proved
end Go.Proofs.Ythogdieplfpopaa.diskRoom
