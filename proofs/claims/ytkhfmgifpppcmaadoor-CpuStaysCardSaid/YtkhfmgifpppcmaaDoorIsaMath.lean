/-
  What is proved here: plain words: an instruction, whether it may be, its word, its text; a text's words, the number of a word, the instruction of a text, the bytes of lines.
  Conditions: none; nothing here speaks of the program.
-/
import Derived.Test.YtkhfmgifpppcmaaDoorBase
import Derived.Test.YtkhfmgifpppcmaaDoorNum
namespace Go.Proofs.YtkhfmgifpppcmaaDoor
open Go.RowKit
set_option linter.unusedVariables false

/-- The operations' words. -/
def wordL : List ByteArray := [⟨#[]⟩, ⟨#[110, 111, 112]⟩, ⟨#[109, 111, 118]⟩, ⟨#[97, 100, 100]⟩, ⟨#[115, 117, 98]⟩, ⟨#[109, 117, 108]⟩, ⟨#[100, 105, 118]⟩, ⟨#[114, 101, 109]⟩, ⟨#[97, 110, 100]⟩, ⟨#[111, 114]⟩, ⟨#[120, 111, 114]⟩, ⟨#[115, 104, 108]⟩, ⟨#[115, 104, 114]⟩, ⟨#[115, 97, 114]⟩, ⟨#[115, 108, 116]⟩, ⟨#[115, 108, 116, 117]⟩, ⟨#[97, 100, 100, 105]⟩, ⟨#[109, 111, 118, 105]⟩, ⟨#[109, 111, 118, 104, 105]⟩, ⟨#[]⟩, ⟨#[108, 100, 49]⟩, ⟨#[108, 100, 50]⟩, ⟨#[108, 100, 52]⟩, ⟨#[108, 100, 56]⟩, ⟨#[115, 116, 49]⟩, ⟨#[115, 116, 50]⟩, ⟨#[115, 116, 52]⟩, ⟨#[115, 116, 56]⟩, ⟨#[]⟩, ⟨#[]⟩, ⟨#[98, 101, 113]⟩, ⟨#[98, 110, 101]⟩, ⟨#[98, 108, 116]⟩, ⟨#[98, 108, 116, 117]⟩, ⟨#[106, 109, 112]⟩, ⟨#[99, 97, 108, 108]⟩, ⟨#[106, 114]⟩, ⟨#[99, 97, 108, 108, 114]⟩, ⟨#[108, 101, 97]⟩, ⟨#[116, 108, 115]⟩, ⟨#[115, 121, 115]⟩, ⟨#[116, 114, 97, 112]⟩]
def wordI (op : Int) : ByteArray := if op < 0 then ⟨#[]⟩ else wordL.getD op.toNat ⟨#[]⟩
/-- Which fields an operation has: 1 A, 2 B, 4 C, 8 Imm. -/
def hasI (op : Int) : Int :=
  if op = 1 ∨ op = 40 then 0
  else if op = 2 ∨ op = 37 then 3
  else if op ≤ 15 then 7
  else if op = 16 ∨ (20 ≤ op ∧ op ≤ 33) then 11
  else if op = 17 ∨ op = 18 ∨ op = 35 ∨ op = 38 ∨ op = 39 then 9
  else if op = 34 ∨ op = 41 then 8
  else 2
theorem hasI_bd (op : Int) : 0 ≤ hasI op ∧ hasI op ≤ 11 := by unfold hasI; repeat' split
                                                              all_goals omega
/-- An instruction. -/
structure In where
  op : Int
  a : Int
  b : Int
  c : Int
  imm : Int
def In.zero : In := ⟨0, 0, 0, 0, 0⟩
/-- Is a register's field right? -/
def okF (h v : Int) : Bool := decide ((h % 2 = 0 → v = 0) ∧ 0 ≤ v ∧ v ≤ 31)
def okImm (h v : Int) : Bool := decide (h % 2 = 0 → v = 0)
def mayI (i : In) : Bool := decide ((wordI i.op).size ≠ 0) && (okF (hasI i.op) i.a && (okF (hasI i.op / 2) i.b && (okF (hasI i.op / 2 / 2) i.c && (okImm (hasI i.op / 2 / 2 / 2) i.imm && decide (-2147483648 ≤ i.imm ∧ i.imm ≤ 2147483647)))))
/-- The word, and the error. -/
def encI (i : In) : Int × Int := if mayI i = true then (i.op + 256 * i.a + 8192 * i.b + 262144 * i.c + 4294967296 * (if i.imm < 0 then i.imm + 4294967296 else i.imm), 0) else (0, 42)
/-- The fields of a word. -/
def cutI (w : Int) : In := ⟨w % 256, w / 256 % 32, w / 8192 % 32, w / 262144 % 32, if 2147483648 ≤ w / 4294967296 then w / 4294967296 - 4294967296 else w / 4294967296⟩
def decI (w : Int) : In × Int := if encI (cutI w) = (w, 0) then (cutI w, 0) else (In.zero, 42)
/-! ### numbers as texts -/
def digB (d : Nat) : ByteArray := ⟨#[UInt8.ofNat (48 + d)]⟩
def numB (n : Nat) : ByteArray := if h : n < 10 then digB n else numB (n / 10) ++ digB (n % 10)
decreasing_by omega
def numberI (n : Int) : ByteArray := if n < 0 then ⟨#[45]⟩ ++ numB (-n).toNat else numB n.toNat
def addF (s : ByteArray) (h v : Int) : ByteArray := if h % 2 = 1 then s ++ (⟨#[32]⟩ ++ numberI v) else s
def textI (i : In) : ByteArray × Int := if mayI i = true then (addF (addF (addF (addF (wordI i.op) (hasI i.op) i.a) (hasI i.op / 2) i.b) (hasI i.op / 2 / 2) i.c) (hasI i.op / 2 / 2 / 2) i.imm, 0) else (⟨#[]⟩, 42)
/-! ### texts -/
/-- The words from place i on, of which the one under way began at 'from'. -/
def splitL (s : ByteArray) : Nat → Nat → Nat → List ByteArray → List ByteArray
  | 0, _, _, out => out
  | f + 1, i, fr, out =>
    if s.size < i then out
    else if i = s.size ∨ (bs s).getD i 0 = 32 then splitL s f (i + 1) (i + 1) (if fr < i then out ++ [s.extract fr i] else out)
    else splitL s f (i + 1) fr out
def splitI (s : ByteArray) : List ByteArray := splitL s (s.size + 2) 0 0 []
/-- The digits' number from place i on. -/
def readL (s : ByteArray) : Nat → Nat → Int → Option Int
  | 0, _, _ => none
  | f + 1, i, n =>
    if s.size ≤ i then some n
    else if (bs s).getD i 0 < 48 ∨ 57 < (bs s).getD i 0 ∨ 1000000000000 < n then none
    else readL s f (i + 1) (n * 10 + (bs s).getD i 0 - 48)
def negI (s : ByteArray) : Bool := decide (0 < s.size ∧ (bs s).getD 0 0 = 45)
def readI (s : ByteArray) : Int :=
  match readL s (s.size + 1) (if negI s = true then 1 else 0) 0 with
  | none => 1000000000000
  | some n => if numberI (if negI s = true then -n else n) = s then (if negI s = true then -n else n) else 1000000000000
/-- The operation of a word, among the first k. -/
def opL (s : ByteArray) : Nat → Int
  | 0 => 0
  | k + 1 => if wordI (k + 1 : Nat) = s then ((k + 1 : Nat) : Int) else opL s k
def opI (s : ByteArray) : Int := opL s 41
/-- A field out of the words, from word number t on. -/
def takeF (L : List ByteArray) (h : Int) (t : Nat) : Option (Int × Nat) := if h % 2 = 1 then (if t < L.length then some (readI (L.getD t ⟨#[]⟩), t + 1) else none) else some (0, t)
def fieldsI (L : List ByteArray) (op : Int) : Option In :=
  match takeF L (hasI op) 1 with
  | none => none
  | some (a, t1) =>
    match takeF L (hasI op / 2) t1 with
    | none => none
    | some (b, t2) =>
      match takeF L (hasI op / 2 / 2) t2 with
      | none => none
      | some (c, t3) =>
        match takeF L (hasI op / 2 / 2 / 2) t3 with
        | none => none
        | some (m, t4) => if t4 = L.length ∧ mayI ⟨op, a, b, c, m⟩ = true then some ⟨op, a, b, c, m⟩ else none
def parseI (s : ByteArray) : In × Int :=
  if (splitI s).length = 0 then (In.zero, 11)
  else if opI ((splitI s).getD 0 ⟨#[]⟩) = 0 then (In.zero, 11)
  else match fieldsI (splitI s) (opI ((splitI s).getD 0 ⟨#[]⟩)) with
    | none => (In.zero, 11)
    | some i => (i, 0)
/-- Is a line left out? -/
def skipI (s : ByteArray) : Bool := decide ((splitI s).length = 0 ∨ (bs ((splitI s).getD 0 ⟨#[]⟩)).getD 0 0 = 35)
/-- The bytes from place i on, behind 'out', the line under way having begun at 'from': bytes, error, line. -/
def codeL (s : ByteArray) : Nat → Nat → Nat → Int → List Int → List Int × Int × Int
  | 0, _, _, _, out => (out, 0, 0)
  | f + 1, i, fr, line, out =>
    if s.size < i then (out, 0, 0)
    else if i < s.size ∧ (bs s).getD i 0 ≠ 10 then codeL s f (i + 1) fr line out
    else if skipI (s.extract fr i) = true then codeL s f (i + 1) (i + 1) (line + 1) out
    else if (parseI (s.extract fr i)).2 ≠ 0 then ([], (parseI (s.extract fr i)).2, line + 1)
    else codeL s f (i + 1) (i + 1) (line + 1) (out ++ digs (encI (parseI (s.extract fr i)).1).1 8)
def codeI (s : ByteArray) : List Int × Int × Int := if 65536 < s.size then ([], 13, 0) else codeL s (s.size + 2) 0 0 0 []
end Go.Proofs.YtkhfmgifpppcmaaDoor
