/- A text as words: plain mathematics. -/
import Derived.Test.YtgdfjcmjhagmoaaTextC
import Derived.Test.YtgdfjcmjhagmoaaNan
namespace Go.Proofs.Ytgdfjcmjhagmoaa
/-- A word: its kind, its text, its number, its place. -/
structure Wd where
  kd : Int
  tx : ByteArray
  n : Int
  at_ : Int
instance : Inhabited Wd := ⟨⟨0, ⟨#[]⟩, 0, 0⟩⟩
def isBl (c : UInt8) : Bool := c == 32 || c == 9 || c == 10
/-- How many bytes of blanks and remarks a text begins with; true: within a remark. -/
def blk : Bool → List UInt8 → Nat
  | _, [] => 0
  | true, c :: r => if c == 10 then blk false r + 1 else blk true r + 1
  | false, c :: r => if isBl c then blk false r + 1 else if c == 47 && r.head? == some 47 then blk true r + 1 else 0
theorem blk_le : ∀ (b : Bool) (l : List UInt8), blk b l ≤ l.length
  | b, [] => by cases b <;> simp [blk]
  | true, c :: r => by
    have h1 := blk_le false r
    have h2 := blk_le true r
    unfold blk
    split <;> simp <;> omega
  | false, c :: r => by
    have h1 := blk_le false r
    have h2 := blk_le true r
    unfold blk
    split
    · simp; omega
    · split <;> simp; omega
def isP (c : UInt8) : Bool := (97 ≤ c && c ≤ 122) || (65 ≤ c && c ≤ 90) || (48 ≤ c && c ≤ 57) || c == 95
/-- How many letters, digits and _ a text begins with. -/
def runN : List UInt8 → Nat
  | [] => 0
  | c :: r => if isP c then runN r + 1 else 0
theorem runN_le : ∀ l : List UInt8, runN l ≤ l.length
  | [] => by simp [runN]
  | c :: r => by
    have := runN_le r
    unfold runN
    split <;> simp; omega
/-- What a text is behind its first quote, and how many bytes it has with the last one. -/
def txt : List UInt8 → Option (List UInt8 × Nat)
  | [] => none
  | [c] => if c == 39 then some ([], 1) else none
  | c :: d :: r =>
    if c == 10 then none
    else if c == 39 then (if d == 39 then (txt r).map fun x => (39 :: x.1, x.2 + 2) else some ([], 1))
    else (txt (d :: r)).map fun x => (c :: x.1, x.2 + 1)
def signs : List UInt8 := [40, 41, 123, 125, 91, 93, 44, 59, 58, 46, 43, 45, 42, 47, 37, 60, 61, 62]
def numW (l : List UInt8) : Option (Wd × Nat) := if parseE (l.take (runN l)) = 0 then some (⟨1, ⟨(l.take (runN l)).toArray⟩, parseV (l.take (runN l)), 0⟩, runN l) else none
def namW (l : List UInt8) : Option (Wd × Nat) := if namB ⟨(l.take (runN l)).toArray⟩ then some (⟨3, ⟨(l.take (runN l)).toArray⟩, 0, 0⟩, runN l) else none
def txtW (l : List UInt8) : Option (Wd × Nat) := (txt l.tail).bind fun x => if 200 < x.1.length then none else some (⟨2, ⟨x.1.toArray⟩, 0, 0⟩, x.2 + 1)
def two (l : List UInt8) : Bool := match l with
  | c :: d :: _ => d == 61 && (c == 60 || c == 33 || c == 62)
  | _ => false
def sgnW (l : List UInt8) : Option (Wd × Nat) :=
  if two l then some (⟨0, ⟨(l.take 2).toArray⟩, 0, 0⟩, 2)
  else if l.head?.any (signs.contains ·) then some (⟨0, ⟨(l.take 1).toArray⟩, 0, 0⟩, 1) else none
/-- The word at a text's beginning, and how many bytes it has. -/
def fstW (l : List UInt8) : Option (Wd × Nat) := match l with
  | [] => none
  | c :: _ => if 48 ≤ c && c ≤ 57 then numW l else if 97 ≤ c && c ≤ 122 then namW l else if c == 39 then txtW l else sgnW l
/-- A text's words from a place on; or where none can stand. -/
def wordsF : Nat → List UInt8 → Nat → Except Nat (List Wd)
  | 0, _, _ => .ok []
  | f + 1, l, k =>
    if (l.drop (blk false l)) = [] then .ok []
    else match fstW (l.drop (blk false l)) with
      | none => .error (k + blk false l)
      | some x => (wordsF f ((l.drop (blk false l)).drop x.2) (k + blk false l + x.2)).map ({ x.1 with at_ := ((k + blk false l : Nat) : Int) } :: ·)
end Go.Proofs.Ytgdfjcmjhagmoaa
