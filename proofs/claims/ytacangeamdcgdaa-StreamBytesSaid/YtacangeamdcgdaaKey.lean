/- Contracts of package value: keys. -/
import Derived.Test.YtacangeamdcgdaaVlc
import Derived.Lib.AppendStr
import Derived.Laws.IdiomStrings
namespace Go.Proofs.Ytacangeamdcgdaa
open Go.ChangeShapes Go.WideShapes Go.ChangeAt Go.RowKit
/-- Bytes as cells. -/
def cells8 (l : List UInt8) : List Value := l.map fun b => Value.int .u8 b.toNat
theorem cells8_append (a b : List UInt8) : cells8 (a ++ b) = cells8 a ++ cells8 b := by simp [cells8]
/-- A slice of the call's own that holds just these bytes. -/
def Row8 (w : World) (base : Nat) (v : Value) (l : List UInt8) : Prop := w.ownsRow base 5 1 v l.length (cells8 l)
theorem Row8.keep {S : Nat → Prop} {w w' : World} {base : Nat} {v : Value} {l : List UInt8} (h : Row8 w base v l) (hb : Off S w w') (hn : ∀ g, base ≤ g → g < w.heap.size → ¬ S g) : Row8 w' base v l :=
  hb.own h (fun g hg => hn g (h.lt g hg).1 (h.lt g hg).2)
theorem Row8.conv {w : World} {base : Nat} {v : Value} {l : List UInt8} (h : Row8 w base v l) (hl : 0 < l.length) : (convert 105 9 v).run Try.prog w = .ok (.string ⟨l.toArray⟩) w := by
  obtain ⟨g, cap, rfl, _, _⟩ := h.form hl
  exact run_convert_bytes_back (P := Try.prog) _ 105 9 5 ⟨g, 0, none⟩ cap l Try.underlying105/-t-/ Try.underlying5/-t-/ Try.underlying9/-t-/ (fun j hj => by
    refine h.cells (g := g) rfl j _ ?_
    simp [cells8, hj])
theorem Src.one (w : World) (x : Value) (t : TypeId) (h : x.oneCell' = true) : Src (w.alloc (.cells #[x] t)) (some ⟨w.heap.size, 0, none⟩) 1 1 [x] :=
  by
    refine ⟨rfl, ?_, ?_, ?_⟩
    · intro h; simp at h
    · intro ad hA j u hu
      obtain rfl := Option.some.inj hA
      exact cell_one_new w x t j u hu
    · intro u hu
      simp at hu; subst hu; exact h
theorem Src.two (w : World) (x y : Value) (t : TypeId) (h : x.oneCell' = true) (h' : y.oneCell' = true) : Src (w.alloc (.cells #[x, y] t)) (some ⟨w.heap.size, 0, none⟩) 2 1 [x, y] := by
  refine ⟨rfl, ?_, ?_, ?_⟩
  · intro h; simp at h
  · intro ad hA j u hu
    obtain rfl := Option.some.inj hA
    rw [addr_add, Nat.zero_add, (Blk.new w t #[x, y]).cell]
    rw [← hu]
    simp
  · intro u hu
    simp at hu; rcases hu with rfl | rfl <;> assumption
theorem info5 : (Try.prog.info? 5).map (fun i => (i.zero, i.size, i.bytes)) = some (some (.int .u8 0), 1, 1) := by kernel_rfl
theorem row8_step {w2 : World} {B n : Nat} {v' : Value} {l l' : List UInt8} {x : UInt8} {X : Int} {cs : List Value} (h : w2.ownsRow B 5 1 v' n (cs ++ [.int .u8 X])) (hc : cs = cells8 l) (hn : n = l.length + 1) (hx : X = (x.toNat : Int)) (hl : l' = l ++ [x]) : Row8 w2 B v' l' := by
  subst hx; subst hl; subst hc; subst hn
  unfold Row8
  rw [cells8_append, List.length_append]
  exact h
theorem blk_grown {wr w1 : World} {g : Nat} {t : TypeId} {cs : Array Value} {row : Option Nat} (h : Blk wr g t cs) (hg : wr.grownBy w1 row) (hn : row ≠ some g) : Blk w1 g t cs := (hg.block g h.lt (fun e => hn e.symm)).trans h
def be8 (z : Nat) : List UInt8 := (List.range 8).map fun i => UInt8.ofNat (z / 2 ^ (56 - 8 * i))
def esc (l : List UInt8) : List UInt8 := l.flatMap fun c => if c = 0 then [0, 255] else [c]
theorem esc_snoc (l : List UInt8) (c : UInt8) : esc (l ++ [c]) = esc l ++ if c = 0 then [0, 255] else [c] := by simp [esc]
theorem esc_len (l : List UInt8) : (esc l).length ≤ 2 * l.length := by
  induction l with
  | nil => simp [esc]
  | cons c r ih =>
    have : esc (c :: r) = (if c = 0 then [0, 255] else [c]) ++ esc r := rfl
    rw [this, List.length_append, List.length_cons]
    split <;> simp <;> omega
/-- A right value's key. -/
def keyOf (x : Val) : List UInt8 := if x.k = 1 then [1] ++ be8 (x.n + 9223372036854775808).toNat else if x.k = 2 then [2] ++ esc x.s.data.toList ++ [0, 1] else [3, UInt8.ofNat x.n.toNat]
theorem keyOf_len (x : Val) (h : x.s.size ≤ 300) : (keyOf x).length ≤ 700 := by
  unfold keyOf
  have := esc_len x.s.data.toList
  have hs : x.s.data.toList.length = x.s.size := by simp
  split
  · simp [be8]
  · split
    · simp only [List.length_append, List.length_cons, List.length_nil]; omega
    · simp
def keysOf (vs : List Val) : List UInt8 := vs.flatMap keyOf
end Go.Proofs.Ytacangeamdcgdaa
