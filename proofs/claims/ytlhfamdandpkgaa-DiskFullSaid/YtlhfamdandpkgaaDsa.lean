/- A disk, as it lies in memory. -/
import Derived.Test.YtlhfamdandpkgaaPtm
import Derived.BigQuiet
import Derived.Deep.QuietTactic
import Derived.Deep.DeepCutAuto
import Derived.Deep.CutBlock
import Derived.Deep.RegionLaw
import Derived.Deep.RegionHeld3
import Derived.BigRegion
import Derived.Laws.DeepStrings4
namespace Go.Proofs.Ytlhfamdandpkgaa
open Go.ChangeShapes Go.WideShapes Go.ChangeAt Go.RowKit Go.Maps
def cells8 (l : List UInt8) : List Value := l.map fun b => Value.int .u8 b.toNat
theorem cells8_append (a b : List UInt8) : cells8 (a ++ b) = cells8 a ++ cells8 b := by simp [cells8]
theorem cells8_len (a : List UInt8) : (cells8 a).length = a.length := by simp [cells8]
theorem cells8_one (a : List UInt8) : ∀ u ∈ cells8 a, u.oneCell' = true := by
  intro u hu
  obtain ⟨x, _, rfl⟩ := List.mem_map.1 hu
  rfl
/-- A slice of the call's own that holds just these bytes. -/
def Row8 (w : World) (base : Nat) (v : Value) (l : List UInt8) : Prop := w.ownsRow base 5 1 v l.length (cells8 l)
theorem Row8.conv {w : World} {base : Nat} {v : Value} {l : List UInt8} (h : Row8 w base v l) : (convert 57 9 v).run Try.prog w = .ok (.string ⟨l.toArray⟩) w := by
  by_cases hl : l = []
  · subst hl
    rcases h.2 with ⟨rfl, _⟩ | ⟨g, cap, cur, rfl, _⟩
    · rw [run_convert_bytes_string w 57 9 5 none _ _ Try.underlying57 Try.underlying5 Try.underlying9]
      rfl
    · rw [run_convert_bytes_string w 57 9 5 _ _ _ Try.underlying57 Try.underlying5 Try.underlying9]
      rfl
  · obtain ⟨g, cap, rfl, _, _⟩ := h.form (List.length_pos_iff.2 hl)
    exact run_convert_bytes_back (P := Try.prog) _ 57 9 5 ⟨g, 0, none⟩ cap l Try.underlying57 Try.underlying5 Try.underlying9 (fun j hj => by
      refine h.cells (g := g) rfl j _ ?_
      simp [cells8, hj])
/-- A slice reads as a list of texts. -/
def Strs (w : World) (A : Option Addr) (ss : List ByteArray) : Prop :=
  ss = [] ∨ ∃ b off, A = some ⟨b, off, none⟩ ∧ b < w.heap.size ∧ ∀ i (_ : i < ss.length), w.cell? ⟨b, off + i, none⟩ = some (.string (ss.getD i ⟨#[]⟩))
theorem Strs.keep {w w' : World} {A : Option Addr} {ss : List ByteArray} (h : Strs w A ss) (hb : Below w.heap.size w w') : Strs w' A ss := by
  rcases h with h | ⟨b, off, h1, h2, h3⟩
  · exact .inl h
  · exact .inr ⟨b, off, h1, Nat.lt_of_lt_of_le h2 hb.size, fun i hi => (hb.cell (p := ⟨b, off + i, none⟩) h2).trans (h3 i hi)⟩
theorem Strs.one (W : World) (N : Nat) (t : TypeId) (s : ByteArray) (e : W.heap.size = N) : Strs (W.alloc (.cells #[.string s] t)) (some ⟨N, 0, none⟩) [s] := by
  subst e
  exact .inr ⟨W.heap.size, 0, rfl, by simp, fun i hi => by
    have : i = 0 := by simp at hi; omega
    subst this; rw [(Blk.new W t #[.string s]).cell]; rfl⟩
theorem blk_grown {wr w1 : World} {g : Nat} {t : TypeId} {cs : Array Value} {row : Option Nat} (h : Blk wr g t cs) (hg : wr.grownBy w1 row) (hn : row ≠ some g) : Blk w1 g t cs := (hg.block g h.lt (fun e => hn e.symm)).trans h
/-- A file, as the document has it. -/
structure FRec where
  nm : List UInt8
  dat : List UInt8
  kept : Nat
instance : Inhabited FRec := ⟨⟨[], [], 0⟩⟩
def Fil (w : World) (base g : Nat) (v : Value) (dat : List UInt8) (kept : Nat) : Prop := base ≤ g ∧ Blk w g 74 #[v, .int .i64 kept] ∧ Row8 w base v dat
/-- Files by their names, as they lie. -/
structure Fls (w : World) (base b : Nat) (D : DataW Unit) (fl : List FRec) : Prop where
  hb : base ≤ b
  own : w.ownsMap Try.prog 9 Rp b (Maps.size D) D
  full : Full D
  nms : names D = fl.map FRec.nm
  inj : ∀ nm nm' g, fAt D nm = some g → fAt D nm' = some g → nm = nm'
  file : ∀ f ∈ fl, ∃ g v, fAt D f.nm = some g ∧ Fil w base g v f.dat f.kept
  apart : ∀ nm nm' g g' v v' k k' i, nm ≠ nm' → fAt D nm = some g → fAt D nm' = some g' → Blk w g 74 #[v, k] → Blk w g' 74 #[v', k'] → v.ownBlock = some i → v'.ownBlock ≠ some i
  lens : fl.length ≤ 100
  fits : ∀ f ∈ fl, 0 < f.nm.length ∧ f.nm.length ≤ 20 ∧ f.dat.length ≤ 1048576 ∧ f.kept ≤ f.dat.length
/-- What a disk's power is, and what there is room for. -/
structure Pw where
  off : Bool
  armed : Bool
  left : Int
  uses : Int
  room : Int
def Pw.cells (p : Pw) (b : Nat) : Array Value := #[.bool p.off, .bool p.armed, .int .i64 p.left, .int .i64 p.uses, .int .i64 p.room, .map (some b)]
def Dsk (w : World) (base d : Nat) (p : Pw) (fl : List FRec) : Prop := ∃ b D, base ≤ d ∧ Blk w d 67 (p.cells b) ∧ Fls w base b D fl
/-- The types of a disk's blocks. -/
def dty (t : TypeId) : Bool := t == 67 || t == 74 || t == 5
/-- What a use of a disk leaves: old memory, and blocks that are no disk's. -/
structure Fra (base : Nat) (w w' : World) : Prop where
  below : Below base w w'
  stay : ∀ (i : Nat) cs t fr, w.heap[i]? = some (Obj.cells cs t fr) → dty t = false → w'.heap[i]? = some (Obj.cells cs t fr)
theorem Fra.refl (base : Nat) (w : World) : Fra base w w := ⟨Below.refl _ _, fun _ _ _ _ h _ => h⟩
theorem Fra.trans {base : Nat} {a b c : World} (h : Fra base a b) (k : Fra base b c) : Fra base a c := ⟨h.below.trans k.below, fun i cs t fr h1 h2 => k.stay i cs t fr (h.stay i cs t fr h1 h2) h2⟩
end Go.Proofs.Ytlhfamdandpkgaa
