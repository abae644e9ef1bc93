/- Contracts of the statements of package stream: the document's reader, batch by batch. -/
import Derived.Test.YtacangeamdcgdaaSre
import Derived.Test.YtacangeamdcgdaaPrw
namespace Go.Proofs.Ytacangeamdcgdaa
open Go.ChangeShapes Go.WideShapes Go.ChangeAt Go.RowKit Go.Deep
theorem stepR_congr {α : Type} (d : α) (f g : List UInt8 → Option (α × List UInt8)) (l : List UInt8) (h : f l = g l) : stepR d f (some l) = stepR d g (some l) := by unfold stepR; simp only [h]
theorem bats_okS (cs : List Col) (most : Int) (st : Option (List UInt8)) : ((stepR [] (batsR cs most) st).1.length : Int) ≤ max most 0 ∧ ∀ b ∈ (stepR [] (batsR cs most) st).1, b.rows.length ≤ 32 ∧ ∀ v ∈ b.rows, v.length ≤ 8 ∧ ∀ u ∈ v, FitV u := by
  cases st with
  | none => exact ⟨by simp [stepR]; omega, fun b hb => by cases hb⟩
  | some l => cases h : batsR cs most l with
    | none => rw [stepR_bad _ _ _ h]; exact ⟨by simp; omega, fun b hb => by cases hb⟩
    | some x =>
      obtain ⟨bs, r⟩ := x
      rw [stepR_ok _ _ _ _ _ h]
      obtain ⟨h1, h2⟩ := bats_ok cs most l r bs h
      exact ⟨by simp only; omega, h2⟩
theorem Pt.at_ {w : World} {g : Nat} {st : Option (List UInt8)} (h : Pt w g st) : w.cell? ⟨g, 1, none⟩ = some (.bool st.isNone) ∧ w.frozen? ⟨g, 1, none⟩ = false ∧ g < w.heap.size := by
  obtain ⟨s, hB, _⟩ := h; exact ⟨hB.cell 1, hB.frozen 1, hB.lt⟩
theorem Pt.text {w : World} {g : Nat} {l : List UInt8} (h : Pt w g (some l)) : w.cell? ⟨g, 0, none⟩ = some (.string ⟨l.toArray⟩) := by
  obtain ⟨s, hB, _, h2⟩ := h
  rw [← h2 l rfl]; exact hB.cell 0
theorem pt_new (w : World) (s : ByteArray) (hs : s.size ≤ 100000000) : Pt (w.alloc (.cells #[.string s, .bool false] 60)) w.heap.size (some s.data.toList) :=
  ⟨s, Blk.new w _ _, hs, fun l h => by obtain rfl := Option.some.inj h; simp⟩
/-- The document's reader at work, and the batches that it gave. -/
structure PS (w1 : World) (g : Nat) (s : Option (List UInt8)) (lv : Value) (acc : List Bat) (W : World) : Prop where
  pt : Pt W g s
  off : Off (· = g) w1 W
  row : RowB W w1.heap.size lv acc
theorem PS.step {w1 W W' : World} {g : Nat} {s s' : Option (List UInt8)} {lv : Value} {acc : List Bat} (h : PS w1 g s lv acc W) (hg : g < w1.heap.size) (hr : Pt W' g s') (ho : Off (· = g) W W') : PS w1 g s' lv acc W' := ⟨hr, off_trans h.off ho, h.row.off hg ho⟩
theorem PS.more {w1 W W2 : World} {g : Nat} {s : Option (List UInt8)} {lv v' : Value} {acc : List Bat} {i : Int} {U : Option Addr} {d : Nat} {rs : List (List Val)} {o : Obj} {ps : List (Int × Value)} (h : PS w1 g s lv acc W) (hgl : g < w1.heap.size) (hb : RowR W w1.heap.size (.slice U rs.length d) rs)
    (hp0 : ps.length = acc.length) (hp1 : W.ownsRow w1.heap.size 38 2 lv acc.length (pcells ps)) (hp2 : ∀ i, i < acc.length → ∃ u, ps[i]? = some ((acc.getD i default).id, u) ∧ RowR W w1.heap.size u (acc.getD i default).rows)
    (ho : W2.ownsRow w1.heap.size 38 2 v' (acc.length + 1) (pcells ps ++ [.int .i64 i, .slice U rs.length d])) (hg : (W.alloc o).grownBy W2 lv.ownBlock) : PS w1 g s v' (acc ++ [⟨i, rs⟩]) W2 :=
  ⟨(h.pt.more (below_alloc W o)).grown (World.ownsRow.alloc hp1 _) hgl hg, (h.off.alloc _).grown hg (fun k hk hlt => by have := (World.ownsRow.lt hp1 k hk).1; omega), RowB.snoc hb hp1 ho rfl hg hp0 hp2⟩
/-- A batch in a box of the call's own, and its rows behind it. -/
structure BY (k : Nat) (i : Int) (U : Option Addr) (d : Nat) (rs : List (List Val)) (W : World) : Prop where
  blk : Blk W k 38 #[.int .i64 i, .slice U rs.length d]
  row : RowR W (k + 1) (.slice U rs.length d) rs
theorem BY.off {k g : Nat} {i : Int} {U : Option Addr} {d : Nat} {rs : List (List Val)} {W W' : World} (h : BY k i U d rs W) (hg : g < k) (ho : Off (· = g) W W') : BY k i U d rs W' := ⟨ho.blk h.blk (by omega), h.row.off (by omega) ho⟩
theorem BY.mk' {k : Nat} {i : Int} {U : Option Addr} {d : Nat} {rs : List (List Val)} {W : World} (hb : Blk W k 38 #[.int .i64 i, .slice none 0 0]) (hr : RowR W (k + 1) (.slice U rs.length d) rs) : BY k i U d rs (W.setCell ⟨k, 1, none⟩ (.slice U rs.length d)) :=
  ⟨by simpa using hb.put 1 (.slice U rs.length d), hr.off (Nat.lt_succ_self k) ((Off.refl (fun x => x = k) W).put (p := ⟨k, 1, none⟩) (fun _ => rfl) _)⟩
theorem blk_cf {w : World} {g t : Nat} {a b : Value} (h : Blk w g t #[a, b]) : w.cell? ⟨g, 0, none⟩ = some a ∧ w.cell? ⟨g, 1, none⟩ = some b ∧ w.frozen? ⟨g, 1, none⟩ = false ∧ g < w.heap.size := ⟨h.cell 0, h.cell 1, h.frozen 1, h.lt⟩
theorem Src.batN (w : World) (i : Int) (A : Option Addr) (n c N : Nat) (e : w.heap.size = N) : Src (w.alloc (.cells #[.int .i64 i, .slice A n c] 38)) (some ⟨N, 0, none⟩) 1 2 [.int .i64 i, .slice A n c] := by
  subst e; exact Src.bat w i A n c
end Go.Proofs.Ytacangeamdcgdaa
