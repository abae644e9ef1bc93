/- Contracts of package slices: copies of lists of columns. -/
import Derived.Test.YtacangeamdcgdaaRig
import Derived.Test.YtacangeamdcgdaaOff
import Derived.WalkSpells
import Derived.Lib.SliceRun
import Derived.Laws.OwnMore
import Derived.Deep.RegionHeld3
import Derived.Deep.Onto
import Derived.Deep.AppendLies
namespace Go.Proofs.Ytacangeamdcgdaa
open Go.ChangeShapes Go.WideShapes Go.ChangeAt Go.RowKit
/-- A slice reads as these cells. -/
def Flat (w : World) (A : Option Addr) (xs : List Value) : Prop :=
  xs = [] ∨ ∃ b off, A = some ⟨b, off, none⟩ ∧ b < w.heap.size ∧ ∀ (j : Nat) u, xs[j]? = some u → w.cell? ⟨b, off + j, none⟩ = some u
theorem Flat.keep {w w' : World} {A : Option Addr} {xs : List Value} (h : Flat w A xs) (hb : Below w.heap.size w w') : Flat w' A xs := by
  rcases h with h | ⟨b, off, h1, h2, h3⟩
  · exact .inl h
  · exact .inr ⟨b, off, h1, Nat.lt_of_lt_of_le h2 hb.size, fun j u hu => (hb.cell (p := ⟨b, off + j, none⟩) h2).trans (h3 j u hu)⟩
theorem Flat.src {w : World} {A : Option Addr} {xs : List Value} (h : Flat w A xs) (n size : Nat) (hl : xs.length = n * size) (hA : A = none → n = 0) (h1 : ∀ u ∈ xs, u.oneCell' = true) : Src w A n size xs := by
  refine ⟨hl, hA, fun ad hA2 j u hu => ?_, h1⟩
  rcases h with h | ⟨b, off, h2, h3, h4⟩
  · subst h; simp at hu
  · rw [h2] at hA2
    obtain rfl := Option.some.inj hA2
    rw [addr_add]; exact h4 j u hu
def ccells (cs : List Col) : List Value := cs.flatMap fun x => [Value.string x.nm, Value.int .i64 x.kd]
theorem ccells_len (a : List Col) : (ccells a).length = a.length * 2 := by
  induction a with
  | nil => rfl
  | cons x r ih =>
    have : ccells (x :: r) = [Value.string x.nm, Value.int .i64 x.kd] ++ ccells r := rfl
    rw [this, List.length_append, ih, List.length_cons]; simp; omega
theorem ccells_at : ∀ (a : List Col) (i : Nat), i < a.length → (ccells a)[i * 2]? = some (.string (a.getD i default).nm) ∧ (ccells a)[i * 2 + 1]? = some (.int .i64 (a.getD i default).kd)
  | [], i, h => by simp at h
  | x :: r, 0, _ => ⟨rfl, rfl⟩
  | x :: r, i + 1, h => by
    have e : ccells (x :: r) = Value.string x.nm :: Value.int .i64 x.kd :: ccells r := rfl
    obtain ⟨h1, h2⟩ := ccells_at r i (by simpa using h)
    rw [e]
    refine ⟨?_, ?_⟩
    · rw [show (i + 1) * 2 = i * 2 + 1 + 1 from by omega]; simpa using h1
    · rw [show (i + 1) * 2 + 1 = (i * 2 + 1) + 1 + 1 from by omega]; simpa using h2
theorem ccells_one (a : List Col) : ∀ u ∈ ccells a, u.oneCell' = true := by
  intro u hu
  obtain ⟨x, _, hx⟩ := List.mem_flatMap.1 hu
  simp at hx
  rcases hx with rfl | rfl <;> rfl
theorem Cols.flat {w : World} {A : Option Addr} {cs : List Col} (h : Cols w A cs) : Flat w A (ccells cs) := by
  rcases h with h | ⟨b, off, h1, h2, h3⟩
  · subst h; exact .inl rfl
  · refine .inr ⟨b, off, h1, h2, fun j u hu => ?_⟩
    have hj : j < cs.length * 2 := by
      rcases Nat.lt_or_ge j (cs.length * 2) with h | h
      · exact h
      · rw [List.getElem?_eq_none (by rw [ccells_len]; exact h)] at hu; cases hu
    have hi : j / 2 < cs.length := by omega
    obtain ⟨c1, c2⟩ := ccells_at cs (j / 2) hi
    obtain ⟨d1, d2⟩ := h3 (j / 2) hi
    rcases Nat.mod_two_eq_zero_or_one j with h | h
    · rw [show j / 2 * 2 = j from by omega] at c1 d1
      rw [d1, ← c1, hu]
    · rw [show j / 2 * 2 + 1 = j from by omega] at c2
      rw [show off + j / 2 * 2 + 1 = off + j from by omega] at d2
      rw [d2, ← c2, hu]
theorem Ints.flat {w : World} {k : IntKind} {A : Option Addr} {xs : List Int} (h : Ints w k A xs) : Flat w A (xs.map (Value.int k)) := by
  rcases h with h | ⟨b, off, h1, h2, h3⟩
  · subst h; exact .inl rfl
  · refine .inr ⟨b, off, h1, h2, fun j u hu => ?_⟩
    rw [List.getElem?_map] at hu
    obtain ⟨x, hx, rfl⟩ := Option.map_eq_some_iff.1 hu
    obtain ⟨hj, hx2⟩ := List.getElem?_eq_some_iff.1 hx
    rw [h3 j hj, ← hx2]
    simp [List.getD, hj]
theorem infoClC : (Try.prog.info? 78).map (fun i => (i.zero, i.size, i.bytes)) = some (some (.agg #[.string ⟨#[]⟩, .int .i64 0]), 2, 24) := by kernel_rfl
set_option maxRecDepth 100000 in
set_option maxHeartbeats 2000000 in
theorem cloneC_some (ad : Addr) (n c : Nat) (xs : List Value) (w : World) (hF : Flat w (some ad) xs) (hl : xs.length = n * 2) (hn : n ≤ 1000000) (h1 : ∀ u ∈ xs, u.oneCell' = true) :
    Calls Try.prog 65/-f-/ #[.slice (some ad) n c] w fun e w' => (∃ u, e = .returned u ∧ w'.ownsRow w.heap.size 78 2 u n xs) ∧ Below w.heap.size w w' := by
  obtain ⟨i0, hi, hz0, hz1, hz2⟩ := info_parts infoClC
  have q22 : ∀ (w : World) (a : Option Addr) (n c n' c' : Nat), (binOp .eql 22 (.slice a n c) (.slice none n' c')).run Try.prog w = .ok (.bool a.isNone) w := fun w a n c n' c' => Lib.run_eql_slice_nil w _ _ a n c n' c' Try.underlying22/-t-/
  have HF := Lib.hid (Flat.src (hF.keep ((Below.refl w.heap.size w).alloc (Nat.le_refl _) (.cells #[] 78))) n 2 hl (by intro h; cases h) h1)
  clear hF h1
  go_enter Try.func65, Try.ntmps65
  go_wp2_with (at_builtin; refine wpList_append_src _ rfl _ _ 22 rfl w.heap.size 78 i0 (.agg #[.string ⟨#[]⟩, .int .i64 0]) 2 24 Try.underlying22/-t-/ hi hz0 hz1 hz2 rfl (by decide) (.slice (some ⟨w.heap.size, 0, none⟩) 0 0) 0 _ rfl (World.ownsRow_made w #[] 0 (Nat.le_refl _) (Nat.zero_le _) (by simp)) _ n c xs rfl HF.out (by unfold maxLen; omega) (by omega) (by simp) ?_; intro v3 w3 hown3 hgr3 hnew3; have HO3 := Lib.hid hown3; have HG3 := Lib.hid hgr3; clear hown3 hgr3 hnew3)
  go_ret
  refine ⟨⟨_, rfl, by simpa using HO3.out⟩, ?_⟩
  exact ((Below.refl _ w).alloc (Nat.le_refl _) _).grown HG3.out (by simp) (by intro k hk; simp [Value.ownBlock] at hk; omega)
set_option maxHeartbeats 1000000 in
theorem cloneC_none (n c : Nat) (w : World) :
    Calls Try.prog 65/-f-/ #[.slice none n c] w fun e w' => e = .returned (.slice none 0 0) ∧ w = w' := by
  have q22 : ∀ (w : World) (a : Option Addr) (n c n' c' : Nat), (binOp .eql 22 (.slice a n c) (.slice none n' c')).run Try.prog w = .ok (.bool a.isNone) w := fun w a n c n' c' => Lib.run_eql_slice_nil w _ _ a n c n' c' Try.underlying22/-t-/
  go_enter Try.func65, Try.ntmps65
  go_wp2
  go_ret
  exact ⟨rfl, rfl⟩
theorem cloneC_any (A : Option Addr) (n c : Nat) (xs : List Value) (w : World) (hF : Flat w A xs) (hl : xs.length = n * 2) (hn : n ≤ 1000000) (h1 : ∀ u ∈ xs, u.oneCell' = true) (hA : A = none → n = 0) :
    Calls Try.prog 65/-f-/ #[.slice A n c] w fun e w' => (∃ u, e = .returned u ∧ w'.ownsRow w.heap.size 78 2 u n xs) ∧ Below w.heap.size w w' := by
  cases A with
  | some ad => exact cloneC_some ad n c xs w hF hl hn h1
  | none =>
    obtain rfl := hA rfl
    refine (cloneC_none 0 c w).mono ?_
    rintro e w1 ⟨rfl, rfl⟩
    have : xs = [] := List.eq_nil_of_length_eq_zero (by simpa using hl)
    subst this
    exact ⟨⟨_, rfl, World.ownsRow_nil _ _ _ _⟩, Below.refl _ _⟩
theorem own_slc {w : World} {base e size n : Nat} {v : Value} {xs : List Value} (h : w.ownsRow base e size v n xs) : ∃ A c, v = .slice A n c := by
  rcases h.2 with ⟨rfl, h0⟩ | ⟨g, cap, cur, rfl, _⟩
  · subst h0; exact ⟨_, _, rfl⟩
  · exact ⟨_, _, rfl⟩
theorem own_some {w : World} {base e size n cap : Nat} {A : Option Addr} {xs : List Value} (h : w.ownsRow base e size (.slice A n cap) n xs) (hn : 0 < n) : ∃ g, A = some ⟨g, 0, none⟩ := by
  rcases h.2 with ⟨h1, h0⟩ | ⟨g, c, cur, h1, _⟩
  · omega
  · cases h1; exact ⟨g, rfl⟩
theorem own_cap {w : World} {base e size n cap : Nat} {A : Option Addr} {xs : List Value} (h : w.ownsRow base e size (.slice A n cap) n xs) : n ≤ cap := by
  rcases h.2 with ⟨h, h0⟩ | ⟨g2, cap2, cur, h, _, _, hn, _⟩
  · cases h; omega
  · cases h; exact hn
theorem own_cols {w : World} {base c : Nat} {A : Option Addr} {cs : List Col} (h : w.ownsRow base 78 2 (.slice A cs.length c) cs.length (ccells cs)) : Cols w A cs := by
  by_cases h0 : cs = []
  · exact .inl h0
  obtain ⟨g, rfl⟩ := own_some h (List.length_pos_iff.2 h0)
  refine .inr ⟨g, 0, rfl, (World.ownsRow.lt h g rfl).2, fun i hi => ?_⟩
  obtain ⟨c1, c2⟩ := ccells_at cs i hi
  rw [Nat.zero_add]
  exact ⟨(World.ownsRow.cellAt h (i * 2) (by omega)).trans c1, (World.ownsRow.cellAt h (i * 2 + 1) (by omega)).trans c2⟩
theorem clonecols_any (A : Option Addr) (c : Nat) (cs : List Col) (w : World) (hC : Cols w A cs) (hn : cs.length ≤ 1000000) :
    Calls Try.prog 65/-f-/ #[.slice A cs.length c] w fun e w' => (∃ B d, e = .returned (.slice B cs.length d) ∧ w'.ownsRow w.heap.size 78 2 (.slice B cs.length d) cs.length (ccells cs)) ∧ Below w.heap.size w w' := by
  by_cases hA : A = none → cs.length = 0
  · refine (cloneC_any A cs.length c (ccells cs) w hC.flat (ccells_len cs) hn (ccells_one cs) hA).mono ?_
    rintro e w' ⟨⟨u, rfl, h⟩, hb⟩
    obtain ⟨B, d, rfl⟩ := own_slc h
    exact ⟨⟨B, d, rfl, h⟩, hb⟩
  · exfalso
    apply hA
    intro h0
    subst h0
    rcases hC with h | ⟨b, off, h, _⟩
    · subst h; rfl
    · cases h
end Go.Proofs.Ytacangeamdcgdaa
