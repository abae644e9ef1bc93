/- Contracts of package slices: copies of lists of columns, of indexes, of numbers. Slices as flat lists of cells. Contracts of package schema: a copy in memory of its own. Contracts of package schema: a column's place. -/
import Derived.Test.YtddejkmfffeikaaSms
import Derived.Test.YtddejkmfffeikaaZer
import Derived.WalkSpells
import Derived.Lib.SliceRun
import Derived.Laws.OwnMore
import Derived.Deep.RegionHeld3
import Derived.Deep.Onto
import Derived.Deep.AppendLies
import Derived.Test.YtddejkmfffeikaaRss
namespace Go.Proofs.Ytddejkmfffeikaa
open Go.ChangeShapes Go.WideShapes Go.ChangeAt Go.RowKit
/-- A slice reads as these cells. -/
def Flat (w : World) (A : Option Addr) (xs : List Value) : Prop :=
  xs = [] ∨ ∃ b off, A = some ⟨b, off, none⟩ ∧ b < w.heap.size ∧ ∀ (j : Nat) u, xs[j]? = some u → w.cell? ⟨b, off + j, none⟩ = some u
theorem Flat.keep {w w' : World} {A : Option Addr} {xs : List Value} (h : Flat w A xs) (hb : Below w.heap.size w w') : Flat w' A xs := by
  rcases h with h | ⟨b, off, h1, h2, h3⟩
  · exact .inl h
  · exact .inr ⟨b, off, h1, Nat.lt_of_lt_of_le h2 hb.size, fun j u hu => (hb.cell (p := ⟨b, off + j, none⟩) h2).trans (h3 j u hu)⟩
theorem Flat.src {w : World} {A : Option Addr} {xs : List Value} (h : Flat w A xs) (n size : Nat) (hl : xs.length = n * size) (hA : A = none → n = 0) (h1 : ∀ u ∈ xs, u.oneCell' = true) : Src w A n size xs := by
  refine ⟨hl, hA, fun ad hA2 j u hu => ?_, h1⟩
  rcases h with h | ⟨b, off, h2, h3, h4⟩
  · subst h; simp at hu
  · rw [h2] at hA2
    obtain rfl := Option.some.inj hA2
    rw [addr_add]; exact h4 j u hu
def ccells (cs : List Col) : List Value := cs.flatMap fun x => [Value.string x.nm, Value.int .i64 x.kd]
theorem ccells_len (a : List Col) : (ccells a).length = a.length * 2 := by
  induction a with
  | nil => rfl
  | cons x r ih =>
    have : ccells (x :: r) = [Value.string x.nm, Value.int .i64 x.kd] ++ ccells r := rfl
    rw [this, List.length_append, ih, List.length_cons]; simp; omega
theorem ccells_at : ∀ (a : List Col) (i : Nat), i < a.length → (ccells a)[i * 2]? = some (.string (a.getD i default).nm) ∧ (ccells a)[i * 2 + 1]? = some (.int .i64 (a.getD i default).kd)
  | [], i, h => by simp at h
  | x :: r, 0, _ => ⟨rfl, rfl⟩
  | x :: r, i + 1, h => by
    have e : ccells (x :: r) = Value.string x.nm :: Value.int .i64 x.kd :: ccells r := rfl
    obtain ⟨h1, h2⟩ := ccells_at r i (by simpa using h)
    rw [e]
    refine ⟨?_, ?_⟩
    · rw [show (i + 1) * 2 = i * 2 + 1 + 1 from by omega]; simpa using h1
    · rw [show (i + 1) * 2 + 1 = (i * 2 + 1) + 1 + 1 from by omega]; simpa using h2
theorem ccells_one (a : List Col) : ∀ u ∈ ccells a, u.oneCell' = true := by
  intro u hu
  obtain ⟨x, _, hx⟩ := List.mem_flatMap.1 hu
  simp at hx
  rcases hx with rfl | rfl <;> rfl
theorem Cols.flat {w : World} {A : Option Addr} {cs : List Col} (h : Cols w A cs) : Flat w A (ccells cs) := by
  rcases h with h | ⟨b, off, h1, h2, h3⟩
  · subst h; exact .inl rfl
  · refine .inr ⟨b, off, h1, h2, fun j u hu => ?_⟩
    have hj : j < cs.length * 2 := by
      rcases Nat.lt_or_ge j (cs.length * 2) with h | h
      · exact h
      · rw [List.getElem?_eq_none (by rw [ccells_len]; exact h)] at hu; cases hu
    have hi : j / 2 < cs.length := by omega
    obtain ⟨c1, c2⟩ := ccells_at cs (j / 2) hi
    obtain ⟨d1, d2⟩ := h3 (j / 2) hi
    rcases Nat.mod_two_eq_zero_or_one j with h | h
    · rw [show j / 2 * 2 = j from by omega] at c1 d1
      rw [d1, ← c1, hu]
    · rw [show j / 2 * 2 + 1 = j from by omega] at c2
      rw [show off + j / 2 * 2 + 1 = off + j from by omega] at d2
      rw [d2, ← c2, hu]
theorem Ints.flat {w : World} {k : IntKind} {A : Option Addr} {xs : List Int} (h : Ints w k A xs) : Flat w A (xs.map (Value.int k)) := by
  rcases h with h | ⟨b, off, h1, h2, h3⟩
  · subst h; exact .inl rfl
  · refine .inr ⟨b, off, h1, h2, fun j u hu => ?_⟩
    rw [List.getElem?_map] at hu
    obtain ⟨x, hx, rfl⟩ := Option.map_eq_some_iff.1 hu
    obtain ⟨hj, hx2⟩ := List.getElem?_eq_some_iff.1 hx
    rw [h3 j hj, ← hx2]
    simp [List.getD, hj]
theorem infoClC : (Try.prog.info? 29).map (fun i => (i.zero, i.size, i.bytes)) = some (some (.agg #[.string ⟨#[]⟩, .int .i64 0]), 2, 24) := by kernel_rfl
set_option maxRecDepth 100000 in
set_option maxHeartbeats 2000000 in
theorem cloneC_some (ad : Addr) (n c : Nat) (xs : List Value) (w : World) (hF : Flat w (some ad) xs) (hl : xs.length = n * 2) (hn : n ≤ 1000000) (h1 : ∀ u ∈ xs, u.oneCell' = true) :
    Calls Try.prog 30/-f-/ #[.slice (some ad) n c] w fun e w' => (∃ u, e = .returned u ∧ w'.ownsRow w.heap.size 29 2 u n xs) ∧ Below w.heap.size w w' := by
  obtain ⟨i0, hi, hz0, hz1, hz2⟩ := info_parts infoClC
  have q22 : ∀ (w : World) (a : Option Addr) (n c n' c' : Nat), (binOp .eql 22 (.slice a n c) (.slice none n' c')).run Try.prog w = .ok (.bool a.isNone) w := fun w a n c n' c' => Lib.run_eql_slice_nil w _ _ a n c n' c' Try.underlying22/-t-/
  have HF := Lib.hid (Flat.src (hF.keep ((Below.refl w.heap.size w).alloc (Nat.le_refl _) (.cells #[] 29))) n 2 hl (by intro h; cases h) h1)
  clear hF h1
  go_enter Try.func30, Try.ntmps30
  go_wp2_with (at_builtin; refine wpList_append_src _ rfl _ _ 22 rfl w.heap.size 29 i0 (.agg #[.string ⟨#[]⟩, .int .i64 0]) 2 24 Try.underlying22/-t-/ hi hz0 hz1 hz2 rfl (by decide) (.slice (some ⟨w.heap.size, 0, none⟩) 0 0) 0 _ rfl (World.ownsRow_made w #[] 0 (Nat.le_refl _) (Nat.zero_le _) (by simp)) _ n c xs rfl HF.out (by unfold maxLen; omega) (by omega) (by simp) ?_; intro v3 w3 hown3 hgr3 hnew3; have HO3 := Lib.hid hown3; have HG3 := Lib.hid hgr3; clear hown3 hgr3 hnew3)
  go_ret
  refine ⟨⟨_, rfl, by simpa using HO3.out⟩, ?_⟩
  exact ((Below.refl _ w).alloc (Nat.le_refl _) _).grown HG3.out (by simp) (by intro k hk; simp [Value.ownBlock] at hk; omega)
set_option maxHeartbeats 1000000 in
theorem cloneC_none (n c : Nat) (w : World) :
    Calls Try.prog 30/-f-/ #[.slice none n c] w fun e w' => e = .returned (.slice none 0 0) ∧ w = w' := by
  have q22 : ∀ (w : World) (a : Option Addr) (n c n' c' : Nat), (binOp .eql 22 (.slice a n c) (.slice none n' c')).run Try.prog w = .ok (.bool a.isNone) w := fun w a n c n' c' => Lib.run_eql_slice_nil w _ _ a n c n' c' Try.underlying22/-t-/
  go_enter Try.func30, Try.ntmps30
  go_wp2
  go_ret
  exact ⟨rfl, rfl⟩
theorem cloneC_any (A : Option Addr) (n c : Nat) (xs : List Value) (w : World) (hF : Flat w A xs) (hl : xs.length = n * 2) (hn : n ≤ 1000000) (h1 : ∀ u ∈ xs, u.oneCell' = true) (hA : A = none → n = 0) :
    Calls Try.prog 30/-f-/ #[.slice A n c] w fun e w' => (∃ u, e = .returned u ∧ w'.ownsRow w.heap.size 29 2 u n xs) ∧ Below w.heap.size w w' := by
  cases A with
  | some ad => exact cloneC_some ad n c xs w hF hl hn h1
  | none =>
    obtain rfl := hA rfl
    refine (cloneC_none 0 c w).mono ?_
    rintro e w1 ⟨rfl, rfl⟩
    have : xs = [] := List.eq_nil_of_length_eq_zero (by simpa using hl)
    subst this
    exact ⟨⟨_, rfl, World.ownsRow_nil _ _ _ _⟩, Below.refl _ _⟩
theorem infoClX : (Try.prog.info? 34).map (fun i => (i.zero, i.size, i.bytes)) = some (some (.agg #[.slice none 0 0, .bool false]), 2, 32) := by kernel_rfl
set_option maxRecDepth 100000 in
set_option maxHeartbeats 2000000 in
theorem cloneX_some (ad : Addr) (n c : Nat) (xs : List Value) (w : World) (hF : Flat w (some ad) xs) (hl : xs.length = n * 2) (hn : n ≤ 1000000) (h1 : ∀ u ∈ xs, u.oneCell' = true) :
    Calls Try.prog 31/-f-/ #[.slice (some ad) n c] w fun e w' => (∃ u, e = .returned u ∧ w'.ownsRow w.heap.size 34 2 u n xs) ∧ Below w.heap.size w w' := by
  obtain ⟨i0, hi, hz0, hz1, hz2⟩ := info_parts infoClX
  have q22 : ∀ (w : World) (a : Option Addr) (n c n' c' : Nat), (binOp .eql 23 (.slice a n c) (.slice none n' c')).run Try.prog w = .ok (.bool a.isNone) w := fun w a n c n' c' => Lib.run_eql_slice_nil w _ _ a n c n' c' Try.underlying23/-t-/
  have HF := Lib.hid (Flat.src (hF.keep ((Below.refl w.heap.size w).alloc (Nat.le_refl _) (.cells #[] 34))) n 2 hl (by intro h; cases h) h1)
  clear hF h1
  go_enter Try.func31, Try.ntmps31
  go_wp2_with (at_builtin; refine wpList_append_src _ rfl _ _ 23 rfl w.heap.size 34 i0 (.agg #[.slice none 0 0, .bool false]) 2 32 Try.underlying23/-t-/ hi hz0 hz1 hz2 rfl (by decide) (.slice (some ⟨w.heap.size, 0, none⟩) 0 0) 0 _ rfl (World.ownsRow_made w #[] 0 (Nat.le_refl _) (Nat.zero_le _) (by simp)) _ n c xs rfl HF.out (by unfold maxLen; omega) (by omega) (by simp) ?_; intro v3 w3 hown3 hgr3 hnew3; have HO3 := Lib.hid hown3; have HG3 := Lib.hid hgr3; clear hown3 hgr3 hnew3)
  go_ret
  refine ⟨⟨_, rfl, by simpa using HO3.out⟩, ?_⟩
  exact ((Below.refl _ w).alloc (Nat.le_refl _) _).grown HG3.out (by simp) (by intro k hk; simp [Value.ownBlock] at hk; omega)
set_option maxHeartbeats 1000000 in
theorem cloneX_none (n c : Nat) (w : World) :
    Calls Try.prog 31/-f-/ #[.slice none n c] w fun e w' => e = .returned (.slice none 0 0) ∧ w = w' := by
  have q22 : ∀ (w : World) (a : Option Addr) (n c n' c' : Nat), (binOp .eql 23 (.slice a n c) (.slice none n' c')).run Try.prog w = .ok (.bool a.isNone) w := fun w a n c n' c' => Lib.run_eql_slice_nil w _ _ a n c n' c' Try.underlying23/-t-/
  go_enter Try.func31, Try.ntmps31
  go_wp2
  go_ret
  exact ⟨rfl, rfl⟩
theorem cloneX_any (A : Option Addr) (n c : Nat) (xs : List Value) (w : World) (hF : Flat w A xs) (hl : xs.length = n * 2) (hn : n ≤ 1000000) (h1 : ∀ u ∈ xs, u.oneCell' = true) (hA : A = none → n = 0) :
    Calls Try.prog 31/-f-/ #[.slice A n c] w fun e w' => (∃ u, e = .returned u ∧ w'.ownsRow w.heap.size 34 2 u n xs) ∧ Below w.heap.size w w' := by
  cases A with
  | some ad => exact cloneX_some ad n c xs w hF hl hn h1
  | none =>
    obtain rfl := hA rfl
    refine (cloneX_none 0 c w).mono ?_
    rintro e w1 ⟨rfl, rfl⟩
    have : xs = [] := List.eq_nil_of_length_eq_zero (by simpa using hl)
    subst this
    exact ⟨⟨_, rfl, World.ownsRow_nil _ _ _ _⟩, Below.refl _ _⟩
theorem infoClI : (Try.prog.info? 3).map (fun i => (i.zero, i.size, i.bytes)) = some (some (.int .i64 0), 1, 8) := by kernel_rfl
set_option maxRecDepth 100000 in
set_option maxHeartbeats 2000000 in
theorem cloneI_some (ad : Addr) (n c : Nat) (xs : List Value) (w : World) (hF : Flat w (some ad) xs) (hl : xs.length = n * 1) (hn : n ≤ 1000000) (h1 : ∀ u ∈ xs, u.oneCell' = true) :
    Calls Try.prog 32/-f-/ #[.slice (some ad) n c] w fun e w' => (∃ u, e = .returned u ∧ w'.ownsRow w.heap.size 3 1 u n xs) ∧ Below w.heap.size w w' := by
  obtain ⟨i0, hi, hz0, hz1, hz2⟩ := info_parts infoClI
  have q22 : ∀ (w : World) (a : Option Addr) (n c n' c' : Nat), (binOp .eql 32 (.slice a n c) (.slice none n' c')).run Try.prog w = .ok (.bool a.isNone) w := fun w a n c n' c' => Lib.run_eql_slice_nil w _ _ a n c n' c' Try.underlying32/-t-/
  have HF := Lib.hid (Flat.src (hF.keep ((Below.refl w.heap.size w).alloc (Nat.le_refl _) (.cells #[] 3))) n 1 hl (by intro h; cases h) h1)
  clear hF h1
  go_enter Try.func32, Try.ntmps32
  go_wp2_with (at_builtin; refine wpList_append_src _ rfl _ _ 32 rfl w.heap.size 3 i0 (.int .i64 0) 1 8 Try.underlying32/-t-/ hi hz0 hz1 hz2 rfl (by decide) (.slice (some ⟨w.heap.size, 0, none⟩) 0 0) 0 _ rfl (World.ownsRow_made w #[] 0 (Nat.le_refl _) (Nat.zero_le _) (by simp)) _ n c xs rfl HF.out (by unfold maxLen; omega) (by omega) (by simp) ?_; intro v3 w3 hown3 hgr3 hnew3; have HO3 := Lib.hid hown3; have HG3 := Lib.hid hgr3; clear hown3 hgr3 hnew3)
  go_ret
  refine ⟨⟨_, rfl, by simpa using HO3.out⟩, ?_⟩
  exact ((Below.refl _ w).alloc (Nat.le_refl _) _).grown HG3.out (by simp) (by intro k hk; simp [Value.ownBlock] at hk; omega)
set_option maxHeartbeats 1000000 in
theorem cloneI_none (n c : Nat) (w : World) :
    Calls Try.prog 32/-f-/ #[.slice none n c] w fun e w' => e = .returned (.slice none 0 0) ∧ w = w' := by
  have q22 : ∀ (w : World) (a : Option Addr) (n c n' c' : Nat), (binOp .eql 32 (.slice a n c) (.slice none n' c')).run Try.prog w = .ok (.bool a.isNone) w := fun w a n c n' c' => Lib.run_eql_slice_nil w _ _ a n c n' c' Try.underlying32/-t-/
  go_enter Try.func32, Try.ntmps32
  go_wp2
  go_ret
  exact ⟨rfl, rfl⟩
theorem cloneI_any (A : Option Addr) (n c : Nat) (xs : List Value) (w : World) (hF : Flat w A xs) (hl : xs.length = n * 1) (hn : n ≤ 1000000) (h1 : ∀ u ∈ xs, u.oneCell' = true) (hA : A = none → n = 0) :
    Calls Try.prog 32/-f-/ #[.slice A n c] w fun e w' => (∃ u, e = .returned u ∧ w'.ownsRow w.heap.size 3 1 u n xs) ∧ Below w.heap.size w w' := by
  cases A with
  | some ad => exact cloneI_some ad n c xs w hF hl hn h1
  | none =>
    obtain rfl := hA rfl
    refine (cloneI_none 0 c w).mono ?_
    rintro e w1 ⟨rfl, rfl⟩
    have : xs = [] := List.eq_nil_of_length_eq_zero (by simpa using hl)
    subst this
    exact ⟨⟨_, rfl, World.ownsRow_nil _ _ _ _⟩, Below.refl _ _⟩
end Go.Proofs.Ytddejkmfffeikaa
namespace Go.Proofs.Ytddejkmfffeikaa
open Go.ChangeShapes Go.WideShapes Go.ChangeAt Go.RowKit
/-- Indexes as cells: where their places lie, and whether they are unique. -/
def icells : List Value → List Ind → List Value
  | x :: xs, i :: is => x :: .bool i.uq :: icells xs is
  | _, _ => []
theorem icells_len : ∀ (xs : List Value) (is : List Ind), xs.length = is.length → (icells xs is).length = is.length * 2
  | [], [], _ => rfl
  | x :: xs, i :: is, h => by
    have := icells_len xs is (by simpa using h)
    show (icells xs is).length + 1 + 1 = _
    rw [this, List.length_cons]; omega
  | [], i :: is, h => by simp at h
  | x :: xs, [], h => by simp at h
theorem icells_at : ∀ (xs : List Value) (is : List Ind), xs.length = is.length → ∀ i, i < is.length → (icells xs is)[i * 2]? = some (xs.getD i (.int .i64 0)) ∧ (icells xs is)[i * 2 + 1]? = some (.bool (is.getD i default).uq)
  | [], [], _, i, hi => by simp at hi
  | x :: xs, y :: is, h, 0, _ => ⟨rfl, rfl⟩
  | x :: xs, y :: is, h, i + 1, hi => by
    obtain ⟨h1, h2⟩ := icells_at xs is (by simpa using h) i (by simpa using hi)
    have e : icells (x :: xs) (y :: is) = x :: .bool y.uq :: icells xs is := rfl
    rw [e]
    refine ⟨?_, ?_⟩
    · rw [show (i + 1) * 2 = i * 2 + 1 + 1 from by omega]; simpa using h1
    · rw [show (i + 1) * 2 + 1 = (i * 2 + 1) + 1 + 1 from by omega]; simpa using h2
  | [], y :: is, h, i, _ => by simp at h
  | x :: xs, [], h, i, _ => by simp at h
theorem icells_set : ∀ (xs : List Value) (is : List Ind), xs.length = is.length → ∀ i, i < is.length → ∀ v, (icells xs is).set (i * 2) v = icells (xs.set i v) is
  | [], [], _, i, hi, _ => by simp at hi
  | x :: xs, y :: is, h, 0, _, v => rfl
  | x :: xs, y :: is, h, i + 1, hi, v => by
    have h1 := icells_set xs is (by simpa using h) i (by simpa using hi) v
    have e : icells (x :: xs) (y :: is) = x :: .bool y.uq :: icells xs is := rfl
    rw [e, show (i + 1) * 2 = i * 2 + 1 + 1 from by omega, List.set_cons_succ, List.set_cons_succ, h1]; rfl
  | [], y :: is, h, i, _, _ => by simp at h
  | x :: xs, [], h, i, _, _ => by simp at h
theorem icells_one : ∀ (xs : List Value) (is : List Ind), (∀ u ∈ xs, u.oneCell' = true) → ∀ u ∈ icells xs is, u.oneCell' = true
  | [], [], _, u, hu => by simp [icells] at hu
  | [], _ :: _, _, u, hu => by simp [icells] at hu
  | _ :: _, [], _, u, hu => by simp [icells] at hu
  | x :: xs, y :: is, h, u, hu => by
    rw [show icells (x :: xs) (y :: is) = x :: .bool y.uq :: icells xs is from rfl, List.mem_cons, List.mem_cons] at hu
    rcases hu with rfl | rfl | hu
    · exact h _ (by simp)
    · rfl
    · exact icells_one xs is (fun z hz => h z (by simp [hz])) u hu
/-- Where the places of indexes lie. -/
def SlI (w : World) (v : Value) (x : Ind) : Prop := ∃ Aj cj, v = .slice Aj x.cols.length cj ∧ Ints w .i64 Aj x.cols ∧ x.cols.length ≤ cj
theorem idx_flat {w : World} {A : Option Addr} {is : List Ind} (h : Inds w A is) : ∃ xs : List Value, xs.length = is.length ∧ Flat w A (icells xs is) ∧ (∀ i, i < is.length → SlI w (xs.getD i (.int .i64 0)) (is.getD i default)) ∧ ∀ u ∈ xs, u.oneCell' = true := by
  rcases h with h | ⟨b, off, h1, h2, h3⟩
  · subst h; exact ⟨[], rfl, .inl rfl, fun i hi => by simp at hi, fun u hu => by simp at hu⟩
  · have hx : ∀ i, i < is.length → ((List.range is.length).map fun i => (w.cell? ⟨b, off + i * 2, none⟩).getD (.int .i64 0)).getD i (.int .i64 0) = (w.cell? ⟨b, off + i * 2, none⟩).getD (.int .i64 0) := by
      intro i hi; simp [List.getD, hi]
    refine ⟨(List.range is.length).map fun i => (w.cell? ⟨b, off + i * 2, none⟩).getD (.int .i64 0), by simp, .inr ⟨b, off, h1, h2, fun j u hu => ?_⟩, fun i hi => ?_, fun u hu => ?_⟩
    · have hlen : ((List.range is.length).map fun i => (w.cell? ⟨b, off + i * 2, none⟩).getD (.int .i64 0)).length = is.length := by simp
      have hj : j < is.length * 2 := by
        rcases Nat.lt_or_ge j (is.length * 2) with h | h
        · exact h
        · rw [List.getElem?_eq_none (by rw [icells_len _ _ hlen]; exact h)] at hu; cases hu
      have hi : j / 2 < is.length := by omega
      obtain ⟨c1, c2⟩ := icells_at _ is hlen (j / 2) hi
      obtain ⟨Aj, cj, d1, d2, _⟩ := h3 (j / 2) hi
      rcases Nat.mod_two_eq_zero_or_one j with h | h
      · rw [hx _ hi, d1, Option.getD_some] at c1
        rw [show j / 2 * 2 = j from by omega] at c1 d1
        rw [d1, ← c1, hu]
      · rw [show j / 2 * 2 + 1 = j from by omega] at c2
        rw [show off + j / 2 * 2 + 1 = off + j from by omega] at d2
        rw [d2, ← c2, hu]
    · obtain ⟨Aj, cj, d1, d2, d3, d4⟩ := h3 i hi
      rw [hx i hi, d1]
      exact ⟨Aj, cj, rfl, d3, d4⟩
    · obtain ⟨i, hi, rfl⟩ := List.mem_map.1 hu
      obtain ⟨Aj, cj, d1, _⟩ := h3 i (by simpa using hi)
      rw [d1]; rfl
/-- The first k lists of places are of the call's own, each of its own; the others are where they were. -/
structure Mid (w : World) (base : Nat) (xs0 xs : List Value) (is : List Ind) (k : Nat) : Prop where
  len : xs.length = is.length
  own : ∀ i, i < k → i < is.length → w.ownsRow base 3 1 (xs.getD i (.int .i64 0)) (is.getD i default).cols.length ((is.getD i default).cols.map (Value.int .i64))
  old : ∀ i, k ≤ i → i < is.length → xs.getD i (.int .i64 0) = xs0.getD i (.int .i64 0)
  apart : ∀ i j g, i < j → j < k → j < is.length → (xs.getD i (.int .i64 0)).ownBlock = some g → (xs.getD j (.int .i64 0)).ownBlock ≠ some g
theorem getD_set_eq (xs : List Value) (i : Nat) (v d : Value) (h : i < xs.length) : (xs.set i v).getD i d = v := by simp [List.getD, h]
theorem getD_set_ne (xs : List Value) (i j : Nat) (v d : Value) (h : i ≠ j) : (xs.set i v).getD j d = xs.getD j d := by simp [List.getD, List.getElem?_set_ne h]
theorem Mid.still {w w' : World} {base : Nat} {xs0 xs : List Value} {is : List Ind} {k : Nat} (h : Mid w base xs0 xs is k) (hb : Below w.heap.size w w') : Mid w' base xs0 xs is k :=
  ⟨h.len, fun i h1 h2 => own_still (h.own i h1 h2) hb, h.old, h.apart⟩
theorem Mid.put {w : World} {base g i : Nat} {u : Value} {xs0 xs : List Value} {is : List Ind} {k : Nat} {cs : Array Value} {fr : Nat × Nat} (h : Mid w base xs0 xs is k) (hg : w.heap[g]? = some (.cells cs 34 fr)) : Mid (w.setCell ⟨g, i, none⟩ u) base xs0 xs is k := by
  refine ⟨h.len, fun j h1 h2 => ?_, h.old, h.apart⟩
  obtain ⟨h0, hr⟩ := h.own j h1 h2
  refine ⟨h0, ?_⟩
  rcases hr with hr | ⟨g2, cap, cur, hv, hb2, hh, hr⟩
  · exact .inl hr
  · refine .inr ⟨g2, cap, cur, hv, hb2, ?_, hr⟩
    rw [Below.heap_setCell w ⟨g, i, none⟩ u g2 (by rintro rfl; rw [hh] at hg; simp at hg)]
    exact hh
theorem Mid.succ {w : World} {base B : Nat} {u : Value} {xs0 xs : List Value} {is : List Ind} {k : Nat} (h : Mid w base xs0 xs is k) (hk : k < is.length) (ho : w.ownsRow B 3 1 u (is.getD k default).cols.length ((is.getD k default).cols.map (Value.int .i64))) (hB : base ≤ B) (hold : ∀ i g, i < k → (xs.getD i (.int .i64 0)).ownBlock = some g → g < B) :
    Mid w base xs0 (xs.set k u) is (k + 1) := by
  have hkl : k < xs.length := by rw [h.len]; exact hk
  refine ⟨by rw [List.length_set, h.len], fun i h1 h2 => ?_, fun i h1 h2 => ?_, fun i j g h1 h2 h3 => ?_⟩
  · by_cases e : i = k
    · subst e; rw [getD_set_eq _ _ _ _ hkl]; exact ho.mono hB
    · rw [getD_set_ne _ _ _ _ _ (Ne.symm e)]; exact h.own i (by omega) h2
  · rw [getD_set_ne _ _ _ _ _ (by omega)]; exact h.old i (by omega) h2
  · by_cases e : j = k
    · subst e
      rw [getD_set_eq _ _ _ _ hkl, getD_set_ne _ _ _ _ _ (by omega)]
      intro a b
      have := hold i g h1 a
      have := (ho.lt g b).1
      omega
    · rw [getD_set_ne _ _ _ _ _ (by omega), getD_set_ne _ _ _ _ _ (by omega)]
      exact h.apart i j g h1 (by omega) h3
/-- A schema whose lists are of the call's own. -/
structure CpyV (w : World) (base : Nat) (v : Value) (s : Sch) : Prop where
  is : ∃ A B c d xs, v = .agg #[.string s.nm, .slice A s.cols.length c, .slice B s.idx.length d, .int .i64 s.limit, .int .i64 s.parts, .int .i64 s.by_] ∧ w.ownsRow base 29 2 (.slice A s.cols.length c) s.cols.length (ccells s.cols) ∧ w.ownsRow base 34 2 (.slice B s.idx.length d) s.idx.length (icells xs s.idx) ∧ Mid w base xs xs s.idx s.idx.length
theorem own_put {w : World} {base g i e size n : Nat} {v u : Value} {xs : List Value} (h : w.ownsRow base e size v n xs) (hg : g < base) : (w.setCell ⟨g, i, none⟩ u).ownsRow base e size v n xs :=
  Off.own ((Off.refl (fun k => k = g) w).put (p := ⟨g, i, none⟩) (fun _ => rfl) u) h (fun k hk e => by have := (World.ownsRow.lt h k hk).1; omega)
theorem own_far {w : World} {base g i e e' size n : Nat} {v u : Value} {xs : List Value} {cs : Array Value} {fr : Nat × Nat} (h : w.ownsRow base e size v n xs) (hg : w.heap[g]? = some (.cells cs e' fr)) (he : e ≠ e') : (w.setCell ⟨g, i, none⟩ u).ownsRow base e size v n xs :=
  Off.own ((Off.refl (fun k => k = g) w).put (p := ⟨g, i, none⟩) (fun _ => rfl) u) h (fun k hk e2 => by
    subst e2
    rcases h.2 with ⟨rfl, _⟩ | ⟨g2, cap, cur, rfl, _, hh, _⟩
    · simp [Value.ownBlock] at hk
    · simp [Value.ownBlock] at hk
      subst hk
      rw [hh] at hg; simp at hg; exact he hg.2.1)
theorem Mid.low {w : World} {base g i : Nat} {u : Value} {xs0 xs : List Value} {is : List Ind} {k : Nat} (h : Mid w base xs0 xs is k) (hg : g < base) : Mid (w.setCell ⟨g, i, none⟩ u) base xs0 xs is k :=
  ⟨h.len, fun j h1 h2 => own_put (h.own j h1 h2) hg, h.old, h.apart⟩
theorem Mid.self {w : World} {base : Nat} {xs0 xs : List Value} {is : List Ind} (h : Mid w base xs0 xs is is.length) : Mid w base xs xs is is.length :=
  ⟨h.len, h.own, fun _ _ _ => rfl, h.apart⟩
theorem own_heap {w : World} {base e size n cap g : Nat} {xs : List Value} (h : w.ownsRow base e size (.slice (some ⟨g, 0, none⟩) n cap) n xs) : ∃ cur, w.heap[g]? = some (.cells cur e (0, 0)) := by
  rcases h.2 with ⟨h, _⟩ | ⟨g2, cap2, cur, h, _, hh, _⟩
  · cases h
  · cases h; exact ⟨cur, hh⟩
theorem own_some {w : World} {base e size n cap : Nat} {A : Option Addr} {xs : List Value} (h : w.ownsRow base e size (.slice A n cap) n xs) (hn : 0 < n) : ∃ g, A = some ⟨g, 0, none⟩ := by
  rcases h.2 with ⟨_, h⟩ | ⟨g2, cap2, cur, h, _⟩
  · omega
  · cases h; exact ⟨g2, rfl⟩
/-- What holds of a copy at the head of each round. -/
structure CpL (w wr : World) (s : Sch) (A6 B6 : Option Addr) (c6 d6 : Nat) (xs0 xs : List Value) (k : Nat) : Prop where
  below : Below w.heap.size w wr
  b1 : Blk wr w.heap.size 25 #[.string s.nm, .slice A6 s.cols.length c6, .slice B6 s.idx.length d6, .int .i64 s.limit, .int .i64 s.parts, .int .i64 s.by_]
  b2 : Blk wr (w.heap.size + 1) 25 #[.string ⟨#[]⟩, .slice none 0 0, .slice none 0 0, .int .i64 0, .int .i64 0, .int .i64 0]
  cols : wr.ownsRow (w.heap.size + 2) 29 2 (.slice A6 s.cols.length c6) s.cols.length (ccells s.cols)
  idx : wr.ownsRow (w.heap.size + 2) 34 2 (.slice B6 s.idx.length d6) s.idx.length (icells xs s.idx)
  mid : Mid wr (w.heap.size + 2) xs0 xs s.idx k
/-- One index more. -/
theorem CpL.succ {w wr W w4 : World} {s : Sch} {A6 : Option Addr} {c6 d6 gi k : Nat} {xs0 xs : List Value} {u : Value} (h : CpL w wr s A6 (some ⟨gi, 0, none⟩) c6 d6 xs0 xs k) (hk : k < s.idx.length)
    (hb : Below wr.heap.size wr w4) (hu : w4.ownsRow W.heap.size 3 1 u (s.idx.getD k default).cols.length ((s.idx.getD k default).cols.map (Value.int .i64))) (hW : wr.heap.size ≤ W.heap.size) :
    CpL w (w4.setCell ⟨gi, k * 2, none⟩ u) s A6 (some ⟨gi, 0, none⟩) c6 d6 xs0 (xs.set k u) (k + 1) := by
  have hsz := h.below.size
  have hi4 := own_still h.idx hb
  obtain ⟨cur, hg⟩ := own_heap hi4
  have hgl := (World.ownsRow.lt h.idx gi rfl)
  have hl := h.mid.len
  refine ⟨(h.below.trans (hb.mono hsz)).setCell (by simp; omega) _, (h.b1.below hb h.b1.lt).far (p := ⟨gi, k * 2, none⟩) (by simp; omega) _, (h.b2.below hb h.b2.lt).far (p := ⟨gi, k * 2, none⟩) (by simp; omega) _, own_far (own_still h.cols hb) hg (by decide), ?_, Mid.put ((h.mid.still hb).succ hk hu (by omega) (fun i g hi hg2 => ?_)) hg⟩
  · have := (hi4.stored (k * 2) u).1
    rw [icells_set _ _ hl k hk] at this
    exact this
  · have := (World.ownsRow.lt (h.mid.own i hi (by omega)) g hg2).2
    omega
theorem cell?_setCell_ne {w : World} {a b : Addr} {u : Value} (h : a.block ≠ b.block) : (w.setCell b u).cell? a = w.cell? a := World.cell?_of_block (Below.heap_setCell w b u a.block h)
/-- A schema laid into a block of its own. -/
def put6 (w : World) (g : Nat) (u0 u1 u2 u3 u4 u5 : Value) : World := (((((w.setCell ⟨g, 0, none⟩ u0).setCell ⟨g, 1, none⟩ u1).setCell ⟨g, 2, none⟩ u2).setCell ⟨g, 3, none⟩ u3).setCell ⟨g, 4, none⟩ u4).setCell ⟨g, 5, none⟩ u5
theorem cpl_end {w wr : World} {s : Sch} {A6 B6 : Option Addr} {c6 d6 : Nat} {xs0 xs : List Value} (h : CpL w wr s A6 B6 c6 d6 xs0 xs s.idx.length) (u0 u1 u2 u3 u4 u5 : Value) :
    CpyV (put6 wr (w.heap.size + 1) u0 u1 u2 u3 u4 u5) w.heap.size (.agg #[.string s.nm, .slice A6 s.cols.length c6, .slice B6 s.idx.length d6, .int .i64 s.limit, .int .i64 s.parts, .int .i64 s.by_]) s ∧ Below w.heap.size w (put6 wr (w.heap.size + 1) u0 u1 u2 u3 u4 u5) := by
  have hp : ∀ {e size n : Nat} {v : Value} {xs : List Value}, wr.ownsRow (w.heap.size + 2) e size v n xs → (put6 wr (w.heap.size + 1) u0 u1 u2 u3 u4 u5).ownsRow (w.heap.size + 2) e size v n xs := fun h =>
    own_put (own_put (own_put (own_put (own_put (own_put h (by omega)) (by omega)) (by omega)) (by omega)) (by omega)) (by omega)
  have hm := h.mid.self
  refine ⟨⟨A6, B6, c6, d6, xs, rfl, (hp h.cols).mono (by omega), (hp h.idx).mono (by omega), ⟨hm.len, fun i h1 h2 => (hp (hm.own i h1 h2)).mono (by omega), hm.old, hm.apart⟩⟩, ?_⟩
  exact (((((h.below.setCell (by simp) _).setCell (by simp) _).setCell (by simp) _).setCell (by simp) _).setCell (by simp) _).setCell (by simp) _
set_option maxRecDepth 100000 in
set_option maxHeartbeats 16000000 in
theorem copy_any (v : Value) (s : Sch) (w : World) (hv : SchV w v s) (hcl : s.cols.length ≤ 1000) (hil : s.idx.length ≤ 1000) (hxl : ∀ x ∈ s.idx, x.cols.length ≤ 1000) :
    Calls Try.prog 9/-f-/ #[v] w fun e w' => (∃ u, e = .returned u ∧ CpyV w' w.heap.size u s) ∧ Below w.heap.size w w' := by
  obtain ⟨A, B, c, d, rfl, hC, hI, hc, hd⟩ := hv.is
  have HB0 := Lib.hid (((Below.refl w.heap.size w).alloc (Nat.le_refl _) (.cells #[.string s.nm, .slice A s.cols.length c, .slice B s.idx.length d, .int .i64 s.limit, .int .i64 s.parts, .int .i64 s.by_] 25)).alloc (by simp) (.cells #[.string ⟨#[]⟩, .slice none 0 0, .slice none 0 0, .int .i64 0, .int .i64 0, .int .i64 0] 25))
  have K1 := Lib.hid ((Blk.new w 25 #[.string s.nm, .slice A s.cols.length c, .slice B s.idx.length d, .int .i64 s.limit, .int .i64 s.parts, .int .i64 s.by_]).alloc (.cells #[.string ⟨#[]⟩, .slice none 0 0, .slice none 0 0, .int .i64 0, .int .i64 0, .int .i64 0] 25))
  have K2 := Lib.hid (show Blk ((w.alloc (.cells #[.string s.nm, .slice A s.cols.length c, .slice B s.idx.length d, .int .i64 s.limit, .int .i64 s.parts, .int .i64 s.by_] 25)).alloc (.cells #[.string ⟨#[]⟩, .slice none 0 0, .slice none 0 0, .int .i64 0, .int .i64 0, .int .i64 0] 25)) (w.heap.size + 1) 25 #[.string ⟨#[]⟩, .slice none 0 0, .slice none 0 0, .int .i64 0, .int .i64 0, .int .i64 0] from by have := Blk.new (w.alloc (.cells #[.string s.nm, .slice A s.cols.length c, .slice B s.idx.length d, .int .i64 s.limit, .int .i64 s.parts, .int .i64 s.by_] 25)) 25 #[.string ⟨#[]⟩, .slice none 0 0, .slice none 0 0, .int .i64 0, .int .i64 0, .int .i64 0]; simpa using this)
  obtain ⟨xs0, hx0, hxf, hxs, hx1⟩ := idx_flat hI
  have hCn : A = none → s.cols.length = 0 := by
    rintro rfl
    rcases hC with h | ⟨_, _, h, _⟩
    · rw [h]; rfl
    · cases h
  have hIn : B = none → s.idx.length = 0 := by
    rintro rfl
    rcases hI with h | ⟨_, _, h, _⟩
    · rw [h]; rfl
    · cases h
  have CC := Lib.hid (fun W (hW : Below w.heap.size w W) => cloneC_any A s.cols.length c (ccells s.cols) W (hC.flat.keep hW) (ccells_len _) (by omega) (ccells_one _) hCn)
  have CX := Lib.hid (fun W (hW : Below w.heap.size w W) => cloneX_any B s.idx.length d (icells xs0 s.idx) W (hxf.keep hW) (icells_len _ _ hx0) (by omega) (icells_one _ _ hx1) hIn)
  have HXS := Lib.hid hxs
  have HX0 := Lib.hid hx0
  have HXL := Lib.hid hxl
  clear hC hI hv hxf hxs hx1 hx0 hCn hIn hxl
  go_enter Try.func9, Try.ntmps9
  go_wp2_with (first
    | (go_at_call 30/-f-/; (with_reducible refine (CC.out _ HB0.out).mono ?_); rintro e w1 ⟨⟨u, rfl, hu⟩, hb⟩; obtain ⟨A6, c6, rfl⟩ := own_slice hu; have HB1 := Lib.hid ((HB0.out.trans (hb.mono HB0.out.size)).setCell (p := ⟨w.heap.size, 1, none⟩) (Nat.le_refl _) (.slice A6 s.cols.length c6)); have K1a := K1.out.below hb K1.out.lt; have K2a := Lib.hid ((K2.out.below hb K2.out.lt).far (p := ⟨w.heap.size, 1, none⟩) (by simp) (.slice A6 s.cols.length c6)); have HC6 := Lib.hid (own_put (g := w.heap.size) (i := 1) (u := .slice A6 s.cols.length c6) (World.ownsRow.mono hu (show w.heap.size + 2 ≤ _ from by simp)) (by omega)); have a1 := K1a.cell 1; have a2 := K1a.cell 2; have af := K1a.frozen 1; have al := K1a.lt; simp only [List.getElem?_toArray, List.getElem?_cons_zero, List.getElem?_cons_succ] at a1 a2; have K1b := Lib.hid (show Blk (w1.setCell ⟨w.heap.size, 1, none⟩ (.slice A6 s.cols.length c6)) w.heap.size 25 #[.string s.nm, .slice A6 s.cols.length c6, .slice B s.idx.length d, .int .i64 s.limit, .int .i64 s.parts, .int .i64 s.by_] from (by simpa using K1a.put 1 (.slice A6 s.cols.length c6))); clear hb hu K1a)
    | (go_at_call 31/-f-/; (with_reducible refine (CX.out _ HB1.out).mono ?_); rintro e w2 ⟨⟨u, rfl, hu⟩, hb⟩; obtain ⟨B6, d6, rfl⟩ := own_slice hu; have HB2 := Lib.hid ((HB1.out.trans (hb.mono HB1.out.size)).setCell (p := ⟨w.heap.size, 2, none⟩) (Nat.le_refl _) (.slice B6 s.idx.length d6)); have K1c := K1b.out.below hb K1b.out.lt; have K2c := Lib.hid ((K2a.out.below hb K2a.out.lt).far (p := ⟨w.heap.size, 2, none⟩) (by simp) (.slice B6 s.idx.length d6)); have HC7 := Lib.hid (own_put (g := w.heap.size) (i := 2) (u := .slice B6 s.idx.length d6) (own_still HC6.out hb) (by omega)); have HX7 := Lib.hid (own_put (g := w.heap.size) (i := 2) (u := .slice B6 s.idx.length d6) (World.ownsRow.mono hu (show w.heap.size + 2 ≤ _ from by have := K2a.out.lt; omega)) (by omega)); have b1 := K1c.cell 1; have b2 := K1c.cell 2; have bf := K1c.frozen 2; have bl := K1c.lt; simp only [List.getElem?_toArray, List.getElem?_cons_zero, List.getElem?_cons_succ] at b1 b2; have K1d := Lib.hid (show Blk (w2.setCell ⟨w.heap.size, 2, none⟩ (.slice B6 s.idx.length d6)) w.heap.size 25 #[.string s.nm, .slice A6 s.cols.length c6, .slice B6 s.idx.length d6, .int .i64 s.limit, .int .i64 s.parts, .int .i64 s.by_] from (by simpa using K1c.put 2 (.slice B6 s.idx.length d6))); clear hb hu K1c))
  have HL0 := Lib.hid (show CpL w (w2.setCell ⟨w.heap.size, 2, none⟩ (.slice B6 s.idx.length d6)) s A6 B6 c6 d6 xs0 xs0 0 from ⟨HB2.out, K1d.out, K2c.out, HC7.out, HX7.out, ⟨HX0.out, fun i hi => absurd hi (by omega), fun _ _ _ => rfl, fun i j g h1 h2 => absurd h2 (by omega)⟩⟩)
  clear K1 K2 HB0 HB1 HB2 K1b K1d K2a K2c HC6 HC7 HX7 CC CX a1 a2 af al b1 b2 bf bl
  generalize (w2.setCell ⟨w.heap.size, 2, none⟩ (.slice B6 s.idx.length d6)) = wb at *
  go_loopw [3, 4, 16] (fun _ _ i wr => ∃ (k : Nat) (xs : List Value), k ≤ s.idx.length ∧ i = .int .i64 k ∧ CpL w wr s A6 B6 c6 d6 xs0 xs k) (fun _ _ i _ => s.idx.length - (intOf i).toNat)
  case atStart => exact ⟨0, xs0, Nat.zero_le _, rfl, HL0.out⟩
  case round =>
    obtain ⟨k, xs, hk, rfl, hL⟩ := hrel
    by_cases hlt : k < s.idx.length
    · obtain ⟨gi, hgi⟩ := own_some hL.idx (by omega)
      subst hgi
      have hml := hL.mid.len
      obtain ⟨q0, q1⟩ := icells_at xs s.idx hml k hlt
      rw [hL.mid.old k (Nat.le_refl _) hlt] at q0
      obtain ⟨Ak, ck, hsl, hik, hck⟩ := HXS.out k hlt
      rw [hsl] at q0
      have x0 := (World.ownsRow.cellAt hL.idx (k * 2) (by omega)).trans q0
      have x1 := (World.ownsRow.cellAt hL.idx (k * 2 + 1) (by omega)).trans q1
      have hgl := World.ownsRow.lt hL.idx gi rfl
      have hglt := hgl.2
      have hne1 : w.heap.size ≠ gi := by omega
      have hne2 : wr.heap.size ≠ gi := by omega
      have hne3 : gi ≠ w.heap.size := by omega
      have hne4 : gi ≠ wr.heap.size := by omega
      have k1 := hL.b1.cell 1
      have k2 := hL.b1.cell 2
      have kl := hL.b1.lt
      simp only [List.getElem?_toArray, List.getElem?_cons_zero, List.getElem?_cons_succ] at k1 k2
      have hki : (k : Int) < s.idx.length := by omega
      have hxk := HXL.out (s.idx.getD k default) (getD_in s.idx k hlt)
      have HXK := Lib.hid (show ∀ W, Below w.heap.size w W → Flat W Ak ((s.idx.getD k default).cols.map (Value.int .i64)) from fun W hW => (hik.keep hW).flat)
      have hAn : Ak = none → (s.idx.getD k default).cols.length = 0 := by
        rintro rfl
        rcases hik with h | ⟨_, _, h, _⟩
        · rw [h]; rfl
        · cases h
      have HCI := Lib.hid (fun W (hW : Below w.heap.size w W) => cloneI_any Ak (s.idx.getD k default).cols.length ck ((s.idx.getD k default).cols.map (Value.int .i64)) W (HXK.out W hW) (by simp) (by omega) (ints_oneCell .i64 _) hAn)
      have HL := Lib.hid hL
      obtain ⟨x, hx⟩ : ∃ x, x = s.idx.getD k default := ⟨_, rfl⟩
      rw [← hx] at x0 x1 HCI hxk
      have HX := Lib.hid hx
      have hsz := hL.below.size
      clear hx hL q0 q1 hsl hik hck hgl HXK hAn
      go_upto_region 6 with fail
      have HKX := Lib.hid (Blk.new wr 34 #[.slice Ak x.cols.length ck, .bool x.uq])
      have HBA := Lib.hid (show Below wr.heap.size wr (wr.alloc (.cells #[.slice Ak x.cols.length ck, .bool x.uq] 34)).drew from ((Below.refl _ _).alloc (Nat.le_refl _) _).drew)
      have HKD := Lib.hid (show Blk (wr.alloc (.cells #[.slice Ak x.cols.length ck, .bool x.uq] 34)).drew wr.heap.size 34 #[.slice Ak x.cols.length ck, .bool x.uq] from HKX.out)
      have HKS := Lib.hid (show Blk (wr.alloc (.cells #[.slice Ak x.cols.length ck, .bool x.uq] 34)).drew w.heap.size 25 #[.string s.nm, .slice A6 s.cols.length c6, .slice (some ⟨gi, 0, none⟩) s.idx.length d6, .int .i64 s.limit, .int .i64 s.parts, .int .i64 s.by_] from HL.out.b1.below HBA.out HL.out.b1.lt)
      have s2 := HKS.out.cell 2
      have sx := HKD.out.cell 0
      simp only [List.getElem?_toArray, List.getElem?_cons_zero, List.getElem?_cons_succ] at s2 sx
      go_region_held3 (fun W => W.cell? ⟨w.heap.size, 2, none⟩ = some (.slice (some ⟨gi, 0, none⟩) s.idx.length d6) ∧ W.cell? ⟨wr.heap.size, 0, none⟩ = some (.slice Ak x.cols.length ck))
        (first | exact ⟨s2, sx⟩ | exact ⟨d2, dx⟩ | exact ⟨(cell?_setCell_ne hne1).trans d2, (cell?_setCell_ne hne2).trans dx⟩)
        (first
          | (go_at_call 32/-f-/; (with_reducible refine (HCI.out _ (HL.out.below.trans (HBA.out.mono hsz))).mono ?_); rintro e w4 ⟨⟨u, rfl, hu⟩, hb⟩; obtain ⟨A7, c7, rfl⟩ := own_slice hu; have HU := Lib.hid hu; have HB4 := Lib.hid (HBA.out.trans (hb.mono HBA.out.size)); have HKX4 := HKD.out.below hb HKD.out.lt; have HKS4 := HKS.out.below hb HKS.out.lt; have dx := HKX4.cell 0; have d2 := HKS4.cell 2; have dl := HKX4.lt; have HI4 := own_still HL.out.idx HB4.out; have df := World.ownsRow.frozenAt HI4 (k * 2); have dc := World.ownsRow.cellAt HI4 (k * 2) (by omega); have dg := (World.ownsRow.lt HI4 gi rfl).2; have dq := (icells_at xs s.idx hml k hlt).1; rw [dq] at dc; simp only [List.getElem?_toArray, List.getElem?_cons_zero, List.getElem?_cons_succ] at d2 dx; clear hb hu HKX4 HKS4 HI4 dq))
      all_goals
        have HNX := Lib.hid (HL.out.succ hlt HB4.out (by rw [← HX.out]; exact HU.out) (by simp))
        go_wp2
        go_roundw
        case rel => exact ⟨k + 1, _, by omega, by go_num, HNX.out⟩
        case measure => simp [intOf]; omega
    · have hkl : k = s.idx.length := by omega
      subst hkl
      have HL := Lib.hid hL
      have k0 := hL.b1.cell 0
      have k1 := hL.b1.cell 1
      have k2 := hL.b1.cell 2
      have k3 := hL.b1.cell 3
      have k4 := hL.b1.cell 4
      have k5 := hL.b1.cell 5
      have kl := hL.b1.lt
      have z0 := hL.b2.cell 0
      have z1 := hL.b2.cell 1
      have z2 := hL.b2.cell 2
      have z3 := hL.b2.cell 3
      have z4 := hL.b2.cell 4
      have z5 := hL.b2.cell 5
      have f0 := hL.b2.frozen 0
      have f1 := hL.b2.frozen 1
      have f2 := hL.b2.frozen 2
      have f3 := hL.b2.frozen 3
      have f4 := hL.b2.frozen 4
      have f5 := hL.b2.frozen 5
      have zl := hL.b2.lt
      simp only [List.getElem?_toArray, List.getElem?_cons_zero, List.getElem?_cons_succ] at k0 k1 k2 k3 k4 k5 z0 z1 z2 z3 z4 z5
      clear hL
      go_wp2
      have fin := fun (u0 u1 u2 u3 u4 u5 : Value) => cpl_end HL.out u0 u1 u2 u3 u4 u5
      exact bodyPost_ret (v := .agg #[.string s.nm, .slice A6 s.cols.length c6, .slice B6 s.idx.length d6, .int .i64 s.limit, .int .i64 s.parts, .int .i64 s.by_]) (by simp [results, Try.results9, go_sem, z0, z1, z2, z3, z4, z5, f0, f1, f2, f3, f4, f5, zl]) rfl ⟨⟨_, rfl, (fin _ _ _ _ _ _).1⟩, (fin _ _ _ _ _ _).2⟩
end Go.Proofs.Ytddejkmfffeikaa
namespace Go.Proofs.Ytddejkmfffeikaa
open Go.ChangeShapes Go.WideShapes Go.ChangeAt Go.RowKit
/-- The place of the first column of a name, counted from k on; -1: there is none. -/
def colJ (nm : ByteArray) : List Col → Nat → Int
  | [], _ => -1
  | c :: r, k => if c.nm = nm then k else colJ nm r (k + 1)
theorem colJ_drop (nm : ByteArray) (cs : List Col) (k : Nat) (h : k < cs.length) : colJ nm (cs.drop k) k = if (cs.getD k default).nm = nm then (k : Int) else colJ nm (cs.drop (k + 1)) (k + 1) := by
  rw [List.drop_eq_getElem_cons h]
  simp [colJ, List.getD, h]
theorem colJ_end (nm : ByteArray) (cs : List Col) : colJ nm (cs.drop cs.length) cs.length = -1 := by simp [colJ]
set_option maxRecDepth 100000 in
set_option maxHeartbeats 2000000 in
theorem clo_at (g : Nat) (cn nm : ByteArray) (kd : Int) (w : World) (h : w.cell? ⟨g, 0, none⟩ = some (.string nm)) :
    Calls Try.prog 42/-f-/ #[.agg #[.string cn, .int .i64 kd], .pointer (some ⟨g, 0, none⟩)] w fun e w' => e = .returned (.bool (decide (cn = nm))) ∧ Below w.heap.size w w' := by
  have hg := World.block_lt_of_cell? w _ h
  have hne : g ≠ w.heap.size := by simp at hg; omega
  obtain ⟨q, hq⟩ : ∃ q, q = decide (cn = nm) := ⟨_, rfl⟩
  have e1 : (cn.toList == nm.toList) = q := by rw [hq]; exact str_eq_dec _ _
  rw [← hq]
  have HB := Lib.hid ((Below.refl w.heap.size w).alloc (Nat.le_refl _) (.cells #[.string cn, .int .i64 kd] 29))
  clear hq
  go_enter Try.func42, Try.ntmps42
  go_wp2
  go_ret
  exact ⟨rfl, HB.out⟩
set_option maxRecDepth 100000 in
set_option maxHeartbeats 8000000 in
theorem indexfunc_any (A : Option Addr) (n c : Nat) (cs : List Col) (g : Nat) (nm : ByteArray) (w : World) (hA : Cols w A cs) (hn : cs.length = n) (hs : n ≤ 1000000) (hg : w.cell? ⟨g, 0, none⟩ = some (.string nm)) :
    Calls Try.prog 41/-f-/ #[.slice A n c, .func (.func 42) #[] #[.pointer (some ⟨g, 0, none⟩)]] w fun e w' => e = .returned (.int .i64 (colJ nm cs 0)) ∧ Below w.heap.size w w' := by
  subst hn
  obtain ⟨r, hr⟩ : ∃ r, r = colJ nm cs 0 := ⟨_, rfl⟩
  rw [← hr]
  have HR := Lib.hid hr
  have HA := Lib.hid hA
  have hgl := World.block_lt_of_cell? w _ hg
  have HG := Lib.hid (fun W (hW : Below w.heap.size w W) => (hW.cell (p := ⟨g, 0, none⟩) hgl).trans hg)
  clear hr hA hg
  go_enter Try.func41, Try.ntmps41
  go_wp2
  go_loopw [5, 8] (fun _ i wr => ∃ k : Nat, k ≤ cs.length ∧ i = .int .i64 k ∧ Below w.heap.size w wr ∧ Hid (r = colJ nm (cs.drop k) k)) (fun _ i _ => cs.length - (intOf i).toNat)
  case atStart => exact ⟨0, Nat.zero_le _, rfl, Below.refl _ _, HR⟩
  case round =>
    obtain ⟨k, hk, rfl, hbl, heq⟩ := hrel
    have hsz := hbl.size
    by_cases hlt : k < cs.length
    · rcases HA.out with h | ⟨b, off, rfl, hbw, hcell⟩
      · subst h; simp at hlt
      obtain ⟨x0, x1⟩ := hcell k hlt
      replace x0 := (hbl.cell (p := ⟨b, off + k * 2, none⟩) hbw).trans x0
      replace x1 := (hbl.cell (p := ⟨b, off + k * 2 + 1, none⟩) hbw).trans x1
      have hbx : b < wr.heap.size := Nat.lt_of_lt_of_le hbw hsz
      have HS := Lib.hid (colJ_drop nm cs k hlt)
      clear hcell
      generalize cs.getD k default = x at *
      obtain ⟨xn, xk⟩ := x
      simp only at x0 x1 HS
      have C' := clo_at g xn nm xk wr (HG.out _ hbl)
      obtain ⟨q, hq⟩ : ∃ q, q = decide (xn = nm) := ⟨_, rfl⟩
      rw [← hq] at C'
      have C := Lib.hid C'
      have HQ := Lib.hid hq
      clear C' hq
      cases q with
      | true =>
        have HF := Lib.hid (show r = (k : Int) from by rw [heq.out, HS.out, if_pos (of_decide_eq_true HQ.out.symm)])
        go_wp2_with (go_at_call 42/-f-/; (with_reducible refine C.out.mono ?_); rintro e w1 ⟨rfl, hb⟩)
        go_ret
        exact ⟨ret_int HF.out.symm, hbl.trans (hb.mono hsz)⟩
      | false =>
        have HF := Lib.hid (show r = colJ nm (cs.drop (k + 1)) (k + 1) from by rw [heq.out, HS.out, if_neg (of_decide_eq_false HQ.out.symm)])
        go_wp2_with (go_at_call 42/-f-/; (with_reducible refine C.out.mono ?_); rintro e w1 ⟨rfl, hb⟩)
        go_roundw
        case rel => exact ⟨k + 1, hlt, by go_num, hbl.trans (hb.mono hsz), HF⟩
        case measure => simp [intOf]; omega
    · have hkl : k = cs.length := by omega
      have HF := Lib.hid (show r = -1 from by rw [heq.out, hkl, colJ_end])
      subst hkl
      go_wp2
      go_ret
      exact ⟨ret_int HF.out.symm, hbl⟩
set_option maxRecDepth 100000 in
set_option maxHeartbeats 4000000 in
theorem col_any (v : Value) (s : Sch) (nm : ByteArray) (w : World) (hv : SchV w v s) (hcl : s.cols.length ≤ 1000) :
    Calls Try.prog 18/-f-/ #[v, .string nm] w fun e w' => e = .returned (.int .i64 (colJ nm s.cols 0)) ∧ Below w.heap.size w w' := by
  obtain ⟨A, B, c, d, rfl, hC, hI, hc, hd⟩ := hv.is
  have HB0 := Lib.hid (((Below.refl w.heap.size w).alloc (Nat.le_refl _) (.cells #[.string s.nm, .slice A s.cols.length c, .slice B s.idx.length d, .int .i64 s.limit, .int .i64 s.parts, .int .i64 s.by_] 25)).alloc (by simp) (.cells #[.string nm] 9))
  have C := Lib.hid (indexfunc_any A s.cols.length c s.cols (w.heap.size + 1) nm _ (hC.keep HB0.out) rfl (by omega) (by simp))
  clear hC hI hv
  go_enter Try.func18, Try.ntmps18
  go_wp2_with (go_at_call 41/-f-/; refine C.out.mono ?_; rintro e w1 ⟨rfl, hb⟩)
  go_ret
  exact ⟨rfl, HB0.out.trans (hb.mono HB0.out.size)⟩
end Go.Proofs.Ytddejkmfffeikaa
