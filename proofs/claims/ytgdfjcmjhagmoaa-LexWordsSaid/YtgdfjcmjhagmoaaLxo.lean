/- Contracts of package lex: a cursor is made. -/
import Derived.Test.YtgdfjcmjhagmoaaLxn
import Derived.WalkSpells
import Derived.Lib.SliceRun
import Derived.Laws.OwnMore
import Derived.Deep.Onto
import Derived.Deep.AppendLies
namespace Go.Proofs.Ytgdfjcmjhagmoaa
open Go.ChangeShapes Go.WideShapes Go.ChangeAt Go.RowKit
/-- A slice reads as these cells. -/
def Flat (w : World) (A : Option Addr) (xs : List Value) : Prop :=
  xs = [] ∨ ∃ b off, A = some ⟨b, off, none⟩ ∧ b < w.heap.size ∧ ∀ (j : Nat) u, xs[j]? = some u → w.cell? ⟨b, off + j, none⟩ = some u
theorem Flat.keep {w w' : World} {A : Option Addr} {xs : List Value} (h : Flat w A xs) (hb : Below w.heap.size w w') : Flat w' A xs := by
  rcases h with h | ⟨b, off, h1, h2, h3⟩
  · exact .inl h
  · exact .inr ⟨b, off, h1, Nat.lt_of_lt_of_le h2 hb.size, fun j u hu => (hb.cell (p := ⟨b, off + j, none⟩) h2).trans (h3 j u hu)⟩
theorem Flat.src {w : World} {A : Option Addr} {xs : List Value} (h : Flat w A xs) (n size : Nat) (hl : xs.length = n * size) (hA : A = none → n = 0) (h1 : ∀ u ∈ xs, u.oneCell' = true) : Src w A n size xs := by
  refine ⟨hl, hA, fun ad hA2 j u hu => ?_, h1⟩
  rcases h with h | ⟨b, off, h2, h3, h4⟩
  · subst h; simp at hu
  · rw [h2] at hA2
    obtain rfl := Option.some.inj hA2
    rw [addr_add]; exact h4 j u hu
theorem infoClW : (Try.prog.info? 35).map (fun i => (i.zero, i.size, i.bytes)) = some (some (.agg #[.int .i64 0, .string ⟨#[]⟩, .int .i64 0, .int .i64 0]), 4, 40) := by kernel_rfl
set_option maxRecDepth 100000 in
set_option maxHeartbeats 2000000 in
theorem cloneW_some (ad : Addr) (n c : Nat) (xs : List Value) (w : World) (hF : Flat w (some ad) xs) (hl : xs.length = n * 4) (hn : n ≤ 1000000) (h1 : ∀ u ∈ xs, u.oneCell' = true) :
    Calls Try.prog 26/-f-/ #[.slice (some ad) n c] w fun e w' => (∃ u, e = .returned u ∧ w'.ownsRow w.heap.size 35 4 u n xs) ∧ Below w.heap.size w w' := by
  obtain ⟨i0, hi, hz0, hz1, hz2⟩ := info_parts infoClW
  have q22 : ∀ (w : World) (a : Option Addr) (n c n' c' : Nat), (binOp .eql 22 (.slice a n c) (.slice none n' c')).run Try.prog w = .ok (.bool a.isNone) w := fun w a n c n' c' => Lib.run_eql_slice_nil w _ _ a n c n' c' Try.underlying22/-t-/
  have HF := Lib.hid (Flat.src (hF.keep ((Below.refl w.heap.size w).alloc (Nat.le_refl _) (.cells #[] 35))) n 4 hl (by intro h; cases h) h1)
  clear hF h1
  go_enter Try.func26, Try.ntmps26
  go_wp2_with (at_builtin; refine wpList_append_src _ rfl _ _ 22 rfl w.heap.size 35 i0 (.agg #[.int .i64 0, .string ⟨#[]⟩, .int .i64 0, .int .i64 0]) 4 40 Try.underlying22/-t-/ hi hz0 hz1 hz2 rfl (by decide) (.slice (some ⟨w.heap.size, 0, none⟩) 0 0) 0 _ rfl (World.ownsRow_made w #[] 0 (Nat.le_refl _) (Nat.zero_le _) (by simp)) _ n c xs rfl HF.out (by unfold maxLen; omega) (by omega) (by simp) ?_; intro v3 w3 hown3 hgr3 hnew3; have HO3 := Lib.hid hown3; have HG3 := Lib.hid hgr3; clear hown3 hgr3 hnew3)
  go_ret
  refine ⟨⟨_, rfl, by simpa using HO3.out⟩, ?_⟩
  exact ((Below.refl _ w).alloc (Nat.le_refl _) _).grown HG3.out (by simp) (by intro k hk; simp [Value.ownBlock] at hk; omega)
set_option maxHeartbeats 1000000 in
theorem cloneW_none (n c : Nat) (w : World) :
    Calls Try.prog 26/-f-/ #[.slice none n c] w fun e w' => e = .returned (.slice none 0 0) ∧ w = w' := by
  have q22 : ∀ (w : World) (a : Option Addr) (n c n' c' : Nat), (binOp .eql 22 (.slice a n c) (.slice none n' c')).run Try.prog w = .ok (.bool a.isNone) w := fun w a n c n' c' => Lib.run_eql_slice_nil w _ _ a n c n' c' Try.underlying22/-t-/
  go_enter Try.func26, Try.ntmps26
  go_wp2
  go_ret
  exact ⟨rfl, rfl⟩
theorem cloneW_any (A : Option Addr) (n c : Nat) (xs : List Value) (w : World) (hF : Flat w A xs) (hl : xs.length = n * 4) (hn : n ≤ 1000000) (h1 : ∀ u ∈ xs, u.oneCell' = true) (hA : A = none → n = 0) :
    Calls Try.prog 26/-f-/ #[.slice A n c] w fun e w' => (∃ u, e = .returned u ∧ w'.ownsRow w.heap.size 35 4 u n xs) ∧ Below w.heap.size w w' := by
  cases A with
  | some ad => exact cloneW_some ad n c xs w hF hl hn h1
  | none =>
    obtain rfl := hA rfl
    refine (cloneW_none 0 c w).mono ?_
    rintro e w1 ⟨rfl, rfl⟩
    have : xs = [] := List.eq_nil_of_length_eq_zero (by simpa using hl)
    subst this
    exact ⟨⟨_, rfl, World.ownsRow_nil _ _ _ _⟩, Below.refl _ _⟩
set_option maxRecDepth 100000 in
set_option maxHeartbeats 2000000 in
/-- A cursor at the first word, in memory of its own. -/
theorem on_any (A : Option Addr) (n c : Nat) (z : Int) (xs : List Value) (w : World) (hF : Flat w A xs) (hl : xs.length = n * 4) (hn : n ≤ 1000000) (h1 : ∀ u ∈ xs, u.oneCell' = true) (hA : A = none → n = 0) :
    Calls Try.prog 13/-f-/ #[.slice A n c, .int .i64 z] w fun e w' => (∃ (g : Nat) (B : Option Addr) (d : Nat), e = .returned (.pointer (some ⟨g, 0, none⟩)) ∧ w.heap.size ≤ g ∧ Blk w' g 63 #[.int .i64 0, .int .i64 z, .slice B n d] ∧ w'.ownsRow w.heap.size 35 4 (.slice B n d) n xs) ∧ Below w.heap.size w w' := by
  have C := Lib.hid (cloneW_any A n c xs w hF hl hn h1 hA)
  clear hF h1
  go_enter Try.func13, Try.ntmps13
  go_wp2_with (go_at_call 26/-f-/; (with_reducible refine C.out.mono ?_); rintro e w2 ⟨⟨u, rfl, hu⟩, hb2⟩; obtain ⟨B, d, rfl⟩ := own_slice hu; have HU := Lib.hid hu; have HB := Lib.hid hb2; clear hu hb2)
  go_ret
  exact ⟨⟨_, B, d, rfl, HB.out.size, Blk.new _ _ _, World.ownsRow.alloc HU.out _⟩, HB.out.alloc HB.out.size _⟩
theorem wcells_oneCell (l : List Wd) : ∀ u ∈ wcells l, u.oneCell' = true := by
  intro u hu
  obtain ⟨x, _, hx⟩ := List.mem_flatMap.1 hu
  simp [wcs] at hx
  rcases hx with rfl | rfl | rfl | rfl <;> rfl
end Go.Proofs.Ytgdfjcmjhagmoaa
