/- Contracts of package codec: the reader. -/
import Derived.Test.YtacangeamdcgdaaWrv
namespace Go.Proofs.Ytacangeamdcgdaa
open Go.ChangeShapes Go.WideShapes Go.ChangeAt Go.RowKit
/-- Block b is one of bytes. -/
def B8 (w : World) (b : Nat) : Prop := ∃ cs fr, w.heap[b]? = some (.cells cs 5 fr)
theorem B8.lt {w : World} {b : Nat} (h : B8 w b) : b < w.heap.size := by
  obtain ⟨cs, fr, h⟩ := h
  rcases Nat.lt_or_ge b w.heap.size with hlt | hge
  · exact hlt
  · rw [Array.getElem?_eq_none hge] at h; cases h
theorem B8.to {w w' : World} {b : Nat} (h : B8 w b) (e : w'.heap[b]? = w.heap[b]?) : B8 w' b := by
  obtain ⟨cs, fr, h⟩ := h
  exact ⟨cs, fr, e.trans h⟩
theorem B8.ne {w : World} {b k t : Nat} {cs : Array Value} (h : B8 w b) (hB : Blk w k t cs) (ht : t ≠ 5) : b ≠ k := by
  rintro rfl
  obtain ⟨cs', fr, h⟩ := h
  unfold Blk at hB
  rw [hB] at h
  simp at h
  exact ht h.2.1
/-- A slice reads as these bytes. -/
def Bs (w : World) (v : Value) (l : List UInt8) : Prop :=
  ∃ A c, v = .slice A l.length c ∧ l.length ≤ c ∧ (l = [] ∨ ∃ b off, A = some ⟨b, off, none⟩ ∧ B8 w b ∧ ∀ i, i < l.length → w.cell? ⟨b, off + i, none⟩ = some (.int .u8 (l.getD i 0).toNat))
/-- A reader at block g: what is to come; none: it is bad. -/
def Rd (w : World) (g : Nat) (st : Option (List UInt8)) : Prop := ∃ v, Blk w g 121 #[v, .bool st.isNone] ∧ Bs w v (st.getD [])
/-- What a function that reads makes of a reader. -/
def stepR {α : Type} (d : α) (f : List UInt8 → Option (α × List UInt8)) : Option (List UInt8) → α × Option (List UInt8)
  | none => (d, none)
  | some l => match f l with
    | none => (d, none)
    | some x => (x.1, some x.2)
def oneR : List UInt8 → Option (UInt8 × List UInt8)
  | [] => none
  | c :: r => some (c, r)
theorem Bs.nil (w : World) : Bs w (.slice none 0 0) [] := ⟨none, 0, rfl, Nat.le_refl _, .inl rfl⟩
theorem Bs.put {w : World} {g i : Nat} {u v : Value} {l : List UInt8} (h : Bs w v l) (hn : ∀ b off n c, v = .slice (some ⟨b, off, none⟩) n c → l ≠ [] → b ≠ g) : Bs (w.setCell ⟨g, i, none⟩ u) v l := by
  obtain ⟨A, c, hv, hc, h⟩ := h
  refine ⟨A, c, hv, hc, ?_⟩
  rcases h with h | ⟨b, off, hA, hb, hcell⟩
  · exact .inl h
  · by_cases hl : l = []
    · exact .inl hl
    have hne := hn b off _ _ (by rw [hv, hA]) hl
    refine .inr ⟨b, off, hA, hb.to (Below.heap_setCell w ⟨g, i, none⟩ u b hne), fun j hj => ?_⟩
    rw [← hcell j hj]
    exact World.cell?_of_block (a := ⟨b, off + j, none⟩) (Below.heap_setCell w ⟨g, i, none⟩ u b (hn b off _ _ (by rw [hv, hA]) hl))
/-- A reader's bytes don't lie in the reader. -/
theorem Bs.far {w : World} {g t : Nat} {v u x : Value} {l : List UInt8} (h : Bs w v l) (hB : Blk w g t #[u, x]) (hu : ∀ k n, u ≠ .int k n) (hx : ∀ k n, x ≠ .int k n) : ∀ b off n c, v = .slice (some ⟨b, off, none⟩) n c → l ≠ [] → b ≠ g := by
  rintro b off n c hv hl rfl
  obtain ⟨A, c', hv', _, h⟩ := h
  rw [hv] at hv'
  have hA := (Value.slice.inj hv').1
  rcases h with h | ⟨b', off', hA', hb, hcell⟩
  · exact hl h
  · rw [← hA] at hA'
    have h2 := Option.some.inj hA'
    simp at h2
    obtain ⟨rfl, rfl⟩ := h2
    have h0 := hcell 0 (List.length_pos_iff.2 hl)
    rw [hB.cell] at h0
    have : off + 0 = 0 ∨ off + 0 = 1 ∨ 2 ≤ off + 0 := by omega
    rcases this with h | h | h
    · rw [h] at h0; simp at h0; exact hu _ _ h0
    · rw [h] at h0; simp at h0; exact hx _ _ h0
    · rw [Array.getElem?_eq_none (by simpa using h)] at h0; cases h0
theorem Bs.slice_ne {w : World} {v : Value} {l : List UInt8} (h : Bs w v l) : ∀ k n, v ≠ .int k n := by
  obtain ⟨A, c, rfl, _⟩ := h
  intro k n h; cases h
theorem rd_fail {w w' : World} {g : Nat} {st : Option (List UInt8)} (h : Rd w g st) (e : w' = (w.setCell ⟨g, 1, none⟩ (.bool true)).setCell ⟨g, 0, none⟩ (.slice none 0 0)) : Rd w' g none ∧ Off (· = g) w w' := by
  obtain ⟨v, hB, _⟩ := h
  subst e
  refine ⟨⟨.slice none 0 0, ?_, Bs.nil _⟩, ((Off.refl (fun x => x = g) w).put (p := ⟨g, 1, none⟩) (fun _ => rfl) _).put (p := ⟨g, 0, none⟩) (fun _ => rfl) _⟩
  have := (hB.put 1 (.bool true)).put 0 (.slice none 0 0)
  simpa using this
theorem rfail_any (g : Nat) (st : Option (List UInt8)) (w : World) (h : Rd w g st) :
    Calls Try.prog 58/-f-/ #[.pointer (some ⟨g, 0, none⟩)] w fun e w' => e = .returned (.tuple #[]) ∧ Rd w' g none ∧ Off (· = g) w w' := by
  have H := Lib.hid h
  obtain ⟨v, hB, _⟩ := h
  have c0 := hB.cell 0
  have c1 := hB.cell 1
  have f0 := hB.frozen 0
  have f1 := hB.frozen 1
  have hlt := hB.lt
  simp only [List.getElem?_toArray, List.getElem?_cons_zero, List.getElem?_cons_succ] at c0 c1
  clear hB
  go_enter Try.func58, Try.ntmps58
  go_wp2
  go_end0
  exact ⟨rfl, rd_fail H.out rfl⟩
theorem rfail_nil (w : World) : Calls Try.prog 58/-f-/ #[.pointer none] w fun e w' => e = .returned (.tuple #[]) ∧ w = w' := by
  go_enter Try.func58, Try.ntmps58
  go_wp2
  go_end0
  exact ⟨rfl, rfl⟩
theorem rlen_any (g : Nat) (st : Option (List UInt8)) (w : World) (h : Rd w g st) :
    Calls Try.prog 77/-f-/ #[.pointer (some ⟨g, 0, none⟩)] w fun e w' => e = .returned (.int .i64 (st.getD []).length) ∧ w = w' := by
  obtain ⟨v, hB, hbs⟩ := h
  obtain ⟨A, c, rfl, _⟩ := hbs
  have c0 := hB.cell 0
  simp only [List.getElem?_toArray, List.getElem?_cons_zero, List.getElem?_cons_succ] at c0
  have hlt := hB.lt
  clear hB
  go_enter Try.func77, Try.ntmps77
  go_wp2
  go_ret
  exact ⟨rfl, rfl⟩
theorem rlen_nil (w : World) : Calls Try.prog 77/-f-/ #[.pointer none] w fun e w' => e = .returned (.int .i64 0) ∧ w = w' := by
  go_enter Try.func77, Try.ntmps77
  go_wp2
  go_ret
  exact ⟨rfl, rfl⟩
theorem rgood_any (g : Nat) (st : Option (List UInt8)) (w : World) (h : Rd w g st) :
    Calls Try.prog 56/-f-/ #[.pointer (some ⟨g, 0, none⟩)] w fun e w' => e = .returned (.bool st.isSome) ∧ w = w' := by
  obtain ⟨v, hB, hbs⟩ := h
  have c1 := hB.cell 1
  simp only [List.getElem?_toArray, List.getElem?_cons_zero, List.getElem?_cons_succ] at c1
  have hlt := hB.lt
  clear hB
  cases st
  all_goals
    simp only [Option.isNone] at c1
    go_enter Try.func56, Try.ntmps56
    go_wp2
    go_ret
    exact ⟨rfl, rfl⟩
theorem rgood_nil (w : World) : Calls Try.prog 56/-f-/ #[.pointer none] w fun e w' => e = .returned (.bool false) ∧ w = w' := by
  go_enter Try.func56, Try.ntmps56
  go_wp2
  go_ret
  exact ⟨rfl, rfl⟩
end Go.Proofs.Ytacangeamdcgdaa
