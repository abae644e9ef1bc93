/- Plain words for whole schemas: a copy, turned; the same; a row of nothing. -/
import Derived.Test.YtddejkmfffeikaaCpc
import Derived.Test.YtddejkmfffeikaaRri
namespace Go.Proofs.Ytddejkmfffeikaa
open Go.ChangeShapes Go.WideShapes Go.ChangeAt Go.RowKit
theorem own_cap {w : World} {base e size n cap : Nat} {A : Option Addr} {xs : List Value} (h : w.ownsRow base e size (.slice A n cap) n xs) : n ≤ cap := by
  rcases h.2 with ⟨h, h0⟩ | ⟨g2, cap2, cur, h, _, _, hn, _⟩
  · cases h; omega
  · cases h; exact hn
theorem own_cols {w : World} {base c : Nat} {A : Option Addr} {cs : List Col} (h : w.ownsRow base 29 2 (.slice A cs.length c) cs.length (ccells cs)) : Cols w A cs := by
  by_cases h0 : cs = []
  · exact .inl h0
  obtain ⟨g, rfl⟩ := own_some h (List.length_pos_iff.2 h0)
  refine .inr ⟨g, 0, rfl, (World.ownsRow.lt h g rfl).2, fun i hi => ?_⟩
  obtain ⟨c1, c2⟩ := ccells_at cs i hi
  rw [Nat.zero_add]
  exact ⟨(World.ownsRow.cellAt h (i * 2) (by omega)).trans c1, (World.ownsRow.cellAt h (i * 2 + 1) (by omega)).trans c2⟩
theorem own_inds {w : World} {base d : Nat} {B : Option Addr} {is : List Ind} {xs xs0 : List Value} (h : w.ownsRow base 34 2 (.slice B is.length d) is.length (icells xs is)) (hl : xs.length = is.length)
    (ho : ∀ i, i < is.length → w.ownsRow base 3 1 (xs.getD i (.int .i64 0)) (is.getD i default).cols.length ((is.getD i default).cols.map (Value.int .i64))) : Inds w B is := by
  by_cases h0 : is = []
  · exact .inl h0
  obtain ⟨g, rfl⟩ := own_some h (List.length_pos_iff.2 h0)
  refine .inr ⟨g, 0, rfl, (World.ownsRow.lt h g rfl).2, fun i hi => ?_⟩
  obtain ⟨c1, c2⟩ := icells_at xs is hl i hi
  obtain ⟨Aj, cj, e, hI, hlen, hcap⟩ := ints_of_own (ho i hi)
  rw [e] at c1
  rw [Nat.zero_add]
  exact ⟨Aj, cj, (World.ownsRow.cellAt h (i * 2) (by omega)).trans c1, (World.ownsRow.cellAt h (i * 2 + 1) (by omega)).trans c2, hI, hcap⟩
/-- A copy's parts. -/
structure CpyP (w : World) (base : Nat) (s : Sch) (A B : Option Addr) (c d : Nat) (xs : List Value) : Prop where
  cols : w.ownsRow base 29 2 (.slice A s.cols.length c) s.cols.length (ccells s.cols)
  idx : w.ownsRow base 34 2 (.slice B s.idx.length d) s.idx.length (icells xs s.idx)
  mid : Mid w base xs xs s.idx s.idx.length
theorem CpyV.parts {w : World} {base : Nat} {v : Value} {s : Sch} (h : CpyV w base v s) : ∃ A B c d xs, v = .agg #[.string s.nm, .slice A s.cols.length c, .slice B s.idx.length d, .int .i64 s.limit, .int .i64 s.parts, .int .i64 s.by_] ∧ CpyP w base s A B c d xs := by
  obtain ⟨A, B, c, d, xs, h1, h2, h3, h4⟩ := h.is
  exact ⟨A, B, c, d, xs, h1, h2, h3, h4⟩
theorem CpyP.still {w w' : World} {base : Nat} {s : Sch} {A B : Option Addr} {c d : Nat} {xs : List Value} (h : CpyP w base s A B c d xs) (hb : Below w.heap.size w w') : CpyP w' base s A B c d xs :=
  ⟨own_still h.cols hb, own_still h.idx hb, h.mid.still hb⟩
theorem CpyP.sch {w : World} {base : Nat} {s : Sch} {A B : Option Addr} {c d : Nat} {xs : List Value} (h : CpyP w base s A B c d xs) : SchV w (.agg #[.string s.nm, .slice A s.cols.length c, .slice B s.idx.length d, .int .i64 s.limit, .int .i64 s.parts, .int .i64 s.by_]) s :=
  ⟨A, B, c, d, rfl, own_cols h.cols, own_inds (xs0 := xs) h.idx h.mid.len (fun i hi => h.mid.own i hi hi), own_cap h.cols, own_cap h.idx⟩
/-- A schema with its first kind and its first place turned. -/
def bump (s : Sch) (k p : Int) : Sch := { s with cols := s.cols.set 0 ⟨(s.cols.getD 0 default).nm, k⟩, idx := s.idx.set 0 ⟨(s.idx.getD 0 default).cols.set 0 p, (s.idx.getD 0 default).uq⟩ }
theorem ccells_set (cs : List Col) (k : Int) (h : 0 < cs.length) : (ccells cs).set 1 (.int .i64 k) = ccells (cs.set 0 ⟨(cs.getD 0 default).nm, k⟩) := by
  cases cs with
  | nil => simp at h
  | cons x r => rfl
theorem icells_bump (xs : List Value) (is : List Ind) (l : List Int) (h : 0 < is.length) (hl : xs.length = is.length) : icells xs is = icells xs (is.set 0 ⟨l, (is.getD 0 default).uq⟩) := by
  cases is with
  | nil => simp at h
  | cons y r => cases xs with
    | nil => simp at hl
    | cons x t => rfl
theorem map_set0 (l : List Int) (p : Int) : (l.map (Value.int .i64)).set 0 (.int .i64 p) = (l.set 0 p).map (Value.int .i64) := by
  cases l <;> rfl
theorem getD_set0 (is : List Ind) (y : Ind) (i : Nat) (hi : i ≠ 0) : (is.set 0 y).getD i default = is.getD i default := by simp [List.getD, List.getElem?_set_ne (Ne.symm hi)]
theorem getD_set00 (is : List Ind) (y : Ind) (h : 0 < is.length) : (is.set 0 y).getD 0 default = y := by simp [List.getD, h]
theorem cpy_bump {w : World} {base gc gi g0 c d l0 c0 : Nat} {s : Sch} {xs : List Value} (k p : Int) (h : CpyP w base s (some ⟨gc, 0, none⟩) (some ⟨gi, 0, none⟩) c d xs) (hc : 0 < s.cols.length) (hi : 0 < s.idx.length)
    (h0 : xs.getD 0 (.int .i64 0) = .slice (some ⟨g0, 0, none⟩) l0 c0) :
    SchV ((w.setCell ⟨gc, 1, none⟩ (.int .i64 k)).setCell ⟨g0, 0, none⟩ (.int .i64 p)) (.agg #[.string s.nm, .slice (some ⟨gc, 0, none⟩) s.cols.length c, .slice (some ⟨gi, 0, none⟩) s.idx.length d, .int .i64 s.limit, .int .i64 s.parts, .int .i64 s.by_]) (bump s k p) := by
  have hl := h.mid.len
  have hz := h.mid.own 0 hi hi
  rw [h0] at hz
  have hl0 : l0 = (s.idx.getD 0 default).cols.length := by
    rcases hz.2 with ⟨h, _⟩ | ⟨_, _, _, h, _⟩ <;> cases h
    rfl
  subst hl0
  obtain ⟨cur, hgc⟩ := own_heap h.cols
  have s1 := (h.cols.stored 1 (.int .i64 k)).1
  rw [ccells_set _ _ hc] at s1
  have i1 := own_far (i := 1) (u := .int .i64 k) h.idx hgc (by decide)
  have m1 := fun i hi => own_far (i := 1) (u := .int .i64 k) (h.mid.own i hi hi) hgc (by decide)
  have z1 := own_far (i := 1) (u := .int .i64 k) hz hgc (by decide)
  obtain ⟨cur0, hg0⟩ := own_heap z1
  have z2 := (z1.stored 0 (.int .i64 p)).1
  rw [map_set0] at z2
  have s2 := own_far (i := 0) (u := .int .i64 p) s1 hg0 (by decide)
  have i2 := own_far (i := 0) (u := .int .i64 p) i1 hg0 (by decide)
  have hcl : (bump s k p).cols.length = s.cols.length := by simp [bump]
  have hil : (bump s k p).idx.length = s.idx.length := by simp [bump]
  refine ⟨some ⟨gc, 0, none⟩, some ⟨gi, 0, none⟩, c, d, by rw [hcl, hil]; rfl, own_cols (by rw [hcl]; exact s2), own_inds (base := base) (d := d) (xs := xs) (xs0 := xs) ?_ (hl.trans hil.symm) (fun i hi2 => ?_), by rw [hcl]; exact own_cap h.cols, by rw [hil]; exact own_cap h.idx⟩
  · rw [hil, show icells xs (bump s k p).idx = icells xs s.idx from (icells_bump xs s.idx _ hi hl).symm]; exact i2
  · rw [hil] at hi2
    by_cases e : i = 0
    · subst e
      rw [show (bump s k p).idx.getD 0 default = ⟨(s.idx.getD 0 default).cols.set 0 p, (s.idx.getD 0 default).uq⟩ from getD_set00 _ _ hi, h0]
      simp only [List.length_set]
      exact z2
    · rw [show (bump s k p).idx.getD i default = s.idx.getD i default from getD_set0 _ _ _ e]
      refine Off.own ((Off.refl (fun k => k = g0) _).put (p := ⟨g0, 0, none⟩) (fun _ => rfl) _) (m1 i hi2) (fun k hk e2 => ?_)
      subst e2
      exact h.mid.apart 0 i k (by omega) hi2 hi2 (by rw [h0]; rfl) hk
/-- Where a copy's first things lie. -/
theorem CpyP.heads {w : World} {base : Nat} {s : Sch} {A B : Option Addr} {c d : Nat} {xs : List Value} (h : CpyP w base s A B c d xs) (h1 : 0 < s.cols.length) (h2 : 0 < s.idx.length) (h3 : 0 < (s.idx.getD 0 default).cols.length) :
    ∃ gc gi g0 c0, A = some ⟨gc, 0, none⟩ ∧ B = some ⟨gi, 0, none⟩ ∧ xs.getD 0 (.int .i64 0) = .slice (some ⟨g0, 0, none⟩) (s.idx.getD 0 default).cols.length c0 ∧
      w.cell? ⟨gc, 1, none⟩ = some (.int .i64 (s.cols.getD 0 default).kd) ∧ w.frozen? ⟨gc, 1, none⟩ = false ∧ w.cell? ⟨gi, 0, none⟩ = some (.slice (some ⟨g0, 0, none⟩) (s.idx.getD 0 default).cols.length c0) ∧
      w.cell? ⟨g0, 0, none⟩ = some (.int .i64 ((s.idx.getD 0 default).cols.getD 0 0)) ∧ w.frozen? ⟨g0, 0, none⟩ = false ∧ (gc ≠ gi ∧ gc ≠ g0 ∧ gi ≠ g0) ∧ (base ≤ gc ∧ base ≤ gi ∧ base ≤ g0) ∧ gc < w.heap.size ∧ gi < w.heap.size ∧ g0 < w.heap.size := by
  obtain ⟨gc, rfl⟩ := own_some h.cols h1
  obtain ⟨gi, rfl⟩ := own_some h.idx h2
  have hz := h.mid.own 0 h2 h2
  obtain ⟨A0, c0, e0⟩ := own_slice hz
  rw [e0] at hz
  obtain ⟨g0, rfl⟩ := own_some hz h3
  obtain ⟨cur1, b1⟩ := own_heap h.cols
  obtain ⟨cur2, b2⟩ := own_heap h.idx
  obtain ⟨cur3, b3⟩ := own_heap hz
  have i0 := (icells_at xs s.idx h.mid.len 0 h2).1
  rw [e0] at i0
  refine ⟨gc, gi, g0, c0, rfl, rfl, e0, (World.ownsRow.cellAt h.cols 1 (by omega)).trans (ccells_at s.cols 0 h1).2, World.ownsRow.frozenAt h.cols 1, (World.ownsRow.cellAt h.idx 0 (by omega)).trans i0, (World.ownsRow.cellAt hz 0 (by omega)).trans ?_, World.ownsRow.frozenAt hz 0, ⟨?_, ?_, ?_⟩, ⟨(World.ownsRow.lt h.cols gc rfl).1, (World.ownsRow.lt h.idx gi rfl).1, (World.ownsRow.lt hz g0 rfl).1⟩, (World.ownsRow.lt h.cols gc rfl).2, (World.ownsRow.lt h.idx gi rfl).2, (World.ownsRow.lt hz g0 rfl).2⟩
  · generalize (s.idx.getD 0 default).cols = l at *
    cases l with
    | nil => simp at h3
    | cons x r => rfl
  · rintro rfl; rw [b1] at b2; simp at b2
  · rintro rfl; rw [b1] at b3; simp at b3
  · rintro rfl; rw [b2] at b3; simp at b3
theorem txts_one (W : World) (a : ByteArray) : Txts (W.alloc (.cells #[.string a] 9)) (some ⟨W.heap.size, 0, none⟩) [a] :=
  .inr ⟨W.heap.size, 0, rfl, by simp, fun i hi => by
    obtain rfl : i = 0 := by simp at hi; omega
    exact (Blk.new W 9 #[.string a]).cell 0⟩
theorem txts_two (W : World) (a b : ByteArray) : Txts (W.alloc (.cells #[.string a, .string b] 9)) (some ⟨W.heap.size, 0, none⟩) [a, b] :=
  .inr ⟨W.heap.size, 0, rfl, by simp, fun i hi => by
    have : i = 0 ∨ i = 1 := by simp at hi; omega
    rcases this with rfl | rfl
    · exact (Blk.new W 9 #[.string a, .string b]).cell 0
    · exact (Blk.new W 9 #[.string a, .string b]).cell 1⟩
theorem two_size {a b : ByteArray} {m : Nat} (ha : a.size ≤ m) (hb : b.size ≤ m) : ∀ s ∈ [a, b], s.size ≤ m := by
  intro s hs
  rcases List.mem_cons.1 hs with rfl | hs
  · exact ha
  · rw [List.mem_singleton.1 hs]; exact hb
theorem bump_fit {s : Sch} (h : FitS s) (k p : Int) (hc : 0 < s.cols.length) (hi : 0 < s.idx.length) (hk : -9223372036854775808 ≤ k ∧ k ≤ 9223372036854775807) (hp : -9223372036854775808 ≤ p ∧ p ≤ 9223372036854775807) : FitS (bump s k p) := by
  refine ⟨h.nm, by simpa [bump] using h.clen, by simpa [bump] using h.ilen, fun x hx => ?_, fun x hx => ?_, h.limit, h.parts, h.by_⟩
  · rcases List.mem_or_eq_of_mem_set hx with hx | rfl
    · exact h.cols x hx
    · exact ⟨(h.cols _ (getD_in s.cols 0 hc)).nm, hk⟩
  · rcases List.mem_or_eq_of_mem_set hx with hx | rfl
    · exact h.idx x hx
    · have hf := h.idx _ (getD_in s.idx 0 hi)
      refine ⟨by simpa using hf.len, fun y hy => ?_⟩
      rcases List.mem_or_eq_of_mem_set hy with hy | rfl
      · exact hf.cols y hy
      · exact hp
theorem bump_other (s : Sch) (k p : Int) (hc : 0 < s.cols.length) (hk : k ≠ (s.cols.getD 0 default).kd) : sameS (bump s k p) s = false := by
  have : decide ((bump s k p).cols = s.cols) = false := decide_eq_false fun h => hk (by
    have h2 := congrArg (fun l : List Col => (l.getD 0 default).kd) h
    simp [bump, List.getD, hc] at h2
    rw [h2]; simp [List.getD, hc])
  unfold sameS
  rw [this]; simp
theorem sameS_self (s : Sch) : sameS s s = true := by
  simp [sameS, sameL, sameN, sameI]
theorem zero_fits (s : Sch) (h : schB s = true) : fitsB s.cols (s.cols.map zeroV) = true := by
  have hc : ∀ c ∈ s.cols, 1 ≤ c.kd ∧ c.kd ≤ 3 := by
    unfold schB colsB at h
    simp only [Bool.and_eq_true, List.all_eq_true, decide_eq_true_eq] at h
    intro c hc
    have := h.1.1.1.1.1.1.1.2.1.2 c hc
    unfold colB at this
    simp only [Bool.and_eq_true, decide_eq_true_eq] at this
    exact ⟨this.1.2, this.2⟩
  unfold fitsB rall kindsB
  simp only [Bool.and_eq_true, decide_eq_true_eq, List.length_map, List.all_eq_true, List.mem_map, List.mem_range, true_and]
  refine ⟨?_, fun i hi => ?_⟩
  · rintro x ⟨c, hcm, rfl⟩
    obtain ⟨h1, h2⟩ := hc c hcm
    unfold zeroV
    rw [if_pos ⟨h1, h2⟩]
    simp only
    have : c.kd = 1 ∨ c.kd = 2 ∨ c.kd = 3 := by omega
    rcases this with e | e | e <;> (rw [e]; decide)
  · obtain ⟨h1, h2⟩ := hc _ (getD_in s.cols i hi)
    have : (s.cols.map zeroV).getD i default = zeroV (s.cols.getD i default) := by simp [List.getD, hi]
    rw [this]
    unfold zeroV
    rw [if_pos ⟨h1, h2⟩]
    exact beq_self_eq_true _
theorem zero_fit (s : Sch) (h : FitS s) : ∀ x ∈ s.cols.map zeroV, FitV x := by
  rintro x hx
  obtain ⟨c, hc, rfl⟩ := List.mem_map.1 hx
  unfold zeroV
  refine ⟨?_, by simp, by show (ByteArray.mk #[]).size ≤ 9223372036854775807; decide⟩
  split <;> simp only <;> omega
end Go.Proofs.Ytddejkmfffeikaa
