/- Contracts of package codec: the reader's rows. -/
import Derived.Test.YtacangeamdcgdaaRdv
import Derived.Test.YtacangeamdcgdaaVrw
namespace Go.Proofs.Ytacangeamdcgdaa
open Go.ChangeShapes Go.WideShapes Go.ChangeAt Go.RowKit
/-- What comes of m things more behind some, at a reader's state. -/
def moreR {α : Type} (f : List UInt8 → Option (α × List UInt8)) (acc : List α) (m : Nat) : Option (List UInt8) → List α × Option (List UInt8)
  | none => ([], none)
  | some l => match manyR f m l with
    | none => ([], none)
    | some x => (acc ++ x.1, some x.2)
theorem moreR_none {α : Type} (f : List UInt8 → Option (α × List UInt8)) (acc : List α) (m : Nat) : moreR f acc m none = ([], none) := rfl
theorem moreR_zero {α : Type} (f : List UInt8 → Option (α × List UInt8)) (acc : List α) (l : List UInt8) : moreR f acc 0 (some l) = (acc, some l) := by simp [moreR, manyR]
theorem moreR_succ {α : Type} (d : α) (f : List UInt8 → Option (α × List UInt8)) (acc : List α) (m : Nat) (l : List UInt8) : moreR f acc (m + 1) (some l) = moreR f (acc ++ [(stepR d f (some l)).1]) m (stepR d f (some l)).2 := by
  cases h : f l with
  | none => rw [stepR_bad _ _ _ h]; simp [moreR, manyR, h]
  | some x =>
    obtain ⟨a, r⟩ := x
    rw [stepR_ok _ _ _ _ _ h]
    simp only [moreR, manyR, h, Option.bind_some]
    cases manyR f m r with
    | none => rfl
    | some y => simp
theorem step_many {α : Type} (most : Int) (f : List UInt8 → Option (α × List UInt8)) (F : List UInt8 → Option (List α × List UInt8)) (hF : ∀ l, F l = (sizeR most l).bind fun x => manyR f x.1 x.2) (st : Option (List UInt8)) :
    stepR [] F st = moreR f [] (stepR 0 (sizeR most) st).1 (stepR 0 (sizeR most) st).2 := by
  cases st with
  | none => rfl
  | some l => cases h : sizeR most l with
    | none => rw [stepR_bad _ (sizeR most) _ h, stepR_bad _ _ _ (by rw [hF, h]; rfl)]; rfl
    | some x =>
      obtain ⟨n, r⟩ := x
      rw [stepR_ok _ (sizeR most) _ _ _ h]
      simp only [moreR]
      cases h2 : manyR f n r with
      | none => rw [stepR_bad _ _ _ (by rw [hF, h]; exact h2)]
      | some y => obtain ⟨a, b⟩ := y; rw [stepR_ok _ _ _ _ _ (by rw [hF, h]; exact h2)]; simp
theorem len_step {α : Type} (d : α) (f : List UInt8 → Option (α × List UInt8)) (hf : ∀ l x r, f l = some (x, r) → r.length < l.length) (l : List UInt8) (hs : (stepR d f (some l)).2.isSome = true) : ((stepR d f (some l)).2.getD []).length + 1 ≤ l.length := by
  cases h : f l with
  | none => rw [stepR_bad _ _ _ h] at hs; cases hs
  | some x => obtain ⟨a, r⟩ := x; rw [stepR_ok _ _ _ _ _ h]; have := hf _ _ _ h; simp; omega
theorem rd_blk {w : World} {g : Nat} {st : Option (List UInt8)} (h : Rd w g st) : ∃ v, Blk w g 121 #[v, .bool st.isNone] ∧ ∀ k n, v ≠ .int k n := by
  obtain ⟨v, hB, hbs⟩ := h
  exact ⟨v, hB, hbs.slice_ne⟩
/-- Values stay, whatever becomes of a block that holds none. -/
theorem Vals.off {w w' : World} {A : Option Addr} {vs : List Val} {g t : Nat} {cs : Array Value} (h : Vals w A vs) (hB : Blk w g t cs) (hcs : ∀ (i : Nat) (n : Int), cs[i]? ≠ some (Value.int .i64 n)) (ho : Off (· = g) w w') : Vals w' A vs := by
  rcases h with h | ⟨b, off, hA, hb, hcell⟩
  · exact .inl h
  · by_cases hv : vs = []
    · exact .inl hv
    have hne : b ≠ g := by
      rintro rfl
      have h0 := (hcell 0 (List.length_pos_iff.2 hv)).1
      rw [hB.cell] at h0
      exact hcs _ _ h0
    refine .inr ⟨b, off, hA, Nat.lt_of_lt_of_le hb ho.size, fun i hi => ?_⟩
    have hc : ∀ o, w'.cell? ⟨b, o, none⟩ = w.cell? ⟨b, o, none⟩ := fun o => World.cell?_of_block (a := ⟨b, o, none⟩) (ho.block b hb hne)
    rw [hc, hc, hc]
    exact hcell i hi
theorem rowV_off {g : Nat} {w w' : World} {base : Nat} {v : Value} {vs : List Val} (h : RowV w base v vs) (hg : g < base) (ho : Off (· = g) w w') : RowV w' base v vs :=
  ho.own h (fun k hk e => by have := (World.ownsRow.lt h k hk).1; omega)
/-- A reader stays, whatever becomes of blocks that aren't the reader's, nor bytes'. -/
theorem Rd.stay {w w' : World} {g : Nat} {st : Option (List UInt8)} (h : Rd w g st) (hg : w'.heap[g]? = w.heap[g]?) (hk : ∀ b, B8 w b → w'.heap[b]? = w.heap[b]?) : Rd w' g st := by
  obtain ⟨v, hB, A, c, hv, hc, hd⟩ := h
  refine ⟨v, hg.trans hB, A, c, hv, hc, ?_⟩
  rcases hd with h | ⟨b, off, hA, hb, hcell⟩
  · exact .inl h
  · exact .inr ⟨b, off, hA, hb.to (hk b hb), fun i hi => (World.cell?_of_block (a := ⟨b, off + i, none⟩) (hk b hb)).trans (hcell i hi)⟩
/-- A row of another type may grow. -/
theorem Rd.grown {w w' : World} {g base e size n : Nat} {st : Option (List UInt8)} {v : Value} {xs : List Value} (h : Rd w g st) (hr : w.ownsRow base e size v n xs) (hgb : g < base) (he : e ≠ 5) (hg : w.grownBy w' v.ownBlock) : Rd w' g st := by
  have hlt : g < w.heap.size := by obtain ⟨v, hB, _⟩ := h; exact hB.lt
  refine h.stay (hg.block g hlt (fun e => by have := (World.ownsRow.lt hr g e.symm).1; omega)) (fun b hb => hg.block b hb.lt (fun e => ?_))
  rcases hr.2 with ⟨rfl, _⟩ | ⟨g', cap, cur, rfl, _, hh, _⟩
  · cases e
  · obtain rfl : b = g' := by simpa [Value.ownBlock] using e
    obtain ⟨cs, fr, hb⟩ := hb
    rw [hb] at hh
    simp at hh
    exact he hh.2.1.symm
set_option maxRecDepth 100000 in
set_option maxHeartbeats 8000000 in
theorem rrow_any (g : Nat) (most : Int) (st : Option (List UInt8)) (w : World) (h : Rd w g st) (hm : -9223372036854775808 ≤ most ∧ most ≤ 9223372036854775807) (hl : (st.getD []).length ≤ 100000000) :
    Calls Try.prog 76/-f-/ #[.pointer (some ⟨g, 0, none⟩), .int .i64 most] w fun e w' => (∃ u, e = .returned u ∧ RowV w' w.heap.size u (stepR [] (rowR most) st).1) ∧ Rd w' g (stepR [] (rowR most) st).2 ∧ Off (· = g) w w' := by
  obtain ⟨i0, hi, hz0, hz1, hz2⟩ := info_parts info35
  have hgl : g < w.heap.size := by obtain ⟨v, hB, _⟩ := h; exact hB.lt
  have S := Lib.hid (rsize_any g most st w h hm (by omega))
  have HRES := Lib.hid (step_many most valR (rowR most) (fun _ => rfl) st)
  have HL1 := Lib.hid (Nat.le_trans (len_size most st) hl)
  have hmn := size_lt most st hm.2
  clear h hl
  generalize stepR [] (rowR most) st = res at *
  generalize stepR 0 (sizeR most) st = q at *
  obtain ⟨n, st1⟩ := q
  simp only at S HRES HL1 hmn
  go_enter Try.func76, Try.ntmps76
  go_wp2_with (go_at_call 55/-f-/; refine S.out.mono ?_; rintro e w1 ⟨rfl, hr1, ho1⟩)
  have HR1 := Lib.hid hr1
  have HO1 := Lib.hid ho1
  clear hr1 ho1 S
  go_loopw [5, 6] (fun lv nv wr => ∃ (acc : List Val) (m : Nat) (s : Option (List UInt8)), nv = .int .i64 m ∧ m ≤ 9223372036854775807 ∧ RowV wr w.heap.size lv acc ∧ Rd wr g s ∧ Off (· = g) w wr ∧ (s.isSome = true → acc.length + (s.getD []).length ≤ 100000000) ∧ acc.length ≤ 100000001 ∧ Hid (res = moreR valR acc m s)) (fun _ nv _ => (intOf nv).toNat)
  case atStart => exact ⟨[], n, st1, rfl, hmn, World.ownsRow_nil _ _ _ _, HR1.out, HO1.out, fun _ => by simpa using HL1.out, by simp, HRES⟩
  case round =>
    obtain ⟨acc, m, s, rfl, hmm, hrow, hrd, ho, hb1, hb2, heq⟩ := hrel
    have HROW := Lib.hid hrow
    have HRD := Lib.hid hrd
    have HO := Lib.hid ho
    have hbs : w.heap.size ≤ wr.heap.size := ho.size
    clear hrow hrd ho
    cases s with
    | none =>
      have HRS := Lib.hid (show res = ([], none) from by rw [heq.out]; rfl)
      by_cases h0 : m = 0
      · subst h0
        go_wp2_with (go_at_call 56/-f-/; refine (rgood_any g none _ HRD.out).mono ?_; rintro e w5 ⟨rfl, rfl⟩)
        go_ret
        rw [HRS.out]
        exact ⟨⟨_, rfl, World.ownsRow_nil _ _ _ _⟩, HRD.out, HO.out⟩
      · have hpos : 0 < m := by omega
        clear h0
        go_wp2_with (go_at_call 56/-f-/; refine (rgood_any g none _ HRD.out).mono ?_; rintro e w5 ⟨rfl, rfl⟩)
        go_ret
        rw [HRS.out]
        exact ⟨⟨_, rfl, World.ownsRow_nil _ _ _ _⟩, HRD.out, HO.out⟩
    | some l =>
      by_cases h0 : m = 0
      · subst h0
        have HRS := Lib.hid (show res = (acc, some l) from by rw [heq.out, moreR_zero])
        obtain ⟨A, c, rfl⟩ := own_slice HROW.out
        go_wp2_with (go_at_call 56/-f-/; refine (rgood_any g (some l) _ HRD.out).mono ?_; rintro e w5 ⟨rfl, rfl⟩)
        go_ret
        rw [HRS.out]
        exact ⟨⟨_, rfl, HROW.out⟩, HRD.out, HO.out⟩
      · obtain ⟨m', rfl⟩ : ∃ m', m = m' + 1 := ⟨m - 1, by omega⟩
        have HEQ := Lib.hid (heq.out.trans (moreR_succ zeroV valR acc m' l))
        have hsum := hb1 rfl
        simp only [Option.getD_some] at hsum
        have HLS := Lib.hid (len_step zeroV valR (fun l x r h => val_short l r x h) l)
        have V := Lib.hid (rvalue_any g (some l) wr HRD.out (by simp only [Option.getD_some]; omega))
        have hpos : 0 < m' + 1 := by omega
        clear h0 heq hb1
        generalize stepR zeroV valR (some l) = q at *
        obtain ⟨x, s'⟩ := q
        simp only at V HEQ HLS
        go_wp2_with (first
          | (go_at_call 56/-f-/; refine (rgood_any g (some l) _ HRD.out).mono ?_; rintro e w5 ⟨rfl, rfl⟩)
          | (go_at_call 95/-f-/; refine V.out.mono ?_; rintro e w2 ⟨rfl, hr2, ho2⟩; have HR2 := Lib.hid hr2; have HROW2 := Lib.hid (rowV_off HROW.out hgl ho2); have HO2 := Lib.hid (off_trans HO.out ho2); have hbs2 : w.heap.size ≤ w2.heap.size := HO2.out.size; clear hr2 ho2)
          | (at_builtin; refine wpList_append_src _ rfl _ _ 76 rfl w.heap.size 93 i0 (.agg #[.int .i64 0, .int .i64 0, .string ⟨#[]⟩]) 3 32 Try.underlying76/-t-/ hi hz0 hz1 hz2 rfl (by decide) u5 acc.length _ rfl (World.ownsRow.alloc HROW2.out _) (some ⟨w2.heap.size, 0, none⟩) 1 1 [.int .i64 x.k, .int .i64 x.n, .string x.s] rfl (Src.val w2 x) (by unfold maxLen; omega) (by omega) (by simp; omega) ?_; intro v3 w3 hown3 hgr3 hnew3; have HO3 := Lib.hid hown3; have HG3 := Lib.hid hgr3; clear hown3 hgr3 hnew3))
        go_roundw
        case rel =>
          refine ⟨acc ++ [x], m', s', by go_num, by omega, ?_, ?_, ?_, ?_, by simp; omega, HEQ⟩
          · have h3 := HO3.out
            unfold RowV
            rw [vcells_append, List.length_append]
            exact h3
          · exact (HR2.out.more ((Below.refl _ _).alloc (Nat.le_refl _) _)).grown (HROW2.out.alloc _) hgl (by decide) HG3.out
          · exact ((HO2.out.alloc _).grown HG3.out (fun k hk hlt => by have := (World.ownsRow.lt HROW2.out k hk).1; omega))
          · intro hs
            have := HLS.out hs
            simp only [List.length_append, List.length_singleton]; omega
        case measure => simp [intOf]
theorem own_mono {w : World} {base base' e size n : Nat} {v : Value} {xs : List Value} (h : w.ownsRow base' e size v n xs) (hb : base ≤ base') : w.ownsRow base e size v n xs := by
  refine ⟨h.1, ?_⟩
  rcases h.2 with h | ⟨g, cap, cur, hv, hg, rest⟩
  · exact .inl h
  · exact .inr ⟨g, cap, cur, hv, Nat.le_trans hb hg, rest⟩
/-- A row stays where one of another type grows. -/
theorem own_other {w w' : World} {base base' e e' size size' n n' : Nat} {v v' : Value} {xs xs' : List Value} (h : w.ownsRow base e size v n xs) (h' : w.ownsRow base' e' size' v' n' xs') (he : e ≠ e') (hg : w.grownBy w' v'.ownBlock) : w'.ownsRow base e size v n xs := by
  refine ⟨h.1, ?_⟩
  rcases h.2 with h1 | ⟨g, cap, cur, rfl, hb, hh, rest⟩
  · exact .inl h1
  · refine .inr ⟨g, cap, cur, rfl, hb, (hg.block g (Blk.lt hh) (fun e2 => ?_)).trans hh, rest⟩
    rcases h'.2 with ⟨rfl, _⟩ | ⟨g', cap', cur', rfl, _, hh', _⟩
    · cases e2
    · obtain rfl : g = g' := by simpa [Value.ownBlock] using e2
      rw [hh] at hh'
      simp at hh'
      exact he hh'.2
/-- A slice of the call's own that holds just these rows. -/
def RowR (w : World) (base : Nat) (v : Value) (rs : List (List Val)) : Prop :=
  ∃ cs : List Value, w.ownsRow base 76 1 v rs.length cs ∧ (∀ u ∈ cs, u.oneCell' = true) ∧ ∀ i, i < rs.length → ∃ u, cs[i]? = some u ∧ RowV w base u (rs.getD i [])
theorem RowR.off {g : Nat} {w w' : World} {base : Nat} {v : Value} {rs : List (List Val)} (h : RowR w base v rs) (hg : g < base) (ho : Off (· = g) w w') : RowR w' base v rs := by
  obtain ⟨cs, h1, h0, h2⟩ := h
  refine ⟨cs, ho.own h1 (fun k hk e => by have := (World.ownsRow.lt h1 k hk).1; omega), h0, fun i hi => ?_⟩
  obtain ⟨u, hu, hr⟩ := h2 i hi
  exact ⟨u, hu, rowV_off hr hg ho⟩
theorem info25 : (Try.prog.info? 76).map (fun i => (i.zero, i.size, i.bytes)) = some (some (.slice none 0 0), 1, 24) := by kernel_rfl
/-- One row more. -/
theorem RowR.snoc {w w1 w2 : World} {base : Nat} {v u v' : Value} {rs : List (List Val)} {r : List Val} (h : RowR w base v rs) (hu : RowV w base u r) {cs : List Value} (hcs : w.ownsRow base 76 1 v rs.length cs) (ho : w2.ownsRow base 76 1 v' (rs.length + 1) (cs ++ [u])) (hw : w1 = w.alloc (.cells #[u] 76)) (hg : w1.grownBy w2 v.ownBlock)
    (h0 : ∀ u ∈ cs, u.oneCell' = true) (h2 : ∀ i, i < rs.length → ∃ u, cs[i]? = some u ∧ RowV w base u (rs.getD i [])) : RowR w2 base v' (rs ++ [r]) := by
  subst hw
  have hcl : cs.length = rs.length := by simpa using hcs.1
  have keep : ∀ {u r}, RowV w base u r → RowV w2 base u r := fun {u r} hr => own_other (World.ownsRow.alloc hr _) (World.ownsRow.alloc hcs _) (by decide) hg
  refine ⟨cs ++ [u], by rw [List.length_append]; exact ho, fun x hx => ?_, fun i hi => ?_⟩
  · rcases List.mem_append.1 hx with hx | hx
    · exact h0 x hx
    · obtain rfl : x = u := by simpa using hx
      obtain ⟨A, c, rfl⟩ := own_slice hu
      rfl
  · rw [List.length_append, List.length_singleton] at hi
    by_cases hlt : i < rs.length
    · obtain ⟨u', hu', hr'⟩ := h2 i hlt
      refine ⟨u', by rw [List.getElem?_append_left (by omega)]; exact hu', ?_⟩
      rw [show (rs ++ [r]).getD i [] = rs.getD i [] from by simp [List.getD, List.getElem?_append_left hlt]]
      exact keep hr'
    · have hi2 : i = rs.length := by omega
      subst hi2
      refine ⟨u, by rw [List.getElem?_append_right (by omega), hcl]; simp, ?_⟩
      rw [show (rs ++ [r]).getD rs.length [] = r from by simp [List.getD]]
      exact keep hu
end Go.Proofs.Ytacangeamdcgdaa
