/- What is taken next: a reader answers what the document says. -/
import Derived.Test.YtelfppjgdhelbaaRnl
import Derived.Deep.RegionHeld3
namespace Go.Proofs.Ytelfppjgdhelbaa
open Go.ChangeShapes Go.WideShapes Go.ChangeAt Go.RowKit
theorem len_of {α : Type} (d : α) (f : List UInt8 → Option (α × List UInt8)) (hf : ∀ l x r, f l = some (x, r) → r.length ≤ l.length) (st : Option (List UInt8)) : ((stepR d f st).2.getD []).length ≤ (st.getD []).length := by
  cases st with
  | none => exact Nat.le_refl _
  | some l => cases h : f l with
    | none => rw [stepR_bad _ _ _ h]; simp
    | some x => obtain ⟨a, b⟩ := x; rw [stepR_ok _ _ _ _ _ h]; have := hf _ _ _ h; simpa using this
theorem signed_short (l : List UInt8) (x : Int) (r : List UInt8) (h : signedR l = some (x, r)) : r.length ≤ l.length := by
  unfold signedR at h
  cases h2 : natR l with
  | none => rw [h2] at h; cases h
  | some y => obtain ⟨n, t⟩ := y; rw [h2] at h; simp at h; have := nat_short _ _ _ h2; rw [← h.2]; omega
theorem rows_short (most cols : Int) (l : List UInt8) (x : List (List Val)) (r : List UInt8) (h : rowsR most cols l = some (x, r)) : r.length ≤ l.length := by
  unfold rowsR at h
  cases h2 : sizeR most l with
  | none => rw [h2] at h; cases h
  | some y =>
    obtain ⟨n, t⟩ := y
    rw [h2] at h
    have h3 := (size_short _ _ _ _ h2).1
    have h4 := many_le (rowR cols) (fun l x r h => row_short cols l r x h) n t r x h
    omega
/-- Each thing takes a byte. -/
theorem many_cnt {α : Type} (f : List UInt8 → Option (α × List UInt8)) (hf : ∀ l x r, f l = some (x, r) → r.length < l.length) : ∀ (n : Nat) (l r : List UInt8) (x : List α), manyR f n l = some (x, r) → x.length + r.length ≤ l.length
  | 0, l, r, x, h => by simp [manyR] at h; obtain ⟨rfl, rfl⟩ := h; simp
  | n + 1, l, r, x, h => by
    unfold manyR at h
    cases h2 : f l with
    | none => rw [h2] at h; cases h
    | some y =>
      obtain ⟨a, t⟩ := y
      rw [h2] at h
      cases h3 : manyR f n t with
      | none => simp [h3] at h
      | some z =>
        obtain ⟨b, u⟩ := z
        simp [h3] at h
        obtain ⟨rfl, rfl⟩ := h
        have := hf _ _ _ h2
        have := many_cnt f hf n t u b h3
        simp; omega
theorem row_cnt (most : Int) (st : Option (List UInt8)) : (stepR [] (rowR most) st).1.length ≤ (st.getD []).length := by
  cases st with
  | none => simp [stepR]
  | some l => cases h : rowR most l with
    | none => rw [stepR_bad _ _ _ h]; simp
    | some y =>
      obtain ⟨x, r⟩ := y
      rw [stepR_ok _ _ _ _ _ h]
      unfold rowR at h
      cases h2 : sizeR most l with
      | none => rw [h2] at h; cases h
      | some z =>
        obtain ⟨n, t⟩ := z
        rw [h2] at h
        have h3 := (size_short _ _ _ _ h2).1
        have h4 := many_cnt valR (fun l x r h => val_short l r x h) n t r x h
        simp; omega
theorem many_mem {α : Type} (f : List UInt8 → Option (α × List UInt8)) (hf : ∀ l x r, f l = some (x, r) → r.length < l.length) : ∀ (n : Nat) (l r : List UInt8) (x : List α), manyR f n l = some (x, r) → ∀ a ∈ x, ∃ l' r', f l' = some (a, r') ∧ l'.length ≤ l.length
  | 0, l, r, x, h => by simp [manyR] at h; obtain ⟨rfl, rfl⟩ := h; intro a ha; simp at ha
  | n + 1, l, r, x, h => by
    unfold manyR at h
    cases h2 : f l with
    | none => rw [h2] at h; cases h
    | some y =>
      obtain ⟨a, t⟩ := y
      rw [h2] at h
      cases h3 : manyR f n t with
      | none => simp [h3] at h
      | some z =>
        obtain ⟨b, u⟩ := z
        simp [h3] at h
        obtain ⟨rfl, rfl⟩ := h
        have h5 := hf _ _ _ h2
        intro c hc
        rcases List.mem_cons.1 hc with rfl | hc
        · exact ⟨l, t, h2, Nat.le_refl _⟩
        · obtain ⟨l', r', h6, h7⟩ := many_mem f hf n t u b h3 c hc
          exact ⟨l', r', h6, by omega⟩
theorem rows_cnt (most cols : Int) (st : Option (List UInt8)) : (stepR [] (rowsR most cols) st).1.length ≤ (st.getD []).length ∧ ∀ r ∈ (stepR [] (rowsR most cols) st).1, r.length ≤ (st.getD []).length := by
  cases st with
  | none => simp [stepR]
  | some l => cases h : rowsR most cols l with
    | none => rw [stepR_bad _ _ _ h]; simp
    | some y =>
      obtain ⟨x, r⟩ := y
      rw [stepR_ok _ _ _ _ _ h]
      unfold rowsR at h
      cases h2 : sizeR most l with
      | none => rw [h2] at h; cases h
      | some z =>
        obtain ⟨n, t⟩ := z
        rw [h2] at h
        have h3 := (size_short _ _ _ _ h2).1
        have h4 := many_cnt (rowR cols) (fun l x r h => row_short cols l r x h) n t r x h
        refine ⟨by simp; omega, fun a ha => ?_⟩
        obtain ⟨l', r', h6, h7⟩ := many_mem (rowR cols) (fun l x r h => row_short cols l r x h) n t r x h a ha
        have h8 := row_cnt cols (some l')
        rw [stepR_ok _ _ _ _ _ h6] at h8
        simp at h8 ⊢; omega
theorem Rq.off {w w' : World} {A : Option Addr} {p : Nat} {st st0 : Option (List UInt8)} (h : Rq w A st) (hp : Pt w p st0) (ho : Off (· = p) w w') (hn : ¬ Sq A p) : Rq w' A st := by
  rcases h with h | ⟨g, h1, h2⟩
  · exact .inl h
  · refine .inr ⟨g, h1, h2.stay (ho.block g (by obtain ⟨v, hB, _⟩ := h2; exact hB.lt) (fun e => hn (by unfold Sq; rw [h1, e]))) (fun b hb => ho.block b hb.lt ?_)⟩
    obtain ⟨s, hB, _⟩ := hp
    exact hb.ne hB (by decide)
theorem Pt.offq {w w' : World} {A : Option Addr} {p : Nat} {st : Option (List UInt8)} (h : Pt w p st) (ho : Off (Sq A) w w') (hn : ¬ Sq A p) : Pt w' p st := by
  obtain ⟨s, hB, h1, h2⟩ := h
  exact ⟨s, ho.blk hB hn, h1, h2⟩
/-- What two readers have in common behind a use. -/
def Aft (A : Option Addr) (p : Nat) (L : Nat) (w w' : World) : Prop := ∃ st, Rq w' A st ∧ Pt w' p st ∧ (st.getD []).length ≤ L ∧ Off (fun k => Sq A k ∨ k = p) w w'
theorem aft_mk {A : Option Addr} {p L : Nat} {w W w1 w2 : World} {st st0 : Option (List UInt8)} (h0 : Below w.heap.size w W) (hr : Rq w1 A st) (ho1 : Off (Sq A) W w1) (hp0 : Pt w1 p st0) (hp : Pt w2 p st) (ho2 : Off (· = p) w1 w2) (hn : ¬ Sq A p) (hl : (st.getD []).length ≤ L) : Aft A p L w w2 :=
  ⟨st, hr.off hp0 ho2 hn, hp, hl, ((Off.of (S := fun k => Sq A k ∨ k = p) h0).trans ho1 (fun k _ h => .inl h)).trans ho2 (fun k _ h => .inr h)⟩
theorem below_aft {A : Option Addr} {p L : Nat} {w w1 : World} (h : Aft A p L w w1) (j : Nat) : Aft A p L w (w1.drewN j) := by
  obtain ⟨st, h1, h2, h3, h4⟩ := h
  exact ⟨st, h1, h2, h3, h4.drewN j⟩
theorem rend_q (A : Option Addr) (st : Option (List UInt8)) (w : World) (h : Rq w A st) :
    Calls Try.prog 37/-f-/ #[.pointer A] w fun e w' => e = .returned (.bool (decide (st = some []))) ∧ w' = w := by
  rcases h with ⟨rfl, rfl⟩ | ⟨g, rfl, h2⟩
  · exact (rend_nil w).mono fun e w1 ⟨h, k⟩ => ⟨h, k.symm⟩
  · exact (rend_any g st w h2).mono fun e w1 ⟨h, k⟩ => ⟨h, k.symm⟩
theorem Aft.more {A : Option Addr} {p L : Nat} {w w1 w2 : World} (h : Aft A p L w w1) (hb : Below w1.heap.size w1 w2) : Aft A p L w w2 := by
  obtain ⟨st, h1, h2, h3, h4⟩ := h
  exact ⟨st, h1.below hb, h2.more hb, h3, h4.trans (Off.of hb) (fun _ _ h => h)⟩
set_option maxRecDepth 100000 in
set_option maxHeartbeats 16000000 in
theorem same_sw (A : Option Addr) (p : Nat) (st : Option (List UInt8)) (k n m : Int) (w : World) (hR : Rq w A st) (hP : Pt w p st) (hn : ¬ Sq A p) (hl : (st.getD []).length ≤ 1000000) (hk : -9223372036854775808 ≤ k ∧ k ≤ 9223372036854775807) (hn0 : -9223372036854775808 ≤ n ∧ n ≤ 9223372036854775807) (hm0 : -9223372036854775808 ≤ m ∧ m ≤ 9223372036854775807) :
    Calls Try.prog 27/-f-/ #[.pointer A, .pointer (some ⟨p, 0, none⟩), .agg #[.int .i64 k, .int .i64 n, .int .i64 m]] w fun e w' => e = .returned (.bool true) ∧ Aft A p (st.getD []).length w w' := by
  have HB0 := Lib.hid ((Below.refl w.heap.size w).alloc (Nat.le_refl _) (.cells #[.int .i64 k, .int .i64 n, .int .i64 m] 61/-t-/))
  have BK := Lib.hid (Blk.new w 61/-t-/ #[.int .i64 k, .int .i64 n, .int .i64 m])
  have hAlt : ∀ j, Sq A j → j < w.heap.size := by
    intro j hj
    rcases hR with ⟨h, _⟩ | ⟨g, h1, v, hB, _⟩
    · unfold Sq at hj; rw [h] at hj; cases hj
    · unfold Sq at hj; rw [h1] at hj; cases hj; exact hB.lt
  have hAn := Lib.hid (show ¬ Sq A w.heap.size from fun h => by have := hAlt _ h; omega)
  have hpn : w.heap.size ≠ p := by have := hP.lt; omega
  have HR0 := Lib.hid (hR.below HB0.out)
  have HP0 := Lib.hid (hP.more HB0.out)
  have HRD := Lib.hid (show Rq (w.alloc (.cells #[.int .i64 k, .int .i64 n, .int .i64 m] 61/-t-/)).drew A st from HR0.out)
  have HPD := Lib.hid (show Pt (w.alloc (.cells #[.int .i64 k, .int .i64 n, .int .i64 m] 61/-t-/)).drew p st from HP0.out)
  have BKD := Lib.hid (show Blk (w.alloc (.cells #[.int .i64 k, .int .i64 n, .int .i64 m] 61/-t-/)).drew w.heap.size 61/-t-/ #[.int .i64 k, .int .i64 n, .int .i64 m] from BK.out)
  have HBD := Lib.hid (show Below w.heap.size w (w.alloc (.cells #[.int .i64 k, .int .i64 n, .int .i64 m] 61/-t-/)).drew from HB0.out.drew)
  have HN := Lib.hid hn
  clear hR hP hAlt hn
  have z0 := BK.out.cell 0; have z1 := BK.out.cell 1; have z2 := BK.out.cell 2; have zl := BK.out.lt; simp only [List.getElem?_toArray, List.getElem?_cons_zero, List.getElem?_cons_succ] at z0 z1 z2
  go_enter Try.func27, Try.ntmps27
  go_upto_block 0 with fail
  go_cut [7] (fun t wx => t = .bool true ∧ Aft A p (st.getD []).length w wx)
  case first =>
    by_cases h0 : k = 0
    · subst h0
      have RC' := fun W hW => rsize_q A n st W hW hn0 (by omega)
      have PC' := fun W hW => psize_any p n st W hW hn0
      have HL' := len_of 0 (sizeR n) (fun l x r h => Nat.le_of_lt (size_short n l r x h).1) st
      generalize stepR 0 (sizeR n) st = q at *
      obtain ⟨x, st'⟩ := q
      simp only at RC' PC' HL'
      have HL := Lib.hid HL'
      have RC := Lib.hid RC'
      have PC := Lib.hid PC'
      clear RC' PC' HL'
      go_upto_region 6 with fail
      have s0 := BKD.out.cell 0; have s1 := BKD.out.cell 1; have s2 := BKD.out.cell 2; have sl := BKD.out.lt; simp only [List.getElem?_toArray, List.getElem?_cons_zero, List.getElem?_cons_succ] at s0 s1 s2
      go_region_held3 (fun W => W.cell? ⟨w.heap.size, 1, none⟩ = some (.int .i64 n)) (first | exact s1 | exact d1 | exact c1) (first
        | (go_at_call 35/-f-/; (with_reducible refine (RC.out _ HRD.out).mono ?_); rintro e w2 ⟨rfl, hr, ho⟩; have HR2 := Lib.hid hr; have HP2 := Lib.hid (HPD.out.offq ho HN.out); have HO2 := Lib.hid ho; have BK2 := Lib.hid (ho.blk BKD.out hAn.out); have d0 := BK2.out.cell 0; have d1 := BK2.out.cell 1; have d2 := BK2.out.cell 2; have dl := BK2.out.lt; simp only [List.getElem?_toArray, List.getElem?_cons_zero, List.getElem?_cons_succ] at d0 d1 d2; clear hr ho)
        | (go_at_call 43/-f-/; (with_reducible refine (PC.out _ HP2.out).mono ?_); rintro e w3 ⟨rfl, hp, ho⟩; have HP3 := Lib.hid hp; have HO3 := Lib.hid ho; have BK3 := Lib.hid (off_blk ho BK2.out hpn); have c0 := BK3.out.cell 0; have c1 := BK3.out.cell 1; have c2 := BK3.out.cell 2; have cl := BK3.out.lt; simp only [List.getElem?_toArray, List.getElem?_cons_zero, List.getElem?_cons_succ] at c0 c1 c2; clear hp ho))
      all_goals
        go_wp2
        go_meet
        exact ⟨rfl, aft_mk HBD.out HR2.out HO2.out HP2.out HP3.out HO3.out HN.out HL.out⟩
    by_cases h1 : k = 1
    · subst h1
      have RC' := fun W hW => rsigned_q A st W hW (by omega)
      have PC' := fun W hW => psigned_any p st W hW
      have HL' := len_of 0 signedR signed_short st
      generalize stepR 0 signedR st = q at *
      obtain ⟨x, st'⟩ := q
      simp only at RC' PC' HL'
      have HL := Lib.hid HL'
      have RC := Lib.hid RC'
      have PC := Lib.hid PC'
      clear RC' PC' HL'
      skip
      skip
      go_wp2_with (first
        | (go_at_call 29/-f-/; (with_reducible refine (RC.out _ HR0.out).mono ?_); rintro e w2 ⟨rfl, hr, ho⟩; have HR2 := Lib.hid hr; have HP2 := Lib.hid (HP0.out.offq ho HN.out); have HO2 := Lib.hid ho; have BK2 := Lib.hid (ho.blk BK.out hAn.out); have d0 := BK2.out.cell 0; have d1 := BK2.out.cell 1; have d2 := BK2.out.cell 2; have dl := BK2.out.lt; simp only [List.getElem?_toArray, List.getElem?_cons_zero, List.getElem?_cons_succ] at d0 d1 d2; clear hr ho)
        | (go_at_call 44/-f-/; (with_reducible refine (PC.out _ HP2.out).mono ?_); rintro e w3 ⟨rfl, hp, ho⟩; have HP3 := Lib.hid hp; have HO3 := Lib.hid ho; have BK3 := Lib.hid (off_blk ho BK2.out hpn); have c0 := BK3.out.cell 0; have c1 := BK3.out.cell 1; have c2 := BK3.out.cell 2; have cl := BK3.out.lt; simp only [List.getElem?_toArray, List.getElem?_cons_zero, List.getElem?_cons_succ] at c0 c1 c2; clear hp ho))
      go_meet
      exact ⟨rfl, aft_mk HB0.out HR2.out HO2.out HP2.out HP3.out HO3.out HN.out HL.out⟩
    by_cases h2 : k = 2
    · subst h2
      have RC' := fun W hW => rtext_q A n st W hW hn0 (by omega)
      have PC' := fun W hW => ptext_any p n st W hW hn0
      have HL' := len_of [] (textR n) (fun l x r h => Nat.le_of_lt (text_short n l r x h).1) st
      generalize stepR [] (textR n) st = q at *
      obtain ⟨x, st'⟩ := q
      simp only at RC' PC' HL'
      have HL := Lib.hid HL'
      have RC := Lib.hid RC'
      have PC := Lib.hid PC'
      clear RC' PC' HL'
      go_upto_region 10 with fail
      have s0 := BKD.out.cell 0; have s1 := BKD.out.cell 1; have s2 := BKD.out.cell 2; have sl := BKD.out.lt; simp only [List.getElem?_toArray, List.getElem?_cons_zero, List.getElem?_cons_succ] at s0 s1 s2
      generalize (⟨x.toArray⟩ : ByteArray) = T at *
      go_region_held3 (fun W => W.cell? ⟨w.heap.size, 1, none⟩ = some (.int .i64 n)) (first | exact s1 | exact d1 | exact c1) (first
        | (go_at_call 30/-f-/; (with_reducible refine (RC.out _ HRD.out).mono ?_); rintro e w2 ⟨rfl, hr, ho⟩; have HR2 := Lib.hid hr; have HP2 := Lib.hid (HPD.out.offq ho HN.out); have HO2 := Lib.hid ho; have BK2 := Lib.hid (ho.blk BKD.out hAn.out); have d0 := BK2.out.cell 0; have d1 := BK2.out.cell 1; have d2 := BK2.out.cell 2; have dl := BK2.out.lt; simp only [List.getElem?_toArray, List.getElem?_cons_zero, List.getElem?_cons_succ] at d0 d1 d2; clear hr ho)
        | (go_at_call 45/-f-/; (with_reducible refine (PC.out _ HP2.out).mono ?_); rintro e w3 ⟨rfl, hp, ho⟩; have HP3 := Lib.hid hp; have HO3 := Lib.hid ho; have BK3 := Lib.hid (off_blk ho BK2.out hpn); have c0 := BK3.out.cell 0; have c1 := BK3.out.cell 1; have c2 := BK3.out.cell 2; have cl := BK3.out.lt; simp only [List.getElem?_toArray, List.getElem?_cons_zero, List.getElem?_cons_succ] at c0 c1 c2; clear hp ho))
      all_goals
        go_wp2
        go_meet
        exact ⟨rfl, aft_mk HBD.out HR2.out HO2.out HP2.out HP3.out HO3.out HN.out HL.out⟩
    by_cases h3 : k = 3
    · subst h3
      have RC' := fun W hW => rvalue_q A st W hW (by omega)
      have PC' := fun W hW => pvalue_any p st W hW
      have HL' := len_of zeroV valR (fun l x r h => Nat.le_of_lt (val_short l r x h)) st
      generalize stepR zeroV valR st = q at *
      obtain ⟨x, st'⟩ := q
      simp only at RC' PC' HL'
      have HL := Lib.hid HL'
      have RC := Lib.hid RC'
      have PC := Lib.hid PC'
      clear RC' PC' HL'
      skip
      skip
      obtain ⟨xk, xn, xs⟩ := x
      simp only at RC PC
      have E := fun (a b a' b' : Int) (c c' : ByteArray) (W : World) => eqVal a b a' b' c c' W
      have hg := guardVal
      go_wp2_with (first
        | (go_at_call 46/-f-/; (with_reducible refine (RC.out _ HR0.out).mono ?_); rintro e w2 ⟨rfl, hr, ho⟩; have HR2 := Lib.hid hr; have HP2 := Lib.hid (HP0.out.offq ho HN.out); have HO2 := Lib.hid ho; have BK2 := Lib.hid (ho.blk BK.out hAn.out); have d0 := BK2.out.cell 0; have d1 := BK2.out.cell 1; have d2 := BK2.out.cell 2; have dl := BK2.out.lt; simp only [List.getElem?_toArray, List.getElem?_cons_zero, List.getElem?_cons_succ] at d0 d1 d2; clear hr ho)
        | (go_at_call 47/-f-/; (with_reducible refine (PC.out _ HP2.out).mono ?_); rintro e w3 ⟨rfl, hp, ho⟩; have HP3 := Lib.hid hp; have HO3 := Lib.hid ho; have BK3 := Lib.hid (off_blk ho BK2.out hpn); have c0 := BK3.out.cell 0; have c1 := BK3.out.cell 1; have c2 := BK3.out.cell 2; have cl := BK3.out.lt; simp only [List.getElem?_toArray, List.getElem?_cons_zero, List.getElem?_cons_succ] at c0 c1 c2; clear hp ho))
      go_meet
      exact ⟨rfl, aft_mk HB0.out HR2.out HO2.out HP2.out HP3.out HO3.out HN.out HL.out⟩
    by_cases h4 : k = 4
    · subst h4
      have RC' := fun W hW => rrow_q A n st W hW hn0 (by omega)
      have PC' := fun W hW => prow_any p n st W hW hn0 (by omega)
      have HL' := len_of [] (rowR n) (fun l x r h => Nat.le_of_lt (row_short n l r x h)) st
      have HC' := Nat.le_trans (row_cnt n st) hl
      generalize stepR [] (rowR n) st = q at *
      obtain ⟨x, st'⟩ := q
      simp only at RC' PC' HL' HC'
      have HL := Lib.hid HL'
      have RC := Lib.hid RC'
      have PC := Lib.hid PC'
      have HC := Lib.hid HC'
      clear RC' PC' HL' HC'
      go_upto_region 14 with fail
      have s0 := BKD.out.cell 0; have s1 := BKD.out.cell 1; have s2 := BKD.out.cell 2; have sl := BKD.out.lt; simp only [List.getElem?_toArray, List.getElem?_cons_zero, List.getElem?_cons_succ] at s0 s1 s2
      go_region_held3 (fun W => W.cell? ⟨w.heap.size, 1, none⟩ = some (.int .i64 n)) (first | exact s1 | exact d1 | exact c1 | exact b1) (first
        | (go_at_call 36/-f-/; (with_reducible refine (RC.out _ HRD.out).mono ?_); rintro e w2 ⟨⟨u, rfl, hu⟩, hr, ho⟩; have HR2 := Lib.hid hr; have HP2 := Lib.hid (HPD.out.offq ho HN.out); have HO2 := Lib.hid ho; have BK2 := Lib.hid (ho.blk BKD.out hAn.out); have d0 := BK2.out.cell 0; have d1 := BK2.out.cell 1; have d2 := BK2.out.cell 2; have dl := BK2.out.lt; simp only [List.getElem?_toArray, List.getElem?_cons_zero, List.getElem?_cons_succ] at d0 d1 d2; obtain ⟨A2, c2', rfl, hv2, _⟩ := hu.vals; have HU2 := Lib.hid hu; have hpw := HP0.out.lt; clear hu hv2; clear hr ho)
        | (go_at_call 49/-f-/; (with_reducible refine (PC.out _ HP2.out).mono ?_); rintro e w3 ⟨⟨v, rfl, hv⟩, hp, ho⟩; have HP3 := Lib.hid hp; have HO3 := Lib.hid ho; have BK3 := Lib.hid (off_blk ho BK2.out hpn); have c0 := BK3.out.cell 0; have c1 := BK3.out.cell 1; have c2 := BK3.out.cell 2; have cl := BK3.out.lt; simp only [List.getElem?_toArray, List.getElem?_cons_zero, List.getElem?_cons_succ] at c0 c1 c2; obtain ⟨A3, c3', rfl, hv3, _⟩ := hv.vals; have HV3 := Lib.hid hv3; have HU3 := Lib.hid (show Vals w3 A2 x from (by obtain ⟨A9, c9, h9, h10, _⟩ := (rowV_off HU2.out (by simp at hpw ⊢; omega) ho).vals; cases h9; exact h10)); clear hv hv3; clear hp ho)
        | (go_at_call 48/-f-/; (with_reducible refine (refsame_any A2 A3 x.length c2' x.length c3' x x _ HU3.out HV3.out rfl rfl (by have := HC.out; omega) (by have := HC.out; omega)).mono ?_); rintro e w4 ⟨rfl, hq⟩; have HQ := Lib.hid hq; have HB4 := Lib.hid (show Below w3.heap.size w3 w4 from (by obtain ⟨j, rfl⟩ := hq; exact below_drewN (Below.refl _ _) j)); have BK4 := Lib.hid (BK3.out.below HB4.out BK3.out.lt); have b0 := BK4.out.cell 0; have b1 := BK4.out.cell 1; have b2 := BK4.out.cell 2; have bl := BK4.out.lt; simp only [List.getElem?_toArray, List.getElem?_cons_zero, List.getElem?_cons_succ] at b0 b1 b2; clear hq))
      all_goals
        go_wp2
        go_meet
        exact ⟨rfl, (aft_mk HBD.out HR2.out HO2.out HP2.out HP3.out HO3.out HN.out HL.out).more HB4.out⟩
    by_cases h5 : k = 5
    · subst h5
      have RC' := fun W hW => rrows_q A n m st W hW hn0 hm0 (by omega)
      have PC' := fun W hW => prows_any p n m st W hW hn0 hm0 (by omega)
      have HL' := len_of [] (rowsR n m) (rows_short n m) st
      have HC' := (show (stepR [] (rowsR n m) st).1.length ≤ 1000000 ∧ ∀ r ∈ (stepR [] (rowsR n m) st).1, r.length ≤ 1000000 from ⟨Nat.le_trans (rows_cnt n m st).1 hl, fun r hr => Nat.le_trans ((rows_cnt n m st).2 r hr) hl⟩)
      generalize stepR [] (rowsR n m) st = q at *
      obtain ⟨x, st'⟩ := q
      simp only at RC' PC' HL' HC'
      have HL := Lib.hid HL'
      have RC := Lib.hid RC'
      have PC := Lib.hid PC'
      have HC := Lib.hid HC'
      clear RC' PC' HL' HC'
      go_upto_region 16 with fail
      have s0 := BKD.out.cell 0; have s1 := BKD.out.cell 1; have s2 := BKD.out.cell 2; have sl := BKD.out.lt; simp only [List.getElem?_toArray, List.getElem?_cons_zero, List.getElem?_cons_succ] at s0 s1 s2
      go_region_held3 (fun W => W.cell? ⟨w.heap.size, 1, none⟩ = some (.int .i64 n) ∧ W.cell? ⟨w.heap.size, 2, none⟩ = some (.int .i64 m)) (first | exact ⟨s1, s2⟩ | exact ⟨d1, d2⟩ | exact ⟨c1, c2⟩ | exact ⟨b1, b2⟩) (first
        | (go_at_call 32/-f-/; (with_reducible refine (RC.out _ HRD.out).mono ?_); rintro e w2 ⟨⟨u, rfl, hu⟩, hr, ho⟩; have HR2 := Lib.hid hr; have HP2 := Lib.hid (HPD.out.offq ho HN.out); have HO2 := Lib.hid ho; have BK2 := Lib.hid (ho.blk BKD.out hAn.out); have d0 := BK2.out.cell 0; have d1 := BK2.out.cell 1; have d2 := BK2.out.cell 2; have dl := BK2.out.lt; simp only [List.getElem?_toArray, List.getElem?_cons_zero, List.getElem?_cons_succ] at d0 d1 d2; obtain ⟨A2, c2', rfl, hv2⟩ := hu.rowz; have HU2 := Lib.hid hu; have hpw := HP0.out.lt; clear hu hv2; clear hr ho)
        | (go_at_call 50/-f-/; (with_reducible refine (PC.out _ HP2.out).mono ?_); rintro e w3 ⟨⟨v, rfl, hv⟩, hp, ho⟩; have HP3 := Lib.hid hp; have HO3 := Lib.hid ho; have BK3 := Lib.hid (off_blk ho BK2.out hpn); have c0 := BK3.out.cell 0; have c1 := BK3.out.cell 1; have c2 := BK3.out.cell 2; have cl := BK3.out.lt; simp only [List.getElem?_toArray, List.getElem?_cons_zero, List.getElem?_cons_succ] at c0 c1 c2; obtain ⟨A3, c3', rfl, hv3⟩ := hv.rowz; have HV3 := Lib.hid hv3; have HU3 := Lib.hid (show Rowz w3 A2 x from (by obtain ⟨A9, c9, h9, h10⟩ := (RowR.off HU2.out (by simp at hpw ⊢; omega) ho).rowz; cases h9; exact h10)); clear hv hv3; clear hp ho)
        | (go_at_call 31/-f-/; (with_reducible refine (rowsame_any A2 A3 x.length c2' x.length c3' x x _ HU3.out HV3.out rfl rfl (by have := HC.out.1; omega) (by have := HC.out.1; omega) (fun r hr => by have := HC.out.2 r hr; omega) (fun r hr => by have := HC.out.2 r hr; omega)).mono ?_); rintro e w4 ⟨rfl, hq⟩; have HQ := Lib.hid hq; have HB4 := Lib.hid (show Below w3.heap.size w3 w4 from (by obtain ⟨j, rfl⟩ := hq; exact below_drewN (Below.refl _ _) j)); have BK4 := Lib.hid (BK3.out.below HB4.out BK3.out.lt); have b0 := BK4.out.cell 0; have b1 := BK4.out.cell 1; have b2 := BK4.out.cell 2; have bl := BK4.out.lt; simp only [List.getElem?_toArray, List.getElem?_cons_zero, List.getElem?_cons_succ] at b0 b1 b2; clear hq))
      all_goals
        go_wp2
        go_meet
        exact ⟨rfl, (aft_mk HBD.out HR2.out HO2.out HP2.out HP3.out HO3.out HN.out HL.out).more HB4.out⟩
    have e0 : (k == 0) = false := beq_eq_false_iff_ne.2 h0
    have e1 : (k == 1) = false := beq_eq_false_iff_ne.2 h1
    have e2 : (k == 2) = false := beq_eq_false_iff_ne.2 h2
    have e3 : (k == 3) = false := beq_eq_false_iff_ne.2 h3
    have e4 : (k == 4) = false := beq_eq_false_iff_ne.2 h4
    have e5 : (k == 5) = false := beq_eq_false_iff_ne.2 h5
    clear h0 h1 h2 h3 h4 h5
    go_wp2_with (go_at_call 51/-f-/; (with_reducible refine (rfail_q A st _ HR0.out).mono ?_); rintro e w2 ⟨rfl, hr, ho⟩; have HR2 := Lib.hid hr; have HP2 := Lib.hid (HP0.out.offq ho HN.out); have HO2 := Lib.hid ho; obtain ⟨qS, qB, _, _⟩ := HP2.out; have q1 := qB.cell 1; have qf := qB.frozen 1; have ql := qB.lt; simp only [List.getElem?_toArray, List.getElem?_cons_zero, List.getElem?_cons_succ] at q1; clear hr ho qB)
    go_meet
    exact ⟨rfl, aft_mk HB0.out HR2.out HO2.out HP2.out HP2.out.bad.1 HP2.out.bad.2 HN.out (by simp)⟩
  case rest =>
    obtain ⟨rfl, hA⟩ := hcut
    have HA := Lib.hid hA
    obtain ⟨st', hr, hp, hl2, ho⟩ := hA
    obtain ⟨S, hB, hS, hSl⟩ := hp
    have p0 := hB.cell 0
    have p1 := hB.cell 1
    have pl := hB.lt
    simp only [List.getElem?_toArray, List.getElem?_cons_zero, List.getElem?_cons_succ] at p0 p1
    have GD := Lib.hid (fun j : Nat => rgood_q A st' (wc.drewN j) hr)
    have LN := Lib.hid (fun j : Nat => rlen_q A st' (wc.drewN j) hr)
    have SG' := fun j : Nat => rstring_q A st' (wc.drewN j) hr
    have EN' := fun j : Nat => rend_q A st' (wc.drewN j) hr
    clear hr hB hl2 ho z0 z1 z2 zl HR0 HP0 HRD HPD BKD HBD BK HB0 HN
    cases st' with
    | none =>
      simp only [Option.isNone_none, Option.isSome_none, Option.getD_none, List.length_nil] at p1 GD LN SG' EN'
      rw [show decide ((none : Option (List UInt8)) = some []) = false from rfl] at EN'
      have SG := Lib.hid SG'
      have EN := Lib.hid EN'
      clear SG' EN' hSl
      go_upto_region 20 with fail
      go_quiet (first | (go_at_call 34/-f-/; exact Calls.quiet_of_same (GD.out _)) | (go_at_call 52/-f-/; exact Calls.quiet_of_same (LN.out _)) | (go_at_call 33/-f-/; exact Calls.quiet_of_same (SG.out _)) | (go_at_call 37/-f-/; exact Calls.quiet_of_same (EN.out _)))
      go_wp2
      go_ret
      exact ⟨rfl, below_aft HA.out _⟩
    | some l =>
      have hs := hSl l rfl
      simp only [Option.isNone_some, Option.isSome_some, Option.getD_some] at p1 GD LN SG' EN'
      simp only [← hs] at SG'
      have hsz : S.size = l.length := by rw [hs]; simp [ByteArray.size]
      have e1 : ((l.length : Int) == (S.size : Int)) = true := beq_iff_eq.2 (by omega)
      obtain ⟨b, hb⟩ : ∃ b, b = decide (some l = some ([] : List UInt8)) := ⟨_, rfl⟩
      rw [← hb] at EN'
      have e2 : ((S.size : Int) == 0) = b := by
        rw [hb]
        by_cases h : l = []
        · subst h; rw [decide_eq_true rfl]; exact beq_iff_eq.2 (by have h0 : S.size = 0 := hsz; omega)
        · rw [decide_eq_false (by simpa using h)]
          have := List.length_pos_iff.2 h
          exact beq_eq_false_iff_ne.2 (by omega)
      have SG := Lib.hid SG'
      have EN := Lib.hid EN'
      clear SG' EN' hSl hs hsz hb
      cases b
      all_goals
        go_upto_region 20 with fail
        go_quiet (first | (go_at_call 34/-f-/; exact Calls.quiet_of_same (GD.out _)) | (go_at_call 52/-f-/; exact Calls.quiet_of_same (LN.out _)) | (go_at_call 33/-f-/; exact Calls.quiet_of_same (SG.out _)) | (go_at_call 37/-f-/; exact Calls.quiet_of_same (EN.out _)))
        go_wp2
        go_ret
        exact ⟨rfl, below_aft HA.out _⟩
end Go.Proofs.Ytelfppjgdhelbaa
