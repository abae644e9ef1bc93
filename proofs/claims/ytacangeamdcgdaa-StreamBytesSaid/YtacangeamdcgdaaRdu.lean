/- Contracts of package codec: the reader's texts and values. -/
import Derived.Test.YtacangeamdcgdaaRdt
namespace Go.Proofs.Ytacangeamdcgdaa
open Go.ChangeShapes Go.WideShapes Go.ChangeAt Go.RowKit
set_option maxHeartbeats 2000000 in
theorem rtext_any (g : Nat) (most : Int) (st : Option (List UInt8)) (w : World) (h : Rd w g st) (hm : -9223372036854775808 ≤ most ∧ most ≤ 9223372036854775807) (hl : (st.getD []).length ≤ 1000000000) :
    Calls Try.prog 106/-f-/ #[.pointer (some ⟨g, 0, none⟩), .int .i64 most] w fun e w' => e = .returned (.string ⟨(stepR [] (textR most) st).1.toArray⟩) ∧ Rd w' g (stepR [] (textR most) st).2 ∧ Off (· = g) w w' := by
  have S := Lib.hid (rsize_any g most st w h hm hl)
  have HL1 := Lib.hid (Nat.le_trans (len_size most st) hl)
  have hlt := size_lt most st hm.2
  have HRES := Lib.hid (step_text most st)
  clear h hl
  generalize stepR [] (textR most) st = res at *
  generalize stepR 0 (sizeR most) st = q at *
  obtain ⟨n, st1⟩ := q
  simp only at S HL1 hlt HRES
  have T := Lib.hid (fun W hW => take_any g n st1 W hW hlt HL1.out)
  rw [← HRES.out] at T
  clear HL1 HRES
  go_enter Try.func106, Try.ntmps106
  go_wp2_with (first
    | (go_at_call 55/-f-/; refine S.out.mono ?_; rintro e w1 ⟨rfl, hr1, ho1⟩)
    | (go_at_call 94/-f-/; refine (T.out _ hr1).mono ?_; rintro e w2 ⟨u, rfl, hbs, hr2, ho2⟩; have hcv := hbs.conv))
  go_ret
  exact ⟨rfl, hr2, off_trans ho1 ho2⟩
/-- A reader's state behind what else is made. -/
theorem Rd.more {w w' : World} {g : Nat} {st : Option (List UInt8)} (h : Rd w g st) (hb : Below w.heap.size w w') : Rd w' g st := by
  obtain ⟨v, hB, A, c, hv, hc, hd⟩ := h
  refine ⟨v, hB.below hb hB.lt, A, c, hv, hc, ?_⟩
  rcases hd with h | ⟨b, off, hA, hbw, hcell⟩
  · exact .inl h
  · exact .inr ⟨b, off, hA, hbw.to (hb.block b hbw.lt), fun i hi => (hb.cell (p := ⟨b, off + i, none⟩) hbw.lt).trans (hcell i hi)⟩
end Go.Proofs.Ytacangeamdcgdaa
