/- Contracts of package codec: the document's example. -/
import Derived.Test.YtelfppjgdhelbaaRdy
namespace Go.Proofs.Ytelfppjgdhelbaa
open Go.ChangeShapes Go.WideShapes Go.ChangeAt Go.RowKit
theorem nb1 : nb 1 = [1] := by rw [nb_pos _ (by decide), show 1 / 256 = 0 from rfl, nb_zero]; rfl
theorem nb2 : nb 2 = [2] := by rw [nb_pos _ (by decide), show 2 / 256 = 0 from rfl, nb_zero]; rfl
theorem nb300 : nb 300 = [1, 44] := by rw [nb_pos _ (by decide), show 300 / 256 = 1 from rfl, nb1]; rfl
theorem num1 : num 1 = [1, 1] := by unfold num; rw [nb1]; rfl
theorem num2 : num 2 = [1, 2] := by unfold num; rw [nb2]; rfl
theorem num300 : num 300 = [2, 1, 44] := by unfold num; rw [nb300]; rfl
def exV : List Val := [⟨1, 1, ⟨#[]⟩⟩, ⟨3, 1, ⟨#[]⟩⟩]
theorem exRow : rowW exV = [1, 2, 1, 1, 2, 3, 1] := by
  have h1 : valW ⟨1, 1, ⟨#[]⟩⟩ = [1, 1, 2] := by
    unfold valW
    rw [if_pos (by rfl), if_pos rfl, show zig 1 = 2 from rfl, num2]
  have h2 : valW ⟨3, 1, ⟨#[]⟩⟩ = [3, 1] := by
    unfold valW
    rw [if_pos (by rfl), if_neg (show ¬ (3 : Int) = 1 by decide), if_neg (show ¬ (3 : Int) = 2 by decide)]
    rfl
  unfold rowW valsW exV
  rw [show [(⟨1, 1, ⟨#[]⟩⟩ : Val), ⟨3, 1, ⟨#[]⟩⟩].length = 2 from rfl, num2, List.flatMap_cons, List.flatMap_cons, h1, h2]
  rfl
theorem exFit : ∀ x ∈ exV, FitV x := by
  intro x hx
  simp only [exV, List.mem_cons, List.not_mem_nil, or_false] at hx
  rcases hx with rfl | rfl
  · exact ⟨by decide, by decide, by show (ByteArray.mk #[]).size ≤ 9223372036854775807; decide⟩
  · exact ⟨by decide, by decide, by show (ByteArray.mk #[]).size ≤ 9223372036854775807; decide⟩
theorem exRead1 : stepR 0 (sizeR 300) (some [2, 1, 44, 1, 1, 1, 2, 1, 1, 2, 3, 1]) = (300, some [1, 1, 1, 2, 1, 1, 2, 3, 1]) := by
  have := (size_reads 300 300 (by decide) (by decide)).all [1, 1, 1, 2, 1, 1, 2, 3, 1]
  rw [num300] at this
  exact stepR_ok _ _ _ _ _ this
theorem exRead2 : stepR 0 signedR (some [1, 1, 1, 2, 1, 1, 2, 3, 1]) = (-1, some [1, 2, 1, 1, 2, 3, 1]) := by
  have := (signed_reads (-1) (by decide) (by decide)).all [1, 2, 1, 1, 2, 3, 1]
  rw [show zig (-1) = 1 from rfl, num1] at this
  exact stepR_ok _ _ _ _ _ this
theorem exRead3 : stepR [] (rowR 2) (some [1, 2, 1, 1, 2, 3, 1]) = (exV, some []) := by
  have := (row_reads exV 2 (by decide) (by decide) (fun v hv => by
    simp only [exV, List.mem_cons, List.not_mem_nil, or_false] at hv
    rcases hv with rfl | rfl
    · exact ⟨by rfl, by decide, by decide⟩
    · exact ⟨by rfl, by decide, by decide⟩)).all []
  rw [exRow] at this
  exact stepR_ok _ _ _ _ _ this
theorem wr_new (w : World) : Wr (w.alloc (.cells #[.slice none 0 0] 43)) w.heap.size w.heap.size [] :=
  ⟨Nat.le_refl _, _, Blk.new w 43 _, World.ownsRow_nil _ _ _ _⟩
theorem new_exV (W : World) (N : Nat) (e : W.heap.size = N) : Vals (W.alloc (.cells #[.int .i64 1, .int .i64 1, .string ⟨#[]⟩, .int .i64 3, .int .i64 1, .string ⟨#[]⟩] 35)) (some ⟨N, 0, none⟩) exV := by
  subst e
  refine .inr ⟨W.heap.size, 0, rfl, by simp, fun i hi => ?_⟩
  have : i = 0 ∨ i = 1 := by simp [exV] at hi; omega
  rcases this with rfl | rfl
  · refine ⟨?_, ?_, ?_⟩ <;> (rw [(Blk.new W 35 _).cell]; rfl)
  · refine ⟨?_, ?_, ?_⟩ <;> (rw [(Blk.new W 35 _).cell]; rfl)
set_option maxRecDepth 100000 in
set_option maxHeartbeats 8000000 in
theorem awake_any (w : World) : Calls Try.prog 9/-f-/ #[] w fun e w' => e = .returned (.bool true) ∧ Below w.heap.size w w' := by
  have W0 := Lib.hid (wr_new w)
  have HL0 := Lib.hid (Laid.refl W0.out)
  obtain ⟨H, hH⟩ : ∃ H, H = w.heap.size := ⟨_, rfl⟩
  have HB0 := Lib.hid (show Below H w (w.alloc (.cells #[.slice none 0 0] 43)) from by rw [hH]; exact (Below.refl _ _).alloc (Nat.le_refl _) _)
  have HHW := Lib.hid hH
  have S0 : (w.alloc (.cells #[.slice none 0 0] 43)).heap.size = H + 1 := by rw [hH]; simp
  rw [← hH] at W0 HL0
  generalize hw0 : w.alloc (.cells #[.slice none 0 0] 43) = w0 at *
  have HW0 := Lib.hid hw0
  clear hw0
  have HL1 := Lib.hid (HL0.out.more (by omega) ((Below.refl _ _).alloc (Nat.le_refl _) (.cells #[.int .i64 300] 3)))
  have HIN1 := Lib.hid (new_ints w0 (H + 1) 3 300 S0)
  have HSN1 := Lib.hid (new_safe (W := w0) (base := H) (g := H) (t := 3) (N := H + 1) (cs := #[.int .i64 300]) (by omega) (by decide) S0)
  have E1 := Lib.hid (show [] ++ sizesW [300] = [2, 1, 44] from by simp [sizesW, num300])
  have E2 := Lib.hid (show [2, 1, 44] ++ signedsW [-1] = [2, 1, 44, 1, 1] from by simp [signedsW, show zig (-1) = 1 from rfl, num1])
  have E3 := Lib.hid (show [2, 1, 44, 1, 1] ++ rowW exV = [2, 1, 44, 1, 1, 1, 2, 1, 1, 2, 3, 1] from by rw [exRow]; rfl)
  have C1 := Lib.hid (size_any H H [] (some ⟨H + 1, 0, none⟩) 1 1 [300] _ HL1.out.wr HIN1.out (fun _ => HSN1.out) rfl (fun x hx => by simp at hx; subst hx; decide) (by simp; omega) (by simp) (by omega))
  rw [E1.out] at C1
  have HS0 := Lib.hid S0
  clear hH S0
  go_enter Try.func9, Try.ntmps9
  go_upto_region 2 with fail
  rw [← HHW.out, HW0.out]
  have hHw : w0.heap.size = H + 1 := HS0.out
  go_wp2_with fail
  refine C1.out.mono ?_
  rintro e w1 ⟨rfl, hl1⟩
  have HL2 := Lib.hid (HL1.out.trans hl1)
  clear hl1 hHw
  have hs1 : H < w1.heap.size := by obtain ⟨_, v, hB, _⟩ := HL2.out.wr; exact hB.lt
  have HL3 := Lib.hid (HL2.out.more (by omega) ((Below.refl _ _).alloc (Nat.le_refl _) (.cells #[.int .i64 (-1)] 2)))
  have C2 := Lib.hid (wsigned_any H H [2, 1, 44] (some ⟨w1.heap.size, 0, none⟩) 1 1 [-1] _ HL3.out.wr (new_ints w1 w1.heap.size 2 (-1) rfl) (fun _ => new_safe (W := w1) (base := H) (g := H) (t := 2) (N := w1.heap.size) (cs := #[.int .i64 (-1)]) hs1 (by decide) rfl) rfl (fun x hx => by simp at hx; subst hx; decide) (by simp; omega) (by simp) (by omega))
  rw [E2.out] at C2
  go_wp2_with fail
  refine C2.out.mono ?_
  rintro e w2 ⟨rfl, hl1⟩
  have HL4 := Lib.hid (HL3.out.trans hl1)
  clear hl1
  have hs2 : H < w2.heap.size := by obtain ⟨_, v, hB, _⟩ := HL4.out.wr; exact hB.lt
  have HL5 := Lib.hid (HL4.out.more (by omega) ((Below.refl _ _).alloc (Nat.le_refl _) (.cells #[.int .i64 1, .int .i64 1, .string ⟨#[]⟩, .int .i64 3, .int .i64 1, .string ⟨#[]⟩] 35)))
  have C3 := Lib.hid (wrow_any H H [2, 1, 44, 1, 1] (some ⟨w2.heap.size, 0, none⟩) 2 2 exV _ HL5.out.wr (new_exV w2 w2.heap.size rfl) (fun _ => new_safe (W := w2) (base := H) (g := H) (t := 35) (N := w2.heap.size) (cs := #[.int .i64 1, .int .i64 1, .string ⟨#[]⟩, .int .i64 3, .int .i64 1, .string ⟨#[]⟩]) hs2 (by decide) rfl) rfl exFit (by simp; omega) (by simp) (by omega))
  rw [E3.out] at C3
  go_wp2_with fail
  refine C3.out.mono ?_
  rintro e w3 ⟨rfl, hl1⟩
  have HL6 := Lib.hid (HL5.out.trans hl1)
  clear hl1
  have hs3 : H < w3.heap.size := by obtain ⟨_, v, hB, _⟩ := HL6.out.wr; exact hB.lt
  go_wp2_with fail
  refine (wstring_any H H _ _ HL6.out.wr).mono ?_
  rintro e w4 ⟨rfl, rfl⟩
  go_wp2_with fail
  refine (read_any _ _ (by decide)).mono ?_
  rintro e w4 ⟨⟨g, rfl, hg, hr⟩, hb4⟩
  have HL7 := Lib.hid (HL6.out.more (by omega) hb4)
  have HR4 := Lib.hid (show Rd w4 g (some [2, 1, 44, 1, 1, 1, 2, 1, 1, 2, 3, 1]) from hr)
  have hs4 : H < g := by omega
  clear hr hb4
  go_wp2_with fail
  refine (wstring_any H H _ _ HL7.out.wr).mono ?_
  rintro e w5 ⟨rfl, rfl⟩
  go_wp2_with fail
  refine (wlen_any H H _ _ HL7.out.wr).mono ?_
  rintro e w5 ⟨rfl, rfl⟩
  go_wp2_with fail
  have D1 := Lib.hid (rsize_any g 300 _ _ HR4.out (by decide) (by decide))
  rw [exRead1] at D1
  refine D1.out.mono ?_
  rintro e w5 ⟨rfl, hr5, ho5⟩
  go_wp2_with fail
  have D2 := Lib.hid (rsigned_any g _ _ hr5 (by decide))
  rw [exRead2] at D2
  refine D2.out.mono ?_
  rintro e w6 ⟨rfl, hr6, ho6⟩
  go_wp2_with fail
  have D3 := Lib.hid (rrow_any g 2 _ _ hr6 (by decide) (by decide))
  rw [exRead3] at D3
  refine D3.out.mono ?_
  rintro e w7 ⟨⟨u, rfl, hu⟩, hr7, ho7⟩
  obtain ⟨A7, c7, rfl⟩ := own_slice hu
  go_wp2_with fail
  refine (rend_any g _ _ hr7).mono ?_
  rintro e w8 ⟨rfl, rfl⟩
  go_wp2
  go_ret
  refine ⟨rfl, ?_⟩
  have hoff := off_trans ho5 (off_trans ho6 ho7)
  rw [← HHW.out]
  exact HB0.out.trans (HL7.out.below.trans (hoff.below (fun k hk (e : k = g) => by omega) (HL7.out.base (by have := HS0.out; omega))))
end Go.Proofs.Ytelfppjgdhelbaa
