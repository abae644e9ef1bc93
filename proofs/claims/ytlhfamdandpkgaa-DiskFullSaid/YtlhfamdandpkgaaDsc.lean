/- Contracts of package disk: uses, names, look-ups. -/
import Derived.Test.YtlhfamdandpkgaaDsw
namespace Go.Proofs.Ytlhfamdandpkgaa
open Go.ChangeShapes Go.WideShapes Go.ChangeAt Go.RowKit Go.Maps
/-- A use of the power: does it go through, and the power behind it. -/
def useP (p : Pw) : Bool × Pw :=
  if p.off then (false, p) else
    let u := wrap64 (p.uses + 1)
    if p.armed then (if p.left = 0 then (false, { p with uses := u, off := true }) else (true, { p with uses := u, left := wrap64 (p.left - 1) })) else (true, { p with uses := u })
theorem below_al (w : World) (o : Obj) : Below w.heap.size w (w.alloc o) := (Below.refl _ _).alloc (Nat.le_refl _) _
theorem zeroF (w : World) : (zeroValue 72).run Try.prog w = .ok (.pointer none) w := by kernel_rfl
theorem blk6 {w : World} {g t : Nat} {a b c d e f : Value} (h : Blk w g t #[a, b, c, d, e, f]) : w.cell? ⟨g, 0, none⟩ = some a ∧ w.cell? ⟨g, 1, none⟩ = some b ∧ w.cell? ⟨g, 2, none⟩ = some c ∧ w.cell? ⟨g, 3, none⟩ = some d ∧ w.cell? ⟨g, 4, none⟩ = some e ∧ w.cell? ⟨g, 5, none⟩ = some f ∧ (∀ i, w.frozen? ⟨g, i, none⟩ = false) ∧ g < w.heap.size :=
  ⟨h.cell 0, h.cell 1, h.cell 2, h.cell 3, h.cell 4, h.cell 5, h.frozen, h.lt⟩
set_option maxRecDepth 100000 in
set_option maxHeartbeats 4000000 in
theorem use_any (d b : Nat) (p : Pw) (w : World) (h : Blk w d 67 (p.cells b)) :
    Calls Try.prog 51/-f-/ #[.pointer (some ⟨d, 0, none⟩)] w fun e w' => e = .returned (.bool (useP p).1) ∧ Blk w' d 67 ((useP p).2.cells b) ∧ Off (· = d) w w' := by
  obtain ⟨po, pa, pl, pu, pr⟩ := p
  obtain ⟨c0, c1, c2, c3, c4, c5, hf, hlt⟩ := blk6 h
  have f0 := hf 0
  have f2 := hf 2
  have f3 := hf 3
  have H := Lib.hid h
  clear h hf
  simp only at c0 c1 c2 c3
  cases po with
  | true =>
    go_enter Try.func51, Try.ntmps51
    go_wp2
    go_ret
    exact ⟨rfl, H.out, Off.refl _ _⟩
  | false =>
    cases pa with
    | false =>
      go_enter Try.func51, Try.ntmps51
      go_wp2
      go_ret
      refine ⟨rfl, ?_, (Off.refl (fun x => x = d) w).put (p := ⟨d, 3, none⟩) (fun _ => rfl) _⟩
      simpa [useP, Pw.cells] using H.out.put 3 (.int .i64 (wrap64 (pu + 1)))
    | true =>
      by_cases hl : pl = 0
      · subst hl
        go_enter Try.func51, Try.ntmps51
        go_wp2
        go_ret
        refine ⟨rfl, ?_, ((Off.refl (fun x => x = d) w).put (p := ⟨d, 3, none⟩) (fun _ => rfl) _).put (p := ⟨d, 0, none⟩) (fun _ => rfl) _⟩
        simpa [useP, Pw.cells] using (H.out.put 3 (.int .i64 (wrap64 (pu + 1)))).put 0 (.bool true)
      · have e1 : (pl == 0) = false := beq_eq_false_iff_ne.2 hl
        have HL := Lib.hid hl
        clear hl
        go_enter Try.func51, Try.ntmps51
        go_wp2
        go_ret
        refine ⟨ret_bool (by simp [useP, HL.out]), ?_, ((Off.refl (fun x => x = d) w).put (p := ⟨d, 3, none⟩) (fun _ => rfl) _).put (p := ⟨d, 2, none⟩) (fun _ => rfl) _⟩
        simpa [useP, Pw.cells, HL.out] using (H.out.put 3 (.int .i64 (wrap64 (pu + 1)))).put 2 (.int .i64 (wrap64 (pl - 1)))
def mayB (ss : List ByteArray) : Bool := ss.all fun s => decide (0 < s.size) && decide (s.size ≤ 20)
theorem mayB_take (ss : List ByteArray) (k : Nat) (h : k < ss.length) : mayB (ss.take (k + 1)) = (mayB (ss.take k) && (decide (0 < (ss.getD k ⟨#[]⟩).size) && decide ((ss.getD k ⟨#[]⟩).size ≤ 20))) := by
  unfold mayB
  rw [List.take_succ_eq_append_getElem h, List.all_append]
  simp [List.getD, h]
theorem str_bne (a b : ByteArray) : (a.toList == b.toList) = decide (a = b) := by
  by_cases h : a = b
  · subst h; simp
  · have h4 : ¬ a.toList = b.toList := by
      rw [ByteArray.toList_eq, ByteArray.toList_eq]; intro h2; exact h (ByteArray.ext (Array.toList_inj.1 h2))
    rw [decide_eq_false h]; exact beq_eq_false_iff_ne.2 h4
theorem str_empty (s : ByteArray) : (s.toList == ([] : List UInt8)) = decide (s.size = 0) := by
  have e : ([] : List UInt8) = (⟨#[]⟩ : ByteArray).toList := by rw [ByteArray.toList_eq]
  rw [e, str_bne, Bool.eq_iff_iff, decide_eq_true_iff, decide_eq_true_iff]
  constructor
  · rintro rfl; rfl
  · intro h
    exact ByteArray.ext (Array.eq_empty_of_size_eq_zero h)
set_option maxRecDepth 100000 in
set_option maxHeartbeats 4000000 in
theorem maybe_any (A : Option Addr) (n c : Nat) (ss : List ByteArray) (w : World) (hA : Strs w A ss) (hn : ss.length = n) (hl : n ≤ 1000000) :
    Calls Try.prog 50/-f-/ #[.slice A n c] w fun e w' => e = .returned (.bool (mayB ss)) ∧ w = w' := by
  subst hn
  obtain ⟨r, hr⟩ : ∃ r, r = mayB ss := ⟨_, rfl⟩
  rw [← hr]
  have HR := Lib.hid hr
  have HA := Lib.hid hA
  clear hr hA
  go_enter Try.func50, Try.ntmps50
  go_wp2
  go_loop [4, 7] (fun _ i => ∃ k : Nat, k ≤ ss.length ∧ i = .int .i64 k ∧ Hid (mayB (ss.take k) = true)) (fun _ i => ss.length - (intOf i).toNat)
  case atStart => exact ⟨0, Nat.zero_le _, rfl, Lib.hid rfl⟩
  case round =>
    obtain ⟨k, hk, rfl, hall⟩ := hrel
    by_cases hlt : k < ss.length
    · rcases HA.out with h | ⟨b, off, rfl, hbw, hcell⟩
      · subst h; simp at hlt
      have x0 := hcell k hlt
      have HT := Lib.hid (mayB_take ss k hlt)
      have hki : (k : Int) < (ss.length : Int) := by omega
      have HM := Lib.hid (show ss.getD k ⟨#[]⟩ ∈ ss from by simp [List.getD, hlt])
      clear hcell
      generalize ss.getD k ⟨#[]⟩ = s at *
      have he := str_empty s
      have HN := Lib.hid (show (decide (0 < s.size) && decide (s.size ≤ 20)) = false → r = false from fun h => by
        rw [HR.out]
        refine List.all_eq_false.2 ⟨s, HM.out, by rw [h]; simp⟩)
      by_cases h0 : s.size = 0
      · have HF := Lib.hid (HN.out (by rw [decide_eq_false (by omega)]; rfl))
        rw [decide_eq_true h0] at he
        clear h0
        go_wp2
        go_ret
        exact ⟨ret_bool HF.out.symm, rfl⟩
      · rw [decide_eq_false h0] at he
        by_cases h20 : 20 < s.size
        · have h20i : (20 : Int) < (s.size : Int) := by omega
          have HF := Lib.hid (HN.out (by rw [decide_eq_false (show ¬ s.size ≤ 20 by omega)]; simp))
          clear h0
          go_wp2
          go_ret
          exact ⟨ret_bool HF.out.symm, rfl⟩
        · have h20i : ¬ (20 : Int) < (s.size : Int) := by omega
          have HF := Lib.hid (show mayB (ss.take (k + 1)) = true from by rw [HT.out, hall.out, decide_eq_true (show 0 < s.size by omega), decide_eq_true (show s.size ≤ 20 by omega)]; rfl)
          clear h0
          go_wp2
          go_round
          case rel => exact ⟨k + 1, hlt, by go_num, HF⟩
          case measure => simp [intOf]; omega
    · have hkl : k = ss.length := by omega
      subst hkl
      rw [List.take_length] at hall
      go_wp2
      go_ret
      exact ⟨ret_bool (by rw [HR.out, hall.out]), rfl⟩
end Go.Proofs.Ytlhfamdandpkgaa
