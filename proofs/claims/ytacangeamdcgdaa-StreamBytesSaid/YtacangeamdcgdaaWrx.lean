/- Contracts of package codec: the writer's rows; what was laid; a reader's beginning and end. -/
import Derived.Test.YtacangeamdcgdaaWrv
import Derived.Test.YtacangeamdcgdaaRdx
namespace Go.Proofs.Ytacangeamdcgdaa
open Go.ChangeShapes Go.WideShapes Go.ChangeAt Go.RowKit
theorem vals_laid {g base : Nat} {l : List UInt8} {w w' : World} {A : Option Addr} {vs : List Val} (h : Vals w A vs) (hS : vs ≠ [] → Safe w base g A) (hl : Laid g base l w w') : Vals w' A vs := by
  by_cases hv : vs = []
  · exact .inl hv
  rcases h with h | ⟨b, off, rfl, hbw, hcell⟩
  · exact .inl h
  · refine .inr ⟨b, off, rfl, Nat.lt_of_lt_of_le hbw hl.below.size, fun i hi => ?_⟩
    rw [hl.cell (hS hv), hl.cell (hS hv), hl.cell (hS hv)]
    exact hcell i hi
set_option maxHeartbeats 4000000 in
theorem wrow_any (g base : Nat) (l : List UInt8) (A : Option Addr) (n c : Nat) (vs : List Val) (w : World) (h : Wr w g base l) (hA : Vals w A vs) (hS : vs ≠ [] → Safe w base g A) (hn : vs.length = n) (hf : ∀ x ∈ vs, FitV x) (hb : base ≤ w.heap.size) (hl : l.length ≤ 99000000) (hs : n ≤ 1000000) :
    Calls Try.prog 79/-f-/ #[.pointer (some ⟨g, 0, none⟩), .slice A n c] w fun e w' => e = .returned (.pointer (some ⟨g, 0, none⟩)) ∧ Laid g base (l ++ rowW vs) w w' := by
  subst hn
  have HL0 := Lib.hid (Laid.refl h)
  obtain ⟨_, v0, hB0, _⟩ := h
  have hgl := hB0.lt
  have HSN := Lib.hid (new_safe (W := w) (base := base) (g := g) (t := 3) (N := w.heap.size) (cs := #[.int .i64 (vs.length : Int)]) hgl (by decide) rfl)
  have HIN := Lib.hid (new_ints w w.heap.size 3 (vs.length : Int) rfl)
  have HL1 := Lib.hid (HL0.out.more hb ((Below.refl _ _).alloc (Nat.le_refl _) (.cells #[.int .i64 (vs.length : Int)] 3)))
  have HA1 := Lib.hid (hA.keep ((Below.refl _ _).alloc (Nat.le_refl _) (.cells #[.int .i64 (vs.length : Int)] 3)))
  have HS1 := Lib.hid (fun h => (hS h).laid HL1.out)
  have HF := Lib.hid hf
  have hn9 := num_len9 vs.length (by omega)
  have HT := Lib.hid (show sizesW [(vs.length : Int)] = num vs.length from by simp [sizesW])
  have HW := Lib.hid (show l ++ rowW vs = (l ++ num vs.length) ++ valsW vs from by simp [rowW])
  clear hB0 hA hS hf
  go_enter Try.func79, Try.ntmps79
  go_wp2_with (first
    | (go_at_call 60/-f-/; refine (size_any g base l _ 1 1 [(vs.length : Int)] _ HL1.out.wr HIN.out (fun _ => HSN.out) rfl (fun x hx => by simp at hx; subst hx; omega) (by simp; omega) (by omega) (by omega)).mono ?_; rintro e w1 ⟨rfl, hl1⟩; rw [HT.out] at hl1; have HL2 := Lib.hid (HL1.out.trans hl1); have HA2 := Lib.hid (vals_laid HA1.out HS1.out hl1); have HS2 := Lib.hid (fun h => (HS1.out h).laid hl1); clear hl1)
    | (go_at_call 97/-f-/; refine (wvalue_any g base (l ++ num vs.length) A vs.length c vs _ HL2.out.wr HA2.out HS2.out rfl HF.out (HL2.out.base hb) (by rw [List.length_append]; omega) hs).mono ?_; rintro e w2 ⟨rfl, hl2⟩; have HL3 := Lib.hid (HL2.out.trans hl2); clear hl2))
  go_ret
  exact ⟨rfl, by rw [HW.out]; exact HL3.out⟩
/-- A slice reads as a list of rows; laying does not touch them. -/
def Rws (w : World) (base g : Nat) (A : Option Addr) (rs : List (List Val)) : Prop :=
  rs = [] ∨ ∃ b off, A = some ⟨b, off, none⟩ ∧ b < w.heap.size ∧ ∀ i, i < rs.length → ∃ Ai ci, w.cell? ⟨b, off + i, none⟩ = some (.slice Ai (rs.getD i []).length ci) ∧ Vals w Ai (rs.getD i []) ∧ (rs.getD i [] ≠ [] → Safe w base g Ai)
theorem Rws.laid {g base : Nat} {l : List UInt8} {w w' : World} {A : Option Addr} {rs : List (List Val)} (h : Rws w base g A rs) (hS : rs ≠ [] → Safe w base g A) (hl : Laid g base l w w') : Rws w' base g A rs := by
  by_cases hv : rs = []
  · exact .inl hv
  rcases h with h | ⟨b, off, rfl, hbw, hcell⟩
  · exact .inl h
  · refine .inr ⟨b, off, rfl, Nat.lt_of_lt_of_le hbw hl.below.size, fun i hi => ?_⟩
    obtain ⟨Ai, ci, h1, h2, h3⟩ := hcell i hi
    exact ⟨Ai, ci, by rw [hl.cell (hS hv)]; exact h1, vals_laid h2 h3 hl, fun h => (h3 h).laid hl⟩
theorem rowsW_take (rs : List (List Val)) (k : Nat) (h : k < rs.length) : (rs.take (k + 1)).flatMap rowW = (rs.take k).flatMap rowW ++ rowW (rs.getD k []) := by
  rw [List.take_succ_eq_append_getElem h, List.flatMap_append]
  simp [List.getD, h]
theorem rowW_len (vs : List Val) (hf : ∀ x ∈ vs, FitV x) (hn : vs.length ≤ 1000) : (rowW vs).length ≤ 210009 := by
  unfold rowW valsW
  have h1 := num_len9 vs.length (by omega)
  have h2 := flat_len valW 210 vs (fun x hx => valW_len x (hf x hx))
  rw [List.length_append]; omega
set_option maxHeartbeats 4000000 in
theorem wrows_big (g base : Nat) (l : List UInt8) (A : Option Addr) (n c : Nat) (rs : List (List Val)) (w : World) (h : Wr w g base l) (hA : Rws w base g A rs) (hS : rs ≠ [] → Safe w base g A) (hn : rs.length = n) (hf : ∀ r ∈ rs, r.length ≤ 1000 ∧ ∀ x ∈ r, FitV x) (hb : base ≤ w.heap.size) (hl : l.length + 210009 * n ≤ 94000000) :
    Calls Try.prog 61/-f-/ #[.pointer (some ⟨g, 0, none⟩), .slice A n c] w fun e w' => e = .returned (.pointer (some ⟨g, 0, none⟩)) ∧ Laid g base (l ++ rowsW rs) w w' := by
  subst hn
  have HL0 := Lib.hid (Laid.refl h)
  obtain ⟨_, v0, hB0, _⟩ := h
  have hgl := hB0.lt
  have HSN := Lib.hid (new_safe (W := w) (base := base) (g := g) (t := 3) (N := w.heap.size) (cs := #[.int .i64 (rs.length : Int)]) hgl (by decide) rfl)
  have HIN := Lib.hid (new_ints w w.heap.size 3 (rs.length : Int) rfl)
  have HL1 := Lib.hid (HL0.out.more hb ((Below.refl _ _).alloc (Nat.le_refl _) (.cells #[.int .i64 (rs.length : Int)] 3)))
  have HA1 := Lib.hid (hA.laid hS HL1.out)
  have HS1 := Lib.hid (fun h => (hS h).laid HL1.out)
  have HF := Lib.hid hf
  have hn9 := num_len9 rs.length (by omega)
  have HT := Lib.hid (show sizesW [(rs.length : Int)] = num rs.length from by simp [sizesW])
  obtain ⟨L, hL⟩ : ∃ L, L = l ++ num rs.length := ⟨_, rfl⟩
  have hLl : L.length + 210009 * rs.length ≤ 94000009 := by rw [hL, List.length_append]; omega
  have HW := Lib.hid (show l ++ rowsW rs = L ++ rs.flatMap rowW from by simp [rowsW, hL])
  have HLE := Lib.hid hL
  clear hB0 hA hS hf hL
  go_enter Try.func61, Try.ntmps61
  go_wp2_with (first
    | (go_at_call 60/-f-/; refine (size_any g base l _ 1 1 [(rs.length : Int)] _ HL1.out.wr HIN.out (fun _ => HSN.out) rfl (fun x hx => by simp at hx; subst hx; omega) (by simp; omega) (by omega) (by omega)).mono ?_; rintro e w1 ⟨rfl, hl1⟩; rw [HT.out, ← HLE.out] at hl1; have HL2 := Lib.hid (HL1.out.trans hl1); have HA2 := Lib.hid (HA1.out.laid HS1.out hl1); have HS2 := Lib.hid (fun h => (HS1.out h).laid hl1); clear hl1))
  go_loopw [6, 14] (fun _ i wr => ∃ k : Nat, k ≤ rs.length ∧ i = .int .i64 k ∧ Laid g base (L ++ (rs.take k).flatMap rowW) w1 wr) (fun _ i _ => rs.length - (intOf i).toNat)
  case atStart => exact ⟨0, Nat.zero_le _, rfl, by simpa using Laid.refl HL2.out.wr⟩
  case round =>
    obtain ⟨k, hk, rfl, hlaid⟩ := hrel
    have hbs := hlaid.base (HL2.out.base hb)
    have HLD := Lib.hid hlaid
    by_cases hlt : k < rs.length
    · rcases HA2.out with h | ⟨b, off, rfl, hbw, hcell⟩
      · subst h; simp at hlt
      obtain ⟨Ai, ci, h1, h2, h3⟩ := hcell k hlt
      have x0 := (hlaid.cell (HS2.out (by rintro rfl; simp at hlt)) (off + k)).trans h1
      have hbw2 : b < wr.heap.size := Nat.lt_of_lt_of_le hbw hlaid.below.size
      have HV := Lib.hid (vals_laid h2 h3 hlaid)
      have HV3 := Lib.hid (fun h => (h3 h).laid hlaid)
      have HT := Lib.hid (rowsW_take rs k hlt)
      have hmem : rs.getD k [] ∈ rs := by simp [List.getD, hlt]
      have HFX := Lib.hid (HF.out _ hmem)
      have hll : (L ++ (rs.take k).flatMap rowW).length ≤ 95000000 := by
        rw [List.length_append]
        have := flat_len rowW 210009 (rs.take k) (fun x hx => rowW_len x (HF.out x (List.mem_of_mem_take hx)).2 (HF.out x (List.mem_of_mem_take hx)).1)
        have h2 : (rs.take k).length ≤ k := List.length_take_le _ _
        omega
      clear hlaid hcell h1 h2 h3 hmem
      generalize rs.getD k [] = r at *
      go_wp2_with (go_at_call 79/-f-/; refine (wrow_any g base _ Ai r.length ci r _ HLD.out.wr HV.out HV3.out rfl HFX.out.2 (by assumption) (by omega) (by have := HFX.out.1; omega)).mono ?_; rintro e w2 ⟨rfl, hl1⟩)
      go_roundw
      case rel => exact ⟨k + 1, by omega, by go_num, by rw [HT.out, ← List.append_assoc]; exact HLD.out.trans hl1⟩
      case measure => simp [intOf]; omega
    · have hkl : k = rs.length := by omega
      subst hkl
      rw [List.take_length] at HLD
      go_wp2
      go_ret
      exact ⟨rfl, by rw [HW.out]; exact HL2.out.trans HLD.out⟩
theorem wrows_any (g base : Nat) (l : List UInt8) (A : Option Addr) (n c : Nat) (rs : List (List Val)) (w : World) (h : Wr w g base l) (hA : Rws w base g A rs) (hS : rs ≠ [] → Safe w base g A) (hn : rs.length = n) (hf : ∀ r ∈ rs, r.length ≤ 1000 ∧ ∀ x ∈ r, FitV x) (hb : base ≤ w.heap.size) (hl : l.length ≤ 9000000) (hs : n ≤ 400) :
    Calls Try.prog 61/-f-/ #[.pointer (some ⟨g, 0, none⟩), .slice A n c] w fun e w' => e = .returned (.pointer (some ⟨g, 0, none⟩)) ∧ Laid g base (l ++ rowsW rs) w w' :=
  wrows_big g base l A n c rs w h hA hS hn hf hb (by omega)
theorem Wr.bs {w : World} {g base : Nat} {l : List UInt8} (h : Wr w g base l) : ∃ A c, Blk w g 109 #[.slice A l.length c] ∧ (convert 105 9 (.slice A l.length c)).run Try.prog w = .ok (.string ⟨l.toArray⟩) w := by
  obtain ⟨_, v, hB, hr⟩ := h
  obtain ⟨A, c, rfl⟩ := own_slice hr
  refine ⟨A, c, hB, ?_⟩
  by_cases hl : l = []
  · subst hl
    rw [run_convert_bytes_string w 105 9 5 A _ c Try.underlying105 Try.underlying5 Try.underlying9]
    cases A <;> rfl
  · exact hr.conv (List.length_pos_iff.2 hl)
theorem wstring_any (g base : Nat) (l : List UInt8) (w : World) (h : Wr w g base l) :
    Calls Try.prog 62/-f-/ #[.pointer (some ⟨g, 0, none⟩)] w fun e w' => e = .returned (.string ⟨l.toArray⟩) ∧ w = w' := by
  obtain ⟨A, c, hB, hcv⟩ := h.bs
  have c0 := hB.cell 0
  have hlt := hB.lt
  simp only [List.getElem?_toArray, List.getElem?_cons_zero, List.getElem?_cons_succ] at c0
  clear hB h
  go_enter Try.func62, Try.ntmps62
  go_wp2
  go_ret
  exact ⟨rfl, rfl⟩
theorem rend_any (g : Nat) (st : Option (List UInt8)) (w : World) (h : Rd w g st) :
    Calls Try.prog 59/-f-/ #[.pointer (some ⟨g, 0, none⟩)] w fun e w' => e = .returned (.bool (decide (st = some []))) ∧ w = w' := by
  have H := Lib.hid h
  clear h
  cases st with
  | none =>
    go_enter Try.func59, Try.ntmps59
    go_wp2_with (first
      | (go_at_call 56/-f-/; refine (rgood_any g none _ H.out).mono ?_; rintro e w5 ⟨rfl, rfl⟩)
      | (go_at_call 77/-f-/; refine (rlen_any g none _ H.out).mono ?_; rintro e w5 ⟨rfl, rfl⟩))
    go_ret
    exact ⟨rfl, rfl⟩
  | some l =>
    have hd : decide (some l = some ([] : List UInt8)) = ((l.length : Int) == 0) := by
      cases l with
      | nil => rfl
      | cons x t => simp; omega
    rw [hd]
    clear hd
    go_enter Try.func59, Try.ntmps59
    go_wp2_with (first
      | (go_at_call 56/-f-/; refine (rgood_any g (some l) _ H.out).mono ?_; rintro e w5 ⟨rfl, rfl⟩)
      | (go_at_call 77/-f-/; refine (rlen_any g (some l) _ H.out).mono ?_; rintro e w5 ⟨rfl, rfl⟩))
    go_ret
    exact ⟨rfl, rfl⟩
theorem rend_nil (w : World) : Calls Try.prog 59/-f-/ #[.pointer none] w fun e w' => e = .returned (.bool false) ∧ w = w' := by
  go_enter Try.func59, Try.ntmps59
  go_wp2
  go_ret
  exact ⟨rfl, rfl⟩
end Go.Proofs.Ytacangeamdcgdaa
