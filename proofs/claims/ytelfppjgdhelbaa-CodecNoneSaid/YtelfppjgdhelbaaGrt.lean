/- Contracts of package codec: whether rows are more than is asked of. -/
import Derived.Test.YtelfppjgdhelbaaOpw
import Derived.Test.YtelfppjgdhelbaaAwk
namespace Go.Proofs.Ytelfppjgdhelbaa
open Go.ChangeShapes Go.WideShapes Go.ChangeAt Go.RowKit
def greatR (rs : List (List Val)) : Bool := decide (30 < rs.length) || rs.any greatB
theorem greatR_no {rs : List (List Val)} (h : greatR rs = false) : rs.length ≤ 30 ∧ ∀ r ∈ rs, r.length ≤ 30 ∧ ∀ x ∈ r, x.s.size ≤ 300 := by
  unfold greatR at h
  rw [Bool.or_eq_false_iff, decide_eq_false_iff_not, List.any_eq_false] at h
  exact ⟨by omega, fun r hr => great_no (by simpa using h.2 r hr)⟩
set_option maxHeartbeats 4000000 in
theorem rowsgreat_any (A : Option Addr) (n c : Nat) (rs : List (List Val)) (w : World) (hA : Rowz w A rs) (hn : rs.length = n) (hf : ∀ r ∈ rs, r.length ≤ 9223372036854775807 ∧ ∀ x ∈ r, FitV x) (hs : n ≤ 9223372036854775807) :
    Calls Try.prog 8/-f-/ #[.slice A n c] w fun e w' => e = .returned (.bool (greatR rs)) ∧ w = w' := by
  subst hn
  by_cases hbig : 30 < rs.length
  · have : greatR rs = true := by simp [greatR, hbig]
    rw [this]
    clear this
    go_enter Try.func8, Try.ntmps8
    go_wp2
    go_ret
    exact ⟨rfl, rfl⟩
  have HA := Lib.hid hA
  have HF := Lib.hid hf
  clear hA hf
  go_enter Try.func8, Try.ntmps8
  go_wp2
  go_loop [3] (fun i => ∃ k : Nat, k ≤ rs.length ∧ i = .int .i64 k ∧ Hid (∀ r ∈ rs.take k, greatB r = false)) (fun i => rs.length - (intOf i).toNat)
  case atStart => exact ⟨0, Nat.zero_le _, rfl, Lib.hid (fun x hx => by simp at hx)⟩
  case round =>
    obtain ⟨k, hk, rfl, hall⟩ := hrel
    by_cases hlt : k < rs.length
    · rcases HA.out with h | ⟨b, off, rfl, hbw, hcell⟩
      · subst h; simp at hlt
      obtain ⟨Ai, ci, x0, hv⟩ := hcell k hlt
      have HFX := Lib.hid (HF.out (rs.getD k []) (by simp [List.getD, hlt]))
      have HM := Lib.hid (show rs.getD k [] ∈ rs from by simp [List.getD, hlt])
      have HT := Lib.hid (show rs.take (k + 1) = rs.take k ++ [rs.getD k []] from by rw [List.take_succ_eq_append_getElem hlt]; simp [List.getD, List.getElem?_eq_getElem hlt])
      have HV := Lib.hid hv
      clear hcell hv
      generalize rs.getD k [] = r at *
      have C := Lib.hid (refgreat_any Ai r.length ci r w HV.out rfl HFX.out.2 HFX.out.1)
      obtain ⟨q, hq⟩ : ∃ q, q = greatB r := ⟨_, rfl⟩
      rw [← hq] at C
      have HQ := Lib.hid hq
      clear hq
      cases q with
      | true =>
        go_wp2_with (go_at_call 7/-f-/; refine C.out.mono ?_; rintro e w1 ⟨rfl, rfl⟩)
        go_ret
        exact ⟨ret_bool (by
          symm
          unfold greatR
          rw [Bool.or_eq_true, List.any_eq_true]
          exact .inr ⟨r, HM.out, HQ.out.symm⟩), rfl⟩
      | false =>
        go_wp2_with (go_at_call 7/-f-/; refine C.out.mono ?_; rintro e w1 ⟨rfl, rfl⟩)
        go_round
        case rel => exact ⟨k + 1, by omega, by go_num, Lib.hid (fun y hy => by
          rw [HT.out, List.mem_append, List.mem_singleton] at hy
          rcases hy with hy | rfl
          · exact hall.out y hy
          · exact HQ.out.symm)⟩
        case measure => simp [intOf]; omega
    · have hkl : k = rs.length := by omega
      subst hkl
      rw [List.take_length] at hall
      go_wp2
      go_ret
      exact ⟨ret_bool (by
        symm
        unfold greatR
        rw [Bool.or_eq_false_iff, decide_eq_false_iff_not, List.any_eq_false]
        exact ⟨by omega, fun x hx => by have := hall.out x hx; simp [this]⟩), rfl⟩
theorem step_snd {α : Type} (d : α) (f : List UInt8 → Option (α × List UInt8)) (st : Option (List UInt8)) : (stepR d f st).2 = st.bind fun l => (f l).map (·.2) := by
  cases st with
  | none => rfl
  | some l => cases h : f l with
    | none => rw [stepR_bad _ _ _ h]; simp [h]
    | some x => obtain ⟨a, r⟩ := x; rw [stepR_ok _ _ _ _ _ h]; simp [h]
/-- Of three readers, one behind the other: what only begins what they read is bad. -/
theorem cut3 {α β γ : Type} (d1 : α) (d2 : β) (d3 : γ) {f : List UInt8 → Option (α × List UInt8)} {g : List UInt8 → Option (β × List UInt8)} {h : List UInt8 → Option (γ × List UInt8)} {x : α} {y : β} {z : γ} {a b c : List UInt8}
    (hf : Reads f x a) (hg : Reads g y b) (hh : Reads h z c) (p : List UInt8) (hp : p.length < (a ++ (b ++ c)).length) (hr : ∃ r, p ++ r = a ++ (b ++ c)) :
    (stepR d3 h (stepR d2 g (stepR d1 f (some p)).2).2).2 = none := by
  have R := (hf.bind (fun _ l => (g l).bind fun u => h u.2) (hg.bind (fun _ l => h l) hh)).cut p hp hr
  simp only [step_snd, Option.bind_some]
  cases h1 : f p with
  | none => rfl
  | some u =>
    rw [h1] at R
    simp only [Option.bind_some, Option.map_some] at R ⊢
    cases h2 : g u.2 with
    | none => rfl
    | some v =>
      rw [h2] at R
      simp only [Option.bind_some, Option.map_some] at R ⊢
      rw [R]
      rfl
theorem str_eta (s : ByteArray) : (⟨s.data.toList.toArray⟩ : ByteArray) = s := by
  apply ByteArray.ext; simp
end Go.Proofs.Ytelfppjgdhelbaa
