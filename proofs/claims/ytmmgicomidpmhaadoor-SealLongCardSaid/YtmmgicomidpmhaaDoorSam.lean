/- Texts: whether two lists are the same; joined. -/
import Derived.Test.YtmmgicomidpmhaaDoorAll
namespace Go.Proofs.YtmmgicomidpmhaaDoor
open Go.ChangeShapes Go.WideShapes Go.ChangeAt Go.RowKit
theorem alls_len (n : Nat) : ∀ l : List UInt8, l.length ≤ n → (alls l).1.length ≤ l.length := by
  induction n with
  | zero => intro l h; have h0 : l = [] := List.eq_nil_of_length_eq_zero (by omega); rw [h0, alls_nil]; simp
  | succ n ih =>
    intro l h
    by_cases h0 : l = []
    · rw [h0, alls_nil]; simp
    by_cases hk : (opened l).2.2 = 0
    · rw [alls_ok l h0 hk]
      have h1 := opened_ok l hk
      have h2 := ih (l.drop (opened l).2.1) (by rw [List.length_drop]; omega)
      rw [List.length_drop] at h2
      simp only [List.length_cons]
      omega
    · rw [alls_bad l h0 hk]; simp
theorem RowS.strs {w : World} {B : Nat} {v : Value} {l : List (List UInt8)} (h : RowS w B v l) : ∃ A c, v = .slice A l.length c ∧ Strs w A (l.map fun b => ⟨b.toArray⟩) ∧ l.length ≤ c := by
  obtain ⟨_, h⟩ := h
  rcases h with ⟨rfl, h0⟩ | ⟨g, cap, cur, rfl, hb, hh, hn, hc, hs, ht⟩
  · exact ⟨none, 0, by rw [h0], .inl (by rw [List.eq_nil_of_length_eq_zero h0]; rfl), by omega⟩
  · refine ⟨_, _, rfl, .inr ⟨g, 0, rfl, Blk.lt hh, fun i hi => ?_⟩, hn⟩
    rw [List.length_map] at hi
    rw [Nat.zero_add, Blk.cell hh i]
    have h1 : (cur.toList.take (l.length * 1))[i]? = (cellsS l)[i]? := by rw [ht]
    rw [List.getElem?_take, if_pos (by omega)] at h1
    rw [← Array.getElem?_toList, h1]
    simp [cellsS, List.getD, hi]
set_option maxHeartbeats 2000000 in
theorem same_yes (A B : Option Addr) (n c d : Nat) (xs : List ByteArray) (w : World) (hA : Strs w A xs) (hB : Strs w B xs) (hn : xs.length = n) (hs : n ≤ 1000000) :
    Calls Tryd.prog 20 #[.slice A n c, .slice B n d] w fun e w' => e = .returned (.bool true) ∧ ∃ m, w' = w.drewN m := by
  subst hn
  go_enter Tryd.func20, Tryd.ntmps20
  go_wp2
  go_loopw [5] (fun i wr => ∃ k m : Nat, k ≤ xs.length ∧ i = .int .i64 k ∧ wr = w.drewN m) (fun i _ => xs.length - (intOf i).toNat)
  case atStart => exact ⟨0, 0, Nat.zero_le _, rfl, rfl⟩
  case round =>
    obtain ⟨k, m, hk, rfl, rfl⟩ := hrel
    by_cases hlt : k < xs.length
    · rcases hA with h | ⟨b, off, rfl, hb, hcell⟩
      · subst h; simp at hlt
      rcases hB with h | ⟨b', off', rfl, hb', hcell'⟩
      · subst h; simp at hlt
      have x0 := hcell k hlt
      have y0 := hcell' k hlt
      clear hcell hcell'
      generalize xs.getD k ⟨#[]⟩ = s at *
      go_wp2
      go_quiet (fail)
      go_wp2
      go_roundw
      case rel => exact ⟨k + 1, _, by omega, by go_num, rfl⟩
      case measure => simp [intOf]; omega
    · have hkl : k = xs.length := by omega
      subst hkl
      go_wp2
      go_ret
      exact ⟨rfl, _, rfl⟩
end Go.Proofs.YtmmgicomidpmhaaDoor
