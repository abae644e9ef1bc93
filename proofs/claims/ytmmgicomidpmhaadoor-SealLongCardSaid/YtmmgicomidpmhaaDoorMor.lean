/- Frames, one behind the other: plain mathematics. -/
import Derived.Test.YtmmgicomidpmhaaDoorSam
namespace Go.Proofs.YtmmgicomidpmhaaDoor
open Go.ChangeShapes Go.WideShapes Go.ChangeAt Go.RowKit
theorem framed_len (b : List UInt8) : (framed b).length = b.length + 12 := by unfold framed; rw [List.length_append, headed_len, le8_len]
theorem bev_be4 (n : Nat) (h : n < 4294967296) : bev (be4 n) = n := by
  simp only [bev, be4, List.foldl_cons, List.foldl_nil, UInt8.toNat_ofNat']
  omega
/-- What is framed at the beginning is told. -/
theorem opened_framed (b r : List UInt8) (hb : b.length ≤ 65536) : opened (framed b ++ r) = (b, b.length + 12, 0) := by
  have hl : (framed b ++ r).length = b.length + 12 + r.length := by rw [List.length_append, framed_len]
  have e : framed b ++ r = be4 b.length ++ (b ++ (le8 (Crc.sum (headed b)) ++ r)) := by unfold framed headed; simp
  have h4 : (be4 b.length).length = 4 := rfl
  have ht4 : (framed b ++ r).take 4 = be4 b.length := by rw [e, List.take_left' h4]
  have hz : bev ((framed b ++ r).take 4) = b.length := by rw [ht4, bev_be4 _ (by omega)]
  have hd4 : (framed b ++ r).drop 4 = b ++ (le8 (Crc.sum (headed b)) ++ r) := by rw [e, List.drop_left' h4]
  have e2 : framed b ++ r = headed b ++ (le8 (Crc.sum (headed b)) ++ r) := by unfold framed; simp
  have hh : (headed b).length = 4 + b.length := by rw [headed_len]; omega
  unfold opened
  rw [if_neg (by omega), hz, if_neg (by omega), if_neg (by omega)]
  have ht : (framed b ++ r).take (4 + b.length) = headed b := by rw [e2, List.take_left' hh]
  have hd : ((framed b ++ r).drop (4 + b.length)).take 8 = le8 (Crc.sum (headed b)) := by rw [e2, List.drop_left' hh, List.take_left' (le8_len _)]
  rw [ht, hd, le_le8 _ (Crc.sum_lt _), if_pos rfl, hd4, List.take_left' rfl]
def frames (l : List (List UInt8)) : List UInt8 := l.flatMap framed
/-- All frames are told as they were, whatever is cut off behind: only what is short comes behind them. -/
theorem alls_frames (l : List (List UInt8)) (hl : ∀ b ∈ l, b.length ≤ 65536) (r : List UInt8) : alls (frames l ++ r) = (l ++ (alls r).1, (frames l).length + (alls r).2.1, (alls r).2.2) := by
  induction l with
  | nil => simp [frames]
  | cons b l ih =>
    have hb := hl b (by simp)
    have e : frames (b :: l) ++ r = framed b ++ (frames l ++ r) := by simp [frames]
    have ho := opened_framed b (frames l ++ r) hb
    have hne : framed b ++ (frames l ++ r) ≠ [] := by
      intro h; have := congrArg List.length h; rw [List.length_append, framed_len] at this; simp at this
    rw [e, alls_ok _ hne (by rw [ho]), ho]
    simp only
    rw [List.drop_left' (framed_len b), ih fun x hx => hl x (by simp [hx])]
    have e3 : (frames (b :: l)).length = b.length + 12 + (frames l).length := by simp [frames, framed_len]
    rw [e3]
    simp [Nat.add_assoc]
/-- A frame that is cut off is short. -/
theorem opened_cut (b : List UInt8) (hb : b.length ≤ 65536) (k : Nat) (hk : k < b.length + 12) : (opened ((framed b).take k)).2.2 = 1 := by
  have hl : ((framed b).take k).length = k := by rw [List.length_take, framed_len]; omega
  unfold opened
  by_cases h4 : k < 4
  · rw [if_pos (by omega)]
  have ht : ((framed b).take k).take 4 = be4 b.length := by
    rw [List.take_take, Nat.min_eq_left (by omega)]
    have e : framed b = be4 b.length ++ (b ++ le8 (Crc.sum (headed b))) := by unfold framed headed; simp
    rw [e, List.take_left' (show (be4 b.length).length = 4 from rfl)]
  rw [if_neg (by omega), ht, bev_be4 _ (by omega), if_neg (by omega), if_pos (by omega)]
/-- Frames that are cut off anywhere. -/
theorem alls_cut (l : List (List UInt8)) (hl : ∀ b ∈ l, b.length ≤ 65536) : ∀ k, k ≤ (frames l).length → ∃ n, n ≤ l.length ∧ alls ((frames l).take k) = (l.take n, (frames (l.take n)).length, if k = (frames (l.take n)).length then 0 else 1) ∧ (frames (l.take n)).length ≤ k := by
  induction l with
  | nil =>
    intro k hk
    have h0 : k = 0 := by simpa [frames] using hk
    subst h0
    exact ⟨0, by simp, by simp [frames, alls_nil], by simp [frames]⟩
  | cons b l ih =>
    intro k hk
    have hb := hl b (by simp)
    have hf : frames (b :: l) = framed b ++ frames l := by simp [frames]
    have hfl : (frames (b :: l)).length = b.length + 12 + (frames l).length := by rw [hf, List.length_append, framed_len]
    by_cases h0 : k = 0
    · subst h0
      exact ⟨0, by simp, by simp [frames, alls_nil], by simp [frames]⟩
    by_cases hkb : k < b.length + 12
    · have ht : (frames (b :: l)).take k = (framed b).take k := by rw [hf, List.take_append_of_le_length (by rw [framed_len]; omega)]
      have hc := opened_cut b hb k hkb
      have hne : (framed b).take k ≠ [] := by
        intro h; have := congrArg List.length h; rw [List.length_take, framed_len] at this; simp at this; omega
      refine ⟨0, by simp, ?_, by simp [frames]⟩
      rw [ht, alls_bad _ hne (by rw [hc]; decide), hc]
      simp [frames, h0]
    · obtain ⟨n, hn, he, hle⟩ := ih (fun x hx => hl x (by simp [hx])) (k - (b.length + 12)) (by omega)
      have ht : (frames (b :: l)).take k = frames [b] ++ (frames l).take (k - (b.length + 12)) := by
        rw [hf, show k = (framed b).length + (k - (b.length + 12)) from by rw [framed_len]; omega, List.take_length_add_append]
        simp [frames, framed_len]
      have hx := alls_frames [b] (fun x hx => by simp at hx; subst hx; exact hb) ((frames l).take (k - (b.length + 12)))
      have h1 : (frames [b]).length = b.length + 12 := by simp [frames, framed_len]
      have h2 : (frames ((b :: l).take (n + 1))).length = b.length + 12 + (frames (l.take n)).length := by simp [frames, framed_len]
      refine ⟨n + 1, by simp; omega, ?_, by omega⟩
      rw [ht, hx, he, h1, h2]
      simp only [List.take_succ_cons, List.singleton_append, Prod.mk.injEq, true_and]
      by_cases hk9 : k - (b.length + 12) = (frames (l.take n)).length
      · rw [if_pos hk9, if_pos (by omega)]
      · rw [if_neg hk9, if_neg (by omega)]
end Go.Proofs.YtmmgicomidpmhaaDoor
