/- Contracts of package value: which of two rows stands first; and the document's answer. -/
import Derived.Test.YtddejkmfffeikaaCmq
import Derived.BigQuiet
import Derived.Deep.QuietTactic
namespace Go.Proofs.Ytddejkmfffeikaa
open Go.ChangeShapes Go.WideShapes Go.ChangeAt Go.RowKit
def valRows : List Val → List Val → Int
  | [], [] => 0
  | [], _ :: _ => -1
  | _ :: _, [] => 1
  | a :: xs, b :: ys => if valCmp a b ≠ 0 then valCmp a b else valRows xs ys
theorem valRows_at (xs ys : List Val) (k : Nat) (h1 : k < xs.length) (h2 : k < ys.length) : valRows (xs.drop k) (ys.drop k) = if valCmp (xs.getD k default) (ys.getD k default) ≠ 0 then valCmp (xs.getD k default) (ys.getD k default) else valRows (xs.drop (k + 1)) (ys.drop (k + 1)) := by
  rw [List.drop_eq_getElem_cons h1, List.drop_eq_getElem_cons h2, valRows]
  simp [List.getD, List.getElem?_eq_getElem h1, List.getElem?_eq_getElem h2]
theorem valRows_end (xs ys : List Val) (k : Nat) (h : ¬ (k < xs.length ∧ k < ys.length)) (h1 : k ≤ xs.length) (h2 : k ≤ ys.length) : valRows (xs.drop k) (ys.drop k) = if xs.length = ys.length then 0 else if xs.length < ys.length then -1 else 1 := by
  by_cases ha : xs.length = k
  · rw [List.drop_eq_nil_of_le (by omega)]
    by_cases hb : ys.length = k
    · rw [List.drop_eq_nil_of_le (by omega), if_pos (by omega)]; rfl
    · rw [List.drop_eq_getElem_cons (show k < ys.length by omega), if_neg (by omega), if_pos (by omega)]; rfl
  · have hb : ys.length = k := by omega
    rw [List.drop_eq_nil_of_le (show ys.length ≤ k by omega), List.drop_eq_getElem_cons (show k < xs.length by omega), if_neg (by omega), if_neg (by omega)]; rfl
set_option maxRecDepth 100000 in
set_option maxHeartbeats 8000000 in
theorem refrows_any (A B : Option Addr) (n c m d : Nat) (xs ys : List Val) (w : World) (hA : Vals w A xs) (hB : Vals w B ys) (hn : xs.length = n) (hm : ys.length = m) (hs : n ≤ 1000000) (hs' : m ≤ 1000000) :
    Calls Try.prog 29/-f-/ #[.slice A n c, .slice B m d] w fun e w' => e = .returned (.int .i64 (valRows xs ys)) ∧ Below w.heap.size w w' := by
  subst hn hm
  have HA := Lib.hid hA
  have HB := Lib.hid hB
  clear hA hB
  go_enter Try.func29/-f-/, Try.ntmps29/-f-/
  go_wp2
  go_loopw [5] (fun i wr => ∃ k : Nat, k ≤ xs.length ∧ k ≤ ys.length ∧ i = .int .i64 k ∧ Below w.heap.size w wr ∧ Hid (valRows xs ys = valRows (xs.drop k) (ys.drop k))) (fun i _ => xs.length - (intOf i).toNat)
  case atStart => exact ⟨0, Nat.zero_le _, Nat.zero_le _, rfl, Below.refl _ _, Lib.hid rfl⟩
  case round =>
    obtain ⟨k, hk, hk', rfl, hbl, heq⟩ := hrel
    have hsz := hbl.size
    by_cases hin : k < xs.length ∧ k < ys.length
    · obtain ⟨hi1, hi2⟩ := hin
      have HR := Lib.hid (valRows_at xs ys k hi1 hi2)
      obtain ⟨b1, o1, rfl, hb1, hz1, x0, x1, x2⟩ := HA.out.at_ hbl k hi1
      obtain ⟨b2, o2, rfl, hb2, hz2, y0, y1, y2⟩ := HB.out.at_ hbl k hi2
      generalize xs.getD k default = x at *
      generalize ys.getD k default = y at *
      have RC := Lib.hid (fun W => refcmp_any x y W)
      generalize valCmp x y = cc at *
      go_upto_region 4 with fail
      go_region_with (go_at_call 50/-f-/; (with_reducible refine (RC.out _).mono ?_); rintro e w1 ⟨rfl, hbe⟩; have HBE := Lib.hid hbe; clear hbe)
      all_goals
        by_cases hc : cc = 0
        · have hc0 : (cc == 0) = true := by rw [hc]; rfl
          have HC := Lib.hid hc
          clear hc
          go_wp2
          go_roundw
          case rel => exact ⟨k + 1, by omega, by omega, by go_num, (hbl.drew).trans (HBE.out.mono (by simpa using hsz)), Lib.hid (by rw [heq.out, HR.out, HC.out]; simp)⟩
          case measure => simp [intOf]; omega
        · have hc0 : (cc == 0) = false := beq_eq_false_iff_ne.2 hc
          have HC := Lib.hid hc
          clear hc
          go_wp2
          go_ret
          exact ⟨ret_int (by rw [heq.out, HR.out, if_pos HC.out]), (hbl.drew).trans (HBE.out.mono (by simpa using hsz))⟩
    · have HE := Lib.hid (heq.out.trans (valRows_end xs ys k hin hk hk'))
      by_cases h1 : k < xs.length
      · have h2 : ¬ k < ys.length := fun h => hin ⟨h1, h⟩
        have h3 : ((xs.length : Int) == ys.length) = false := beq_eq_false_iff_ne.2 (by omega)
        clear hin
        go_wp2
        go_ret
        exact ⟨ret_int (by rw [HE.out, if_neg (by omega), if_neg (by omega)]), hbl⟩
      · by_cases h2 : xs.length = ys.length
        · have h3 : ((xs.length : Int) == ys.length) = true := by rw [h2]; exact beq_self_eq_true _
          have HL := Lib.hid h2
          clear hin h2
          go_wp2
          go_ret
          exact ⟨ret_int (by rw [HE.out, if_pos HL.out]), hbl⟩
        · have h3 : ((xs.length : Int) == ys.length) = false := beq_eq_false_iff_ne.2 (by omega)
          have h4 : xs.length < ys.length := by omega
          clear hin h2
          go_wp2
          go_ret
          exact ⟨ret_int (by rw [HE.out, if_neg (by omega), if_pos (by omega)]), hbl⟩
end Go.Proofs.Ytddejkmfffeikaa
