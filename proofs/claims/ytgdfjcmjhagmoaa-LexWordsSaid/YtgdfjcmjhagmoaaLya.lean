/- The document's words: what may be in a name; the longest sign; lists of words. -/
import Derived.Test.YtgdfjcmjhagmoaaLxy
import Derived.Laws.DeepStrings4
namespace Go.Proofs.Ytgdfjcmjhagmoaa
open Go.ChangeShapes Go.WideShapes Go.ChangeAt Go.RowKit Go.Deep
set_option maxRecDepth 100000 in
set_option maxHeartbeats 8000000 in
theorem part_any (c : UInt8) (w : World) :
    Calls Try.prog 22/-f-/ #[.int .u8 (c.toNat : Int)] w fun e w' => e = .returned (.bool (isP c)) ∧ w = w' := by
  have HP := Lib.hid (show isP c = ((decide (97 ≤ (c.toNat : Int)) && decide ((c.toNat : Int) ≤ 122)) || (decide (65 ≤ (c.toNat : Int)) && decide ((c.toNat : Int) ≤ 90)) || (decide (48 ≤ (c.toNat : Int)) && decide ((c.toNat : Int) ≤ 57)) || decide ((c.toNat : Int) = 95)) from by
    unfold isP
    have h : ∀ a b : UInt8, decide (a ≤ b) = decide ((a.toNat : Int) ≤ (b.toNat : Int)) := fun a b => by
      rw [Bool.eq_iff_iff, decide_eq_true_eq, decide_eq_true_eq, UInt8.le_iff_toNat_le]; omega
    have h9 : (c == 95) = decide ((c.toNat : Int) = 95) := by
      rw [Bool.eq_iff_iff, beq_iff_eq, decide_eq_true_eq, ← UInt8.toNat_inj]; simp; omega
    rw [h, h, h, h, h, h, h9]; rfl)
  generalize (c.toNat : Int) = z at *
  obtain ⟨b, hb⟩ : ∃ b, b = isP c := ⟨_, rfl⟩
  rw [← hb]
  cases b with
  | true =>
    have hp := HP.out
    rw [← hb] at hp
    simp only [Bool.true_eq, Bool.or_eq_true, Bool.and_eq_true, decide_eq_true_eq] at hp
    clear HP hb
    rcases hp with ((⟨p1, p2⟩ | ⟨p1, p2⟩) | ⟨p1, p2⟩) | p1
    all_goals
      go_enter Try.func22, Try.ntmps22
      go_wp2
      all_goals
        first
        | omega
        | (go_ret
           exact ⟨ret_bool (by first | rfl | (simp; omega)), rfl⟩)
  | false =>
    have hp := HP.out
    rw [← hb] at hp
    simp only [Bool.false_eq, Bool.or_eq_false_iff, Bool.and_eq_false_iff, decide_eq_false_iff_not] at hp
    clear HP hb
    obtain ⟨⟨⟨p1, p2⟩, p3⟩, p4⟩ := hp
    have e4 : (z == 95) = false := beq_eq_false_iff_ne.2 p4
    rcases p1 with p1 | p1 <;> rcases p2 with p2 | p2 <;> rcases p3 with p3 | p3
    all_goals
      simp only [Int.not_le] at p1 p2 p3
      go_enter Try.func22, Try.ntmps22
      go_wp2
      all_goals
        first
        | omega
        | (go_ret
           exact ⟨ret_bool (by first | rfl | exact e4 | (simp; omega)), rfl⟩)
theorem info36 : (Try.prog.info? 36).map (fun i => (i.zero, i.size, i.bytes)) = some (some (.agg #[.int .i64 0, .string ⟨#[]⟩, .int .i64 0, .int .i64 0]), 4, 40) := by kernel_rfl
set_option maxRecDepth 100000 in
set_option maxHeartbeats 8000000 in
/-- Words, as the document has them. -/
theorem told_any (A : Option Addr) (c : Nat) (ws : List Wd) (w : World) (hw : Wds w A ws) (hn : ws.length ≤ 1000000) :
    Calls Try.prog 12/-f-/ #[.slice A ws.length c] w fun e w' => (∃ B d, e = .returned (.slice B ws.length d) ∧ Wds w' B ws) ∧ Below w.heap.size w w' := by
  have HW := Lib.hid hw
  obtain ⟨i0, hi, hz0, hz1, hz2⟩ := info_parts info36
  clear hw
  go_enter Try.func12, Try.ntmps12
  go_wp2
  go_loopw [3, 4] (fun v i wr => ∃ k : Nat, k ≤ ws.length ∧ i = .int .i64 k ∧ Hid (Below w.heap.size w wr) ∧ Hid (wr.ownsRow w.heap.size 36 4 v k (wcells (ws.take k)))) (fun _ i _ => ws.length - (intOf i).toNat)
  case atStart => exact ⟨0, Nat.zero_le _, rfl, Lib.hid (Below.refl _ _), Lib.hid (World.ownsRow_nil _ _ _ _)⟩
  case round =>
    obtain ⟨k, hk, rfl, hbl, hown⟩ := hrel
    obtain ⟨A0, k0, rfl⟩ := own_slice hown.out
    have hsz := hbl.out.size
    by_cases hlt : k < ws.length
    · obtain ⟨b, off, rfl, hb, x0, x1, x2, x3⟩ := wds_cell (HW.out.keep hbl.out) hlt
      have HT := Lib.hid (wcells_take ws k hlt)
      generalize ws.getD k default = x at *
      obtain ⟨kd, tx, n, p⟩ := x
      go_wp2_with (at_builtin; refine wpList_append_src _ rfl _ _ 27 rfl w.heap.size 36 i0 (.agg #[.int .i64 0, .string ⟨#[]⟩, .int .i64 0, .int .i64 0]) 4 40 Try.underlying27/-t-/ hi hz0 hz1 hz2 rfl (by decide) (.slice A0 k k0) k (wcells (ws.take k)) rfl (World.ownsRow.alloc hown.out _) (some ⟨wr.heap.size, 0, none⟩) 1 1 (wcs ⟨kd, tx, n, p⟩) rfl (Src.four wr ⟨kd, tx, n, p⟩ _) (by unfold maxLen; omega) (by omega) (by simp; omega) ?_; intro v9 w9 hown9 hgrow h9; clear h9; obtain ⟨A9, k9, rfl⟩ := own_slice hown9; have HG := Lib.hid hgrow; have HO9 := Lib.hid hown9; clear hgrow hown9)
      have HB9 := Lib.hid ((hbl.out.alloc hsz (.cells #[.int .i64 kd, .string tx, .int .i64 n, .int .i64 p] 36)).grown HG.out (by simp; omega) (fun g hg => (hown.out.lt g hg).1))
      go_roundw
      case rel => exact ⟨k + 1, hlt, by go_num, HB9, Lib.hid (by rw [← HT.out]; exact HO9.out)⟩
      case measure => simp [intOf]; omega
    · have hkl : k = ws.length := by omega
      subst hkl
      go_wp2
      go_ret
      exact ⟨⟨A0, k0, rfl, own_wds (by have := hown.out; rwa [List.take_length] at this)⟩, hbl.out⟩
set_option maxRecDepth 100000 in
set_option maxHeartbeats 8000000 in
/-- Two lists that are the same. -/
theorem same_yes (A B : Option Addr) (c d : Nat) (ws : List Wd) (w : World) (hA : Wds w A ws) (hB : Wds w B ws) (hn : ws.length ≤ 1000000) :
    Calls Try.prog 11/-f-/ #[.slice A ws.length c, .slice B ws.length d] w fun e w' => e = .returned (.bool true) ∧ Below w.heap.size w w' := by
  have HA := Lib.hid hA
  have HB := Lib.hid hB
  clear hA hB
  go_enter Try.func11, Try.ntmps11
  go_wp2
  go_loopw [5] (fun i wr => ∃ j : Nat, j ≤ ws.length ∧ i = .int .i64 j ∧ Hid (Below w.heap.size w wr)) (fun i _ => ws.length - (intOf i).toNat)
  case atStart => exact ⟨0, Nat.zero_le _, rfl, Lib.hid (Below.refl _ _)⟩
  case round =>
    obtain ⟨j, hj, rfl, hbl⟩ := hrel
    by_cases hjn : j < ws.length
    · obtain ⟨b, off, rfl, hb, x0, x1, x2, x3⟩ := wds_cell (HA.out.keep hbl.out) hjn
      obtain ⟨b4, off4, rfl, hb4, y0, y1, y2, y3⟩ := wds_cell (HB.out.keep hbl.out) hjn
      generalize ws.getD j default = x at *
      obtain ⟨kd, tx, n, p⟩ := x
      simp only at x0 x1 x2 x3 y0 y1 y2 y3
      have hk0 : (0 : Int) ≤ (j : Int) := by omega
      have hkm : (j : Int) < (ws.length : Int) := by omega
      have NE := fun W => neR_self W kd tx n p
      go_upto_region 6 with fail
      go_quiet (fail)
      go_wp2
      go_roundw
      case rel => exact ⟨j + 1, hjn, by go_num, Lib.hid (below_drewN hbl.out _)⟩
      case measure => simp [intOf]; omega
    · have hjl : j = ws.length := by omega
      subst hjl
      go_wp2
      go_ret
      exact ⟨rfl, hbl.out⟩
/-- The longest sign with which a text begins. -/
def sgnT (l : List UInt8) : List UInt8 := if two l then l.take 2 else if l.head?.any (signs.contains ·) then l.take 1 else []
theorem sgnW_eq (l : List UInt8) (hl : l ≠ []) : sgnW l = if sgnT l = [] then none else some (⟨0, ⟨(sgnT l).toArray⟩, 0, 0⟩, (sgnT l).length) := by
  unfold sgnW sgnT
  cases l with
  | nil => exact absurd rfl hl
  | cons c r =>
    by_cases h : two (c :: r) = true
    · rw [if_pos h, if_pos h]
      cases r with
      | nil => cases h
      | cons d t => rw [if_neg (by simp)]; simp
    · rw [if_neg h, if_neg h]
      by_cases h2 : (Option.any (fun x => signs.contains x) (c :: r).head?) = true
      · rw [if_pos h2, if_pos h2, if_neg (by simp)]; simp
      · rw [if_neg h2, if_neg h2, if_pos rfl]
end Go.Proofs.Ytgdfjcmjhagmoaa
