/- Contracts of the reference for package calc (affluxref01): sums, differences and products of lists of digits. -/
import Derived.Test.YtddejkmfffeikaaRefA
import Derived.RegionTactic
import Derived.Deep.QuietTactic
import Derived.Deep.RegionWith
namespace Go.Proofs.Ytddejkmfffeikaa
open Go.ChangeShapes Go.WideShapes Go.ChangeAt Go.RowKit
open Ar (val Dig Canon)
theorem Ints.at_ {w : World} {k : IntKind} {A : Option Addr} {xs : List Int} (h : Ints w k A xs) {i : Nat} (hi : i < xs.length) :
    ∃ b off, A = some ⟨b, off, none⟩ ∧ b < w.heap.size ∧ w.cell? ⟨b, off + i, none⟩ = some (.int k (xs.getD i 0)) := by
  rcases h with rfl | ⟨b, off, h1, h2, h3⟩
  · simp at hi
  · exact ⟨b, off, h1, h2, h3 i hi⟩
set_option maxRecDepth 100000 in
set_option maxHeartbeats 400000 in
theorem less_digits (A B : Option Addr) (n c m d : Nat) (X Y : List Int) (w : World) (hA : Ints w .i64 A X) (hB : Ints w .i64 B Y) (hn : X.length = n) (hm : Y.length = m) (hs : n ≤ 1000000) (hs' : m ≤ 1000000)
    (hX : Dig X) (hY : Dig Y) (cX : Canon X) (cY : Canon Y) :
    Calls Try.prog 66 #[.slice A n c, .slice B m d] w fun e w' => e = .returned (.bool (decide (val X < val Y))) ∧ Below w.heap.size w w' := by
  have HX := Lib.hid hX
  have HY := Lib.hid hY
  by_cases hne : n = m
  · subst hn
    have hne' : ((X.length : Int) != (m : Int)) = false := by simp [hne]
    have HN := Lib.hid hne
    have HM := Lib.hid hm
    clear hne hm
    go_enter Try.func66, Try.ntmps66
    go_wp2
    go_loopw [5] (fun i wr => ∃ k : Nat, k ≤ X.length ∧ i = .int .i64 ((k : Int) - 1) ∧ Hid (∀ j, k ≤ j → j < X.length → X.getD j 0 = Y.getD j 0) ∧ Below w.heap.size w wr) (fun i _ => (intOf i + 1).toNat)
    case atStart => exact ⟨X.length, Nat.le_refl _, rfl, Lib.hid (fun j h1 h2 => by omega), Below.refl _ _⟩
    case round =>
      obtain ⟨k, hk, rfl, heq, hbl⟩ := hrel
      by_cases h0 : 0 < k
      · obtain ⟨j, rfl⟩ : ∃ j, k = j + 1 := ⟨k - 1, by omega⟩
        obtain ⟨b1, o1, rfl, hb1, hc1⟩ := (hA.keep hbl).at_ (i := j) (by omega)
        obtain ⟨b2, o2, rfl, hb2, hc2⟩ := (hB.keep hbl).at_ (i := j) (by have := HM.out; have := HN.out; omega)
        have hjm : j < m := by have := HN.out; omega
        by_cases hd : X.getD j 0 = Y.getD j 0
        · have hd' : (X.getD j 0 != Y.getD j 0) = false := by simpa using hd
          have heq' := Lib.hid (show ∀ i, j ≤ i → i < X.length → X.getD i 0 = Y.getD i 0 from fun i h1 h2 => by
            by_cases h : i = j
            · subst h; exact hd
            · exact heq.out i (by omega) h2)
          clear hd
          generalize X.getD j 0 = x at *
          generalize Y.getD j 0 = y at *
          go_wp2
          go_quiet (fail)
          go_wp2
          go_roundw
          case rel => exact ⟨j, by omega, rfl, heq', below_drewN hbl _⟩
          case measure => simp [intOf]
        · have hd' : (X.getD j 0 != Y.getD j 0) = true := by simpa using hd
          have hres : decide (X.getD j 0 < Y.getD j 0) = decide (val X < val Y) := by
            have e : X.length = Y.length := by have := HN.out; have := HM.out; omega
            by_cases h : X.getD j 0 < Y.getD j 0
            · have := Ar.val_top X Y hX hY e j (by omega) (fun i h1 h2 => heq.out i (by omega) h2) h
              rw [decide_eq_true h, decide_eq_true this]
            · have := Ar.val_top Y X hY hX e.symm j (by omega) (fun i h1 h2 => (heq.out i (by omega) (by omega)).symm) (by omega)
              have h3 : ¬ val X < val Y := by omega
              rw [decide_eq_false h, decide_eq_false h3]
          have HR := Lib.hid hres
          clear hd hres
          generalize X.getD j 0 = x at *
          generalize Y.getD j 0 = y at *
          go_wp2
          go_quiet (fail)
          go_wp2
          go_quiet (fail)
          go_wp2
          go_ret
          exact ⟨ret_bool HR.out, by first | exact below_drewN hbl _ | exact below_drewN (below_drewN hbl _) _⟩
      · obtain rfl : k = 0 := by omega
        have e : X = Y := Ar.val_same X Y (by have := HN.out; have := HM.out; omega) (fun j h => heq.out j (Nat.zero_le _) h)
        have HR := Lib.hid (show false = decide (val X < val Y) from by rw [e]; simp)
        clear e
        go_wp2
        go_ret
        exact ⟨ret_bool HR.out, hbl⟩
  · have hne' : ((n : Int) != (m : Int)) = true := by simp; omega
    have hres : decide (n < m) = decide (val X < val Y) := by
      by_cases h : n < m
      · have := Ar.val_short X Y hX hY cY (by omega)
        rw [decide_eq_true this, decide_eq_true (by omega)]
      · have := Ar.val_short Y X hY hX cX (by omega)
        rw [decide_eq_false (by omega), decide_eq_false (by omega)]
    have HR := Lib.hid hres
    clear hres hne hn hm
    go_enter Try.func66, Try.ntmps66
    go_wp2
    go_ret
    exact ⟨ret_bool HR.out, Below.refl _ _⟩

theorem val_drop' (D : List Int) (n : Nat) : val (D.drop n) = D.getD n 0 + 10 * val (D.drop (n + 1)) := by
  by_cases h : n < D.length
  · exact Ar.val_drop D n h
  · rw [List.drop_eq_nil_of_le (by omega), List.drop_eq_nil_of_le (by omega)]
    simp [val, List.getD, List.getElem?_eq_none (Nat.not_lt.1 h)]
theorem add_step (o p x y c dx dy s : Int) (h : o + p * (c + (x + 10 * dx) + (y + 10 * dy)) = s) : o + p * ((x + y + c) % 10) + p * 10 * ((x + y + c) / 10 + dx + dy) = s := by
  have e : c + (x + 10 * dx) + (y + 10 * dy) = (x + y + c) % 10 + 10 * ((x + y + c) / 10 + dx + dy) := by omega
  rw [Int.mul_assoc, Int.add_assoc, ← Int.mul_add, ← e]; exact h
set_option maxRecDepth 100000 in
set_option maxHeartbeats 1000000 in
theorem add_digits (A B : Option Addr) (n c m d : Nat) (X Y : List Int) (w : World) (hA : Ints w .i64 A X) (hB : Ints w .i64 B Y) (hn : X.length = n) (hm : Y.length = m) (hs : n ≤ 100000) (hs' : m ≤ 100000)
    (hX : Dig X) (hY : Dig Y) :
    Calls Try.prog 65 #[.slice A n c, .slice B m d] w fun e w' => ∃ C l cap Z, e = .returned (.slice C l cap) ∧ Hid (Z.length = l) ∧ l ≤ cap ∧ l ≤ max n m + 1 ∧ Ints w' .i64 C Z ∧ FreshA w.heap.size C ∧ Dig Z ∧ Hid (val Z = val X + val Y) ∧ Below w.heap.size w w' := by
  obtain ⟨i0, hi, hz0, hz1, hz2⟩ := info_parts int_info
  have HN := Lib.hid hn
  have HM := Lib.hid hm
  clear hn hm
  go_enter Try.func65, Try.ntmps65
  go_wp2
  go_loopw [5, 6, 7] (fun o ca i wr => ∃ (k : Nat) (C : Int) (O : List Int), k ≤ max n m + 1 ∧ i = .int .i64 k ∧ ca = .int .i64 C ∧ 0 ≤ C ∧ C ≤ 1 ∧ (C = 1 → k ≤ max n m) ∧ Hid (O.length = k ∧ val O + 10 ^ k * (C + val (X.drop k) + val (Y.drop k)) = val X + val Y ∧ Dig O) ∧ wr.ownsRow w.heap.size 3 1 o k (O.map (Value.int .i64)) ∧ Below w.heap.size w wr) (fun _ _ i _ => max n m + 2 - (intOf i).toNat)
  case atStart => exact ⟨0, 0, [], by omega, rfl, rfl, by omega, by omega, by omega, Lib.hid ⟨rfl, by simp [val], fun d hd => by simp at hd⟩, ⟨by simp, .inl ⟨rfl, rfl⟩⟩, Below.refl _ _⟩
  case round =>
    obtain ⟨k, C, O, hk, rfl, rfl, hC0, hC1, hCk, hO, hown, hbl⟩ := hrel
    have AT1 := Lib.hid (at_any A n c k X wr (hA.keep hbl) HN.out (by omega) (by omega))
    have AT2 := Lib.hid (at_any B m d k Y wr (hB.keep hbl) HM.out (by omega) (by omega))
    have hx := hX.at_ k
    have hy := hY.at_ k
    have hst := hO.out.2.1
    rw [val_drop' X k, val_drop' Y k] at hst
    have hst' := Lib.hid (add_step _ _ _ _ _ _ _ _ hst)
    have hxk := Lib.hid (show n ≤ k → X.getD k 0 = 0 from fun h => by have := HN.out; simp [List.getD, List.getElem?_eq_none (show X.length ≤ k by omega)])
    have hyk := Lib.hid (show m ≤ k → Y.getD k 0 = 0 from fun h => by have := HM.out; simp [List.getD, List.getElem?_eq_none (show Y.length ≤ k by omega)])
    clear hst
    generalize X.getD k 0 = x at *
    generalize Y.getD k 0 = y at *
    by_cases hgo : k < n ∨ k < m ∨ 0 < C
    · have hkm : k ≤ max n m := by omega
      have hC' : (x + y + C) / 10 = 1 → k + 1 ≤ max n m := by
        intro h
        by_cases h1 : k < n
        · omega
        · by_cases h2 : k < m
          · omega
          · have := hxk.out (by omega); have := hyk.out (by omega); omega
      have hsz := hbl.size
      go_wp2_with (first | (go_at_call 74; ((with_reducible refine AT1.out.mono ?_); rintro e w1 ⟨rfl, rfl⟩)) | (go_at_call 74; ((with_reducible refine AT2.out.mono ?_); rintro e w1 ⟨rfl, rfl⟩)) | (at_builtin; refine wpList_append_own _ rfl _ _ 32 rfl w.heap.size 3 i0 (.int .i64 0) 1 8 Try.underlying32 hi hz0 hz1 hz2 rfl (by decide) _ _ _ rfl (hown.alloc _) ⟨wr.heap.size, 0, none⟩ 1 1 [.int .i64 ((x + y + C) % 10)] rfl rfl ?_ ?_ ?_ ?_ ?_ ?_; exact cell_one_new _ _ _; simp [Value.oneCell']; (unfold maxLen; omega); omega; (simp; omega); intro v1 w1 hown1 hg1 _))
      all_goals
        go_roundw
        case rel => exact ⟨k + 1, (x + y + C) / 10, O ++ [(x + y + C) % 10], by omega, by go_num, rfl, by omega, by omega, hC', Lib.hid ⟨by simp [hO.out.1], by rw [Ar.val_snoc, hO.out.1, Int.pow_succ]; exact hst'.out, hO.out.2.2.snoc (by omega) (by omega)⟩, by simpa using hown1, grown_below hbl (Nat.le_refl _) hown hg1 hsz⟩
        case measure => simp [intOf]; omega
    · obtain rfl : C = 0 := by omega
      have hv := hO.out.2.1
      rw [List.drop_eq_nil_of_le (by have := HN.out; omega), List.drop_eq_nil_of_le (by have := HM.out; omega)] at hv
      have hv' := Lib.hid (show val O = val X + val Y by simpa [val] using hv)
      obtain ⟨C', c', rfl, hI, hl, hcl⟩ := ints_of_own hown
      have HL := Lib.hid hl
      clear hv hl hst'
      go_wp2
      go_ret
      exact ⟨C', k, c', O, rfl, HL, hcl, by omega, hI, fresh_own hown, hO.out.2.2, hv', hbl⟩

theorem Ints.drewN {w : World} {k : IntKind} {A : Option Addr} {xs : List Int} (h : Ints w k A xs) (n : Nat) : Ints (w.drewN n) k A xs := h
theorem sub_step (o p x y c dx dy s : Int) (h : o + p * ((x + 10 * dx) - (y + 10 * dy) - c) = s) : o + p * ((10 + x - y - c) % 10) + p * 10 * (dx - dy - (1 - (10 + x - y - c) / 10)) = s := by
  have e : (x + 10 * dx) - (y + 10 * dy) - c = (10 + x - y - c) % 10 + 10 * (dx - dy - (1 - (10 + x - y - c) / 10)) := by omega
  rw [Int.mul_assoc, Int.add_assoc, ← Int.mul_add, ← e]; exact h
theorem sub_end (o p t s : Int) (h : o + p * t = s) (h0 : 0 ≤ o) (h1 : o < p) (hs : 0 ≤ s) (ht : t ≤ 0) : o = s := by
  by_cases h2 : t = 0
  · subst h2; simpa using h
  · have : p * t ≤ p * (-1) := Int.mul_le_mul_of_nonneg_left (by omega) (by omega)
    omega
set_option maxRecDepth 100000 in
set_option maxHeartbeats 1000000 in
theorem sub_digits (A B : Option Addr) (n c m d : Nat) (X Y : List Int) (w : World) (hA : Ints w .i64 A X) (hB : Ints w .i64 B Y) (hn : X.length = n) (hm : Y.length = m) (hs : n ≤ 100000) (hs' : m ≤ 100000)
    (hX : Dig X) (hY : Dig Y) (hle : val Y ≤ val X) :
    Calls Try.prog 67 #[.slice A n c, .slice B m d] w fun e w' => ∃ C l cap Z, e = .returned (.slice C l cap) ∧ Hid (Z.length = l) ∧ l ≤ cap ∧ l ≤ n ∧ Ints w' .i64 C Z ∧ FreshA w.heap.size C ∧ Dig Z ∧ Hid (val Z = val X - val Y) ∧ Below w.heap.size w w' := by
  obtain ⟨i0, hi, hz0, hz1, hz2⟩ := info_parts int_info
  have HN := Lib.hid hn
  have HM := Lib.hid hm
  clear hn hm
  go_enter Try.func67, Try.ntmps67
  go_wp2
  go_loopw [5, 6, 7] (fun o ca i wr => ∃ (k : Nat) (C : Int) (O : List Int), k ≤ n ∧ i = .int .i64 k ∧ ca = .int .i64 C ∧ 0 ≤ C ∧ C ≤ 1 ∧ Hid (O.length = k ∧ val O + 10 ^ k * (val (X.drop k) - val (Y.drop k) - C) = val X - val Y ∧ Dig O) ∧ wr.ownsRow w.heap.size 3 1 o k (O.map (Value.int .i64)) ∧ Below w.heap.size w wr) (fun _ _ i _ => n - (intOf i).toNat)
  case atStart => exact ⟨0, 0, [], by omega, rfl, rfl, by omega, by omega, Lib.hid ⟨rfl, by simp [val], fun d hd => by simp at hd⟩, ⟨by simp, .inl ⟨rfl, rfl⟩⟩, Below.refl _ _⟩
  case round =>
    obtain ⟨k, C, O, hk, rfl, rfl, hC0, hC1, hO, hown, hbl⟩ := hrel
    by_cases hgo : k < n
    · obtain ⟨b1, o1, rfl, hb1, hc1⟩ := (hA.keep hbl).at_ (i := k) (by have := HN.out; omega)
      have AT := Lib.hid (fun q : Nat => (at_any B m d k Y (wr.drewN q) ((hB.keep hbl).drewN q) HM.out (by omega) (by omega)).mono fun e w' (h : e = .returned (.int .i64 (Y.getD k 0)) ∧ wr.drewN q = w') => (⟨h.1, h.2.symm⟩ : e = .returned (.int .i64 (Y.getD k 0)) ∧ w' = wr.drewN q))
      have hx := hX.at_ k
      have hy := hY.at_ k
      have hst := hO.out.2.1
      rw [val_drop' X k, val_drop' Y k] at hst
      have hst' := Lib.hid (sub_step _ _ _ _ _ _ _ _ hst)
      clear hst
      generalize X.getD k 0 = x at *
      generalize Y.getD k 0 = y at *
      have hsz := hbl.size
      go_wp2
      go_quiet ((go_at_call 74; exact Calls.quiet_of_same (AT.out _)))
      rename_i nq
      have hownq : (wr.drewN nq).ownsRow w.heap.size 3 1 _ k (O.map (Value.int .i64)) := hown
      have hblq := below_drewN hbl nq
      have hszq : w.heap.size ≤ (wr.drewN nq).heap.size := hsz
      clear hown hbl AT hc1 hsz
      generalize wr.drewN nq = wq at *
      go_wp2_with (at_builtin; refine wpList_append_own _ rfl _ _ 32 rfl w.heap.size 3 i0 (.int .i64 0) 1 8 Try.underlying32 hi hz0 hz1 hz2 rfl (by decide) _ _ _ rfl (hownq.alloc _) ⟨wq.heap.size, 0, none⟩ 1 1 [.int .i64 ((10 + x - y - C) % 10)] rfl rfl ?_ ?_ ?_ ?_ ?_ ?_; exact cell_one_new _ _ _; simp [Value.oneCell']; (unfold maxLen; omega); omega; (simp; omega); intro v1 w1 hown1 hg1 _)
      all_goals
        go_roundw
        case rel => exact ⟨k + 1, 1 - (10 + x - y - C) / 10, O ++ [(10 + x - y - C) % 10], by omega, by go_num, rfl, by omega, by omega, Lib.hid ⟨by simp [hO.out.1], by rw [Ar.val_snoc, hO.out.1, Int.pow_succ]; exact hst'.out, hO.out.2.2.snoc (by omega) (by omega)⟩, by simpa using hown1, grown_below hblq (Nat.le_refl _) hownq hg1 hszq⟩
        case measure => simp [intOf]; omega
    · obtain rfl : k = n := by omega
      have hv := hO.out.2.1
      have hv0 := Ar.val_bd O hO.out.2.2
      rw [hO.out.1] at hv0
      rw [List.drop_eq_nil_of_le (by have := HN.out; omega)] at hv
      have hyd := (Ar.val_bd _ (show Dig (Y.drop k) from fun d hd => hY d (List.mem_of_mem_drop hd))).1
      have hv' := Lib.hid (sub_end _ _ _ _ hv hv0.1 hv0.2 (by omega) (by simp [val]; omega))
      obtain ⟨C', c', rfl, hI, hl, hcl⟩ := ints_of_own hown
      have HL := Lib.hid hl
      clear hv hl hv0 hyd
      go_wp2
      go_ret
      exact ⟨C', k, c', O, rfl, HL, hcl, by omega, hI, fresh_own hown, hO.out.2.2, hv', hbl⟩
end Go.Proofs.Ytddejkmfffeikaa
