/- Contracts of package seal and the document's answer: what is framed, one behind the other. -/
import Derived.Test.YtmmgicomidpmhaaDoorReo
namespace Go.Proofs.YtmmgicomidpmhaaDoor
open Go.ChangeShapes Go.WideShapes Go.ChangeAt Go.RowKit
theorem opened_ok (l : List UInt8) (h : (opened l).2.2 = 0) : 12 ≤ (opened l).2.1 ∧ (opened l).2.1 ≤ l.length := by
  unfold opened at h ⊢
  by_cases h1 : l.length < 4
  · rw [if_pos h1] at h; simp at h
  rw [if_neg h1] at h ⊢
  by_cases h2 : 65536 < bev (l.take 4)
  · rw [if_pos h2] at h; simp at h
  rw [if_neg h2] at h ⊢
  by_cases h3 : l.length < bev (l.take 4) + 12
  · rw [if_pos h3] at h; simp at h
  rw [if_neg h3] at h ⊢
  by_cases h4 : Crc.le ((l.drop (4 + bev (l.take 4))).take 8) = Crc.sum (l.take (4 + bev (l.take 4)))
  · rw [if_pos h4]; simp only; omega
  · rw [if_neg h4] at h; simp at h
/-- What is framed, one behind the other; how far; and why no further. -/
def alls (l : List UInt8) : List (List UInt8) × Nat × Nat :=
  if h : l = [] then ([], 0, 0)
  else if hk : (opened l).2.2 = 0 then ((opened l).1 :: (alls (l.drop (opened l).2.1)).1, (opened l).2.1 + (alls (l.drop (opened l).2.1)).2.1, (alls (l.drop (opened l).2.1)).2.2)
  else ([], 0, (opened l).2.2)
termination_by l.length
decreasing_by
  all_goals
    have h1 := opened_ok l hk
    have h2 : 0 < l.length := List.length_pos_iff.2 h
    rw [List.length_drop]
    omega
theorem alls_nil : alls [] = ([], 0, 0) := by rw [alls]; simp
theorem alls_bad (l : List UInt8) (h : l ≠ []) (hk : (opened l).2.2 ≠ 0) : alls l = ([], 0, (opened l).2.2) := by rw [alls, dif_neg h, dif_neg hk]
theorem alls_ok (l : List UInt8) (h : l ≠ []) (hk : (opened l).2.2 = 0) : alls l = ((opened l).1 :: (alls (l.drop (opened l).2.1)).1, (opened l).2.1 + (alls (l.drop (opened l).2.1)).2.1, (alls (l.drop (opened l).2.1)).2.2) := by
  rw [alls, dif_neg h, dif_pos hk]
/-- Texts as cells. -/
def cellsS (l : List (List UInt8)) : List Value := l.map fun b => Value.string ⟨b.toArray⟩
theorem info9 : (Tryd.prog.info? 9).map (fun i => (i.zero, i.size, i.bytes)) = some (some (.string ⟨#[]⟩), 1, 16) := by kernel_rfl
/-- A slice of the call's own that holds just these texts. -/
def RowS (w : World) (base : Nat) (v : Value) (l : List (List UInt8)) : Prop := w.ownsRow base 9 1 v l.length (cellsS l)
theorem rowS_step {w2 : World} {B n : Nat} {v' : Value} {l : List (List UInt8)} {x : List UInt8} {cs : List Value} (h : w2.ownsRow B 9 1 v' n (cs ++ [.string ⟨x.toArray⟩])) (hc : cs = cellsS l) (hn : n = l.length + 1) : RowS w2 B v' (l ++ [x]) := by
  subst hc; subst hn
  unfold RowS cellsS
  rw [List.map_append, List.length_append]
  exact h
set_option maxHeartbeats 4000000 in
theorem all_any (s : ByteArray) (w : World) (hT : QT w) (hs : s.size ≤ 800000) :
    Calls Tryd.prog 18 #[.string s] w fun e w' => ∃ v, e = .returned (.tuple #[v, .int .i64 (alls s.data.toList).2.1, .int .i64 (alls s.data.toList).2.2]) ∧ RowS w' w.heap.size v (alls s.data.toList).1 ∧ Below w.heap.size w w' := by
  have hsl : s.data.toList.length = s.size := by simp
  have HSL := Lib.hid hsl
  obtain ⟨i0, hi, hz0, hz1, hz2⟩ := info_parts info9
  clear hsl
  go_enter Tryd.func18, Tryd.ntmps18
  go_wp2
  go_loopw [5, 6] (fun v i wr => ∃ (k : Nat) (bs : List (List UInt8)), k ≤ s.size ∧ i = .int .i64 k ∧ Hid (bs.length ≤ k) ∧ Below w.heap.size w wr ∧ RowS wr w.heap.size v bs ∧ Hid (alls s.data.toList = (bs ++ (alls (s.data.toList.drop k)).1, k + (alls (s.data.toList.drop k)).2.1, (alls (s.data.toList.drop k)).2.2))) (fun _ i _ => s.size - (intOf i).toNat)
  case atStart => exact ⟨0, [], Nat.zero_le _, rfl, Lib.hid (by simp), Below.refl _ _, World.ownsRow_nil _ _ _ _, Lib.hid (by simp)⟩
  case round =>
    obtain ⟨k, bs, hk, rfl, hbk, hbl, hrow, hall⟩ := hrel
    have hsz := hbl.size
    have HROW := Lib.hid hrow
    clear hrow
    by_cases hlt : k < s.size
    · have hdx : (s.extract k s.size).data.toList = s.data.toList.drop k := by rw [Lib.extract_data, List.take_of_length_le]; rw [List.length_drop, HSL.out]; omega
      have OP := open_any (s.extract k s.size) wr (hT.below hbl hT.lt) (by simp; omega)
      rw [hdx] at OP
      have hne : s.data.toList.drop k ≠ [] := by
        intro h; have := congrArg List.length h; rw [List.length_drop, HSL.out] at this; simp at this; omega
      have hokk := opened_ok (s.data.toList.drop k)
      rw [List.length_drop, HSL.out] at hokk
      by_cases hk0 : (opened (s.data.toList.drop k)).2.2 = 0
      · have HN := Lib.hid (alls_ok _ hne hk0)
        obtain ⟨hn1, hn2⟩ := hokk hk0
        rw [List.drop_drop] at HN
        rw [hk0] at OP
        have OPH := Lib.hid OP
        clear OP hdx hne hk0 hokk
        generalize (opened (s.data.toList.drop k)).2.1 = n at *
        generalize hbo : (opened (s.data.toList.drop k)).1 = bo at *
        have hkn : k + n ≤ s.size := by omega
        clear hbo
        have HBK := hbk.out
        have hbk2 : bs.length ≤ 800000 := by omega
        clear HBK
        go_wp2_with (first | (go_at_call 16; refine OPH.out.mono ?_; rintro e w1 ⟨rfl, hb1⟩; have HR1 := Lib.hid ((Off.of hb1 : Off (fun _ => False) wr w1).own HROW.out (fun _ _ h => h)); have hsz1 := hb1.size) | (at_builtin; refine wpList_append_src _ rfl _ _ 22 rfl w.heap.size 9 i0 (.string ⟨#[]⟩) 1 16 Tryd.underlying22 hi hz0 hz1 hz2 rfl (by decide) u5 _ _ rfl (World.ownsRow.alloc HR1.out _) (some ⟨w1.heap.size, 0, none⟩) 1 1 [_] rfl (Src.one _ _ _ rfl) (by unfold maxLen; omega) (by omega) (by simp; omega) ?_; intro v' w2 hown2 hgr2 hnew2; have HO2 := Lib.hid hown2; have HG2 := Lib.hid hgr2; clear hown2 hgr2 hnew2))
        go_roundw
        case rel =>
          refine ⟨k + n, bs ++ [bo], by omega, by go_num, Lib.hid (by rw [List.length_append]; have := hbk.out; simp; omega), ((hbl.trans (hb1.mono hsz)).alloc (Nat.le_trans hsz hsz1) _).grown HG2.out (by simp; omega) (fun g h => (HR1.out.lt g h).1), rowS_step HO2.out rfl rfl, Lib.hid ?_⟩
          rw [hall.out, HN.out]
          simp [Nat.add_assoc]
        case measure => simp [intOf]; omega
      · have HN := Lib.hid (alls_bad _ hne hk0)
        have hk1 : (((opened (s.data.toList.drop k)).2.2 : Nat) : Int) ≠ 0 := by omega
        have OPH := Lib.hid OP
        clear OP hdx hne hk0 hokk
        generalize hkk : (opened (s.data.toList.drop k)).2.2 = kk at *
        generalize (opened (s.data.toList.drop k)).2.1 = n at *
        have hb9 : ((kk : Int) != 0) = true := bne_iff_ne.2 hk1
        clear hkk
        go_wp2_with (go_at_call 16; refine OPH.out.mono ?_; rintro e w1 ⟨rfl, hb1⟩; have HR1 := Lib.hid ((Off.of hb1 : Off (fun _ => False) wr w1).own HROW.out (fun _ _ h => h)))
        go_ret3
        refine ⟨u5, ?_, ?_, hbl.trans (hb1.mono hsz)⟩
        · rw [hall.out, HN.out]; simp
        · rw [hall.out, HN.out]; show RowS w1 w.heap.size u5 (bs ++ []); rw [List.append_nil]; exact HR1.out
    · have hkl : k = s.size := by omega
      subst hkl
      have hnil : s.data.toList.drop s.size = [] := List.drop_of_length_le (by rw [HSL.out]; exact Nat.le_refl _)
      have HN := Lib.hid hnil
      clear hnil
      go_wp2
      go_ret3
      refine ⟨u5, ?_, ?_, hbl⟩
      · rw [hall.out, HN.out, alls_nil]; simp
      · rw [hall.out, HN.out, alls_nil]; simpa using HROW.out
set_option maxHeartbeats 4000000 in
theorem refall_any (s : ByteArray) (w : World) (hs : s.size ≤ 800000) :
    Calls Tryd.prog 19 #[.string s] w fun e w' => ∃ v, e = .returned (.tuple #[v, .int .i64 (alls s.data.toList).2.1, .int .i64 (alls s.data.toList).2.2]) ∧ RowS w' w.heap.size v (alls s.data.toList).1 ∧ Below w.heap.size w w' := by
  have hsl : s.data.toList.length = s.size := by simp
  have HSL := Lib.hid hsl
  obtain ⟨i0, hi, hz0, hz1, hz2⟩ := info_parts info9
  clear hsl
  go_enter Tryd.func19, Tryd.ntmps19
  go_wp2
  go_loopw [5, 6] (fun v i wr => ∃ (k : Nat) (bs : List (List UInt8)), k ≤ s.size ∧ i = .int .i64 k ∧ Hid (bs.length ≤ k) ∧ Below w.heap.size w wr ∧ RowS wr w.heap.size v bs ∧ Hid (alls s.data.toList = (bs ++ (alls (s.data.toList.drop k)).1, k + (alls (s.data.toList.drop k)).2.1, (alls (s.data.toList.drop k)).2.2))) (fun _ i _ => s.size - (intOf i).toNat)
  case atStart => exact ⟨0, [], Nat.zero_le _, rfl, Lib.hid (by simp), Below.refl _ _, World.ownsRow_nil _ _ _ _, Lib.hid (by simp)⟩
  case round =>
    obtain ⟨k, bs, hk, rfl, hbk, hbl, hrow, hall⟩ := hrel
    have hsz := hbl.size
    have HROW := Lib.hid hrow
    clear hrow
    by_cases hlt : k < s.size
    · have hdx : (s.extract k s.size).data.toList = s.data.toList.drop k := by rw [Lib.extract_data, List.take_of_length_le]; rw [List.length_drop, HSL.out]; omega
      have OP := refopen_any (s.extract k s.size) wr (by simp; omega)
      rw [hdx] at OP
      have hne : s.data.toList.drop k ≠ [] := by
        intro h; have := congrArg List.length h; rw [List.length_drop, HSL.out] at this; simp at this; omega
      have hokk := opened_ok (s.data.toList.drop k)
      rw [List.length_drop, HSL.out] at hokk
      by_cases hk0 : (opened (s.data.toList.drop k)).2.2 = 0
      · have HN := Lib.hid (alls_ok _ hne hk0)
        obtain ⟨hn1, hn2⟩ := hokk hk0
        rw [List.drop_drop] at HN
        rw [hk0] at OP
        have OPH := Lib.hid OP
        clear OP hdx hne hk0 hokk
        generalize (opened (s.data.toList.drop k)).2.1 = n at *
        generalize hbo : (opened (s.data.toList.drop k)).1 = bo at *
        have hkn : k + n ≤ s.size := by omega
        clear hbo
        have HBK := hbk.out
        have hbk2 : bs.length ≤ 800000 := by omega
        clear HBK
        go_wp2_with (first | (go_at_call 17; refine OPH.out.mono ?_; rintro e w1 ⟨rfl, hb1⟩; have HR1 := Lib.hid ((Off.of hb1 : Off (fun _ => False) wr w1).own HROW.out (fun _ _ h => h)); have hsz1 := hb1.size) | (at_builtin; refine wpList_append_src _ rfl _ _ 22 rfl w.heap.size 9 i0 (.string ⟨#[]⟩) 1 16 Tryd.underlying22 hi hz0 hz1 hz2 rfl (by decide) u5 _ _ rfl (World.ownsRow.alloc HR1.out _) (some ⟨w1.heap.size, 0, none⟩) 1 1 [_] rfl (Src.one _ _ _ rfl) (by unfold maxLen; omega) (by omega) (by simp; omega) ?_; intro v' w2 hown2 hgr2 hnew2; have HO2 := Lib.hid hown2; have HG2 := Lib.hid hgr2; clear hown2 hgr2 hnew2))
        go_roundw
        case rel =>
          refine ⟨k + n, bs ++ [bo], by omega, by go_num, Lib.hid (by rw [List.length_append]; have := hbk.out; simp; omega), ((hbl.trans (hb1.mono hsz)).alloc (Nat.le_trans hsz hsz1) _).grown HG2.out (by simp; omega) (fun g h => (HR1.out.lt g h).1), rowS_step HO2.out rfl rfl, Lib.hid ?_⟩
          rw [hall.out, HN.out]
          simp [Nat.add_assoc]
        case measure => simp [intOf]; omega
      · have HN := Lib.hid (alls_bad _ hne hk0)
        have hk1 : (((opened (s.data.toList.drop k)).2.2 : Nat) : Int) ≠ 0 := by omega
        have OPH := Lib.hid OP
        clear OP hdx hne hk0 hokk
        generalize hkk : (opened (s.data.toList.drop k)).2.2 = kk at *
        generalize (opened (s.data.toList.drop k)).2.1 = n at *
        have hb9 : ((kk : Int) != 0) = true := bne_iff_ne.2 hk1
        clear hkk
        go_wp2_with (go_at_call 17; refine OPH.out.mono ?_; rintro e w1 ⟨rfl, hb1⟩; have HR1 := Lib.hid ((Off.of hb1 : Off (fun _ => False) wr w1).own HROW.out (fun _ _ h => h)))
        go_ret3
        refine ⟨u5, ?_, ?_, hbl.trans (hb1.mono hsz)⟩
        · rw [hall.out, HN.out]; simp
        · rw [hall.out, HN.out]; show RowS w1 w.heap.size u5 (bs ++ []); rw [List.append_nil]; exact HR1.out
    · have hkl : k = s.size := by omega
      subst hkl
      have hnil : s.data.toList.drop s.size = [] := List.drop_of_length_le (by rw [HSL.out]; exact Nat.le_refl _)
      have HN := Lib.hid hnil
      clear hnil
      go_wp2
      go_ret3
      refine ⟨u5, ?_, ?_, hbl⟩
      · rw [hall.out, HN.out, alls_nil]; simp
      · rw [hall.out, HN.out, alls_nil]; simpa using HROW.out
end Go.Proofs.YtmmgicomidpmhaaDoor
