/- Contracts of package queue at int: what waits, and how much of it may. -/
import Derived.Test.YtmmgicomidpmhaaOff
import Derived.BigQuiet
import Derived.BigRegion
import Derived.Deep.QuietTactic
import Derived.Deep.RegionLaw
import Derived.Deep.DeepCutAuto
namespace Go.Proofs.Ytmmgicomidpmhaa
open Go.ChangeShapes Go.WideShapes Go.ChangeAt Go.RowKit
/-- How many came, went and were refused, and how many waited at most. -/
structure Tal where
  came : Int
  went : Int
  refused : Int
  most : Int
/-- A queue's six cells. -/
abbrev qCells (t : Tal) (room : Int) (v : Value) : Array Value := #[.int .i64 t.came, .int .i64 t.went, .int .i64 t.refused, .int .i64 t.most, .int .i64 room, v]
/-- Block g is a queue in which xs wait; v is its slice. -/
structure Que (w : World) (g : Nat) (t : Tal) (room : Int) (v : Value) (xs : List Int) : Prop where
  blk : Blk w g 45 (qCells t room v)
  own : w.ownsRow (g + 1) 3 1 v xs.length (xs.map (Value.int .i64))
theorem Que.row {w : World} {g : Nat} {t : Tal} {room : Int} {v : Value} {xs : List Int} (h : Que w g t room v xs) : ∃ A c, v = .slice A xs.length c ∧ Ints w .i64 A xs ∧ xs.length ≤ c := by
  obtain ⟨A, c, h1, h2, h3, h4⟩ := ints_of_own h.own
  exact ⟨A, c, h1, h2, h4⟩
theorem new_ok (room : Int) (w : World) (h1 : 1 ≤ room) (h2 : room ≤ 10000) : Calls Try.prog 7 #[.int .i64 room] w fun e w' => e = .returned (.pointer (some ⟨w.heap.size, 0, none⟩)) ∧ w' = w.alloc (.cells (qCells ⟨0, 0, 0, 0⟩ room (.slice none 0 0)) 45) := by
  go_enter Try.func7, Try.ntmps7
  go_wp2
  go_ret
  exact ⟨rfl, rfl⟩
theorem new_no (room : Int) (w : World) (h : room < 1 ∨ 10000 < room) : Calls Try.prog 7 #[.int .i64 room] w fun e w' => e = .returned (.pointer none) ∧ w = w' := by
  rcases h with h | h
  · go_enter Try.func7, Try.ntmps7
    go_wp2
    go_ret
    exact ⟨rfl, rfl⟩
  · have h' : ¬ room < 1 := by omega
    go_enter Try.func7, Try.ntmps7
    go_wp2
    go_ret
    exact ⟨rfl, rfl⟩
theorem len_any {w : World} {g : Nat} {t : Tal} {room : Int} {v : Value} {xs : List Int} (h : Que w g t room v xs) : Calls Try.prog 15 #[.pointer (some ⟨g, 0, none⟩)] w fun e w' => e = .returned (.int .i64 xs.length) ∧ w = w' := by
  obtain ⟨A, c, rfl, _, _⟩ := h.row
  have c5 := h.blk.cell 5
  simp at c5
  clear h
  go_enter Try.func15, Try.ntmps15
  go_wp2
  go_ret
  exact ⟨rfl, rfl⟩
theorem len_nil (w : World) : Calls Try.prog 15 #[.pointer none] w fun e w' => e = .returned (.int .i64 0) ∧ w = w' := by
  go_enter Try.func15, Try.ntmps15
  go_wp2
  go_ret
  exact ⟨rfl, rfl⟩
theorem free_any {w : World} {g : Nat} {t : Tal} {room : Int} {v : Value} {xs : List Int} (h : Que w g t room v xs) (h1 : 1 ≤ room) (h2 : room ≤ 10000) (h3 : xs.length ≤ 1000000) : Calls Try.prog 16 #[.pointer (some ⟨g, 0, none⟩)] w fun e w' => e = .returned (.int .i64 (room - xs.length)) ∧ ∃ n, w' = w.drewN n := by
  obtain ⟨A, c, rfl, _, _⟩ := h.row
  have c5 := h.blk.cell 5
  have c4 := h.blk.cell 4
  simp at c5 c4
  clear h
  go_enter Try.func16, Try.ntmps16
  go_wp2
  go_quiet (fail)
  go_wp2
  go_ret
  exact ⟨rfl, _, rfl⟩
theorem free_nil (w : World) : Calls Try.prog 16 #[.pointer none] w fun e w' => e = .returned (.int .i64 0) ∧ w = w' := by
  go_enter Try.func16, Try.ntmps16
  go_wp2
  go_ret
  exact ⟨rfl, rfl⟩
theorem counts_any {w : World} {g : Nat} {t : Tal} {room : Int} {v : Value} {xs : List Int} (h : Que w g t room v xs) : Calls Try.prog 13 #[.pointer (some ⟨g, 0, none⟩)] w fun e w' => e = .returned (.agg #[.int .i64 t.came, .int .i64 t.went, .int .i64 t.refused, .int .i64 t.most]) ∧ Below w.heap.size w w' := by
  have hb := h.blk
  have c0 := hb.cell 0
  have c1 := hb.cell 1
  have c2 := hb.cell 2
  have c3 := hb.cell 3
  have hlt := hb.lt
  simp at c0 c1 c2 c3
  clear hb h
  go_enter Try.func13, Try.ntmps13
  go_wp2
  refine bodyPost_ret (v := .agg #[.int .i64 t.came, .int .i64 t.went, .int .i64 t.refused, .int .i64 t.most]) (by simp [results, Try.results13, go_sem]) rfl ⟨rfl, ?_⟩
  repeat (first | exact Below.refl _ _ | (refine Below.setCell ?_ (by simp) _) | (refine Below.alloc ?_ (by simp) _))
theorem counts_nil (w : World) : Calls Try.prog 13 #[.pointer none] w fun e w' => e = .returned (.agg #[.int .i64 0, .int .i64 0, .int .i64 0, .int .i64 0]) ∧ Below w.heap.size w w' := by
  go_enter Try.func13, Try.ntmps13
  go_wp2
  refine bodyPost_ret (v := .agg #[.int .i64 0, .int .i64 0, .int .i64 0, .int .i64 0]) (by simp [results, Try.results13, go_sem]) rfl ⟨rfl, ?_⟩
  repeat (first | exact Below.refl _ _ | (refine Below.setCell ?_ (by simp) _) | (refine Below.alloc ?_ (by simp) _))
theorem at_in {w : World} {g : Nat} {t : Tal} {room : Int} {v : Value} {xs : List Int} (h : Que w g t room v xs) (i : Nat) (hi : i < xs.length) (hm : xs.length ≤ 1000000) : Calls Try.prog 14 #[.pointer (some ⟨g, 0, none⟩), .int .i64 i] w fun e w' => e = .returned (.tuple #[.int .i64 (xs.getD i 0), .bool true]) ∧ w = w' := by
  have L := Lib.hid (len_any h)
  obtain ⟨A, c, rfl, hA, hc⟩ := h.row
  rcases hA with h0 | ⟨b, off, rfl, hb, hcell⟩
  · subst h0; simp at hi
  have c5 := h.blk.cell 5
  have ci := hcell i hi
  simp at c5
  clear h hcell
  generalize xs.getD i 0 = x at *
  go_enter Try.func14, Try.ntmps14
  go_wp2_with (go_at_call 15; refine L.out.mono ?_; rintro e w1 ⟨rfl, rfl⟩)
  go_ret2
  exact ⟨rfl, rfl⟩
theorem at_out {w : World} {g : Nat} {t : Tal} {room : Int} {v : Value} {xs : List Int} (h : Que w g t room v xs) (i : Int) (hi : i < 0 ∨ xs.length ≤ i) : Calls Try.prog 14 #[.pointer (some ⟨g, 0, none⟩), .int .i64 i] w fun e w' => e = .returned (.tuple #[.int .i64 0, .bool false]) ∧ w = w' := by
  have L := Lib.hid (len_any h)
  clear h
  by_cases h0 : i < 0
  · clear hi
    go_enter Try.func14, Try.ntmps14
    go_wp2
    go_ret2
    exact ⟨rfl, rfl⟩
  · have h1 : (xs.length : Int) ≤ i := by omega
    have h2 : 0 ≤ i := by omega
    clear hi
    go_enter Try.func14, Try.ntmps14
    go_wp2_with (go_at_call 15; refine L.out.mono ?_; rintro e w1 ⟨rfl, rfl⟩)
    go_ret2
    exact ⟨rfl, rfl⟩
theorem at_nil (i : Int) (w : World) : Calls Try.prog 14 #[.pointer none, .int .i64 i] w fun e w' => e = .returned (.tuple #[.int .i64 0, .bool false]) ∧ w = w' := by
  by_cases h0 : i < 0
  · go_enter Try.func14, Try.ntmps14
    go_wp2
    go_ret2
    exact ⟨rfl, rfl⟩
  · have h2 : 0 ≤ i := by omega
    go_enter Try.func14, Try.ntmps14
    go_wp2_with (go_at_call 15; refine (len_nil _).mono ?_; rintro e w1 ⟨rfl, rfl⟩)
    go_ret2
    exact ⟨rfl, rfl⟩
theorem put_nil (A : Option Addr) (n c : Nat) (w : World) : Calls Try.prog 8 #[.pointer none, .slice A n c] w fun e w' => e = .returned (.tuple #[.int .i64 0, .int .i64 1]) ∧ w = w' := by
  go_enter Try.func8, Try.ntmps8
  go_wp2
  go_ret2
  exact ⟨rfl, rfl⟩
theorem take_nil (n : Int) (w : World) : Calls Try.prog 10 #[.pointer none, .int .i64 n] w fun e w' => e = .returned (.slice none 0 0) ∧ w = w' := by
  go_enter Try.func10, Try.ntmps10
  go_wp2_with (go_at_call 15; refine (len_nil _).mono ?_; rintro e w1 ⟨rfl, rfl⟩)
  all_goals (go_ret; exact ⟨rfl, rfl⟩)
theorem remove_nil (i : Int) (w : World) : Calls Try.prog 11 #[.pointer none, .int .i64 i] w fun e w' => e = .returned (.tuple #[.int .i64 0, .bool false]) ∧ w = w' := by
  go_enter Try.func11, Try.ntmps11
  go_wp2_with (go_at_call 14; refine (at_nil _ _).mono ?_; rintro e w1 ⟨rfl, rfl⟩)
  go_ret2
  exact ⟨rfl, rfl⟩
theorem info3 : (Try.prog.info? 3).map (fun i => (i.zero, i.size, i.bytes)) = some (some (.int .i64 0), 1, 8) := by kernel_rfl
theorem Blk.grown {w w' : World} {g : Nat} {t : TypeId} {cs : Array Value} {row : Option Nat} (h : Blk w g t cs) (hb : w.grownBy w' row) (hg : ∀ k, row = some k → k ≠ g) : Blk w' g t cs := (hb.block g h.lt (fun e => hg g e.symm rfl)).trans h
/-- The blocks that a queue turns. -/
def QS (g : Nat) (v : Value) (k : Nat) : Prop := k = g ∨ v.ownBlock = some k
theorem QS.put {a b : World} {g : Nat} {v : Value} (h : Off (QS g v) a b) (o : Nat) (u : Value) : Off (QS g v) a (b.setCell ⟨g, o, none⟩ u) := h.put (p := ⟨g, o, none⟩) (fun _ => .inl rfl) u
theorem put_end {w w1 : World} {g n : Nat} {t t' : Tal} {room a b c : Int} {v s : Value} {zs : List Int} {row : Option Nat} (HB : Blk w1 g 45 (qCells t room v)) (HO : w1.ownsRow (g + 1) 3 1 s n (zs.map (Value.int .i64))) (hr : row = v.ownBlock) (q : Nat) (HG : (w.drewN q).grownBy w1 row) (HN : s.ownBlock = row ∨ s.ownBlock = some (w.drewN q).heap.size)
    (hn : zs.length = n) (hg : g < w.heap.size) (ha : t'.came = a) (hb : t'.refused = b) (hc : t'.most = c) (hw : t'.went = t.went) :
    ∃ v', Que ((((w1.setCell ⟨g, 5, none⟩ s).setCell ⟨g, 0, none⟩ (.int .i64 a)).setCell ⟨g, 2, none⟩ (.int .i64 b)).setCell ⟨g, 3, none⟩ (.int .i64 c)).drew g t' room v' zs ∧
      Off (QS g v) w ((((w1.setCell ⟨g, 5, none⟩ s).setCell ⟨g, 0, none⟩ (.int .i64 a)).setCell ⟨g, 2, none⟩ (.int .i64 b)).setCell ⟨g, 3, none⟩ (.int .i64 c)).drew ∧ (v'.ownBlock = v.ownBlock ∨ ∃ k, v'.ownBlock = some k ∧ w.heap.size ≤ k) := by
  subst hr
  refine ⟨s, ⟨?_, ?_⟩, ?_, ?_⟩
  · have h := (((HB.put 5 s).put 0 (.int .i64 a)).put 2 (.int .i64 b)).put 3 (.int .i64 c)
    rw [ha.symm, hb.symm, hc.symm] at h ⊢
    unfold qCells
    rw [hw]
    exact h
  · rw [hn]
    have ho : ∀ x, s.ownBlock = some x → x ≠ g := fun x hx => by have := (HO.lt x hx).1; omega
    have o0 : ∀ (W : World) (p : Addr) (u : Value), p.block = g → W.ownsRow (g + 1) 3 1 s n (zs.map (Value.int .i64)) → (W.setCell p u).ownsRow (g + 1) 3 1 s n (zs.map (Value.int .i64)) := fun W p u hp h => ((Off.refl (fun k => k = g) W).put (p := p) (fun _ => hp) u).own h (fun x hx he => ho x hx he)
    exact o0 _ _ _ rfl (o0 _ _ _ rfl (o0 _ _ _ rfl (o0 _ _ _ rfl HO)))
  · exact (QS.put (QS.put (QS.put (QS.put (((Off.refl (QS g v) w).drewN q).grown HG (fun x hx _ => .inr hx)) 5 _) 0 _) 2 _) 3 _).drew
  · rcases HN with h | h
    · exact .inl h
    · exact .inr ⟨_, h, Nat.le_refl _⟩
set_option maxHeartbeats 4000000 in
theorem put_any {w : World} {g : Nat} {t : Tal} {room : Int} {v : Value} {xs ys : List Int} (h : Que w g t room v xs) (A : Option Addr) (m c : Nat) (hA : Ints w .i64 A ys) (hm : ys.length = m) (hmc : m ≤ c) (hbig : m ≤ 1000000) (h1 : 1 ≤ room) (h2 : room ≤ 10000) (h3 : (xs.length : Int) ≤ room)
    (b1 : 0 ≤ t.came ∧ t.came ≤ 1000000000000) (b2 : 0 ≤ t.refused ∧ t.refused ≤ 1000000000000) (b3 : 0 ≤ t.most ∧ t.most ≤ 1000000000000) (k : Nat) (hk : k = min m (room - xs.length).toNat) :
    Calls Try.prog 8 #[.pointer (some ⟨g, 0, none⟩), .slice A m c] w fun e w' => e = .returned (.tuple #[.int .i64 k, .int .i64 (if k < m then 18 else 0)]) ∧ ∃ v', Que w' g ⟨t.came + k, t.went, t.refused + (m - k), max t.most (xs.length + k)⟩ room v' (xs ++ ys.take k) ∧ Off (QS g v) w w' ∧ (v'.ownBlock = v.ownBlock ∨ ∃ b, v'.ownBlock = some b ∧ w.heap.size ≤ b) := by
  have FR := Lib.hid (free_any h h1 h2 (by omega))
  have hown := h.own
  have hblk := h.blk
  have hlt := hblk.lt
  have hsrc := hA.src k (by omega)
  obtain ⟨i0, hi, hz0, hz1, hz2⟩ := info_parts info3
  obtain ⟨came, went, refused, most⟩ := t
  obtain ⟨A0, c0, hv, _, _⟩ := h.row
  simp only at b1 b2 b3
  rw [show (room - xs.length : Int) = ((room - xs.length).toNat : Nat) from by omega] at FR
  have hkn : xs.length + k ≤ 1000000 := by omega
  have c0' := hblk.cell 0
  have c2' := hblk.cell 2
  have c3' := hblk.cell 3
  have c5' := hblk.cell 5
  simp at c0' c2' c3' c5'
  have HB := Lib.hid hblk
  have HO := Lib.hid hown
  have HS := Lib.hid hsrc
  have HV := Lib.hid hv
  have HM := Lib.hid hm
  generalize hf : (room - xs.length).toNat = f at *
  clear hf h hsrc hown hblk hv hm
  have hkk : (k = m ∧ m ≤ f) ∨ (k = f ∧ f < m) := by omega
  clear hk
  rcases hkk with ⟨rfl, hkf⟩ | ⟨rfl, hkf⟩
  · go_enter Try.func8, Try.ntmps8
    go_wp2_with (go_at_call 16; refine FR.out.mono ?_; rintro e w1 ⟨rfl, q, rfl⟩)
    go_region_law (refine step_append_src _ rfl _ _ 26 rfl (g + 1) 3 i0 (.int .i64 0) 1 8 Try.underlying26 hi hz0 hz1 hz2 rfl (by decide) v xs.length (xs.map (Value.int .i64)) rfl HO.out A k c _ rfl HS.out (by unfold maxLen; omega) (by omega) (by simp; omega) ?_; intro v' w1 hown1 hgrow1 hnew1; have hb1 := (HB.out.drewN _).grown hgrow1 (fun x hx => by have := (HO.out.lt x hx).1; omega); have d5 := hb1.cell 5; have f5 := hb1.frozen 5; have d0 := hb1.cell 0; have f0 := hb1.frozen 0; have d2 := hb1.cell 2; have f2 := hb1.frozen 2; have d3 := hb1.cell 3; have f3 := hb1.frozen 3; simp at d5 d0 d2 d3; have HB1 := Lib.hid hb1; clear hb1; have hown2 : w1.ownsRow (g + 1) 3 1 v' (xs.length + k) ((xs ++ ys.take k).map (Value.int .i64)) := (by rw [List.map_append]; first | exact hown1 | (rw [List.map_take]; exact hown1)); obtain ⟨A1, c1, rfl, hI1, hn1⟩ := ints_of_own hown2; have HO1 := Lib.hid hown2; clear hown1 hown2 hI1 hn1; have HG1 := Lib.hid hgrow1; clear hgrow1; have HN1 := Lib.hid hnew1; clear hnew1)
    all_goals
      go_wp2_with fail
      go_region
    all_goals go_wp2_with fail
    all_goals
      go_ret2
      refine ⟨by simp, ?_⟩
      exact put_end HB1.out HO1.out rfl (q + 1) HG1.out HN1.out (by first | (simp [HM.out]; done) | (simp [HM.out]; omega)) hlt rfl (by simp) (by simp; omega) rfl
  · have hkc : k ≤ c := by omega
    go_enter Try.func8, Try.ntmps8
    go_wp2_with (go_at_call 16; refine FR.out.mono ?_; rintro e w1 ⟨rfl, q, rfl⟩)
    go_region_law (refine step_append_src _ rfl _ _ 26 rfl (g + 1) 3 i0 (.int .i64 0) 1 8 Try.underlying26 hi hz0 hz1 hz2 rfl (by decide) v xs.length (xs.map (Value.int .i64)) rfl HO.out A k c _ rfl HS.out (by unfold maxLen; omega) (by omega) (by simp; omega) ?_; intro v' w1 hown1 hgrow1 hnew1; have hb1 := (HB.out.drewN _).grown hgrow1 (fun x hx => by have := (HO.out.lt x hx).1; omega); have d5 := hb1.cell 5; have f5 := hb1.frozen 5; have d0 := hb1.cell 0; have f0 := hb1.frozen 0; have d2 := hb1.cell 2; have f2 := hb1.frozen 2; have d3 := hb1.cell 3; have f3 := hb1.frozen 3; simp at d5 d0 d2 d3; have HB1 := Lib.hid hb1; clear hb1; have hown2 : w1.ownsRow (g + 1) 3 1 v' (xs.length + k) ((xs ++ ys.take k).map (Value.int .i64)) := (by rw [List.map_append]; first | exact hown1 | (rw [List.map_take]; exact hown1)); obtain ⟨A1, c1, rfl, hI1, hn1⟩ := ints_of_own hown2; have HO1 := Lib.hid hown2; clear hown1 hown2 hI1 hn1; have HG1 := Lib.hid hgrow1; clear hgrow1; have HN1 := Lib.hid hnew1; clear hnew1)
    all_goals
      go_wp2_with fail
      go_region
    all_goals go_wp2_with fail
    all_goals
      go_ret2
      refine ⟨by simp, ?_⟩
      exact put_end HB1.out HO1.out rfl (q + 1) HG1.out HN1.out (by first | (simp [HM.out]; done) | (simp [HM.out]; omega)) hlt rfl (by simp) (by simp; omega) rfl
end Go.Proofs.Ytmmgicomidpmhaa
