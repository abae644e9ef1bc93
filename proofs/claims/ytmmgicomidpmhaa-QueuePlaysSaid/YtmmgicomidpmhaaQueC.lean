/- Contracts of package queue at int: Take and Remove. -/
import Derived.Test.YtmmgicomidpmhaaQueB
namespace Go.Proofs.Ytmmgicomidpmhaa
open Go.ChangeShapes Go.WideShapes Go.ChangeAt Go.RowKit
theorem QS.own {a b : World} {g base n : Nat} {v s : Value} {xs : List Value} (h : Off (QS g v) a b) (k : a.ownsRow base 3 1 s n xs) (hn : ∀ x, s.ownBlock = some x → x ≠ g ∧ v.ownBlock ≠ some x) : b.ownsRow base 3 1 s n xs :=
  h.own k (fun x hx hs => by rcases hs with h1 | h1; exact (hn x hx).1 h1; exact (hn x hx).2 h1)
/-- What a queue is behind a new slice and a new count of what went. -/
theorem went_end {w w1 w2 : World} {g : Nat} {t : Tal} {room z z' : Int} {v s : Value} {zs : List Int} (HB : Blk w g 45 (qCells t room v)) (hb1 : Below w.heap.size w w1) (HO : w2.ownsRow (g + 1) 3 1 s zs.length (zs.map (Value.int .i64))) (hv : v.ownBlock ≠ some g) (HG : w1.grownBy w2 v.ownBlock) (hs : s.ownBlock = v.ownBlock) (hz : z = t.went + z') :
    Que ((w2.setCell ⟨g, 5, none⟩ s).setCell ⟨g, 1, none⟩ (.int .i64 z)) g { t with went := t.went + z' } room s zs ∧
      Off (QS g v) w ((w2.setCell ⟨g, 5, none⟩ s).setCell ⟨g, 1, none⟩ (.int .i64 z)) := by
  subst hz
  have hg := HB.lt
  have HB2 : Blk w2 g 45 (qCells t room v) := (HB.below hb1 hg).grown HG (fun k hk e => hv (by rw [hk, e]))
  refine ⟨⟨(HB2.put 5 s).put 1 _, ?_⟩, ?_⟩
  · have ho : ∀ x, s.ownBlock = some x → x ≠ g := fun x hx => by have := (HO.lt x hx).1; omega
    have o0 : ∀ (W : World) (p : Addr) (u : Value), p.block = g → W.ownsRow (g + 1) 3 1 s zs.length (zs.map (Value.int .i64)) → (W.setCell p u).ownsRow (g + 1) 3 1 s zs.length (zs.map (Value.int .i64)) := fun W p u hp h => ((Off.refl (fun k => k = g) W).put (p := p) (fun _ => hp) u).own h (fun x hx he => ho x hx he)
    exact o0 _ _ _ rfl (o0 _ _ _ rfl HO)
  · exact QS.put (QS.put ((Off.of hb1 : Off (QS g v) w w1).grown HG (fun x hx _ => .inr hx)) 5 _) 1 _
theorem take_zero {w : World} {g : Nat} {t : Tal} {room : Int} {v : Value} {xs : List Int} (h : Que w g t room v xs) (n : Int) (hn : n < 1 ∨ xs = []) (hl : xs.length ≤ 1000000) (hlo : -9223372036854775808 ≤ n) (hhi : n ≤ 9223372036854775807) :
    Calls Try.prog 10 #[.pointer (some ⟨g, 0, none⟩), .int .i64 n] w fun e w' => e = .returned (.slice none 0 0) ∧ w = w' := by
  have L := Lib.hid (len_any h)
  clear h
  have h1 : min n (xs.length : Int) < 1 := by
    rcases hn with h | h
    · omega
    · subst h; simp; omega
  clear hn
  go_enter Try.func10, Try.ntmps10
  go_wp2_with (go_at_call 15; refine L.out.mono ?_; rintro e w1 ⟨rfl, rfl⟩)
  go_ret
  exact ⟨rfl, rfl⟩
set_option maxHeartbeats 2000000 in
theorem take_some {w : World} {g : Nat} {t : Tal} {room : Int} {v : Value} {xs : List Int} (h : Que w g t room v xs) (n : Int) (k : Nat) (hk : min n (xs.length : Int) = k) (hk0 : 0 < k) (hl : xs.length ≤ 1000000) (b1 : 0 ≤ t.went ∧ t.went ≤ 1000000000000) :
    Calls Try.prog 10 #[.pointer (some ⟨g, 0, none⟩), .int .i64 n] w fun e w' => ∃ v2 v', e = .returned v2 ∧ w'.ownsRow w.heap.size 3 1 v2 k ((xs.take k).map (Value.int .i64)) ∧ Que w' g { t with went := t.went + k } room v' (xs.drop k) ∧ Off (QS g v) w w' ∧ v'.ownBlock = v.ownBlock := by
  have L := Lib.hid (len_any h)
  have hown := h.own
  have hblk := h.blk
  have hkx : k ≤ xs.length := by omega
  obtain ⟨A, c, hv, hA, hc⟩ := h.row
  have HV := Lib.hid hv
  have CL := Lib.hid (clone_ints hA k c hkx hk0 (by omega))
  have hvg : v.ownBlock ≠ some g := fun e => by have := (hown.lt g e).1; omega
  have c5 := hblk.cell 5
  have f5 := hblk.frozen 5
  have c1 := hblk.cell 1
  have f1 := hblk.frozen 1
  have hlt := hblk.lt
  simp at c5 c1
  have HB := Lib.hid hblk
  have HO := Lib.hid hown
  clear h hblk hown hA
  subst hv
  have DL := Lib.hid (fun (W : World) (hW : W.ownsRow (g + 1) 3 1 (.slice A xs.length c) xs.length (xs.map (Value.int .i64))) => delete_own hW 0 k (by omega) hkx (by omega) hl)
  simp only [List.take_zero, List.nil_append] at DL
  go_enter Try.func10, Try.ntmps10
  go_wp2_with (first | (go_at_call 15; refine L.out.mono ?_; rintro e w1 ⟨rfl, rfl⟩) | (go_at_call 17; refine CL.out.mono ?_; rintro e w1 ⟨v2, rfl, hown2, hb1⟩; obtain ⟨hcc1, hff1⟩ := bcell hb1; have HO1 := Lib.hid ((Off.of hb1 : Off (fun _ => False) w w1).own HO.out (fun _ _ h => h)); have HO2 := Lib.hid hown2; clear hown2) | (go_at_call 18; refine (DL.out _ HO1.out).mono ?_; rintro e w2 ⟨v3, rfl, hown3, hgr3, hob3⟩; obtain ⟨A3, c3, rfl, hI3, hn3⟩ := ints_of_own hown3; have HB2 := (HB.out.below hb1 hlt).grown hgr3 (fun k hk e => hvg (by rw [hk, e])); have d5 := HB2.cell 5; have e5 := HB2.frozen 5; have d1 := HB2.cell 1; have e1 := HB2.frozen 1; simp at d5 d1; have HG3 := Lib.hid hgr3; have HO3 := Lib.hid hown3; have HB3 := Lib.hid hob3; clear hgr3 hown3 hob3 HB2 hI3 hn3))
  go_ret
  have h3 := HO3.out
  have h4 := HB3.out
  rw [List.length_drop] at h3 h4
  have hE := went_end (z' := (k : Int)) (z := t.went + k) HB.out hb1 (zs := xs.drop k) (by rw [List.length_drop]; exact h3) hvg HG3.out h4 rfl
  refine ⟨v2, _, rfl, ?_, hE.1, hE.2, h4⟩
  have hx2 : ∀ x, v2.ownBlock = some x → x ≠ g ∧ (Value.slice A xs.length c).ownBlock ≠ some x := fun x hx => by
    have l1 := (HO2.out.lt x hx).1
    exact ⟨by omega, fun e => by have := (HO.out.lt x e).2; omega⟩
  exact QS.own (QS.put (QS.put ((Off.refl _ w1).grown HG3.out (fun x hx _ => .inr hx)) 5 _) 1 _) HO2.out hx2
theorem remove_out {w : World} {g : Nat} {t : Tal} {room : Int} {v : Value} {xs : List Int} (h : Que w g t room v xs) (i : Int) (hi : i < 0 ∨ xs.length ≤ i) :
    Calls Try.prog 11 #[.pointer (some ⟨g, 0, none⟩), .int .i64 i] w fun e w' => e = .returned (.tuple #[.int .i64 0, .bool false]) ∧ w = w' := by
  have L := Lib.hid (at_out h i hi)
  clear h hi
  go_enter Try.func11, Try.ntmps11
  go_wp2_with (go_at_call 14; refine L.out.mono ?_; rintro e w1 ⟨rfl, rfl⟩)
  go_ret2
  exact ⟨rfl, rfl⟩
theorem remove_in {w : World} {g : Nat} {t : Tal} {room : Int} {v : Value} {xs : List Int} (h : Que w g t room v xs) (i : Nat) (hi : i < xs.length) (hl : xs.length ≤ 1000000) (b1 : 0 ≤ t.went ∧ t.went ≤ 1000000000000) :
    Calls Try.prog 11 #[.pointer (some ⟨g, 0, none⟩), .int .i64 i] w fun e w' => ∃ v', e = .returned (.tuple #[.int .i64 (xs.getD i 0), .bool true]) ∧ Que w' g { t with went := t.went + 1 } room v' (xs.take i ++ xs.drop (i + 1)) ∧ Off (QS g v) w w' ∧ v'.ownBlock = v.ownBlock := by
  have L := Lib.hid (at_in h i hi hl)
  have hown := h.own
  have hblk := h.blk
  obtain ⟨A, c, hv, hA, hc⟩ := h.row
  have hvg : v.ownBlock ≠ some g := fun e => by have := (hown.lt g e).1; omega
  have c5 := hblk.cell 5
  have f5 := hblk.frozen 5
  have c1 := hblk.cell 1
  have f1 := hblk.frozen 1
  have hlt := hblk.lt
  simp at c5 c1
  have HB := Lib.hid hblk
  have HO := Lib.hid hown
  have DL := Lib.hid (delete_own hown i (i + 1) (by omega) (by omega) (by omega) hl)
  rw [show ((i + 1 : Nat) : Int) = (i : Int) + 1 from rfl] at DL
  have hlen : (xs.take i ++ xs.drop (i + 1)).length = xs.length - 1 := by simp; omega
  have HL := Lib.hid hlen
  clear h hblk hown hA hlen
  subst hv
  generalize xs.take i ++ xs.drop (i + 1) = zs at *
  generalize xs.getD i 0 = x at *
  go_enter Try.func11, Try.ntmps11
  go_wp2_with (first | (go_at_call 14; refine L.out.mono ?_; rintro e w1 ⟨rfl, rfl⟩) | (go_at_call 18; refine DL.out.mono ?_; rintro e w2 ⟨v3, rfl, hown3, hgr3, hob3⟩; obtain ⟨A3, c3, rfl, hI3, hn3⟩ := ints_of_own hown3; have HB2 := HB.out.grown hgr3 (fun k hk e => hvg (by rw [hk, e])); have d5 := HB2.cell 5; have e5 := HB2.frozen 5; have d1 := HB2.cell 1; have e1 := HB2.frozen 1; simp at d5 d1; have HG3 := Lib.hid hgr3; have HO3 := Lib.hid hown3; have HB3 := Lib.hid hob3; clear hgr3 hown3 hob3 HB2 hI3 hn3))
  go_ret2
  have hE := went_end (z' := (1 : Int)) (z := t.went + 1) HB.out (Below.refl _ _) (zs := zs) HO3.out hvg HG3.out HB3.out rfl
  exact ⟨_, rfl, hE.1, hE.2, HB3.out⟩
end Go.Proofs.Ytmmgicomidpmhaa
