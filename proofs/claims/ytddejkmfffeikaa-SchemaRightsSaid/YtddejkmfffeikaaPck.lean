/- Contracts of package schema: what a row has at places; whether a row fits; and the document's answers. -/
import Derived.Test.YtddejkmfffeikaaRig
import Derived.Test.YtddejkmfffeikaaKpw
namespace Go.Proofs.Ytddejkmfffeikaa
open Go.ChangeShapes Go.WideShapes Go.ChangeAt Go.RowKit
def atV (vs : List Val) (p : Int) : Val := vs.getD p.toNat default
def pickL (vs : List Val) (xs : List Int) : List Val := if xs.all (inB vs.length) = true then xs.map (atV vs) else []
theorem own_slice {w : World} {base e size n : Nat} {v : Value} {xs : List Value} (h : w.ownsRow base e size v n xs) : ∃ A c, v = .slice A n c := by
  rcases h.2 with ⟨rfl, h0⟩ | ⟨g, cap, cur, rfl, _⟩
  · subst h0; exact ⟨_, _, rfl⟩
  · exact ⟨_, _, rfl⟩
set_option maxRecDepth 100000 in
set_option maxHeartbeats 8000000 in
theorem pick_any (A B : Option Addr) (n c m d : Nat) (vs : List Val) (xs : List Int) (w : World) (hA : Vals w A vs) (hB : Ints w .i64 B xs) (hn : vs.length = n) (hm : xs.length = m) (hf : Fit64 xs) (hs : n ≤ 1000000) (hs' : m ≤ 1000000) :
    Calls Try.prog 26/-f-/ #[.slice A n c, .slice B m d] w fun e w' => (∃ u, e = .returned u ∧ RowV w' w.heap.size u (pickL vs xs)) ∧ Below w.heap.size w w' := by
  subst hn hm
  obtain ⟨i0, hi, hz0, hz1, hz2⟩ := info_parts info35
  obtain ⟨R, hR⟩ : ∃ R, R = pickL vs xs := ⟨_, rfl⟩
  rw [← hR]
  have HR := Lib.hid hR
  have HA := Lib.hid hA
  have HB := Lib.hid hB
  have HF := Lib.hid hf
  clear hR hA hB hf
  go_enter Try.func26, Try.ntmps26
  go_wp2
  go_loopw [5, 7, 10] (fun v _ i wr => ∃ k : Nat, k ≤ xs.length ∧ i = .int .i64 k ∧ Below w.heap.size w wr ∧ RowV wr w.heap.size v ((xs.take k).map (atV vs)) ∧ Hid ((xs.take k).all (inB vs.length) = true)) (fun _ _ i _ => xs.length - (intOf i).toNat)
  case atStart => exact ⟨0, Nat.zero_le _, rfl, Below.refl _ _, World.ownsRow_nil _ _ _ _, Lib.hid rfl⟩
  case round =>
    obtain ⟨k, hk, rfl, hbl, hrow, hall⟩ := hrel
    have hsz := hbl.size
    have HROW := Lib.hid hrow
    clear hrow
    by_cases hlt : k < xs.length
    · rcases HB.out with h | ⟨b, off, rfl, hbw, hcell⟩
      · subst h; simp at hlt
      have x0 := (hbl.cell (p := ⟨b, off + k, none⟩) hbw).trans (hcell k hlt)
      have hbw2 : b < wr.heap.size := Nat.lt_of_lt_of_le hbw hsz
      have HT := Lib.hid (take_succ_i xs k hlt)
      have HT2 := Lib.hid (all_take (inB vs.length) xs k hlt)
      have HN := Lib.hid (all_fail (inB vs.length) xs k hlt)
      have hfx := HF.out.at_ k
      simp only [getD0] at HT2 HN
      clear hcell
      generalize xs.getD k 0 = x at *
      by_cases k1 : x < 0
      · have HX := Lib.hid (show R = [] from by rw [HR.out]; unfold pickL; rw [HN.out (by unfold inB; simp [show ¬ 0 ≤ x by omega])]; rfl)
        go_wp2
        go_ret
        exact ⟨⟨_, rfl, by rw [HX.out]; exact World.ownsRow_nil _ _ _ _⟩, hbl⟩
      · by_cases k2 : (vs.length : Int) ≤ x
        · have HX := Lib.hid (show R = [] from by rw [HR.out]; unfold pickL; rw [HN.out (by unfold inB; simp [show ¬ x < (vs.length : Int) by omega])]; rfl)
          go_wp2
          go_ret
          exact ⟨⟨_, rfl, by rw [HX.out]; exact World.ownsRow_nil _ _ _ _⟩, hbl⟩
        · obtain ⟨p, hp⟩ : ∃ p : Nat, x = p := ⟨x.toNat, by omega⟩
          subst hp
          have hpl : p < vs.length := by omega
          have HO := Lib.hid (show inB vs.length (p : Int) = true from by unfold inB; simp [hpl])
          rcases HA.out with h | ⟨b2, off2, rfl, hbw3, hcell⟩
          · subst h; simp at hpl
          obtain ⟨y0, y1, y2⟩ := hcell p hpl
          replace y0 := (hbl.cell (p := ⟨b2, off2 + p * 3, none⟩) hbw3).trans y0
          replace y1 := (hbl.cell (p := ⟨b2, off2 + p * 3 + 1, none⟩) hbw3).trans y1
          replace y2 := (hbl.cell (p := ⟨b2, off2 + p * 3 + 2, none⟩) hbw3).trans y2
          have hbw4 : b2 < wr.heap.size := Nat.lt_of_lt_of_le hbw3 hsz
          have HAT := Lib.hid (show atV vs (p : Int) = vs.getD p default from by unfold atV; simp)
          have hlk : ((xs.take k).map (atV vs)).length = k := by rw [List.length_map, List.length_take]; omega
          obtain ⟨acc, hacc⟩ : ∃ acc, acc = (xs.take k).map (atV vs) := ⟨_, rfl⟩
          rw [← hacc] at HROW hlk
          have HACC := Lib.hid hacc
          clear hcell hacc
          generalize vs.getD p default = y at *
          obtain ⟨yk, yn, ys⟩ := y
          simp only at y0 y1 y2
          go_wp2_with (at_builtin; refine wpList_append_src _ rfl _ _ 35 rfl w.heap.size 55 i0 (.agg #[.int .i64 0, .int .i64 0, .string ⟨#[]⟩]) 3 32 Try.underlying35/-t-/ hi hz0 hz1 hz2 rfl (by decide) u5 acc.length _ rfl (World.ownsRow.alloc HROW.out _) (some ⟨wr.heap.size, 0, none⟩) 1 1 [.int .i64 yk, .int .i64 yn, .string ys] rfl (Src.val wr ⟨yk, yn, ys⟩) (by unfold maxLen; omega) (by omega) (by simp; omega) ?_; intro v3 w3 hown3 hgr3 hnew3; have HO3 := Lib.hid hown3; have HG3 := Lib.hid hgr3; clear hown3 hgr3 hnew3)
          go_roundw
          case rel =>
            refine ⟨k + 1, by omega, by go_num, (hbl.alloc hsz _).grown HG3.out (by simp; omega) (fun g h => (HROW.out.lt g h).1), ?_, Lib.hid (by rw [HT2.out, hall.out, HO.out]; rfl)⟩
            have h3 := HO3.out
            rw [HT.out, List.map_append, ← HACC.out, List.map_singleton, HAT.out]
            unfold RowV
            rw [vcells_append, List.length_append]
            exact h3
          case measure => simp [intOf]; omega
    · have hkl : k = xs.length := by omega
      subst hkl
      rw [List.take_length] at HROW hall
      have HX := Lib.hid (show R = xs.map (atV vs) from by rw [HR.out]; unfold pickL; rw [if_pos hall.out])
      rw [← HX.out] at HROW
      obtain ⟨A5, c5, rfl⟩ := own_slice HROW.out
      go_wp2
      go_ret
      exact ⟨⟨_, rfl, HROW.out⟩, hbl⟩
end Go.Proofs.Ytddejkmfffeikaa
