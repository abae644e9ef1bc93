/- Contracts of package stream: a border that isn't made; its name; its mark, set. -/
import Derived.Test.YtacangeamdcgdaaStr
namespace Go.Proofs.Ytacangeamdcgdaa
open Go.ChangeShapes Go.WideShapes Go.ChangeAt Go.RowKit Go.Deep
set_option maxRecDepth 100000 in
set_option maxHeartbeats 4000000 in
theorem newborder_no (nm : ByteArray) (A : Option Addr) (c : Nat) (cs : List Col) (w : World) (hnm : nm.size ≤ 9223372036854775807) (hC : Cols w A cs) (hcl : cs.length ≤ 1000000) (hcc : cs.length ≤ c) (hcf : ∀ x ∈ cs, FitC x) (hr : schB (strS nm cs) = false) :
    Calls Try.prog 11/-f-/ #[.agg #[.string nm, .slice A cs.length c]] w fun e w' => e = .returned (.tuple #[.pointer none, .int .i64 1]) ∧ Below w.heap.size w w' := by
  have b1 := below_alloc w (.cells #[.string nm, .slice A cs.length c] 24)
  have SR' := sright_any nm A c cs (w.alloc (.cells #[.string nm, .slice A cs.length c] 24)) hnm (hC.keep b1) (by omega) hcc hcf
  rw [hr] at SR'
  have SR := Lib.hid SR'
  have HB1 := Lib.hid b1
  clear SR' b1 hC hcf hr
  go_enter Try.func11, Try.ntmps11
  go_wp2_with (go_at_call 38/-f-/; (with_reducible refine SR.out.mono ?_); rintro e w2 ⟨rfl, hb2⟩; have HB2 := Lib.hid (HB1.out.trans (hb2.mono HB1.out.size)); clear hb2)
  exact bodyPost_ret (v := .tuple #[.pointer none, .int .i64 1]) (by simp [results, Try.results11, go_sem]) rfl ⟨rfl, HB2.out⟩
theorem name_any (g : Nat) (nm : ByteArray) (cs : List Col) (m : Int) (w : World) (hB : Bord w g nm cs m) :
    Calls Try.prog 13/-f-/ #[.pointer (some ⟨g, 0, none⟩)] w fun e w' => e = .returned (.string nm) ∧ w = w' := by
  obtain ⟨B, d, hblk, hcol, hcd, hfar⟩ := hB
  obtain ⟨c0, c1, c2', f0, f1, f2, l1⟩ := blk3 hblk
  go_enter Try.func13, Try.ntmps13
  go_wp2
  go_ret
  exact ⟨rfl, rfl⟩
theorem bset_any (g : Nat) (nm : ByteArray) (cs : List Col) (m k : Int) (w : World) (hB : Bord w g nm cs m) :
    Calls Try.prog 14/-f-/ #[.pointer (some ⟨g, 0, none⟩), .int .i64 k] w fun e w' => e = .returned (.int .i64 (if k < 0 then 1 else 0)) ∧ Off (fun x => x = g) w w' ∧ Bord w' g nm cs (if k < 0 then m else k) := by
  have HB := Lib.hid hB
  obtain ⟨B, d, hblk, hcol, hcd, hfar⟩ := hB
  obtain ⟨c0, c1, c2', f0, f1, f2, l1⟩ := blk3 hblk
  clear hcol hfar hblk
  by_cases hk : k < 0
  · rw [if_pos hk, if_pos hk]
    go_enter Try.func14, Try.ntmps14
    go_wp2
    go_ret
    exact ⟨rfl, Off.refl _ _, HB.out⟩
  · rw [if_neg hk, if_neg hk]
    go_enter Try.func14, Try.ntmps14
    go_wp2
    go_ret
    exact ⟨rfl, (Off.refl (fun x => x = g) w).put (p := ⟨g, 2, none⟩) (fun _ => rfl) _, HB.out.put k⟩
end Go.Proofs.Ytacangeamdcgdaa
