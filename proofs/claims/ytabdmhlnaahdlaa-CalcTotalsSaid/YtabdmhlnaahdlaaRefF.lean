/- Contracts of the reference for package calc (affluxref01): products of lists; CalcSums. -/
import Derived.Test.YtabdmhlnaahdlaaRefE
namespace Go.Proofs.Ytabdmhlnaahdlaa
open Go.ChangeShapes Go.WideShapes Go.ChangeAt Go.RowKit
open Ar (val Dig Canon)
set_option maxHeartbeats 1000000 in
theorem product_any (A : Option Addr) (n c : Nat) (xs : List Int) (w : World) (hA : Ints w .i64 A xs) (hn : xs.length = n) (hf : Fit64 xs) (hs : n ≤ 1000) :
    Calls Try.prog 15 #[.slice A n c] w fun e w' => ∃ v, e = .returned v ∧ Num w' v (Ar.prod xs) (20 + 21 * n) w.heap.size ∧ Below w.heap.size w w' := by
  subst hn
  have OF1 := Lib.hid (fun W => of_any 1 W (by omega) (by omega))
  have zr := Blk.new w 32 #[.bool false, .slice none 0 0]
  have hbz : Below w.heap.size w (w.alloc (.cells #[.bool false, .slice none 0 0] 32)) := (Below.refl _ _).alloc (Nat.le_refl _) _
  go_enter Try.func15, Try.ntmps15
  go_wp2_with (go_at_call 17; refine (OF1.out _).mono ?_; rintro e w1 ⟨v, he, hnum, hb1⟩; obtain ⟨A1, c1, D1, hv, hI1, hfr1, hrest1⟩ := hnum.is; generalize hsb : decide ((1 : Int) < 0) = sb1 at hv; have HSB := Lib.hid hsb; clear hsb; subst hv; subst he; have HR1 := Lib.hid hrest1; have HI1 := Lib.hid hI1; clear hrest1 hI1 hnum; have yr := (zr.below hb1 zr.lt).alloc (.cells #[.bool sb1, .slice A1 D1.length c1] 32); have ys := Blk.new w1 32 #[.bool sb1, .slice A1 D1.length c1]; have hz1 := one_new hb1)
  have hbl1 := hbz.trans (hb1.mono hbz.size)
  have hbly : Below w.heap.size w (w1.alloc (.cells #[.bool sb1, .slice A1 D1.length c1] 32)) := hbl1.alloc hbl1.size _
  go_loopw [4] (fun p wr => ∃ (k : Nat) (A' : Option Addr) (c' : Nat) (D : List Int) (sb : Bool), k ≤ xs.length ∧ p = .int .i64 k ∧ Below w.heap.size w wr ∧ Blk wr w.heap.size 32 #[.bool false, .slice none 0 0] ∧ Blk wr w1.heap.size 32 #[.bool sb, .slice A' D.length c'] ∧ Hid (sb = decide (Ar.prod (xs.take k) < 0)) ∧ Ints wr .i64 A' D ∧ FreshA (w.heap.size + 1) A' ∧ Hid (∀ a, A' = some a → a.block ≠ w1.heap.size) ∧ Hid (D.length ≤ c' ∧ Dig D ∧ Canon D ∧ val D = (Ar.prod (xs.take k)).natAbs ∧ D.length ≤ 20 + 21 * k)) (fun p _ => xs.length - (intOf p).toNat)
  case atStart =>
    refine ⟨0, A1, c1, D1, sb1, Nat.zero_le _, rfl, hbly, yr, ys, Lib.hid (by rw [← HSB.out]; simp [Ar.prod]), HI1.out.keep ((Below.refl _ _).alloc (Nat.le_refl _) _), by simpa using hfr1, Lib.hid ?_, Lib.hid ?_⟩
    · intro a ha
      subst ha
      rcases HI1.out with h | ⟨b, off, h, hb, _⟩
      · have := HR1.out.2.2.2.1; rw [h] at this; simp [val] at this
      · injection h with h; subst h; show b ≠ w1.heap.size; omega
    · have := HR1.out; exact ⟨this.1, this.2.1, this.2.2.1, by rw [this.2.2.2.1]; simp [Ar.prod], this.2.2.2.2⟩
  case round =>
    obtain ⟨k, A', c', D, sb, hk, rfl, hbl, kR, kg, hsb, hI, hfr, haw, hD⟩ := hrel
    have glt := kg.lt
    have rlt := kR.lt
    have g0 := kg.cell 0
    have g1 := kg.cell 1
    have f0 := kg.frozen 0
    have f1 := kg.frozen 1
    have r0 := kR.cell 0
    have r1 := kR.cell 1
    have rf0 := kR.frozen 0
    have rf1 := kR.frozen 1
    simp at g0 g1 r0 r1
    by_cases hlt : k < xs.length
    · obtain ⟨b, off, rfl, hb, hcell⟩ := (hA.keep hbl).at_ (i := k) hlt
      have hx := hf.at_ k
      have HPT := Lib.hid (Ar.prod_take xs k hlt)
      generalize xs.getD k 0 = x at *
      have OF := Lib.hid (fun W => of_any x W hx.1 hx.2)
      go_wp2
      go_region_with (first | (go_at_call 17; refine (OF.out _).mono ?_; rintro e w2 ⟨v, he, hnum, hb2⟩; obtain ⟨A2, c2, D2, hv, hI2, hfr2, hrest2⟩ := hnum.is; generalize hsb2 : decide (x < 0) = sb2 at hv; have HSB2 := Lib.hid hsb2; clear hsb2; subst hv; subst he; have HR2 := Lib.hid hrest2; have HI2 := Lib.hid hI2; clear hrest2 hI2 hnum; have yg := (show Blk wr.drew _ _ _ from kg).below hb2 glt; have yR := (show Blk wr.drew _ _ _ from kR).below hb2 rlt; have p0 := yg.cell 0; have p1 := yg.cell 1; have p2 := (hb2.cell (p := ⟨b, off + k, none⟩) hb).trans hcell; have yglt := yg.lt; simp at p0 p1) | (go_at_call 21; refine (times_num (.agg #[.bool sb, .slice A' D.length c']) (.agg #[.bool sb2, .slice A2 D2.length c2]) (Ar.prod (xs.take k)) x (20 + 21 * k) 20 0 wr.heap.size _ ⟨A', c', D, by rw [hsb.out], (show Ints wr.drew _ _ _ from hI).keep hb2, fun a _ => Nat.zero_le _, hD.out⟩ ⟨A2, c2, D2, by rw [HSB2.out], HI2.out, hfr2, HR2.out⟩ (by omega) (by omega)).mono ?_; rintro e w3 ⟨v, he, hnum, hb3⟩; obtain ⟨A3, c3, D3, hv, hI3, hfr3, hrest3⟩ := hnum.is; generalize hsb3 : decide (Ar.prod (xs.take k) * x < 0) = sb3 at hv; have HSB3 := Lib.hid hsb3; clear hsb3; subst hv; subst he; have HR3 := Lib.hid hrest3; have HI3 := Lib.hid hI3; clear hrest3 hI3 hnum; have xg := yg.below hb3 yglt; have xR := yR.below hb3 yR.lt; have q0 := xg.cell 0; have q1 := xg.cell 1; have qf0 := xg.frozen 0; have qf1 := xg.frozen 1; have q2 := (hb3.cell (p := ⟨b, off + k, none⟩) (Nat.lt_of_lt_of_le (show b < wr.drew.heap.size from hb) hb2.size)).trans p2; have xglt := xg.lt; simp at q0 q1))
      all_goals
        go_wp2
        go_roundw
        case rel =>
          have hbw2 := hbl.drew.trans (hb2.mono hbl.drew.size)
          have hbw3 := hbw2.trans (hb3.mono hbw2.size)
          refine ⟨k + 1, A3, c3, D3, sb3, by omega, by go_num, (hbw3.setCell (by simp; omega) _).setCell (by simp; omega) _, (xR.far (by simp; omega) _).far (by simp; omega) _, (xg.put 0 _).put 1 _, Lib.hid (by rw [HPT.out, HSB3.out]), (HI3.out.store (fun a ha => ?_) _).store (fun a ha => ?_) _, hfr3.mono (by omega), Lib.hid (fun a ha => ?_), Lib.hid ⟨HR3.out.1, HR3.out.2.1, HR3.out.2.2.1, by rw [HPT.out]; exact HR3.out.2.2.2.1, by have := HR3.out.2.2.2.2; omega⟩⟩
          all_goals (have h5 := hfr3 a ha; show a.block ≠ w1.heap.size; omega)
        case measure => simp [intOf]; omega
    · obtain rfl : k = xs.length := by omega
      have hsb' := hsb.out
      have hD' := hD.out
      rw [List.take_length] at hsb' hD'
      have HSB2 := Lib.hid hsb'
      have HD := Lib.hid hD'
      clear hsb hD hsb' hD'
      go_wp2
      refine bodyPost_ret (v := .agg #[.bool sb, .slice A' D.length c']) (by simp [results, Try.results15, go_sem, r0, r1]) rfl ⟨_, rfl, ⟨A', c', D, by rw [HSB2.out], (hI.store (fun a ha => ?_) _).store (fun a ha => ?_) _, hfr.mono (by omega), HD.out⟩, (hbl.setCell (by simp) _).setCell (by simp) _⟩
      all_goals (have h5 := hfr a ha; show a.block ≠ w.heap.size; omega)
end Go.Proofs.Ytabdmhlnaahdlaa
