/- The document's answers for package seal: what is framed at the beginning. -/
import Derived.Test.YtmmgicomidpmhaaDoorReg
import Derived.Deep.RegionWith
import Derived.Deep.RegionHeld3
namespace Go.Proofs.YtmmgicomidpmhaaDoor
open Go.ChangeShapes Go.WideShapes Go.ChangeAt Go.RowKit
set_option maxHeartbeats 4000000 in
theorem refopen_any (s : ByteArray) (w : World) (hs : s.size ≤ 800000) :
    Calls Tryd.prog 17 #[.string s] w fun e w' => e = .returned (.tuple #[.string ⟨(opened s.data.toList).1.toArray⟩, .int .i64 (opened s.data.toList).2.1, .int .i64 (opened s.data.toList).2.2]) ∧ Below w.heap.size w w' := by
  have hsl : s.data.toList.length = s.size := by simp
  have HSL := Lib.hid hsl
  by_cases h4 : s.size < 4
  · have HO := Lib.hid (show opened s.data.toList = ([], 0, 1) from by unfold opened; rw [if_pos (by omega)])
    clear hsl
    go_enter Tryd.func17, Tryd.ntmps17
    go_wp2
    go_ret3
    exact ⟨by rw [HO.out]; rfl, Below.refl _ _⟩
  obtain ⟨_, a, b, c, d, ht4, ha, hb, hc, hd⟩ := be4_take s.data.toList (by omega)
  have i0 : 0 < s.size := by omega
  have e0 : s[0]'i0 = a := by rw [List.getElem?_eq_getElem (by omega)] at ha; exact Option.some.inj ha
  have i1 : 1 < s.size := by omega
  have e1 : s[1]'i1 = b := by rw [List.getElem?_eq_getElem (by omega)] at hb; exact Option.some.inj hb
  have i2 : 2 < s.size := by omega
  have e2 : s[2]'i2 = c := by rw [List.getElem?_eq_getElem (by omega)] at hc; exact Option.some.inj hc
  have i3 : 3 < s.size := by omega
  have e3 : s[3]'i3 = d := by rw [List.getElem?_eq_getElem (by omega)] at hd; exact Option.some.inj hd
  have hz0 : bev (s.data.toList.take 4) = 16777216 * a.toNat + 65536 * b.toNat + 256 * c.toNat + d.toNat := by rw [ht4]; simp [bev]; omega
  have HOP := Lib.hid (show opened s.data.toList = if 65536 < bev (s.data.toList.take 4) then ([], 0, 2) else if s.size < bev (s.data.toList.take 4) + 12 then ([], 0, 1) else if Crc.le ((s.data.toList.drop (4 + bev (s.data.toList.take 4))).take 8) = Crc.sum (s.data.toList.take (4 + bev (s.data.toList.take 4))) then ((s.data.toList.drop 4).take (bev (s.data.toList.take 4)), bev (s.data.toList.take 4) + 12, 0) else ([], 0, 2) from by
    unfold opened; rw [if_neg (by rw [HSL.out]; exact h4), HSL.out])
  have HFR := Lib.hid (framed_iff s.data.toList (by omega))
  have g1 : (16777216 * (a.toNat : Int) + 65536 * (b.toNat : Int) + 256 * (c.toNat : Int) + (d.toNat : Int)) = ((bev (s.data.toList.take 4) : Nat) : Int) := by rw [hz0]; omega
  have G1 := Lib.hid g1
  have ha8 : a.toNat < 256 := a.toNat_lt
  have hb8 : b.toNat < 256 := b.toNat_lt
  have hc8 : c.toNat < 256 := c.toNat_lt
  have hd8 : d.toNat < 256 := d.toNat_lt
  clear hz0 ha hb hc hd ht4 hsl g1
  generalize bev (s.data.toList.take 4) = z at *
  go_enter Tryd.func17, Tryd.ntmps17
  go_wp2
  go_quiet (fail)
  go_upto_region 4 with fail
  rw [G1.out]
  have hn : ∀ n, ∃ m, w.drewN n = w.drewN m := fun n => ⟨n, rfl⟩
  by_cases hz : 65536 < z
  · have HO := Lib.hid (show opened s.data.toList = ([], 0, 2) from by rw [HOP.out, if_pos hz])
    go_wp2
    go_ret3
    exact ⟨by rw [HO.out]; rfl, below_drewN (Below.refl _ _) _⟩
  by_cases hz2 : s.size < z + 12
  · have HO := Lib.hid (show opened s.data.toList = ([], 0, 1) from by rw [HOP.out, if_neg hz, if_pos hz2])
    go_wp2
    go_ret3
    exact ⟨by rw [HO.out]; rfl, below_drewN (Below.refl _ _) _⟩
  have HOQ := Lib.hid (show opened s.data.toList = if Crc.le ((s.data.toList.drop (4 + z)).take 8) = Crc.sum (s.data.toList.take (4 + z)) then ((s.data.toList.drop 4).take z, z + 12, 0) else ([], 0, 2) from by rw [HOP.out, if_neg hz, if_neg hz2])
  clear HOP e0 e1 e2 e3
  go_upto_region 8 with fail
  have hbW : Below w.heap.size w (w.drewN nq) := below_drewN (Below.refl _ _) _
  generalize w.drewN nq = W at *
  clear hn
  have hX : (s.extract 4 (4 + z)).data.toList = (s.data.toList.drop 4).take z := by rw [Lib.extract_data]; simp
  have hY : (s.extract 0 (z + 12)).data.toList = s.data.toList.take (z + 12) := by rw [Lib.extract_data]; simp
  have RF := Lib.hid (fun W' => refframe_any (s.extract 4 (4 + z)) W' (by simp; omega))
  rw [hX] at RF
  have HX := Lib.hid (show s.extract 4 (4 + z) = ⟨((s.data.toList.drop 4).take z).toArray⟩ from bytes_eq (by rw [hX]))
  have HF := Lib.hid (show (ByteArray.mk (framed ((s.data.toList.drop 4).take z)).toArray).data.toList = framed ((s.data.toList.drop 4).take z) from rfl)
  generalize (ByteArray.mk (framed ((s.data.toList.drop 4).take z)).toArray) = F at *
  have HY := Lib.hid hY
  clear hX hY
  generalize hYY : s.extract 0 (z + 12) = Y at *
  have HYY := Lib.hid hYY
  clear hYY
  have k1 : 4 + (z : Int) ≤ s.size := by omega
  have k2 : (0 : Int) ≤ 4 + z := by omega
  have k3 : (z : Int) + 12 ≤ s.size := by omega
  have k4 : (0 : Int) ≤ z + 12 := by omega
  have k8 : IntKind.i64.wrap (4 + (z : Int)) = 4 + z := IntWalk.i64_in _ (by omega)
  have k9 : IntKind.i64.wrap ((z : Int) + 12) = z + 12 := IntWalk.i64_in _ (by omega)
  have k5 : (4 : Int) ≤ 4 + z := by omega
  have k6 : (4 + (z : Int)).toNat = 4 + z := by omega
  have k7 : ((z : Int) + 12).toNat = z + 12 := by omega
  by_cases hsm : Crc.le ((s.data.toList.drop (4 + z)).take 8) = Crc.sum (s.data.toList.take (4 + z))
  · have HO := Lib.hid (show opened s.data.toList = ((s.data.toList.drop 4).take z, z + 12, 0) from by rw [HOQ.out, if_pos hsm])
    have hFY : F = Y := bytes_eq (by rw [HF.out, HY.out]; exact (HFR.out (by rw [HSL.out]; omega)).2 hsm)
    subst hFY
    clear hsm HOQ
    have hyy := HYY.out
    go_region_with (go_at_call 15; refine (RF.out _).mono ?_; rintro e w1 ⟨rfl, hb1⟩)
    all_goals
      go_wp2
      go_ret3
      exact ⟨by rw [HO.out]; exact ret_sii HX.out rfl rfl, hbW.drew.trans (hb1.mono hbW.size)⟩
  · have HO := Lib.hid (show opened s.data.toList = ([], 0, 2) from by rw [HOQ.out, if_neg hsm])
    have hFY : (F.toList == Y.toList) = false := by
      rw [beq_eq_false_iff_ne, ByteArray.toList_eq, ByteArray.toList_eq, HF.out, HY.out]
      exact fun h => hsm ((HFR.out (by rw [HSL.out]; omega)).1 h)
    clear hsm HOQ
    have hyy := HYY.out
    go_region_with (go_at_call 15; refine (RF.out _).mono ?_; rintro e w1 ⟨rfl, hb1⟩)
    all_goals
      go_wp2
      go_ret3
      exact ⟨by rw [HO.out]; rfl, hbW.drew.trans (hb1.mono hbW.size)⟩
end Go.Proofs.YtmmgicomidpmhaaDoor
