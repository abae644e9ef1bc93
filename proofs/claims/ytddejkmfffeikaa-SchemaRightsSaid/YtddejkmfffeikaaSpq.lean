/- Contracts of package value: places; and the document's answer. -/
import Derived.Test.YtddejkmfffeikaaRefD
import Derived.Test.YtddejkmfffeikaaVlc
import Derived.BigQuiet
import Derived.Deep.QuietTactic
import Derived.Deep.DeepCutAuto
namespace Go.Proofs.Ytddejkmfffeikaa
open Go.ChangeShapes Go.WideShapes Go.ChangeAt Go.RowKit
/-- The sum of a text's bytes, each times its place. -/
def wsum : List UInt8 → Nat → Nat
  | [], _ => 0
  | c :: l, i => (i + 1) * c.toNat + wsum l (i + 1)
theorem wsum_snoc (l : List UInt8) (c : UInt8) : ∀ i, wsum (l ++ [c]) i = wsum l i + (i + l.length + 1) * c.toNat := by
  induction l with
  | nil => intro i; simp [wsum]
  | cons d r ih =>
    intro i
    simp only [List.cons_append, wsum, ih, List.length_cons]
    rw [show i + 1 + r.length + 1 = i + (r.length + 1) + 1 from by omega]
    omega
theorem wsum_take (s : ByteArray) (k : Nat) (h : k < s.size) : wsum (s.data.toList.take (k + 1)) 0 = wsum (s.data.toList.take k) 0 + (k + 1) * s[k].toNat := by
  rw [List.take_succ_eq_append_getElem (by simpa using h), wsum_snoc, List.length_take, Nat.min_eq_left (by simp; omega)]
  rw [Nat.zero_add]; rfl
theorem tmod_nat (a n : Nat) : ((a : Int)).tmod (n : Int) = ((a % n : Nat) : Int) := by
  rw [Int.tmod_eq_emod_of_nonneg (Int.natCast_nonneg _)]; rfl
set_option maxHeartbeats 4000000 in
theorem weight_any (s : ByteArray) (n : Nat) (w : World) (hn : 0 < n) (hn2 : n ≤ 1000000) (hs : s.size ≤ 1000) :
    Calls Try.prog 62/-f-/ #[.string s, .int .u64 n] w fun e w' => e = .returned (.int .i64 ((wsum s.data.toList 0 % n : Nat) : Int)) ∧ w = w' := by
  go_enter Try.func62/-f-/, Try.ntmps62/-f-/
  go_wp2
  go_loop [5, 9] (fun v i => ∃ k : Nat, k ≤ s.size ∧ i = .int .i64 k ∧ v = .int .u64 ((wsum (s.data.toList.take k) 0 % n : Nat) : Int)) (fun _ i => s.size - (intOf i).toNat)
  case atStart => exact ⟨0, Nat.zero_le _, rfl, by simp [wsum]⟩
  case round =>
    obtain ⟨k, hk, rfl, rfl⟩ := hrel
    by_cases hlt : k < s.size
    · have hw := wsum_take s k hlt
      have hb := s[k].toNat_lt
      have hp : (k + 1) * s[k].toNat ≤ 1001 * 256 := Nat.mul_le_mul (by omega) (by omega)
      have m1 := tmod_nat ((k + 1) * s[k].toNat) n
      have hl1 : wsum (s.data.toList.take k) 0 % n < n := Nat.mod_lt _ hn
      have hl2 : (k + 1) * s[k].toNat % n < n := Nat.mod_lt _ hn
      have m2 := tmod_nat (wsum (s.data.toList.take k) 0 % n + (k + 1) * s[k].toNat % n) n
      have m3 : (wsum (s.data.toList.take k) 0 % n + (k + 1) * s[k].toNat % n) % n = wsum (s.data.toList.take (k + 1)) 0 % n := by rw [hw, ← Nat.add_mod]
      rw [m3] at m2
      have hpc : ((s[k].toNat : Int) * ((k : Int) + 1)) = (((k + 1) * s[k].toNat : Nat) : Int) := by rw [Nat.mul_comm]; push_cast; rfl
      have hac : (((wsum (s.data.toList.take k) 0 % n : Nat) : Int) + (((k + 1) * s[k].toNat % n : Nat) : Int)) = ((wsum (s.data.toList.take k) 0 % n + (k + 1) * s[k].toNat % n : Nat) : Int) := by push_cast; rfl
      have M2 := Lib.hid m2
      have HAC := Lib.hid hac
      have M1 := Lib.hid m1
      have HPC := Lib.hid hpc
      have h1 : (0 : Int) ≤ (s[k].toNat : Int) * ((k : Int) + 1) := by rw [hpc]; omega
      have h2 : (s[k].toNat : Int) * ((k : Int) + 1) ≤ 300000 := by rw [hpc]; omega
      have q1 : ((s[k].toNat : Int) * ((k : Int) + 1)).tmod n = (((k + 1) * s[k].toNat % n : Nat) : Int) := by rw [hpc]; exact m1
      clear m1 m2 m3 hac hw hpc hp hb
      generalize wsum (s.data.toList.take k) 0 % n = a at *
      generalize (k + 1) * s[k].toNat % n = b at *
      obtain ⟨r, hr⟩ : ∃ r, r = wsum (s.data.toList.take (k + 1)) 0 % n := ⟨_, rfl⟩
      rw [← hr] at M2
      have HR := Lib.hid hr
      clear hr
      have q2 : ((a : Int) + (b : Int)).tmod n = (r : Int) := by rw [HAC.out]; exact M2.out
      have hc256 := s[k].toNat_lt
      have HFIN := Lib.hid (show (IntKind.u64.wrap ((a : Int) + (IntKind.u64.wrap (IntKind.u64.wrap (s[k].toNat : Int) * ((k : Int) + 1))).tmod (n : Int))).tmod (n : Int) = (r : Int) from by
        rw [show IntKind.u64.wrap (s[k].toNat : Int) = (s[k].toNat : Int) from by simp only [IntKind.wrap_u64]; omega, show IntKind.u64.wrap ((s[k].toNat : Int) * ((k : Int) + 1)) = (s[k].toNat : Int) * ((k : Int) + 1) from by simp only [IntKind.wrap_u64]; omega, q1, show IntKind.u64.wrap ((a : Int) + (b : Int)) = (a : Int) + b from by simp only [IntKind.wrap_u64]; omega, q2])
      clear q1 q2 hc256 h1 h2
      go_wp2
      go_round
      case rel => exact ⟨k + 1, by omega, by go_num, by rw [HFIN.out, HR.out]⟩
      case measure => simp [intOf]; omega
    · have hkl : k = s.size := by omega
      subst hkl
      rw [List.take_of_length_le (by simp)]
      have hl1 : wsum s.data.toList 0 % n < n := Nat.mod_lt _ hn
      obtain ⟨a, ha⟩ : ∃ a, a = wsum s.data.toList 0 % n := ⟨_, rfl⟩
      rw [← ha] at hl1 ⊢
      have HA := Lib.hid ha
      clear ha
      go_wp2
      go_ret
      exact ⟨ret_int (by rw [HA.out]; rfl), rfl⟩
/-- A value's place, of so many. -/
def spreadV (x : Val) (n : Nat) : Int := (x.n + (wsum x.s.data.toList 0 : Nat)) % (n : Int)
theorem spread_zero (x : Val) (n : Int) (w : World) (hn : n < 1) :
    Calls Try.prog 46/-f-/ #[.agg #[.int .i64 x.k, .int .i64 x.n, .string x.s], .int .i64 n] w fun e w' => e = .returned (.int .i64 0) ∧ Below w.heap.size w w' := by
  go_enter Try.func46/-f-/, Try.ntmps46/-f-/
  go_wp2
  go_ret
  exact ⟨rfl, (Below.refl _ _).alloc (Nat.le_refl _) _⟩
set_option maxHeartbeats 4000000 in
theorem spread_any (x : Val) (n : Nat) (w : World) (hf : FitV x) (hr : rightB x.k x.n x.s = true) (hn : 0 < n) (hn2 : n ≤ 1000000) :
    Calls Try.prog 46/-f-/ #[.agg #[.int .i64 x.k, .int .i64 x.n, .string x.s], .int .i64 n] w fun e w' => e = .returned (.int .i64 (spreadV x n)) ∧ Below w.heap.size w w' := by
  obtain ⟨k, m, s⟩ := x
  have hm := hf.n
  simp only at hr hm ⊢
  unfold spreadV
  simp only
  have hmod : ∀ a : Int, Ar.modV a n = a % (n : Int) := fun a => by
    unfold Ar.modV
    rw [if_neg (by omega), Int.fmod_eq_emod_of_nonneg _ (by omega)]
  have hmE : Ar.modE (n : Int) = 0 := by unfold Ar.modE; rw [if_neg (by omega)]
  have MD := Lib.hid (fun W => mod_any m n W hm.1 hm.2 (by omega) (by omega))
  rw [hmod, hmE] at MD
  clear hmE
  by_cases h2 : k = 2
  · subst h2
    rw [rightB_2] at hr
    simp at hr
    obtain ⟨rfl, hz⟩ := hr
    have WG := Lib.hid (fun W => weight_any s n W hn hn2 (by omega))
    have e : ((0 : Int) + (wsum s.data.toList 0 : Nat)) % (n : Int) = ((wsum s.data.toList 0 % n : Nat) : Int) := by rw [Int.zero_add]; rfl
    rw [e]
    clear e hmod
    generalize wsum s.data.toList 0 % n = a at *
    go_enter Try.func46/-f-/, Try.ntmps46/-f-/
    go_wp2_with (go_at_call 62/-f-/; (with_reducible refine (WG.out _).mono ?_); rintro e w1 ⟨rfl, rfl⟩)
    go_ret
    exact ⟨rfl, (Below.refl _ _).alloc (Nat.le_refl _) _⟩
  have hs : s = ⟨#[]⟩ := by
    unfold rightB at hr
    simp only [Bool.or_eq_true, Bool.and_eq_true, decide_eq_true_eq, beq_iff_eq] at hr
    rcases hr with (h | h) | h
    · exact h.2
    · exact absurd h.1.1 h2
    · exact h.2
  subst hs
  have e : ((m : Int) + (wsum (⟨#[]⟩ : ByteArray).data.toList 0 : Nat)) % (n : Int) = m % (n : Int) := by simp [wsum]
  rw [e]
  have hlo := Int.emod_nonneg m (b := (n : Int)) (by omega)
  have hhi := Int.emod_lt_of_pos m (b := (n : Int)) (by omega)
  clear e hmod
  generalize m % (n : Int) = r at *
  have hk13 : k = 1 ∨ k = 3 := by
    unfold rightB at hr
    simp only [Bool.or_eq_true, Bool.and_eq_true, decide_eq_true_eq, beq_iff_eq] at hr
    rcases hr with (h | h) | h
    · exact .inl h.1
    · exact absurd h.1.1 h2
    · exact .inr h.1.1
  clear hr h2
  rcases hk13 with rfl | rfl
  all_goals
    go_enter Try.func46/-f-/, Try.ntmps46/-f-/
    go_wp2_with (go_at_call 61/-f-/; (with_reducible refine (MD.out _).mono ?_); rintro e w1 ⟨rfl, rfl⟩)
    go_ret
    exact ⟨rfl, (Below.refl _ _).alloc (Nat.le_refl _) _⟩
open Ar in
theorem dig_step (D : List Int) (hD : Dig D) (i n : Nat) (hi : i < D.length) : (10 * (val (D.drop (i + 1)) % (n : Int)) + D.getD i 0) % (n : Int) = val (D.drop i) % (n : Int) := by
  rw [val_drop D i hi, Int.add_emod, Int.mul_emod, Int.emod_emod_of_dvd _ (Int.dvd_refl _), ← Int.mul_emod, ← Int.add_emod]
  congr 1
  omega
theorem neg_mod (z : Int) (n : Nat) (hn : 0 < n) (hz : z < 0) : z % (n : Int) = if 0 < (z.natAbs : Int) % (n : Int) then (n : Int) - (z.natAbs : Int) % (n : Int) else 0 := by
  have h1 : z = -(z.natAbs : Int) := by omega
  have h2 := Int.emod_nonneg (z.natAbs : Int) (b := (n : Int)) (by omega)
  have h3 := Int.emod_lt_of_pos (z.natAbs : Int) (b := (n : Int)) (by omega)
  have h4 := Int.emod_nonneg z (b := (n : Int)) (by omega)
  have h5 := Int.emod_lt_of_pos z (b := (n : Int)) (by omega)
  have h6 : (z + (z.natAbs : Int)) % (n : Int) = 0 := by rw [show z + (z.natAbs : Int) = 0 from by omega]; simp
  rw [Int.add_emod] at h6
  split
  · rename_i hp
    have : (z % (n : Int) + (z.natAbs : Int) % (n : Int)) = n := by
      rcases Int.lt_or_le (z % (n : Int) + (z.natAbs : Int) % (n : Int)) n with h | h
      · rw [Int.emod_eq_of_lt (by omega) h] at h6; omega
      · have h7 : (z % (n : Int) + (z.natAbs : Int) % (n : Int) - n) % (n : Int) = 0 := by rw [Int.sub_emod_right]; exact h6
        rw [Int.emod_eq_of_lt (by omega) (by omega)] at h7
        omega
    omega
  · have : (z.natAbs : Int) % (n : Int) = 0 := by omega
    rw [this, Int.add_zero, Int.emod_emod_of_dvd _ (Int.dvd_refl _)] at h6
    exact h6
open Ar in
set_option maxRecDepth 100000 in
set_option maxHeartbeats 8000000 in
theorem refspread_any (x : Val) (n : Nat) (w : World) (hf : FitV x) (hs : x.k = 2 ∨ x.s = ⟨#[]⟩) (hsz : x.s.size ≤ 300) (hn : 0 < n) (hn2 : n ≤ 1000000) :
    Calls Try.prog 25/-f-/ #[.agg #[.int .i64 x.k, .int .i64 x.n, .string x.s], .int .i64 n] w fun e w' => e = .returned (.int .i64 (spreadV x n)) ∧ Below w.heap.size w w' := by
  obtain ⟨xk, xn, s⟩ := x
  have hxn := hf.n
  simp only at hs hsz hxn ⊢
  have OF := Lib.hid (fun W => of_any xn W hxn.1 hxn.2)
  go_enter Try.func25/-f-/, Try.ntmps25/-f-/
  go_wp2_with (go_at_call 48/-f-/; (with_reducible refine (OF.out _).mono ?_); rintro e w1 ⟨v, rfl, ⟨⟨A1, c1, D1, rfl, hI1, hr1⟩⟩, hb1⟩; have HI1 := Lib.hid hI1; have HR1 := Lib.hid hr1; have HB1 := Lib.hid hb1; have hz1 := hb1.size; simp at hz1; clear hI1 hr1 hb1)
  go_loopw [6] (fun i wr => ∃ (j : Nat) (A : Option Addr) (c : Nat) (D : List Int), j ≤ s.size ∧ i = .int .i64 j ∧ Below w.heap.size w wr ∧ Blk wr w.heap.size 55 #[.int .i64 xk, .int .i64 xn, .string s] ∧ Blk wr w1.heap.size 79 #[.bool (decide (xn + (wsum (s.data.toList.take j) 0 : Nat) < 0)), .slice A D.length c] ∧ Num wr (.agg #[.bool (decide (xn + (wsum (s.data.toList.take j) 0 : Nat) < 0)), .slice A D.length c]) (xn + (wsum (s.data.toList.take j) 0 : Nat)) (20 + j) 0 ∧ (D = [] ∨ ∀ a, A = some a → a.block ≠ w1.heap.size)) (fun i _ => s.size - (intOf i).toNat)
  case atStart =>
    have e0 : xn + (wsum (s.data.toList.take 0) 0 : Nat) = xn := by simp [wsum]
    have hbA : Below w.heap.size w w1 := ((Below.refl _ _).alloc (Nat.le_refl _) _).trans (HB1.out.mono (by simp))
    refine ⟨0, A1, c1, D1, Nat.zero_le _, rfl, hbA.alloc (by omega) _, ((Blk.new w _ _).below HB1.out (by simp)).alloc _, ?_, ?_, ?_⟩
    · rw [e0]; exact Blk.new _ _ _
    · rw [e0]; exact ⟨A1, c1, D1, rfl, HI1.out.keep ((Below.refl _ _).alloc (Nat.le_refl _) _), fun a _ => Nat.zero_le _, HR1.out.2⟩
    · rcases HI1.out with h | ⟨b, off, h1, h2, _⟩
      · exact .inl h
      · exact .inr (fun a ha => by rw [h1] at ha; cases ha; show b ≠ w1.heap.size; omega)
  case round =>
    obtain ⟨j, A, c, D, hj, rfl, hbl, hbox, hsum, hnum, hne⟩ := hrel
    have r0 := hbox.cell 0
    have r2 := hbox.cell 2
    have rlt := hbox.lt
    have s0 := hsum.cell 0
    have s1 := hsum.cell 1
    have slt := hsum.lt
    have q0 := hsum.frozen 0
    have q1 := hsum.frozen 1
    have HBX := Lib.hid hbox
    have HSM := Lib.hid hsum
    have HNUM := Lib.hid hnum
    have HNE := Lib.hid hne
    have HBL := Lib.hid hbl
    clear hbox hsum hnum hne hbl
    simp at r0 r2 s0 s1
    by_cases hlt : j < s.size
    · have hk2 : xk = 2 := by
        rcases hs with h | h
        · exact h
        · subst h; exact absurd hlt (Nat.not_lt_zero _)
      have hkb : (xk == 2) = true := by rw [hk2]; rfl
      have hw := wsum_take s j hlt
      have hst : xn + (wsum (s.data.toList.take (j + 1)) 0 : Nat) = xn + (wsum (s.data.toList.take j) 0 : Nat) + (((j + 1) * s[j].toNat : Nat) : Int) := by rw [hw]; push_cast; omega
      have HST := Lib.hid hst
      have hb := s[j].toNat_lt
      have hp : (j + 1) * s[j].toNat ≤ 301 * 256 := Nat.mul_le_mul (by omega) (by omega)
      have hpc : (((j : Int) + 1) * (s[j].toNat : Int)) = (((j + 1) * s[j].toNat : Nat) : Int) := by push_cast; rfl
      have HPC := Lib.hid hpc
      have HP := Lib.hid hp
      have HK2 := Lib.hid hk2
      clear hk2 hw hst hpc hp
      generalize hpp : (j + 1) * s[j].toNat = pp at *
      clear hpp
      generalize xn + (wsum (s.data.toList.take j) 0 : Nat) = S at *
      generalize hsb : decide (S < 0) = sb at *
      have HSB := Lib.hid hsb
      clear hsb
      have hpp2 := HP.out
      have OF2 := Lib.hid (fun W => of_any (pp : Int) W (by omega) (by omega))
      go_upto_region 5 with fail
      have k1 : IntKind.i64.wrap ((j : Int) + 1) = j + 1 := IntWalk.i64_in _ (by omega)
      have k2 : IntKind.i64.wrap (s[j].toNat : Int) = s[j].toNat := IntWalk.i64_in _ (by omega)
      have k3 : IntKind.i64.wrap (((j : Int) + 1) * (s[j].toNat : Int)) = pp := by rw [HPC.out]; exact IntWalk.i64_in _ (by omega)
      go_region_with (first
        | (go_at_call 48/-f-/; (with_reducible refine (OF2.out _).mono ?_); rintro e w2 ⟨v2, rfl, ⟨⟨A2, c2, D2, rfl, hI2, hr2⟩⟩, hb2'⟩; have hb2 : Below wr.heap.size wr w2 := ((Below.refl _ _).drew.trans (hb2'.mono (Nat.le_refl _))); have HI2 := Lib.hid hI2; have HR2 := Lib.hid hr2; have HB2 := Lib.hid hb2; have sx := HSM.out.below hb2 slt; have sx0 := sx.cell 0; have sx1 := sx.cell 1; have sxl := sx.lt; have HSX := Lib.hid sx; simp at sx0 sx1; clear hI2 hr2 hb2 hb2' sx)
        | (go_at_call 49/-f-/; refine (plus_num (.agg #[.bool sb, .slice A D.length c]) (.agg #[.bool (decide ((pp : Int) < 0)), .slice A2 D2.length c2]) S pp (20 + j) 20 0 0 _ (HNUM.out.keep HB2.out) ⟨A2, c2, D2, rfl, HI2.out, fun a _ => Nat.zero_le _, HR2.out.2⟩ (by omega) (by omega)).mono ?_; rintro e w3 ⟨v3, rfl, ⟨⟨A3, c3, D3, rfl, hI3, hr3⟩⟩, hb3⟩; have HI3 := Lib.hid hI3; have HR3 := Lib.hid hr3; have HB3 := Lib.hid hb3; have sy := HSX.out.below hb3 sxl; have sy0 := sy.cell 0; have sy1 := sy.cell 1; have syl := sy.lt; have sf0 := sy.frozen 0; have sf1 := sy.frozen 1; have HSY := Lib.hid sy; simp at sy0 sy1; clear hI3 hr3 hb3 sy))
      all_goals go_wp2
      all_goals
        go_roundw
        case rel =>
          have hz2 := HB2.out.size
          have hz3 := HB3.out.size
          have hbe : Below w.heap.size w ((w3.setCell ⟨w1.heap.size, 0, none⟩ (.bool (decide (S + pp < 0)))).setCell ⟨w1.heap.size, 1, none⟩ (.slice A3 D3.length c3)) := (((HBL.out.trans (HB2.out.mono HBL.out.size)).trans (HB3.out.mono (Nat.le_trans HBL.out.size hz2))).setCell (by simp; omega) _).setCell (by simp; omega) _
          refine ⟨j + 1, A3, c3, D3, by omega, by go_num, hbe, ?_, ?_, ?_, ?_⟩
          · have hx := (HBX.out.below HB2.out rlt).below HB3.out (Nat.lt_of_lt_of_le rlt hz2)
            exact (hx.far (by show w.heap.size ≠ w1.heap.size; omega) _).far (by show w.heap.size ≠ w1.heap.size; omega) _
          · rw [HST.out]; exact (HSY.out.put 0 _).put 1 _
          · rw [HST.out]
            have hfar : ∀ a, A3 = some a → a.block ≠ w1.heap.size := fun a ha => by have := HR3.out.1 a ha; omega
            exact ⟨A3, c3, D3, rfl, (HI3.out.store (fun a ha => hfar a ha) _).store (fun a ha => hfar a ha) _, fun a _ => Nat.zero_le _, HR3.out.2.1, HR3.out.2.2.1, HR3.out.2.2.2.1, HR3.out.2.2.2.2.1, by have := HR3.out.2.2.2.2.2; omega⟩
          · exact .inr (fun a ha => by have := HR3.out.1 a ha; omega)
        case measure => simp [intOf]; omega
    · have hkl : j = s.size := by omega
      subst hkl
      rw [List.take_of_length_le (by simp)] at HSM HNUM s0
      have HSV := Lib.hid (show spreadV ⟨xk, xn, s⟩ n = (xn + (wsum s.data.toList 0 : Nat)) % (n : Int) from rfl)
      generalize xn + (wsum s.data.toList 0 : Nat) = Z at *
      obtain ⟨A', c', D', hv, hI, _, hcD, hDg, hCn, hVal, hLen⟩ := HNUM.out.is
      have hbd : decide (Z < 0) = decide (Z < 0) ∧ A' = A ∧ D'.length = D.length ∧ c' = c := by
        injection hv with hv
        simp at hv
        exact ⟨rfl, hv.1.symm, hv.2.1.symm, hv.2.2.symm⟩
      obtain ⟨_, rfl, hDl, rfl⟩ := hbd
      rw [← hDl] at s1
      have hl20 : D'.length ≤ 320 := by omega
      have HI := Lib.hid hI
      have HV := Lib.hid hVal
      have HDG := Lib.hid hDg
      have HDL := Lib.hid hDl
      clear hv hI hDg hCn hVal hDl HNUM HSM
      generalize hsb : decide (Z < 0) = sb at *
      have HSB := Lib.hid hsb
      clear hsb
      have HSB2 := HSB.out
      clear HSB2
      go_wp2
      go_loopw [7, 8] (fun v i wx => wx = wr ∧ ∃ (t : Nat) (z : Int), t ≤ D'.length ∧ z = (t : Int) - 1 ∧ i = .int .i64 z ∧ v = .int .i64 (val (D'.drop t) % (n : Int))) (fun _ i _ => (intOf i + 1).toNat)
      case atStart => exact ⟨rfl, D'.length, _, Nat.le_refl _, rfl, rfl, by simp [val]⟩
      case round =>
        obtain ⟨rfl, t, z, ht, hz, rfl, rfl⟩ := hrel
        have hlo := Int.emod_nonneg (val (D'.drop t)) (b := (n : Int)) (by omega)
        have hhi := Int.emod_lt_of_pos (val (D'.drop t)) (b := (n : Int)) (by omega)
        cases t with
        | zero =>
          obtain rfl : z = -1 := by omega
          have hv0 : val (D'.drop 0) % (n : Int) = (Z.natAbs : Int) % (n : Int) := by rw [List.drop_zero, HV.out]
          have HV0 := Lib.hid hv0
          clear hz hv0
          generalize val (D'.drop 0) % (n : Int) = left at *
          cases sb
          · have hZ : ¬ Z < 0 := of_decide_eq_false HSB.out
            have HF := Lib.hid (show left = Z % (n : Int) from by rw [HV0.out]; congr 1; omega)
            clear hZ
            go_wp2
            go_ret
            exact ⟨ret_int (by rw [HSV.out, HF.out]), HBL.out⟩
          · have hZ : Z < 0 := of_decide_eq_true HSB.out
            have HF := Lib.hid (show Z % (n : Int) = if 0 < left then (n : Int) - left else 0 from by rw [HV0.out]; exact neg_mod Z n hn hZ)
            clear hZ
            by_cases hl : 0 < left
            · go_wp2
              go_ret
              exact ⟨ret_int (by rw [HSV.out, HF.out, if_pos hl]), HBL.out⟩
            · have hl0 : left = 0 := by omega
              subst hl0
              go_wp2
              go_ret
              exact ⟨ret_int (by rw [HSV.out, HF.out, if_neg (by omega)]), HBL.out⟩
        | succ t' =>
          obtain rfl : z = t' := by omega
          have hlt2 : t' < D'.length := by omega
          have hd := HDG.out.at_ t'
          have hdd : (D'.getD t' 0) ∈ D' := by simp [List.getD, List.getElem?_eq_getElem hlt2]
          have HS := Lib.hid (dig_step D' HDG.out t' n hlt2)
          rcases HI.out with h | ⟨b, off, hA, hb, hcell⟩
          · rw [h] at hlt2; simp at hlt2
          have x0 := hcell t' hlt2
          subst hA
          clear hz hcell hdd
          generalize D'.getD t' 0 = d at *
          generalize val (D'.drop (t' + 1)) % (n : Int) = left at *
          have hstep : (10 * left + d).tmod (n : Int) = (10 * left + d) % (n : Int) := Int.tmod_eq_emod_of_nonneg (by omega)
          go_wp2
          go_roundw
          case rel => exact ⟨trivial, t', (t' : Int) - 1, by omega, rfl, rfl, by first | rw [hstep, HS.out] | rw [HS.out]⟩
          case measure => simp [intOf]
end Go.Proofs.Ytddejkmfffeikaa
