/- Contracts of the reference for package calc (affluxref01): products. -/
import Derived.Test.YtabdmhlnaahdlaaRefD
import Derived.StillTailTactics
import Derived.BigRegion
namespace Go.Proofs.Ytabdmhlnaahdlaa
open Go.ChangeShapes Go.WideShapes Go.ChangeAt Go.RowKit
open Ar (val Dig Canon)
/-- Block g is just these integers. -/
def IBlk (w : World) (g : Nat) (O : List Int) : Prop := Blk w g 3 (O.map (Value.int .i64)).toArray
section
variable {w w' : World} {g : Nat} {O : List Int}
theorem IBlk.cell (h : IBlk w g O) {t : Nat} (ht : t < O.length) : w.cell? ⟨g, t, none⟩ = some (.int .i64 (O.getD t 0)) := by
  rw [Blk.cell h]; simp [List.getD, ht]
theorem IBlk.put (h : IBlk w g O) (t : Nat) (v : Int) : IBlk (w.setCell ⟨g, t, none⟩ (.int .i64 v)) g (O.set t v) := by
  have := Blk.put h t (.int .i64 v)
  unfold IBlk
  rw [List.map_set]
  simpa using this
theorem IBlk.ints (h : IBlk w g O) : Ints w .i64 (some ⟨g, 0, none⟩) O :=
  .inr ⟨g, 0, rfl, Blk.lt h, fun i hi => by rw [Nat.zero_add]; exact h.cell hi⟩
end
theorem made_ints (n : Nat) : madeCells (Value.int .i64 0).cells n = ((List.replicate n (0 : Int)).map (Value.int .i64)).toArray := by
  apply Array.ext
  · simp [madeCells]
  · intro i h1 h2
    simp [madeCells, Value.cells, Nat.mod_one]

/-- What the inner loop's stores come to. -/
theorem mul_step (O : List Int) (i k : Nat) (x y v r : Int) (h : i + k < O.length) (hv : val O = v + 10 ^ i * (x * r)) :
    val (O.set (i + k) (O.getD (i + k) 0 + x * y)) = v + 10 ^ i * (x * (r + 10 ^ k * y)) := by
  rw [Ar.val_set _ _ _ h, hv, Int.pow_add, show O.getD (i + k) 0 + x * y - O.getD (i + k) 0 = x * y by omega]
  rw [Int.mul_add x, Int.mul_add (10 ^ i), Int.mul_assoc, Int.add_assoc]
  congr 2
  rw [← Int.mul_assoc (10 ^ k) x y, Int.mul_comm (10 ^ k) x, Int.mul_assoc]
theorem prod_bd (x y : Int) (h1 : 0 ≤ x) (h2 : x ≤ 9) (h3 : 0 ≤ y) (h4 : y ≤ 9) : 0 ≤ x * y ∧ x * y ≤ 81 := by
  have := Int.mul_nonneg h1 h3
  have h5 : x * y ≤ 9 * y := Int.mul_le_mul_of_nonneg_right h2 h3
  omega
theorem mul_sign (a b : Int) : a * b = if (!(decide (a < 0) == decide (b < 0))) = true then -((a.natAbs : Int) * b.natAbs) else (a.natAbs : Int) * b.natAbs := by
  have ha : a = (a.natAbs : Int) ∧ ¬ a < 0 ∨ a = -(a.natAbs : Int) ∧ a < 0 := by omega
  have hb : b = (b.natAbs : Int) ∧ ¬ b < 0 ∨ b = -(b.natAbs : Int) ∧ b < 0 := by omega
  rcases ha with ⟨h1, h2⟩ | ⟨h1, h2⟩ <;> rcases hb with ⟨h3, h4⟩ | ⟨h3, h4⟩
  · rw [decide_eq_false h2, decide_eq_false h4]; simp only [beq_self_eq_true, Bool.not_true, Bool.false_eq_true, if_false]; rw [← h1, ← h3]
  · rw [decide_eq_false h2, decide_eq_true h4]; simp only [show (false == true) = false from rfl, Bool.not_false, if_true]; rw [← Int.mul_neg, ← h1, ← h3]
  · rw [decide_eq_true h2, decide_eq_false h4]; simp only [show (true == false) = false from rfl, Bool.not_false, if_true]; rw [← Int.neg_mul, ← h1, ← h3]
  · rw [decide_eq_true h2, decide_eq_true h4]; simp only [beq_self_eq_true, Bool.not_true, Bool.false_eq_true, if_false]; rw [show (a.natAbs : Int) = -a by omega, show (b.natAbs : Int) = -b by omega, Int.neg_mul_neg]
/-- A place's tens are handed on to the next one. -/
theorem carry_step (O : List Int) (t : Nat) (h : t + 1 < O.length) :
    val ((O.set (t + 1) (O.getD (t + 1) 0 + O.getD t 0 / 10)).set t (O.getD t 0 % 10)) = val O := by
  rw [Ar.val_set _ t _ (by simp; omega), Ar.val_set _ (t + 1) _ h, Ar.getD_set _ _ _ _ h, if_neg (by omega), Int.pow_succ]
  have e : O.getD t 0 % 10 - O.getD t 0 = -(10 * (O.getD t 0 / 10)) := by omega
  have e2 : O.getD (t + 1) 0 + O.getD t 0 / 10 - O.getD (t + 1) 0 = O.getD t 0 / 10 := by omega
  rw [e, e2, Int.mul_neg, Int.mul_assoc]; omega
set_option maxHeartbeats 2000000 in
theorem times_any (A B : Option Addr) (c d : Nat) (X Y : List Int) (za zb : Int) (w : World) (hA : Ints w .i64 A X) (hB : Ints w .i64 B Y) (hs : X.length ≤ 50000) (hs' : Y.length ≤ 50000)
    (hX : Dig X) (hY : Dig Y) (vX : val X = za.natAbs) (vY : val Y = zb.natAbs) :
    Calls Try.prog 21 #[.agg #[.bool (decide (za < 0)), .slice A X.length c], .agg #[.bool (decide (zb < 0)), .slice B Y.length d]] w fun e w' => ∃ v, e = .returned v ∧ Num w' v (za * zb) (X.length + Y.length + 1) w.heap.size ∧ Below w.heap.size w w' := by
  obtain ⟨i0, hi, hz0, hz1, hz2⟩ := info_parts int_info
  have hmk : ∀ W : World, (Instr.makeSlice 30 (.int .i64 ((X.length : Int) + Y.length + 1)) (.int .i64 ((X.length : Int) + Y.length + 1))).run Try.prog W = .ok (.slice (some ⟨W.heap.size, 0, none⟩) (X.length + Y.length + 1) (X.length + Y.length + 1)) (W.alloc (.cells (((List.replicate (X.length + Y.length + 1) (0 : Int)).map (Value.int .i64)).toArray) 3)) := by
    intro W
    have := run_make (P := Try.prog) W 30 3 i0 (.int .i64 0) Try.underlying30 hi hz0 .i64 .i64 ((X.length : Int) + Y.length + 1) ((X.length : Int) + Y.length + 1) (by omega) (by omega) (by rw [hz2]; omega) (by omega)
    rw [this, hz1, show ((X.length : Int) + Y.length + 1).toNat = X.length + Y.length + 1 by omega, Nat.mul_one, made_ints]
  generalize hnb : decide (za < 0) = nb at *
  generalize hmb : decide (zb < 0) = mb at *
  have HNB := Lib.hid hnb
  have HMB := Lib.hid hmb
  have HV := Lib.hid (show val X = za.natAbs ∧ val Y = zb.natAbs from ⟨vX, vY⟩)
  clear hnb hmb vX vY
  go_enter Try.func21, Try.ntmps21
  go_wp2
  go_loopw [6] (fun p wr => ∃ (i : Nat) (O : List Int), i ≤ X.length ∧ p = .int .i64 i ∧ Below w.heap.size w wr ∧ Blk wr w.heap.size 32 #[.bool nb, .slice A X.length c] ∧ Blk wr (w.heap.size + 1) 32 #[.bool mb, .slice B Y.length d] ∧ Blk wr (w.heap.size + 1 + 1) 32 #[.bool false, .slice none 0 0] ∧ IBlk wr (w.heap.size + 1 + 1 + 1) O ∧ Hid (O.length = X.length + Y.length + 1 ∧ val O = val (X.take i) * val Y ∧ ∀ t, 0 ≤ O.getD t 0 ∧ O.getD t 0 ≤ 81 * i)) (fun p _ => X.length - (intOf p).toNat)
  case atStart =>
    have z0 := ((((Blk.new w 32 #[.bool nb, .slice A X.length c]).alloc (.cells #[.bool mb, .slice B Y.length d] 32)).alloc (.cells #[.bool false, .slice none 0 0] 32))).alloc (.cells (Array.replicate (X.length + Y.length + 1) (Value.int IntKind.i64 0)) 3)
    have z1 := (((Blk.new (w.alloc (.cells #[.bool nb, .slice A X.length c] 32)) 32 #[.bool mb, .slice B Y.length d]).alloc (.cells #[.bool false, .slice none 0 0] 32))).alloc (.cells (Array.replicate (X.length + Y.length + 1) (Value.int IntKind.i64 0)) 3)
    have z2 := (Blk.new ((w.alloc (.cells #[.bool nb, .slice A X.length c] 32)).alloc (.cells #[.bool mb, .slice B Y.length d] 32)) 32 #[.bool false, .slice none 0 0]).alloc (.cells (Array.replicate (X.length + Y.length + 1) (Value.int IntKind.i64 0)) 3)
    have z3 := Blk.new (((w.alloc (.cells #[.bool nb, .slice A X.length c] 32)).alloc (.cells #[.bool mb, .slice B Y.length d] 32)).alloc (.cells #[.bool false, .slice none 0 0] 32)) 3 (Array.replicate (X.length + Y.length + 1) (Value.int IntKind.i64 0))
    simp only [World.size_alloc] at z1 z2 z3
    refine ⟨0, List.replicate (X.length + Y.length + 1) 0, Nat.zero_le _, rfl, ((((Below.refl _ _).alloc (Nat.le_refl _) _).alloc (by simp) _).alloc (by simp; omega) _).alloc (by simp; omega) _, z0, z1, z2, ?_, Lib.hid ⟨by simp, by simp [val, Ar.val_replicate], fun t => ?_⟩⟩
    · unfold IBlk; simpa using z3
    · simp only [List.getD, List.getElem?_replicate]; split <;> simp
  case round =>
    obtain ⟨i, O, hik, rfl, hbl, k0, k1, k2, kO, hO⟩ := hrel
    have c1 := k0.cell 1
    simp at c1
    by_cases hlt : i < X.length
    · have HK := Lib.hid (And.intro k0 (And.intro k1 k2))
      clear k0 k1 k2
      obtain ⟨wo, hwo⟩ : ∃ wo : World, wo = wr := ⟨_, rfl⟩
      subst hwo
      go_wp2
      go_loopw [7] (fun p wq => ∃ (k : Nat) (O' : List Int), k ≤ Y.length ∧ p = .int .i64 k ∧ Below w.heap.size w wq ∧ Blk wq w.heap.size 32 #[.bool nb, .slice A X.length c] ∧ Blk wq (w.heap.size + 1) 32 #[.bool mb, .slice B Y.length d] ∧ Blk wq (w.heap.size + 1 + 1) 32 #[.bool false, .slice none 0 0] ∧ IBlk wq (w.heap.size + 1 + 1 + 1) O' ∧ Hid (O'.length = X.length + Y.length + 1 ∧ val O' = val (X.take i) * val Y + 10 ^ i * (X.getD i 0 * val (Y.take k)) ∧ (∀ t, 0 ≤ O'.getD t 0 ∧ O'.getD t 0 ≤ 81 * (i + 1)) ∧ ∀ t, i + k ≤ t → O'.getD t 0 ≤ 81 * i)) (fun p _ => Y.length - (intOf p).toNat)
      case atStart => exact ⟨0, O, Nat.zero_le _, rfl, hbl, HK.out.1, HK.out.2.1, HK.out.2.2, kO, Lib.hid ⟨hO.out.1, by rw [hO.out.2.1]; simp [val], fun t => by have := hO.out.2.2 t; omega, fun t _ => (hO.out.2.2 t).2⟩⟩
      case round =>
        obtain ⟨k, O', hk, rfl, hbl', k0, k1, k2, kO', hO'⟩ := hrel
        have c1' := k0.cell 1
        have d1' := k1.cell 1
        simp at c1' d1'
        by_cases hkl : k < Y.length
        · obtain ⟨b1, o1, rfl, hb1, hx1⟩ := (hA.keep hbl').at_ (i := i) hlt
          obtain ⟨b2, o2, rfl, hb2, hy1⟩ := (hB.keep hbl').at_ (i := k) hkl
          have hol : i + k < O'.length := by have := hO'.out.1; omega
          have ho := kO'.cell hol
          have hof := Blk.frozen kO' (i + k)
          have bx := hX.at_ i
          have by_ := hY.at_ k
          have bxy := prod_bd _ _ bx.1 bx.2 by_.1 by_.2
          have bo := hO'.out.2.2.1 (i + k)
          have bo' := hO'.out.2.2.2 (i + k) (Nat.le_refl _)
          have HMS := Lib.hid (mul_step O' i k (X.getD i 0) (Y.getD k 0) _ _ hol hO'.out.2.1)
          have HVT := Lib.hid (Ar.val_take Y k hkl)
          have HGS := Lib.hid (fun v u => Ar.getD_set O' (i + k) u v hol)
          have hwr : wrap64 (X.getD i 0 * Y.getD k 0) = X.getD i 0 * Y.getD k 0 := IntWalk.wrap64_in _ ⟨by omega, by omega⟩
          have HWR := Lib.hid hwr
          clear hwr
          generalize O'.getD (i + k) 0 = o at *
          generalize X.getD i 0 = x at *
          generalize Y.getD k 0 = y at *
          generalize hxy : x * y = xy at *
          have hik1 : ((i : Int) + k) < ((X.length : Int) + Y.length + 1) := by omega
          go_wp2
          go_region
          go_wp2
          go_roundw
          case rel =>
            refine ⟨k + 1, O'.set (i + k) (o + xy), by omega, by go_num, (hbl'.drew).setCell (by simp; omega) _, (show Blk wr.drew _ _ _ from k0).far (by simp; omega) _, (show Blk wr.drew _ _ _ from k1).far (by simp) _, (show Blk wr.drew _ _ _ from k2).far (by simp) _, (show IBlk wr.drew _ _ from kO').put _ _, Lib.hid ⟨by have := hO'.out.1; simpa using this, ?_, fun t => ?_, fun t ht => ?_⟩⟩
            · rw [HMS.out, HVT.out]
            · have h1 := hO'.out.2.2.1 t
              rw [HGS.out]; split <;> omega
            · have h1 := hO'.out.2.2.2 t (by omega)
              rw [HGS.out, if_neg (by omega)]; exact h1
          case measure => simp [intOf]; omega
        · obtain rfl : k = Y.length := by omega
          have hO2 := Lib.hid (show O'.length = X.length + Y.length + 1 ∧ val O' = val (X.take (i + 1)) * val Y ∧ ∀ t, 0 ≤ O'.getD t 0 ∧ O'.getD t 0 ≤ 81 * ((i + 1 : Nat) : Int) from ⟨hO'.out.1, by rw [hO'.out.2.1, Ar.val_take X i hlt, List.take_length, Int.add_mul, Int.mul_assoc], fun t => by have := hO'.out.2.2.1 t; omega⟩)
          go_wp2
          go_roundw
          case rel => exact ⟨i + 1, O', by omega, by go_num, hbl', k0, k1, k2, kO', hO2⟩
          case measure => simp [intOf]; omega
    · obtain rfl : i = X.length := by omega
      have hO2 := hO.out
      rw [List.take_length] at hO2
      have HO := Lib.hid hO2
      clear hO hO2
      have olt := Blk.lt kO
      go_wp2
      go_loopw [8] (fun p wq => ∃ (t : Nat) (O' : List Int), t + 1 ≤ X.length + Y.length + 1 ∧ p = .int .i64 t ∧ Below w.heap.size w wq ∧ Blk wq w.heap.size 32 #[.bool nb, .slice A X.length c] ∧ Blk wq (w.heap.size + 1) 32 #[.bool mb, .slice B Y.length d] ∧ Blk wq (w.heap.size + 1 + 1) 32 #[.bool false, .slice none 0 0] ∧ IBlk wq (w.heap.size + 1 + 1 + 1) O' ∧ Hid (O'.length = X.length + Y.length + 1 ∧ val O' = val X * val Y ∧ (∀ u, u < t → 0 ≤ O'.getD u 0 ∧ O'.getD u 0 ≤ 9) ∧ 0 ≤ O'.getD t 0 ∧ O'.getD t 0 ≤ 90 * X.length ∧ ∀ u, t < u → 0 ≤ O'.getD u 0 ∧ O'.getD u 0 ≤ 81 * X.length)) (fun p _ => X.length + Y.length + 1 - (intOf p).toNat)
      case atStart => exact ⟨0, O, by omega, rfl, hbl, k0, k1, k2, kO, Lib.hid ⟨HO.out.1, HO.out.2.1, fun u hu => by omega, (HO.out.2.2 0).1, by have := (HO.out.2.2 0).2; omega, fun u hu => HO.out.2.2 u⟩⟩
      case round =>
        obtain ⟨t, O', ht, rfl, hbl', k0, k1, k2, kO', hO'⟩ := hrel
        by_cases hgo : t + 1 < X.length + Y.length + 1
        · have hl0 : t < O'.length := by have := hO'.out.1; omega
          have hl1 : t + 1 < O'.length := by have := hO'.out.1; omega
          have ho0 := kO'.cell hl0
          have ho1 := kO'.cell hl1
          have hf0 := Blk.frozen kO' t
          have hf1 := Blk.frozen kO' (t + 1)
          have b0 := hO'.out.2.2.2.1
          have b0' := hO'.out.2.2.2.2.1
          have b1 := hO'.out.2.2.2.2.2 (t + 1) (by omega)
          have HG1 := Lib.hid (fun v u => Ar.getD_set O' (t + 1) u v hl1)
          have HG0 := Lib.hid (fun (v v' : Int) u => Ar.getD_set (O'.set (t + 1) v') t u v (by simpa using hl0))
          have HS := Lib.hid (carry_step O' t hl1)
          generalize hq0 : O'.getD t 0 = o0 at *
          generalize hq1 : O'.getD (t + 1) 0 = o1 at *
          have HQ0 := Lib.hid hq0
          have HQ1 := Lib.hid hq1
          clear hq0 hq1
          go_wp2
          go_region
          go_wp2
          go_roundw
          case rel =>
            refine ⟨t + 1, (O'.set (t + 1) (o1 + o0 / 10)).set t (o0 % 10), by omega, by go_num, ((hbl'.setCell (by simp; omega) _).setCell (by simp; omega) _).drew, ?_, ?_, ?_, ?_, Lib.hid ⟨by have := hO'.out.1; simpa using this, ?_, fun u hu => ?_, ?_, ?_, fun u hu => ?_⟩⟩
            · exact (k0.far (by simp; omega) _).far (by simp; omega) _
            · exact (k1.far (by simp) _).far (by simp) _
            · exact (k2.far (by simp) _).far (by simp) _
            · exact (kO'.put _ _).put _ _
            · have := HS.out; rw [this]; exact hO'.out.2.1
            · rw [HG0.out]
              split
              · omega
              · rw [HG1.out, if_neg (by omega)]; exact hO'.out.2.2.1 u (by omega)
            · rw [HG0.out, if_neg (by omega), HG1.out, if_pos rfl]; omega
            · rw [HG0.out, if_neg (by omega), HG1.out, if_pos rfl]; omega
            · rw [HG0.out, if_neg (by omega), HG1.out, if_neg (by omega)]; exact hO'.out.2.2.2.2.2 u (by omega)
          case measure => simp [intOf]; omega
        · obtain rfl : t = X.length + Y.length := by omega
          have hlen := hO'.out.1
          have hlast : O'.getD (X.length + Y.length) 0 = 0 := by
            have h1 := Ar.val_take O' (X.length + Y.length) (by omega)
            rw [show O'.take (X.length + Y.length + 1) = O' from by rw [← hlen, List.take_length]] at h1
            have hd : Dig (O'.take (X.length + Y.length)) := fun d hd => by
              obtain ⟨u, hu, rfl⟩ := List.mem_iff_getElem.1 hd
              rw [List.length_take] at hu
              have := hO'.out.2.2.1 u (by omega)
              have e : (O'.take (X.length + Y.length))[u]'(by rw [List.length_take]; exact hu) = O'.getD u 0 := by simp [List.getD, show u < O'.length by omega]
              rw [e]; exact this
            have h2 := (Ar.val_bd _ hd).1
            have h3 : val O' < 10 ^ (X.length + Y.length) := by
              rw [hO'.out.2.1, Int.pow_add]
              exact Int.lt_of_le_of_lt (Int.mul_le_mul_of_nonneg_left (Int.le_of_lt (Ar.val_bd Y hY).2) (Ar.val_bd X hX).1) (Int.mul_lt_mul_of_pos_right (Ar.val_bd X hX).2 (Ar.pow_pos _))
            have h4 := hO'.out.2.2.2.1
            have hp := Ar.pow_pos (X.length + Y.length)
            rcases Int.lt_or_le (O'.getD (X.length + Y.length) 0) 1 with h5 | h5
            · omega
            · have h6 : 10 ^ (X.length + Y.length) * 1 ≤ (10 : Int) ^ (X.length + Y.length) * O'.getD (X.length + Y.length) 0 := Int.mul_le_mul_of_nonneg_left h5 (by omega)
              omega
          have hdig : Dig O' := fun d hd => by
            obtain ⟨u, hu, rfl⟩ := List.mem_iff_getElem.1 hd
            have e : O'[u] = O'.getD u 0 := by simp [List.getD, hu]
            rw [e]
            by_cases h : u < X.length + Y.length
            · exact hO'.out.2.2.1 u h
            · have : u = X.length + Y.length := by omega
              subst this; rw [hlast]; omega
          have SG := Lib.hid (fun (b : Bool) (hb : b = (!(nb == mb))) => sign_any b (some ⟨w.heap.size + 1 + 1 + 1, 0, none⟩) (X.length + Y.length + 1) (X.length + Y.length + 1) O' wr (za * zb) (by
            have hv := hO'.out.2.1; have h1 := HV.out; rw [h1.1, h1.2] at hv; rw [hv]
            have hn := HNB.out; have hm := HMB.out; subst hb hn hm
            exact mul_sign za zb) kO'.ints hlen (Nat.le_refl _) (by omega) hdig)
          have e0 := k0.cell 0
          have e1 := k1.cell 0
          have hlt2 := k2.lt
          have hDIG := Lib.hid hdig
          have hLEN := Lib.hid hlen
          have hINTS := kO'.ints
          have HO' := kO'
          simp at e0 e1
          clear hdig hlen hlast kO' hO' k0 k1
          have hbe := hbl'
          go_wp2_with (go_at_call 37; refine (SG.out _ ?_).mono ?_; (first | rfl | simp); rintro e w2 ⟨m, he, hm, hr, hb2⟩; generalize hzb : decide (za * zb < 0) = zs at he; have HZS := Lib.hid hzb; clear hzb; subst he; have x2 := k2.below hb2 hlt2; have e4 := x2.cell 0; have e5 := x2.cell 1; have g4 := x2.frozen 0; have g5 := x2.frozen 1; simp at e4 e5)
          have hL := hLEN.out
          have hlm' : (O'.take m).length = m := by rw [List.length_take]; omega
          have hbf : Below w.heap.size w ((w2.setCell ⟨w.heap.size + 1 + 1, 0, none⟩ (.bool zs)).setCell ⟨w.heap.size + 1 + 1, 1, none⟩ (.slice (some ⟨w.heap.size + 1 + 1 + 1, 0, none⟩) m (X.length + Y.length + 1))) := ((hbl'.trans (hb2.mono hbl'.size)).setCell (by simp; omega) _).setCell (by simp; omega) _
          refine bodyPost_ret (v := .agg #[.bool zs, .slice (some ⟨w.heap.size + 1 + 1 + 1, 0, none⟩) m (X.length + Y.length + 1)]) (by simp [results, Try.results21, go_sem, e4, e5]) rfl ⟨_, rfl, ⟨_, _, O'.take m, by rw [hlm', HZS.out], ?_, fun a ha => by simp at ha; subst ha; simp; omega, by omega, hDIG.out.take m, hr.out.1, hr.out.2, by omega⟩, hbf⟩
          exact (((hINTS.keep hb2).take m).store (fun a ha => by simp at ha; subst ha; simp) _).store (fun a ha => by simp at ha; subst ha; simp) _
/-- Any two numbers' product. -/
theorem times_num (va vb : Value) (za zb : Int) (n m Ba Bb : Nat) (w : World) (ha : Num w va za n Ba) (hb : Num w vb zb m Bb) (hn : n ≤ 50000) (hm : m ≤ 50000) :
    Calls Try.prog 21 #[va, vb] w fun e w' => ∃ v, e = .returned v ∧ Num w' v (za * zb) (n + m + 1) w.heap.size ∧ Below w.heap.size w w' := by
  obtain ⟨A, c, X, rfl, hA, _, hcX, hX, cX, vX, lX⟩ := ha.is
  obtain ⟨B, d, Y, rfl, hB, _, hcY, hY, cY, vY, lY⟩ := hb.is
  refine (times_any A B c d X Y za zb w hA hB (by omega) (by omega) hX hY vX vY).mono ?_
  rintro e w' ⟨v, h1, h2, h3⟩
  obtain ⟨A', c', D', q1, q2, q3, q4, q5, q6, q7, q8⟩ := h2.is
  exact ⟨v, h1, ⟨A', c', D', q1, q2, q3, q4, q5, q6, q7, by omega⟩, h3⟩
end Go.Proofs.Ytabdmhlnaahdlaa
