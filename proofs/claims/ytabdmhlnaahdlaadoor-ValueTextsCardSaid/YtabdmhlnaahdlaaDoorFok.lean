/- Contracts of package value: the first value of a key, whatever it is. -/
import Derived.Test.YtabdmhlnaahdlaaDoorTok
namespace Go.Proofs.YtabdmhlnaahdlaaDoor
open Go.ChangeShapes Go.WideShapes Go.ChangeAt Go.RowKit
theorem head_at (s : ByteArray) (h : 0 < s.size) : s.data.toList.head? = some s[0] := by
  have h9 : s.data.toList[0]? = some s[0] := by rw [List.getElem?_eq_getElem (by simpa using h)]; rfl
  rw [List.head?_eq_getElem?]; exact h9
theorem getD_at (s : ByteArray) (i : Nat) (h : i < s.size) : s.data.toList.getD i 0 = s[i] := by
  have h9 : s.data.toList[i]? = some s[i] := by rw [List.getElem?_eq_getElem (by simpa using h)]; rfl
  rw [List.getD, h9]; rfl
theorem be_snoc (l : List UInt8) (c : UInt8) : be (l ++ [c]) = 256 * be l + c.toNat := by simp [be]
theorem or_byte (B c : Nat) (hB : B < 72057594037927936) (hc : c < 256) : bits .or .u64 (IntKind.u64.wrap ((B : Int) * 256)) (IntKind.u64.wrap (c : Int)) = ((256 * B + c : Nat) : Int) := by
  have h := Nat.shiftLeft_add_eq_or_of_lt (i := 8) (b := c) hc B
  rw [Nat.shiftLeft_eq, show (2 : Nat) ^ 8 = 256 from rfl] at h
  have e1 : IntKind.u64.wrap ((B : Int) * 256) = ((B * 256 : Nat) : Int) := by simp only [IntKind.wrap_u64]; omega
  have e2 : IntKind.u64.wrap (c : Int) = ((c : Nat) : Int) := by simp only [IntKind.wrap_u64]; omega
  rw [e1, e2, u64_or_nat (B * 256) c (by omega) (by omega), ← h]
  congr 1
  omega
set_option maxRecDepth 100000 in
set_option maxHeartbeats 8000000 in
theorem firstof_num (s : ByteArray) (w : World) (hs : s.size ≤ 100000) (h9 : 9 ≤ s.size) (h1 : s[0] = 1) :
    Calls Tryd.prog 59/-f-/ #[.string s] w fun e w' => e = .returned (.tuple #[.agg #[.int .i64 1, .int .i64 ((be ((s.data.toList.drop 1).take 8) : Int) - 9223372036854775808), .string ⟨#[]⟩], .int .i64 9]) ∧ Below w.heap.size w w' := by
  have hc1 : ((s[0].toNat : Int) == 1) = true := by rw [h1]; rfl
  have h9d : decide ((9 : Int) ≤ s.size) = true := by simp; omega
  clear h1
  go_enter Tryd.func59/-f-/, Tryd.ntmps59/-f-/
  go_wp2
  go_loopw [4, 15] (fun v i wr => ∃ j : Nat, j ≤ 8 ∧ i = .int .i64 j ∧ v = .int .u64 (be ((s.data.toList.drop 1).take j) : Nat) ∧ Res w wr) (fun _ i _ => 8 - (intOf i).toNat)
  case atStart => exact ⟨0, by omega, rfl, rfl, Res.of (Below.refl _ _)⟩
  case round =>
    obtain ⟨j, hj, rfl, rfl, hres⟩ := hrel
    have HRS := Lib.hid hres
    have q0 := hres.blk.cell 0
    have q1 := hres.blk.cell 1
    have q2 := hres.blk.cell 2
    have f0 := hres.blk.frozen 0
    have f1 := hres.blk.frozen 1
    have f2 := hres.blk.frozen 2
    have hz := hres.blk.lt
    simp at q0 q1 q2
    clear hres
    have hbl := be_lt ((s.data.toList.drop 1).take j)
    have hll : ((s.data.toList.drop 1).take j).length = j := by simp; omega
    rw [hll] at hbl
    by_cases hlt : j < 8
    · have hst : be ((s.data.toList.drop 1).take (j + 1)) = 256 * be ((s.data.toList.drop 1).take j) + s[1 + j].toNat := by
        rw [List.take_succ_eq_append_getElem (by rw [List.length_drop]; simp; omega), be_snoc, List.getElem_drop]
        rfl
      have HST := Lib.hid hst
      have hb7 : be ((s.data.toList.drop 1).take j) < 72057594037927936 := by
        have : (256 : Nat) ^ j ≤ 256 ^ 7 := Nat.pow_le_pow_right (by decide) (by omega)
        have e : (256 : Nat) ^ 7 = 72057594037927936 := by decide
        omega
      have HB7 := Lib.hid hb7
      have HLL := Lib.hid hll
      clear hst hbl hb7
      generalize be ((s.data.toList.drop 1).take j) = B at *
      have OB := Lib.hid (or_byte B (s[1 + j].toNat) HB7.out (s[1 + j].toNat_lt))
      go_wp2
      go_roundw
      case rel => exact ⟨j + 1, by omega, by go_num, by rw [OB.out, HST.out], HRS.out⟩
      case measure => simp [intOf]; omega
    · obtain rfl : j = 8 := by omega
      rw [show ((8 : Nat) : Int) = 8 from rfl]
      have hB : be ((s.data.toList.drop 1).take 8) < 18446744073709551616 := by simpa using hbl
      have HFIN := Lib.hid (show wrap64 (IntKind.u64.wrap ((be ((s.data.toList.drop 1).take 8) : Nat) - 9223372036854775808)) = (be ((s.data.toList.drop 1).take 8) : Int) - 9223372036854775808 from by
        simp only [IntKind.wrap_u64]; unfold wrap64; omega)
      have hB3 := hB
      clear hbl hll hB
      obtain ⟨B, hBB⟩ : ∃ B, B = be ((s.data.toList.drop 1).take 8) := ⟨_, rfl⟩
      rw [← hBB] at HFIN
      have HBB := Lib.hid hBB
      clear hBB hB3
      go_wp2_with (go_at_call 24/-f-/; (with_reducible refine (int_any _ _).mono ?_); rintro e w2 ⟨rfl, hb2⟩; have HR3 := Lib.hid (HRS.out.more hb2); have r0 := HR3.out.blk.cell 0; have r1 := HR3.out.blk.cell 1; have r2 := HR3.out.blk.cell 2; have g0 := HR3.out.blk.frozen 0; have g1 := HR3.out.blk.frozen 1; have g2 := HR3.out.blk.frozen 2; have gz := HR3.out.blk.lt; simp at r0 r1 r2; clear hb2)
      have htl : s.data.toList.tail = s.data.toList.drop 1 := List.drop_one.symm
      exact bodyPost_ret (v := .tuple #[.agg #[.int .i64 1, .int .i64 ((B : Int) - 9223372036854775808), .string ⟨#[]⟩], .int .i64 9]) (by simp [results, Tryd.results59/-f-/, go_sem, r0, r1, r2, gz]; rw [htl, ← HBB.out]; exact HFIN.out) rfl ⟨by rw [HBB.out], HR3.out.end_ _ _ _⟩
set_option maxRecDepth 100000 in
set_option maxHeartbeats 8000000 in
theorem firstof_any (s : ByteArray) (w : World) (hs : s.size ≤ 100000) (h0 : 0 < s.size) :
    Calls Tryd.prog 59/-f-/ #[.string s] w fun e w' => e = .returned (firstVal (first s.data.toList)) ∧ Below w.heap.size w w' := by
  have hh := head_at s h0
  have hl : s.data.toList.length = s.size := by simp
  by_cases h1 : s[0] = 1 ∧ 9 ≤ s.size
  · have e : first s.data.toList = some (⟨1, (be ((s.data.toList.drop 1).take 8) : Int) - 9223372036854775808, ⟨#[]⟩⟩, 9) := by
      unfold first
      rw [if_pos ⟨by rw [hh, h1.1], by omega⟩]
    rw [e]
    exact firstof_num s w hs h1.2 h1.1
  have hn1 : ¬ (s.data.toList.head? = some 1 ∧ 9 ≤ s.data.toList.length) := fun h => h1 ⟨by rw [hh] at h; exact Option.some.inj h.1, by omega⟩
  have hb1 : (((s[0].toNat : Int) == 1) && decide ((9 : Int) ≤ s.size)) = false := by
    by_cases hc : s[0] = 1
    · have : ¬ 9 ≤ s.size := fun h => h1 ⟨hc, h⟩
      simp; omega
    · have : ((s[0].toNat : Int) == 1) = false := beq_eq_false_iff_ne.2 (fun h => hc (UInt8.toNat_inj.1 (by show s[0].toNat = 1; omega)))
      rw [this]; rfl
  have HB1 := Lib.hid hb1
  have F0 : ∀ w1, Below (w.alloc (.cells #[.int .i64 0, .int .i64 0, .string ⟨#[]⟩] 35/-t-/)).heap.size (w.alloc (.cells #[.int .i64 0, .int .i64 0, .string ⟨#[]⟩] 35/-t-/)) w1 → Res w w1 := fun _ h => Res.of h
  by_cases h2 : s[0] = 2
  · have e : first s.data.toList = textRes s.data.toList := by
      unfold first
      rw [if_neg hn1, if_pos (by rw [hh, h2])]
      rfl
    rw [e]
    have hc1 : ((s[0].toNat : Int) == 1) = false := by rw [h2]; rfl
    have hc2 : ((s[0].toNat : Int) == 2) = true := by rw [h2]; rfl
    have TX := Lib.hid (fun W => textof_any s W hs h0)
    clear e hh hl h1 hn1 hb1 h2
    cases hR : textRes s.data.toList with
    | none =>
      rw [hR] at TX
      clear hR
      go_enter Tryd.func59/-f-/, Tryd.ntmps59/-f-/
      go_wp2_with (go_at_call 75/-f-/; refine (TX.out _).mono ?_; rintro e w2 ⟨he, hb2⟩; unfold firstVal at he; subst he; have HR3 := Lib.hid (F0 _ hb2); have r0 := HR3.out.blk.cell 0; have r1 := HR3.out.blk.cell 1; have r2 := HR3.out.blk.cell 2; have g0 := HR3.out.blk.frozen 0; have g1 := HR3.out.blk.frozen 1; have g2 := HR3.out.blk.frozen 2; have gz := HR3.out.blk.lt; simp at r0 r1 r2; clear hb2)
      exact bodyPost_ret (v := .tuple #[.agg #[.int .i64 0, .int .i64 0, .string ⟨#[]⟩], .int .i64 0]) (by simp [results, Tryd.results59/-f-/, go_sem, r0, r1, r2, gz]) rfl ⟨rfl, HR3.out.end_ _ _ _⟩
    | some r =>
      obtain ⟨⟨xk, xn, xs⟩, n⟩ := r
      rw [hR] at TX
      clear hR
      go_enter Tryd.func59/-f-/, Tryd.ntmps59/-f-/
      go_wp2_with (go_at_call 75/-f-/; refine (TX.out _).mono ?_; rintro e w2 ⟨he, hb2⟩; unfold firstVal at he; simp only at he; subst he; have HR3 := Lib.hid (F0 _ hb2); have r0 := HR3.out.blk.cell 0; have r1 := HR3.out.blk.cell 1; have r2 := HR3.out.blk.cell 2; have g0 := HR3.out.blk.frozen 0; have g1 := HR3.out.blk.frozen 1; have g2 := HR3.out.blk.frozen 2; have gz := HR3.out.blk.lt; simp at r0 r1 r2; clear hb2)
      exact bodyPost_ret (v := .tuple #[.agg #[.int .i64 xk, .int .i64 xn, .string xs], .int .i64 n]) (by simp [results, Tryd.results59/-f-/, go_sem, r0, r1, r2, gz]) rfl ⟨rfl, HR3.out.end_ _ _ _⟩
  have hn2 : ¬ s.data.toList.head? = some 2 := fun h => h2 (by rw [hh] at h; exact Option.some.inj h)
  have hc2 : ((s[0].toNat : Int) == 2) = false := beq_eq_false_iff_ne.2 (fun h => h2 (UInt8.toNat_inj.1 (by show s[0].toNat = 2; omega)))
  by_cases h3 : s[0] = 3
  · have hc3 : ((s[0].toNat : Int) == 3) = true := by rw [h3]; rfl
    have hc1 : ((s[0].toNat : Int) == 1) = false := by rw [h3]; rfl
    by_cases hz2 : 2 ≤ s.size
    · have hg := getD_at s 1 (by omega)
      by_cases hle : s[1].toNat ≤ 1
      · have e : first s.data.toList = some (⟨3, s[1].toNat, ⟨#[]⟩⟩, 2) := by
          unfold first
          rw [if_neg hn1, if_neg hn2, hg, if_pos ⟨by rw [hh, h3], by omega, hle⟩]
        rw [e]
        have hd := s[1].toNat_lt
        have hle2 : decide ((s[1].toNat : Int) ≤ 1) = true := by simp; omega
        clear e hh hl h1 hn1 hb1 h2 hn2 h3 hg
        by_cases hone : s[1].toNat = 1
        · have hb : ((s[1].toNat : Int) == 1) = true := by rw [hone]; rfl
          have HO := Lib.hid hone
          clear hone
          go_enter Tryd.func59/-f-/, Tryd.ntmps59/-f-/
          go_wp2_with (go_at_call 26/-f-/; (with_reducible refine (bool_any true _).mono ?_); rintro e w2 ⟨rfl, hb2⟩; have HR3 := Lib.hid (F0 _ hb2); have r0 := HR3.out.blk.cell 0; have r1 := HR3.out.blk.cell 1; have r2 := HR3.out.blk.cell 2; have g0 := HR3.out.blk.frozen 0; have g1 := HR3.out.blk.frozen 1; have g2 := HR3.out.blk.frozen 2; have gz := HR3.out.blk.lt; simp at r0 r1 r2; clear hb2)
          exact bodyPost_ret (v := .tuple #[.agg #[.int .i64 3, .int .i64 1, .string ⟨#[]⟩], .int .i64 2]) (by simp [results, Tryd.results59/-f-/, go_sem, r0, r1, r2, gz]) rfl ⟨by rw [HO.out]; rfl, HR3.out.end_ _ _ _⟩
        · have hb : ((s[1].toNat : Int) == 1) = false := beq_eq_false_iff_ne.2 (by omega)
          have HO := Lib.hid (show s[1].toNat = 0 by omega)
          clear hone
          go_enter Tryd.func59/-f-/, Tryd.ntmps59/-f-/
          go_wp2_with (go_at_call 26/-f-/; (with_reducible refine (bool_any false _).mono ?_); rintro e w2 ⟨rfl, hb2⟩; have HR3 := Lib.hid (F0 _ hb2); have r0 := HR3.out.blk.cell 0; have r1 := HR3.out.blk.cell 1; have r2 := HR3.out.blk.cell 2; have g0 := HR3.out.blk.frozen 0; have g1 := HR3.out.blk.frozen 1; have g2 := HR3.out.blk.frozen 2; have gz := HR3.out.blk.lt; simp at r0 r1 r2; clear hb2)
          exact bodyPost_ret (v := .tuple #[.agg #[.int .i64 3, .int .i64 0, .string ⟨#[]⟩], .int .i64 2]) (by simp [results, Tryd.results59/-f-/, go_sem, r0, r1, r2, gz]) rfl ⟨by rw [HO.out]; rfl, HR3.out.end_ _ _ _⟩
      · have e : first s.data.toList = none := by
          unfold first
          rw [if_neg hn1, if_neg hn2, hg, if_neg (fun h => hle h.2.2)]
        rw [e]
        have hle2 : decide ((s[1].toNat : Int) ≤ 1) = false := by simp; omega
        clear e hh hl h1 hn1 hb1 h2 hn2 h3 hg
        go_enter Tryd.func59/-f-/, Tryd.ntmps59/-f-/
        go_wp2
        refine bodyPost_ret (v := .tuple #[.agg #[.int .i64 0, .int .i64 0, .string ⟨#[]⟩], .int .i64 0]) (by simp [results, Tryd.results59/-f-/, go_sem]) rfl ⟨rfl, ?_⟩
        repeat (first | exact Below.refl _ _ | (refine Below.setCell ?_ (by simp) _) | (refine Below.alloc ?_ (by simp) _))
    · have e : first s.data.toList = none := by
        unfold first
        rw [if_neg hn1, if_neg hn2, if_neg (fun h => hz2 (by omega))]
      rw [e]
      clear e hh hl h1 hn1 hb1 h2 hn2 h3
      go_enter Tryd.func59/-f-/, Tryd.ntmps59/-f-/
      go_wp2
      refine bodyPost_ret (v := .tuple #[.agg #[.int .i64 0, .int .i64 0, .string ⟨#[]⟩], .int .i64 0]) (by simp [results, Tryd.results59/-f-/, go_sem]) rfl ⟨rfl, ?_⟩
      repeat (first | exact Below.refl _ _ | (refine Below.setCell ?_ (by simp) _) | (refine Below.alloc ?_ (by simp) _))
  · have e : first s.data.toList = none := by
      unfold first
      rw [if_neg hn1, if_neg hn2, if_neg (fun h => h3 (by have h4 := h.1; rw [hh] at h4; exact Option.some.inj h4))]
    rw [e]
    have hc3 : ((s[0].toNat : Int) == 3) = false := beq_eq_false_iff_ne.2 (fun h => h3 (UInt8.toNat_inj.1 (by show s[0].toNat = 3; omega)))
    clear e hh hl hn1 hb1 h2 hn2 h3
    by_cases hc : s[0] = 1
    · have hc1 : ((s[0].toNat : Int) == 1) = true := by rw [hc]; rfl
      have hn9 : ¬ (9 : Int) ≤ s.size := fun h => h1 ⟨hc, by omega⟩
      clear h1 hc
      go_enter Tryd.func59/-f-/, Tryd.ntmps59/-f-/
      go_wp2
      refine bodyPost_ret (v := .tuple #[.agg #[.int .i64 0, .int .i64 0, .string ⟨#[]⟩], .int .i64 0]) (by simp [results, Tryd.results59/-f-/, go_sem]) rfl ⟨rfl, ?_⟩
      repeat (first | exact Below.refl _ _ | (refine Below.setCell ?_ (by simp) _) | (refine Below.alloc ?_ (by simp) _))
    · have hc1 : ((s[0].toNat : Int) == 1) = false := beq_eq_false_iff_ne.2 (fun h => hc (UInt8.toNat_inj.1 (by show s[0].toNat = 1; omega)))
      clear h1 hc
      go_enter Tryd.func59/-f-/, Tryd.ntmps59/-f-/
      go_wp2
      refine bodyPost_ret (v := .tuple #[.agg #[.int .i64 0, .int .i64 0, .string ⟨#[]⟩], .int .i64 0]) (by simp [results, Tryd.results59/-f-/, go_sem]) rfl ⟨rfl, ?_⟩
      repeat (first | exact Below.refl _ _ | (refine Below.setCell ?_ (by simp) _) | (refine Below.alloc ?_ (by simp) _))
end Go.Proofs.YtabdmhlnaahdlaaDoor
