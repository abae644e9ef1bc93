/- CodecBack: whatever number, text, rows, more bytes and place: what is laid is read as it was; of what is cut off the reader is bad. No condition. -/
import Derived.Test.YtelfppjgdhelbaaRows
import Derived.Test.YtelfppjgdhelbaaGrt
import Derived.Laws.DeepStrings4
namespace Go.Proofs.Ytelfppjgdhelbaa.CodecBack
open Go.ChangeShapes Go.WideShapes Go.ChangeAt Go.RowKit
set_option linter.unusedVariables false
def allR (rs : List (List Val)) : Bool := rs.all rall
theorem rowz_rws {w w' : World} {base g : Nat} {A : Option Addr} {rs : List (List Val)} (h : Rowz w A rs) (hb : Below w.heap.size w w') (hbase : w.heap.size ≤ base) : Rws w' base g A rs ∧ (rs ≠ [] → Safe w' base g A) := by
  rcases h with h | ⟨b, off, rfl, hbw, hcell⟩
  · exact ⟨.inl h, fun h2 => absurd h h2⟩
  · refine ⟨.inr ⟨b, off, rfl, Nat.lt_of_lt_of_le hbw hb.size, fun i hi => ?_⟩, fun _ b' off' e => ?_⟩
    · obtain ⟨Ai, ci, h1, h2⟩ := hcell i hi
      refine ⟨Ai, ci, (hb.cell (p := ⟨b, off + i, none⟩) hbw).trans h1, h2.keep hb, fun hne b' off' e => ?_⟩
      rcases h2 with h2 | ⟨b2, off2, e2, hb2, _⟩
      · exact absurd h2 hne
      · rw [e] at e2
        have := Option.some.inj e2
        simp at this
        exact .inl (by omega)
    · have := Option.some.inj e
      simp at this
      exact .inl (by omega)
/-- All that is laid. -/
def allW (n : Int) (t : ByteArray) (rs : List (List Val)) : List UInt8 := num (zig n) ++ (textW t ++ rowsW rs)
theorem allW_pos (n : Int) (t : ByteArray) (rs : List (List Val)) : 0 < (allW n t rs).length := by unfold allW num; simp
theorem textW_reads (t : ByteArray) (h : t.size ≤ 1000) : Reads (textR 1000) t.data.toList (textW t) := by
  have hl : t.data.toList.length = t.size := by simp
  have := text_reads t.data.toList 1000 (by omega) (by omega)
  rw [hl] at this
  exact this
theorem rowsW_reads (rs : List (List Val)) (hl : rs.length ≤ 30) (h : ∀ r ∈ rs, r.length ≤ 30 ∧ ∀ x ∈ r, FitV x) (ha : allR rs = true) : Reads (rowsR 30 30) rs (rowsW rs) :=
  rows_reads rs 30 30 (by omega) (by omega) fun r hr => ⟨by have := (h r hr).1; omega, by have := (h r hr).1; omega, fun v hv => by
    have h1 := List.all_eq_true.1 ha r hr
    exact ⟨List.all_eq_true.1 h1 v hv, ((h r hr).2 v hv).n⟩⟩
theorem allW_len (n : Int) (t : ByteArray) (rs : List (List Val)) (hn : -9223372036854775808 ≤ n ∧ n ≤ 9223372036854775807) (ht : t.size ≤ 1000) (hl : rs.length ≤ 30) (h : ∀ r ∈ rs, r.length ≤ 30 ∧ ∀ x ∈ r, FitV x) : (allW n t rs).length ≤ 7000000 := by
  unfold allW rowsW
  have h1 := num_len9 (zig n) (by have := zig_lt n hn.1 hn.2; omega)
  have h2 := textW_len t (by omega)
  have h3 := num_len9 rs.length (by omega)
  have h4 := flat_len rowW 210009 rs (fun r hr => rowW_len r (h r hr).2 (by have := (h r hr).1; omega))
  simp only [List.length_append]
  omega
set_option maxRecDepth 100000 in
set_option maxHeartbeats 16000000 in
theorem walk (n : Int) (t : ByteArray) (A : Option Addr) (len cap : Nat) (rs : List (List Val)) (m : ByteArray) (a : Int) (w : World) (hn : -9223372036854775808 ≤ n ∧ n ≤ 9223372036854775807) (ha : -9223372036854775808 ≤ a ∧ a ≤ 9223372036854775807)
    (ht : t.size ≤ 9223372036854775807) (hm : m.size ≤ 9223372036854775807) (hA : Rowz w A rs) (hl : rs.length = len) (hf : ∀ r ∈ rs, r.length ≤ 9223372036854775807 ∧ ∀ x ∈ r, FitV x) (hs : len ≤ 9223372036854775807) :
    Calls Try.prog 5/-f-/ #[.int .i64 n, .string t, .slice A len cap, .string m, .int .i64 a] w fun e w' => e = .returned (.bool true) ∧ Below w.heap.size w w' := by
  subst hl
  have GR := Lib.hid (rowsgreat_any A rs.length cap rs w hA rfl hf hs)
  have HA := Lib.hid hA
  have HF := Lib.hid hf
  clear hA hf
  obtain ⟨q, hq⟩ : ∃ q, q = greatR rs := ⟨_, rfl⟩
  rw [← hq] at GR
  have HQ := Lib.hid hq
  clear hq
  cases q with
  | true =>
    go_enter Try.func5, Try.ntmps5
    go_wp2_with (first
      | (go_at_call 8/-f-/; refine GR.out.mono ?_; rintro e w1 ⟨rfl, rfl⟩)
      | (go_at_call 9/-f-/; refine (awake_any _).mono ?_; rintro e w1 ⟨rfl, hb1⟩))
    go_ret
    exact ⟨rfl, hb1⟩
  | false =>
    have hno := greatR_no HQ.out.symm
    by_cases htl : 1000 < t.size
    · go_enter Try.func5, Try.ntmps5
      go_wp2_with (first
        | (go_at_call 8/-f-/; refine GR.out.mono ?_; rintro e w1 ⟨rfl, rfl⟩)
        | (go_at_call 9/-f-/; refine (awake_any _).mono ?_; rintro e w1 ⟨rfl, hb1⟩))
      go_ret
      exact ⟨rfl, hb1⟩
    by_cases hml : 1000 < m.size
    · go_enter Try.func5, Try.ntmps5
      go_wp2_with (first
        | (go_at_call 8/-f-/; refine GR.out.mono ?_; rintro e w1 ⟨rfl, rfl⟩)
        | (go_at_call 9/-f-/; refine (awake_any _).mono ?_; rintro e w1 ⟨rfl, hb1⟩))
      go_ret
      exact ⟨rfl, hb1⟩
    have HNO := Lib.hid hno
    have hrl : rs.length ≤ 30 := hno.1
    clear hno
    go_enter Try.func5, Try.ntmps5
    go_upto_region 3 with (first
      | (go_at_call 8/-f-/; refine GR.out.mono ?_; rintro e w1 ⟨rfl, rfl⟩))
    go_wp2
    go_loopw [11] (fun i wr => ∃ k : Nat, k ≤ rs.length ∧ i = .int .i64 k ∧ Below w.heap.size w wr ∧ Hid (allR (rs.take k) = true)) (fun i _ => rs.length - (intOf i).toNat)
    case atStart => exact ⟨0, Nat.zero_le _, rfl, Below.refl _ _, Lib.hid rfl⟩
    case round =>
      obtain ⟨k, hk, rfl, hbl, hall⟩ := hrel
      have hsz := hbl.size
      by_cases hlt : k < rs.length
      · rcases HA.out with h | ⟨b, off, rfl, hbw, hcell⟩
        · subst h; simp at hlt
        obtain ⟨Ai, ci, h1, hv⟩ := hcell k hlt
        have x0 := (hbl.cell (p := ⟨b, off + k, none⟩) hbw).trans h1
        have hbw2 : b < wr.heap.size := Nat.lt_of_lt_of_le hbw hsz
        have HFX := Lib.hid (HF.out (rs.getD k []) (by simp [List.getD, hlt]))
        have hlr : (rs.getD k []).length ≤ 30 := (HNO.out.2 (rs.getD k []) (by simp [List.getD, hlt])).1
        have HT := Lib.hid (show allR (rs.take (k + 1)) = (allR (rs.take k) && rall (rs.getD k [])) from by
          unfold allR
          rw [List.take_succ_eq_append_getElem hlt, List.all_append]
          simp [List.getD, List.getElem?_eq_getElem hlt])
        have HV := Lib.hid (hv.keep hbl)
        clear hcell hv h1
        generalize rs.getD k [] = r at *
        have C := Lib.hid (refall_any Ai r.length ci r wr HV.out rfl HFX.out.2 (by omega))
        obtain ⟨q, hq⟩ : ∃ q, q = rall r := ⟨_, rfl⟩
        rw [← hq] at C HT
        clear hq
        cases q with
        | false =>
          go_wp2_with (first
            | (go_at_call 28/-f-/; refine C.out.mono ?_; rintro e w1 ⟨rfl, hb1⟩)
            | (go_at_call 9/-f-/; refine (awake_any _).mono ?_; rintro e w2 ⟨rfl, hb2⟩))
          go_ret
          exact ⟨rfl, hbl.trans ((below_trans' hb1 hb2).mono hsz)⟩
        | true =>
          go_wp2_with (first
            | (go_at_call 28/-f-/; refine C.out.mono ?_; rintro e w1 ⟨rfl, hb1⟩))
          go_roundw
          case rel => exact ⟨k + 1, by omega, by go_num, hbl.trans (hb1.mono hsz), Lib.hid (by rw [HT.out, hall.out]; rfl)⟩
          case measure => simp [intOf]; omega
      · have hkl : k = rs.length := by omega
        subst hkl
        rw [List.take_length] at hall
        obtain ⟨H, hH⟩ : ∃ H, H = wr.heap.size := ⟨_, rfl⟩
        have hRS := Lib.hid (rowz_rws (base := H) (g := H) HA.out (hbl.alloc hsz (.cells #[.slice none 0 0] 43)) (by rw [hH]; exact hsz))
        have W0 := Lib.hid (wr_new wr)
        have HB0 := Lib.hid (hbl.alloc hsz (.cells #[.slice none 0 0] 43))
        have S0 : (wr.alloc (.cells #[.slice none 0 0] 43)).heap.size = H + 1 := by rw [hH]; simp
        rw [← hH] at W0
        have HHW := Lib.hid hH
        have hHw : w.heap.size ≤ H := by omega
        generalize hw0 : wr.alloc (.cells #[.slice none 0 0] 43) = w0 at *
        have HW0 := Lib.hid hw0
        have hH0 : H ≤ w0.heap.size := by omega
        have hHlt : H < w0.heap.size := by omega
        clear hw0 hH S0
        have HL0 := Lib.hid (Laid.refl W0.out)
        have HL1 := Lib.hid (HL0.out.more hH0 ((Below.refl _ _).alloc (Nat.le_refl _) (.cells #[.int .i64 n] 2)))
        have hl0 := allW_len n t rs hn (by omega) hrl (fun r hr => ⟨(HNO.out.2 r hr).1, (HF.out r hr).2⟩)
        have hz9 := num_len9 (zig n) (by have := zig_lt n hn.1 hn.2; omega)
        have ht9 := textW_len t (by omega)
        have C1 := Lib.hid (wsigned_any H H [] (some ⟨w0.heap.size, 0, none⟩) 1 1 [n] _ HL1.out.wr (new_ints w0 w0.heap.size 2 n rfl) (fun _ => new_safe (W := w0) (base := H) (g := H) (t := 2) (N := w0.heap.size) (cs := #[.int .i64 n]) hHlt (by decide) rfl) rfl (fun x hx => by simp at hx; subst hx; exact hn) (by simp; omega) (by simp) (by omega))
        rw [show [] ++ signedsW [n] = num (zig n) from by simp [signedsW]] at C1
        go_upto_region 9 with fail
        rw [← HHW.out, HW0.out]
        go_wp2_with fail
        refine C1.out.mono ?_
        rintro e w1 ⟨rfl, hl1⟩
        have HL2 := Lib.hid (HL1.out.trans hl1)
        clear hl1
        have hs1 : H < w1.heap.size := by obtain ⟨_, v, hB, _⟩ := HL2.out.wr; exact hB.lt
        have HL3 := Lib.hid (HL2.out.more (by omega) ((Below.refl _ _).alloc (Nat.le_refl _) (.cells #[.string t] 9)))
        have C2 := Lib.hid (wtext_any H H (num (zig n)) (some ⟨w1.heap.size, 0, none⟩) 1 1 [t] _ HL3.out.wr (new_strs w1 w1.heap.size 9 t rfl) (fun _ => new_safe (W := w1) (base := H) (g := H) (t := 9) (N := w1.heap.size) (cs := #[.string t]) hs1 (by decide) rfl) rfl (fun x hx => by simp at hx; subst hx; omega) (by simp; omega) (by omega) (by omega))
        rw [show num (zig n) ++ textsW [t] = num (zig n) ++ textW t from by simp [textsW]] at C2
        go_wp2_with fail
        refine C2.out.mono ?_
        rintro e w2 ⟨rfl, hl1⟩
        have HL4 := Lib.hid (HL3.out.trans hl1)
        clear hl1
        have hs2 : H < w2.heap.size := by obtain ⟨_, v, hB, _⟩ := HL4.out.wr; exact hB.lt
        have C3 := Lib.hid (wrows_any H H (num (zig n) ++ textW t) A rs.length cap rs w2 HL4.out.wr (hRS.out.1.laid hRS.out.2 HL4.out) (fun h => (hRS.out.2 h).laid HL4.out) rfl (fun r hr => ⟨by have := (HNO.out.2 r hr).1; omega, (HF.out r hr).2⟩) (by omega) (by rw [List.length_append]; omega) (by omega))
        rw [show (num (zig n) ++ textW t) ++ rowsW rs = allW n t rs from by simp [allW]] at C3
        go_wp2_with fail
        refine C3.out.mono ?_
        rintro e w3 ⟨rfl, hl1⟩
        have HL5 := Lib.hid (HL4.out.trans hl1)
        clear hl1
        have hs3 : H < w3.heap.size := by obtain ⟨_, v, hB, _⟩ := HL5.out.wr; exact hB.lt
        go_wp2_with fail
        refine (wstring_any H H _ _ HL5.out.wr).mono ?_
        rintro e w4 ⟨rfl, rfl⟩
        obtain ⟨S, hS⟩ : ∃ S : ByteArray, S = ⟨(allW n t rs).toArray⟩ := ⟨_, rfl⟩
        rw [← hS]
        have HSL := Lib.hid (show S.data.toList = allW n t rs from by rw [hS])
        have hSsz : S.size = (allW n t rs).length := by rw [hS]; simp [ByteArray.size]
        have hSp : 0 < S.size := by have := allW_pos n t rs; omega
        have hSm : S.size ≤ 7000000 := by omega
        have hS0 : ((S.size : Int) == 0) = false := beq_eq_false_iff_ne.2 (by omega)
        have hcc : ¬ (9223372036854775807 < S.size + m.size) := by omega
        have hSz := Lib.hid hSsz
        clear hS hSsz
        go_wp2_with fail
        refine (read_any _ _ (by rw [ByteArray.size_append]; omega)).mono ?_
        rintro e w4 ⟨⟨g, rfl, hg, hr⟩, hb4⟩
        have HR4 := Lib.hid (show Rd w4 g (some (num (zig n) ++ (textW t ++ (rowsW rs ++ m.data.toList)))) from by
          have e1 : (S ++ m).data.toList = num (zig n) ++ (textW t ++ (rowsW rs ++ m.data.toList)) := by
            rw [ByteArray.data_append, Array.toList_append, HSL.out]; simp [allW]
          rw [← e1]; exact hr)
        have HB4 := Lib.hid ((HB0.out.trans (HL5.out.below.mono hHw)).trans (hb4.mono (by omega)))
        have hg4 : w.heap.size ≤ g := by omega
        clear hr hb4
        have hml2 : m.data.toList.length ≤ 1000 := by simp; omega
        have D1 := Lib.hid (rsigned_any g _ _ HR4.out (by simp only [Option.getD_some]; unfold allW at hl0; simp only [List.length_append] at hl0 ⊢; omega))
        rw [stepR_ok _ _ _ _ _ ((signed_reads n hn.1 hn.2).all _)] at D1
        go_wp2_with fail
        refine D1.out.mono ?_
        rintro e w5 ⟨rfl, hr5, ho5⟩
        go_wp2_with fail
        have D2 := Lib.hid (rtext_any g 1000 _ _ hr5 (by decide) (by simp only [Option.getD_some]; unfold allW at hl0; simp only [List.length_append] at hl0 ⊢; omega))
        rw [stepR_ok _ _ _ _ _ ((textW_reads t (by omega)).all _)] at D2
        simp only [str_eta] at D2
        refine D2.out.mono ?_
        rintro e w6 ⟨rfl, hr6, ho6⟩
        go_wp2_with fail
        have D3 := Lib.hid (rrows_any g 30 30 _ _ hr6 (by decide) (by decide) (by simp only [Option.getD_some]; unfold allW at hl0; simp only [List.length_append] at hl0 ⊢; omega))
        rw [stepR_ok _ _ _ _ _ ((rowsW_reads rs hrl (fun r hr => ⟨(HNO.out.2 r hr).1, (HF.out r hr).2⟩) hall.out).all _)] at D3
        refine D3.out.mono ?_
        rintro e w7 ⟨⟨u, rfl, hu⟩, hr7, ho7⟩
        obtain ⟨A7, c7, rfl, hz7⟩ := hu.rowz
        have HB7 := Lib.hid (HB4.out.trans ((off_trans ho5 (off_trans ho6 ho7)).below (fun k hk (e : k = g) => by omega) HB4.out.size))
        have HR7 := Lib.hid hr7
        have SM := Lib.hid (rowsame_any A7 A rs.length c7 rs.length cap rs rs w7 hz7 (HA.out.below HB7.out) rfl rfl (by omega) (by omega) (fun r hr => by have := (HNO.out.2 r hr).1; omega) (fun r hr => by have := (HNO.out.2 r hr).1; omega))
        rw [decide_eq_true rfl] at SM
        clear hz7 hu ho5 ho6 ho7 hr5 hr6 hr7
        go_wp2_with fail
        refine SM.out.mono ?_
        rintro e w8 ⟨rfl, j, rfl⟩
        go_wp2_with fail
        have D4 := Lib.hid (rstring_any g (some m.data.toList) (w7.drewN j) HR7.out)
        simp only [Option.getD_some, str_eta] at D4
        refine D4.out.mono ?_
        rintro e w9 ⟨rfl, rfl⟩
        go_wp2_with fail
        refine (rgood_any g (some m.data.toList) (w7.drewN j) HR7.out).mono ?_
        rintro e w9 ⟨rfl, rfl⟩
        obtain ⟨i, hi, hiS⟩ : ∃ i : Nat, wrap64 ((IntKind.u64.wrap a).tmod (S.size : Int)) = (i : Int) ∧ i < S.size := by
          have h0 : 0 ≤ IntKind.u64.wrap a := by rw [IntKind.wrap_u64]; omega
          have h1 : (IntKind.u64.wrap a).tmod (S.size : Int) = IntKind.u64.wrap a % (S.size : Int) := Int.tmod_eq_emod_of_nonneg h0
          have h2 := Int.emod_nonneg (IntKind.u64.wrap a) (show (S.size : Int) ≠ 0 by omega)
          have h3 := Int.emod_lt_of_pos (IntKind.u64.wrap a) (show (0 : Int) < (S.size : Int) by omega)
          refine ⟨(IntKind.u64.wrap a % (S.size : Int)).toNat, ?_, by omega⟩
          rw [h1, IntWalk.wrap64_in _ (by omega)]; omega
        have hez : (S.extract 0 i).size = i := by rw [ByteArray.size_extract]; omega
        have HEZ := Lib.hid hez
        clear hez
        go_wp2_with fail
        refine (read_any _ _ (by have := HEZ.out; omega)).mono ?_
        rintro e w9 ⟨⟨g2, rfl, hg2, hr⟩, hb9⟩
        have hpl : (S.extract 0 i).data.toList = (allW n t rs).take i := by rw [← HSL.out]; simp
        have HR9 := Lib.hid (show Rd w9 g2 (some ((allW n t rs).take i)) from by rw [← hpl]; exact hr)
        have HB9 := Lib.hid (HB7.out.trans ((show Below w7.heap.size w7 w9 from ⟨hb9.os, hb9.tape, hb9.output, hb9.size, hb9.block⟩).mono HB7.out.size))
        have hg29 : w.heap.size ≤ g2 := by have := HB7.out.size; exact Nat.le_trans this hg2
        have hti : ((allW n t rs).take i).length ≤ 7000000 := by rw [List.length_take]; omega
        have HCUT := Lib.hid (cut3 0 [] [] (signed_reads n hn.1 hn.2) (textW_reads t (by omega)) (rowsW_reads rs hrl (fun r hr => ⟨(HNO.out.2 r hr).1, (HF.out r hr).2⟩) hall.out) ((allW n t rs).take i) (by
          have := hSz.out
          show ((allW n t rs).take i).length < (allW n t rs).length
          rw [List.length_take]; omega) ⟨(allW n t rs).drop i, List.take_append_drop i _⟩)
        clear hr hb9 hpl hi
        generalize (allW n t rs).take i = p at *
        have F1 := Lib.hid (rsigned_any g2 _ _ HR9.out (by simp only [Option.getD_some]; omega))
        have hl1 : ((stepR 0 signedR (some p)).2.getD []).length ≤ 7000000 := by rw [step_signed]; have := len_nat (some p); simp only [Option.getD_some] at this; simp only; omega
        generalize stepR 0 signedR (some p) = q1 at *
        obtain ⟨n1, st1⟩ := q1
        simp only at F1 hl1 HCUT
        go_wp2_with fail
        refine F1.out.mono ?_
        rintro e w10 ⟨rfl, hr10, ho10⟩
        have F2 := Lib.hid (rtext_any g2 1000 _ _ hr10 (by decide) (by omega))
        have hl2 : ((stepR [] (textR 1000) st1).2.getD []).length ≤ 7000000 := by
          rw [step_text]
          have h1 := len_size 1000 st1
          have h2 : ∀ k st, ((stepR [] (cutR k) st).2.getD []).length ≤ (st.getD []).length := by
            intro k st
            cases st with
            | none => exact Nat.le_refl _
            | some l =>
              cases h : cutR k l with
              | none => rw [stepR_bad _ _ _ h]; simp
              | some x =>
                obtain ⟨u, v⟩ := x
                rw [stepR_ok _ _ _ _ _ h]
                unfold cutR at h
                split at h
                · cases h
                · obtain ⟨_, rfl⟩ := Prod.mk.inj (Option.some.inj h)
                  simp
          have h3 := h2 (stepR 0 (sizeR 1000) st1).1 (stepR 0 (sizeR 1000) st1).2
          omega
        generalize stepR [] (textR 1000) st1 = q2 at *
        obtain ⟨t1, st2⟩ := q2
        simp only at F2 hl2 HCUT
        go_wp2_with fail
        refine F2.out.mono ?_
        rintro e w11 ⟨rfl, hr11, ho11⟩
        have F3 := Lib.hid (rrows_any g2 30 30 _ _ hr11 (by decide) (by decide) (by omega))
        generalize stepR [] (rowsR 30 30) st2 = q3 at *
        obtain ⟨r1, st3⟩ := q3
        simp only at F3 HCUT
        have hst3 := HCUT.out
        subst hst3
        go_wp2_with fail
        refine F3.out.mono ?_
        rintro e w12 ⟨⟨u2, rfl, hu2⟩, hr12, ho12⟩
        have HB12 := Lib.hid (HB9.out.trans ((off_trans ho10 (off_trans ho11 ho12)).below (fun k hk (e : k = g2) => by omega) HB9.out.size))
        go_wp2_with fail
        refine (rgood_any g2 none _ hr12).mono ?_
        rintro e w13 ⟨rfl, rfl⟩
        go_wp2_with fail
        refine (awake_any _).mono ?_
        rintro e w14 ⟨rfl, hb14⟩
        go_wp2
        go_ret
        exact ⟨rfl, HB12.out.trans (hb14.mono HB12.out.size)⟩
theorem own : ownKnob Try.prog.godebug = none := by kernel_rfl
theorem laidOut : laidOutB Try.prog = true := by kernel_rfl
set_option maxRecDepth 100000 in
theorem lifted (os : Os) (started : os.Started) (H : Type) (enc : TypeId × Value → H) :
    ReturnsInHanded {} Try.checked os 5 .any (Rows.codecBackSpec.pre6 enc Try.prog Try.f5 Rows.codecBackRow.domain false) (Rows.codecBackSpec.post enc Try.prog Try.f5 false true false false) := by
  refine returnsInHanded_of_change (C := Try.checked) own started (by kernel_rfl) Try.func5
    (ChangeSpec.witness6 (enc := enc) (C := Try.checked) false ⟨#[], #[.int .i64 0, .string ⟨#[]⟩, .slice none 0 0, .string ⟨#[]⟩, .int .i64 0], []⟩ 8 (by kernel_rfl) (by kernel_rfl) (by kernel_rfl) (by kernel_rfl)) ?_
  intro W base args ds gs before hval0 hW hcnd _
  have hval : ∀ (j : Nat) t v, Try.f5.params[j]? = some t → args[j]? = some v → Value.okWide Try.prog W .any base t v := hval0
  have hW' := hW
  obtain ⟨p, q, hA0, hV, rfl, hfz, hnd⟩ := hW
  have hA : DataW.TrodAll enc Try.prog W 0 (fun _ => true) true Try.f5.params.toList args.toList ds p := hA0
  rw [Try.params5] at hA hval
  obtain ⟨v0, vs0, d0, ds0, p0, q0, hargs, rfl, rfl, h0, r0⟩ := trodAll_cons hA
  obtain ⟨v1, vs1, d1, ds1, p1, q1, rfl, rfl, rfl, h1, r1⟩ := trodAll_cons r0
  obtain ⟨v2, vs2, d2, ds2, p2, q2, rfl, rfl, rfl, h2, r2⟩ := trodAll_cons r1
  obtain ⟨v3, vs3, d3, ds3, p3, q3, rfl, rfl, rfl, h3, r3⟩ := trodAll_cons r2
  obtain ⟨v4, vs4, d4, ds4, p4, q4, rfl, rfl, rfl, h4, r4⟩ := trodAll_cons r3
  obtain ⟨rfl, rfl, rfl⟩ := trodAll_nil r4
  obtain rfl : args = #[v0, v1, v2, v3, v4] := by cases args; simp_all
  obtain ⟨rfl, rfl⟩ := trodVars_none hV
  obtain ⟨a0, rfl, rfl, rfl, w0⟩ := open_int Try.underlying2 (hval 0 2 v0 rfl rfl) h0
  have b0 := bounds_i64 w0
  obtain ⟨s1, rfl, rfl, rfl, z1⟩ := Go.ChangeMaps.open_string Try.underlying9 (hval 1 9 v1 rfl rfl) h1
  obtain ⟨a2, len2, cap2, rfl⟩ := okWide_slice Try.underlying26 (hval 2 26 v2 rfl rfl)
  have k2 := h2
  have lt2 : ∀ x ∈ p2, x.block < W.heap.size := by obtain ⟨m, hm⟩ := k2; exact DataW.trod_lt m _ _ _ hm
  obtain ⟨fuel2, hf2⟩ := h2
  have hg2 : DataW.trod enc Try.prog W 0 (fun _ => true) true fuel2 26 [.slice a2 len2 cap2] = some (d2, p2) := by simpa [Value.cells] using hf2
  have o2 := rows_open hg2
  obtain ⟨le2, rs2, rl2, rz2, rf2⟩ := o2
  obtain ⟨s3, rfl, rfl, rfl, z3⟩ := Go.ChangeMaps.open_string Try.underlying9 (hval 3 9 v3 rfl rfl) h3
  obtain ⟨a4, rfl, rfl, rfl, w4⟩ := open_int Try.underlying3 (hval 4 3 v4 rfl rfl) h4
  have b4 := bounds_i64 w4
  clear hA0 hval0
  refine (walk a0 s1 a2 len2 cap2 rs2 s3 a4 W b0 b4 (by unfold maxLen at z1; omega) (by unfold maxLen at z3; omega) rz2 rl2 rf2 le2).mono fun e W' ⟨he, bel⟩ => ?_
  subst he
  exact ⟨_, rfl, _, _, _, [], _, [], hW', trodAll_mk1 (shut_bool Try.underlying4 _), (trodAll_cons_mk (shut_int Try.underlying2 w0) (trodAll_cons_mk (Go.ChangeMaps.shut_string Try.underlying9 z1) (trodAll_cons_mk (Below.trod laidOut (by kernel_rfl) (of_decide_eq_true (by kernel_rfl)) k2 bel lt2) (trodAll_cons_mk (Go.ChangeMaps.shut_string Try.underlying9 z3) (trodAll_cons_mk (shut_int Try.underlying3 w4) trodAll_mk0))))), rfl, bel.frame _, fun h => by cases h⟩

theorem over : Rows.codecBackRow.holds Try.pinned (OpenSpec.ofChange Rows.codecBackSpec) :=
  OpenClaim.holds_of_wide 5 Try.f5 rfl rfl rfl rfl rfl rfl rfl ⟨rfl, rfl, rfl, rfl, rfl⟩ rfl rfl rfl rfl rfl (by kernel_rfl) Try.func5 (by kernel_rfl)
    (of_decide_eq_true (by kernel_rfl)) (by unfold Func.isWrapper; first | (rw [if_pos (by decide +kernel)]; kernel_rfl) | (rw [if_neg (by decide +kernel)]; exact ⟨rfl, rfl⟩))
    (fun os started H enc _ => lifted os started H enc)

theorem proved : Rows.CodecBackSaid := over

end Go.Proofs.Ytelfppjgdhelbaa.CodecBack
