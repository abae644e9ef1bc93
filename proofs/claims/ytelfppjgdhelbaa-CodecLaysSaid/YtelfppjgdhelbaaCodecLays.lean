/- CodecLays: whatever numbers, texts, values and rows, laid one behind the other: the document's bytes. No condition. -/
import Derived.Test.YtelfppjgdhelbaaRows
import Derived.Test.YtelfppjgdhelbaaCrv
import Derived.Test.YtelfppjgdhelbaaCodecBack
namespace Go.Proofs.Ytelfppjgdhelbaa.CodecLays
open Go.ChangeShapes Go.WideShapes Go.ChangeAt Go.RowKit
set_option linter.unusedVariables false
theorem rown_nil (A : Option Addr) (n c : Nat) (w : World) : Calls Try.prog 20/-f-/ #[.pointer none, .slice A n c] w fun e w' => e = .returned (.pointer none) ∧ Below w.heap.size w w' := by
  go_enter Try.func20, Try.ntmps20
  go_wp2_with (first
    | (go_at_call 16/-f-/; refine (size_nil _ _).mono ?_; rintro e w1 ⟨rfl, rfl⟩)
    | (go_at_call 19/-f-/; refine (value_nil _ _).mono ?_; rintro e w1 ⟨rfl, rfl⟩))
  go_ret
  exact ⟨rfl, (Below.refl _ _).alloc (Nat.le_refl _) _⟩
set_option maxHeartbeats 2000000 in
theorem rowsn_nil (A : Option Addr) (n c : Nat) (rs : List (List Val)) (w : World) (hA : Rowz w A rs) (hn : rs.length = n) (hs : n ≤ 9223372036854775807) : Calls Try.prog 21/-f-/ #[.pointer none, .slice A n c] w fun e w' => e = .returned (.pointer none) ∧ Below w.heap.size w w' := by
  subst hn
  have HA := Lib.hid hA
  have HB0 := Lib.hid ((Below.refl w.heap.size w).alloc (Nat.le_refl _) (.cells #[.int .i64 (rs.length : Int)] 3))
  clear hA
  go_enter Try.func21, Try.ntmps21
  go_wp2_with (first
    | (go_at_call 16/-f-/; refine (size_nil _ _).mono ?_; rintro e w1 ⟨rfl, rfl⟩))
  go_loopw [6, 14] (fun _ i wr => ∃ k : Nat, k ≤ rs.length ∧ i = .int .i64 k ∧ Below w.heap.size w wr) (fun _ i _ => rs.length - (intOf i).toNat)
  case atStart => exact ⟨0, Nat.zero_le _, rfl, HB0.out⟩
  case round =>
    obtain ⟨k, hk, rfl, hbl⟩ := hrel
    have hsz := hbl.size
    by_cases hlt : k < rs.length
    · rcases HA.out with h | ⟨b, off, rfl, hbw, hcell⟩
      · subst h; simp at hlt
      obtain ⟨Ai, ci, h1, hv⟩ := hcell k hlt
      have x0 := (hbl.cell (p := ⟨b, off + k, none⟩) hbw).trans h1
      have hbw2 : b < wr.heap.size := Nat.lt_of_lt_of_le hbw hsz
      clear hcell h1 hv
      go_wp2_with (go_at_call 20/-f-/; refine (rown_nil _ _ _ _).mono ?_; rintro e w2 ⟨rfl, hb2⟩)
      go_roundw
      case rel => exact ⟨k + 1, by omega, by go_num, hbl.trans (hb2.mono hsz)⟩
      case measure => simp [intOf]; omega
    · go_wp2
      go_ret
      exact ⟨rfl, hbl⟩
theorem wstring_nil (w : World) : Calls Try.prog 22/-f-/ #[.pointer none] w fun e w' => e = .returned (.string ⟨#[]⟩) ∧ w = w' := by
  go_enter Try.func22, Try.ntmps22
  go_wp2
  go_ret
  exact ⟨rfl, rfl⟩
theorem wlen_nil (w : World) : Calls Try.prog 23/-f-/ #[.pointer none] w fun e w' => e = .returned (.int .i64 0) ∧ w = w' := by
  go_enter Try.func23, Try.ntmps23
  go_wp2
  go_ret
  exact ⟨rfl, rfl⟩
theorem bstring_nil (w : World) : Calls Try.prog 24/-f-/ #[.pointer none] w fun e w' => e = .returned (.string ⟨#[]⟩) ∧ w = w' := by
  go_enter Try.func24, Try.ntmps24
  go_wp2
  go_ret
  exact ⟨rfl, rfl⟩
theorem blen_nil (w : World) : Calls Try.prog 25/-f-/ #[.pointer none] w fun e w' => e = .returned (.int .i64 0) ∧ w = w' := by
  go_enter Try.func25, Try.ntmps25
  go_wp2
  go_ret
  exact ⟨rfl, rfl⟩
theorem vals_safe {w w' : World} {base g : Nat} {A : Option Addr} {vs : List Val} (h : Vals w A vs) (hbase : w.heap.size ≤ base) : vs ≠ [] → Safe w' base g A := by
  intro hv b off e
  rcases h with h | ⟨b2, off2, e2, hb2, _⟩
  · exact absurd h hv
  · rw [e] at e2
    have := Option.some.inj e2
    simp at this
    exact .inl (by omega)
theorem ints_safe {w w' : World} {base g : Nat} {A : Option Addr} {xs : List Int} (h : Ints w .i64 A xs) (hbase : w.heap.size ≤ base) : xs ≠ [] → Safe w' base g A := by
  intro hv b off e
  rcases h with h | ⟨b2, off2, e2, hb2, _⟩
  · exact absurd h hv
  · rw [e] at e2
    have := Option.some.inj e2
    simp at this
    exact .inl (by omega)
theorem strs_safe {w w' : World} {base g : Nat} {A : Option Addr} {ss : List ByteArray} (h : Strs w A ss) (hbase : w.heap.size ≤ base) : ss ≠ [] → Safe w' base g A := by
  intro hv b off e
  rcases h with h | ⟨b2, off2, e2, hb2, _⟩
  · exact absurd h hv
  · rw [e] at e2
    have := Option.some.inj e2
    simp at this
    exact .inl (by omega)
theorem str_snoc {S T : ByteArray} {a b : List UInt8} (h : S.data.toList = a) (k : T = ⟨b.toArray⟩) : (S ++ T).data.toList = a ++ b := by
  rw [ByteArray.data_append, Array.toList_append, h, k]
set_option maxRecDepth 100000 in
set_option maxHeartbeats 16000000 in
theorem walk (A0 A1 A2 A3 A4 : Option Addr) (n0 n1 n2 n3 n4 c0 c1 c2 c3 c4 : Nat) (xs ns : List Int) (ts : List ByteArray) (vs : List Val) (rs : List (List Val)) (w : World)
    (hA0 : Ints w .i64 A0 xs) (hA1 : Ints w .i64 A1 ns) (hA2 : Strs w A2 ts) (hA3 : Vals w A3 vs) (hA4 : Rowz w A4 rs) (hn0 : xs.length = n0) (hn1 : ns.length = n1) (hn2 : ts.length = n2) (hn3 : vs.length = n3) (hn4 : rs.length = n4)
    (hf0 : Fit64 xs) (hf1 : Fit64 ns) (hf2 : ∀ s ∈ ts, s.size ≤ 9223372036854775807) (hf3 : ∀ x ∈ vs, FitV x) (hf4 : ∀ r ∈ rs, r.length ≤ 9223372036854775807 ∧ ∀ x ∈ r, FitV x) (hs0 : n0 ≤ 9223372036854775807) (hs1 : n1 ≤ 9223372036854775807) (hs2 : n2 ≤ 9223372036854775807) (hs3 : n3 ≤ 9223372036854775807) (hs4 : n4 ≤ 9223372036854775807) :
    Calls Try.prog 3/-f-/ #[.slice A0 n0 c0, .slice A1 n1 c1, .slice A2 n2 c2, .slice A3 n3 c3, .slice A4 n4 c4] w fun e w' => e = .returned (.bool true) ∧ Below w.heap.size w w' := by
  subst hn0 hn1 hn2 hn3 hn4
  have GV := Lib.hid (refgreat_any A3 vs.length c3 vs w hA3 rfl hf3 hs3)
  have GR := Lib.hid (rowsgreat_any A4 rs.length c4 rs w hA4 rfl hf4 hs4)
  have HA0 := Lib.hid hA0
  have HA1 := Lib.hid hA1
  have HA2 := Lib.hid hA2
  have HA3 := Lib.hid hA3
  have HA4 := Lib.hid hA4
  have HF0 := Lib.hid hf0
  have HF1 := Lib.hid hf1
  have HF2 := Lib.hid hf2
  have HF3 := Lib.hid hf3
  have HF4 := Lib.hid hf4
  clear hA0 hA1 hA2 hA3 hA4 hf0 hf1 hf2 hf3 hf4
  obtain ⟨q3, hq3⟩ : ∃ q, q = greatB vs := ⟨_, rfl⟩
  obtain ⟨q4, hq4⟩ : ∃ q, q = greatR rs := ⟨_, rfl⟩
  rw [← hq3] at GV
  rw [← hq4] at GR
  have HQ3 := Lib.hid hq3
  have HQ4 := Lib.hid hq4
  clear hq3 hq4
  by_cases e0 : 30 < xs.length
  · clear GV GR
    go_enter Try.func3, Try.ntmps3
    go_wp2_with (first
      | (go_at_call 9/-f-/; refine (awake_any _).mono ?_; rintro e w1 ⟨rfl, hb1⟩))
    go_ret
    exact ⟨rfl, hb1⟩
  by_cases e1 : 30 < ns.length
  · clear GV GR
    go_enter Try.func3, Try.ntmps3
    go_wp2_with (first
      | (go_at_call 9/-f-/; refine (awake_any _).mono ?_; rintro e w1 ⟨rfl, hb1⟩))
    go_ret
    exact ⟨rfl, hb1⟩
  by_cases e2 : 30 < ts.length
  · clear GV GR
    go_enter Try.func3, Try.ntmps3
    go_wp2_with (first
      | (go_at_call 9/-f-/; refine (awake_any _).mono ?_; rintro e w1 ⟨rfl, hb1⟩))
    go_ret
    exact ⟨rfl, hb1⟩
  cases q3 with
  | true =>
    clear GR
    go_enter Try.func3, Try.ntmps3
    go_wp2_with (first
      | (go_at_call 7/-f-/; refine GV.out.mono ?_; rintro e w1 ⟨rfl, rfl⟩)
      | (go_at_call 9/-f-/; refine (awake_any _).mono ?_; rintro e w1 ⟨rfl, hb1⟩))
    go_ret
    exact ⟨rfl, hb1⟩
  | false =>
  cases q4 with
  | true =>
    go_enter Try.func3, Try.ntmps3
    go_wp2_with (first
      | (go_at_call 7/-f-/; refine GV.out.mono ?_; rintro e w1 ⟨rfl, rfl⟩)
      | (go_at_call 8/-f-/; refine GR.out.mono ?_; rintro e w1 ⟨rfl, rfl⟩)
      | (go_at_call 9/-f-/; refine (awake_any _).mono ?_; rintro e w1 ⟨rfl, hb1⟩))
    go_ret
    exact ⟨rfl, hb1⟩
  | false =>
  have hno3 := great_no HQ3.out.symm
  have hno4 := greatR_no HQ4.out.symm
  have h30 : vs.length ≤ 30 := hno3.1
  have h40 : rs.length ≤ 30 := hno4.1
  have HNO4 := Lib.hid hno4
  clear hno3 hno4
  go_enter Try.func3, Try.ntmps3
  go_upto_region 3 with (first
    | (go_at_call 7/-f-/; refine GV.out.mono ?_; rintro e w1 ⟨rfl, rfl⟩)
    | (go_at_call 8/-f-/; refine GR.out.mono ?_; rintro e w1 ⟨rfl, rfl⟩))
  go_wp2
  go_loopw [11, 12] (fun sv i wr => ∃ (k : Nat) (S : ByteArray), k ≤ xs.length ∧ i = .int .i64 k ∧ sv = .string S ∧ S.size ≤ 9 * k ∧ Hid (S.data.toList = sizesW (xs.take k)) ∧ Below w.heap.size w wr) (fun _ i _ => xs.length - (intOf i).toNat)
  case atStart => exact ⟨0, _, Nat.zero_le _, rfl, rfl, Nat.le_refl _, Lib.hid (by simp [sizesW]), Below.refl _ _⟩
  case round =>
    obtain ⟨k, S, hk, rfl, rfl, hSs, hS, hbl⟩ := hrel
    have hsz := hbl.size
    by_cases hlt : k < xs.length
    · rcases HA0.out with h | ⟨b, off, rfl, hbw, hcell⟩
      · subst h; simp at hlt
      have x0 := (hbl.cell (p := ⟨b, off + k, none⟩) hbw).trans (hcell k hlt)
      have hbw2 : b < wr.heap.size := Nat.lt_of_lt_of_le hbw hsz
      have HT := Lib.hid (sizesW_take xs k hlt)
      have hfx := HF0.out.at_ k
      clear hcell
      generalize xs.getD k 0 = x at *
      have C := Lib.hid (refsize_any x wr hfx.1 hfx.2)
      obtain ⟨T, hT⟩ : ∃ T : ByteArray, T = ⟨(num x.toNat).toArray⟩ := ⟨_, rfl⟩
      rw [← hT] at C
      have hTs : T.size ≤ 9 := by rw [hT, str_size]; exact num_len9 _ (by omega)
      have HTT := Lib.hid hT
      have hcc : ¬ (9223372036854775807 < S.size + T.size) := by omega
      clear hT
      go_wp2_with (go_at_call 10/-f-/; refine C.out.mono ?_; rintro e w2 ⟨rfl, hb2⟩)
      go_roundw
      case rel => exact ⟨k + 1, _, by omega, by go_num, rfl, by rw [ByteArray.size_append]; omega, Lib.hid (by rw [HT.out]; exact str_snoc hS.out HTT.out), hbl.trans (hb2.mono hsz)⟩
      case measure => simp [intOf]; omega
    · have hkl : k = xs.length := by omega
      subst hkl
      rw [List.take_length] at hS
      obtain ⟨w1, hw1⟩ : ∃ w1 : World, w1 = wr := ⟨_, rfl⟩
      have HS1 := Lib.hid hS
      have hS1 : S.size ≤ 270 := by omega
      have HB1 := Lib.hid hbl
      clear hw1 hS hSs hbl hsz hlt w1
      go_wp2
      go_loopw [11, 13] (fun sv i wr => ∃ (k : Nat) (S : ByteArray), k ≤ ns.length ∧ i = .int .i64 k ∧ sv = .string S ∧ S.size ≤ 270 + 9 * k ∧ Hid (S.data.toList = sizesW xs ++ signedsW (ns.take k)) ∧ Below w.heap.size w wr) (fun _ i _ => ns.length - (intOf i).toNat)
      case atStart => exact ⟨0, _, Nat.zero_le _, rfl, rfl, hS1, Lib.hid (by rw [HS1.out]; simp [signedsW]), HB1.out⟩
      case round =>
        obtain ⟨k, S, hk, rfl, rfl, hSs, hS, hbl⟩ := hrel
        have hsz := hbl.size
        by_cases hlt : k < ns.length
        · rcases HA1.out with h | ⟨b, off, rfl, hbw, hcell⟩
          · subst h; simp at hlt
          have x0 := (hbl.cell (p := ⟨b, off + k, none⟩) hbw).trans (hcell k hlt)
          have hbw2 : b < wr.heap.size := Nat.lt_of_lt_of_le hbw hsz
          have HT := Lib.hid (signedsW_take ns k hlt)
          have hfx := HF1.out.at_ k
          clear hcell
          generalize ns.getD k 0 = x at *
          have C := Lib.hid (refsigned_any x wr hfx.1 hfx.2)
          obtain ⟨T, hT⟩ : ∃ T : ByteArray, T = ⟨(num (zig x)).toArray⟩ := ⟨_, rfl⟩
          rw [← hT] at C
          have hTs : T.size ≤ 9 := by rw [hT, str_size]; exact num_len9 _ (by have := zig_lt x hfx.1 hfx.2; omega)
          have HTT := Lib.hid hT
          have hcc : ¬ (9223372036854775807 < S.size + T.size) := by omega
          clear hT
          go_wp2_with (go_at_call 11/-f-/; refine C.out.mono ?_; rintro e w2 ⟨rfl, hb2⟩)
          go_roundw
          case rel => exact ⟨k + 1, _, by omega, by go_num, rfl, by rw [ByteArray.size_append]; omega, Lib.hid (by rw [HT.out, ← List.append_assoc]; exact str_snoc hS.out HTT.out), hbl.trans (hb2.mono hsz)⟩
          case measure => simp [intOf]; omega
        · have hkl : k = ns.length := by omega
          subst hkl
          rw [List.take_length] at hS
          have HS2 := Lib.hid hS
          have hS2 : S.size ≤ 540 := by omega
          have HB2 := Lib.hid hbl
          clear hS hSs hbl hsz hlt
          go_wp2
          go_loopw [11, 14] (fun sv i wr => ∃ (k : Nat) (S : ByteArray), k ≤ ts.length ∧ i = .int .i64 k ∧ sv = .string S ∧ S.size ≤ 540 + 2009 * k ∧ Hid (S.data.toList = (sizesW xs ++ signedsW ns) ++ textsW (ts.take k)) ∧ Hid (∀ s ∈ ts.take k, s.size ≤ 1000) ∧ Below w.heap.size w wr) (fun _ i _ => ts.length - (intOf i).toNat)
          case atStart => exact ⟨0, _, Nat.zero_le _, rfl, rfl, hS2, Lib.hid (by rw [HS2.out]; simp [textsW]), Lib.hid (fun s hs => by simp at hs), HB2.out⟩
          case round =>
            obtain ⟨k, S, hk, rfl, rfl, hSs, hS, hall, hbl⟩ := hrel
            have hsz := hbl.size
            by_cases hlt : k < ts.length
            · rcases HA2.out with h | ⟨b, off, rfl, hbw, hcell⟩
              · subst h; simp at hlt
              have x0 := (hbl.cell (p := ⟨b, off + k, none⟩) hbw).trans (hcell k hlt)
              have hbw2 : b < wr.heap.size := Nat.lt_of_lt_of_le hbw hsz
              have HT := Lib.hid (show textsW (ts.take (k + 1)) = textsW (ts.take k) ++ textW (ts.getD k ⟨#[]⟩) from textsW_take ts k hlt)
              have HTK := Lib.hid (show ts.take (k + 1) = ts.take k ++ [ts.getD k ⟨#[]⟩] from by rw [List.take_succ_eq_append_getElem hlt]; simp [List.getD, List.getElem?_eq_getElem hlt])
              have hfx := HF2.out (ts.getD k ⟨#[]⟩) (by simp [List.getD, hlt])
              clear hcell
              generalize ts.getD k ⟨#[]⟩ = x at *
              by_cases hx : 1000 < x.size
              · go_wp2_with (go_at_call 9/-f-/; refine (awake_any _).mono ?_; rintro e w2 ⟨rfl, hb2⟩)
                go_ret
                exact ⟨rfl, hbl.trans (hb2.mono hsz)⟩
              have C := Lib.hid (reftext_any x wr (by omega))
              obtain ⟨T, hT⟩ : ∃ T : ByteArray, T = ⟨(textW x).toArray⟩ := ⟨_, rfl⟩
              rw [← hT] at C
              have hTs : T.size ≤ 2009 := by rw [hT, str_size]; exact textW_len x (by omega)
              have HTT := Lib.hid hT
              have hcc : ¬ (9223372036854775807 < S.size + T.size) := by omega
              clear hT
              go_wp2_with (go_at_call 12/-f-/; refine C.out.mono ?_; rintro e w2 ⟨rfl, hb2⟩)
              go_roundw
              case rel => exact ⟨k + 1, _, by omega, by go_num, rfl, by rw [ByteArray.size_append]; omega, Lib.hid (by rw [HT.out, ← List.append_assoc]; exact str_snoc hS.out HTT.out), Lib.hid (fun s hs => by
                rw [HTK.out, List.mem_append, List.mem_singleton] at hs
                rcases hs with hs | rfl
                · exact hall.out s hs
                · omega), hbl.trans (hb2.mono hsz)⟩
              case measure => simp [intOf]; omega
            · have hkl : k = ts.length := by omega
              subst hkl
              rw [List.take_length] at hS hall
              have HS3 := Lib.hid hS
              have hS3 : S.size ≤ 60810 := by omega
              have HB3 := Lib.hid hbl
              have HALL := Lib.hid hall
              clear hS hSs hbl hsz hlt hall
              go_wp2
              go_loopw [11, 15] (fun sv i wr => ∃ (k : Nat) (S : ByteArray), k ≤ vs.length ∧ i = .int .i64 k ∧ sv = .string S ∧ S.size ≤ 60810 + 210 * k ∧ Hid (S.data.toList = ((sizesW xs ++ signedsW ns) ++ textsW ts) ++ valsW (vs.take k)) ∧ Below w.heap.size w wr) (fun _ i _ => vs.length - (intOf i).toNat)
              case atStart => exact ⟨0, _, Nat.zero_le _, rfl, rfl, hS3, Lib.hid (by rw [HS3.out]; simp [valsW]), HB3.out⟩
              case round =>
                obtain ⟨k, S, hk, rfl, rfl, hSs, hS, hbl⟩ := hrel
                have hsz := hbl.size
                by_cases hlt : k < vs.length
                · rcases HA3.out with h | ⟨b, off, rfl, hbw, hcell⟩
                  · subst h; simp at hlt
                  obtain ⟨x0, x1, x2⟩ := hcell k hlt
                  replace x0 := (hbl.cell (p := ⟨b, off + k * 3, none⟩) hbw).trans x0
                  replace x1 := (hbl.cell (p := ⟨b, off + k * 3 + 1, none⟩) hbw).trans x1
                  replace x2 := (hbl.cell (p := ⟨b, off + k * 3 + 2, none⟩) hbw).trans x2
                  have hbw2 : b < wr.heap.size := Nat.lt_of_lt_of_le hbw hsz
                  have HT := Lib.hid (valsW_take vs k hlt)
                  have HFX := Lib.hid (HF3.out _ (getD_mem vs k hlt))
                  clear hcell
                  generalize vs.getD k default = x at *
                  have hvl := valW_len x HFX.out
                  have C := Lib.hid (refvalue_any x wr HFX.out)
                  obtain ⟨T, hT⟩ : ∃ T : ByteArray, T = ⟨(valW x).toArray⟩ := ⟨_, rfl⟩
                  rw [← hT] at C
                  have hTs : T.size ≤ 210 := by rw [hT, str_size]; exact hvl
                  have HTT := Lib.hid hT
                  have hcc : ¬ (9223372036854775807 < S.size + T.size) := by omega
                  clear hT
                  obtain ⟨xk, xn, xs'⟩ := x
                  simp only at x0 x1 x2
                  go_wp2_with (go_at_call 13/-f-/; refine C.out.mono ?_; rintro e w2 ⟨rfl, hb2⟩)
                  go_roundw
                  case rel => exact ⟨k + 1, _, by omega, by go_num, rfl, by rw [ByteArray.size_append]; omega, Lib.hid (by rw [HT.out, ← List.append_assoc]; exact str_snoc hS.out HTT.out), hbl.trans (hb2.mono hsz)⟩
                  case measure => simp [intOf]; omega
                · have hkl : k = vs.length := by omega
                  subst hkl
                  rw [List.take_length] at hS
                  have HS4 := Lib.hid hS
                  have hS4 : S.size ≤ 67110 := by omega
                  have HB4 := Lib.hid hbl
                  clear hS hSs hbl hsz hlt
                  have hrwl := rowW_len vs HF3.out (by omega)
                  have hrsl : (rowsW rs).length ≤ 6300279 := by
                    unfold rowsW
                    have h3 := num_len9 rs.length (by omega)
                    have h4 := flat_len rowW 210009 rs (fun r hr => rowW_len r (HF4.out r hr).2 (by have := (HNO4.out.2 r hr).1; omega))
                    rw [List.length_append]; omega
                  have C1 := Lib.hid (refrow_any A3 vs.length c3 vs wr (HA3.out.keep HB4.out) rfl HF3.out (by omega))
                  obtain ⟨T1, hT1⟩ : ∃ T : ByteArray, T = ⟨(rowW vs).toArray⟩ := ⟨_, rfl⟩
                  rw [← hT1] at C1
                  have hT1s : T1.size ≤ 210009 := by rw [hT1, str_size]; exact hrwl
                  have HT1 := Lib.hid hT1
                  have C2 := Lib.hid (fun W hW => refrows_any4 A4 rs.length c4 rs W hW rfl (fun r hr => ⟨by have := (HNO4.out.2 r hr).1; omega, (HF4.out r hr).2⟩) (by omega))
                  obtain ⟨T2, hT2⟩ : ∃ T : ByteArray, T = ⟨(rowsW rs).toArray⟩ := ⟨_, rfl⟩
                  rw [← hT2] at C2
                  have hT2s : T2.size ≤ 6300279 := by rw [hT2, str_size]; exact hrsl
                  have HT2 := Lib.hid hT2
                  clear hT1 hT2
                  have hcc1 : ¬ (9223372036854775807 < S.size + T1.size) := by omega
                  have hcs : (S ++ T1).size = S.size + T1.size := ByteArray.size_append
                  have hcc2 : ¬ (9223372036854775807 < (S ++ T1).size + T2.size) := by omega
                  have HCS := Lib.hid hcs
                  clear hcs
                  go_wp2_with fail
                  refine C1.out.mono ?_
                  rintro e w1 ⟨rfl, hb1⟩
                  have HB5 := Lib.hid (HB4.out.trans (hb1.mono HB4.out.size))
                  clear hb1
                  go_wp2_with fail
                  refine (C2.out _ (HA4.out.below HB5.out)).mono ?_
                  rintro e w2 ⟨rfl, hb2⟩
                  have HB6 := Lib.hid (HB5.out.trans (hb2.mono HB5.out.size))
                  clear hb2
                  have HX := Lib.hid (show (S ++ T1 ++ T2).data.toList = ((((sizesW xs ++ signedsW ns) ++ textsW ts) ++ valsW vs) ++ rowW vs) ++ rowsW rs from str_snoc (str_snoc HS4.out HT1.out) HT2.out)
                  have hXs : (S ++ T1 ++ T2).size ≤ 6600000 := by rw [ByteArray.size_append]; have := HCS.out; omega
                  have HXZ := Lib.hid hXs
                  clear hXs hcc2 hcc1
                  have hsz := HB6.out.size
                  obtain ⟨H, hH⟩ : ∃ H, H = w2.heap.size := ⟨_, rfl⟩
                  have W0 := Lib.hid (wr_new w2)
                  have HB0 := Lib.hid (HB6.out.alloc hsz (.cells #[.slice none 0 0] 43))
                  have S0 : (w2.alloc (.cells #[.slice none 0 0] 43)).heap.size = H + 1 := by rw [hH]; simp
                  rw [← hH] at W0
                  have HHW := Lib.hid hH
                  have hHw : w.heap.size ≤ H := by omega
                  generalize hw0 : w2.alloc (.cells #[.slice none 0 0] 43) = w0 at *
                  have HW0 := Lib.hid hw0
                  have hH0 : H ≤ w0.heap.size := by omega
                  clear hw0 hH S0
                  have HL0 := Lib.hid (Laid.refl W0.out)
                  obtain ⟨X, hX⟩ : ∃ X : ByteArray, X = S ++ T1 ++ T2 := ⟨_, rfl⟩
                  go_upto_region 24 with fail
                  rw [← HHW.out, HW0.out, ← hX]
                  rw [← hX] at HX HXZ
                  clear hX
                  have hp1 : (sizesW xs).length ≤ 270 := by have := flat_len (fun x : Int => num x.toNat) 9 xs (fun x hx => num_len9 _ (by have := (HF0.out x hx).2; omega)); unfold sizesW; omega
                  have hp2 : (signedsW ns).length ≤ 270 := by have := flat_len (fun x : Int => num (zig x)) 9 ns (fun x hx => num_len9 _ (by have := zig_lt x (HF1.out x hx).1 (HF1.out x hx).2; omega)); unfold signedsW; omega
                  have hp3 : (textsW ts).length ≤ 60270 := by have := flat_len textW 2009 ts (fun x hx => textW_len x (by have := HALL.out x hx; omega)); unfold textsW; omega
                  have hp4 : (valsW vs).length ≤ 6300 := by have := flat_len valW 210 vs (fun x hx => valW_len x (HF3.out x hx)); unfold valsW; omega
                  go_wp2_with fail
                  refine (size_any H H [] A0 xs.length c0 xs w0 HL0.out.wr (HA0.out.keep HB0.out) (ints_safe HA0.out hHw) rfl HF0.out hH0 (by simp) (by omega)).mono ?_
                  rintro e w3 ⟨rfl, hl1⟩
                  rw [List.nil_append] at hl1
                  have HL1 := Lib.hid hl1
                  clear hl1
                  go_wp2_with fail
                  refine (wsigned_any H H _ A1 ns.length c1 ns w3 HL1.out.wr (HA1.out.keep (HB0.out.trans (HL1.out.below.mono hHw))) (ints_safe HA1.out hHw) rfl HF1.out (HL1.out.base hH0) (by omega) (by omega)).mono ?_
                  rintro e w4 ⟨rfl, hl1⟩
                  have HL2 := Lib.hid (HL1.out.trans hl1)
                  clear hl1
                  go_wp2_with fail
                  refine (wtext_any H H _ A2 ts.length c2 ts w4 HL2.out.wr (HA2.out.keep (HB0.out.trans (HL2.out.below.mono hHw))) (strs_safe HA2.out hHw) rfl (fun s hs => by have := HALL.out s hs; omega) (HL2.out.base hH0) (by rw [List.length_append]; omega) (by omega)).mono ?_
                  rintro e w5 ⟨rfl, hl1⟩
                  have HL3 := Lib.hid (HL2.out.trans hl1)
                  clear hl1
                  go_wp2_with fail
                  refine (wvalue_any H H _ A3 vs.length c3 vs w5 HL3.out.wr (HA3.out.keep (HB0.out.trans (HL3.out.below.mono hHw))) (vals_safe HA3.out hHw) rfl HF3.out (HL3.out.base hH0) (by simp only [List.length_append]; omega) (by omega)).mono ?_
                  rintro e w6 ⟨rfl, hl1⟩
                  have HL4 := Lib.hid (HL3.out.trans hl1)
                  clear hl1
                  go_wp2_with fail
                  refine (wrow_any H H _ A3 vs.length c3 vs w6 HL4.out.wr (HA3.out.keep (HB0.out.trans (HL4.out.below.mono hHw))) (vals_safe HA3.out hHw) rfl HF3.out (HL4.out.base hH0) (by simp only [List.length_append]; omega) (by omega)).mono ?_
                  rintro e w7 ⟨rfl, hl1⟩
                  have HL5 := Lib.hid (HL4.out.trans hl1)
                  clear hl1
                  have HB7 := Lib.hid (HB0.out.trans (HL5.out.below.mono hHw))
                  go_wp2_with fail
                  refine (wrows_any H H _ A4 rs.length c4 rs w7 HL5.out.wr (CodecBack.rowz_rws HA4.out HB7.out hHw).1 (CodecBack.rowz_rws HA4.out HB7.out hHw).2 rfl (fun r hr => ⟨by have := (HNO4.out.2 r hr).1; omega, (HF4.out r hr).2⟩) (HL5.out.base hH0) (by simp only [List.length_append]; omega) (by omega)).mono ?_
                  rintro e w8 ⟨rfl, hl1⟩
                  have HL6 := Lib.hid (HL5.out.trans hl1)
                  clear hl1
                  rw [← HX.out] at HL6
                  have HB8 := Lib.hid (HB0.out.trans (HL6.out.below.mono hHw))
                  go_wp2_with fail
                  refine (size_nil _ _).mono ?_
                  rintro e w9 ⟨rfl, rfl⟩
                  go_wp2_with fail
                  refine (text_nil _ _).mono ?_
                  rintro e w9 ⟨rfl, rfl⟩
                  go_wp2_with fail
                  refine (rowsn_nil A4 rs.length c4 rs w8 (HA4.out.below HB8.out) rfl (by omega)).mono ?_
                  rintro e w9 ⟨rfl, hb9⟩
                  have HL7 := Lib.hid (HL6.out.more (HL6.out.base hH0) hb9)
                  have HB9 := Lib.hid (HB8.out.trans (hb9.mono HB8.out.size))
                  clear hb9
                  go_wp2_with fail
                  have D1 := Lib.hid (wstring_any H H _ _ HL7.out.wr)
                  rw [str_eta] at D1
                  refine D1.out.mono ?_
                  rintro e w10 ⟨rfl, rfl⟩
                  go_wp2_with fail
                  have D2 := Lib.hid (wlen_any H H _ _ HL7.out.wr)
                  rw [show X.data.toList.length = X.size from by simp] at D2
                  refine D2.out.mono ?_
                  rintro e w10 ⟨rfl, rfl⟩
                  go_wp2_with fail
                  refine (wstring_nil _).mono ?_
                  rintro e w10 ⟨rfl, rfl⟩
                  go_wp2_with fail
                  refine (wlen_nil _).mono ?_
                  rintro e w10 ⟨rfl, rfl⟩
                  go_wp2_with fail
                  refine (bstring_nil _).mono ?_
                  rintro e w10 ⟨rfl, rfl⟩
                  go_wp2_with fail
                  refine (blen_nil _).mono ?_
                  rintro e w10 ⟨rfl, rfl⟩
                  go_wp2_with fail
                  refine (awake_any _).mono ?_
                  rintro e w10 ⟨rfl, hb10⟩
                  go_wp2
                  go_ret
                  exact ⟨rfl, HB9.out.trans (hb10.mono HB9.out.size)⟩
theorem own : ownKnob Try.prog.godebug = none := by kernel_rfl
theorem laidOut : laidOutB Try.prog = true := by kernel_rfl
set_option maxRecDepth 100000 in
theorem lifted (os : Os) (started : os.Started) (H : Type) (enc : TypeId × Value → H) :
    ReturnsInHanded {} Try.checked os 3 .any (Rows.codecLaysSpec.pre6 enc Try.prog Try.f3 Rows.codecLaysRow.domain false) (Rows.codecLaysSpec.post enc Try.prog Try.f3 false true false false) := by
  refine returnsInHanded_of_change (C := Try.checked) own started (by kernel_rfl) Try.func3
    (ChangeSpec.witness6 (enc := enc) (C := Try.checked) false ⟨#[], #[.slice none 0 0, .slice none 0 0, .slice none 0 0, .slice none 0 0, .slice none 0 0], []⟩ 8 (by kernel_rfl) (by kernel_rfl) (by kernel_rfl) (by kernel_rfl)) ?_
  intro W base args ds gs before hval0 hW hcnd _
  have hval : ∀ (j : Nat) t v, Try.f3.params[j]? = some t → args[j]? = some v → Value.okWide Try.prog W .any base t v := hval0
  have hW' := hW
  obtain ⟨p, q, hA0, hV, rfl, hfz, hnd⟩ := hW
  have hA : DataW.TrodAll enc Try.prog W 0 (fun _ => true) true Try.f3.params.toList args.toList ds p := hA0
  rw [Try.params3] at hA hval
  obtain ⟨v0, vs0, d0, ds0, p0, q0, hargs, rfl, rfl, h0, r0⟩ := trodAll_cons hA
  obtain ⟨v1, vs1, d1, ds1, p1, q1, rfl, rfl, rfl, h1, r1⟩ := trodAll_cons r0
  obtain ⟨v2, vs2, d2, ds2, p2, q2, rfl, rfl, rfl, h2, r2⟩ := trodAll_cons r1
  obtain ⟨v3, vs3, d3, ds3, p3, q3, rfl, rfl, rfl, h3, r3⟩ := trodAll_cons r2
  obtain ⟨v4, vs4, d4, ds4, p4, q4, rfl, rfl, rfl, h4, r4⟩ := trodAll_cons r3
  obtain ⟨rfl, rfl, rfl⟩ := trodAll_nil r4
  obtain rfl : args = #[v0, v1, v2, v3, v4] := by cases args; simp_all
  obtain ⟨rfl, rfl⟩ := trodVars_none hV
  obtain ⟨a0, len0, cap0, rfl⟩ := okWide_slice Try.underlying22 (hval 0 22 v0 rfl rfl)
  have k0 := h0
  have lt0 : ∀ x ∈ p0, x.block < W.heap.size := by obtain ⟨m, hm⟩ := k0; exact DataW.trod_lt m _ _ _ hm
  obtain ⟨fuel0, hf0⟩ := h0
  have hg0 : DataW.trod enc Try.prog W 0 (fun _ => true) true fuel0 22 [.slice a0 len0 cap0] = some (d0, p0) := by simpa [Value.cells] using hf0
  have o0 := ints_open Try.underlying22 Try.underlying3 (by kernel_rfl) hg0
  obtain ⟨le0, xs0, ln0, I0, wf0⟩ := o0
  obtain ⟨a1, len1, cap1, rfl⟩ := okWide_slice Try.underlying23 (hval 1 23 v1 rfl rfl)
  have k1 := h1
  have lt1 : ∀ x ∈ p1, x.block < W.heap.size := by obtain ⟨m, hm⟩ := k1; exact DataW.trod_lt m _ _ _ hm
  obtain ⟨fuel1, hf1⟩ := h1
  have hg1 : DataW.trod enc Try.prog W 0 (fun _ => true) true fuel1 23 [.slice a1 len1 cap1] = some (d1, p1) := by simpa [Value.cells] using hf1
  have o1 := ints_open Try.underlying23 Try.underlying2 (by kernel_rfl) hg1
  obtain ⟨le1, xs1, ln1, I1, wf1⟩ := o1
  obtain ⟨a2, len2, cap2, rfl⟩ := okWide_slice Try.underlying24 (hval 2 24 v2 rfl rfl)
  have k2 := h2
  have lt2 : ∀ x ∈ p2, x.block < W.heap.size := by obtain ⟨m, hm⟩ := k2; exact DataW.trod_lt m _ _ _ hm
  obtain ⟨fuel2, hf2⟩ := h2
  have hg2 : DataW.trod enc Try.prog W 0 (fun _ => true) true fuel2 24 [.slice a2 len2 cap2] = some (d2, p2) := by simpa [Value.cells] using hf2
  have o2 := texts_open hg2
  obtain ⟨lc2, cm2, ss2, ln2, S2, zz2⟩ := o2
  obtain ⟨a3, len3, cap3, rfl⟩ := okWide_slice Try.underlying25 (hval 3 25 v3 rfl rfl)
  have k3 := h3
  have lt3 : ∀ x ∈ p3, x.block < W.heap.size := by obtain ⟨m, hm⟩ := k3; exact DataW.trod_lt m _ _ _ hm
  obtain ⟨fuel3, hf3⟩ := h3
  have hg3 : DataW.trod enc Try.prog W 0 (fun _ => true) true fuel3 25 [.slice a3 len3 cap3] = some (d3, p3) := by simpa [Value.cells] using hf3
  have o3 := open_vals hg3
  obtain ⟨le3, lc3, vs3, ln3, V3, ff3⟩ := o3
  obtain ⟨a4, len4, cap4, rfl⟩ := okWide_slice Try.underlying26 (hval 4 26 v4 rfl rfl)
  have k4 := h4
  have lt4 : ∀ x ∈ p4, x.block < W.heap.size := by obtain ⟨m, hm⟩ := k4; exact DataW.trod_lt m _ _ _ hm
  obtain ⟨fuel4, hf4⟩ := h4
  have hg4 : DataW.trod enc Try.prog W 0 (fun _ => true) true fuel4 26 [.slice a4 len4 cap4] = some (d4, p4) := by simpa [Value.cells] using hf4
  have o4 := rows_open hg4
  obtain ⟨le4, rs4, ln4, zz4, ff4⟩ := o4
  clear hA0 hval0
  refine (walk a0 a1 a2 a3 a4 len0 len1 len2 len3 len4 cap0 cap1 cap2 cap3 cap4 xs0 xs1 ss2 vs3 rs4 W I0 I1 S2 V3 zz4 ln0 ln1 ln2 ln3 ln4 (fun n hn => bounds_i64 (wf0 n hn)) (fun n hn => bounds_i64 (wf1 n hn)) zz2 ff3 ff4 le0 le1 (Nat.le_trans lc2 cm2) le3 le4).mono fun e W' ⟨he, bel⟩ => ?_
  subst he
  exact ⟨_, rfl, _, _, _, [], _, [], hW', trodAll_mk1 (shut_bool Try.underlying4 _), (trodAll_cons_mk (Below.trod laidOut (by kernel_rfl) (of_decide_eq_true (by kernel_rfl)) k0 bel lt0) (trodAll_cons_mk (Below.trod laidOut (by kernel_rfl) (of_decide_eq_true (by kernel_rfl)) k1 bel lt1) (trodAll_cons_mk (Below.trod laidOut (by kernel_rfl) (of_decide_eq_true (by kernel_rfl)) k2 bel lt2) (trodAll_cons_mk (Below.trod laidOut (by kernel_rfl) (of_decide_eq_true (by kernel_rfl)) k3 bel lt3) (trodAll_cons_mk (Below.trod laidOut (by kernel_rfl) (of_decide_eq_true (by kernel_rfl)) k4 bel lt4) trodAll_mk0))))), rfl, bel.frame _, fun h => by cases h⟩

theorem over : Rows.codecLaysRow.holds Try.pinned (OpenSpec.ofChange Rows.codecLaysSpec) :=
  OpenClaim.holds_of_wide 3 Try.f3 rfl rfl rfl rfl rfl rfl rfl ⟨rfl, rfl, rfl, rfl, rfl⟩ rfl rfl rfl rfl rfl (by kernel_rfl) Try.func3 (by kernel_rfl)
    (of_decide_eq_true (by kernel_rfl)) (by unfold Func.isWrapper; first | (rw [if_pos (by decide +kernel)]; kernel_rfl) | (rw [if_neg (by decide +kernel)]; exact ⟨rfl, rfl⟩))
    (fun os started H enc _ => lifted os started H enc)

theorem proved : Rows.CodecLaysSaid := over

end Go.Proofs.Ytelfppjgdhelbaa.CodecLays
