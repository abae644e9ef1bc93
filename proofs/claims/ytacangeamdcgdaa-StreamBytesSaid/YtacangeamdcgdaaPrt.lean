/- Contracts of the document's reader: so many bytes, a number. -/
import Derived.Test.YtacangeamdcgdaaCrv
namespace Go.Proofs.Ytacangeamdcgdaa
open Go.ChangeShapes Go.WideShapes Go.ChangeAt Go.RowKit
/-- The document's reader at block g: what is to come; none: it is bad. -/
def Pt (w : World) (g : Nat) (st : Option (List UInt8)) : Prop := ∃ s : ByteArray, Blk w g 60 #[.string s, .bool st.isNone] ∧ s.size ≤ 100000000 ∧ ∀ l, st = some l → s = ⟨l.toArray⟩
theorem Pt.lt {w : World} {g : Nat} {st : Option (List UInt8)} (h : Pt w g st) : g < w.heap.size := by
  obtain ⟨s, hB, _⟩ := h; exact hB.lt
theorem Pt.isbad {w : World} {g : Nat} (h : Pt w g none) : w.cell? ⟨g, 1, none⟩ = some (.bool true) ∧ w.frozen? ⟨g, 1, none⟩ = false ∧ g < w.heap.size := by
  obtain ⟨s, hB, _⟩ := h; exact ⟨hB.cell 1, hB.frozen 1, hB.lt⟩
theorem Pt.isgood {w : World} {g : Nat} {l : List UInt8} (h : Pt w g (some l)) : w.cell? ⟨g, 1, none⟩ = some (.bool false) ∧ w.frozen? ⟨g, 1, none⟩ = false ∧ g < w.heap.size := by
  obtain ⟨s, hB, _⟩ := h; exact ⟨hB.cell 1, hB.frozen 1, hB.lt⟩
/-- What is known of a block of three cells. -/
theorem blk3p {w : World} {g t : Nat} {a b c : Value} (h : Blk w g t #[a, b, c]) : w.cell? ⟨g, 0, none⟩ = some a ∧ w.cell? ⟨g, 1, none⟩ = some b ∧ w.cell? ⟨g, 2, none⟩ = some c ∧ w.frozen? ⟨g, 0, none⟩ = false ∧ w.frozen? ⟨g, 1, none⟩ = false ∧ w.frozen? ⟨g, 2, none⟩ = false ∧ g < w.heap.size :=
  ⟨h.cell 0, h.cell 1, h.cell 2, h.frozen 0, h.frozen 1, h.frozen 2, h.lt⟩
theorem Pt.more {w w' : World} {g : Nat} {st : Option (List UInt8)} (h : Pt w g st) (hb : Below w.heap.size w w') : Pt w' g st := by
  obtain ⟨s, hB, h1, h2⟩ := h
  exact ⟨s, hB.below hb hB.lt, h1, h2⟩
theorem Pt.off {w w' : World} {g k : Nat} {st : Option (List UInt8)} (h : Pt w g st) (hb : Off (· = k) w w') (hn : g ≠ k) : Pt w' g st := by
  obtain ⟨s, hB, h1, h2⟩ := h
  exact ⟨s, hb.blk hB hn, h1, h2⟩
theorem Pt.bad {w : World} {g : Nat} {st : Option (List UInt8)} (h : Pt w g st) : Pt (w.setCell ⟨g, 1, none⟩ (.bool true)) g none ∧ Off (· = g) w (w.setCell ⟨g, 1, none⟩ (.bool true)) := by
  obtain ⟨s, hB, h1, h2⟩ := h
  exact ⟨⟨s, by simpa using hB.put 1 (.bool true), h1, fun l h => by cases h⟩, (Off.refl (fun x => x = g) w).put (p := ⟨g, 1, none⟩) (fun _ => rfl) _⟩
theorem off_t {g : Nat} {a b c : World} (h : Off (· = g) a b) (k : Off (· = g) b c) : Off (· = g) a c := h.trans k (fun _ _ h => h)
theorem ext_drop (S : ByteArray) (n : Nat) : S.extract n S.size = ⟨(S.data.toList.drop n).toArray⟩ := by
  apply ByteArray.ext; apply Array.toList_inj.1
  have : List.take (S.size - n) (List.drop n S.data.toList) = List.drop n S.data.toList := List.take_of_length_le (by simp)
  simpa using this
theorem ext_take (S : ByteArray) (n : Nat) : S.extract 0 n = ⟨(S.data.toList.take n).toArray⟩ := by
  apply ByteArray.ext; apply Array.toList_inj.1; simp
set_option maxRecDepth 100000 in
set_option maxHeartbeats 2000000 in
theorem pcut_any (g n : Nat) (st : Option (List UInt8)) (w : World) (h : Pt w g st) (hn : n ≤ 9223372036854775807) :
    Calls Try.prog 73/-f-/ #[.pointer (some ⟨g, 0, none⟩), .int .i64 n] w fun e w' => e = .returned (.string ⟨(stepR [] (cutR n) st).1.toArray⟩) ∧ Pt w' g (stepR [] (cutR n) st).2 ∧ Off (· = g) w w' := by
  have HP := Lib.hid h
  obtain ⟨S, hB, hS, hl⟩ := h
  have c0 := hB.cell 0
  have c1 := hB.cell 1
  have f0 := hB.frozen 0
  have f1 := hB.frozen 1
  have hlt := hB.lt
  simp only [List.getElem?_toArray, List.getElem?_cons_zero, List.getElem?_cons_succ] at c0 c1
  have HB := Lib.hid hB
  have HL := Lib.hid hl
  clear hB hl
  cases st with
  | none =>
    simp only [Option.isNone_none] at c1 HB
    go_enter Try.func73, Try.ntmps73
    go_wp2
    go_ret
    exact ⟨rfl, HP.out.bad⟩
  | some l =>
    have HS := Lib.hid (HL.out l rfl)
    have hsl : S.size = l.length := by rw [HS.out]; simp [ByteArray.size]
    simp only [Option.isNone_some] at c1 HB
    by_cases hlt : l.length < n
    · have HR := Lib.hid (show stepR [] (cutR n) (some l) = ([], none) from by unfold stepR cutR; simp only [if_pos hlt])
      have h1 : S.size < n := by omega
      rw [HR.out]
      clear hsl
      go_enter Try.func73, Try.ntmps73
      go_wp2
      go_ret
      exact ⟨rfl, HP.out.bad⟩
    · have HR := Lib.hid (show stepR [] (cutR n) (some l) = (l.take n, some (l.drop n)) from by unfold stepR cutR; simp only [if_neg hlt])
      have h1 : n ≤ S.size := by omega
      rw [HR.out]
      clear hsl
      go_enter Try.func73, Try.ntmps73
      go_wp2
      go_ret
      have hd : S.data.toList = l := by rw [HS.out]
      refine ⟨by rw [ext_take, hd]; rfl, ⟨⟨(l.drop n).toArray⟩, ?_, ?_, fun m hm => by cases hm; rfl⟩, (Off.refl (fun x => x = g) w).put (p := ⟨g, 0, none⟩) (fun _ => rfl) _⟩
      · rw [ext_drop, hd]; simpa using HB.out.put 0 (.string ⟨(l.drop n).toArray⟩)
      · have : (⟨(l.drop n).toArray⟩ : ByteArray).size = l.length - n := by simp [ByteArray.size]
        have h2 : S.size = l.length := by rw [HS.out]; simp [ByteArray.size]
        omega
/-- The one way in which a number is laid. -/
theorem num_way (c : UInt8) (s : List UInt8) (h : s.length = c.toNat) : num (de s) = c :: s ↔ ¬ s.head? = some 0 := by
  constructor
  · intro e h0
    have h2 : nb (de s) = s := by unfold num at e; exact (List.cons.inj e).2
    exact nb_head (de s) 0 (by rw [h2]; exact h0) rfl
  · intro h0
    have h2 : nb (de s) = s := nb_de s (fun c hc => by rintro rfl; exact h0 hc)
    unfold num
    rw [h2, h]
    simp
theorem de_succ (S : ByteArray) (k : Nat) (h : k < S.size) : de (S.data.toList.take (k + 1)) = de (S.data.toList.take k) * 256 + S[k].toNat := by
  rw [List.take_succ_eq_append_getElem (by simpa using h), de_snoc]; rfl
theorem str_bne (a b : ByteArray) : (a.toList == b.toList) = decide (a = b) := by
  by_cases h : a = b
  · subst h; simp
  · have h4 : ¬ a.toList = b.toList := by
      rw [ByteArray.toList_eq, ByteArray.toList_eq]; intro h2; exact h (ByteArray.ext (Array.toList_inj.1 h2))
    rw [decide_eq_false h]; exact beq_eq_false_iff_ne.2 h4
set_option maxRecDepth 100000 in
set_option maxHeartbeats 8000000 in
theorem pnumber_any (g : Nat) (st : Option (List UInt8)) (w : World) (h : Pt w g st) :
    Calls Try.prog 52/-f-/ #[.pointer (some ⟨g, 0, none⟩)] w fun e w' => e = .returned (.int .u64 (stepR 0 natR st).1) ∧ Pt w' g (stepR 0 natR st).2 ∧ Off (· = g) w w' := by
  have C1 := pcut_any g 1 st w h (by omega)
  have NO : ∀ (st : Option (List UInt8)), stepR [] (cutR 1) st = ([], none) → stepR 0 natR st = (0, none) →
      Calls Try.prog 73/-f-/ #[.pointer (some ⟨g, 0, none⟩), .int .i64 1] w (fun e w' => e = .returned (.string ⟨(stepR [] (cutR 1) st).1.toArray⟩) ∧ Pt w' g (stepR [] (cutR 1) st).2 ∧ Off (· = g) w w') →
      Calls Try.prog 52/-f-/ #[.pointer (some ⟨g, 0, none⟩)] w fun e w' => e = .returned (.int .u64 (stepR 0 natR st).1) ∧ Pt w' g (stepR 0 natR st).2 ∧ Off (· = g) w w' := by
    intro st e1 e2 C
    rw [e1] at C
    rw [e2]
    have C := Lib.hid C
    clear e1 e2 C1
    go_enter Try.func52, Try.ntmps52
    go_wp2_with (go_at_call 73/-f-/; (with_reducible refine C.out.mono ?_); rintro e w1 ⟨rfl, hp, ho⟩; have HP := Lib.hid hp; have HO := Lib.hid ho; obtain ⟨S1, hB, _, _⟩ := hp; have c1 := hB.cell 1; have f1 := hB.frozen 1; have hlt := hB.lt; simp only [List.getElem?_toArray, List.getElem?_cons_zero, List.getElem?_cons_succ, Option.isNone_none] at c1; clear hB ho)
    go_ret
    exact ⟨rfl, HP.out.bad.1, HO.out.trans HP.out.bad.2 (fun _ _ h => h)⟩
  cases st with
  | none => exact NO none rfl rfl C1
  | some l => cases l with
    | nil => exact NO (some []) rfl rfl C1
    | cons x r =>
      clear NO
      have e1 : stepR [] (cutR 1) (some (x :: r)) = ([x], some r) := by unfold stepR cutR; simp
      rw [e1] at C1
      rw [show ((1 : Nat) : Int) = 1 from rfl] at C1
      replace C1 := Lib.hid C1
      have HN := Lib.hid (natR_cons x r)
      have hx := x.toNat_lt
      have CC' := fun W hW => pcut_any g x.toNat (some r) W hW (by omega)
      have hxi : (x.toNat : Int) < 256 := by omega
      obtain ⟨X, hX⟩ : ∃ X : ByteArray, X = ⟨[x].toArray⟩ := ⟨_, rfl⟩
      have hXs : X.size = 1 := by rw [hX]; rfl
      have hX0 : X[0] = x := by subst hX; rfl
      simp only [← hX] at C1
      have HX := Lib.hid hX
      clear hX e1 h
      by_cases h8 : 8 < x.toNat
      · have HR := Lib.hid (show stepR 0 natR (some (x :: r)) = (0, none) from stepR_bad _ _ _ (by rw [HN.out, if_pos h8]))
        rw [HR.out]
        clear CC'
        go_enter Try.func52, Try.ntmps52
        go_wp2_with (go_at_call 73/-f-/; (with_reducible refine C1.out.mono ?_); rintro e w1 ⟨rfl, hp, ho⟩; have HP1 := Lib.hid hp; have HO1 := Lib.hid ho; have tok := Lib.hid trivial; obtain ⟨pS, pB, _, _⟩ := HP1.out; have pc := pB.cell 1; have pf := pB.frozen 1; have pl := pB.lt; simp only [List.getElem?_toArray, List.getElem?_cons_zero, List.getElem?_cons_succ, Option.isNone_none, Option.isNone_some] at pc; clear pB; clear hp ho)
        go_ret
        exact ⟨rfl, HP1.out.bad.1, HO1.out.trans HP1.out.bad.2 (fun _ _ h => h)⟩
      by_cases hr : r.length < x.toNat
      · have HR := Lib.hid (show stepR 0 natR (some (x :: r)) = (0, none) from stepR_bad _ _ _ (by rw [HN.out, if_neg h8, if_pos hr]))
        rw [HR.out]
        rw [show stepR [] (cutR x.toNat) (some r) = ([], none) from stepR_bad _ _ _ (by unfold cutR; rw [if_pos hr])] at CC'
        have CC := Lib.hid CC'
        clear CC' hr
        go_enter Try.func52, Try.ntmps52
        go_wp2_with (first
          | (go_at_call 73/-f-/; (with_reducible refine C1.out.mono ?_); rintro e w1 ⟨rfl, hp, ho⟩; have HP1 := Lib.hid hp; have HO1 := Lib.hid ho; have tok := Lib.hid trivial; obtain ⟨pS, pB, _, _⟩ := HP1.out; have pc := pB.cell 1; have pf := pB.frozen 1; have pl := pB.lt; simp only [List.getElem?_toArray, List.getElem?_cons_zero, List.getElem?_cons_succ, Option.isNone_none, Option.isNone_some] at pc; clear pB; clear hp ho)
          | (go_at_call 73/-f-/; (with_reducible refine (CC.out _ HP1.out).mono ?_); rintro e w2 ⟨rfl, hp, ho⟩; have HP2 := Lib.hid hp; have HO2 := Lib.hid (off_t HO1.out ho); obtain ⟨qS, qB, _, _⟩ := HP2.out; have qc := qB.cell 1; have qf := qB.frozen 1; have ql := qB.lt; simp only [List.getElem?_toArray, List.getElem?_cons_zero, List.getElem?_cons_succ, Option.isNone_none, Option.isNone_some] at qc; clear qB; clear hp ho))
        go_loop [5, 6] (fun d i => i = .int .i64 0 ∧ d = .int .u64 0) (fun _ _ => 0)
        case atStart => exact ⟨rfl, rfl⟩
        case round =>
          obtain ⟨rfl, rfl⟩ := hrel
          go_wp2
          go_ret
          exact ⟨rfl, HP2.out, HO2.out⟩
      · obtain ⟨M, hM⟩ : ∃ M : ByteArray, M = ⟨(r.take x.toNat).toArray⟩ := ⟨_, rfl⟩
        have hMl : M.data.toList = r.take x.toNat := by rw [hM]
        have hMs : M.size = x.toNat := by rw [hM]; simp [ByteArray.size]; omega
        rw [show stepR [] (cutR x.toNat) (some r) = (r.take x.toNat, some (r.drop x.toNat)) from stepR_ok _ _ _ _ _ (by unfold cutR; rw [if_neg hr])] at CC'
        simp only [← hM] at CC'
        have CC := Lib.hid CC'
        have HW := Lib.hid (num_way x M.data.toList (by simpa using hMs))
        have HN2 := Lib.hid (show natR (x :: r) = if M.data.toList.head? = some 0 then none else some (de M.data.toList, r.drop x.toNat) from by rw [HN.out, if_neg h8, if_neg hr, hMl])
        have hm8 : M.size ≤ 8 := by omega
        have HD8 := de_lt M.data.toList
        have hML : M.data.toList.length = M.size := by simp
        have HP8 : 256 ^ M.data.toList.length ≤ 256 ^ 8 := Nat.pow_le_pow_right (by decide) (by omega)
        have HDL : de M.data.toList < 18446744073709551616 := Nat.lt_of_lt_of_le HD8 HP8
        have NB := Lib.hid (fun W => number_any (de M.data.toList) W HDL)
        have hcc : ¬ (9223372036854775807 < X.size + M.size) := by omega
        obtain ⟨Q, hQ⟩ : ∃ Q : ByteArray, Q = ⟨(num (de M.data.toList)).toArray⟩ := ⟨_, rfl⟩
        have HQ := Lib.hid (show (Q = X ++ M) ↔ ¬ M.data.toList.head? = some 0 from by
          rw [← HW.out, hQ, HX.out]
          constructor
          · intro h
            have := congrArg (fun b : ByteArray => b.data.toList) h
            simpa [ByteArray.data_append] using this
          · intro h
            apply ByteArray.ext; apply Array.toList_inj.1
            rw [h]; simp [ByteArray.data_append])
        simp only [← hQ] at NB
        clear hM hMl CC' HD8 HP8 HW HN hQ hr hML
        obtain ⟨q, hq⟩ : ∃ q, q = decide (Q = X ++ M) := ⟨_, rfl⟩
        have e1 : (Q.toList == (X ++ M).toList) = q := by rw [hq]; exact str_bne _ _
        have e2 : (Q.toList != (X ++ M).toList) = !q := by rw [bne, e1]
        have HQ2 := Lib.hid hq
        clear hq
        cases q with
        | false =>
          have HR := Lib.hid (show stepR 0 natR (some (x :: r)) = (0, none) from stepR_bad _ _ _ (by
            rw [HN2.out, if_pos]
            have h1 : ¬ Q = X ++ M := of_decide_eq_false HQ2.out.symm
            rw [HQ.out] at h1
            exact Decidable.not_not.1 h1))
          rw [HR.out]
          go_enter Try.func52, Try.ntmps52
          go_wp2_with (first
            | (go_at_call 73/-f-/; (with_reducible refine C1.out.mono ?_); rintro e w1 ⟨rfl, hp, ho⟩; have HP1 := Lib.hid hp; have HO1 := Lib.hid ho; have tok := Lib.hid trivial; obtain ⟨pS, pB, _, _⟩ := HP1.out; have pc := pB.cell 1; have pf := pB.frozen 1; have pl := pB.lt; simp only [List.getElem?_toArray, List.getElem?_cons_zero, List.getElem?_cons_succ, Option.isNone_none, Option.isNone_some] at pc; clear pB; clear hp ho)
            | (go_at_call 73/-f-/; (with_reducible refine (CC.out _ HP1.out).mono ?_); rintro e w2 ⟨rfl, hp, ho⟩; have HP2 := Lib.hid hp; have HO2 := Lib.hid (off_t HO1.out ho); obtain ⟨qS, qB, _, _⟩ := HP2.out; have qc := qB.cell 1; have qf := qB.frozen 1; have ql := qB.lt; simp only [List.getElem?_toArray, List.getElem?_cons_zero, List.getElem?_cons_succ, Option.isNone_none, Option.isNone_some] at qc; clear qB; clear hp ho))
          go_loop [5, 6] (fun d i => ∃ k : Nat, k ≤ M.size ∧ i = .int .i64 k ∧ d = .int .u64 (de (M.data.toList.take k))) (fun _ i => M.size - (intOf i).toNat)
          case atStart => exact ⟨0, Nat.zero_le _, rfl, rfl⟩
          case round =>
            obtain ⟨k, hk, rfl, rfl⟩ := hrel
            by_cases hlt : k < M.size
            · have hd1 := de_lt (M.data.toList.take k)
              have hd2 : 256 ^ (M.data.toList.take k).length ≤ 256 ^ 7 := Nat.pow_le_pow_right (by decide) (by rw [List.length_take]; omega)
              have hd3 : de (M.data.toList.take k) < 72057594037927936 := Nat.lt_of_lt_of_le hd1 hd2
              have HT := Lib.hid (de_succ M k hlt)
              have hy := M[k].toNat_lt
              clear hd1 hd2
              generalize de (M.data.toList.take k) = D at *
              go_wp2
              go_round
              case rel => exact ⟨k + 1, by omega, by go_num, by rw [HT.out]; go_num⟩
              case measure => simp [intOf]; omega
            · have hkl : k = M.size := by omega
              subst hkl
              have HTA := Lib.hid (show M.data.toList.take M.size = M.data.toList from List.take_of_length_le (by simp))
              rw [HTA.out]
              go_wp2_with (go_at_call 50/-f-/; (with_reducible refine (NB.out _).mono ?_); rintro e w3 ⟨rfl, hb⟩; have HP3 := Lib.hid (HP2.out.more hb); have HO3 := Lib.hid (off_t HO2.out (Off.of hb)); obtain ⟨oS, oB, _, _⟩ := HP3.out; have oc := oB.cell 1; have of_ := oB.frozen 1; have ol := oB.lt; simp only [List.getElem?_toArray, List.getElem?_cons_zero, List.getElem?_cons_succ, Option.isNone_none, Option.isNone_some] at oc; clear oB; clear hb)
              go_ret
              exact ⟨rfl, HP3.out.bad.1, HO3.out.trans HP3.out.bad.2 (fun _ _ h => h)⟩
        | true =>
          have HR := Lib.hid (show stepR 0 natR (some (x :: r)) = (de M.data.toList, some (r.drop x.toNat)) from stepR_ok _ _ _ _ _ (by
            rw [HN2.out, if_neg]
            have h1 : Q = X ++ M := of_decide_eq_true HQ2.out.symm
            rw [HQ.out] at h1
            exact h1))
          rw [HR.out]
          go_enter Try.func52, Try.ntmps52
          go_wp2_with (first
            | (go_at_call 73/-f-/; (with_reducible refine C1.out.mono ?_); rintro e w1 ⟨rfl, hp, ho⟩; have HP1 := Lib.hid hp; have HO1 := Lib.hid ho; have tok := Lib.hid trivial; obtain ⟨pS, pB, _, _⟩ := HP1.out; have pc := pB.cell 1; have pf := pB.frozen 1; have pl := pB.lt; simp only [List.getElem?_toArray, List.getElem?_cons_zero, List.getElem?_cons_succ, Option.isNone_none, Option.isNone_some] at pc; clear pB; clear hp ho)
            | (go_at_call 73/-f-/; (with_reducible refine (CC.out _ HP1.out).mono ?_); rintro e w2 ⟨rfl, hp, ho⟩; have HP2 := Lib.hid hp; have HO2 := Lib.hid (off_t HO1.out ho); obtain ⟨qS, qB, _, _⟩ := HP2.out; have qc := qB.cell 1; have qf := qB.frozen 1; have ql := qB.lt; simp only [List.getElem?_toArray, List.getElem?_cons_zero, List.getElem?_cons_succ, Option.isNone_none, Option.isNone_some] at qc; clear qB; clear hp ho))
          go_loop [5, 6] (fun d i => ∃ k : Nat, k ≤ M.size ∧ i = .int .i64 k ∧ d = .int .u64 (de (M.data.toList.take k))) (fun _ i => M.size - (intOf i).toNat)
          case atStart => exact ⟨0, Nat.zero_le _, rfl, rfl⟩
          case round =>
            obtain ⟨k, hk, rfl, rfl⟩ := hrel
            by_cases hlt : k < M.size
            · have hd1 := de_lt (M.data.toList.take k)
              have hd2 : 256 ^ (M.data.toList.take k).length ≤ 256 ^ 7 := Nat.pow_le_pow_right (by decide) (by rw [List.length_take]; omega)
              have hd3 : de (M.data.toList.take k) < 72057594037927936 := Nat.lt_of_lt_of_le hd1 hd2
              have HT := Lib.hid (de_succ M k hlt)
              have hy := M[k].toNat_lt
              clear hd1 hd2
              generalize de (M.data.toList.take k) = D at *
              go_wp2
              go_round
              case rel => exact ⟨k + 1, by omega, by go_num, by rw [HT.out]; go_num⟩
              case measure => simp [intOf]; omega
            · have hkl : k = M.size := by omega
              subst hkl
              have HTA := Lib.hid (show M.data.toList.take M.size = M.data.toList from List.take_of_length_le (by simp))
              rw [HTA.out]
              go_wp2_with (go_at_call 50/-f-/; (with_reducible refine (NB.out _).mono ?_); rintro e w3 ⟨rfl, hb⟩; have HP3 := Lib.hid (HP2.out.more hb); have HO3 := Lib.hid (off_t HO2.out (Off.of hb)); obtain ⟨oS, oB, _, _⟩ := HP3.out; have oc := oB.cell 1; have of_ := oB.frozen 1; have ol := oB.lt; simp only [List.getElem?_toArray, List.getElem?_cons_zero, List.getElem?_cons_succ, Option.isNone_none, Option.isNone_some] at oc; clear oB; clear hb)
              go_ret
              exact ⟨rfl, HP3.out, HO3.out⟩
end Go.Proofs.Ytacangeamdcgdaa
