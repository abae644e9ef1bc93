/- Contracts of package value: the row of a key; the document's Same. -/
import Derived.Test.YtabdmhlnaahdlaaDoorFok
import Derived.Test.YtabdmhlnaahdlaaDoorRow
import Derived.Laws.DeepStrings4
namespace Go.Proofs.YtabdmhlnaahdlaaDoor
open Go.ChangeShapes Go.WideShapes Go.ChangeAt Go.RowKit
def vcells (vs : List Val) : List Value := vs.flatMap fun x => [Value.int .i64 x.k, Value.int .i64 x.n, Value.string x.s]
theorem vcells_append (a b : List Val) : vcells (a ++ b) = vcells a ++ vcells b := by simp [vcells]
theorem vcells_len (a : List Val) : (vcells a).length = a.length * 3 := by
  induction a with
  | nil => rfl
  | cons x r ih =>
    have : vcells (x :: r) = [Value.int .i64 x.k, Value.int .i64 x.n, Value.string x.s] ++ vcells r := rfl
    rw [this, List.length_append, ih, List.length_cons]; simp; omega
theorem vcells_at : ∀ (a : List Val) (i : Nat), i < a.length → (vcells a)[i * 3]? = some (.int .i64 (a.getD i default).k) ∧ (vcells a)[i * 3 + 1]? = some (.int .i64 (a.getD i default).n) ∧ (vcells a)[i * 3 + 2]? = some (.string (a.getD i default).s)
  | [], i, h => by simp at h
  | x :: r, 0, _ => ⟨rfl, rfl, rfl⟩
  | x :: r, i + 1, h => by
    have e : vcells (x :: r) = Value.int .i64 x.k :: Value.int .i64 x.n :: Value.string x.s :: vcells r := rfl
    obtain ⟨h1, h2, h3⟩ := vcells_at r i (by simpa using h)
    rw [e]
    refine ⟨?_, ?_, ?_⟩
    · rw [show (i + 1) * 3 = i * 3 + 1 + 1 + 1 from by omega]; simpa using h1
    · rw [show (i + 1) * 3 + 1 = (i * 3 + 1) + 1 + 1 + 1 from by omega]; simpa using h2
    · rw [show (i + 1) * 3 + 2 = (i * 3 + 2) + 1 + 1 + 1 from by omega]; simpa using h3
/-- A slice of the call's own that holds just these values. -/
def RowV (w : World) (base : Nat) (v : Value) (vs : List Val) : Prop := w.ownsRow base 35/-t-/ 3 v vs.length (vcells vs)
theorem RowV.vals {w : World} {base : Nat} {v : Value} {vs : List Val} (h : RowV w base v vs) : ∃ A c, v = .slice A vs.length c ∧ Vals w A vs ∧ vs.length ≤ c := by
  obtain ⟨h0, h⟩ := h
  rcases h with ⟨rfl, h1⟩ | ⟨g, cap, cur, rfl, hb, hh, hn, hc, hs, ht⟩
  · have : vs = [] := List.eq_nil_of_length_eq_zero h1
    subst this
    exact ⟨none, 0, rfl, .inl rfl, Nat.le_refl _⟩
  · refine ⟨some ⟨g, 0, none⟩, cap, rfl, .inr ⟨g, 0, rfl, Blk.lt hh, fun i hi => ?_⟩, hn⟩
    have key : ∀ j u, j < vs.length * 3 → (vcells vs)[j]? = some u → w.cell? ⟨g, j, none⟩ = some u := by
      intro j u hj hu
      rw [Blk.cell hh j, ← Array.getElem?_toList, ← hu, ← ht, List.getElem?_take, if_pos (by omega)]
    obtain ⟨h1, h2, h3⟩ := vcells_at vs i hi
    rw [Nat.zero_add]
    exact ⟨key _ _ (by omega) h1, key _ _ (by omega) h2, key _ _ (by omega) h3⟩
theorem info35 : (Tryd.prog.info? 35/-t-/).map (fun i => (i.zero, i.size, i.bytes)) = some (some (.agg #[.int .i64 0, .int .i64 0, .string ⟨#[]⟩]), 3, 32) := by kernel_rfl
theorem Src.val (w : World) (x : Val) : Src (w.alloc (.cells #[.int .i64 x.k, .int .i64 x.n, .string x.s] 35/-t-/)) (some ⟨w.heap.size, 0, none⟩) 1 3 [.int .i64 x.k, .int .i64 x.n, .string x.s] := by
  refine ⟨rfl, ?_, ?_, ?_⟩
  · intro h; simp at h
  · intro ad hA j u hu
    obtain rfl := Option.some.inj hA
    rw [addr_add, Nat.zero_add, (Blk.new w 35/-t-/ #[.int .i64 x.k, .int .i64 x.n, .string x.s]).cell]
    rw [← hu]
    simp
  · intro u hu
    simp at hu
    rcases hu with rfl | rfl | rfl <;> rfl
theorem firstVal_some (x : Val) (n : Nat) : firstVal (some (x, n)) = .tuple #[.agg #[.int .i64 x.k, .int .i64 x.n, .string x.s], .int .i64 n] := rfl
theorem firstVal_none : firstVal none = .tuple #[.agg #[.int .i64 0, .int .i64 0, .string ⟨#[]⟩], .int .i64 0] := rfl
set_option maxRecDepth 100000 in
set_option maxHeartbeats 8000000 in
theorem unkey_any (s : ByteArray) (w : World) (hs : s.size ≤ 100000) :
    Calls Tryd.prog 28/-f-/ #[.string s] w fun e w' => (∃ A c, e = .returned (.tuple #[.slice A ((unkey s.data.toList).getD []).length c, .bool (unkey s.data.toList).isSome]) ∧ Vals w' A ((unkey s.data.toList).getD []) ∧ ((unkey s.data.toList).getD []).length ≤ c) ∧ Below w.heap.size w w' := by
  obtain ⟨i0, hi, hz0, hz1, hz2⟩ := info_parts info35
  obtain ⟨R, hR⟩ : ∃ R, R = unkey s.data.toList := ⟨_, rfl⟩
  rw [← hR]
  have HR := Lib.hid hR
  clear hR
  go_enter Tryd.func28/-f-/, Tryd.ntmps28/-f-/
  go_wp2
  go_loopw [0, 4] (fun u v wr => ∃ (S : ByteArray) (acc : List Val), u = .string S ∧ S.size ≤ s.size ∧ Below w.heap.size w wr ∧ RowV wr w.heap.size v acc ∧ acc.length + S.size ≤ s.size ∧ Hid (R = (unkey S.data.toList).map fun vs => acc ++ vs)) (fun u _ _ => match u with | .string S => S.size | _ => 0)
  case atStart =>
    refine ⟨s, [], rfl, Nat.le_refl _, Below.refl _ _, World.ownsRow_nil _ _ _ _, by simp, Lib.hid ?_⟩
    rw [HR.out]
    cases unkey s.data.toList <;> rfl
  case round =>
    obtain ⟨S, acc, rfl, hS, hbl, hrow, hal, heq⟩ := hrel
    have hsz := hbl.size
    have HROW := Lib.hid hrow
    clear hrow
    by_cases he : S = ⟨#[]⟩
    · subst he
      have HF := Lib.hid (show R = some acc from by
        rw [heq.out]
        show (unkey []).map _ = _
        rw [unkey_nil]; simp)
      obtain ⟨A, c, hv, hV, hc⟩ := RowV.vals HROW.out
      subst hv
      have HV := Lib.hid hV
      have HC := Lib.hid hc
      clear hV hc
      go_wp2
      go_ret2
      exact ⟨⟨A, c, by rw [HF.out]; rfl, by rw [HF.out]; exact HV.out, by rw [HF.out]; exact HC.out⟩, hbl⟩
    · have hpos : 0 < S.size := by
        rcases Nat.eq_zero_or_pos S.size with h | h
        · exact absurd (ByteArray.ext (Array.eq_empty_of_size_eq_zero h)) he
        · exact h
      have hne := str_ne [] he
      have hl : S.data.toList ≠ [] := fun h => he (ByteArray.ext (Array.toList_inj.1 h))
      have FO := Lib.hid (fun W => firstof_any S W (by omega) hpos)
      have HST := Lib.hid (unkey_step S.data.toList hl)
      have hfp := fun x n h => first_pos S.data.toList x n h
      have HFP := Lib.hid hfp
      clear he hl hfp
      cases hf : first S.data.toList with
      | none =>
        rw [hf, firstVal_none] at FO
        have HF := Lib.hid (show R = none from by rw [heq.out, HST.out, hf]; rfl)
        clear hf
        go_wp2_with (go_at_call 59/-f-/; (with_reducible refine (FO.out _).mono ?_); rintro e w2 ⟨rfl, hb2⟩)
        go_ret2
        exact ⟨⟨none, 0, by rw [HF.out]; rfl, by rw [HF.out]; exact .inl rfl, by rw [HF.out]; exact Nat.le_refl _⟩, (hbl.trans (hb2.mono hsz)).alloc (by have := hb2.size; omega) _⟩
      | some r =>
        obtain ⟨x, n⟩ := r
        have hp := HFP.out x n hf
        have hnl : n ≤ S.size := by have := hp.2; simpa using this
        have hn0 : 0 < n := hp.1
        have hnb : ((n : Int) == 0) = false := beq_eq_false_iff_ne.2 (by omega)
        rw [hf, firstVal_some] at FO
        have HEQ := Lib.hid (show R = (unkey (S.extract n S.size).data.toList).map fun vs => (acc ++ [x]) ++ vs from by
          rw [heq.out, HST.out, hf]
          have e : (S.extract n S.size).data.toList = S.data.toList.drop n := Lib.extract_to_end S n
          rw [e]
          simp only [Option.bind_some]
          cases unkey (S.data.toList.drop n) <;> simp)
        have hez : (S.extract n S.size).size = S.size - n := by rw [ByteArray.size_extract]; omega
        have k1 : (0 : Int) ≤ n := by omega
        have k2 : (n : Int) ≤ S.size := by omega
        clear hf hp
        go_wp2_with (first
          | (go_at_call 59/-f-/; (with_reducible refine (FO.out _).mono ?_); rintro e w2 ⟨rfl, hb2⟩; have HB2 := Lib.hid (hbl.trans (hb2.mono hsz)); have HR2 := Lib.hid (show RowV w2 w.heap.size u4 acc from (Off.of (S := fun _ => False) hb2).own HROW.out (fun _ _ h => h)); have hzw2 := hb2.size; clear hb2)
          | (at_builtin; refine wpList_append_src _ rfl _ _ 31/-t-/ rfl w.heap.size 35/-t-/ i0 (.agg #[.int .i64 0, .int .i64 0, .string ⟨#[]⟩]) 3 32 Tryd.underlying31/-t-/ hi hz0 hz1 hz2 rfl (by decide) u4 acc.length _ rfl (World.ownsRow.alloc (World.ownsRow.alloc HR2.out _) _) (some ⟨w2.heap.size + 1, 0, none⟩) 1 1 [.int .i64 x.k, .int .i64 x.n, .string x.s] rfl (by have := Src.val (w2.alloc (.cells #[.int .i64 x.k, .int .i64 x.n, .string x.s] 35/-t-/)) x; simpa using this) (by unfold maxLen; omega) (by omega) (by simp; omega) ?_; intro v3 w3 hown3 hgr3 hnew3; have HO3 := Lib.hid hown3; have HG3 := Lib.hid hgr3; clear hown3 hgr3 hnew3))
        go_roundw
        case rel =>
          have hbe : Below w.heap.size w w3 := ((HB2.out.alloc HB2.out.size _).alloc (by simp; omega) _).grown HG3.out (by simp; omega) (fun g h => (HR2.out.lt g h).1)
          refine ⟨S.extract n S.size, acc ++ [x], rfl, by omega, hbe, ?_, by simp; omega, HEQ⟩
          have h3 := HO3.out
          unfold RowV
          rw [vcells_append, List.length_append]
          exact h3
        case measure => simp only []; omega
def eqB (x y : Val) : Bool := x.k == y.k && x.n == y.n && decide (x.s = y.s)
theorem eqB_iff (x y : Val) : eqB x y = true ↔ x = y := by
  obtain ⟨a, b, c⟩ := x
  obtain ⟨a', b', c'⟩ := y
  simp only [eqB, Bool.and_eq_true, beq_iff_eq, decide_eq_true_eq, Val.mk.injEq]
  constructor
  · rintro ⟨⟨h1, h2⟩, h3⟩; exact ⟨h1, h2, h3⟩
  · rintro ⟨h1, h2, h3⟩; exact ⟨⟨h1, h2⟩, h3⟩
instance : DecidableEq Val := fun x y => decidable_of_iff (eqB x y = true) (eqB_iff x y)
set_option maxRecDepth 100000 in
set_option maxHeartbeats 8000000 in
theorem refsame_any (A B : Option Addr) (n c m d : Nat) (xs ys : List Val) (w : World) (hA : Vals w A xs) (hB : Vals w B ys) (hn : xs.length = n) (hm : ys.length = m) (hs : n ≤ 1000000) (hs' : m ≤ 1000000) :
    Calls Tryd.prog 31/-f-/ #[.slice A n c, .slice B m d] w fun e w' => e = .returned (.bool (decide (xs = ys))) ∧ ∃ k, w' = w.drewN k := by
  subst hn hm
  have E := fun (a b a' b' : Int) (c c' : ByteArray) (W : World) => eqVal a b a' b' c c' W
  have hg := guardVal
  by_cases hl : xs.length = ys.length
  · have hlb : ((xs.length : Int) == ys.length) = true := by rw [hl]; exact beq_self_eq_true _
    have HL := Lib.hid hl
    have HA := Lib.hid hA
    have HB := Lib.hid hB
    clear hA hB hl
    have hEq : ∀ b : Bool, b = decide (xs = ys) → Calls Tryd.prog 31/-f-/ #[.slice A xs.length c, .slice B ys.length d] w fun e w' => e = .returned (.bool b) ∧ ∃ k, w' = w.drewN k := by
      intro b hb
      have HBB := Lib.hid hb
      clear hb
      go_enter Tryd.func31/-f-/, Tryd.ntmps31/-f-/
      go_wp2
      go_loopw [5] (fun i wr => ∃ k : Nat, k ≤ xs.length ∧ i = .int .i64 k ∧ (∃ m, wr = w.drewN m) ∧ Hid (xs.take k = ys.take k)) (fun i _ => xs.length - (intOf i).toNat)
      case atStart => exact ⟨0, Nat.zero_le _, rfl, ⟨0, rfl⟩, Lib.hid rfl⟩
      case round =>
        obtain ⟨k, hk, rfl, ⟨m, rfl⟩, heq⟩ := hrel
        by_cases hlt : k < xs.length
        · have hlt2 : k < ys.length := by have := HL.out; omega
          obtain ⟨b1, o1, rfl, hb1, hz1, x0, x1, x2⟩ := HA.out.at_ (Below.refl _ _) k hlt
          obtain ⟨b2, o2, rfl, hb2, hz2, y0, y1, y2⟩ := HB.out.at_ (Below.refl _ _) k hlt2
          have HT1 := Lib.hid (show xs.take (k + 1) = xs.take k ++ [xs.getD k default] from by rw [List.take_succ_eq_append_getElem hlt]; simp [List.getD, List.getElem?_eq_getElem hlt])
          have HT2 := Lib.hid (show ys.take (k + 1) = ys.take k ++ [ys.getD k default] from by rw [List.take_succ_eq_append_getElem hlt2]; simp [List.getD, List.getElem?_eq_getElem hlt2])
          generalize xs.getD k default = x at *
          generalize ys.getD k default = y at *
          go_upto_region 6 with fail
          go_quiet (fail)
          have hd : ((!x.k == y.k) || (!x.n == y.n) || !decide (x.s = y.s)) = !eqB x y := by unfold eqB; simp [Bool.not_and]
          rw [hd, World.drewN_drewN]
          clear hd E
          cases hq : eqB x y with
          | true =>
            have hxy := (eqB_iff x y).1 hq
            have HT := Lib.hid (show xs.take (k + 1) = ys.take (k + 1) from by rw [HT1.out, HT2.out, heq.out, hxy])
            clear hq hxy x0 x1 x2 y0 y1 y2
            go_wp2
            go_roundw
            case rel => exact ⟨k + 1, hlt, rfl, ⟨_, rfl⟩, HT⟩
            case measure => simp [intOf]; omega
          | false =>
            have HF := Lib.hid (show b = false from by
              rw [HBB.out]
              refine decide_eq_false fun h => ?_
              have e1 : xs.take (k + 1) = ys.take (k + 1) := by rw [h]
              rw [HT1.out, HT2.out, heq.out] at e1
              have e2 := List.append_cancel_left e1
              have e3 : x = y := by simpa using e2
              rw [(eqB_iff x y).2 e3] at hq
              cases hq)
            clear hq x0 x1 x2 y0 y1 y2
            go_wp2
            go_ret
            exact ⟨by rw [HF.out] <;> rfl, _, rfl⟩
        · obtain rfl : k = xs.length := by omega
          have HF := Lib.hid (show b = true from by
            rw [HBB.out]
            refine decide_eq_true ?_
            have := heq.out
            rw [List.take_length] at this
            rw [this, HL.out, List.take_length])
          go_wp2
          go_ret
          exact ⟨by rw [HF.out] <;> rfl, _, rfl⟩
    exact hEq _ rfl
  · have hlb : ((xs.length : Int) == ys.length) = false := beq_eq_false_iff_ne.2 (by omega)
    have hne : decide (xs = ys) = false := decide_eq_false (fun h => hl (by rw [h]))
    rw [hne]
    clear hne hl
    go_enter Tryd.func31/-f-/, Tryd.ntmps31/-f-/
    go_wp2
    go_ret
    exact ⟨rfl, 0, rfl⟩
end Go.Proofs.YtabdmhlnaahdlaaDoor
