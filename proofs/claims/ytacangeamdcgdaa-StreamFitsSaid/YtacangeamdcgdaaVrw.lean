/- Rows of values of the own: in memory; the same or not (for seats without the rest of package value). -/
import Derived.Test.YtacangeamdcgdaaVlc
import Derived.BigQuiet
import Derived.Deep.QuietTactic
import Derived.Deep.DeepCutAuto
namespace Go.Proofs.Ytacangeamdcgdaa
open Go.ChangeShapes Go.WideShapes Go.ChangeAt Go.RowKit
/-- Element k of a slice of values, in memory. -/
theorem Vals.at_ {w W : World} {A : Option Addr} {vs : List Val} (h : Vals w A vs) (hb : Below w.heap.size w W) (k : Nat) (hk : k < vs.length) :
    ∃ b off, A = some ⟨b, off, none⟩ ∧ b < w.heap.size ∧ b < W.heap.size ∧ W.cell? ⟨b, off + k * 3, none⟩ = some (.int .i64 (vs.getD k default).k) ∧ W.cell? ⟨b, off + k * 3 + 1, none⟩ = some (.int .i64 (vs.getD k default).n) ∧ W.cell? ⟨b, off + k * 3 + 2, none⟩ = some (.string (vs.getD k default).s) := by
  rcases h with h | ⟨b, off, h1, h2, h3⟩
  · subst h; simp at hk
  · obtain ⟨x0, x1, x2⟩ := h3 k hk
    exact ⟨b, off, h1, h2, Nat.lt_of_lt_of_le h2 hb.size, (hb.cell (p := ⟨b, off + k * 3, none⟩) h2).trans x0, (hb.cell (p := ⟨b, off + k * 3 + 1, none⟩) h2).trans x1, (hb.cell (p := ⟨b, off + k * 3 + 2, none⟩) h2).trans x2⟩
def vcells (vs : List Val) : List Value := vs.flatMap fun x => [Value.int .i64 x.k, Value.int .i64 x.n, Value.string x.s]
theorem vcells_append (a b : List Val) : vcells (a ++ b) = vcells a ++ vcells b := by simp [vcells]
theorem vcells_len (a : List Val) : (vcells a).length = a.length * 3 := by
  induction a with
  | nil => rfl
  | cons x r ih =>
    have : vcells (x :: r) = [Value.int .i64 x.k, Value.int .i64 x.n, Value.string x.s] ++ vcells r := rfl
    rw [this, List.length_append, ih, List.length_cons]; simp; omega
theorem vcells_at : ∀ (a : List Val) (i : Nat), i < a.length → (vcells a)[i * 3]? = some (.int .i64 (a.getD i default).k) ∧ (vcells a)[i * 3 + 1]? = some (.int .i64 (a.getD i default).n) ∧ (vcells a)[i * 3 + 2]? = some (.string (a.getD i default).s)
  | [], i, h => by simp at h
  | x :: r, 0, _ => ⟨rfl, rfl, rfl⟩
  | x :: r, i + 1, h => by
    have e : vcells (x :: r) = Value.int .i64 x.k :: Value.int .i64 x.n :: Value.string x.s :: vcells r := rfl
    obtain ⟨h1, h2, h3⟩ := vcells_at r i (by simpa using h)
    rw [e]
    refine ⟨?_, ?_, ?_⟩
    · rw [show (i + 1) * 3 = i * 3 + 1 + 1 + 1 from by omega]; simpa using h1
    · rw [show (i + 1) * 3 + 1 = (i * 3 + 1) + 1 + 1 + 1 from by omega]; simpa using h2
    · rw [show (i + 1) * 3 + 2 = (i * 3 + 2) + 1 + 1 + 1 from by omega]; simpa using h3
/-- A slice of the call's own that holds just these values. -/
def RowV (w : World) (base : Nat) (v : Value) (vs : List Val) : Prop := w.ownsRow base 93 3 v vs.length (vcells vs)
theorem RowV.vals {w : World} {base : Nat} {v : Value} {vs : List Val} (h : RowV w base v vs) : ∃ A c, v = .slice A vs.length c ∧ Vals w A vs ∧ vs.length ≤ c := by
  obtain ⟨h0, h⟩ := h
  rcases h with ⟨rfl, h1⟩ | ⟨g, cap, cur, rfl, hb, hh, hn, hc, hs, ht⟩
  · have : vs = [] := List.eq_nil_of_length_eq_zero h1
    subst this
    exact ⟨none, 0, rfl, .inl rfl, Nat.le_refl _⟩
  · refine ⟨some ⟨g, 0, none⟩, cap, rfl, .inr ⟨g, 0, rfl, Blk.lt hh, fun i hi => ?_⟩, hn⟩
    have key : ∀ j u, j < vs.length * 3 → (vcells vs)[j]? = some u → w.cell? ⟨g, j, none⟩ = some u := by
      intro j u hj hu
      rw [Blk.cell hh j, ← Array.getElem?_toList, ← hu, ← ht, List.getElem?_take, if_pos (by omega)]
    obtain ⟨h1, h2, h3⟩ := vcells_at vs i hi
    rw [Nat.zero_add]
    exact ⟨key _ _ (by omega) h1, key _ _ (by omega) h2, key _ _ (by omega) h3⟩
theorem info35 : (Try.prog.info? 93).map (fun i => (i.zero, i.size, i.bytes)) = some (some (.agg #[.int .i64 0, .int .i64 0, .string ⟨#[]⟩]), 3, 32) := by kernel_rfl
theorem Src.val (w : World) (x : Val) : Src (w.alloc (.cells #[.int .i64 x.k, .int .i64 x.n, .string x.s] 93)) (some ⟨w.heap.size, 0, none⟩) 1 3 [.int .i64 x.k, .int .i64 x.n, .string x.s] := by
  refine ⟨rfl, ?_, ?_, ?_⟩
  · intro h; simp at h
  · intro ad hA j u hu
    obtain rfl := Option.some.inj hA
    rw [addr_add, Nat.zero_add, (Blk.new w 93 #[.int .i64 x.k, .int .i64 x.n, .string x.s]).cell]
    rw [← hu]
    simp
  · intro u hu
    simp at hu
    rcases hu with rfl | rfl | rfl <;> rfl
def eqB (x y : Val) : Bool := x.k == y.k && x.n == y.n && decide (x.s = y.s)
theorem eqB_iff (x y : Val) : eqB x y = true ↔ x = y := by
  obtain ⟨a, b, c⟩ := x
  obtain ⟨a', b', c'⟩ := y
  simp only [eqB, Bool.and_eq_true, beq_iff_eq, decide_eq_true_eq, Val.mk.injEq]
  constructor
  · rintro ⟨⟨h1, h2⟩, h3⟩; exact ⟨h1, h2, h3⟩
  · rintro ⟨h1, h2, h3⟩; exact ⟨⟨h1, h2⟩, h3⟩
instance : DecidableEq Val := fun x y => decidable_of_iff (eqB x y = true) (eqB_iff x y)
set_option maxRecDepth 100000 in
set_option maxHeartbeats 8000000 in
theorem refsame_any (A B : Option Addr) (n c m d : Nat) (xs ys : List Val) (w : World) (hA : Vals w A xs) (hB : Vals w B ys) (hn : xs.length = n) (hm : ys.length = m) (hs : n ≤ 1000000) (hs' : m ≤ 1000000) :
    Calls Try.prog 70/-f-/ #[.slice A n c, .slice B m d] w fun e w' => e = .returned (.bool (decide (xs = ys))) ∧ ∃ k, w' = w.drewN k := by
  subst hn hm
  have E := fun (a b a' b' : Int) (c c' : ByteArray) (W : World) => eqVal a b a' b' c c' W
  have hg := guardVal
  by_cases hl : xs.length = ys.length
  · have hlb : ((xs.length : Int) == ys.length) = true := by rw [hl]; exact beq_self_eq_true _
    have HL := Lib.hid hl
    have HA := Lib.hid hA
    have HB := Lib.hid hB
    clear hA hB hl
    have hEq : ∀ b : Bool, b = decide (xs = ys) → Calls Try.prog 70/-f-/ #[.slice A xs.length c, .slice B ys.length d] w fun e w' => e = .returned (.bool b) ∧ ∃ k, w' = w.drewN k := by
      intro b hb
      have HBB := Lib.hid hb
      clear hb
      go_enter Try.func70/-f-/, Try.ntmps70/-f-/
      go_wp2
      go_loopw [5] (fun i wr => ∃ k : Nat, k ≤ xs.length ∧ i = .int .i64 k ∧ (∃ m, wr = w.drewN m) ∧ Hid (xs.take k = ys.take k)) (fun i _ => xs.length - (intOf i).toNat)
      case atStart => exact ⟨0, Nat.zero_le _, rfl, ⟨0, rfl⟩, Lib.hid rfl⟩
      case round =>
        obtain ⟨k, hk, rfl, ⟨m, rfl⟩, heq⟩ := hrel
        by_cases hlt : k < xs.length
        · have hlt2 : k < ys.length := by have := HL.out; omega
          obtain ⟨b1, o1, rfl, hb1, hz1, x0, x1, x2⟩ := HA.out.at_ (Below.refl _ _) k hlt
          obtain ⟨b2, o2, rfl, hb2, hz2, y0, y1, y2⟩ := HB.out.at_ (Below.refl _ _) k hlt2
          have HT1 := Lib.hid (show xs.take (k + 1) = xs.take k ++ [xs.getD k default] from by rw [List.take_succ_eq_append_getElem hlt]; simp [List.getD, List.getElem?_eq_getElem hlt])
          have HT2 := Lib.hid (show ys.take (k + 1) = ys.take k ++ [ys.getD k default] from by rw [List.take_succ_eq_append_getElem hlt2]; simp [List.getD, List.getElem?_eq_getElem hlt2])
          generalize xs.getD k default = x at *
          generalize ys.getD k default = y at *
          go_upto_region 6 with fail
          go_quiet (fail)
          have hd : ((!x.k == y.k) || (!x.n == y.n) || !decide (x.s = y.s)) = !eqB x y := by unfold eqB; simp [Bool.not_and]
          rw [hd, World.drewN_drewN]
          clear hd E
          cases hq : eqB x y with
          | true =>
            have hxy := (eqB_iff x y).1 hq
            have HT := Lib.hid (show xs.take (k + 1) = ys.take (k + 1) from by rw [HT1.out, HT2.out, heq.out, hxy])
            clear hq hxy x0 x1 x2 y0 y1 y2
            go_wp2
            go_roundw
            case rel => exact ⟨k + 1, hlt, rfl, ⟨_, rfl⟩, HT⟩
            case measure => simp [intOf]; omega
          | false =>
            have HF := Lib.hid (show b = false from by
              rw [HBB.out]
              refine decide_eq_false fun h => ?_
              have e1 : xs.take (k + 1) = ys.take (k + 1) := by rw [h]
              rw [HT1.out, HT2.out, heq.out] at e1
              have e2 := List.append_cancel_left e1
              have e3 : x = y := by simpa using e2
              rw [(eqB_iff x y).2 e3] at hq
              cases hq)
            clear hq x0 x1 x2 y0 y1 y2
            go_wp2
            go_ret
            exact ⟨by rw [HF.out] <;> rfl, _, rfl⟩
        · obtain rfl : k = xs.length := by omega
          have HF := Lib.hid (show b = true from by
            rw [HBB.out]
            refine decide_eq_true ?_
            have := heq.out
            rw [List.take_length] at this
            rw [this, HL.out, List.take_length])
          go_wp2
          go_ret
          exact ⟨by rw [HF.out] <;> rfl, _, rfl⟩
    exact hEq _ rfl
  · have hlb : ((xs.length : Int) == ys.length) = false := beq_eq_false_iff_ne.2 (by omega)
    have hne : decide (xs = ys) = false := decide_eq_false (fun h => hl (by rw [h]))
    rw [hne]
    clear hne hl
    go_enter Try.func70/-f-/, Try.ntmps70/-f-/
    go_wp2
    go_ret
    exact ⟨rfl, 0, rfl⟩
end Go.Proofs.Ytacangeamdcgdaa
