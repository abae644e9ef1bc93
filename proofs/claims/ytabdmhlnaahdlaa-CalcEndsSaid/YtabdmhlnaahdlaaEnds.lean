/- CalcEnds: whatever numbers: the least and the greatest of them are among them, and none is less, or greater. No condition. -/
import Derived.Test.YtabdmhlnaahdlaaRows
import Derived.Test.YtabdmhlnaahdlaaCalcB
import Derived.OpenShut
import Derived.ChangeOld
import Derived.BigQuiet
namespace Go.Proofs.Ytabdmhlnaahdlaa.CalcEnds
open Go.ChangeShapes Go.WideShapes Go.ChangeAt Go.RowKit
set_option linter.unusedVariables false

theorem lo_mem (a : Int) (xs : List Int) : (lo a xs = a ∨ lo a xs ∈ xs) ∧ lo a xs ≤ a ∧ ∀ x ∈ xs, lo a xs ≤ x := by
  induction xs generalizing a with
  | nil => simp [lo]
  | cons y r ih =>
    have e : lo a (y :: r) = lo (if y < a then y else a) r := rfl
    rw [e]
    by_cases h : y < a
    · rw [if_pos h]
      obtain ⟨h1, h2, h3⟩ := ih y
      refine ⟨.inr (by rcases h1 with h1 | h1 <;> simp [h1]), by omega, fun x hx => ?_⟩
      rcases List.mem_cons.1 hx with rfl | hx
      · exact h2
      · exact h3 x hx
    · rw [if_neg h]
      obtain ⟨h1, h2, h3⟩ := ih a
      refine ⟨by rcases h1 with h1 | h1 <;> simp [h1], h2, fun x hx => ?_⟩
      rcases List.mem_cons.1 hx with rfl | hx
      · omega
      · exact h3 x hx
theorem hi_mem (a : Int) (xs : List Int) : (hi a xs = a ∨ hi a xs ∈ xs) ∧ a ≤ hi a xs ∧ ∀ x ∈ xs, x ≤ hi a xs := by
  induction xs generalizing a with
  | nil => simp [hi]
  | cons y r ih =>
    have e : hi a (y :: r) = hi (if a < y then y else a) r := rfl
    rw [e]
    by_cases h : a < y
    · rw [if_pos h]
      obtain ⟨h1, h2, h3⟩ := ih y
      refine ⟨.inr (by rcases h1 with h1 | h1 <;> simp [h1]), by omega, fun x hx => ?_⟩
      rcases List.mem_cons.1 hx with rfl | hx
      · exact h2
      · exact h3 x hx
    · rw [if_neg h]
      obtain ⟨h1, h2, h3⟩ := ih a
      refine ⟨by rcases h1 with h1 | h1 <;> simp [h1], h2, fun x hx => ?_⟩
      rcases List.mem_cons.1 hx with rfl | hx
      · omega
      · exact h3 x hx
theorem mem_step (L a : Int) (xs : List Int) (k : Nat) (h : k < xs.length) : L ∈ a :: xs.take (k + 1) ↔ (L ∈ a :: xs.take k ∨ L = xs.getD k 0) := by
  have e : xs.getD k 0 = xs[k] := by simp [List.getD, h]
  have e2 : xs.take (k + 1) = xs.take k ++ [xs[k]] := List.take_succ_eq_append_getElem h
  rw [e, e2, List.mem_cons, List.mem_append, List.mem_singleton, List.mem_cons, or_assoc]

set_option maxHeartbeats 1000000 in
theorem walk (a : Int) (A : Option Addr) (n c : Nat) (xs : List Int) (w : World) (hA : Ints w .i64 A xs) (hn : xs.length = n) (hm : n ≤ 9223372036854775807) :
    Calls Try.prog 5 #[.int .i64 a, .slice A n c] w fun e w' => e = .returned (.bool true) ∧ Below w.heap.size w w' := by
  subst hn
  by_cases hbig : 100 < xs.length
  · go_enter Try.func5, Try.ntmps5
    go_wp2_with (go_at_call 8; refine (awake_any _).mono ?_; rintro e w1 ⟨rfl, hb1⟩)
    go_ret
    exact ⟨rfl, hb1⟩
  have LE := Lib.hid (least_any a A xs.length c xs w hA rfl (by omega))
  have MO := Lib.hid (most_any a A xs.length c xs w hA rfl (by omega))
  obtain ⟨l1, l2, l3⟩ := lo_mem a xs
  obtain ⟨m1, m2, m3⟩ := hi_mem a xs
  have L1 := Lib.hid (show lo a xs ∈ a :: xs by simpa using l1)
  have M1 := Lib.hid (show hi a xs ∈ a :: xs by simpa using m1)
  have L3 := Lib.hid l3
  have M3 := Lib.hid m3
  clear l1 m1 l3 m3
  generalize lo a xs = L at *
  generalize hi a xs = M at *
  go_enter Try.func5, Try.ntmps5
  go_wp2_with (first | (go_at_call 23; refine LE.out.mono ?_; rintro e w1 ⟨rfl, rfl⟩) | (go_at_call 24; refine MO.out.mono ?_; rintro e w1 ⟨rfl, rfl⟩))
  go_loop [7, 8, 9] (fun s o i => ∃ k : Nat, k ≤ xs.length ∧ i = .int .i64 k ∧ (∃ b : Bool, s = .bool b ∧ Hid (b = true ↔ L ∈ a :: xs.take k)) ∧ (∃ b : Bool, o = .bool b ∧ Hid (b = true ↔ M ∈ a :: xs.take k))) (fun _ _ i => xs.length - (intOf i).toNat)
  case atStart => exact ⟨0, Nat.zero_le _, rfl, ⟨_, rfl, Lib.hid (by simp)⟩, ⟨_, rfl, Lib.hid (by simp)⟩⟩
  case round =>
    obtain ⟨k, hk, rfl, ⟨s, rfl, hs⟩, ⟨o, rfl, ho⟩⟩ := hrel
    by_cases hlt : k < xs.length
    · rcases hA with h | ⟨b, off, rfl, hb, hcell⟩
      · subst h; simp at hlt
      have hc0 := hcell k hlt
      have hg : xs.getD k 0 = xs[k] := by simp [List.getD, hlt]
      have hx1 : L ≤ xs.getD k 0 := by rw [hg]; exact L3.out _ (List.getElem_mem hlt)
      have hx2 : xs.getD k 0 ≤ M := by rw [hg]; exact M3.out _ (List.getElem_mem hlt)
      have hs' := Lib.hid (mem_step L a xs k hlt)
      have ho' := Lib.hid (mem_step M a xs k hlt)
      clear hcell hg
      generalize xs.getD k 0 = x at *
      cases s <;> cases o
      all_goals
        go_wp2
        go_round
        case rel => exact ⟨k + 1, by omega, by go_num, ⟨_, rfl, Lib.hid (by rw [hs'.out, ← hs.out]; simp)⟩, ⟨_, rfl, Lib.hid (by rw [ho'.out, ← ho.out]; simp)⟩⟩
        case measure => simp [intOf]; omega
    · have hkl : k = xs.length := by omega
      subst hkl
      have e1 : s = true := hs.out.2 (by rw [List.take_length]; exact L1.out)
      have e2 : o = true := ho.out.2 (by rw [List.take_length]; exact M1.out)
      subst e1 e2
      go_wp2_with (go_at_call 8; refine (awake_any _).mono ?_; rintro e w1 ⟨rfl, hb1⟩)
      go_ret
      exact ⟨rfl, hb1⟩

theorem own : ownKnob Try.prog.godebug = none := by kernel_rfl
theorem laidOut : laidOutB Try.prog = true := by kernel_rfl
set_option maxRecDepth 100000 in
theorem lifted (os : Os) (started : os.Started) (H : Type) (enc : TypeId × Value → H) :
    ReturnsInHanded {} Try.checked os 5 .any (Rows.calcEndsSpec.pre6 enc Try.prog Try.f5 Rows.calcEndsRow.domain false) (Rows.calcEndsSpec.post enc Try.prog Try.f5 false true false false) := by
  refine returnsInHanded_of_change (C := Try.checked) own started (by kernel_rfl) Try.func5
    (ChangeSpec.witness6 (enc := enc) (C := Try.checked) false ⟨#[], #[.int .i64 0, .slice none 0 0], []⟩ 8 (by kernel_rfl) (by kernel_rfl) (by kernel_rfl) (by kernel_rfl)) ?_
  intro W base args ds gs before hval0 hW hcnd _
  have hval : ∀ (j : Nat) t v, Try.f5.params[j]? = some t → args[j]? = some v → Value.okWide Try.prog W .any base t v := hval0
  have hW' := hW
  obtain ⟨p, q, hA0, hV, rfl, hfz, hnd⟩ := hW
  have hA : DataW.TrodAll enc Try.prog W 0 (fun _ => true) true Try.f5.params.toList args.toList ds p := hA0
  rw [Try.params5] at hA hval
  obtain ⟨v0, vs0, d0, ds0, p0, q0, hargs, rfl, rfl, h0, r0⟩ := trodAll_cons hA
  obtain ⟨v1, vs1, d1, ds1, p1, q1, rfl, rfl, rfl, h1, r1⟩ := trodAll_cons r0
  obtain ⟨rfl, rfl, rfl⟩ := trodAll_nil r1
  obtain rfl : args = #[v0, v1] := by cases args; simp_all
  obtain ⟨rfl, rfl⟩ := trodVars_none hV
  obtain ⟨x0, rfl, rfl, rfl, w0⟩ := open_int Try.underlying2 (hval 0 2 v0 rfl rfl) h0
  obtain ⟨a1, len1, cap1, rfl⟩ := okWide_slice Try.underlying22 (hval 1 22 v1 rfl rfl)
  have k1 := h1
  have lt1 : ∀ x ∈ p1, x.block < W.heap.size := by obtain ⟨m, hm⟩ := k1; exact DataW.trod_lt m _ _ _ hm
  obtain ⟨xs, w1, hl1, hm1⟩ : ∃ xs, Ints W .i64 a1 xs ∧ xs.length = len1 ∧ len1 ≤ 9223372036854775807 := by
    obtain ⟨fuel, hf⟩ := h1
    rcases open_ints Try.underlying22 Try.underlying2 (by kernel_rfl) hf with ⟨hcs, _⟩ | ⟨x, l, c, zs, hcs, _, hl, hm, hz, _, hcell, hwz⟩
    · simp [Value.cells] at hcs
      obtain ⟨rfl, rfl, rfl⟩ := hcs
      exact ⟨[], .inl rfl, rfl, by omega⟩
    · simp [Value.cells] at hcs
      obtain ⟨rfl, rfl, rfl⟩ := hcs
      obtain ⟨i1, i2⟩ := ints_of_open hl (by simpa using hz) hcell
      exact ⟨_, i1, i2, by unfold maxLen at hm; omega⟩
  clear hA0 hval0
  refine (walk x0 a1 len1 cap1 xs W w1 hl1 hm1).mono fun e W' ⟨he, bel⟩ => ?_
  subst he
  exact ⟨_, rfl, _, _, _, [], _, [], hW', trodAll_mk1 (shut_bool Try.underlying4 _), (trodAll_cons_mk (shut_int Try.underlying2 w0) (trodAll_cons_mk (Below.trod laidOut (by kernel_rfl) (of_decide_eq_true (by kernel_rfl)) k1 bel lt1) trodAll_mk0)), rfl, bel.frame _, fun h => by cases h⟩

theorem over : Rows.calcEndsRow.holds Try.pinned (OpenSpec.ofChange Rows.calcEndsSpec) :=
  OpenClaim.holds_of_wide 5 Try.f5 rfl rfl rfl rfl rfl rfl rfl ⟨rfl, rfl, rfl, rfl, rfl⟩ rfl rfl rfl rfl rfl (by kernel_rfl) Try.func5 (by kernel_rfl)
    (of_decide_eq_true (by kernel_rfl)) (by unfold Func.isWrapper; first | (rw [if_pos (by decide +kernel)]; kernel_rfl) | (rw [if_neg (by decide +kernel)]; exact ⟨rfl, rfl⟩))
    (fun os started H enc _ => lifted os started H enc)

theorem proved : Rows.CalcEndsSaid := over
end Go.Proofs.Ytabdmhlnaahdlaa.CalcEnds
