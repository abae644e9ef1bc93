/- An act on a disk, as an argument; the statements' own functions of one act. -/
import Derived.Test.YtlhfamdandpkgaaDsn
import Derived.Test.YtlhfamdandpkgaaOpen
import Derived.Lib.SmallJoins
namespace Go.Proofs.Ytlhfamdandpkgaa
open Go.ChangeShapes Go.WideShapes Go.ChangeAt Go.RowKit Go.Maps Go.Deep Go.Joins
theorem texts_open {H : Type} {enc : TypeId × Value → H} {W : World} {fuel : Nat} {x : DataW H × List MemPlace} {a : Option Addr} {len cap : Nat}
    (h : DataW.trod enc Try.prog W 0 (fun _ => true) true fuel 31 [.slice a len cap] = some x) :
    len ≤ cap ∧ cap ≤ 9223372036854775807 ∧ ∃ ss : List ByteArray, ss.length = len ∧ Strs W a ss ∧ ∀ s ∈ ss, s.size ≤ 9223372036854775807 := by
  rcases open_strings Try.underlying31 Try.underlying9 (by kernel_rfl) h with ⟨h1, _⟩ | ⟨ad, l, c, ss, h1, _, hl, hm, hsl, _, hcl, hsz⟩
  · simp at h1
    obtain ⟨rfl, rfl, rfl⟩ := h1
    exact ⟨Nat.le_refl _, by omega, [], rfl, .inl rfl, fun s hs => by simp at hs⟩
  · simp at h1
    obtain ⟨rfl, rfl, rfl⟩ := h1
    have hlen : (ss.take len).length = len := by rw [List.length_take]; simp at hsl; omega
    refine ⟨hl, by unfold maxLen at hm; omega, ss.take len, hlen, ?_, fun s hs => by have := hsz s (List.mem_of_mem_take hs); unfold maxLen at this; omega⟩
    rcases Nat.eq_zero_or_pos len with h0 | h0
    · exact .inl (by subst h0; simp)
    · obtain ⟨b, off, spot⟩ := ad
      have hc := hcl 0 (by simp at hsl; omega)
      have hspot : spot = none := by simpa [Addr.add] using World.cell?_spot hc
      subst hspot
      refine .inr ⟨b, off, rfl, World.block_lt_of_cell? _ _ hc, fun i hi => ?_⟩
      have h1 := hcl i (by simp at hsl; omega)
      have h2 : (ss.take len).getD i ⟨#[]⟩ = ss.getD i ByteArray.empty := by
        simp only [List.getD, List.getElem?_take]; rw [if_pos (by omega)]; rfl
      rw [h2, ← addr_add]; exact h1
theorem array6 {α : Type} {cs : Array α} (h : cs.size = 6) : ∃ c0 c1 c2 c3 c4 c5, cs = #[c0, c1, c2, c3, c4, c5] := by
  obtain ⟨l⟩ := cs
  match l, h with
  | [c0, c1, c2, c3, c4, c5], _ => exact ⟨c0, c1, c2, c3, c4, c5, rfl⟩
theorem slice_is {H : Type} {enc : TypeId × Value → H} {W : World} {t e : TypeId} {fuel : Nat} {v : Value} {x : DataW H × List MemPlace} (ht : Try.prog.underlying t = some (.slice e)) (h : DataW.trod enc Try.prog W 0 (fun _ => true) true fuel t [v] = some x) : ∃ A n c, v = .slice A n c := by
  rcases open_slice ht h with ⟨h1, _⟩ | ⟨ad, l, c, m, n, D, Pl, h1, _⟩
  · simp at h1; exact ⟨_, _, _, h1⟩
  · simp at h1; exact ⟨_, _, _, h1⟩
set_option maxRecDepth 100000 in
theorem open_act {H : Type} {enc : TypeId × Value → H} {W : World} {b : Nat} {v : Value} {d : DataW H} {p : List MemPlace} (hv : Value.okWide Try.prog W .any b 34 v) (h : DataW.Trod enc Try.prog W 0 (fun _ => true) true 34 v d p) :
    ∃ (k : Int) (nm tn : ByteArray) (A : Option Addr) (c : Nat) (ss : List ByteArray) (N : Int) (B : Option Addr) (m e : Nat), v = .agg #[.int .i64 k, .string nm, .string tn, .slice A ss.length c, .int .i64 N, .slice B m e] ∧ Strs W A ss ∧ ss.length ≤ 9223372036854775807 ∧ nm.size ≤ 9223372036854775807 ∧ tn.size ≤ 9223372036854775807 ∧ ∀ s ∈ ss, s.size ≤ 9223372036854775807 := by
  obtain ⟨cs, rfl, hsz⟩ := okWide_struct Try.underlying34/-t-/ hv
  have hC : Try.prog.cellsOf 34 = 6 := by kernel_rfl
  obtain ⟨c0, c1, c2, c3, c4, c5, rfl⟩ := array6 (hsz.trans hC)
  obtain ⟨fuel, hf⟩ := h
  obtain ⟨xs, n, _, hx, hl, hlen, hg⟩ := DataW.trod_struct Try.underlying34/-t-/ hf
  have k3 : Try.prog.cellsOf 3 = 1 := by kernel_rfl
  have k9 : Try.prog.cellsOf 9 = 1 := by kernel_rfl
  have c22 : Try.prog.cellsOf 31 = 1 := by kernel_rfl
  have c23 : Try.prog.cellsOf 32 = 1 := by kernel_rfl
  match xs, hlen with
  | [y0, y1, y2, y3, y4, y5], _ =>
    have g0 : DataW.trod enc Try.prog W 0 (fun _ => true) true n 3 [c0] = some y0 := by simpa [Value.cells, k3] using hg 0 _ rfl
    have g1 : DataW.trod enc Try.prog W 0 (fun _ => true) true n 9 [c1] = some y1 := by simpa [Value.cells, k9] using hg 1 _ rfl
    have g2 : DataW.trod enc Try.prog W 0 (fun _ => true) true n 9 [c2] = some y2 := by simpa [Value.cells, k9] using hg 2 _ rfl
    have g3 : DataW.trod enc Try.prog W 0 (fun _ => true) true n 31 [c3] = some y3 := by simpa [Value.cells, c22] using hg 3 _ rfl
    have g4 : DataW.trod enc Try.prog W 0 (fun _ => true) true n 3 [c4] = some y4 := by simpa [Value.cells, k3] using hg 4 _ rfl
    have g5 : DataW.trod enc Try.prog W 0 (fun _ => true) true n 32 [c5] = some y5 := by simpa [Value.cells, c23] using hg 5 _ rfl
    obtain ⟨a0, e0, _, w0⟩ := DataW.trod_int Try.underlying3/-t-/ g0
    obtain ⟨s1, e1, _, z1⟩ := DataW.trod_string Try.underlying9/-t-/ g1
    obtain ⟨s2, e2, _, z2⟩ := DataW.trod_string Try.underlying9/-t-/ g2
    obtain ⟨A3, n3, k3', e3⟩ := slice_is Try.underlying31/-t-/ g3
    obtain ⟨a4, e4, _, w4⟩ := DataW.trod_int Try.underlying3/-t-/ g4
    obtain ⟨A5, n5, k5, e5⟩ := slice_is Try.underlying32/-t-/ g5
    simp only [List.cons.injEq, and_true] at e0 e1 e2 e4
    subst e0 e1 e2 e3 e4 e5
    obtain ⟨l1, m1, ss, hs, hS, hz⟩ := texts_open g3
    subst hs
    exact ⟨_, _, _, _, _, ss, _, _, _, _, rfl, hS, by omega, by unfold maxLen at z1; exact z1, by unfold maxLen at z2; exact z2, hz⟩
def greatA (nm tn : ByteArray) (ss : List ByteArray) : Bool := decide (10 < ss.length) || decide (100 < nm.size) || decide (100 < tn.size) || ss.any fun s => decide (300 < s.size)
set_option maxRecDepth 100000 in
set_option maxHeartbeats 8000000 in
theorem great_any (g : Nat) (k N : Int) (nm tn : ByteArray) (A B : Option Addr) (c m e : Nat) (ss : List ByteArray) (w : World) (hB : Blk w g 34 #[.int .i64 k, .string nm, .string tn, .slice A ss.length c, .int .i64 N, .slice B m e]) (hA : Strs w A ss) (h9 : ss.length ≤ 9223372036854775807) :
    Calls Try.prog 8/-f-/ #[.slice (some ⟨g, 0, none⟩) 1 1] w fun e w' => e = .returned (.bool (greatA nm tn ss)) ∧ w' = w := by
  obtain ⟨c0, c1, c2, c3, c4, c5, hf, hlt⟩ := blk6 hB
  obtain ⟨r, hr⟩ : ∃ r, r = greatA nm tn ss := ⟨_, rfl⟩
  rw [← hr]
  have HR := Lib.hid hr
  have HA := Lib.hid hA
  clear hB hf c0 c4 c5 hr hA
  go_enter Try.func8, Try.ntmps8
  go_wp2
  go_loop [3, 4] (fun i _ => i = .int .i64 0 ∨ (i = .int .i64 1 ∧ Hid (r = false))) (fun i _ => 1 - (intOf i).toNat)
  case atStart => exact .inl rfl
  case round =>
    rcases hrel with rfl | ⟨rfl, hrf⟩
    · by_cases h1 : 10 < ss.length
      · have h1i : (10 : Int) < (ss.length : Int) := by omega
        have HX := Lib.hid (show true = r from by rw [HR.out]; simp [greatA, h1])
        clear h1
        go_wp2
        go_ret
        exact ⟨ret_bool HX.out, rfl⟩
      · have h1i : ¬ (10 : Int) < (ss.length : Int) := by omega
        by_cases h2 : 100 < nm.size
        · have h2i : (100 : Int) < (nm.size : Int) := by omega
          have HX := Lib.hid (show true = r from by rw [HR.out]; simp [greatA, h2])
          clear h1 h2
          go_wp2
          go_ret
          exact ⟨ret_bool HX.out, rfl⟩
        · have h2i : ¬ (100 : Int) < (nm.size : Int) := by omega
          by_cases h3 : 100 < tn.size
          · have h3i : (100 : Int) < (tn.size : Int) := by omega
            have HX := Lib.hid (show true = r from by rw [HR.out]; simp [greatA, h3])
            clear h1 h2 h3
            go_wp2
            go_ret
            exact ⟨ret_bool HX.out, rfl⟩
          · have h3i : ¬ (100 : Int) < (tn.size : Int) := by omega
            have HX := Lib.hid (show r = ss.any (fun s => decide (300 < s.size)) from by rw [HR.out]; simp [greatA, h1, h2, h3])
            clear h1 h2 h3
            go_wp2
            go_loop [4] (fun i => ∃ j : Nat, j ≤ ss.length ∧ i = .int .i64 j ∧ Hid (∀ q, q < j → ¬ 300 < (ss.getD q ⟨#[]⟩).size)) (fun i => ss.length - (intOf i).toNat)
            case atStart => exact ⟨0, Nat.zero_le _, rfl, Lib.hid (fun q hq => by omega)⟩
            case round =>
              obtain ⟨j, hj, rfl, hall⟩ := hrel
              by_cases hjl : j < ss.length
              · rcases HA.out with hx | ⟨b, off, rfl, hbw, hcell⟩
                · subst hx; simp at hjl
                have x0 := hcell j hjl
                have hji : (j : Int) < (ss.length : Int) := by omega
                have HM := Lib.hid (show ss.getD j ⟨#[]⟩ ∈ ss from by simp [List.getD, hjl])
                clear hcell
                obtain ⟨x, hx⟩ : ∃ x, x = ss.getD j ⟨#[]⟩ := ⟨_, rfl⟩
                rw [← hx] at x0 HM
                have HXX := Lib.hid hx
                clear hx
                by_cases h4 : 300 < x.size
                · have h4i : (300 : Int) < (x.size : Int) := by omega
                  have HY := Lib.hid (show true = r from by rw [HX.out]; exact (List.any_eq_true.2 ⟨x, HM.out, decide_eq_true h4⟩).symm)
                  clear h4
                  go_wp2
                  go_ret
                  exact ⟨ret_bool HY.out, rfl⟩
                · have h4i : ¬ (300 : Int) < (x.size : Int) := by omega
                  have HY := Lib.hid (show ∀ q, q < j + 1 → ¬ 300 < (ss.getD q ⟨#[]⟩).size from fun q hq => by
                    by_cases e : q = j
                    · subst e; rw [← HXX.out]; exact h4
                    · exact hall.out q (by omega))
                  clear h4
                  go_wp2
                  go_round
                  case rel => exact ⟨j + 1, hjl, by go_num, HY⟩
                  case measure => simp [intOf]; omega
              · have hjl2 : j = ss.length := by omega
                subst hjl2
                have HY := Lib.hid (show r = false from by
                  rw [HX.out]
                  refine List.any_eq_false.2 fun x hx => ?_
                  obtain ⟨q, hq, rfl⟩ := List.mem_iff_getElem.1 hx
                  have := hall.out q hq
                  simpa [List.getD, hq] using this)
                go_wp2
                go_round
                case rel => exact .inr ⟨rfl, HY⟩
                case measure => simp [intOf]
    · go_wp2
      go_ret
      exact ⟨ret_bool hrf.out.symm, rfl⟩
end Go.Proofs.Ytlhfamdandpkgaa
