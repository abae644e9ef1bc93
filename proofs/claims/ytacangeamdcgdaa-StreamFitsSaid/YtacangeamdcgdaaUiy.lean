/- Contracts of package schema: right indexes; right schemas. -/
import Derived.Test.YtacangeamdcgdaaUix
namespace Go.Proofs.Ytacangeamdcgdaa
open Go.ChangeShapes Go.WideShapes Go.ChangeAt Go.RowKit
/-- An index. -/
structure Ind where
  cols : List Int
  uq : Bool
instance : Inhabited Ind := ⟨⟨[], false⟩⟩
/-- A slice reads as indexes. -/
def Inds (w : World) (A : Option Addr) (is : List Ind) : Prop :=
  is = [] ∨ ∃ b off, A = some ⟨b, off, none⟩ ∧ b < w.heap.size ∧ ∀ i, i < is.length → ∃ Aj cj, w.cell? ⟨b, off + i * 2, none⟩ = some (.slice Aj (is.getD i default).cols.length cj) ∧ w.cell? ⟨b, off + i * 2 + 1, none⟩ = some (.bool (is.getD i default).uq) ∧ Ints w .i64 Aj (is.getD i default).cols ∧ (is.getD i default).cols.length ≤ cj
theorem Inds.keep {w w' : World} {A : Option Addr} {is : List Ind} (h : Inds w A is) (hb : Below w.heap.size w w') : Inds w' A is := by
  rcases h with h | ⟨b, off, h1, h2, h3⟩
  · exact .inl h
  · refine .inr ⟨b, off, h1, Nat.lt_of_lt_of_le h2 hb.size, fun i hi => ?_⟩
    obtain ⟨Aj, cj, a1, a2, a3, a4⟩ := h3 i hi
    exact ⟨Aj, cj, (hb.cell (p := ⟨b, off + i * 2, none⟩) h2).trans a1, (hb.cell (p := ⟨b, off + i * 2 + 1, none⟩) h2).trans a2, a3.keep hb, a4⟩
structure FitI (x : Ind) : Prop where
  len : x.cols.length ≤ 9223372036854775807
  cols : Fit64 x.cols
def sameCols (a b : Ind) : Bool := decide (a.cols = b.cols)
set_option maxRecDepth 100000 in
set_option maxHeartbeats 2000000 in
theorem clo_idx (a b : Ind) (A B : Option Addr) (c d : Nat) (w : World) (hA : Ints w .i64 A a.cols) (hB : Ints w .i64 B b.cols) (ha : a.cols.length ≤ 9223372036854775807) (hb : b.cols.length ≤ 9223372036854775807) :
    Calls Try.prog 103/-f-/ #[.agg #[.slice A a.cols.length c, .bool a.uq], .agg #[.slice B b.cols.length d, .bool b.uq]] w fun e w' => e = .returned (.bool (sameCols a b)) ∧ Below w.heap.size w w' := by
  have HB2 := Lib.hid (((Below.refl w.heap.size w).alloc (Nat.le_refl _) (.cells #[.slice A a.cols.length c, .bool a.uq] 83)).alloc (by simp) (.cells #[.slice B b.cols.length d, .bool b.uq] 83))
  have C := Lib.hid (equal_any A B a.cols.length c b.cols.length d a.cols b.cols _ (hA.keep HB2.out) (hB.keep HB2.out) rfl rfl ha hb)
  clear hA hB
  go_enter Try.func103, Try.ntmps103
  go_wp2_with (go_at_call 104/-f-/; refine C.out.mono ?_; rintro e w1 ⟨rfl, k, rfl⟩)
  go_ret
  exact ⟨rfl, below_drewN HB2.out k⟩
set_option maxRecDepth 100000 in
set_option maxHeartbeats 8000000 in
theorem unlikeX_any (A : Option Addr) (n c : Nat) (cs : List Ind) (w : World) (hA : Inds w A cs) (hn : cs.length = n) (hc : n ≤ c) (hs : n ≤ 1000000) (hf : ∀ x ∈ cs, FitI x) :
    Calls Try.prog 102/-f-/ #[.slice A n c, .func (.func 103) #[] #[]] w fun e w' => e = .returned (.bool (unlB sameCols cs)) ∧ Below w.heap.size w w' := by
  subst hn
  obtain ⟨r, hr⟩ : ∃ r, r = unlB sameCols cs := ⟨_, rfl⟩
  rw [← hr]
  have HR := Lib.hid hr
  have HA := Lib.hid hA
  have HF := Lib.hid hf
  clear hr hA hf
  go_enter Try.func102, Try.ntmps102
  go_wp2
  go_loopw [5, 6, 8, 11] (fun _ _ _ i wr => ∃ k : Nat, k ≤ cs.length ∧ i = .int .i64 k ∧ Below w.heap.size w wr ∧ Hid (Unl sameCols cs k)) (fun _ _ _ i _ => cs.length - (intOf i).toNat)
  case atStart => exact ⟨0, Nat.zero_le _, rfl, Below.refl _ _, Lib.hid (fun i hi => by omega)⟩
  case round =>
    obtain ⟨k, hk, rfl, hbl, hun⟩ := hrel
    have hsz := hbl.size
    by_cases hlt : k < cs.length
    · rcases HA.out with h | ⟨b, off, rfl, hbw, hcell⟩
      · subst h; simp at hlt
      obtain ⟨Ak, ck, x0, x1, x2, x3⟩ := hcell k hlt
      replace x0 := (hbl.cell (p := ⟨b, off + k * 2, none⟩) hbw).trans x0
      replace x1 := (hbl.cell (p := ⟨b, off + k * 2 + 1, none⟩) hbw).trans x1
      have hbw2 : b < wr.heap.size := Nat.lt_of_lt_of_le hbw hsz
      have HC := Lib.hid hcell
      have HX2 := Lib.hid x2
      have HFX := Lib.hid (HF.out _ (getD_in cs k hlt))
      clear hcell x2 x3
      obtain ⟨x, hx⟩ : ∃ x, x = cs.getD k default := ⟨_, rfl⟩
      rw [← hx] at x0 x1 HX2 HFX
      have HX := Lib.hid hx
      clear hx
      have hkc : k ≤ c := by omega
      obtain ⟨wo, hwo⟩ : ∃ wo : World, wo = wr := ⟨_, rfl⟩
      subst hwo
      go_wp2
      have HBK := Lib.hid (Blk.new wo 83 #[.slice Ak x.cols.length ck, .bool x.uq])
      have HB1 := Lib.hid (hbl.alloc hsz (.cells #[.slice Ak x.cols.length ck, .bool x.uq] 83))
      go_loopw [8, 20] (fun _ j wr => ∃ m : Nat, m ≤ k ∧ j = .int .i64 m ∧ Below w.heap.size w wr ∧ Blk wr wo.heap.size 83 #[.slice Ak x.cols.length ck, .bool x.uq] ∧ Hid (∀ i, i < m → sameCols x (cs.getD i default) = false)) (fun _ j _ => k - (intOf j).toNat)
      case atStart => exact ⟨0, Nat.zero_le _, rfl, HB1.out, HBK.out, Lib.hid (fun i hi => by omega)⟩
      case round =>
        obtain ⟨m, hm, rfl, hb2, hbk, hno⟩ := hrel
        have hsz2 := hb2.size
        by_cases hlm : m < k
        · obtain ⟨Am, cm, y0, y1, y2, y3⟩ := HC.out m (by omega)
          replace y0 := (hb2.cell (p := ⟨b, off + m * 2, none⟩) hbw).trans y0
          replace y1 := (hb2.cell (p := ⟨b, off + m * 2 + 1, none⟩) hbw).trans y1
          have hbw3 : b < wr.heap.size := Nat.lt_of_lt_of_le hbw hsz2
          have z0 := hbk.cell 0
          have z1 := hbk.cell 1
          have hlt3 := hbk.lt
          simp only [List.getElem?_toArray, List.getElem?_cons_zero, List.getElem?_cons_succ] at z0 z1
          have HBK2 := Lib.hid hbk
          have HFY := Lib.hid (HF.out _ (getD_in cs m (by omega)))
          have HY2 := Lib.hid y2
          clear y2 y3
          obtain ⟨y, hy⟩ : ∃ y, y = cs.getD m default := ⟨_, rfl⟩
          rw [← hy] at y0 y1 HY2 HFY
          have HY := Lib.hid hy
          have C := Lib.hid (clo_idx x y Ak Am ck cm _ (HX2.out.keep (hb2.alloc hsz2 (.cells #[.slice Am y.cols.length cm, .bool y.uq] 83))) (HY2.out.keep (hb2.alloc hsz2 (.cells #[.slice Am y.cols.length cm, .bool y.uq] 83))) HFX.out.len HFY.out.len)
          obtain ⟨q, hq⟩ : ∃ q, q = sameCols x y := ⟨_, rfl⟩
          rw [← hq] at C
          have HQ := Lib.hid hq
          clear hbk hy hq x0 x1
          cases q with
          | true =>
            have HF2 := Lib.hid (show r = false from by rw [HR.out]; exact unlB_no _ _ k m hlt hlm (by rw [← HX.out, ← HY.out]; exact HQ.out.symm))
            go_wp2_with (go_at_call 103/-f-/; refine C.out.mono ?_; rintro e w2 ⟨rfl, hb3⟩)
            go_ret
            exact ⟨ret_bool HF2.out.symm, (hb2.alloc hsz2 _).trans (hb3.mono (by simp; omega))⟩
          | false =>
            go_wp2_with (go_at_call 103/-f-/; refine C.out.mono ?_; rintro e w2 ⟨rfl, hb3⟩)
            go_roundw
            case rel => exact ⟨m + 1, by omega, by go_num, (hb2.alloc hsz2 _).trans (hb3.mono (by simp; omega)), (HBK2.out.alloc _).below hb3 (by simp; have := HBK2.out.lt; omega), Lib.hid (fun i hi => by
              by_cases h : i < m
              · exact hno.out i h
              · obtain rfl : i = m := by omega
                rw [← HY.out]; exact HQ.out.symm)⟩
            case measure => simp [intOf]; omega
        · have hmk : m = k := by omega
          subst hmk
          have HU := Lib.hid (hun.out.succ (fun j hj => by rw [← HX.out]; exact hno.out j hj))
          go_wp2
          go_roundw
          case rel => exact ⟨m + 1, by omega, by go_num, hb2, HU⟩
          case measure => simp [intOf]; omega
    · have hkl : k = cs.length := by omega
      subst hkl
      have HT := Lib.hid (show r = true from by rw [HR.out]; exact unlB_yes _ _ hun.out)
      go_wp2
      go_ret
      exact ⟨ret_bool HT.out.symm, hbl⟩
/-- A schema. -/
structure Sch where
  nm : ByteArray
  cols : List Col
  idx : List Ind
  limit : Int
  parts : Int
  by_ : Int
/-- A schema as a value, and what its slices read as. -/
structure SchV (w : World) (v : Value) (s : Sch) : Prop where
  is : ∃ A B c d, v = .agg #[.string s.nm, .slice A s.cols.length c, .slice B s.idx.length d, .int .i64 s.limit, .int .i64 s.parts, .int .i64 s.by_] ∧ Cols w A s.cols ∧ Inds w B s.idx ∧ s.cols.length ≤ c ∧ s.idx.length ≤ d
theorem SchV.keep {w w' : World} {v : Value} {s : Sch} (h : SchV w v s) (hb : Below w.heap.size w w') : SchV w' v s := by
  obtain ⟨A, B, c, d, h1, h2, h3, h4, h5⟩ := h.is
  exact ⟨A, B, c, d, h1, h2.keep hb, h3.keep hb, h4, h5⟩
structure FitS (s : Sch) : Prop where
  nm : s.nm.size ≤ 9223372036854775807
  clen : s.cols.length ≤ 9223372036854775807
  ilen : s.idx.length ≤ 9223372036854775807
  cols : ∀ x ∈ s.cols, FitC x
  idx : ∀ x ∈ s.idx, FitI x
  limit : -9223372036854775808 ≤ s.limit ∧ s.limit ≤ 9223372036854775807
  parts : -9223372036854775808 ≤ s.parts ∧ s.parts ≤ 9223372036854775807
  by_ : -9223372036854775808 ≤ s.by_ ∧ s.by_ ≤ 9223372036854775807
def idxB (n : Int) (x : Ind) : Bool := plaB n x.cols
def idxsB (n : Int) (is : List Ind) : Bool := decide (1 ≤ is.length) && decide (is.length ≤ 4) && (is.getD 0 default).uq && is.all (idxB n) && unlB sameCols is
end Go.Proofs.Ytacangeamdcgdaa
