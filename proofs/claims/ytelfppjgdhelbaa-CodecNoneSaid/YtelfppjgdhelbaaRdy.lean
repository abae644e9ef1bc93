/- Contracts of package codec: a reader at the beginning; the document's Same of rows. -/
import Derived.Test.YtelfppjgdhelbaaWrx
namespace Go.Proofs.Ytelfppjgdhelbaa
open Go.ChangeShapes Go.WideShapes Go.ChangeAt Go.RowKit
theorem buf_made (s : ByteArray) (w : World) : ∃ cap fz pad, s.size ≤ cap ∧ (convert 9 39 (.string s)).run Try.prog w = .ok (.slice (some ⟨w.heap.size, 0, none⟩) s.size cap) (w.drew.alloc (.cells (cells8 s.data.toList ++ pad).toArray 5 fz)) := by
  have h := run_bytes_of_string (P := Try.prog) w 9 39 5 s Try.underlying9 Try.underlying39 Try.underlying5
  have e : bytesRow s (grownCap w s.size 0 5) = (cells8 s.data.toList ++ List.replicate (grownCap w s.size 0 5 - s.size) (Value.int .u8 0)).toArray := by
    unfold bytesRow cells8
    apply Array.toList_inj.1
    simp
  rw [e] at h
  exact ⟨_, _, _, grownCap_ge w _ _ _, h⟩
set_option maxHeartbeats 2000000 in
theorem read_any (s : ByteArray) (w : World) (hs : s.size ≤ 1000000000) :
    Calls Try.prog 26/-f-/ #[.string s] w fun e w' => (∃ g, e = .returned (.pointer (some ⟨g, 0, none⟩)) ∧ w.heap.size ≤ g ∧ Rd w' g (some s.data.toList)) ∧ Below w.heap.size w w' := by
  obtain ⟨cap, fz, pad, hc, hconv⟩ := buf_made s w
  have hsl : s.data.toList.length = s.size := by simp
  have HSL := Lib.hid hsl
  have hbl : (w.drew.alloc (.cells (cells8 s.data.toList ++ pad).toArray 5 fz)).heap[w.heap.size]? = some (.cells (cells8 s.data.toList ++ pad).toArray 5 fz) := by
    have := heap_alloc_new w.drew (.cells (cells8 s.data.toList ++ pad).toArray 5 fz)
    exact this
  have HB := Lib.hid hbl
  clear hsl hbl
  go_enter Try.func26, Try.ntmps26
  go_wp2
  go_ret
  refine ⟨⟨_, rfl, by simp, .slice (some ⟨w.heap.size, 0, none⟩) s.size cap, ?_, some ⟨w.heap.size, 0, none⟩, cap, by rw [Option.getD_some, HSL.out], by rw [Option.getD_some, HSL.out]; exact hc, .inr ⟨w.heap.size, 0, rfl, ⟨(cells8 s.data.toList ++ pad).toArray, fz, ?_⟩, fun i hi => ?_⟩⟩, ?_⟩
  · have := Blk.new (w.alloc (.cells (cells8 s.data.toList ++ pad).toArray 5 fz)) 78 #[.slice (some ⟨w.heap.size, 0, none⟩) s.size cap, .bool false]
    simpa using (show Blk ((w.alloc (.cells (cells8 s.data.toList ++ pad).toArray 5 fz)).alloc (.cells #[.slice (some ⟨w.heap.size, 0, none⟩) s.size cap, .bool false] 78)).drew (w.alloc (.cells (cells8 s.data.toList ++ pad).toArray 5 fz)).heap.size 78 #[.slice (some ⟨w.heap.size, 0, none⟩) s.size cap, .bool false] from this)
  · exact (Below.heap_alloc (w.drew.alloc (.cells (cells8 s.data.toList ++ pad).toArray 5 fz)) (.cells #[.slice (some ⟨w.heap.size, 0, none⟩) s.size cap, .bool false] 78) w.heap.size (by simp)).trans HB.out
  · rw [Option.getD_some] at hi ⊢
    have h1 : ((w.drew.alloc (.cells (cells8 s.data.toList ++ pad).toArray 5 fz)).alloc (.cells #[.slice (some ⟨w.heap.size, 0, none⟩) s.size cap, .bool false] 78)).heap[w.heap.size]? = some (.cells (cells8 s.data.toList ++ pad).toArray 5 fz) := (Below.heap_alloc _ _ _ (by simp)).trans HB.out
    rw [Nat.zero_add]
    have h2 := cell_of_row _ w.heap.size i _ 5 fz h1
    refine Eq.trans ?_ (h2.trans ?_)
    · rfl
    · rw [List.getElem?_toArray, List.getElem?_append_left (by simpa [cells8] using hi)]
      have hi2 : i < s.data.size := by simpa using hi
      simp [cells8, List.getD]
      exact ⟨_, Array.getElem?_eq_getElem hi2, by rw [Array.getElem?_eq_getElem hi2]; rfl⟩
  · exact (((Below.refl _ _).drew).alloc (Nat.le_refl _) _).alloc (by simp) _
/-- A slice of rows, as it reads. -/
def Rowz (w : World) (A : Option Addr) (rs : List (List Val)) : Prop :=
  rs = [] ∨ ∃ b off, A = some ⟨b, off, none⟩ ∧ b < w.heap.size ∧ ∀ i, i < rs.length → ∃ Ai ci, w.cell? ⟨b, off + i, none⟩ = some (.slice Ai (rs.getD i []).length ci) ∧ Vals w Ai (rs.getD i [])
theorem Rowz.below {w w' : World} {A : Option Addr} {rs : List (List Val)} (h : Rowz w A rs) (hb : Below w.heap.size w w') : Rowz w' A rs := by
  rcases h with h | ⟨b, off, hA, hbw, hcell⟩
  · exact .inl h
  · refine .inr ⟨b, off, hA, Nat.lt_of_lt_of_le hbw hb.size, fun i hi => ?_⟩
    obtain ⟨Ai, ci, h1, h2⟩ := hcell i hi
    exact ⟨Ai, ci, (hb.cell (p := ⟨b, off + i, none⟩) hbw).trans h1, h2.keep hb⟩
theorem RowR.rowz {w : World} {base : Nat} {v : Value} {rs : List (List Val)} (h : RowR w base v rs) : ∃ A c, v = .slice A rs.length c ∧ Rowz w A rs := by
  obtain ⟨cs, ⟨h0, h1⟩, _, h2⟩ := h
  rcases h1 with ⟨rfl, h3⟩ | ⟨g, cap, cur, rfl, hb, hh, hn, hc, hs, ht⟩
  · have : rs = [] := List.eq_nil_of_length_eq_zero h3
    subst this
    exact ⟨none, 0, rfl, .inl rfl⟩
  · refine ⟨_, _, rfl, .inr ⟨g, 0, rfl, Blk.lt hh, fun i hi => ?_⟩⟩
    obtain ⟨u, hu, hr⟩ := h2 i hi
    obtain ⟨A, c, rfl, hv, _⟩ := hr.vals
    refine ⟨A, c, ?_, hv⟩
    rw [Nat.zero_add, Blk.cell hh i, ← Array.getElem?_toList]
    have h4 : (cur.toList.take (rs.length * 1))[i]? = cs[i]? := by rw [ht]
    rw [List.getElem?_take, if_pos (by omega)] at h4
    rw [h4, hu]
theorem quiet_more {w : World} {A : Option Addr} {vs : List Val} (h : Vals w A vs) (k : Nat) : Vals (w.drewN k) A vs := h
set_option maxRecDepth 100000 in
set_option maxHeartbeats 8000000 in
theorem rowsame_any (A B : Option Addr) (n c m d : Nat) (xs ys : List (List Val)) (w : World) (hA : Rowz w A xs) (hB : Rowz w B ys) (hn : xs.length = n) (hm : ys.length = m) (hs : n ≤ 1000000) (hs' : m ≤ 1000000) (hx : ∀ r ∈ xs, r.length ≤ 1000000) (hy : ∀ r ∈ ys, r.length ≤ 1000000) :
    Calls Try.prog 31/-f-/ #[.slice A n c, .slice B m d] w fun e w' => e = .returned (.bool (decide (xs = ys))) ∧ ∃ k, w' = w.drewN k := by
  subst hn hm
  by_cases hl : xs.length = ys.length
  · have hlb : ((xs.length : Int) == ys.length) = true := by rw [hl]; exact beq_self_eq_true _
    have HL := Lib.hid hl
    have HA := Lib.hid hA
    have HB := Lib.hid hB
    have HX := Lib.hid hx
    have HY := Lib.hid hy
    clear hA hB hl hx hy
    obtain ⟨r, hr⟩ : ∃ r, r = decide (xs = ys) := ⟨_, rfl⟩
    rw [← hr]
    have HR := Lib.hid hr
    clear hr
    go_enter Try.func31, Try.ntmps31
    go_wp2
    go_loopw [5] (fun i wr => ∃ k : Nat, k ≤ xs.length ∧ i = .int .i64 k ∧ (∃ m, wr = w.drewN m) ∧ Hid (xs.take k = ys.take k)) (fun i _ => xs.length - (intOf i).toNat)
    case atStart => exact ⟨0, Nat.zero_le _, rfl, ⟨0, rfl⟩, Lib.hid rfl⟩
    case round =>
      obtain ⟨k, hk, rfl, hwr, heq⟩ := hrel
      have HAR := Lib.hid (show Rowz wr A xs from by obtain ⟨m, rfl⟩ := hwr; exact HA.out)
      have HBR := Lib.hid (show Rowz wr B ys from by obtain ⟨m, rfl⟩ := hwr; exact HB.out)
      have HWR := Lib.hid hwr
      clear hwr
      by_cases hlt : k < xs.length
      · have hlt2 : k < ys.length := by have := HL.out; omega
        rcases HAR.out with h | ⟨b1, o1, rfl, hb1, hcell1⟩
        · subst h; simp at hlt
        rcases HBR.out with h | ⟨b2, o2, rfl, hb2, hcell2⟩
        · subst h; simp at hlt2
        obtain ⟨A1, c1, x0, hv1⟩ := hcell1 k hlt
        obtain ⟨A2, c2, y0, hv2⟩ := hcell2 k hlt2
        have HT1 := Lib.hid (show xs.take (k + 1) = xs.take k ++ [xs.getD k []] from by rw [List.take_succ_eq_append_getElem hlt]; simp [List.getD, List.getElem?_eq_getElem hlt])
        have HT2 := Lib.hid (show ys.take (k + 1) = ys.take k ++ [ys.getD k []] from by rw [List.take_succ_eq_append_getElem hlt2]; simp [List.getD, List.getElem?_eq_getElem hlt2])
        have l1 := HX.out (xs.getD k []) (by simp [List.getD, hlt])
        have l2 := HY.out (ys.getD k []) (by simp [List.getD, hlt2])
        clear hcell1 hcell2
        generalize xs.getD k [] = x at *
        generalize ys.getD k [] = y at *
        have SM := Lib.hid (fun j => refsame_any A1 A2 x.length c1 y.length c2 x y (wr.drewN j) hv1 hv2 rfl rfl l1 l2)
        obtain ⟨q, hq⟩ : ∃ q, q = decide (x = y) := ⟨_, rfl⟩
        rw [← hq] at SM
        have HQ := Lib.hid hq
        clear hv1 hv2 hq
        go_upto_region 6 with fail
        go_quiet ((go_at_call 48/-f-/; exact Calls.quiet_of (SM.out _)))
        cases q with
        | true =>
          have hxy : x = y := of_decide_eq_true HQ.out.symm
          have HT := Lib.hid (show xs.take (k + 1) = ys.take (k + 1) from by rw [HT1.out, HT2.out, heq.out, hxy])
          clear hxy x0 y0
          go_wp2
          go_roundw
          case rel => exact ⟨k + 1, hlt, rfl, (by obtain ⟨m, hm⟩ := HWR.out; exact ⟨_, by rw [hm, World.drewN_drewN]⟩), HT⟩
          case measure => simp [intOf]; omega
        | false =>
          have HF := Lib.hid (show r = false from by
            rw [HR.out]
            refine decide_eq_false fun h => ?_
            have e1 : xs.take (k + 1) = ys.take (k + 1) := by rw [h]
            rw [HT1.out, HT2.out, heq.out] at e1
            have e2 := List.append_cancel_left e1
            have e3 : x = y := by simpa using e2
            have := HQ.out
            rw [decide_eq_true e3] at this
            cases this)
          go_wp2
          go_ret
          exact ⟨ret_bool HF.out.symm, (by obtain ⟨m, hm⟩ := HWR.out; exact ⟨_, by rw [hm, World.drewN_drewN]⟩)⟩
      · have hkl : k = xs.length := by omega
        have HT := Lib.hid (show r = true from by
          rw [HR.out]
          refine decide_eq_true ?_
          have := heq.out
          rw [hkl, List.take_length, HL.out, List.take_length] at this
          exact this)
        subst hkl
        go_wp2
        go_ret
        exact ⟨ret_bool HT.out.symm, HWR.out⟩
  · have hlb : ((xs.length : Int) == ys.length) = false := beq_eq_false_iff_ne.2 (by omega)
    have hne : decide (xs = ys) = false := decide_eq_false (fun h => hl (by rw [h]))
    rw [hne]
    clear hl hne
    go_enter Try.func31, Try.ntmps31
    go_wp2
    go_ret
    exact ⟨rfl, 0, rfl⟩
end Go.Proofs.Ytelfppjgdhelbaa
