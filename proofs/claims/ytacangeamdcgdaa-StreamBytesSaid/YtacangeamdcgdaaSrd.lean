/- Contracts of package stream: a writer and a reader at the beginning; batches as bytes. -/
import Derived.Test.YtacangeamdcgdaaSmt
import Derived.Deep.RegionHeld3
namespace Go.Proofs.Ytacangeamdcgdaa
open Go.ChangeShapes Go.WideShapes Go.ChangeAt Go.RowKit Go.Deep
theorem buf_made (s : ByteArray) (w : World) : ∃ cap fz pad, s.size ≤ cap ∧ (convert 9 105 (.string s)).run Try.prog w = .ok (.slice (some ⟨w.heap.size, 0, none⟩) s.size cap) (w.drew.alloc (.cells (cells8 s.data.toList ++ pad).toArray 5 fz)) := by
  have h := run_bytes_of_string (P := Try.prog) w 9 105 5 s Try.underlying9 Try.underlying105 Try.underlying5
  have e : bytesRow s (grownCap w s.size 0 5) = (cells8 s.data.toList ++ List.replicate (grownCap w s.size 0 5 - s.size) (Value.int .u8 0)).toArray := by
    unfold bytesRow cells8
    apply Array.toList_inj.1
    simp
  rw [e] at h
  exact ⟨_, _, _, grownCap_ge w _ _ _, h⟩
set_option maxHeartbeats 2000000 in
theorem read_any (s : ByteArray) (w : World) (hs : s.size ≤ 1000000000) :
    Calls Try.prog 54/-f-/ #[.string s] w fun e w' => (∃ g, e = .returned (.pointer (some ⟨g, 0, none⟩)) ∧ w.heap.size ≤ g ∧ Rd w' g (some s.data.toList)) ∧ Below w.heap.size w w' := by
  obtain ⟨cap, fz, pad, hc, hconv⟩ := buf_made s w
  have hsl : s.data.toList.length = s.size := by simp
  have HSL := Lib.hid hsl
  have hbl : (w.drew.alloc (.cells (cells8 s.data.toList ++ pad).toArray 5 fz)).heap[w.heap.size]? = some (.cells (cells8 s.data.toList ++ pad).toArray 5 fz) := by
    have := heap_alloc_new w.drew (.cells (cells8 s.data.toList ++ pad).toArray 5 fz)
    exact this
  have HB := Lib.hid hbl
  clear hsl hbl
  go_enter Try.func54, Try.ntmps54
  go_wp2
  go_ret
  refine ⟨⟨_, rfl, by simp, .slice (some ⟨w.heap.size, 0, none⟩) s.size cap, ?_, some ⟨w.heap.size, 0, none⟩, cap, by rw [Option.getD_some, HSL.out], by rw [Option.getD_some, HSL.out]; exact hc, .inr ⟨w.heap.size, 0, rfl, ⟨(cells8 s.data.toList ++ pad).toArray, fz, ?_⟩, fun i hi => ?_⟩⟩, ?_⟩
  · have := Blk.new (w.alloc (.cells (cells8 s.data.toList ++ pad).toArray 5 fz)) 121 #[.slice (some ⟨w.heap.size, 0, none⟩) s.size cap, .bool false]
    simpa using (show Blk ((w.alloc (.cells (cells8 s.data.toList ++ pad).toArray 5 fz)).alloc (.cells #[.slice (some ⟨w.heap.size, 0, none⟩) s.size cap, .bool false] 121)).drew (w.alloc (.cells (cells8 s.data.toList ++ pad).toArray 5 fz)).heap.size 121 #[.slice (some ⟨w.heap.size, 0, none⟩) s.size cap, .bool false] from this)
  · exact (Below.heap_alloc (w.drew.alloc (.cells (cells8 s.data.toList ++ pad).toArray 5 fz)) (.cells #[.slice (some ⟨w.heap.size, 0, none⟩) s.size cap, .bool false] 121) w.heap.size (by simp)).trans HB.out
  · rw [Option.getD_some] at hi ⊢
    have h1 : ((w.drew.alloc (.cells (cells8 s.data.toList ++ pad).toArray 5 fz)).alloc (.cells #[.slice (some ⟨w.heap.size, 0, none⟩) s.size cap, .bool false] 121)).heap[w.heap.size]? = some (.cells (cells8 s.data.toList ++ pad).toArray 5 fz) := (Below.heap_alloc _ _ _ (by simp)).trans HB.out
    rw [Nat.zero_add]
    have h2 := cell_of_row _ w.heap.size i _ 5 fz h1
    refine Eq.trans ?_ (h2.trans ?_)
    · rfl
    · rw [List.getElem?_toArray, List.getElem?_append_left (by simpa [cells8] using hi)]
      have hi2 : i < s.data.size := by simpa using hi
      simp [cells8, List.getD]
      exact ⟨_, Array.getElem?_eq_getElem hi2, by rw [Array.getElem?_eq_getElem hi2]; rfl⟩
  · exact (((Below.refl _ _).drew).alloc (Nat.le_refl _) _).alloc (by simp) _
theorem RowR.rowz {w : World} {base : Nat} {v : Value} {rs : List (List Val)} (h : RowR w base v rs) : ∃ A c, v = .slice A rs.length c ∧ Rowz w A rs := by
  obtain ⟨cs, ⟨h0, h1⟩, _, h2⟩ := h
  rcases h1 with ⟨rfl, h3⟩ | ⟨g, cap, cur, rfl, hb, hh, hn, hc, hs, ht⟩
  · have : rs = [] := List.eq_nil_of_length_eq_zero h3
    subst this
    exact ⟨none, 0, rfl, .inl rfl⟩
  · refine ⟨_, _, rfl, .inr ⟨g, 0, rfl, Blk.lt hh, fun i hi => ?_⟩⟩
    obtain ⟨u, hu, hr⟩ := h2 i hi
    obtain ⟨A, c, rfl, hv, _⟩ := hr.vals
    refine ⟨A, c, ?_, hv⟩
    rw [Nat.zero_add, Blk.cell hh i, ← Array.getElem?_toList]
    have h4 : (cur.toList.take (rs.length * 1))[i]? = cs[i]? := by rw [ht]
    rw [List.getElem?_take, if_pos (by omega)] at h4
    rw [h4, hu]
theorem wr_new (w : World) : Wr (w.alloc (.cells #[.slice none 0 0] 109)) w.heap.size w.heap.size [] :=
  ⟨Nat.le_refl _, _, Blk.new w 109 _, World.ownsRow_nil _ _ _ _⟩
theorem rowz_rws {w w' : World} {base g : Nat} {A : Option Addr} {rs : List (List Val)} (h : Rowz w A rs) (hb : Below w.heap.size w w') (hbase : w.heap.size ≤ base) : Rws w' base g A rs ∧ (rs ≠ [] → Safe w' base g A) := by
  rcases h with h | ⟨b, off, rfl, hbw, hcell⟩
  · exact ⟨.inl h, fun h2 => absurd h h2⟩
  · refine ⟨.inr ⟨b, off, rfl, Nat.lt_of_lt_of_le hbw hb.size, fun i hi => ?_⟩, fun _ b' off' e => ?_⟩
    · obtain ⟨Ai, ci, h1, h2⟩ := hcell i hi
      refine ⟨Ai, ci, (hb.cell (p := ⟨b, off + i, none⟩) hbw).trans h1, h2.keep hb, fun hne b' off' e => ?_⟩
      rcases h2 with h2 | ⟨b2, off2, e2, hb2, _⟩
      · exact absurd h2 hne
      · rw [e] at e2
        have := Option.some.inj e2
        simp at this
        exact .inl (by omega)
    · have := Option.some.inj e
      simp at this
      exact .inl (by omega)
theorem greatl_no {nm : ByteArray} {cs : List Col} {bs : List Bat} (h : greatL nm cs bs = false) : cs.length ≤ 12 ∧ bs.length ≤ 40 ∧ ∀ b ∈ bs, b.rows.length ≤ 40 ∧ ∀ r ∈ b.rows, r.length ≤ 30 := by
  unfold greatL at h
  rw [Bool.or_eq_false_iff, Bool.or_eq_false_iff, decide_eq_false_iff_not, List.any_eq_false] at h
  refine ⟨(greatS_no h.1.1).1, by omega, fun b hb => ?_⟩
  have hb2 : badB b = false := by simpa using h.2 b hb
  unfold badB at hb2
  rw [Bool.or_eq_false_iff, decide_eq_false_iff_not, List.any_eq_false] at hb2
  exact ⟨by omega, fun r hr => (great_no (by simpa using hb2.2 r hr)).1⟩
theorem bats_at {w : World} {A : Option Addr} {bs : List Bat} (h : Bats w A bs) {k : Nat} (hk : k < bs.length) : ∃ b off, A = some ⟨b, off, none⟩ ∧ b < w.heap.size ∧ ∃ Ai ci, w.cell? ⟨b, off + k * 2, none⟩ = some (.int .i64 (bs.getD k default).id) ∧ w.cell? ⟨b, off + k * 2 + 1, none⟩ = some (.slice Ai (bs.getD k default).rows.length ci) ∧ Rowz w Ai (bs.getD k default).rows := by
  rcases h with h | ⟨b, off, h1, h2, h3⟩
  · subst h; simp at hk
  · obtain ⟨Ai, ci, a1, a2, a3⟩ := h3 k hk
    exact ⟨b, off, h1, h2, Ai, ci, a1, a2, a3⟩
theorem row_len30 (vs : List Val) (hf : ∀ x ∈ vs, FitV x) (hn : vs.length ≤ 30) : (rowW vs).length ≤ 6309 := by
  unfold rowW valsW
  have h1 := num_len9 vs.length (by omega)
  have h2 := flat_len valW 210 vs (fun x hx => valW_len x (hf x hx))
  rw [List.length_append]; omega
theorem bat_len40 (b : Bat) (hi : b.id ≤ 9223372036854775807) (hl : b.rows.length ≤ 40) (hf : ∀ r ∈ b.rows, r.length ≤ 30 ∧ ∀ x ∈ r, FitV x) : (batW b).length ≤ 252378 := by
  unfold batW rowsW
  have h0 := num_len9 b.id.toNat (by omega)
  have h1 := num_len9 b.rows.length (by omega)
  have h2 := flat_len rowW 6309 b.rows (fun r hr => row_len30 r (hf r hr).2 (hf r hr).1)
  rw [List.length_append, List.length_append]; omega
theorem bats_take (bs : List Bat) (k : Nat) (h : k < bs.length) : (bs.take (k + 1)).flatMap batW = (bs.take k).flatMap batW ++ batW (bs.getD k default) := by
  rw [List.take_succ_eq_append_getElem h, List.flatMap_append]
  simp [List.getD, h]
theorem Laid.drew {g base : Nat} {l : List UInt8} {w w' : World} (h : Laid g base l w w') : Laid g base l w w'.drew := ⟨h.wr, ⟨h.below.os, h.below.tape, h.below.output, h.below.size, h.below.block⟩, h.kept⟩
theorem cells2 {w : World} {g t : Nat} {a b : Value} (h : Blk w g t #[a, b]) : w.cell? ⟨g, 0, none⟩ = some a ∧ w.cell? ⟨g, 1, none⟩ = some b := ⟨h.cell 0, h.cell 1⟩
set_option maxRecDepth 100000 in
set_option maxHeartbeats 8000000 in
theorem sbytes_any (B : Option Addr) (d : Nat) (bs : List Bat) (w : World) (hB : Bats w B bs) (hbl : bs.length ≤ 40) (hbf : ∀ b ∈ bs, b.id ≤ 9223372036854775807 ∧ -9223372036854775808 ≤ b.id ∧ b.rows.length ≤ 40 ∧ ∀ r ∈ b.rows, r.length ≤ 30 ∧ ∀ x ∈ r, FitV x) :
    Calls Try.prog 32/-f-/ #[.slice B bs.length d] w fun e w' => e = .returned (.string ⟨(batsW bs).toArray⟩) ∧ Below w.heap.size w w' := by
  have HB := Lib.hid hB
  have HF := Lib.hid hbf
  have HL0 := Lib.hid (Laid.refl (wr_new w))
  have HB0 := Lib.hid (below_alloc w (.cells #[.slice none 0 0] 109))
  have HL1 := Lib.hid (HL0.out.more (by simp) ((Below.refl _ _).alloc (Nat.le_refl _) (.cells #[.int .i64 (bs.length : Int)] 3)))
  have HSN := Lib.hid (new_safe (W := w.alloc (.cells #[.slice none 0 0] 109)) (base := w.heap.size) (g := w.heap.size) (t := 3) (N := w.heap.size + 1) (cs := #[.int .i64 (bs.length : Int)]) (by simp) (by decide) (by simp))
  have HIN := Lib.hid (new_ints (w.alloc (.cells #[.slice none 0 0] 109)) (w.heap.size + 1) 3 (bs.length : Int) (by simp))
  have hn9 := num_len9 bs.length (by omega)
  have HT := Lib.hid (show [] ++ sizesW [(bs.length : Int)] = num bs.length from by simp [sizesW])
  clear hB hbf
  go_enter Try.func32, Try.ntmps32
  go_wp2_with (go_at_call 60/-f-/; refine (size_any w.heap.size w.heap.size [] _ 1 1 [(bs.length : Int)] _ HL1.out.wr HIN.out (fun _ => HSN.out) rfl (fun x hx => by simp at hx; subst hx; omega) (by simp; omega) (by simp) (by omega)).mono ?_; rintro e w1 ⟨rfl, hl1⟩; rw [HT.out] at hl1; have HL2 := Lib.hid (HL1.out.trans hl1); clear hl1)
  have HB1 := Lib.hid (HB0.out.trans HL2.out.below)
  go_loopw [5, 13] (fun _ i wr => ∃ k : Nat, k ≤ bs.length ∧ i = .int .i64 k ∧ Laid w.heap.size w.heap.size (num bs.length ++ (bs.take k).flatMap batW) w1 wr) (fun _ i _ => bs.length - (intOf i).toNat)
  case atStart => exact ⟨0, Nat.zero_le _, rfl, by simpa using Laid.refl HL2.out.wr⟩
  case round =>
    obtain ⟨k, hk, rfl, hlaid⟩ := hrel
    have hbr := HB1.out.trans hlaid.below
    have hsz := hbr.size
    have HLD := Lib.hid hlaid
    have HBR := Lib.hid hbr
    obtain ⟨_, v9, hB9, _⟩ := hlaid.wr
    have hglt := hB9.lt
    clear hB9
    by_cases hlt : k < bs.length
    · obtain ⟨b, off, rfl, hbw, Ai, ci, a0, a1, hrz⟩ := bats_at HB.out hlt
      have x0 := (hbr.cell (p := ⟨b, off + k * 2, none⟩) hbw).trans a0
      have x1 := (hbr.cell (p := ⟨b, off + k * 2 + 1, none⟩) hbw).trans a1
      have hbw2 : b < wr.heap.size := Nat.lt_of_lt_of_le hbw hsz
      have HT2 := Lib.hid (bats_take bs k hlt)
      have hM : bs.getD k default ∈ bs := by simp [List.getD, hlt]
      have hfx := HF.out _ hM
      have hll : (num bs.length ++ (bs.take k).flatMap batW).length ≤ 10200000 := by
        rw [List.length_append]
        have := flat_len batW 252378 (bs.take k) (fun x hx => by have h := HF.out x (List.mem_of_mem_take hx); exact bat_len40 x h.1 h.2.2.1 h.2.2.2)
        have h2 : (bs.take k).length ≤ k := List.length_take_le _ _
        omega
      clear a0 a1 hM hlaid hbr
      generalize bs.getD k default = x at *
      obtain ⟨xi, rs⟩ := x
      simp only at x0 x1 hrz hfx
      obtain ⟨L, hL⟩ : ∃ L, L = num bs.length ++ (bs.take k).flatMap batW := ⟨_, rfl⟩
      rw [← hL] at HLD hll
      have HL := Lib.hid hL
      have HRZ := Lib.hid hrz
      have HFX := Lib.hid hfx
      have hxi9 := num_len9 xi.toNat (by have := hfx.1; omega)
      have hrl := hfx.2.2.1
      clear hL hrz hfx
      have HBX := Lib.hid (Blk.new wr 38 #[.int .i64 xi, .slice Ai rs.length ci])
      have HLX := Lib.hid (HLD.out.more hsz ((Below.refl _ _).alloc (Nat.le_refl _) (.cells #[.int .i64 xi, .slice Ai rs.length ci] 38)))
      have HLY := Lib.hid ((HLX.out.more (by simp; omega) ((Below.refl _ _).alloc (Nat.le_refl _) (.cells #[.int .i64 xi] 3))).drew)
      have HIY := Lib.hid (show Ints ((wr.alloc (.cells #[.int .i64 xi, .slice Ai rs.length ci] 38)).alloc (.cells #[.int .i64 xi] 3)).drew .i64 (some ⟨wr.heap.size + 1, 0, none⟩) [xi] from new_ints (wr.alloc (.cells #[.int .i64 xi, .slice Ai rs.length ci] 38)) (wr.heap.size + 1) 3 xi (by simp))
      have HSY := Lib.hid (show Safe ((wr.alloc (.cells #[.int .i64 xi, .slice Ai rs.length ci] 38)).alloc (.cells #[.int .i64 xi] 3)).drew w.heap.size w.heap.size (some ⟨wr.heap.size + 1, 0, none⟩) from new_safe (W := (wr.alloc (.cells #[.int .i64 xi, .slice Ai rs.length ci] 38))) (base := w.heap.size) (g := w.heap.size) (t := 3) (N := wr.heap.size + 1) (cs := #[.int .i64 xi]) (by simp; omega) (by decide) (by simp))
      have HT3 := Lib.hid (show L ++ sizesW [xi] = L ++ num xi.toNat from by simp [sizesW])
      have HT4 := Lib.hid (show (L ++ num xi.toNat) ++ rowsW rs = num bs.length ++ (bs.take (k + 1)).flatMap batW from by rw [HT2.out, HL.out]; simp [batW])
      have hxl : (L ++ num xi.toNat).length ≤ 10200009 := by rw [List.length_append]; omega
      have C1 := Lib.hid (fun A W (e : W = ((wr.alloc (.cells #[.int .i64 xi, .slice Ai rs.length ci] 38)).alloc (.cells #[.int .i64 xi] 3)).drew) (eA : A = some ⟨wr.heap.size + 1, 0, none⟩) => size_any w.heap.size w.heap.size L A 1 1 [xi] W (by rw [e]; exact HLY.out.wr) (by rw [e, eA]; exact HIY.out) (fun _ => by rw [e, eA]; exact HSY.out) rfl (fun x hx => by simp at hx; subst hx; exact ⟨HFX.out.2.1, HFX.out.1⟩) (by rw [e]; simp; omega) (by omega) (by omega))
      have HB2 := Lib.hid (show Blk ((wr.alloc (.cells #[.int .i64 xi, .slice Ai rs.length ci] 38)).alloc (.cells #[.int .i64 xi] 3)).drew wr.heap.size 38 #[.int .i64 xi, .slice Ai rs.length ci] from HBX.out.alloc _)
      have hne : wr.heap.size ≠ w.heap.size := by omega
      have hbsz : w.heap.size ≤ (w.alloc (.cells #[.slice none 0 0] 109)).heap.size := by simp
      have hrw : ∀ r ∈ rs, r.length ≤ 1000 ∧ ∀ x ∈ r, FitV x := fun r hr => ⟨by have := (HFX.out.2.2.2 r hr).1; omega, (HFX.out.2.2.2 r hr).2⟩
      have hxb : (L ++ num xi.toNat).length + 210009 * rs.length ≤ 94000000 := by omega
      have C2 := Lib.hid (fun W (h : Laid w.heap.size w.heap.size (L ++ num xi.toNat) w1 W) => wrows_big w.heap.size w.heap.size (L ++ num xi.toNat) Ai rs.length ci rs W h.wr (rowz_rws HRZ.out (HB1.out.trans h.below) (Nat.le_refl _)).1 (rowz_rws HRZ.out (HB1.out.trans h.below) (Nat.le_refl _)).2 rfl hrw (h.base (HL2.out.base hbsz)) hxb)
      go_upto_region 5 with fail
      clear x0 x1
      go_region_held3 (fun W => W.cell? ⟨wr.heap.size, 0, none⟩ = some (.int .i64 xi) ∧ W.cell? ⟨wr.heap.size, 1, none⟩ = some (.slice Ai rs.length ci))
        (first | exact cells2 HBX.out | exact cells2 HB2.out | exact cells2 HB3.out | exact cells2 HB4.out)
        (first
          | (go_at_call 60/-f-/; (with_reducible refine (C1.out _ _ rfl rfl).mono ?_); rintro e w3 ⟨rfl, hl3⟩; have HL3 := Lib.hid (HLY.out.trans (HT3.out ▸ hl3)); have HB3 := Lib.hid (hl3.kept _ _ _ hne (by decide) HB2.out); clear hl3)
          | (go_at_call 61/-f-/; (with_reducible refine (C2.out _ HL3.out).mono ?_); rintro e w4 ⟨rfl, hl4⟩; have HL4 := Lib.hid (HL3.out.trans (HT4.out ▸ hl4)); have HB4 := Lib.hid (hl4.kept _ _ _ hne (by decide) HB3.out); clear hl4))
      go_wp2
      go_roundw
      case rel => exact ⟨k + 1, by omega, by go_num, HL4.out⟩
      case measure => simp [intOf]; omega
    · have hkl : k = bs.length := by omega
      subst hkl
      have HW4 := Lib.hid (HLD.out.wr)
      have HX := Lib.hid (show num bs.length ++ (bs.take bs.length).flatMap batW = batsW bs from by rw [List.take_length]; rfl)
      rw [HX.out] at HW4
      clear hlaid
      go_wp2_with (go_at_call 62/-f-/; refine (wstring_any w.heap.size w.heap.size _ _ HW4.out).mono ?_; rintro e w4 ⟨rfl, rfl⟩)
      go_ret
      exact ⟨rfl, HBR.out⟩
end Go.Proofs.Ytacangeamdcgdaa
