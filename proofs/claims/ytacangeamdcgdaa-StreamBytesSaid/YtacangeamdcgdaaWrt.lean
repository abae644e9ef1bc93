/- Contracts of package codec: the writer's texts. -/
import Derived.Test.YtacangeamdcgdaaWrk
namespace Go.Proofs.Ytacangeamdcgdaa
open Go.ChangeShapes Go.WideShapes Go.ChangeAt Go.RowKit
theorem strCells_cells8 (s : ByteArray) : Lib.strCells s = cells8 s.data.toList := rfl
theorem row_far {w : World} {base g t : Nat} {v u : Value} {l : List UInt8} {cs : Array Value} (h : Row8 w base v l) (hB : Blk w g t cs) (ht : t ≠ 5) (i : Nat) : Row8 (w.setCell ⟨g, i, none⟩ u) base v l := by
  obtain ⟨h1, h2⟩ := h
  refine ⟨h1, ?_⟩
  rcases h2 with h2 | ⟨g', cap, cur, rfl, hb', hh, rest⟩
  · exact .inl h2
  · refine .inr ⟨g', cap, cur, rfl, hb', ?_, rest⟩
    have hne : g' ≠ g := by
      rintro rfl
      unfold Blk at hB
      rw [hB] at hh
      simp at hh
      exact ht hh.2
    exact (show Blk w g' 5 cur from hh).far (p := ⟨g, i, none⟩) hne _
/-- Some bytes more, by append and store. -/
theorem laid_app {g base : Nat} {l m : List UInt8} {w wr w1 w2 : World} {v v' : Value} (hl : Laid g base l w wr) (hb : base ≤ w.heap.size) (hv : Row8 wr base v l)
    (ho : w1.ownsRow base 5 1 v' (l.length + m.length) (cells8 l ++ cells8 m)) (hg : wr.grownBy w1 v.ownBlock) (hB : Blk w1 g 109 #[v])
    (h2 : w2 = w1.setCell ⟨g, 0, none⟩ v') : Laid g base (l ++ m) w w2 := by
  subst h2
  have hbs := hl.base hb
  have hr : Row8 w1 base v' (l ++ m) := by unfold Row8; rw [cells8_append, List.length_append]; exact ho
  refine ⟨⟨hl.wr.1, v', hB.put 0 v', row_far hr hB (by decide) 0⟩, ?_, ?_⟩
  · exact (hl.below.grown hg hbs (fun k hk => (hv.lt k hk).1)).setCell (p := ⟨g, 0, none⟩) hl.wr.1 _
  · exact (hl.kept.grown hv hg).put 0 _
/-- What else is made meanwhile. -/
theorem Laid.more {g base : Nat} {l : List UInt8} {w a b : World} (h : Laid g base l w a) (hbs : base ≤ a.heap.size) (hb : Below a.heap.size a b) : Laid g base l w b := by
  obtain ⟨h1, v, hB, hr⟩ := h.wr
  refine ⟨⟨h1, v, hB.below hb hB.lt, ?_⟩, h.below.trans (hb.mono hbs), h.kept.below hb⟩
  obtain ⟨h1, h2⟩ := hr
  refine ⟨h1, ?_⟩
  rcases h2 with h2 | ⟨g', cap, cur, rfl, hb', hh, rest⟩
  · exact .inl h2
  · exact .inr ⟨g', cap, cur, rfl, hb', (show Blk a g' 5 cur from hh).below hb (Blk.lt hh), rest⟩
/-- A slice reads as a list of texts. -/
def Strs (w : World) (A : Option Addr) (ss : List ByteArray) : Prop :=
  ss = [] ∨ ∃ b off, A = some ⟨b, off, none⟩ ∧ b < w.heap.size ∧ ∀ i (_ : i < ss.length), w.cell? ⟨b, off + i, none⟩ = some (.string (ss.getD i ⟨#[]⟩))
theorem Strs.keep {w w' : World} {A : Option Addr} {ss : List ByteArray} (h : Strs w A ss) (hb : Below w.heap.size w w') : Strs w' A ss := by
  rcases h with h | ⟨b, off, h1, h2, h3⟩
  · exact .inl h
  · exact .inr ⟨b, off, h1, Nat.lt_of_lt_of_le h2 hb.size, fun i hi => (hb.cell (p := ⟨b, off + i, none⟩) h2).trans (h3 i hi)⟩
def textW (s : ByteArray) : List UInt8 := num s.size ++ s.data.toList
def textsW (ss : List ByteArray) : List UInt8 := ss.flatMap textW
theorem textsW_take (ss : List ByteArray) (k : Nat) (h : k < ss.length) : textsW (ss.take (k + 1)) = textsW (ss.take k) ++ (num (ss.getD k ⟨#[]⟩).size ++ (ss.getD k ⟨#[]⟩).data.toList) := by
  unfold textsW
  rw [List.take_succ_eq_append_getElem h, List.flatMap_append]
  simp [List.getD, h, textW]
theorem textW_len (s : ByteArray) (h : s.size ≤ 2000) : (textW s).length ≤ 2009 := by
  unfold textW
  have := num_len9 s.size (by omega)
  rw [List.length_append]; simp; omega
theorem safe_new {w : World} {base g t : Nat} {cs : Array Value} (hg : g < w.heap.size) (ht : t ≠ 5) : Safe (w.alloc (.cells cs t)) base g (some ⟨w.heap.size, 0, none⟩) := by
  intro b off hA
  obtain ⟨rfl, rfl⟩ : b = w.heap.size ∧ off = 0 := by have := Option.some.inj hA; simp at this; exact ⟨this.1.symm, this.2.symm⟩
  exact .inr ⟨t, cs, Blk.new w t cs, ht, by omega⟩
set_option maxHeartbeats 4000000 in
theorem wtext_any (g base : Nat) (l : List UInt8) (A : Option Addr) (n c : Nat) (ss : List ByteArray) (w : World) (h : Wr w g base l) (hA : Strs w A ss) (hS : ss ≠ [] → Safe w base g A) (hn : ss.length = n) (hf : ∀ s ∈ ss, s.size ≤ 2000) (hb : base ≤ w.heap.size) (hl : l.length ≤ 400000000) (hs : n ≤ 40000) :
    Calls Try.prog 108/-f-/ #[.pointer (some ⟨g, 0, none⟩), .slice A n c] w fun e w' => e = .returned (.pointer (some ⟨g, 0, none⟩)) ∧ Laid g base (l ++ textsW ss) w w' := by
  subst hn
  obtain ⟨i0, hi, hz0, hz1, hz2⟩ := info_parts info5
  have HL0 := Lib.hid (Laid.refl h)
  have HA := Lib.hid hA
  have HS := Lib.hid hS
  have HF := Lib.hid hf
  clear h hA hS hf
  go_enter Try.func108, Try.ntmps108
  go_wp2
  go_loopw [6, 11] (fun _ i wr => ∃ k : Nat, k ≤ ss.length ∧ i = .int .i64 k ∧ Laid g base (l ++ textsW (ss.take k)) w wr) (fun _ i _ => ss.length - (intOf i).toNat)
  case atStart => exact ⟨0, Nat.zero_le _, rfl, by simpa [textsW] using HL0.out⟩
  case round =>
    obtain ⟨k, hk, rfl, hlaid⟩ := hrel
    have hbs := hlaid.base hb
    have HLD := Lib.hid hlaid
    by_cases hlt : k < ss.length
    · rcases HA.out with h | ⟨b, off, rfl, hbw, hcell⟩
      · subst h; simp at hlt
      have x0 := (hlaid.cell (HS.out (by rintro rfl; simp at hlt)) (off + k)).trans (hcell k hlt)
      have hbw2 : b < wr.heap.size := Nat.lt_of_lt_of_le hbw hlaid.below.size
      have HT := Lib.hid (textsW_take ss k hlt)
      have hfx := HF.out (ss.getD k ⟨#[]⟩) (by simp [List.getD, hlt])
      have hll : (l ++ textsW (ss.take k)).length ≤ 490000000 := by
        rw [List.length_append]
        have := flat_len textW 2009 (ss.take k) (fun x hx => textW_len x (HF.out x (List.mem_of_mem_take hx)))
        have h2 : (ss.take k).length ≤ k := List.length_take_le _ _
        unfold textsW; omega
      generalize ss.getD k ⟨#[]⟩ = s at *
      obtain ⟨L, hL⟩ : ∃ L, L = l ++ textsW (ss.take k) := ⟨_, rfl⟩
      rw [← hL] at HLD hll hlaid
      have HT2 := Lib.hid (show l ++ textsW (ss.take (k + 1)) = (L ++ num s.size) ++ s.data.toList from by rw [HT.out, hL]; simp)
      have hg := hlaid.wr.2
      obtain ⟨v0, hB0, _⟩ := hg
      have hglt := hB0.lt
      have HSN := Lib.hid (safe_new (w := wr) (base := base) (g := g) (t := 3) (cs := #[.int .i64 (s.size : Int)]) hglt (by decide))
      have HIN := Lib.hid (Ints.one (w := wr.alloc (.cells #[.int .i64 (s.size : Int)] 3)) (k := .i64) (Blk.new wr 3 #[.int .i64 (s.size : Int)]))
      have HL1 := Lib.hid (hlaid.more hbs ((Below.refl _ _).alloc (Nat.le_refl _) (.cells #[.int .i64 (s.size : Int)] 3)))
      have hsz9 := num_len9 s.size (by omega)
      have HT3 := Lib.hid (show sizesW [(s.size : Int)] = num s.size from by simp [sizesW])
      clear hL hB0 hlaid hcell HT
      have hLn : (L ++ num s.size).length ≤ 490000009 := by rw [List.length_append]; omega
      go_wp2_with (first
        | (go_at_call 60/-f-/; refine (size_any g base L _ 1 1 [(s.size : Int)] _ HL1.out.wr HIN.out (fun _ => HSN.out) rfl (fun x hx => by simp at hx; subst hx; omega) (by simp; omega) (by omega) (by omega)).mono ?_; rintro e w1 ⟨rfl, hl1⟩; rw [HT3.out] at hl1; have HL2 := Lib.hid (HL1.out.trans hl1); have hb1 := HL2.out.base hb; obtain ⟨_, v1, hB1, hr1⟩ := hl1.wr; have q0 := hB1.cell 0; have r0 := hB1.frozen 0; have s0 := hB1.lt; simp at q0; have HB1 := Lib.hid hB1; have HR1 := Lib.hid hr1; clear hB1 hr1 hl1)
        | (at_builtin; refine Lib.wpList_append_own_string _ rfl _ _ 105 9 rfl base 5 i0 Try.underlying105 Try.underlying9 hi hz0 hz1 hz2 v1 (L ++ num s.size).length (cells8 (L ++ num s.size)) rfl HR1.out s rfl (by unfold maxLen; omega) (by omega) (by omega) ?_; intro v' w2 hown' hgrow _; obtain ⟨A1, c1, rfl⟩ := own_slice hown'; have hB2 := blk_grown HB1.out hgrow (own_ne HR1.out HB1.out (by decide)); have q2 := hB2.cell 0; have r2 := hB2.frozen 0; have s2 := hB2.lt; simp at q2; have HB2 := Lib.hid hB2; have HO2 := Lib.hid hown'; have HG2 := Lib.hid hgrow; clear hB2 hown' hgrow))
      go_roundw
      case rel => exact ⟨k + 1, by omega, by go_num, by rw [HT2.out]; exact laid_app (m := s.data.toList) HL2.out hb HR1.out (by have h9 := HO2.out; rw [strCells_cells8] at h9; simpa using h9) HG2.out HB2.out rfl⟩
      case measure => simp [intOf]; omega
    · have hkl : k = ss.length := by omega
      subst hkl
      rw [List.take_length] at HLD
      go_wp2
      go_ret
      exact ⟨rfl, HLD.out⟩
end Go.Proofs.Ytacangeamdcgdaa
