/- Contracts of package disk: a new disk, power, files' bytes. -/
import Derived.Test.YtlhfamdandpkgaaDsf
namespace Go.Proofs.Ytlhfamdandpkgaa
open Go.ChangeShapes Go.WideShapes Go.ChangeAt Go.RowKit Go.Maps
theorem ret_si {s t : ByteArray} {a b : Int} (h : s = t) (h1 : a = b) : Ending.returned (.tuple #[.string s, .int .i64 a]) = .returned (.tuple #[.string t, .int .i64 b]) := by rw [h, h1]
theorem fls_new {w : World} {base b : Nat} (hb : base ≤ b) (h : w.ownsMap Try.prog 9 Rp b 0 (.map [])) : Fls w base b (.map []) [] where
  hb := hb
  own := h
  full := Full.empty
  nms := by show List.mergeSort [] leB = []; simp
  inj := fun _ _ _ h => by cases h
  file := fun _ h => by cases h
  apart := fun _ _ _ _ _ _ _ _ _ _ h => by cases h
  lens := by simp
  fits := fun _ h => by cases h
set_option maxRecDepth 100000 in
set_option maxHeartbeats 4000000 in
theorem new_any (base : Nat) (room : Int) (w : World) (hb : base ≤ w.heap.size) (h0 : 0 ≤ room) (h1 : room ≤ 16777216) :
    Calls Try.prog 10/-f-/ #[.int .i64 room] w fun e w' => ∃ d, e = .returned (.pointer (some ⟨d, 0, none⟩)) ∧ w.heap.size ≤ d ∧ Dsk w' base d ⟨false, false, 0, 0, room⟩ [] ∧ Below w.heap.size w w' := by
  have hmm := @run_makeMap Try.prog
  have hn0 : ¬ room < 0 := by omega
  have hn1 : ¬ (16777216 : Int) < room := by omega
  go_enter Try.func10, Try.ntmps10
  go_wp2
  go_ret
  have hf := fls_new (w := w.alloc (.map #[] 0)) hb (World.ownsMap_made _ _ _ _)
  refine ⟨w.heap.size + 1, rfl, by omega, ⟨w.heap.size, .map [], by omega, ?_, hf.below (below_al _ _)⟩, (below_al w _).trans ((below_al _ _).mono (by simp))⟩
  have := Blk.new (w.alloc (.map #[] 0)) 67 (Pw.cells ⟨false, false, 0, 0, room⟩ w.heap.size)
  simpa [Pw.cells] using this
set_option maxRecDepth 100000 in
set_option maxHeartbeats 4000000 in
theorem restore_any (base d : Nat) (p : Pw) (fl : List FRec) (w : World) (h : Dsk w base d p fl) :
    Calls Try.prog 49/-f-/ #[.pointer (some ⟨d, 0, none⟩)] w fun e w' => e = .returned (.tuple #[]) ∧ Dsk w' base d { p with off := false, armed := false } fl ∧ Off (· = d) w w' := by
  obtain ⟨b, D, h1, h2, h3⟩ := h
  obtain ⟨c0, c1, c2, c3, c4, c5, hf, hlt⟩ := blk6 h2
  have f0 := hf 0
  have f1 := hf 1
  have H2 := Lib.hid h2
  have H3 := Lib.hid h3
  clear h2 h3 hf c2 c3 c4 c5
  go_enter Try.func49, Try.ntmps49
  go_wp2
  go_end0
  have ho := ((Off.refl (fun x => x = d) w).put (p := ⟨d, 0, none⟩) (fun _ => rfl) (.bool false)).put (p := ⟨d, 1, none⟩) (fun _ => rfl) (.bool false)
  refine ⟨rfl, ⟨b, D, h1, ?_, H3.out.off_d H2.out ho⟩, ho⟩
  simpa [Pw.cells] using (H2.out.put 0 (.bool false)).put 1 (.bool false)
set_option maxRecDepth 100000 in
set_option maxHeartbeats 4000000 in
theorem on_any (base d : Nat) (p : Pw) (fl : List FRec) (w : World) (h : Dsk w base d p fl) :
    Calls Try.prog 29/-f-/ #[.pointer (some ⟨d, 0, none⟩)] w fun e w' => e = .returned (.bool (!p.off)) ∧ w' = w := by
  obtain ⟨b, D, h1, h2, h3⟩ := h
  obtain ⟨c0, c1, c2, c3, c4, c5, hf, hlt⟩ := blk6 h2
  clear h2 h3 hf c1 c2 c3 c4 c5
  go_enter Try.func29, Try.ntmps29
  go_wp2
  go_ret
  exact ⟨rfl, rfl⟩
set_option maxRecDepth 100000 in
set_option maxHeartbeats 4000000 in
theorem uses_any (base d : Nat) (p : Pw) (fl : List FRec) (w : World) (h : Dsk w base d p fl) :
    Calls Try.prog 30/-f-/ #[.pointer (some ⟨d, 0, none⟩)] w fun e w' => e = .returned (.int .i64 p.uses) ∧ w' = w := by
  obtain ⟨b, D, h1, h2, h3⟩ := h
  obtain ⟨c0, c1, c2, c3, c4, c5, hf, hlt⟩ := blk6 h2
  clear h2 h3 hf c0 c1 c2 c4 c5
  go_enter Try.func30, Try.ntmps30
  go_wp2
  go_ret
  exact ⟨rfl, rfl⟩
/-- How many of a file's bytes are kept. -/
def keptL (fl : List FRec) (nm : List UInt8) : Nat := ((fget fl nm).map fun f => f.kept).getD 0
set_option maxRecDepth 100000 in
set_option maxHeartbeats 4000000 in
theorem kept_any (base d : Nat) (p : Pw) (fl : List FRec) (s : ByteArray) (w : World) (h : Dsk w base d p fl) (hs : s.size ≤ maxLen) :
    Calls Try.prog 32/-f-/ #[.pointer (some ⟨d, 0, none⟩), .string s] w fun e w' => e = .returned (.int .i64 (keptL fl s.data.toList)) ∧ w' = w := by
  obtain ⟨b, D, h0, hB, h⟩ := h
  obtain ⟨c0, c1, c2, c3, c4, c5, hf, hlt⟩ := blk6 hB
  rcases h.look s hs with ⟨h1, _, hl⟩ | ⟨f, g, A, c, h1, _, ⟨_, h3, _⟩, hl⟩
  · have HD := Lib.hid (show keptL fl s.data.toList = 0 from by simp [keptL, h1])
    clear h1 c0 c1 c2 c3 c4 hf h
    go_enter Try.func32, Try.ntmps32
    go_wp2
    go_ret
    exact ⟨ret_int (by rw [HD.out]; rfl), rfl⟩
  · have HD := Lib.hid (show keptL fl s.data.toList = f.kept from by simp [keptL, h1])
    obtain ⟨d0, d1, e0, e1, hlg⟩ := blk2 h3
    clear h1 h3 c0 c1 c2 c3 c4 hf h e0 e1 d0
    go_enter Try.func32, Try.ntmps32
    go_wp2
    go_ret
    exact ⟨ret_int (by rw [HD.out]), rfl⟩
/-- What Read answers, and a file's bytes. -/
def readE (p : Pw) (fl : List FRec) (nm : List UInt8) : Int := if p.off then 7 else if fget fl nm = none then 8 else 0
def readT (p : Pw) (fl : List FRec) (nm : List UInt8) : List UInt8 := if p.off then [] else ((fget fl nm).map fun f => f.dat).getD []
set_option maxRecDepth 100000 in
set_option maxHeartbeats 4000000 in
theorem read_any (base d : Nat) (p : Pw) (fl : List FRec) (s : ByteArray) (w : World) (h : Dsk w base d p fl) (hs : s.size ≤ maxLen) :
    Calls Try.prog 25/-f-/ #[.pointer (some ⟨d, 0, none⟩), .string s] w fun e w' => e = .returned (.tuple #[.string ⟨(readT p fl s.data.toList).toArray⟩, .int .i64 (readE p fl s.data.toList)]) ∧ w' = w := by
  have ON := Lib.hid (on_any base d p fl w h)
  obtain ⟨b, D, h0, hB, h⟩ := h
  obtain ⟨c0, c1, c2, c3, c4, c5, hf, hlt⟩ := blk6 hB
  cases ho : p.off with
  | true =>
    have HD := Lib.hid (show readE p fl s.data.toList = 7 ∧ readT p fl s.data.toList = [] from by simp [readE, readT, ho])
    rw [ho] at ON
    clear c0 c1 c2 c3 c4 hf h hB ho
    go_enter Try.func25, Try.ntmps25
    go_wp2_with (go_at_call 29/-f-/; (with_reducible refine ON.out.mono ?_); rintro e w1 ⟨rfl, rfl⟩)
    go_ret2
    exact ⟨ret_si (by rw [HD.out.2]) (by rw [HD.out.1]), rfl⟩
  | false =>
    rcases h.look s hs with ⟨h1, _, hl⟩ | ⟨f, g, A, c, h1, _, ⟨_, h3, h4⟩, hl⟩
    · have HD := Lib.hid (show readE p fl s.data.toList = 8 ∧ readT p fl s.data.toList = [] from by simp [readE, readT, ho, h1])
      rw [ho] at ON
      clear h1 c0 c1 c2 c3 c4 hf h hB ho
      go_enter Try.func25, Try.ntmps25
      go_wp2_with (go_at_call 29/-f-/; (with_reducible refine ON.out.mono ?_); rintro e w1 ⟨rfl, rfl⟩)
      go_ret2
      exact ⟨ret_si (by rw [HD.out.2]) (by rw [HD.out.1]), rfl⟩
    · have HD := Lib.hid (show readE p fl s.data.toList = 0 ∧ readT p fl s.data.toList = f.dat from by simp [readE, readT, ho, h1])
      obtain ⟨d0, d1, e0, e1, hlg⟩ := blk2 h3
      have hcv := h4.conv
      rw [ho] at ON
      clear h1 h3 h4 c0 c1 c2 c3 c4 hf h hB ho e0 e1 d1
      go_enter Try.func25, Try.ntmps25
      go_wp2_with (go_at_call 29/-f-/; (with_reducible refine ON.out.mono ?_); rintro e w1 ⟨rfl, rfl⟩)
      go_ret2
      exact ⟨ret_si (by rw [HD.out.2]) (by rw [HD.out.1]), rfl⟩
end Go.Proofs.Ytlhfamdandpkgaa
