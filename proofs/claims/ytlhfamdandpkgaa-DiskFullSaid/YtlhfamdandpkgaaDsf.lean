/- Contracts of package disk: room, look-ups, a new disk. -/
import Derived.Test.YtlhfamdandpkgaaDse
import Derived.Lib.AppendStr
namespace Go.Proofs.Ytlhfamdandpkgaa
open Go.ChangeShapes Go.WideShapes Go.ChangeAt Go.RowKit Go.Maps
section
variable {w w' : World} {base b : Nat} {D : DataW Unit} {fl : List FRec}
/-- What a look-up of a name gives. -/
theorem Fls.look (h : Fls w base b D fl) (s : ByteArray) (hs : s.size ≤ maxLen) :
    (fget fl s.data.toList = none ∧ fAt D s.data.toList = none ∧ (Instr.lookup 63 (.map (some b)) (.string s) false).run Try.prog w = .ok (.pointer none) w) ∨
    ∃ f g A c, fget fl s.data.toList = some f ∧ fAt D s.data.toList = some g ∧ Fil w base g (.slice A f.dat.length c) f.dat f.kept ∧ (Instr.lookup 63 (.map (some b)) (.string s) false).run Try.prog w = .ok (.pointer (some ⟨g, 0, none⟩)) w := by
  have hl := ptr_look (t := 63) h.own Try.underlying9 Try.underlying63 (zeroF w) s hs
  cases hf : fget fl s.data.toList with
  | none =>
    have hn := (h.none_iff s.data.toList).2 hf
    rw [hn] at hl
    exact .inl ⟨rfl, hn, hl⟩
  | some f =>
    obtain ⟨g, v, hg, hfil⟩ := h.get hf
    obtain ⟨A, c, rfl⟩ := own_slice hfil.2.2
    rw [hg] at hl
    exact .inr ⟨f, g, A, c, rfl, hg, hfil, hl⟩
end
/-- A disk's room is what New lets be. -/
def Roo (p : Pw) : Prop := 0 ≤ p.room ∧ p.room ≤ 16777216
theorem useP_room (p : Pw) : (useP p).2.room = p.room := by
  unfold useP
  split
  · rfl
  · split
    · split <;> rfl
    · rfl
set_option maxRecDepth 100000 in
set_option maxHeartbeats 4000000 in
theorem size_any (base d b : Nat) (D : DataW Unit) (p : Pw) (fl : List FRec) (s : ByteArray) (w : World) (hB : Blk w d 67 (p.cells b)) (h : Fls w base b D fl) (hs : s.size ≤ maxLen) :
    Calls Try.prog 43/-f-/ #[.pointer (some ⟨d, 0, none⟩), .string s] w fun e w' => e = .returned (.int .i64 (datL fl s.data.toList)) ∧ w' = w := by
  obtain ⟨c0, c1, c2, c3, c4, c5, hf, hlt⟩ := blk6 hB
  rcases h.look s hs with ⟨h1, _, hl⟩ | ⟨f, g, A, c, h1, _, ⟨_, h3, _⟩, hl⟩
  · have HD := Lib.hid (show datL fl s.data.toList = 0 from by simp [datL, h1])
    clear h1 c0 c1 c2 c3 c4 hf h
    go_enter Try.func43, Try.ntmps43
    go_wp2
    go_ret
    exact ⟨ret_int (by rw [HD.out]; rfl), rfl⟩
  · have HD := Lib.hid (show datL fl s.data.toList = f.dat.length from by simp [datL, h1])
    obtain ⟨d0, d1, e0, e1, hlg⟩ := blk2 h3
    clear h1 h3 c0 c1 c2 c3 c4 hf h e0 e1 d1
    go_enter Try.func43, Try.ntmps43
    go_wp2
    go_ret
    exact ⟨ret_int (by rw [HD.out]), rfl⟩
set_option maxRecDepth 100000 in
set_option maxHeartbeats 4000000 in
theorem free_any (base d : Nat) (p : Pw) (fl : List FRec) (w : World) (h : Dsk w base d p fl) (hr : Roo p) :
    Calls Try.prog 31/-f-/ #[.pointer (some ⟨d, 0, none⟩)] w fun e w' => e = .returned (.int .i64 (p.room - usedF fl)) ∧ Below w.heap.size w w' := by
  have HU := fun W (hW : Below w.heap.size w W) => used_any base d p fl W (h.below hW)
  have hd := h.size
  obtain ⟨b, D, h1, h2, h3⟩ := h
  obtain ⟨c0, c1, c2, c3, c4, c5, hf, hlt⟩ := blk6 h2
  have hu := used_le h3
  obtain ⟨hr0, hr1⟩ := hr
  have hwr : wrap64 (p.room - usedF fl) = p.room - usedF fl := by exact IntWalk.wrap64_in _ (by omega)
  have hwr2 := (IntWalk.i64_left (p.room - usedF fl)).trans hwr
  have HX := Lib.hid HU
  clear HU c0 c1 c2 c3 c5 hf h2 h3 h1
  go_enter Try.func31, Try.ntmps31
  go_upto_region 3 with (fail)
  go_region_held3 (fun W => W.cell? ⟨d, 4, none⟩ = some (.int .i64 p.room))
    (first | exact c4 | exact y4)
    (first
      | (go_at_call 26/-f-/; (with_reducible refine (HX.out _ (Below.refl _ _).drew).mono ?_); rintro e w2 ⟨rfl, hb⟩; have H2 := Lib.hid (show Below w.heap.size w w2 from (Below.refl _ _).drew.trans hb); have y4 := (hb.cell (p := ⟨d, 4, none⟩) hlt).trans c4; clear hb))
  all_goals
    go_wp2
    refine bodyPost_ret (v := .int .i64 (p.room - usedF fl)) (by simp [results, Try.results31, go_sem, hwr2]) rfl ⟨rfl, ?_⟩
    exact H2.out
/-- What a file of a name, of some bytes, some of them new, is answered. -/
def fitE (p : Pw) (fl : List FRec) (nm : List UInt8) (size more : Int) : Int :=
  if 1048576 < size ∨ (fget fl nm = none ∧ 100 ≤ fl.length) then 5 else if p.room - usedF fl < more then 6 else 0
set_option maxRecDepth 100000 in
set_option maxHeartbeats 8000000 in
theorem fits_any (base d : Nat) (p : Pw) (fl : List FRec) (s : ByteArray) (size more : Int) (w : World) (h : Dsk w base d p fl) (hr : Roo p) (hs : s.size ≤ maxLen) :
    Calls Try.prog 42/-f-/ #[.pointer (some ⟨d, 0, none⟩), .string s, .int .i64 size, .int .i64 more] w fun e w' => e = .returned (.int .i64 (fitE p fl s.data.toList size more)) ∧ Below w.heap.size w w' := by
  have HX := Lib.hid (free_any base d p fl w h hr)
  obtain ⟨b, D, h1, h2, h3⟩ := h
  obtain ⟨c0, c1, c2, c3, c4, c5, hf, hlt⟩ := blk6 h2
  have hlen := h3.len
  have hl100 := h3.lens
  have hmap := h3.own
  have hln := fun ty => hmap.len (t := 63) Try.underlying63 ty
  have hE : ∀ x, x = fitE p fl s.data.toList size more → fitE p fl s.data.toList size more = x := fun x h => h.symm
  by_cases hz : (1048576 : Int) < size
  · have HE := Lib.hid (show fitE p fl s.data.toList size more = 5 from if_pos (.inl hz))
    clear hE c0 c1 c2 c3 c4 hf h2 h3 h1 hmap hln
    go_enter Try.func42, Try.ntmps42
    go_wp2
    go_ret
    exact ⟨ret_int (by rw [HE.out]), Below.refl _ _⟩
  · rcases h3.look s hs with ⟨g1, _, hl⟩ | ⟨f, g, A, c, g1, _, ⟨_, g3, _⟩, hl⟩
    · by_cases hn : 100 ≤ fl.length
      · have HE := Lib.hid (show fitE p fl s.data.toList size more = 5 from if_pos (.inr ⟨g1, hn⟩))
        have hni : (100 : Int) ≤ ((Maps.size D : Nat) : Int) := by omega
        clear hE c0 c1 c2 c3 c4 hf h2 h3 h1 g1 hmap hlen
        go_enter Try.func42, Try.ntmps42
        go_wp2
        go_ret
        exact ⟨ret_int (by rw [HE.out]), Below.refl _ _⟩
      · have HE := Lib.hid (show fitE p fl s.data.toList size more = if p.room - usedF fl < more then 6 else 0 from if_neg (by rintro (h | ⟨_, h⟩); exact hz h; exact hn h))
        have hni : ¬ (100 : Int) ≤ ((Maps.size D : Nat) : Int) := by omega
        clear hE c0 c1 c2 c3 c4 hf h2 h3 h1 g1 hmap hlen hn
        by_cases hm : p.room - usedF fl < more
        · have HE2 := Lib.hid (HE.out.trans (if_pos hm))
          clear HE
          go_enter Try.func42, Try.ntmps42
          go_wp2_with (go_at_call 31/-f-/; (with_reducible refine HX.out.mono ?_); rintro e w1 ⟨rfl, hb⟩; have H2 := Lib.hid hb; clear hb)
          go_ret
          exact ⟨ret_int (by rw [HE2.out]), H2.out⟩
        · have HE2 := Lib.hid (HE.out.trans (if_neg hm))
          clear HE
          go_enter Try.func42, Try.ntmps42
          go_wp2_with (go_at_call 31/-f-/; (with_reducible refine HX.out.mono ?_); rintro e w1 ⟨rfl, hb⟩; have H2 := Lib.hid hb; clear hb)
          go_ret
          exact ⟨ret_int (by rw [HE2.out]), H2.out⟩
    · have HE := Lib.hid (show fitE p fl s.data.toList size more = if p.room - usedF fl < more then 6 else 0 from if_neg (by rw [g1]; rintro (h | ⟨h, _⟩); exact hz h; cases h))
      clear hE c0 c1 c2 c3 c4 hf h2 h3 h1 g3 g1 hmap hln
      by_cases hm : p.room - usedF fl < more
      · have HE2 := Lib.hid (HE.out.trans (if_pos hm))
        clear HE
        go_enter Try.func42, Try.ntmps42
        go_wp2_with (go_at_call 31/-f-/; (with_reducible refine HX.out.mono ?_); rintro e w1 ⟨rfl, hb⟩; have H2 := Lib.hid hb; clear hb)
        go_ret
        exact ⟨ret_int (by rw [HE2.out]), H2.out⟩
      · have HE2 := Lib.hid (HE.out.trans (if_neg hm))
        clear HE
        go_enter Try.func42, Try.ntmps42
        go_wp2_with (go_at_call 31/-f-/; (with_reducible refine HX.out.mono ?_); rintro e w1 ⟨rfl, hb⟩; have H2 := Lib.hid hb; clear hb)
        go_ret
        exact ⟨ret_int (by rw [HE2.out]), H2.out⟩
end Go.Proofs.Ytlhfamdandpkgaa
