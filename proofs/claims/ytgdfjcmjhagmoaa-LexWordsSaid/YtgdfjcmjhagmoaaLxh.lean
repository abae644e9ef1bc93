/- Contracts of package lex: texts. -/
import Derived.Test.YtgdfjcmjhagmoaaLxe
import Derived.Test.YtgdfjcmjhagmoaaLxg
namespace Go.Proofs.Ytgdfjcmjhagmoaa
open Go.ChangeShapes Go.WideShapes Go.ChangeAt Go.RowKit
theorem txt_nl (r : List UInt8) : txt (10 :: r) = none := by
  cases r with
  | nil => rfl
  | cons d t => rfl
theorem txt_plain (c : UInt8) (r : List UInt8) (h1 : (c == 10) = false) (h2 : (c == 39) = false) : txt (c :: r) = (txt r).map fun x => (c :: x.1, x.2 + 1) := by
  cases r with
  | nil => simp [txt, h2]
  | cons d t => rw [txt]; simp [h1, h2]
theorem txt_two (r : List UInt8) : txt (39 :: 39 :: r) = (txt r).map fun x => (39 :: x.1, x.2 + 2) := by rw [txt]; simp
theorem txt_end (r : List UInt8) (h : r.head? ≠ some 39) : txt (39 :: r) = some ([], 1) := by
  cases r with
  | nil => rfl
  | cons d t =>
    have h2 : (d == 39) = false := by simpa using h
    rw [txt]; simp [h2]
theorem bat_keep {T e : TypeId} {B b : Nat} {p : Value} {bs : List Value} {w w' : World} (h : Lib.BuilderAt T e B b p bs w) (hb : Below w.heap.size w w') : Lib.BuilderAt T e B b p bs w' := by
  have hlt := h.lt
  obtain ⟨h1, v, h2, h3, h4⟩ := h
  exact ⟨h1, v, (hb.block b hlt).trans h2, (Off.of (S := fun _ => False) hb).own h3 (fun _ _ h => h), h4⟩
theorem bis_keep {T e : TypeId} {B b : Nat} {bs : List Value} {w w' : World} (h : Lib.IsBuilder T e B b bs w) (hb : Below w.heap.size w w') : Lib.IsBuilder T e B b bs w' :=
  h.elim (fun h => .inl (bat_keep h hb)) (fun h => .inr (bat_keep h hb))
/-- What a text's word is of what the text is behind its first quote. -/
def txR (R : Option (List UInt8 × Nat)) : Option (Wd × Nat) := R.bind fun x => if 200 < x.1.length then none else some (⟨2, ⟨x.1.toArray⟩, 0, 0⟩, x.2 + 1)
theorem txtW_eq (l : List UInt8) : txtW l = txR (txt (l.drop 1)) := by rw [List.drop_one]; rfl
def w4 (w : World) : World := w.alloc (.cells #[.int .i64 0, .string ⟨#[]⟩, .int .i64 0, .int .i64 0] 35)
theorem w4_size (w : World) : (w4 w).heap.size = w.heap.size + 1 := by simp [w4]
theorem cells_one (out : List UInt8) (c : UInt8) : Lib.byteCells (out ++ [c]) = Lib.byteCells out ++ [.int .u8 c.toNat] := by
  rw [Lib.byteCells_append]; rfl
set_option maxRecDepth 100000 in
set_option maxHeartbeats 8000000 in
theorem text_any (s : ByteArray) (w : World) (hs : s.size ≤ 1000000) (h0 : 0 < s.size) :
    Calls Try.prog 33/-f-/ #[.string s] w fun e w' => e = .returned (fstV (txtW s.data.toList)) ∧ Below w.heap.size w w' := by
  have HRES' := txtW_eq s.data.toList
  generalize txtW s.data.toList = res at *
  obtain ⟨R, hR⟩ : ∃ R, R = txt (s.data.toList.drop 1) := ⟨_, rfl⟩
  rw [← hR] at HRES'
  have HRES := Lib.hid HRES'
  have HR := Lib.hid hR
  clear hR HRES'
  have BEL := Lib.hid (fun (wr : World) (h : Below (w.heap.size + 1) (w4 w) wr) => (show Below w.heap.size w wr from ((Below.refl _ _).alloc (Nat.le_refl _) _).trans (h.mono (by omega))))
  have SZ := Lib.hid (fun (wr : World) (h : Below (w.heap.size + 1) (w4 w) wr) => (show w.heap.size + 1 ≤ wr.heap.size from by have := h.size; rw [w4_size] at this; exact this))
  have BK := Lib.hid (fun (wr : World) (h : Below (w.heap.size + 1) (w4 w) wr) => (show Blk wr w.heap.size 35 #[.int .i64 0, .string ⟨#[]⟩, .int .i64 0, .int .i64 0] from Blk.below (w := w4 w) (Blk.new w 35 _) h (by omega)))
  go_enter Try.func33, Try.ntmps33
  go_wp2
  go_loopw [5] (fun i wr => ∃ (k : Nat) (out : List UInt8), 1 ≤ k ∧ k ≤ s.size ∧ out.length < k ∧ i = .int .i64 k ∧ Hid (Below (w.heap.size + 1) (w4 w) wr) ∧ Hid (Lib.IsBuilder 79 5 (w.heap.size + 1) (w.heap.size + 1) (Lib.byteCells out) wr) ∧ Hid (R = (txt (s.data.toList.drop k)).map fun x => (out ++ x.1, x.2 + (k - 1)))) (fun i _ => s.size - (intOf i).toNat)
  case atStart => exact ⟨1, [], Nat.le_refl _, h0, by decide, rfl, Lib.hid ((Below.refl _ _).alloc (by rw [w4_size]; omega) _), Lib.hid (by have := Lib.fresh_isBuilder 79 5 (w4 w); rw [w4_size] at this; exact this), Lib.hid (by rw [HR.out]; simp)⟩
  case round =>
    obtain ⟨k, out, h1k, hk, hok, rfl, hbl, hbd, heq⟩ := hrel
    have hsz := SZ.out _ hbl.out
    have hcl : (Lib.byteCells out).length = out.length := Lib.byteCells_length out
    obtain ⟨c0, c1, c2, c3, f0, f1, f2, f3, hlw⟩ := blk4 (BK.out _ hbl.out)
    have NONE : R = none → Hid (res = none) := fun h => Lib.hid (by rw [HRES.out, h]; rfl)
    by_cases hlt : k < s.size
    · have HD := Lib.hid (drop_at s k hlt)
      obtain ⟨c, hc⟩ : ∃ c, c = s[k] := ⟨_, rfl⟩
      rw [← hc] at HD
      obtain ⟨b1, hb1⟩ : ∃ b, b = (c == 10) := ⟨_, rfl⟩
      obtain ⟨b2, hb2⟩ : ∃ b, b = (c == 39) := ⟨_, rfl⟩
      have e1 : ((s[k].toNat : Int) == 10) = b1 := by rw [hb1, ← hc]; exact byte_eq c 10 (by decide)
      have e2 : ((s[k].toNat : Int) == 39) = b2 := by rw [hb2, ← hc]; exact byte_eq c 39 (by decide)
      have e3 : ((s[k].toNat : Int) != 10) = !b1 := by rw [bne, e1]
      have e4 : ((s[k].toNat : Int) != 39) = !b2 := by rw [bne, e2]
      cases b1 with
      | true =>
        have HX := NONE (by
          rw [heq.out, HD.out, show c = 10 from by simpa using hb1.symm, txt_nl]; rfl)
        clear NONE hb1 hb2 hc
        go_wp2
        rw [HX.out]
        exact bodyPost_ret (v := .tuple #[.agg #[.int .i64 0, .string ⟨#[]⟩, .int .i64 0, .int .i64 0], .int .i64 0]) (by simp [results, Try.results33, go_sem, c0, c1, c2, c3]) rfl ⟨rfl, ((((BEL.out _ hbl.out).setCell (Nat.le_refl _) _).setCell (Nat.le_refl _) _).setCell (Nat.le_refl _) _).setCell (Nat.le_refl _) _⟩
      | false =>
      cases b2 with
      | false =>
        have HY := Lib.hid (show R = (txt (s.data.toList.drop (k + 1))).map fun x => ((out ++ [c]) ++ x.1, x.2 + (k + 1 - 1)) from by
          rw [heq.out, HD.out, txt_plain _ _ hb1.symm hb2.symm, Option.map_map]
          congr 1
          funext x
          simp
          omega)
        have HC := Lib.hid hc
        clear NONE hb1 hb2 hc
        go_wp2_with (go_at_call 42/-f-/; (with_reducible refine (wbyte_any (w.heap.size + 1) (w.heap.size + 1) _ _ _ hbd.out (by omega) hsz).mono ?_); rintro e w2 ⟨rfl, hd2, hb2, hk2⟩; have HB2 := Lib.hid (hbl.out.trans hb2); have HD2 := Lib.hid hd2; clear hd2 hb2 hk2)
        go_roundw
        case rel => exact ⟨k + 1, out ++ [c], by omega, hlt, by simp; omega, by go_num, HB2, Lib.hid (by rw [cells_one, HC.out]; exact HD2.out), HY⟩
        case measure => simp [intOf]; omega
      | true =>
      have hc39 : c = 39 := by simpa using hb2.symm
      subst hc39
      by_cases hn : k + 1 < s.size ∧ (s.data.toList.drop (k + 1)).head? = some 39
      · obtain ⟨hn1, hn2⟩ := hn
        have hd2 := drop_at s (k + 1) hn1
        have h39 : s[k + 1] = 39 := by rw [hd2] at hn2; simpa using hn2
        have HY := Lib.hid (show R = (txt (s.data.toList.drop (k + 2))).map fun x => ((out ++ [39]) ++ x.1, x.2 + (k + 2 - 1)) from by
          rw [heq.out, HD.out, hd2, h39, txt_two, Option.map_map]
          congr 1
          funext x
          simp
          omega)
        have e5 : ((s[k + 1].toNat : Int) == 39) = true := by rw [h39]; rfl
        clear NONE hb1 hb2 hc hn2 hd2 h39
        go_wp2_with (go_at_call 42/-f-/; (with_reducible refine (wbyte_any (w.heap.size + 1) (w.heap.size + 1) _ _ _ hbd.out (by omega) hsz).mono ?_); rintro e w2 ⟨rfl, hd2, hb2, hk2⟩; have HB2 := Lib.hid (hbl.out.trans hb2); have HD2 := Lib.hid hd2; clear hd2 hb2 hk2)
        go_roundw
        case rel => exact ⟨k + 2, out ++ [39], by omega, hn1, by simp; omega, by go_num, HB2, Lib.hid (by rw [cells_one]; exact HD2.out), HY⟩
        case measure => simp [intOf]; omega
      · have hR : R = some (out, k) := by
          have hne : (s.data.toList.drop (k + 1)).head? ≠ some 39 := fun h => by
            rcases Nat.lt_or_ge (k + 1) s.size with h2 | h2
            · exact hn ⟨h2, h⟩
            · rw [List.drop_eq_nil_of_le (by show s.data.size ≤ _; exact h2)] at h; cases h
          rw [heq.out, HD.out, txt_end _ hne]
          simp
          omega
        have HL := Lib.hid (fun W (h : Lib.IsBuilder 79 5 (w.heap.size + 1) (w.heap.size + 1) (Lib.byteCells out) W) => Try.Builder_Len (w.heap.size + 1) (w.heap.size + 1) (Lib.byteCells out) W h)
        have HS := Lib.hid (fun W (h : Lib.IsBuilder 79 5 (w.heap.size + 1) (w.heap.size + 1) (Lib.byteCells out) W) => Try.Builder_String_any (w.heap.size + 1) (w.heap.size + 1) out W h)
        have hnx : k + 1 < s.size → Hid (∀ h : k + 1 < s.size, ((s[k + 1].toNat : Int) == 39) = false) := fun hn1 => Lib.hid (fun h => by
          have : s[k + 1] ≠ 39 := fun e => hn ⟨hn1, by rw [drop_at s (k + 1) hn1, e]; rfl⟩
          rw [show ((39 : Int)) = ((39 : Nat) : Int) from rfl, byte_eq _ 39 (by decide)]
          exact beq_eq_false_iff_ne.2 this)
        clear hb1 hb2 hc hn
        by_cases h200 : (200 : Int) < ((Lib.byteCells out).length : Int)
        · have HX : Hid (res = none) := Lib.hid (by rw [HRES.out, hR]; show (if 200 < out.length then none else _) = _; rw [if_pos (by omega)])
          clear NONE hR
          by_cases hn1 : k + 1 < s.size
          · have e5 := (hnx hn1).out hn1
            clear hnx
            go_wp2_with (go_at_call 43/-f-/; (with_reducible refine (HL.out _ hbd.out).mono ?_); rintro e w2 ⟨rfl, rfl⟩)
            rw [HX.out]
            exact bodyPost_ret (v := .tuple #[.agg #[.int .i64 0, .string ⟨#[]⟩, .int .i64 0, .int .i64 0], .int .i64 0]) (by simp [results, Try.results33, go_sem, c0, c1, c2, c3]) rfl ⟨rfl, ((((BEL.out _ hbl.out).setCell (Nat.le_refl _) _).setCell (Nat.le_refl _) _).setCell (Nat.le_refl _) _).setCell (Nat.le_refl _) _⟩
          · clear hnx
            go_wp2_with (go_at_call 43/-f-/; (with_reducible refine (HL.out _ hbd.out).mono ?_); rintro e w2 ⟨rfl, rfl⟩)
            rw [HX.out]
            exact bodyPost_ret (v := .tuple #[.agg #[.int .i64 0, .string ⟨#[]⟩, .int .i64 0, .int .i64 0], .int .i64 0]) (by simp [results, Try.results33, go_sem, c0, c1, c2, c3]) rfl ⟨rfl, ((((BEL.out _ hbl.out).setCell (Nat.le_refl _) _).setCell (Nat.le_refl _) _).setCell (Nat.le_refl _) _).setCell (Nat.le_refl _) _⟩
        · have HX : Hid (res = some (⟨2, ⟨out.toArray⟩, 0, 0⟩, k + 1)) := Lib.hid (by rw [HRES.out, hR]; show (if 200 < out.length then none else _) = _; rw [if_neg (by omega)])
          clear NONE hR
          by_cases hn1 : k + 1 < s.size
          · have e5 := (hnx hn1).out hn1
            clear hnx
            go_wp2_with (first
              | (go_at_call 43/-f-/; (with_reducible refine (HL.out _ hbd.out).mono ?_); rintro e w2 ⟨rfl, rfl⟩)
              | (go_at_call 44/-f-/; (with_reducible refine (HS.out _ hbd.out hsz).mono ?_); rintro e w2 ⟨rfl, hb2⟩; have HB2 := Lib.hid (hbl.out.trans hb2); clear hb2; clear c0 c1 c2 c3 f0 f1 f2 f3 hlw; obtain ⟨c0, c1, c2, c3, f0, f1, f2, f3, hlw⟩ := blk4 (BK.out _ HB2.out)))
            rw [HX.out]
            exact bodyPost_ret (v := .tuple #[.agg #[.int .i64 2, .string ⟨out.toArray⟩, .int .i64 0, .int .i64 0], .int .i64 (k + 1 : Nat)]) (by simp [results, Try.results33, go_sem, c0, c1, c2, c3]) rfl ⟨rfl, ((((BEL.out _ HB2.out).setCell (Nat.le_refl _) _).setCell (Nat.le_refl _) _).setCell (Nat.le_refl _) _).setCell (Nat.le_refl _) _⟩
          · clear hnx
            go_wp2_with (first
              | (go_at_call 43/-f-/; (with_reducible refine (HL.out _ hbd.out).mono ?_); rintro e w2 ⟨rfl, rfl⟩)
              | (go_at_call 44/-f-/; (with_reducible refine (HS.out _ hbd.out hsz).mono ?_); rintro e w2 ⟨rfl, hb2⟩; have HB2 := Lib.hid (hbl.out.trans hb2); clear hb2; clear c0 c1 c2 c3 f0 f1 f2 f3 hlw; obtain ⟨c0, c1, c2, c3, f0, f1, f2, f3, hlw⟩ := blk4 (BK.out _ HB2.out)))
            rw [HX.out]
            exact bodyPost_ret (v := .tuple #[.agg #[.int .i64 2, .string ⟨out.toArray⟩, .int .i64 0, .int .i64 0], .int .i64 (k + 1 : Nat)]) (by simp [results, Try.results33, go_sem, c0, c1, c2, c3]) rfl ⟨rfl, ((((BEL.out _ HB2.out).setCell (Nat.le_refl _) _).setCell (Nat.le_refl _) _).setCell (Nat.le_refl _) _).setCell (Nat.le_refl _) _⟩
    · have hkl : k = s.size := by omega
      have HX := NONE (by rw [heq.out, hkl, drop_end]; rfl)
      clear NONE
      subst hkl
      go_wp2
      rw [HX.out]
      exact bodyPost_ret (v := .tuple #[.agg #[.int .i64 0, .string ⟨#[]⟩, .int .i64 0, .int .i64 0], .int .i64 0]) (by simp [results, Try.results33, go_sem, c0, c1, c2, c3]) rfl ⟨rfl, ((((BEL.out _ hbl.out).setCell (Nat.le_refl _) _).setCell (Nat.le_refl _) _).setCell (Nat.le_refl _) _).setCell (Nat.le_refl _) _⟩
end Go.Proofs.Ytgdfjcmjhagmoaa
