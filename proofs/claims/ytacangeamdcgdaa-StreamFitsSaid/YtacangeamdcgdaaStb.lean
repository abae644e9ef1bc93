/- Contracts of package stream: what a border answers; what is awake. -/
import Derived.Test.YtacangeamdcgdaaSta
namespace Go.Proofs.Ytacangeamdcgdaa
open Go.ChangeShapes Go.WideShapes Go.ChangeAt Go.RowKit Go.Deep
/-- What Check answers: whether the rows fit, the batch's id, the mark. -/
def chk (q : Bool) (i m : Int) : Int := if q = false then 13 else if i < 1 then 1 else if i ≤ m then 9 else if m < i - 1 then 10 else 0
set_option maxRecDepth 100000 in
set_option maxHeartbeats 8000000 in
theorem bcheck_any (g : Nat) (nm : ByteArray) (cs : List Col) (m i : Int) (R : Option Addr) (n2 c2 : Nat) (q : Bool) (w : World) (hB : Bord w g nm cs m) (hi : -9223372036854775808 ≤ i ∧ i ≤ 9223372036854775807) (hm : 0 ≤ m ∧ m ≤ 9223372036854775807)
    (F : ∀ B d W, Below w.heap.size w W → Cols W B cs → cs.length ≤ d → Calls Try.prog 25/-f-/ #[.slice B cs.length d, .slice R n2 c2] W fun e w' => e = .returned (.bool q) ∧ Below W.heap.size W w') :
    Calls Try.prog 16/-f-/ #[.pointer (some ⟨g, 0, none⟩), .agg #[.int .i64 i, .slice R n2 c2]] w fun e w' => e = .returned (.int .i64 (chk q i m)) ∧ Below w.heap.size w w' := by
  obtain ⟨B, d, hblk, hcol, hcd, hfar⟩ := hB
  have hgl := hblk.lt
  have b1 := below_alloc w (.cells #[.int .i64 i, .slice R n2 c2] 38)
  have HF := Lib.hid (F B d (w.alloc (.cells #[.int .i64 i, .slice R n2 c2] 38)).drew b1.drew ((hcol.keep b1).keep (Below.refl _ _).drew) hcd)
  have HK1 := Lib.hid (hblk.below b1 hgl)
  have HN1 := Lib.hid (Blk.new w 38 #[.int .i64 i, .slice R n2 c2])
  have HB1 := Lib.hid b1
  obtain ⟨c0, c1, c2', f0, f1, f2, l1⟩ := blk3 HK1.out
  obtain ⟨d0, d1, g0, g1, l2⟩ := blk2 HN1.out
  have hgN : g ≠ w.heap.size := by omega
  obtain ⟨r, hr⟩ : ∃ r, r = chk q i m := ⟨_, rfl⟩
  rw [← hr]
  have HR := Lib.hid hr
  clear F hcol hblk b1 hr
  go_enter Try.func16, Try.ntmps16
  go_upto_region 3 with fail
  go_region_held3 (fun W => W.cell? ⟨g, 1, none⟩ = some (.slice B cs.length d) ∧ W.cell? ⟨w.heap.size, 1, none⟩ = some (.slice R n2 c2))
    (first | exact ⟨c1, d1⟩ | (refine ⟨(hb3.cell (p := ⟨g, 1, none⟩) l1).trans c1, (hb3.cell (p := ⟨w.heap.size, 1, none⟩) l2).trans d1⟩))
    (first
      | (go_at_call 25/-f-/; (with_reducible refine HF.out.mono ?_); rintro e w3 ⟨rfl, hb3⟩))
  have hb4 : Below (w.alloc (.cells #[.int .i64 i, .slice R n2 c2] 38)).heap.size (w.alloc (.cells #[.int .i64 i, .slice R n2 c2] 38)) w3 := ⟨hb3.os, hb3.tape, hb3.output, hb3.size, hb3.block⟩
  have HK3 := Lib.hid (HK1.out.below hb4 l1)
  have HN3 := Lib.hid (HN1.out.below hb4 l2)
  have HB3 := Lib.hid (HB1.out.trans (hb4.mono HB1.out.size))
  clear c0 c1 c2' f0 f1 f2 l1 d0 d1 g0 g1 l2 hb3 hb4
  obtain ⟨c0, c1, c2', f0, f1, f2, l1⟩ := blk3 HK3.out
  obtain ⟨d0, d1, g0, g1, l2⟩ := blk2 HN3.out
  cases q with
  | false =>
    go_wp2
    go_ret
    exact ⟨ret_int (by rw [HR.out]; rfl), HB3.out⟩
  | true =>
  by_cases h1 : i < 1
  · have HX := Lib.hid (show r = 1 from by rw [HR.out]; unfold chk; rw [if_neg (by decide), if_pos h1])
    go_wp2
    go_ret
    exact ⟨ret_int (by rw [HX.out]), HB3.out⟩
  by_cases h2 : i ≤ m
  · have HX := Lib.hid (show r = 9 from by rw [HR.out]; unfold chk; rw [if_neg (by decide), if_neg h1, if_pos h2])
    have e2 : decide (i ≤ m) = true := decide_eq_true h2
    go_upto_region 7 with fail
    go_quiet (fail)
    go_wp2
    go_ret
    exact ⟨ret_int (by rw [HX.out]), below_drewN HB3.out _⟩
  have e2 : decide (i ≤ m) = false := decide_eq_false h2
  have hwr : IntKind.i64.wrap (i - 1) = i - 1 := IntWalk.i64_in _ (by omega)
  by_cases h3 : m < i - 1
  · have HX := Lib.hid (show r = 10 from by rw [HR.out]; unfold chk; rw [if_neg (by decide), if_neg h1, if_neg h2, if_pos h3])
    have e3 : decide (m < i - 1) = true := decide_eq_true h3
    go_upto_region 7 with fail
    go_quiet (fail)
    go_upto_region 9 with fail
    go_quiet (fail)
    go_wp2
    go_ret
    exact ⟨ret_int (by rw [HX.out]), below_drewN HB3.out _⟩
  · have HX := Lib.hid (show r = 0 from by rw [HR.out]; unfold chk; rw [if_neg (by decide), if_neg h1, if_neg h2, if_neg h3])
    have e3 : decide (m < i - 1) = false := decide_eq_false h3
    go_upto_region 7 with fail
    go_quiet (fail)
    go_upto_region 9 with fail
    go_quiet (fail)
    go_wp2
    go_ret
    exact ⟨ret_int (by rw [HX.out]), below_drewN HB3.out _⟩
theorem Bord.keep {w w' : World} {g : Nat} {nm : ByteArray} {cs : List Col} {m : Int} (h : Bord w g nm cs m) (hb : Below w.heap.size w w') : Bord w' g nm cs m := by
  obtain ⟨B, d, h1, h2, h3, h4⟩ := h
  exact ⟨B, d, h1.below hb h1.lt, h2.keep hb, h3, h4⟩
theorem Bord.lt {w : World} {g : Nat} {nm : ByteArray} {cs : List Col} {m : Int} (h : Bord w g nm cs m) : g < w.heap.size := by
  obtain ⟨B, d, h1, h2, h3, h4⟩ := h
  exact h1.lt
theorem mark_any (g : Nat) (nm : ByteArray) (cs : List Col) (m : Int) (w : World) (hB : Bord w g nm cs m) :
    Calls Try.prog 17/-f-/ #[.pointer (some ⟨g, 0, none⟩)] w fun e w' => e = .returned (.int .i64 m) ∧ w = w' := by
  obtain ⟨B, d, hblk, hcol, hcd, hfar⟩ := hB
  obtain ⟨c0, c1, c2', f0, f1, f2, l1⟩ := blk3 hblk
  go_enter Try.func17, Try.ntmps17
  go_wp2
  go_ret
  exact ⟨rfl, rfl⟩
/-- A block is not that of columns. -/
theorem cols_put {w : World} {g : Nat} {A : Option Addr} {cs : List Col} {t : TypeId} {xs : Array Value} (h : Cols w A cs) (hne : ∀ b off, A = some ⟨b, off, none⟩ → cs ≠ [] → b ≠ g) (i : Nat) (u : Value) : Cols (w.setCell ⟨g, i, none⟩ u) A cs := by
  rcases h with h | ⟨b, off, h1, h2, h3⟩
  · exact .inl h
  · by_cases h0 : cs = []
    · exact .inl h0
    · have hb := hne b off h1 h0
      refine .inr ⟨b, off, h1, by simpa using h2, fun j hj => ?_⟩
      obtain ⟨a1, a2⟩ := h3 j hj
      have hk := (Off.refl (fun x => x = g) w).put (p := ⟨g, i, none⟩) (fun _ => rfl) u
      exact ⟨(World.cell?_of_block (a := ⟨b, off + j * 2, none⟩) (hk.block b h2 (fun e => hb e))).trans a1, (World.cell?_of_block (a := ⟨b, off + j * 2 + 1, none⟩) (hk.block b h2 (fun e => hb e))).trans a2⟩
theorem Bord.put {w : World} {g : Nat} {nm : ByteArray} {cs : List Col} {m : Int} (h : Bord w g nm cs m) (m' : Int) : Bord (w.setCell ⟨g, 2, none⟩ (.int .i64 m')) g nm cs m' := by
  obtain ⟨B, d, h1, h2, h3, h4⟩ := h
  exact ⟨B, d, h1.put 2 _, cols_put (t := 0) (xs := #[]) h2 h4 2 _, h3, h4⟩
set_option maxRecDepth 100000 in
set_option maxHeartbeats 8000000 in
theorem btake_any (g : Nat) (nm : ByteArray) (cs : List Col) (m i : Int) (R : Option Addr) (n2 c2 : Nat) (q : Bool) (w : World) (hB : Bord w g nm cs m) (hi : -9223372036854775808 ≤ i ∧ i ≤ 9223372036854775807) (hm : 0 ≤ m ∧ m ≤ 9223372036854775807)
    (F : ∀ B d W, Below w.heap.size w W → Cols W B cs → cs.length ≤ d → Calls Try.prog 25/-f-/ #[.slice B cs.length d, .slice R n2 c2] W fun e w' => e = .returned (.bool q) ∧ Below W.heap.size W w') :
    Calls Try.prog 18/-f-/ #[.pointer (some ⟨g, 0, none⟩), .agg #[.int .i64 i, .slice R n2 c2]] w fun e w' => e = .returned (.int .i64 (chk q i m)) ∧ Off (fun x => x = g) w w' ∧ Bord w' g nm cs (if chk q i m = 0 then i else m) := by
  have hgl := hB.lt
  have b1 := below_alloc w (.cells #[.int .i64 i, .slice R n2 c2] 38)
  have C' := bcheck_any g nm cs m i R n2 c2 q (w.alloc (.cells #[.int .i64 i, .slice R n2 c2] 38)) (hB.keep b1) hi hm (fun B d W hb hc hd => F B d W (b1.trans (hb.mono b1.size)) hc hd)
  have HBO := Lib.hid hB
  have BE := Lib.hid (fun (wr : World) (h : Below (w.alloc (.cells #[.int .i64 i, .slice R n2 c2] 38)).heap.size (w.alloc (.cells #[.int .i64 i, .slice R n2 c2] 38)) wr) => (show Blk wr w.heap.size 38 #[.int .i64 i, .slice R n2 c2] ∧ Below w.heap.size w wr from ⟨(Blk.new w 38 #[.int .i64 i, .slice R n2 c2]).below h (by simp), b1.trans (h.mono (by simp))⟩))
  generalize chk q i m = r at *
  have C := Lib.hid C'
  have hgN : g ≠ w.heap.size := by omega
  clear C' F hB b1
  by_cases hr : r = 0
  · subst hr
    rw [if_pos rfl]
    go_enter Try.func18, Try.ntmps18
    go_wp2_with (go_at_call 16/-f-/; (with_reducible refine C.out.mono ?_); rintro e w2 ⟨rfl, hb2⟩; have X := BE.out _ hb2; have HB2 := Lib.hid X.2; obtain ⟨d0, d1, g0, g1, l2⟩ := blk2 X.1; have HO2 := Lib.hid (HBO.out.keep X.2); clear X hb2; obtain ⟨B, d, hblk, _, _, _⟩ := HO2.out; obtain ⟨c0, c1, c2', f0, f1, f2, l1⟩ := blk3 hblk; clear hblk)
    go_ret
    exact ⟨rfl, (Off.of (S := fun x => x = g) HB2.out).put (p := ⟨g, 2, none⟩) (fun _ => rfl) _, HO2.out.put i⟩
  · rw [if_neg hr]
    have hr0 : (r == 0) = false := beq_eq_false_iff_ne.2 hr
    clear hr
    go_enter Try.func18, Try.ntmps18
    go_wp2_with (go_at_call 16/-f-/; (with_reducible refine C.out.mono ?_); rintro e w2 ⟨rfl, hb2⟩; have X := BE.out _ hb2; have HB2 := Lib.hid X.2; obtain ⟨d0, d1, g0, g1, l2⟩ := blk2 X.1; have HO2 := Lib.hid (HBO.out.keep X.2); clear X hb2)
    go_ret
    exact ⟨rfl, Off.of HB2.out, HO2.out⟩
def exC : List Col := [⟨⟨#[97]⟩, 1⟩]
theorem exRight : schB (strS ⟨#[115]⟩ exC) = true := by decide +kernel
theorem exCols (W : World) (N : Nat) (e : W.heap.size = N) : Cols (W.alloc (.cells #[.string ⟨#[97]⟩, .int .i64 1] 78)) (some ⟨N, 0, none⟩) exC := by
  subst e
  refine .inr ⟨W.heap.size, 0, rfl, by simp, fun i hi => ?_⟩
  have : i = 0 := by simp [exC] at hi; omega
  subst this
  refine ⟨?_, ?_⟩ <;> (rw [(Blk.new W 78 _).cell]; rfl)
set_option maxRecDepth 100000 in
set_option maxHeartbeats 8000000 in
theorem awake_any (w : World) : Calls Try.prog 10/-f-/ #[] w fun e w' => e = .returned (.bool true) ∧ Below w.heap.size w w' := by
  have b1 := below_alloc w (.cells #[.string ⟨#[97]⟩, .int .i64 1] 78)
  have NB := Lib.hid (show Calls Try.prog 11/-f-/ #[.agg #[.string ⟨#[115]⟩, .slice (some ⟨w.heap.size, 0, none⟩) 1 1]] (w.alloc (.cells #[.string ⟨#[97]⟩, .int .i64 1] 78)) fun e w' => (∃ g, e = .returned (.tuple #[.pointer (some ⟨g, 0, none⟩), .int .i64 0]) ∧ (w.alloc (.cells #[.string ⟨#[97]⟩, .int .i64 1] 78)).heap.size ≤ g ∧ Bord w' g ⟨#[115]⟩ exC 0) ∧ Below (w.alloc (.cells #[.string ⟨#[97]⟩, .int .i64 1] 78)).heap.size (w.alloc (.cells #[.string ⟨#[97]⟩, .int .i64 1] 78)) w' from newborder_yes ⟨#[115]⟩ (some ⟨w.heap.size, 0, none⟩) 1 exC (w.alloc (.cells #[.string ⟨#[97]⟩, .int .i64 1] 78)) (by decide) (exCols w _ rfl) (by decide) (by decide) (fun x hx => (by
    have hx' : x = ⟨⟨#[97]⟩, 1⟩ := by simpa [exC] using hx
    subst hx'
    exact ⟨by decide, by decide⟩)) exRight)
  have HB1 := Lib.hid b1
  have TK := fun g W m i hB h1 h2 => btake_any g ⟨#[115]⟩ exC m i none 0 0 true W hB h1 h2 (fun B d W _ _ _ => (fits0_any B exC.length d W).mono (by rintro e w' ⟨rfl, rfl⟩; exact ⟨rfl, Below.refl _ _⟩))
  have T10 := Lib.hid (fun g W (hB : Bord W g ⟨#[115]⟩ exC 0) => (show Calls Try.prog 18/-f-/ #[.pointer (some ⟨g, 0, none⟩), .agg #[.int .i64 1, .slice none 0 0]] W fun e w' => e = .returned (.int .i64 0) ∧ Off (fun x => x = g) W w' ∧ Bord w' g ⟨#[115]⟩ exC 1 from TK g W 0 1 hB (by decide) (by decide)))
  have T31 := Lib.hid (fun g W (hB : Bord W g ⟨#[115]⟩ exC 1) => (show Calls Try.prog 18/-f-/ #[.pointer (some ⟨g, 0, none⟩), .agg #[.int .i64 3, .slice none 0 0]] W fun e w' => e = .returned (.int .i64 10) ∧ Off (fun x => x = g) W w' ∧ Bord w' g ⟨#[115]⟩ exC 1 from TK g W 1 3 hB (by decide) (by decide)))
  have T11 := Lib.hid (fun g W (hB : Bord W g ⟨#[115]⟩ exC 1) => (show Calls Try.prog 18/-f-/ #[.pointer (some ⟨g, 0, none⟩), .agg #[.int .i64 1, .slice none 0 0]] W fun e w' => e = .returned (.int .i64 9) ∧ Off (fun x => x = g) W w' ∧ Bord w' g ⟨#[115]⟩ exC 1 from TK g W 1 1 hB (by decide) (by decide)))
  have MK := Lib.hid (fun g W (hB : Bord W g ⟨#[115]⟩ exC 1) => mark_any g ⟨#[115]⟩ exC 1 W hB)
  clear TK b1
  go_enter Try.func10, Try.ntmps10
  go_wp2_with (first
    | (go_at_call 11/-f-/; (with_reducible refine NB.out.mono ?_); rintro e w2 ⟨⟨g, rfl, hgl, hb0⟩, hb2⟩; have HO := Lib.hid hb0; have HB2 := Lib.hid (HB1.out.trans (hb2.mono HB1.out.size)); have hgw : w.heap.size + 1 ≤ g := (by simpa using hgl); clear hb0 hb2 hgl)
    | (go_at_call 18/-f-/; (with_reducible refine (T10.out _ _ HO.out).mono ?_); rintro e w3 ⟨rfl, ho3, hb3⟩; have HO3 := Lib.hid hb3; have HB3 := Lib.hid (HB2.out.trans (ho3.below (B := w.heap.size) (fun x hx (h : x = g) => (by omega)) HB2.out.size)); clear ho3 hb3)
    | (go_at_call 18/-f-/; (with_reducible refine (T31.out _ _ HO3.out).mono ?_); rintro e w4 ⟨rfl, ho4, hb4⟩; have HO4 := Lib.hid hb4; have HB4 := Lib.hid (HB3.out.trans (ho4.below (B := w.heap.size) (fun x hx (h : x = g) => (by omega)) HB3.out.size)); clear ho4 hb4)
    | (go_at_call 18/-f-/; (with_reducible refine (T11.out _ _ HO4.out).mono ?_); rintro e w5 ⟨rfl, ho5, hb5⟩; have HO5 := Lib.hid hb5; have HB5 := Lib.hid (HB4.out.trans (ho5.below (B := w.heap.size) (fun x hx (h : x = g) => (by omega)) HB4.out.size)); clear ho5 hb5)
    | (go_at_call 17/-f-/; (with_reducible refine (MK.out _ _ HO5.out).mono ?_); rintro e w6 ⟨rfl, rfl⟩))
  go_ret
  exact ⟨rfl, HB5.out⟩
end Go.Proofs.Ytacangeamdcgdaa
