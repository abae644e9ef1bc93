/- Contracts of package lex: the document's example. -/
import Derived.Test.YtgdfjcmjhagmoaaLxt
import Derived.Laws.StructEq
namespace Go.Proofs.Ytgdfjcmjhagmoaa
open Go.ChangeShapes Go.WideShapes Go.ChangeAt Go.RowKit
/-- Whether two words are the same. -/
def eqW (x y : Wd) : Bool := x.kd == y.kd && (x.tx.toList == y.tx.toList && (x.n == y.n && x.at_ == y.at_))
theorem run_eqW (W : World) (a b : Int) (s t : ByteArray) (m n p q : Int) : (binOp .eql 35 (.agg #[.int .i64 a, .string s, .int .i64 m, .int .i64 p]) (.agg #[.int .i64 b, .string t, .int .i64 n, .int .i64 q])).run Try.prog W = .ok (.bool (a == b && (s.toList == t.toList && (m == n && p == q)))) W := by
  simp [go_sem, Try.underlying35]
  by_cases h1 : a = b <;> by_cases h2 : s.toList = t.toList <;> by_cases h3 : m = n <;> by_cases h4 : p = q <;> simp [h1, h2, h3, h4]
theorem own_some {w : World} {base e size n cap : Nat} {A : Option Addr} {xs : List Value} (h : w.ownsRow base e size (.slice A n cap) n xs) (hn : 0 < n) : ∃ g, A = some ⟨g, 0, none⟩ := by
  rcases h.2 with ⟨h1, h0⟩ | ⟨g, c, cur, h1, _⟩
  · omega
  · cases h1; exact ⟨g, rfl⟩
theorem own_cap {w : World} {base e size n cap : Nat} {A : Option Addr} {xs : List Value} (h : w.ownsRow base e size (.slice A n cap) n xs) : n ≤ cap := by
  rcases h.2 with ⟨h, h0⟩ | ⟨g2, cap2, cur, h, _, _, hn, _⟩
  · cases h; omega
  · cases h; exact hn
theorem own_none {w : World} {base e size n cap : Nat} {xs : List Value} (h : w.ownsRow base e size (.slice none n cap) n xs) : n = 0 := by
  rcases h.2 with ⟨h, h0⟩ | ⟨g2, cap2, cur, h, _, _, hn, _⟩
  · exact h0
  · cases h
theorem own_flat {w : World} {base e size n cap : Nat} {A : Option Addr} {xs : List Value} (h : w.ownsRow base e size (.slice A n cap) n xs) : Flat w A xs := by
  by_cases h0 : n = 0
  · exact .inl (List.eq_nil_of_length_eq_zero (by rw [h.1, h0]; omega))
  obtain ⟨g, rfl⟩ := own_some h (by omega)
  refine .inr ⟨g, 0, rfl, (World.ownsRow.lt h g rfl).2, fun j u hu => ?_⟩
  rw [Nat.zero_add]
  have hj : j < xs.length := (List.getElem?_eq_some_iff.1 hu).1
  exact (World.ownsRow.cellAt h j (by have := h.1; omega)).trans hu
theorem wcells_at : ∀ (ws : List Wd) (i : Nat), i < ws.length → (wcells ws)[i * 4]? = some (.int .i64 (ws.getD i default).kd) ∧ (wcells ws)[i * 4 + 1]? = some (.string (ws.getD i default).tx) ∧ (wcells ws)[i * 4 + 2]? = some (.int .i64 (ws.getD i default).n) ∧ (wcells ws)[i * 4 + 3]? = some (.int .i64 (ws.getD i default).at_)
  | x :: r, 0, _ => ⟨rfl, rfl, rfl, rfl⟩
  | x :: r, i + 1, h => by
    obtain ⟨h0, h1, h2, h3⟩ := wcells_at r i (by simpa using h)
    have e : wcells (x :: r) = .int .i64 x.kd :: .string x.tx :: .int .i64 x.n :: .int .i64 x.at_ :: wcells r := rfl
    have k : (i + 1) * 4 = i * 4 + 1 + 1 + 1 + 1 := by omega
    have k1 : i * 4 + 1 + 1 + 1 + 1 + 1 = (i * 4 + 1) + 1 + 1 + 1 + 1 := by omega
    have k2 : i * 4 + 1 + 1 + 1 + 1 + 2 = (i * 4 + 2) + 1 + 1 + 1 + 1 := by omega
    have k3 : i * 4 + 1 + 1 + 1 + 1 + 3 = (i * 4 + 3) + 1 + 1 + 1 + 1 := by omega
    rw [e, k, k1, k2, k3]
    simp only [List.getElem?_cons_succ, List.getD_cons_succ]
    exact ⟨h0, h1, h2, h3⟩
theorem own_wds {w : World} {base c : Nat} {A : Option Addr} {ws : List Wd} {e : Nat} (h : w.ownsRow base e 4 (.slice A ws.length c) ws.length (wcells ws)) : Wds w A ws := by
  by_cases h0 : ws = []
  · exact .inl h0
  obtain ⟨g, rfl⟩ := own_some h (List.length_pos_iff.2 h0)
  refine .inr ⟨g, 0, rfl, (World.ownsRow.lt h g rfl).2, fun i hi => ?_⟩
  obtain ⟨c0, c1, c2, c3⟩ := wcells_at ws i hi
  rw [Nat.zero_add]
  exact ⟨(World.ownsRow.cellAt h (i * 4) (by omega)).trans c0, (World.ownsRow.cellAt h (i * 4 + 1) (by omega)).trans c1, (World.ownsRow.cellAt h (i * 4 + 2) (by omega)).trans c2, (World.ownsRow.cellAt h (i * 4 + 3) (by omega)).trans c3⟩
def exWs : List Wd := [⟨3, ⟨#[97]⟩, 0, 0⟩, ⟨0, ⟨#[62, 61]⟩, 0, 1⟩, ⟨2, ⟨#[105, 116, 39, 115]⟩, 0, 3⟩]
theorem exWords : wordsF 11 [97, 62, 61, 39, 105, 116, 39, 39, 115, 39] 0 = .ok exWs := by kernel_rfl
theorem exHits : hits exWs 0 [⟨#[97]⟩, ⟨#[62, 61]⟩] 2 = true := by kernel_rfl
theorem exTxts (W : World) (N : Nat) (e : W.heap.size = N) : Txts (W.alloc (.cells #[.string ⟨#[97]⟩, .string ⟨#[62, 61]⟩] 9)) (some ⟨N, 0, none⟩) [⟨#[97]⟩, ⟨#[62, 61]⟩] := by
  subst e
  refine .inr ⟨W.heap.size, 0, rfl, by simp, fun i hi => ?_⟩
  have : i = 0 ∨ i = 1 := by simp at hi; omega
  rcases this with rfl | rfl <;> (rw [(Blk.new W 9 _).cell]; rfl)
set_option maxRecDepth 100000 in
set_option maxHeartbeats 8000000 in
theorem awake_any (w : World) : Calls Try.prog 9/-f-/ #[] w fun e w' => e = .returned (.bool true) ∧ Below w.heap.size w w' := by
  have W' := words_any ⟨#[97, 62, 61, 39, 105, 116, 39, 39, 115, 39]⟩ w (by decide) (by decide)
  rw [show wordsF ((⟨#[97, 62, 61, 39, 105, 116, 39, 39, 115, 39]⟩ : ByteArray).size + 1) (⟨#[97, 62, 61, 39, 105, 116, 39, 39, 115, 39]⟩ : ByteArray).data.toList 0 = .ok exWs from exWords] at W'
  have WD := Lib.hid (W'.mono (R' := fun e w' => (∃ g c, e = .returned (.tuple #[.slice (some ⟨g, 0, none⟩) 3 c, .int .i64 0, .int .i64 0]) ∧ w'.ownsRow w.heap.size 35 4 (.slice (some ⟨g, 0, none⟩) 3 c) 3 (wcells exWs)) ∧ Below w.heap.size w w') (by
    rintro e w' ⟨⟨v, rfl, h⟩, hb⟩
    obtain ⟨A, c, rfl⟩ := own_slice h
    obtain ⟨g, rfl⟩ := own_some h (by decide)
    exact ⟨⟨g, c, rfl, h⟩, hb⟩))
  clear W'
  go_enter Try.func9, Try.ntmps9
  go_upto_region 2 with (go_at_call 8/-f-/; (with_reducible refine WD.out.mono ?_); rintro e w2 ⟨⟨gw, c, rfl, hu⟩, hb2⟩; have HB2 := Lib.hid hb2; have HU := Lib.hid hu; clear hu hb2)
  have ON := Lib.hid (on_any (some ⟨gw, 0, none⟩) 3 c 10 (wcells exWs) w2 (own_flat HU.out) rfl (by decide) (wcells_oneCell _) (by intro h; cases h))
  go_upto_region 3 with (go_at_call 13/-f-/; (with_reducible refine ON.out.mono ?_); rintro e w3 ⟨⟨g, B, d, rfl, hg, hk, ho⟩, hb3⟩; have HK := Lib.hid hk; have HO := Lib.hid ho; have HB3 := Lib.hid (HB2.out.trans (hb3.mono HB2.out.size)); have HW3 := Lib.hid ((own_wds (ws := exWs) HU.out).keep hb3); clear hk ho hb3)
  have HWB := Lib.hid (own_wds (ws := exWs) HO.out)
  have hg3 := HK.out.lt
  have y : w3.cell? ⟨gw, 8, none⟩ = some (.int .i64 2) ∧ w3.cell? ⟨gw, 9, none⟩ = some (.string ⟨#[105, 116, 39, 115]⟩) ∧ w3.cell? ⟨gw, 10, none⟩ = some (.int .i64 0) ∧ w3.cell? ⟨gw, 11, none⟩ = some (.int .i64 3) := by
    rcases HW3.out with h | ⟨b, off, h1, h2, h3⟩
    · cases h
    · cases h1
      exact h3 2 (by decide)
  obtain ⟨y0, y1, y2, y3⟩ := y
  have E1 := fun W => run_eqW W 2 2 ⟨#[105, 116, 39, 115]⟩ ⟨#[105, 116, 39, 115]⟩ 0 0 3 3
  have T' := take_at g 0 10 B exWs d (some ⟨w3.heap.size, 0, none⟩) 2 2 [⟨#[97]⟩, ⟨#[62, 61]⟩] (w3.alloc (.cells #[.string ⟨#[97]⟩, .string ⟨#[62, 61]⟩] 9)) (HK.out.alloc _) (HWB.out.alloc _) (by decide) (by decide) (exTxts w3 _ rfl) rfl (by decide)
  rw [show hits exWs 0 [⟨#[97]⟩, ⟨#[62, 61]⟩] ([⟨#[97]⟩, ⟨#[62, 61]⟩] : List ByteArray).length = true from exHits] at T'
  have TK := Lib.hid T'
  have HBA := Lib.hid (HB3.out.alloc HB3.out.size (.cells #[.string ⟨#[97]⟩, .string ⟨#[62, 61]⟩] 9))
  have hgw : w2.heap.size ≤ g := hg
  clear T'
  go_wp2_with (first
    | (go_at_call 17/-f-/; (with_reducible refine TK.out.mono ?_); rintro e w5 ⟨rfl, _, ht5⟩; obtain ⟨ho5, hk5⟩ := ht5 rfl; have HO5 := Lib.hid ho5; have HK5 := Lib.hid hk5; have L := Lib.hid (left_at g 2 10 B 3 d w5 HK5.out (by decide) (by decide) (by decide)); clear ho5 hk5 ht5)
    | (go_at_call 19/-f-/; (with_reducible refine L.out.mono ?_); rintro e w6 ⟨rfl, q, rfl⟩))
  have hs2 := HB2.out.size
  go_ret
  exact ⟨rfl, below_drewN (HBA.out.trans (HO5.out.below (B := w.heap.size) (fun k hk (he : k = g) => by omega) HBA.out.size)) q⟩
end Go.Proofs.Ytgdfjcmjhagmoaa
