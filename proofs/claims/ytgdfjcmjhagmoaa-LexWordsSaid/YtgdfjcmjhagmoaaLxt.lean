/- Contracts of package lex: Take at a cursor. -/
import Derived.Test.YtgdfjcmjhagmoaaLxs
namespace Go.Proofs.Ytgdfjcmjhagmoaa
open Go.ChangeShapes Go.WideShapes Go.ChangeAt Go.RowKit
/-- The word at a place; behind the last one there is the end. -/
def atW (ws : List Wd) (z : Int) (i : Nat) : Wd := if i < ws.length then ws.getD i default else ⟨4, ⟨#[]⟩, 0, z⟩
/-- Whether the first so many texts come next. -/
def hits (ws : List Wd) (a : Nat) (ss : List ByteArray) : Nat → Bool
  | 0 => true
  | k + 1 => hits ws a ss k && (decide (a + k < ws.length) && saysB (ws.getD (a + k) default) (ss.getD k default))
theorem hits_no {ws : List Wd} {a : Nat} {ss : List ByteArray} {k : Nat} (h : hits ws a ss k = false) : ∀ n, k ≤ n → hits ws a ss n = false
  | 0, hn => by
    have : k = 0 := by omega
    subst this; exact h
  | n + 1, hn => by
    by_cases e : k = n + 1
    · subst e; exact h
    · unfold hits; rw [hits_no h n (by omega)]; rfl
theorem hits_step (z : Int) (ws : List Wd) (a : Nat) (ss : List ByteArray) (k : Nat) : hits ws a ss (k + 1) = (hits ws a ss k && saysB (atW ws z (a + k)) (ss.getD k default)) := by
  rw [hits]
  unfold atW
  by_cases h : a + k < ws.length
  · rw [if_pos h]; simp [h]
  · rw [if_neg h]; simp [h, saysB]
theorem hits_le {ws : List Wd} {a : Nat} {ss : List ByteArray} (ha : a ≤ ws.length) : ∀ {k : Nat}, hits ws a ss k = true → a + k ≤ ws.length
  | 0, _ => by omega
  | k + 1, h => by
    unfold hits at h
    simp at h
    omega
theorem ahead_any (g : Nat) (a k : Nat) (z : Int) (A : Option Addr) (ws : List Wd) (c : Nat) (w : World) (h : Blk w g 63 #[.int .i64 a, .int .i64 z, .slice A ws.length c]) (hw : Wds w A ws) (hn : ws.length ≤ 1000000) (ha : a ≤ ws.length) :
    Calls Try.prog 27/-f-/ #[.pointer (some ⟨g, 0, none⟩), .int .i64 k] w fun e w' => e = .returned (wdV (atW ws z (a + k))) ∧ Below w.heap.size w w' := by
  unfold atW
  by_cases hk : a + k < ws.length
  · rw [if_pos hk]; exact ahead_at g a k z A ws c w h hw hn hk
  · rw [if_neg hk]; exact ahead_end g a z k A ws.length c w h (by omega) (by omega) hn (by omega)
theorem Wds.keep {w w' : World} {A : Option Addr} {ws : List Wd} (h : Wds w A ws) (hb : Below w.heap.size w w') : Wds w' A ws := by
  rcases h with h | ⟨b, off, h1, h2, h3⟩
  · exact .inl h
  · refine .inr ⟨b, off, h1, Nat.lt_of_lt_of_le h2 hb.size, fun i hi => ?_⟩
    obtain ⟨x0, x1, x2, x3⟩ := h3 i hi
    exact ⟨(hb.cell (p := ⟨b, off + i * 4, none⟩) h2).trans x0, (hb.cell (p := ⟨b, off + i * 4 + 1, none⟩) h2).trans x1, (hb.cell (p := ⟨b, off + i * 4 + 2, none⟩) h2).trans x2, (hb.cell (p := ⟨b, off + i * 4 + 3, none⟩) h2).trans x3⟩
set_option maxRecDepth 100000 in
set_option maxHeartbeats 8000000 in
theorem take_at (g a : Nat) (z : Int) (B : Option Addr) (ws : List Wd) (d : Nat) (A : Option Addr) (n c : Nat) (ss : List ByteArray) (w : World) (h : Blk w g 63 #[.int .i64 a, .int .i64 z, .slice B ws.length d]) (hw : Wds w B ws) (hn : ws.length ≤ 1000000) (ha : a ≤ ws.length) (hA : Txts w A ss) (hss : ss.length = n) (hs : n ≤ 9223372036854775807) :
    Calls Try.prog 17/-f-/ #[.pointer (some ⟨g, 0, none⟩), .slice A n c] w fun e w' => e = .returned (.bool (hits ws a ss ss.length)) ∧ (hits ws a ss ss.length = false → Below w.heap.size w w') ∧ (hits ws a ss ss.length = true → Off (· = g) w w' ∧ Blk w' g 63 #[.int .i64 ((a + ss.length : Nat) : Int), .int .i64 z, .slice B ws.length d]) := by
  subst hss
  have hg := h.lt
  obtain ⟨R, hR⟩ : ∃ R, R = hits ws a ss ss.length := ⟨_, rfl⟩
  rw [← hR]
  have HR := Lib.hid hR
  have HA := Lib.hid hA
  have AH' := fun k W (hb : Below w.heap.size w W) => ahead_any g a k z B ws d W (h.below hb hg) (hw.keep hb) hn ha
  have HH := Lib.hid h
  have HW := Lib.hid hw
  have HLE := Lib.hid (fun k (hk : hits ws a ss k = true) => hits_le ha hk)
  have ha2 := ha
  have SY' := fun x t W => says_any x t W
  clear hR hA h hw
  go_enter Try.func17, Try.ntmps17
  go_wp2
  go_loopw [9] (fun i wr => ∃ k : Nat, k ≤ ss.length ∧ i = .int .i64 k ∧ Hid (Below w.heap.size w wr) ∧ Hid (hits ws a ss k = true)) (fun i _ => ss.length - (intOf i).toNat)
  case atStart => exact ⟨0, Nat.zero_le _, rfl, Lib.hid (Below.refl _ _), Lib.hid rfl⟩
  case round =>
    obtain ⟨k, hk, rfl, hbl, heq⟩ := hrel
    have hsz := hbl.out.size
    by_cases hlt : k < ss.length
    · obtain ⟨b, off, rfl, hb, hc⟩ : ∃ b off, A = some ⟨b, off, none⟩ ∧ b < w.heap.size ∧ wr.cell? ⟨b, off + k, none⟩ = some (.string (ss.getD k default)) := by
        rcases HA.out with h | ⟨b, off, h1, h2, h3⟩
        · rw [h] at hlt; simp at hlt
        · exact ⟨b, off, h1, h2, (hbl.out.cell (p := ⟨b, off + k, none⟩) h2).trans (h3 k hlt)⟩
      have HS := Lib.hid (hits_step z ws a ss k)
      generalize ss.getD k default = t at *
      have AH2 := fun W hb => AH' k W hb
      generalize atW ws z (a + k) = x at *
      obtain ⟨kd, tx, n, p⟩ := x
      have SY2 := fun W => SY' ⟨kd, tx, n, p⟩ t W
      have AH := Lib.hid (show ∀ W, Below w.heap.size w W → Calls Try.prog 27/-f-/ #[.pointer (some ⟨g, 0, none⟩), .int .i64 k] W fun e w' => e = .returned (.agg #[.int .i64 kd, .string tx, .int .i64 n, .int .i64 p]) ∧ Below W.heap.size W w' from AH2)
      generalize hq : saysB ⟨kd, tx, n, p⟩ t = q at *
      have SY := Lib.hid (show ∀ W, Calls Try.prog 29/-f-/ #[.agg #[.int .i64 kd, .string tx, .int .i64 n, .int .i64 p], .string t] W fun e w' => e = .returned (.bool q) ∧ Below W.heap.size W w' from SY2)
      clear AH2 SY2 AH' SY' hq
      cases q with
      | false =>
        have HF := Lib.hid (show R = false from by rw [HR.out]; exact hits_no (k := k + 1) (by rw [HS.out, Bool.and_false]) _ hlt)
        go_wp2_with (first
          | (go_at_call 27/-f-/; (with_reducible refine (AH.out _ hbl.out).mono ?_); rintro e w2 ⟨rfl, hb2⟩; have HB2 := Lib.hid (hbl.out.trans (hb2.mono hsz)); clear hb2)
          | (go_at_call 29/-f-/; (with_reducible refine (SY.out _).mono ?_); rintro e w3 ⟨rfl, hb3⟩; have HB3 := Lib.hid (HB2.out.trans (hb3.mono HB2.out.size)); clear hb3))
        go_ret
        exact ⟨ret_bool (by rw [HF.out]), fun _ => HB3.out, fun h => absurd (HF.out.symm.trans h) (by decide)⟩
      | true =>
        have HX := Lib.hid (show hits ws a ss (k + 1) = true from by rw [HS.out, heq.out]; rfl)
        go_wp2_with (first
          | (go_at_call 27/-f-/; (with_reducible refine (AH.out _ hbl.out).mono ?_); rintro e w2 ⟨rfl, hb2⟩; have HB2 := Lib.hid (hbl.out.trans (hb2.mono hsz)); clear hb2)
          | (go_at_call 29/-f-/; (with_reducible refine (SY.out _).mono ?_); rintro e w3 ⟨rfl, hb3⟩; have HB3 := Lib.hid (HB2.out.trans (hb3.mono HB2.out.size)); clear hb3))
        go_roundw
        case rel => exact ⟨k + 1, hlt, by go_num, HB3, HX⟩
        case measure => simp [intOf]; omega
    · have hkl : k = ss.length := by omega
      subst hkl
      have hle := HLE.out _ heq.out
      have HT := Lib.hid (show R = true from by rw [HR.out, heq.out])
      have HG := Lib.hid (HH.out.below hbl.out hg)
      obtain ⟨c0, c1, c2, f0, f1, f2, hlg⟩ := blk3 HG.out
      clear AH' SY'
      go_wp2
      rw [HT.out]
      refine bodyPost_ret (v := .bool true) (by simp [results, Try.results17, go_sem]) rfl ⟨rfl, (fun h => by cases h), fun _ => ⟨?_, ?_⟩⟩
      · exact (Off.of (S := fun x => x = g) hbl.out).put (p := ⟨g, 0, none⟩) (fun _ => rfl) _
      · have HP := HG.out.put 0 (.int .i64 ((a + ss.length : Nat) : Int))
        rw [show ((a + ss.length : Nat) : Int) = (a : Int) + (ss.length : Int) from by omega] at *
        exact HP
end Go.Proofs.Ytgdfjcmjhagmoaa
