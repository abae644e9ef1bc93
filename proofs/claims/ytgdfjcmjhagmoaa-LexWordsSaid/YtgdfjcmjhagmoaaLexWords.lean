/- LexWords: any text's words, or where none can stand, are those of the document. No condition. -/
import Derived.Test.YtgdfjcmjhagmoaaRows
import Derived.Test.YtgdfjcmjhagmoaaLyd
namespace Go.Proofs.Ytgdfjcmjhagmoaa.LexWords
open Go.ChangeShapes Go.WideShapes Go.ChangeAt Go.RowKit Go.Deep
set_option maxRecDepth 100000 in
set_option maxHeartbeats 4000000 in
theorem walk_long (s : ByteArray) (w : World) (hs : s.size ≤ 9223372036854775807) (hl : 8000 < s.size) :
    Calls Try.prog 3/-f-/ #[.string s] w fun e w' => e = .returned (.bool true) ∧ Below w.heap.size w w' := by
  have WD := Lib.hid (words_big s w hs hl)
  have AW := Lib.hid awake_any
  go_enter Try.func3, Try.ntmps3
  go_wp2_with (first
    | (go_at_call 8/-f-/; (with_reducible refine WD.out.mono ?_); rintro e w2 ⟨rfl, rfl⟩)
    | (go_at_call 9/-f-/; (with_reducible refine (AW.out _).mono ?_); rintro e w9 ⟨rfl, hb9⟩; have HB9 := Lib.hid hb9; clear hb9))
  go_ret
  exact ⟨rfl, HB9.out⟩
set_option maxRecDepth 100000 in
set_option maxHeartbeats 4000000 in
theorem walk_bad (s : ByteArray) (w : World) (hs : s.size ≤ 8000) (p : Nat) (h : wordsF (s.size + 1) s.data.toList 0 = .error p) :
    Calls Try.prog 3/-f-/ #[.string s] w fun e w' => e = .returned (.bool true) ∧ Below w.heap.size w w' := by
  have W' := words_any s w (by omega) (by omega)
  rw [h] at W'
  have WD := Lib.hid (show Calls Try.prog 8/-f-/ #[.string s] w fun e w' => e = .returned (.tuple #[.slice none 0 0, .int .i64 (p : Nat), .int .i64 12]) ∧ Below w.heap.size w w' from W')
  have R' := fun W => refwords_any s W hs
  rw [h] at R'
  have RD := Lib.hid (show ∀ W, Calls Try.prog 10/-f-/ #[.string s] W fun e w' => e = .returned (.tuple #[.slice none 0 0, .int .i64 (p : Nat)]) ∧ Below W.heap.size W w' from R')
  have AW := Lib.hid awake_any
  have hp0 : (0 : Int) ≤ (p : Int) := by omega
  clear W' R' h
  go_enter Try.func3, Try.ntmps3
  go_wp2_with (first
    | (go_at_call 8/-f-/; (with_reducible refine WD.out.mono ?_); rintro e w2 ⟨rfl, hb2⟩; have HB2 := Lib.hid hb2; clear hb2)
    | (go_at_call 10/-f-/; (with_reducible refine (RD.out _).mono ?_); rintro e w3 ⟨rfl, hb3⟩; have HB3 := Lib.hid (HB2.out.trans (hb3.mono HB2.out.size)); clear hb3)
    | (go_at_call 9/-f-/; (with_reducible refine (AW.out _).mono ?_); rintro e w9 ⟨rfl, hb9⟩; have HB9 := Lib.hid (HB3.out.trans (hb9.mono HB3.out.size)); clear hb9))
  go_ret
  exact ⟨rfl, HB9.out⟩
theorem words_len (l : List UInt8) : ∀ (ws : List Wd) (k : Nat), k ≤ l.length → Stand l ws k → k + ws.length ≤ l.length
  | [], k, hk, _ => by simpa using hk
  | x :: r, k, hk, h => by
    obtain ⟨m, y, e, _, h2⟩ := h
    have hp := fst_pos _ _ e
    have hle := blk_le false (l.drop k)
    rw [List.length_drop] at hp hle
    have := words_len l r _ (by omega) h2
    simp only [List.length_cons]
    omega
set_option maxRecDepth 100000 in
set_option maxHeartbeats 4000000 in
theorem walk_ok (s : ByteArray) (w : World) (hs : s.size ≤ 8000) (ws : List Wd) (h : wordsF (s.size + 1) s.data.toList 0 = .ok ws) :
    Calls Try.prog 3/-f-/ #[.string s] w fun e w' => e = .returned (.bool true) ∧ Below w.heap.size w w' := by
  have hst0 := words_stand s.data.toList (s.size + 1) 0 ws (Nat.zero_le _) (by simp) h
  have hwl := words_len _ _ _ (Nat.zero_le _) hst0
  rw [show s.data.toList.length = s.size from by simp, Nat.zero_add] at hwl
  have W' := words_any s w (by omega) (by omega)
  rw [h] at W'
  have WD := Lib.hid (W'.mono (R' := fun e w' => (∃ A c, e = .returned (.tuple #[.slice A ws.length c, .int .i64 0, .int .i64 0]) ∧ Wds w' A ws) ∧ Below w.heap.size w w') (by
    rintro e w' ⟨⟨v, rfl, h⟩, hb⟩
    obtain ⟨A, c, rfl⟩ := own_slice h
    exact ⟨⟨A, c, rfl, own_wds h⟩, hb⟩))
  have R' := fun W => refwords_any s W hs
  rw [h] at R'
  have RD := Lib.hid (show ∀ W, Calls Try.prog 10/-f-/ #[.string s] W fun e w' => (∃ A c, e = .returned (.tuple #[.slice A ws.length c, .int .i64 (-1)]) ∧ Wds w' A ws) ∧ Below W.heap.size W w' from R')
  have AW := Lib.hid awake_any
  have hn : ws.length ≤ 1000000 := by omega
  have TD := Lib.hid (fun A c W (hw : Wds W A ws) => told_any A c ws W hw hn)
  have SM := Lib.hid (fun A B c d W (hA : Wds W A ws) (hB : Wds W B ws) => same_yes A B c d ws W hA hB hn)
  clear W' R' h hst0
  go_enter Try.func3, Try.ntmps3
  go_wp2_with (first
    | (go_at_call 8/-f-/; (with_reducible refine WD.out.mono ?_); rintro e w2 ⟨⟨A, c, rfl, hw2⟩, hb2⟩; have HB2 := Lib.hid hb2; have HW2 := Lib.hid hw2; clear hb2 hw2)
    | (go_at_call 10/-f-/; (with_reducible refine (RD.out _).mono ?_); rintro e w3 ⟨⟨B, d, rfl, hw3⟩, hb3⟩; have HB3 := Lib.hid (HB2.out.trans (hb3.mono HB2.out.size)); have HW3 := Lib.hid (HW2.out.keep hb3); have HV3 := Lib.hid hw3; clear hb3 hw3)
    | (go_at_call 12/-f-/; (with_reducible refine (TD.out _ _ _ HW3.out).mono ?_); rintro e w4 ⟨⟨C, q, rfl, hw4⟩, hb4⟩; have HB4 := Lib.hid (HB3.out.trans (hb4.mono HB3.out.size)); have HW4 := Lib.hid hw4; have HV4 := Lib.hid (HV3.out.keep hb4); clear hb4 hw4)
    | (go_at_call 11/-f-/; (with_reducible refine (SM.out _ _ _ _ _ HW4.out HV4.out).mono ?_); rintro e w5 ⟨rfl, hb5⟩; have HB5 := Lib.hid (HB4.out.trans (hb5.mono HB4.out.size)); clear hb5)
    | (go_at_call 9/-f-/; (with_reducible refine (AW.out _).mono ?_); rintro e w9 ⟨rfl, hb9⟩; have HB9 := Lib.hid (HB5.out.trans (hb9.mono HB5.out.size)); clear hb9))
  go_ret
  exact ⟨rfl, HB9.out⟩
theorem walk (s : ByteArray) (w : World) (hs : s.size ≤ 9223372036854775807) :
    Calls Try.prog 3/-f-/ #[.string s] w fun e w' => e = .returned (.bool true) ∧ Below w.heap.size w w' := by
  by_cases hl : 8000 < s.size
  · exact walk_long s w hs hl
  · cases h : wordsF (s.size + 1) s.data.toList 0 with
    | error p => exact walk_bad s w (by omega) p h
    | ok ws => exact walk_ok s w (by omega) ws h
theorem own : ownKnob Try.prog.godebug = none := by kernel_rfl
theorem laidOut : laidOutB Try.prog = true := by kernel_rfl
set_option maxRecDepth 100000 in
theorem lifted (os : Os) (started : os.Started) (H : Type) (enc : TypeId × Value → H) :
    ReturnsInHanded {} Try.checked os 3 .any (Rows.lexWordsSpec.pre6 enc Try.prog Try.f3 Rows.lexWordsRow.domain false) (Rows.lexWordsSpec.post enc Try.prog Try.f3 false true false false) := by
  refine returnsInHanded_of_change (C := Try.checked) own started (by kernel_rfl) Try.func3
    (ChangeSpec.witness6 (enc := enc) (C := Try.checked) false ⟨#[], #[.string ⟨#[]⟩], []⟩ 8 (by kernel_rfl) (by kernel_rfl) (by kernel_rfl) (by kernel_rfl)) ?_
  intro W base args ds gs before hval0 hW hcnd _
  have hval : ∀ (j : Nat) t v, Try.f3.params[j]? = some t → args[j]? = some v → Value.okWide Try.prog W .any base t v := hval0
  have hW' := hW
  obtain ⟨p, q, hA0, hV, rfl, hfz, hnd⟩ := hW
  have hA : DataW.TrodAll enc Try.prog W 0 (fun _ => true) true Try.f3.params.toList args.toList ds p := hA0
  rw [Try.params3] at hA hval
  obtain ⟨v0, vs0, d0, ds0, p0, q0, hargs, rfl, rfl, h0, r0⟩ := trodAll_cons hA
  obtain ⟨rfl, rfl, rfl⟩ := trodAll_nil r0
  obtain rfl : args = #[v0] := by cases args; simp_all
  obtain ⟨rfl, rfl⟩ := trodVars_none hV
  obtain ⟨s0, rfl, rfl, rfl, z0⟩ := Go.ChangeMaps.open_string Try.underlying9 (hval 0 9 v0 rfl rfl) h0
  clear hA0 hval0
  refine (walk s0 W (by have := z0; unfold maxLen at this; omega)).mono fun e W' ⟨he, bel⟩ => ?_
  subst he
  exact ⟨_, rfl, _, _, _, [], _, [], hW', trodAll_mk1 (shut_bool Try.underlying4 _), (trodAll_cons_mk (Go.ChangeMaps.shut_string Try.underlying9 z0) trodAll_mk0), rfl, bel.frame _, fun h => by cases h⟩

theorem over : Rows.lexWordsRow.holds Try.pinned (OpenSpec.ofChange Rows.lexWordsSpec) :=
  OpenClaim.holds_of_wide 3 Try.f3 rfl rfl rfl rfl rfl rfl rfl ⟨rfl, rfl, rfl, rfl, rfl⟩ rfl rfl rfl rfl rfl (by kernel_rfl) Try.func3 (by kernel_rfl)
    (of_decide_eq_true (by kernel_rfl)) (by unfold Func.isWrapper; first | (rw [if_pos (by decide +kernel)]; kernel_rfl) | (rw [if_neg (by decide +kernel)]; exact ⟨rfl, rfl⟩))
    (fun os started H enc _ => lifted os started H enc)

theorem proved : Rows.LexWordsSaid := over

end Go.Proofs.Ytgdfjcmjhagmoaa.LexWords
