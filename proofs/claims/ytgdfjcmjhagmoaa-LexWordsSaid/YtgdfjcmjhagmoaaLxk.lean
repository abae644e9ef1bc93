/- Contracts of package lex: a text as words. -/
import Derived.Test.YtgdfjcmjhagmoaaLxj
namespace Go.Proofs.Ytgdfjcmjhagmoaa
open Go.ChangeShapes Go.WideShapes Go.ChangeAt Go.RowKit
theorem Src.four2 (w : World) (o : Obj) (x : Wd) (t : TypeId) : Src ((w.alloc o).alloc (.cells #[.int .i64 x.kd, .string x.tx, .int .i64 x.n, .int .i64 x.at_] t)) (some ⟨w.heap.size + 1, 0, none⟩) 1 4 (wcs x) := by
  have h := Src.four (w.alloc o) x t
  rwa [show (w.alloc o).heap.size = w.heap.size + 1 from by simp] at h
/-- What Words answers. -/
def WordsR (w w' : World) (e : Ending) : Except Nat (List Wd) → Prop
  | .error p => e = .returned (.tuple #[.slice none 0 0, .int .i64 (p : Nat), .int .i64 12])
  | .ok ws => ∃ v, e = .returned (.tuple #[v, .int .i64 0, .int .i64 0]) ∧ w'.ownsRow w.heap.size 35 4 v ws.length (wcells ws)
set_option maxRecDepth 100000 in
set_option maxHeartbeats 8000000 in
theorem words_long (s : ByteArray) (w : World) (hs : s.size ≤ 1000000) (hlong : 8000 < s.size) :
    Calls Try.prog 8/-f-/ #[.string s] w fun e w' => e = .returned (.tuple #[.slice none 0 0, .int .i64 0, .int .i64 5]) ∧ w' = w := by
  go_enter Try.func8, Try.ntmps8
  go_wp2
  exact bodyPost_ret (v := .tuple #[.slice none 0 0, .int .i64 0, .int .i64 5]) (by simp [results, Try.results8, go_sem]) rfl ⟨rfl, rfl⟩
set_option maxRecDepth 100000 in
set_option maxHeartbeats 8000000 in
theorem words_any (s : ByteArray) (w : World) (hs : s.size ≤ 1000000) (hlong : ¬ 8000 < s.size) :
    Calls Try.prog 8/-f-/ #[.string s] w fun e w' => WordsR w w' e (wordsF (s.size + 1) s.data.toList 0) ∧ Below w.heap.size w w' := by
  obtain ⟨R, hR⟩ : ∃ R, R = wordsF (s.size + 1) (s.data.toList.drop 0) 0 := ⟨_, rfl⟩
  rw [List.drop_zero] at hR
  rw [← hR]
  have HR := Lib.hid (show R = wordsF (s.size + 1) (s.data.toList.drop 0) 0 from by rw [List.drop_zero]; exact hR)
  clear hR
  have B0 := Lib.hid (show ∀ W, Calls Try.prog 20/-f-/ #[.string s, .int .i64 0] W fun e w' => e = .returned (.int .i64 ((0 + blk false (s.data.toList.drop 0) : Nat) : Int)) ∧ W = w' from fun W => behind_any s 0 W hs (Nat.zero_le _))
  have BA := Lib.hid (fun (k : Nat) (hk : k ≤ s.size) W => behind_any s k W hs hk)
  obtain ⟨i0, hi, hz0, hz1, hz2⟩ := info_parts info35
  go_enter Try.func8, Try.ntmps8
  go_wp2_with (go_at_call 20/-f-/; (with_reducible refine (B0.out _).mono ?_); rintro e w1 ⟨rfl, rfl⟩)
  go_loopw [5, 6] (fun v i wr => ∃ (p f k : Nat) (ws : List Wd), k = p + blk false (s.data.toList.drop p) ∧ p ≤ s.size ∧ s.size - p < f ∧ ws.length ≤ p ∧ i = .int .i64 k ∧ Hid (Below w.heap.size w wr) ∧ Hid (wr.ownsRow w.heap.size 35 4 v ws.length (wcells ws)) ∧ Hid (R = (wordsF f (s.data.toList.drop p) p).map (ws ++ ·))) (fun _ i _ => s.size - (intOf i).toNat)
  case atStart => exact ⟨0, s.size + 1, _, [], rfl, Nat.zero_le _, by omega, Nat.le_refl _, by simp, Lib.hid (Below.refl _ _), Lib.hid (World.ownsRow_nil _ _ _ _), Lib.hid (by rw [HR.out]; cases wordsF (s.size + 1) (s.data.toList.drop 0) 0 <;> rfl)⟩
  case round =>
    obtain ⟨p, f, k, ws, hkp, hp, hf, hwl, rfl, hbl, hown, heq⟩ := hrel
    have hkle : k ≤ s.size := by
      have := blk_le false (s.data.toList.drop p)
      simp at this
      omega
    have hpk : p ≤ k := by omega
    obtain ⟨A0, k0, rfl⟩ := own_slice hown.out
    cases f with
    | zero => omega
    | succ f =>
    have hat := wordsF_at f s.data.toList p k hkp
    have hsz := hbl.out.size
    have HQ' := heq.out
    rw [hat] at HQ'
    have HQ := Lib.hid HQ'
    clear hat heq HQ'
    by_cases hlt : k < s.size
    · have hne : s.data.toList.drop k ≠ [] := by rw [drop_at s k hlt]; simp
      have hext : (s.extract k s.size).data.toList = s.data.toList.drop k := by
        have : List.take (s.size - k) (List.drop k s.data.toList) = List.drop k s.data.toList := List.take_of_length_le (by simp)
        simpa using this
      have hes : (s.extract k s.size).size ≤ 1000000 := by simp; omega
      have hes0 : 0 < (s.extract k s.size).size := by simp; omega
      have F' := fun W => first_any (s.extract k s.size) W hes hes0
      rw [hext] at F'
      have HQ2 := HQ.out
      rw [if_neg hne] at HQ2
      cases hx : fstW (s.data.toList.drop k) with
      | none =>
        rw [hx] at F' HQ2
        have F := Lib.hid (show ∀ W, Calls Try.prog 21/-f-/ #[.string (s.extract k s.size)] W fun e w' => e = .returned (.tuple #[.agg #[.int .i64 0, .string ⟨#[]⟩, .int .i64 0, .int .i64 0], .int .i64 0]) ∧ Below W.heap.size W w' from F')
        have HX := Lib.hid (show R = .error k from HQ2)
        clear F' HQ HQ2 hx hext hes hes0 hne hkp
        go_wp2_with (go_at_call 21/-f-/; (with_reducible refine (F.out _).mono ?_); rintro e w2 ⟨rfl, hb2⟩; have HB2 := Lib.hid (hbl.out.trans (hb2.mono hsz)); clear hb2)
        rw [HX.out]
        refine bodyPost_ret (v := .tuple #[.slice none 0 0, .int .i64 k, .int .i64 12]) (by simp [results, Try.results8, go_sem]) rfl ⟨rfl, ?_⟩
        first | exact (HB2.out.alloc HB2.out.size _) | exact (HB2.out.alloc HB2.out.size _).setCell HB2.out.size _
      | some x =>
        obtain ⟨⟨kd, tx, n, a⟩, m⟩ := x
        have hps := fst_pos _ _ hx
        have hm1 : 0 < m := hps.1
        have hm2 : k + m ≤ s.size := by have := hps.2; simp at this; omega
        rw [hx] at F' HQ2
        have F := Lib.hid (show ∀ W, Calls Try.prog 21/-f-/ #[.string (s.extract k s.size)] W fun e w' => e = .returned (.tuple #[.agg #[.int .i64 kd, .string tx, .int .i64 n, .int .i64 a], .int .i64 m]) ∧ Below W.heap.size W w' from F')
        have HX := Lib.hid (show R = (wordsF f (s.data.toList.drop (k + m)) (k + m)).map ((ws ++ [⟨kd, tx, n, (k : Int)⟩]) ++ ·) from by
          rw [HQ2]
          show ((wordsF f (s.data.toList.drop (k + m)) (k + m)).map (⟨kd, tx, n, (k : Int)⟩ :: ·)).map (ws ++ ·) = _
          cases wordsF f (s.data.toList.drop (k + m)) (k + m) with
          | error q => rfl
          | ok l => simp [Except.map])
        have hm0 : ((m : Int) == 0) = false := beq_eq_false_iff_ne.2 (by omega)
        clear F' HQ HQ2 hx hext hes hes0 hne hps hkp
        have BM := Lib.hid (show ∀ W, Calls Try.prog 20/-f-/ #[.string s, .int .i64 ((k : Int) + (m : Int))] W fun e w' => e = .returned (.int .i64 ((k + m + blk false (s.data.toList.drop (k + m)) : Nat) : Int)) ∧ W = w' from fun W => by
          have e : ((k + m : Nat) : Int) = (k : Int) + (m : Int) := by omega
          rw [← e]
          exact BA.out _ hm2 W)
        go_wp2_with (first
          | (go_at_call 21/-f-/; (with_reducible refine (F.out _).mono ?_); rintro e w2 ⟨rfl, hb2⟩; have HB2 := Lib.hid (hbl.out.trans (hb2.mono hsz)); have HO2 := Lib.hid ((Off.of (S := fun _ => False) hb2).own hown.out (fun _ _ h => h)); clear hb2)
          | (at_builtin; refine wpList_append_src _ rfl _ _ 22 rfl w.heap.size 35 i0 (.agg #[.int .i64 0, .string ⟨#[]⟩, .int .i64 0, .int .i64 0]) 4 40 Try.underlying22/-t-/ hi hz0 hz1 hz2 rfl (by decide) (.slice A0 ws.length k0) ws.length (wcells ws) rfl ((World.ownsRow.alloc (World.ownsRow.alloc HO2.out _) _)) (some ⟨w2.heap.size + 1, 0, none⟩) 1 1 (wcs ⟨kd, tx, n, (k : Int)⟩) rfl (Src.four2 w2 _ ⟨kd, tx, n, (k : Int)⟩ _) (by unfold maxLen; omega) (by omega) (by have := HB2.out.size; simp; omega) ?_; intro v9 w9 hown9 hgrow h9; clear h9; obtain ⟨A9, k9, rfl⟩ := own_slice hown9; have HG := Lib.hid hgrow; have HO9 := Lib.hid hown9; clear hgrow hown9)
          | (go_at_call 20/-f-/; (with_reducible refine (BM.out _).mono ?_); rintro e w3 ⟨rfl, rfl⟩))
        have hs2 := HB2.out.size
        have HB9 := Lib.hid (((HB2.out.alloc hs2 (.cells #[.int .i64 kd, .string tx, .int .i64 n, .int .i64 k] 35)).alloc (by simp; omega) (.cells #[.int .i64 kd, .string tx, .int .i64 n, .int .i64 k] 35)).grown HG.out (by simp; omega) (fun g hg => (HO2.out.lt g hg).1))
        go_roundw
        case rel => exact ⟨k + m, f, _, ws ++ [⟨kd, tx, n, (k : Int)⟩], rfl, hm2, by omega, by simp; omega, rfl, HB9, Lib.hid (by rw [wcells_one, List.length_append]; exact HO9.out), HX⟩
        case measure => simp [intOf]; omega
    · have hkl : k = s.size := by omega
      have HX := Lib.hid (show R = .ok ws from by
        rw [HQ.out, hkl, drop_end, if_pos rfl]; simp [Except.map])
      subst hkl
      go_wp2
      rw [HX.out]
      exact bodyPost_ret (v := .tuple #[.slice A0 ws.length k0, .int .i64 0, .int .i64 0]) (by simp [results, Try.results8, go_sem]) rfl ⟨⟨_, rfl, hown.out⟩, hbl.out⟩
end Go.Proofs.Ytgdfjcmjhagmoaa
