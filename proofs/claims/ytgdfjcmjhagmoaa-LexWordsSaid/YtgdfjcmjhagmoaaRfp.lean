/- The reference's number of a text. -/
import Derived.Test.YtgdfjcmjhagmoaaRefD
import Derived.Test.YtgdfjcmjhagmoaaRefQ
import Derived.Test.YtgdfjcmjhagmoaaTextC
import Derived.Lib.AppendIntMem
import Derived.BigQuiet
import Derived.Deep.AppendLies
import Derived.Deep.RegionLaw
import Derived.WalkSpells
namespace Go.Proofs.Ytgdfjcmjhagmoaa
open Go.ChangeShapes Go.WideShapes Go.ChangeAt Go.RowKit
set_option maxRecDepth 100000 in
set_option maxHeartbeats 1000000 in
theorem refparse_plain (s : ByteArray) (w : World) (hs : s.size ≤ 100000) (h0 : 0 < s.size) (h45 : Ar.pneg s.data.toList = false) :
    Calls Try.prog 24/-f-/ #[.string s] w fun e w' => e = .returned (.tuple #[.int .i64 (parseV s.data.toList), .int .i64 (parseE s.data.toList)]) ∧ Below w.heap.size w w' := by
  obtain ⟨i0, hi, hz0, hz1, hz2⟩ := info_parts int_info
  have hsl : s.data.toList.length = s.size := by simp
  have HSL := Lib.hid hsl
  clear hsl
  have hb45 : ((s[0].toNat : Int) == 45) = false := by
    rw [beq_eq_false_iff_ne]; intro h
    have h9 : s.data.toList[0]? = some s[0] := by rw [List.getElem?_eq_getElem (by rw [HSL.out]; exact h0)]; rfl
    have hs0 : s.data.toList.headD 0 = s[0] := by
      cases hc : s.data.toList with
      | nil => rw [hc] at h9; simp at h9
      | cons x r => rw [hc] at h9; simpa using h9
    have h2 := h45; unfold Ar.pneg at h2; rw [beq_eq_false_iff_ne] at h2
    exact h2 (UInt8.toNat_inj.1 (by rw [hs0]; simpa using (by omega : s[0].toNat = 45)))
  have HB := Lib.hid (show Ar.pbody s.data.toList = s.data.toList from by unfold Ar.pbody; rw [h45]; rfl)
  have H45 := Lib.hid h45
  clear h45
  go_enter Try.func24, Try.ntmps24
  go_wp2
  go_loopw [6] (fun i wr => ∃ (k : Nat) (A : Option Addr) (c : Nat) (D : List Int), k ≤ s.size ∧ i = .int .i64 ((s.size : Int) - 1 - k) ∧ Hid (D = Ar.revd (s.data.toList.drop (s.size - k)) ∧ (s.data.toList.drop (s.size - k)).all Ar.dig = true) ∧ D.length = k ∧ wr.ownsRow (w.heap.size + 1) 3 1 (.slice A k c) k (D.map (Value.int .i64)) ∧ Below w.heap.size w wr ∧ w.heap.size < wr.heap.size ∧ Blk wr w.heap.size 69 #[.bool false, .slice A k c]) (fun i _ => (intOf i + 1).toNat)
  case atStart =>
    exact ⟨0, none, 0, [], Nat.zero_le _, by simp, Lib.hid ⟨by rw [Nat.sub_zero, ← HSL.out, List.drop_length]; rfl, by rw [Nat.sub_zero, ← HSL.out, List.drop_length]; rfl⟩, rfl, ⟨by simp, .inl ⟨rfl, rfl⟩⟩, (Below.refl _ _).alloc (Nat.le_refl _) _, by simp, Blk.new w 69 #[.bool false, .slice none 0 0]⟩
  case round =>
    obtain ⟨k, A, c, D, hk, rfl, hD, hDl, hown, hbl, hlt0, hblk⟩ := hrel
    have c0 := hblk.cell 0
    have c1 := hblk.cell 1
    have f0 := hblk.frozen 0
    have f1 := hblk.frozen 1
    simp at c0 c1
    by_cases hlt : k < s.size
    · have hj : s.size - 1 - k < s.size := by omega
      obtain ⟨j, hjk⟩ : ∃ j : Nat, (s.size : Int) - 1 - k = (j : Int) := ⟨s.size - 1 - k, by omega⟩
      rw [hjk]
      have hjl : j < s.size := by omega
      have HJ := Lib.hid hjk
      clear hjk hj
      by_cases hdg : Ar.dig (s[j]'hjl) = true
      · have h1 := of_decide_eq_true hdg
        have HDG := Lib.hid hdg
        clear hdg
        have hownD := Lib.hid (show (wr.alloc (.cells #[.int .i64 (IntKind.i64.wrap (IntKind.u8.wrap (((s[j]'hjl).toNat : Int) - 48)))] 3)).drew.ownsRow (w.heap.size + 1) 3 1 (.slice A k c) k (D.map (Value.int .i64)) from hown.alloc _)
        have hnews := Lib.hid (World.news_of_block (w := (wr.alloc (.cells #[.int .i64 (IntKind.i64.wrap (IntKind.u8.wrap (((s[j]'hjl).toNat : Int) - 48)))] 3)).drew) (B := wr.heap.size) (cs := #[.int .i64 (IntKind.i64.wrap (IntKind.u8.wrap (((s[j]'hjl).toNat : Int) - 48)))]) (t := 3) (fr := (0, 0)) (heap_alloc_new wr (.cells #[.int .i64 (IntKind.i64.wrap (IntKind.u8.wrap (((s[j]'hjl).toNat : Int) - 48)))] 3)))
        have hwrap : IntKind.i64.wrap (IntKind.u8.wrap (((s[j]'hjl).toNat : Int) - 48)) = ((s[j]'hjl).toNat : Int) - 48 := by rw [IntKind.wrap_i64, IntKind.wrap_u8]; omega
        have HW := Lib.hid hwrap
        clear hwrap
        go_upto_region 10 with fail
        go_region_law (refine step_append_lies _ rfl (.tmp 37) (.tmp 43) 67 rfl (w.heap.size + 1) 3 i0 (.int .i64 0) 1 8 Try.underlying67 hi hz0 hz1 hz2 rfl (by decide) (.slice A k c) k (D.map (Value.int .i64)) (by simp [Act.eval, Act.put]) hownD.out ⟨wr.heap.size, 0, none⟩ 1 1 [.int .i64 (IntKind.i64.wrap (IntKind.u8.wrap (((s[j]'hjl).toNat : Int) - 48)))] (by simp [Act.eval, Act.put]) rfl hnews.out (by simp [Value.oneCell']) (by decide) (by unfold maxLen; omega) (by omega) (by simp; omega) _ rfl ?_; intro g cap w1 hown1 hgrow hat hltg; have hblk1 := grown_blk hblk (Nat.lt_succ_self _) hown (o := .cells #[.int .i64 (IntKind.i64.wrap (IntKind.u8.wrap (((s[j]'hjl).toNat : Int) - 48)))] 3) ⟨hgrow.1, hgrow.2, hgrow.3, hgrow.4, hgrow.5⟩; have d1 := hblk1.cell 1; have e1 := hblk1.frozen 1; have hlt1 := hblk1.lt; simp at d1)
        all_goals
          go_wp2
          go_roundw
          case rel =>
            have hbl1 := grown_below hbl (by omega) hown (o := .cells #[.int .i64 (IntKind.i64.wrap (IntKind.u8.wrap (((s[j]'hjl).toNat : Int) - 48)))] 3) ⟨hgrow.1, hgrow.2, hgrow.3, hgrow.4, hgrow.5⟩ (by omega)
            have hdrop : s.data.toList.drop (s.size - (k + 1)) = (s[j]'hjl) :: s.data.toList.drop (s.size - k) := by
              have e1 : s.size - (k + 1) = j := by have := HJ.out; omega
              have e2 : s.size - k = j + 1 := by have := HJ.out; omega
              rw [e1, e2, List.drop_eq_getElem_cons (by rw [HSL.out]; exact hjl)]; rfl
            have hX : IntKind.i64.wrap (IntKind.u8.wrap (((s[j]'hjl).toNat : Int) - 48)) = Ar.dv (s[j]'hjl) := HW.out
            refine ⟨k + 1, some ⟨g, 0, none⟩, cap, D ++ [Ar.dv (s[j]'hjl)], by omega, congrArg (Value.int .i64) (by have := HJ.out; omega), Lib.hid ⟨by rw [hdrop, Ar.revd_cons, ← hD.out.1], by rw [hdrop, List.all_cons, HDG.out, hD.out.2]; rfl⟩, by simp [hDl], ?_, hbl1.setCell (by simp) _, by simpa using hlt1, hblk1.put 1 _⟩
            have := ownsRow_setCell_below hown1 (a := ⟨w.heap.size, 1, none⟩) (Nat.lt_succ_self _) (.slice (some ⟨g, 0, none⟩) (k + 1) cap)
            rw [hX] at this
            simpa using this
          case measure => simp [intOf]
      · have HV := Lib.hid (show (0 : Int) = parseV s.data.toList ∧ (12 : Int) = parseE s.data.toList from by
          have hb : (Ar.pbody s.data.toList).all Ar.dig = false := by
            rw [HB.out, List.all_eq_false]; exact ⟨s[j]'hjl, List.getElem_mem (by rw [HSL.out]; exact hjl), hdg⟩
          have hg := Ar.bad_digit _ hb
          unfold parseV parseE; rw [hg]; exact ⟨rfl, rfl⟩)
        have h1 : ¬ (48 ≤ (s[j]'hjl).toNat ∧ (s[j]'hjl).toNat ≤ 57) := fun h => hdg (decide_eq_true h)
        clear hdg
        by_cases hlo : (s[j]'hjl).toNat < 48
        · go_wp2
          go_ret2
          exact ⟨ret_two HV.out.1 HV.out.2, hbl⟩
        · have hhi : 57 < (s[j]'hjl).toNat := by omega
          go_wp2
          go_ret2
          exact ⟨ret_two HV.out.1 HV.out.2, hbl⟩
    · obtain rfl : k = s.size := by omega
      have hDD : D = Ar.revd s.data.toList := by have := hD.out.1; rw [Nat.sub_self, List.drop_zero] at this; exact this
      have hall : s.data.toList.all Ar.dig = true := by have := hD.out.2; rw [Nat.sub_self, List.drop_zero] at this; exact this
      have hne : Ar.pbody s.data.toList ≠ [] := by rw [HB.out]; intro h; have := HSL.out; rw [h] at this; simp at this; omega
      have hs0 : (Ar.pbody s.data.toList).headD 0 = s[0] := by
        rw [HB.out]
        have h9 : s.data.toList[0]? = some s[0] := by rw [List.getElem?_eq_getElem (by rw [HSL.out]; exact h0)]; rfl
        cases hc : s.data.toList with
        | nil => rw [hc] at h9; simp at h9
        | cons x r => rw [hc] at h9; simpa using h9
      by_cases hz : s[0] = 48 ∧ 1 < s.size
      · have HV := Lib.hid (show (0 : Int) = parseV s.data.toList ∧ (12 : Int) = parseE s.data.toList from by
          have hg := Ar.bad_zero s.data.toList (by rw [hs0]; exact hz.1) (by rw [HSL.out]; exact hz.2)
          unfold parseV parseE; rw [hg]; exact ⟨rfl, rfl⟩)
        have hb48 : ((s[0].toNat : Int) == 48) = true := by rw [hz.1]; rfl
        have hl1 : (1 : Int) < s.size := by have := hz.2; omega
        have hsz0 : ((s.size : Int) == 0) = false := beq_eq_false_iff_ne.2 (by omega)
        clear hz hs0 hne hall hDD
        go_wp2
        go_ret2
        exact ⟨ret_two HV.out.1 HV.out.2, hbl⟩
      · obtain ⟨zz, hzz⟩ : ∃ zz, zz = Ar.pz s.data.toList := ⟨_, rfl⟩
        have hg : Ar.pgood s.data.toList = true := Ar.good_when _ (by rw [HB.out]; exact hall) hne (by rw [hs0, HSL.out]; exact hz)
        have hval : zz = Ar.val D := by rw [hzz, hDD, Ar.val_revd]; unfold Ar.pz; rw [H45.out, HB.out]; rfl
        have HV := Lib.hid (show narV zz = parseV s.data.toList ∧ narE zz = parseE s.data.toList from by
          unfold parseV parseE; rw [if_pos hg, if_pos hg, hzz]; exact ⟨rfl, rfl⟩)
        have hdd : Ar.Dig D := by rw [hDD]; exact Ar.revd_dig _ hall
        obtain ⟨A9, c9, h9, hI9, hl9, hc9⟩ := ints_of_own hown
        obtain ⟨rfl, rfl⟩ : A = A9 ∧ c = c9 := by simpa using h9
        have hfr := fresh_own hown
        have SG := Lib.hid (rsign_any false A s.size c D wr zz (by rw [hval]; rfl) hI9 hDl hc9 (by omega) hdd)
        have HI := Lib.hid hI9
        have HDL := Lib.hid hDl
        have HDD := Lib.hid hdd
        have hcase : (inR zz = true ∧ narE zz = 0) ∨ (inR zz = false ∧ narE zz = 2 ∧ narV zz = 0) := by
          unfold inR narE narV
          by_cases h : -9223372036854775808 ≤ zz ∧ zz ≤ 9223372036854775807
          · left; rw [if_pos h]; exact ⟨decide_eq_true h, rfl⟩
          · right; rw [if_neg h, if_neg h]; exact ⟨decide_eq_false h, rfl, rfl⟩
        have HC := Lib.hid hcase
        have hzb : ((s[0].toNat : Int) == 48) = false ∨ (((s[0].toNat : Int) == 48) = true ∧ ¬ (1 : Int) < s.size) := by
          by_cases h : s[0] = 48
          · right; exact ⟨by rw [h]; rfl, fun h1 => hz ⟨h, by omega⟩⟩
          · left; rw [beq_eq_false_iff_ne]; intro h1; exact h (UInt8.toNat_inj.1 (by simpa using (by omega : s[0].toNat = 48)))
        clear hz hs0 hne hall hDD hzz hg hval hI9 hl9 hDl hdd hcase h9
        generalize hir : inR zz = ir at *
        have HIR := Lib.hid hir
        clear hir
        have hsz0 : ((s.size : Int) == 0) = false := beq_eq_false_iff_ne.2 (by omega)
        rcases hzb with hzb | ⟨hzb, hl1⟩
        all_goals
          cases ir
          all_goals
            go_wp2_with (first | (go_at_call 36; refine SG.out.mono ?_; rintro e w1 ⟨m, he, hm, hr1, hb1⟩; generalize hsb : decide (zz < 0) = sb at he; have HSB := Lib.hid hsb; clear hsb; subst he) | (go_at_call 35; refine (small_num (.agg #[.bool sb, .slice A m c]) zz s.size (w.heap.size + 1) _ ⟨A, c, D.take m, by rw [HSB.out, List.length_take, HDL.out, Nat.min_eq_left hm], (HI.out.keep hb1).take m, hfr, by rw [List.length_take]; omega, HDD.out.take m, hr1.out.1, hr1.out.2, by rw [List.length_take, HDL.out]; omega⟩ (by omega)).mono ?_; rintro e w2 ⟨he, hb2⟩; rw [HIR.out] at he; subst he))
            go_ret2
            refine ⟨ret_two (Eq.trans ?_ HV.out.1) (Eq.trans ?_ HV.out.2), (hbl.trans (hb1.mono hbl.size)).trans (hb2.mono (hbl.trans (hb1.mono hbl.size)).size)⟩
            · rcases HC.out with h | h <;> first | exact Bool.noConfusion h.1 | rfl | exact h.2.2.symm
            · rcases HC.out with h | h <;> first | exact Bool.noConfusion h.1 | exact h.2.symm | exact h.2.1.symm
end Go.Proofs.Ytgdfjcmjhagmoaa
