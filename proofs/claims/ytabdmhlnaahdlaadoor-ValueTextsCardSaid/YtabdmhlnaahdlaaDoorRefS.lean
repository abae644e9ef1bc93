/- The reference's number of a text that begins with '-'. -/
import Derived.Test.YtabdmhlnaahdlaaDoorRefR
namespace Go.Proofs.YtabdmhlnaahdlaaDoor
open Go.ChangeShapes Go.WideShapes Go.ChangeAt Go.RowKit Go.Deep
set_option maxRecDepth 100000 in
set_option maxHeartbeats 1000000 in
theorem refparse_neg (s : ByteArray) (w : World) (hs : s.size ≤ 700) (h0 : 0 < s.size) (h45 : Ar.pneg s.data.toList = true) :
    Calls Tryd.prog 13/-f-/ #[.string s] w fun e w' => e = .returned (.tuple #[.int .i64 (parseV s.data.toList), .int .i64 (parseE s.data.toList)]) ∧ Below w.heap.size w w' := by
  obtain ⟨i0, hi, hz0, hz1, hz2⟩ := info_parts int_info
  have hsl : s.data.toList.length = s.size := by simp
  have HSL := Lib.hid hsl
  clear hsl
  have hb45 : ((s[0].toNat : Int) == 45) = true := by
    have h9 : s.data.toList[0]? = some s[0] := by rw [List.getElem?_eq_getElem (by rw [HSL.out]; exact h0)]; rfl
    have hs0 : s.data.toList.headD 0 = s[0] := by
      cases hc : s.data.toList with
      | nil => rw [hc] at h9; simp at h9
      | cons x r => rw [hc] at h9; simpa using h9
    have h2 := h45; unfold Ar.pneg at h2; rw [beq_iff_eq, hs0] at h2
    rw [h2]; rfl
  have HB := Lib.hid (show Ar.pbody s.data.toList = s.data.toList.drop 1 from by unfold Ar.pbody; rw [if_pos h45, List.drop_one])
  have H45 := Lib.hid h45
  clear h45
  go_enter Tryd.func13, Tryd.ntmps13
  go_wp2
  go_loopw [6] (fun i wr => ∃ (k : Nat) (A : Option Addr) (c : Nat) (D : List Int), k ≤ s.size - 1 ∧ i = .int .i64 ((s.size : Int) - 1 - k) ∧ Hid (D = Ar.revd (s.data.toList.drop (s.size - k)) ∧ (s.data.toList.drop (s.size - k)).all Ar.dig = true) ∧ D.length = k ∧ wr.ownsRow (w.heap.size + 1) 3 1 (.slice A k c) k (D.map (Value.int .i64)) ∧ Below w.heap.size w wr ∧ w.heap.size < wr.heap.size ∧ Blk wr w.heap.size 66 #[.bool false, .slice A k c]) (fun i _ => (intOf i + 1).toNat)
  case atStart =>
    exact ⟨0, none, 0, [], Nat.zero_le _, by simp, Lib.hid ⟨by rw [Nat.sub_zero, ← HSL.out, List.drop_length]; rfl, by rw [Nat.sub_zero, ← HSL.out, List.drop_length]; rfl⟩, rfl, ⟨by simp, .inl ⟨rfl, rfl⟩⟩, (Below.refl _ _).alloc (Nat.le_refl _) _, by simp, Blk.new w 66 #[.bool false, .slice none 0 0]⟩
  case round =>
    obtain ⟨k, A, c, D, hk, rfl, hD, hDl, hown, hbl, hlt0, hblk⟩ := hrel
    have c0 := hblk.cell 0
    have c1 := hblk.cell 1
    have f0 := hblk.frozen 0
    have f1 := hblk.frozen 1
    simp at c0 c1
    by_cases hlt : k < s.size - 1
    · have hj : s.size - 1 - k < s.size := by omega
      obtain ⟨j, hjk⟩ : ∃ j : Nat, (s.size : Int) - 1 - k = (j : Int) := ⟨s.size - 1 - k, by omega⟩
      rw [hjk]
      have hjl : j < s.size := by omega
      have hj1 : 1 ≤ j := by omega
      have hj1' : (1 : Int) ≤ (j : Int) := by omega
      have HJ := Lib.hid hjk
      clear hjk hj
      by_cases hdg : Ar.dig (s[j]'hjl) = true
      · have h1 := of_decide_eq_true hdg
        have HDG := Lib.hid hdg
        clear hdg
        have hownD := Lib.hid (show (wr.alloc (.cells #[.int .i64 (IntKind.i64.wrap (IntKind.u8.wrap (((s[j]'hjl).toNat : Int) - 48)))] 3)).drew.ownsRow (w.heap.size + 1) 3 1 (.slice A k c) k (D.map (Value.int .i64)) from hown.alloc _)
        have hnews := Lib.hid (World.news_of_block (w := (wr.alloc (.cells #[.int .i64 (IntKind.i64.wrap (IntKind.u8.wrap (((s[j]'hjl).toNat : Int) - 48)))] 3)).drew) (B := wr.heap.size) (cs := #[.int .i64 (IntKind.i64.wrap (IntKind.u8.wrap (((s[j]'hjl).toNat : Int) - 48)))]) (t := 3) (fr := (0, 0)) (heap_alloc_new wr (.cells #[.int .i64 (IntKind.i64.wrap (IntKind.u8.wrap (((s[j]'hjl).toNat : Int) - 48)))] 3)))
        have hwrap : IntKind.i64.wrap (IntKind.u8.wrap (((s[j]'hjl).toNat : Int) - 48)) = ((s[j]'hjl).toNat : Int) - 48 := by rw [IntKind.wrap_i64, IntKind.wrap_u8]; omega
        have HW := Lib.hid hwrap
        clear hwrap
        go_upto_region 10 with fail
        go_region_law (refine step_append_lies _ rfl (.tmp 37) (.tmp 43) 64 rfl (w.heap.size + 1) 3 i0 (.int .i64 0) 1 8 Tryd.underlying64 hi hz0 hz1 hz2 rfl (by decide) (.slice A k c) k (D.map (Value.int .i64)) (by simp [Act.eval, Act.put]) hownD.out ⟨wr.heap.size, 0, none⟩ 1 1 [.int .i64 (IntKind.i64.wrap (IntKind.u8.wrap (((s[j]'hjl).toNat : Int) - 48)))] (by simp [Act.eval, Act.put]) rfl hnews.out (by simp [Value.oneCell']) (by decide) (by unfold maxLen; omega) (by omega) (by simp; omega) _ rfl ?_; intro g cap w1 hown1 hgrow hat hltg; have hblk1 := grown_blk hblk (Nat.lt_succ_self _) hown (o := .cells #[.int .i64 (IntKind.i64.wrap (IntKind.u8.wrap (((s[j]'hjl).toNat : Int) - 48)))] 3) ⟨hgrow.1, hgrow.2, hgrow.3, hgrow.4, hgrow.5⟩; have d1 := hblk1.cell 1; have e1 := hblk1.frozen 1; have hlt1 := hblk1.lt; simp at d1)
        all_goals
          go_wp2
          go_roundw
          case rel =>
            have hbl1 := grown_below hbl (by omega) hown (o := .cells #[.int .i64 (IntKind.i64.wrap (IntKind.u8.wrap (((s[j]'hjl).toNat : Int) - 48)))] 3) ⟨hgrow.1, hgrow.2, hgrow.3, hgrow.4, hgrow.5⟩ (by omega)
            have hdrop : s.data.toList.drop (s.size - (k + 1)) = (s[j]'hjl) :: s.data.toList.drop (s.size - k) := by
              have e1 : s.size - (k + 1) = j := by have := HJ.out; omega
              have e2 : s.size - k = j + 1 := by have := HJ.out; omega
              rw [e1, e2, List.drop_eq_getElem_cons (by rw [HSL.out]; exact hjl)]; rfl
            have hX : IntKind.i64.wrap (IntKind.u8.wrap (((s[j]'hjl).toNat : Int) - 48)) = Ar.dv (s[j]'hjl) := HW.out
            refine ⟨k + 1, some ⟨g, 0, none⟩, cap, D ++ [Ar.dv (s[j]'hjl)], by omega, congrArg (Value.int .i64) (by have := HJ.out; omega), Lib.hid ⟨by rw [hdrop, Ar.revd_cons, ← hD.out.1], by rw [hdrop, List.all_cons, HDG.out, hD.out.2]; rfl⟩, by simp [hDl], ?_, hbl1.setCell (by simp) _, by simpa using hlt1, hblk1.put 1 _⟩
            have := ownsRow_setCell_below hown1 (a := ⟨w.heap.size, 1, none⟩) (Nat.lt_succ_self _) (.slice (some ⟨g, 0, none⟩) (k + 1) cap)
            rw [hX] at this
            simpa using this
          case measure => simp [intOf]
      · have HV := Lib.hid (show (0 : Int) = parseV s.data.toList ∧ (12 : Int) = parseE s.data.toList from by
          have hb : (Ar.pbody s.data.toList).all Ar.dig = false := by
            rw [HB.out, List.all_eq_false]; exact ⟨s[j]'hjl, List.mem_iff_getElem.2 ⟨j - 1, by rw [List.length_drop, HSL.out]; omega, by rw [List.getElem_drop]; show s.data.toList[1 + (j - 1)]'_ = s.data.toList[j]'_; congr 1; omega⟩, hdg⟩
          have hg := Ar.bad_digit _ hb
          unfold parseV parseE; rw [hg]; exact ⟨rfl, rfl⟩)
        have h1 : ¬ (48 ≤ (s[j]'hjl).toNat ∧ (s[j]'hjl).toNat ≤ 57) := fun h => hdg (decide_eq_true h)
        clear hdg
        by_cases hlo : (s[j]'hjl).toNat < 48
        · go_wp2
          go_ret2
          exact ⟨ret_two HV.out.1 HV.out.2, hbl⟩
        · have hhi : 57 < (s[j]'hjl).toNat := by omega
          go_wp2
          go_ret2
          exact ⟨ret_two HV.out.1 HV.out.2, hbl⟩
    · obtain rfl : k = s.size - 1 := by omega
      have e1 : s.size - (s.size - 1) = 1 := by omega
      have hDD : D = Ar.revd (s.data.toList.drop 1) := by have := hD.out.1; rw [e1] at this; exact this
      have hall : (s.data.toList.drop 1).all Ar.dig = true := by have := hD.out.2; rw [e1] at this; exact this
      clear e1
      by_cases h1 : s.size = 1
      · have HV := Lib.hid (show (0 : Int) = parseV s.data.toList ∧ (12 : Int) = parseE s.data.toList from by
          have hg := Ar.bad_empty s.data.toList (by rw [HB.out]; exact List.drop_eq_nil_of_le (by rw [HSL.out]; omega))
          unfold parseV parseE; rw [hg]; exact ⟨rfl, rfl⟩)
        have hsz1 : ((s.size : Int) == 1) = true := beq_iff_eq.2 (by omega)
        clear hall hDD
        go_wp2
        go_ret2
        exact ⟨ret_two HV.out.1 HV.out.2, hbl⟩
      have h2 : 1 < s.size := by omega
      have hsz0 : ((s.size : Int) == 1) = false := beq_eq_false_iff_ne.2 (by omega)
      have hne : Ar.pbody s.data.toList ≠ [] := by rw [HB.out]; intro h; have := congrArg List.length h; rw [List.length_drop, HSL.out] at this; simp at this; omega
      have hs0 : (Ar.pbody s.data.toList).headD 0 = s[1] := by
        rw [HB.out]
        have h9 : (s.data.toList.drop 1)[0]? = some s[1] := by rw [List.getElem?_drop, List.getElem?_eq_getElem (by rw [HSL.out]; exact h2)]; rfl
        cases hc : s.data.toList.drop 1 with
        | nil => rw [hc] at h9; simp at h9
        | cons x r => rw [hc] at h9; simpa using h9
      have hl1 : (1 : Int) < s.size := by omega
      by_cases hz : s[1] = 48
      · have HV := Lib.hid (show (0 : Int) = parseV s.data.toList ∧ (12 : Int) = parseE s.data.toList from by
          have hg := Ar.bad_zero s.data.toList (by rw [hs0]; exact hz) (by rw [HSL.out]; exact h2)
          unfold parseV parseE; rw [hg]; exact ⟨rfl, rfl⟩)
        have hb48 : ((s[1].toNat : Int) == 48) = true := by rw [hz]; rfl
        clear hz hs0 hne hall hDD
        go_wp2
        go_ret2
        exact ⟨ret_two HV.out.1 HV.out.2, hbl⟩
      · obtain ⟨zz, hzz⟩ : ∃ zz, zz = Ar.pz s.data.toList := ⟨_, rfl⟩
        have hg : Ar.pgood s.data.toList = true := Ar.good_when _ (by rw [HB.out]; exact hall) hne (by rw [hs0, HSL.out]; exact fun h => hz h.1)
        have hval : zz = -Ar.val D := by rw [hzz, hDD, Ar.val_revd]; unfold Ar.pz; rw [H45.out, HB.out]; rfl
        have HV := Lib.hid (show narV zz = parseV s.data.toList ∧ narE zz = parseE s.data.toList from by
          unfold parseV parseE; rw [if_pos hg, if_pos hg, hzz]; exact ⟨rfl, rfl⟩)
        have hdd : Ar.Dig D := by rw [hDD]; exact Ar.revd_dig _ hall
        obtain ⟨A9, c9, h9, hI9, hl9, hc9⟩ := ints_of_own hown
        obtain ⟨rfl, rfl⟩ : A = A9 ∧ c = c9 := by simpa using h9
        have hfr := fresh_own hown
        have SG := Lib.hid (sign_any true A (s.size - 1) c D wr zz (by rw [hval]; rfl) hI9 hDl hc9 (by omega) hdd)
        have HI := Lib.hid hI9
        have HDL := Lib.hid hDl
        have HDD := Lib.hid hdd
        have hcase : (inR zz = true ∧ narE zz = 0) ∨ (inR zz = false ∧ narE zz = 2 ∧ narV zz = 0) := by
          unfold inR narE narV
          by_cases h : -9223372036854775808 ≤ zz ∧ zz ≤ 9223372036854775807
          · left; rw [if_pos h]; exact ⟨decide_eq_true h, rfl⟩
          · right; rw [if_neg h, if_neg h]; exact ⟨decide_eq_false h, rfl, rfl⟩
        have HC := Lib.hid hcase
        have hzb : ((s[1].toNat : Int) == 48) = false := by
          rw [beq_eq_false_iff_ne]; intro h1; exact hz (UInt8.toNat_inj.1 (by simpa using (by omega : s[1].toNat = 48)))
        clear hz hs0 hne hall hDD hzz hg hval hI9 hl9 hDl hdd hcase h9
        generalize hir : inR zz = ir at *
        have HIR := Lib.hid hir
        clear hir
        cases ir
        all_goals
          go_wp2_with (first | (go_at_call 48; refine SG.out.mono ?_; rintro e w1 ⟨m, he, hm, hr1, hb1⟩; generalize hsb : decide (zz < 0) = sb at he; have HSB := Lib.hid hsb; clear hsb; subst he) | (go_at_call 47; refine (small_num (.agg #[.bool sb, .slice A m c]) zz (s.size - 1) (w.heap.size + 1) _ ⟨A, c, D.take m, by rw [HSB.out, List.length_take, HDL.out, Nat.min_eq_left hm], (HI.out.keep hb1).take m, hfr, by rw [List.length_take]; omega, HDD.out.take m, hr1.out.1, hr1.out.2, by rw [List.length_take, HDL.out]; omega⟩ (by omega)).mono ?_; rintro e w2 ⟨he, hb2⟩; rw [HIR.out] at he; subst he))
          go_ret2
          refine ⟨ret_two (Eq.trans ?_ HV.out.1) (Eq.trans ?_ HV.out.2), (hbl.trans (hb1.mono hbl.size)).trans (hb2.mono (hbl.trans (hb1.mono hbl.size)).size)⟩
          · rcases HC.out with h | h <;> first | exact Bool.noConfusion h.1 | rfl | exact h.2.2.symm
          · rcases HC.out with h | h <;> first | exact Bool.noConfusion h.1 | exact h.2.symm | exact h.2.1.symm
theorem refparse_empty (s : ByteArray) (w : World) (h0 : s.size = 0) :
    Calls Tryd.prog 13/-f-/ #[.string s] w fun e w' => e = .returned (.tuple #[.int .i64 (parseV s.data.toList), .int .i64 (parseE s.data.toList)]) ∧ Below w.heap.size w w' := by
  have hnil : s.data.toList = [] := List.eq_nil_of_length_eq_zero (by simpa using h0)
  have HV := Lib.hid (show (0 : Int) = parseV s.data.toList ∧ (12 : Int) = parseE s.data.toList from by
    rw [hnil]; unfold parseV parseE; exact ⟨rfl, rfl⟩)
  obtain rfl : s = ByteArray.empty := by apply ByteArray.ext; apply Array.toList_inj.1; rw [hnil]; rfl
  clear h0 hnil
  go_enter Tryd.func13, Tryd.ntmps13
  go_wp2
  go_loopw [6] (fun i wr => i = .int .i64 (-1) ∧ Below w.heap.size w wr) (fun i _ => 0)
  case atStart => exact ⟨rfl, (Below.refl _ _).alloc (Nat.le_refl _) _⟩
  case round =>
    obtain ⟨rfl, hbl⟩ := hrel
    go_wp2
    go_ret2
    exact ⟨ret_two HV.out.1 HV.out.2, hbl⟩
theorem refparse_any (s : ByteArray) (w : World) (hs : s.size ≤ 700) :
    Calls Tryd.prog 13/-f-/ #[.string s] w fun e w' => e = .returned (.tuple #[.int .i64 (parseV s.data.toList), .int .i64 (parseE s.data.toList)]) ∧ Below w.heap.size w w' := by
  by_cases h0 : s.size = 0
  · exact refparse_empty s w h0
  · cases hn : Ar.pneg s.data.toList with
    | true => exact refparse_neg s w hs (by omega) hn
    | false => exact refparse_plain s w hs (by omega) hn
end Go.Proofs.YtabdmhlnaahdlaaDoor
