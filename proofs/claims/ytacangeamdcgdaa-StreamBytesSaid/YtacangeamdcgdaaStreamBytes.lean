/- StreamBytes: any batches' bytes; any bytes' batches. No condition. -/
import Derived.Test.YtacangeamdcgdaaRows
import Derived.Test.YtacangeamdcgdaaSrp
namespace Go.Proofs.Ytacangeamdcgdaa.StreamBytes
open Go.ChangeShapes Go.WideShapes Go.ChangeAt Go.RowKit Go.Deep
set_option maxRecDepth 100000 in
set_option maxHeartbeats 32000000 in
theorem walk (A : Option Addr) (n c : Nat) (B : Option Addr) (m d : Nat) (cs : List Col) (bs : List Bat) (s : ByteArray) (w : World) (hA : Cols w A cs) (hn : cs.length = n) (hn9 : n ≤ 9223372036854775807) (hnc : n ≤ c) (hcf : ∀ x ∈ cs, FitC x) (hB : Bats w B bs) (hm : bs.length = m) (hm9 : m ≤ 9223372036854775807) (hbf : ∀ x ∈ bs, FitB x) (hs9 : s.size ≤ 9223372036854775807) :
    Calls Try.prog 6/-f-/ #[.slice A n c, .slice B m d, .string s] w fun e w' => e = .returned (.bool true) ∧ Below w.heap.size w w' := by
  subst hn hm
  have AW := Lib.hid awake_any
  have GL' := greatl_any ⟨#[]⟩ A c cs B d bs w (by decide) hA hn9 hnc hcf hB hm9 hbf
  obtain ⟨q, hq⟩ : ∃ q, q = greatL ⟨#[]⟩ cs bs := ⟨_, rfl⟩
  rw [← hq] at GL'
  have GL := Lib.hid GL'
  have HQ := Lib.hid hq
  clear GL' hq
  cases q with
  | true =>
    go_enter Try.func6, Try.ntmps6
    go_wp2_with (first
      | (go_at_call 9/-f-/; (with_reducible refine GL.out.mono ?_); rintro e w2 ⟨rfl, hb2⟩; have HB2 := Lib.hid hb2; clear hb2)
      | (go_at_call 10/-f-/; (with_reducible refine (AW.out _).mono ?_); rintro e w9 ⟨rfl, hb9⟩; have HB9 := Lib.hid (HB2.out.trans (hb9.mono HB2.out.size)); clear hb9))
    go_ret
    exact ⟨rfl, HB9.out⟩
  | false =>
  obtain ⟨hc12, hb40, hrows⟩ := greatl_no HQ.out.symm
  have HA := Lib.hid hA
  have HBS := Lib.hid hB
  have HBF := Lib.hid hbf
  have HCF := Lib.hid hcf
  have HRW := Lib.hid hrows
  clear hA hB hbf hcf hrows
  by_cases hs3 : 3000 < s.size
  · have hs3i : (3000 : Int) < (s.size : Int) := by omega
    go_enter Try.func6, Try.ntmps6
    go_wp2_with (first
      | (go_at_call 9/-f-/; (with_reducible refine GL.out.mono ?_); rintro e w2 ⟨rfl, hb2⟩; have HB2 := Lib.hid hb2; clear hb2)
      | (go_at_call 10/-f-/; (with_reducible refine (AW.out _).mono ?_); rintro e w9 ⟨rfl, hb9⟩; have HB9 := Lib.hid (HB2.out.trans (hb9.mono HB2.out.size)); clear hb9))
    go_ret
    exact ⟨rfl, HB9.out⟩
  have hs3i : ¬ (3000 : Int) < (s.size : Int) := by omega
  have hbf : ∀ b ∈ bs, b.id ≤ 9223372036854775807 ∧ -9223372036854775808 ≤ b.id ∧ b.rows.length ≤ 40 ∧ ∀ r ∈ b.rows, r.length ≤ 30 ∧ ∀ x ∈ r, FitV x := fun b hb => ⟨(HBF.out b hb).id.2, (HBF.out b hb).id.1, (HRW.out b hb).1, fun r hr => ⟨(HRW.out b hb).2 r hr, ((HBF.out b hb).rows r hr).2⟩⟩
  have HBB := Lib.hid hbf
  have C0 := Lib.hid (fun W => refsize_any (bs.length : Int) W (by omega) (by omega))
  have h9 := num_len9 bs.length (by omega)
  clear hbf
  go_enter Try.func6, Try.ntmps6
  go_wp2_with (first
    | (go_at_call 9/-f-/; (with_reducible refine GL.out.mono ?_); rintro e w2 ⟨rfl, hb2⟩; have HB2 := Lib.hid hb2; clear hb2)
    | (go_at_call 27/-f-/; (with_reducible refine (C0.out _).mono ?_); rintro e w3 ⟨rfl, hb3⟩; have HB3 := Lib.hid (HB2.out.trans (hb3.mono HB2.out.size)); clear hb3))
  go_loopw [7, 8] (fun sv i wr => ∃ (k : Nat) (S : ByteArray), k ≤ bs.length ∧ i = .int .i64 k ∧ sv = .string S ∧ S.size ≤ 9 + 252378 * k ∧ Hid (S.data.toList = num bs.length ++ (bs.take k).flatMap batW) ∧ Hid (Below w.heap.size w wr)) (fun _ i _ => bs.length - (intOf i).toNat)
  case atStart => exact ⟨0, _, Nat.zero_le _, rfl, rfl, by rw [str_size]; simp; omega, Lib.hid (by simp), HB3⟩
  case round =>
    obtain ⟨k, S, hk, rfl, rfl, hSs, hS, hbl⟩ := hrel
    obtain ⟨wx, rfl⟩ : ∃ x, x = wr := ⟨wr, rfl⟩
    have hsz := hbl.out.size
    by_cases hlt : k < bs.length
    · obtain ⟨b, off, rfl, hbw, Ai, ci, x0, x1, hrz⟩ := bats_at (HBS.out.keep hbl.out) hlt
      have hM : bs.getD k default ∈ bs := by simp [List.getD, hlt]
      have hfb := HBB.out _ hM
      have HT := Lib.hid (bats_take bs k hlt)
      have hki : (k : Int) < (bs.length : Int) := by omega
      have hk0 : (0 : Int) ≤ (k : Int) := by omega
      generalize bs.getD k default = x at *
      obtain ⟨xi, rs⟩ := x
      simp only at x0 x1 hrz hfb
      have hr1 : ∀ r ∈ rs, r.length ≤ 1000 ∧ ∀ x ∈ r, FitV x := fun r hr => ⟨by have := (hfb.2.2.2 r hr).1; omega, (hfb.2.2.2 r hr).2⟩
      have hrl : rs.length ≤ 40 := hfb.2.2.1
      have C1' := fun W => refsize_any xi W hfb.2.1 hfb.1
      have C2' := fun W (hb : Below wx.heap.size wx W) => refrows_any4 Ai rs.length ci rs W (hrz.below hb) rfl hr1 (by omega)
      obtain ⟨T1, hT1⟩ : ∃ T : ByteArray, T = ⟨(num xi.toNat).toArray⟩ := ⟨_, rfl⟩
      obtain ⟨T2, hT2⟩ : ∃ T : ByteArray, T = ⟨(rowsW rs).toArray⟩ := ⟨_, rfl⟩
      rw [← hT1] at C1'
      rw [← hT2] at C2'
      have C1 := Lib.hid C1'
      have C2 := Lib.hid C2'
      have hn9 := num_len9 xi.toNat (by have := hfb.1; omega)
      have hbl40 := bat_len40 ⟨xi, rs⟩ hfb.1 hrl hfb.2.2.2
      have hT1s : T1.size ≤ 9 := by rw [hT1, str_size]; exact hn9
      have hT12 : T1.size + T2.size ≤ 252378 := by
        rw [hT1, hT2, str_size, str_size]
        unfold batW at hbl40
        rw [List.length_append] at hbl40
        exact hbl40
      have HTT := Lib.hid (show T1.data.toList ++ T2.data.toList = batW ⟨xi, rs⟩ from by rw [hT1, hT2]; rfl)
      have hcc : ¬ (9223372036854775807 < S.size + T1.size) := by omega
      have hcc2 : ¬ (9223372036854775807 < S.size + T1.size + T2.size) := by omega
      have HR := Lib.hid (Below.refl wx.heap.size wx)
      clear hT1 hT2 C1' C2' hr1 hfb hM hrz hn9 hbl40
      go_upto_region 7 with fail
      go_region_held3 (fun W => W.cell? ⟨b, off + k * 2, none⟩ = some (.int .i64 xi) ∧ W.cell? ⟨b, off + k * 2 + 1, none⟩ = some (.slice Ai rs.length ci))
        (first | exact ⟨x0, x1⟩ | (refine ⟨(HH.out.cell (p := ⟨b, off + k * 2, none⟩) hbw).trans x0, (HH.out.cell (p := ⟨b, off + k * 2 + 1, none⟩) hbw).trans x1⟩))
        (first
          | (go_at_call 27/-f-/; (with_reducible refine (C1.out _).mono ?_); rintro e w4 ⟨rfl, hb4⟩; have HH := Lib.hid (show Below wx.heap.size wx w4 from ⟨hb4.os, hb4.tape, hb4.output, hb4.size, hb4.block⟩); clear hb4)
          | (go_at_call 28/-f-/; (with_reducible refine (C2.out _ HH.out).mono ?_); rintro e w5 ⟨rfl, hb5⟩; replace HH := Lib.hid (HH.out.trans (hb5.mono HH.out.size)); clear hb5))
      go_wp2
      go_roundw
      case rel => exact ⟨k + 1, _, hlt, by go_num, rfl, by rw [ByteArray.size_append, ByteArray.size_append]; omega, Lib.hid (by rw [ByteArray.data_append, Array.toList_append, ByteArray.data_append, Array.toList_append, hS.out, HT.out, List.append_assoc, List.append_assoc, HTT.out]), Lib.hid (hbl.out.trans (HH.out.mono hsz))⟩
      case measure => simp [intOf]; omega
    · have hkl : k = bs.length := by omega
      subst hkl
      rw [List.take_length] at hS
      have HSE := Lib.hid (show S = ⟨(batsW bs).toArray⟩ from by
        apply ByteArray.ext
        apply Array.toList_inj.1
        rw [hS.out]; rfl)
      obtain ⟨i0, hi, hz0, hz1, hz2⟩ := info_parts infoBat
      have SB' := fun W (hb : Below w.heap.size w W) => sbytes_any B d bs W (HBS.out.keep hb) hb40 HBB.out
      rw [← HSE.out] at SB'
      have SB := Lib.hid SB'
      have hSS : (S.toList == S.toList) = true := beq_self_eq_true _
      have hsl : s.data.toList.length = s.size := by simp
      obtain ⟨g, hg⟩ : ∃ g, g = wx.heap.size := ⟨_, rfl⟩
      have HG0 := Lib.hid hg
      have HBP := Lib.hid (hbl.out.alloc hsz (.cells #[.string s, .bool false] 60))
      have HP0 := Lib.hid (pt_new wx s (by omega))
      have C3' := psize_any wx.heap.size 1048576 (some s.data.toList) _ HP0.out (by decide)
      have HRES' := (step_many 1048576 (batR cs) (batsR cs 1048576) (fun _ => rfl) (some s.data.toList))
      have HRB' := readB_step cs s.data.toList
      rw [stepR_congr [] (batsR cs s.data.toList.length) (batsR cs 1048576) s.data.toList (bats_most cs s.data.toList 1048576 (by omega)).symm] at HRB'
      have HOK := Lib.hid (bats_okS cs 1048576 (some s.data.toList))
      have hmn := size_lt 1048576 (some s.data.toList) (by decide)
      have hl1 := len_size 1048576 (some s.data.toList)
      simp only [Option.getD_some] at hl1
      generalize stepR 0 (sizeR 1048576) (some s.data.toList) = q0 at *
      obtain ⟨n0, st0⟩ := q0
      simp only at C3' HRES' hmn hl1
      obtain ⟨R, hR⟩ : ∃ R, R = readB cs s.data.toList := ⟨_, rfl⟩
      rw [← hR] at HRB'
      have HR := Lib.hid hR.symm
      generalize stepR [] (batsR cs 1048576) (some s.data.toList) = res at *
      have C3 := Lib.hid C3'
      have HRES := Lib.hid HRES'
      have HRB := Lib.hid HRB'
      clear SB' C3' HRES' HRB' hR hg
      go_wp2_with (first
        | (go_at_call 29/-f-/; (with_reducible refine C3.out.mono ?_); rintro e w1 ⟨rfl, hp1, ho1⟩; have HP1 := Lib.hid hp1; have HO1 := Lib.hid ho1; clear hp1 ho1))
      rw [← HG0.out] at HP1 HO1 ⊢
      have hws0 : w.heap.size ≤ g := by rw [HG0.out]; exact hsz
      have HB1 := Lib.hid (HBP.out.trans (HO1.out.below (B := w.heap.size) (fun k hk e => by omega) HBP.out.size))
      have hgl : g < w1.heap.size := HP1.out.lt
      have hws : w.heap.size ≤ w1.heap.size := HB1.out.size
      have HBEL := Lib.hid (fun W (h : Off (· = g) w1 W) => HB1.out.trans (h.below (B := w.heap.size) (fun k hk e => by omega) hws))
      clear HO1 HBP HP0 C3
      go_loopw [10, 12, 13] (fun lv iv _ wr => ∃ (acc : List Bat) (j m : Nat) (st : Option (List UInt8)), iv = .int .i64 j ∧ j + m = n0 ∧ (∃ B k d, lv = .slice B k d) ∧ Pt wr g st ∧ Off (· = g) w1 wr ∧ (st.isSome = true → RowB wr w1.heap.size lv acc ∧ acc.length + (st.getD []).length ≤ 3000) ∧ Hid (res = moreR (batR cs) acc m st)) (fun _ iv _ _ => n0 - (intOf iv).toNat)
      case atStart => exact ⟨[], 0, n0, st0, rfl, by omega, ⟨_, _, _, rfl⟩, HP1.out, Off.refl _ _, fun _ => ⟨RowB.nil _ _, by simp; omega⟩, HRES⟩
      case round =>
        obtain ⟨acc, j, mm, st, rfl, hjm, ⟨B5, kk, dd, rfl⟩, hrd, ho, hrow, heq⟩ := hrel
        have HRD := Lib.hid hrd
        have HO := Lib.hid ho
        have hbs : w1.heap.size ≤ wr.heap.size := ho.size
        obtain ⟨gc1, gf1, glt⟩ := hrd.at_
        clear hrd ho
        cases st with
        | none =>
          have HX := Lib.hid (show readB cs s.data.toList = none from by rw [HR.out, HRB.out, heq.out]; rfl)
          clear hrow
          by_cases hlt : j < n0
          · have hlti : (j : Int) < (n0 : Int) := by omega
            go_wp2_with (first
              | (go_at_call 31/-f-/; (with_reducible refine (read_no s A c cs _ (HA.out.keep (HBEL.out _ HO.out)) (by omega) (by omega) HX.out).mono ?_); rintro e w8 ⟨rfl, hb8⟩; have HB8 := Lib.hid ((HBEL.out _ HO.out).trans (hb8.mono (HBEL.out _ HO.out).size)); have HP8 := Lib.hid (HRD.out.more hb8); obtain ⟨gd1, ge1, glt8⟩ := HP8.out.isbad; clear hb8)
              | (go_at_call 32/-f-/; (with_reducible refine (SB.out _ HB8.out).mono ?_); rintro e w10 ⟨rfl, hb10⟩; have HB10 := Lib.hid (HB8.out.trans (hb10.mono HB8.out.size)); clear hb10)
              | (go_at_call 10/-f-/; (with_reducible refine (AW.out _).mono ?_); rintro e w9 ⟨rfl, hb9⟩; have HB9 := Lib.hid (HB10.out.trans (hb9.mono HB10.out.size)); clear hb9))
            go_ret
            exact ⟨rfl, HB9.out⟩
          · have hlti : ¬ (j : Int) < (n0 : Int) := by omega
            go_wp2_with (first
              | (go_at_call 31/-f-/; (with_reducible refine (read_no s A c cs _ (HA.out.keep (HBEL.out _ HO.out)) (by omega) (by omega) HX.out).mono ?_); rintro e w8 ⟨rfl, hb8⟩; have HB8 := Lib.hid ((HBEL.out _ HO.out).trans (hb8.mono (HBEL.out _ HO.out).size)); have HP8 := Lib.hid (HRD.out.more hb8); obtain ⟨gd1, ge1, glt8⟩ := HP8.out.isbad; clear hb8)
              | (go_at_call 32/-f-/; (with_reducible refine (SB.out _ HB8.out).mono ?_); rintro e w10 ⟨rfl, hb10⟩; have HB10 := Lib.hid (HB8.out.trans (hb10.mono HB8.out.size)); clear hb10)
              | (go_at_call 10/-f-/; (with_reducible refine (AW.out _).mono ?_); rintro e w9 ⟨rfl, hb9⟩; have HB9 := Lib.hid (HB10.out.trans (hb9.mono HB10.out.size)); clear hb9))
            go_ret
            exact ⟨rfl, HB9.out⟩
        | some l =>
          obtain ⟨hrowB, hsum⟩ := hrow rfl
          simp only [Option.getD_some] at hsum
          have hkk : kk = acc.length := by
            obtain ⟨A9, c9, e9, _⟩ := hrowB.bats
            cases e9; rfl
          subst hkk
          have HROW := Lib.hid hrowB
          clear hrow hrowB
          by_cases hlt : j < n0
          · obtain ⟨m', rfl⟩ : ∃ m', mm = m' + 1 := ⟨mm - 1, by omega⟩
            have hlti : (j : Int) < (n0 : Int) := by omega
            have HEQ := Lib.hid (heq.out.trans (moreR_succ default (batR cs) acc m' l))
            have HST := Lib.hid (bat_step cs l)
            have HLS := Lib.hid (batS_len cs l)
            rw [batS_eq] at HST
            have CS := Lib.hid (psize_any g 9223372036854775807 (some l) wr HRD.out (by decide))
            have hln := len_size 9223372036854775807 (some l)
            simp only [Option.getD_some] at hln
            clear heq
            generalize stepR default (batR cs) (some l) = stt at *
            generalize stepR 0 (sizeR 9223372036854775807) (some l) = q at *
            obtain ⟨i, st2⟩ := q
            obtain ⟨x, s'⟩ := stt
            simp only at HST CS HEQ HLS hln
            have CR := Lib.hid (fun W (h : Pt W g st2) => prows_any g 32 8 st2 W h (by decide) (by decide) (by omega))
            have HFR := Lib.hid (rowsS_fit st2)
            generalize stepR [] (rowsR 32 8) st2 = q at *
            obtain ⟨rs, st3⟩ := q
            simp only at HST CR HFR
            have hr32 : rs.length ≤ 32 := HFR.out.1
            have CF' := fun U d5 W (h : Cols W A cs) (h2 : Rowz W U rs) => lfits_any A U c d5 cs rs W h h2 (by omega) hnc HCF.out (by omega) (fun r hr => ⟨by have := (HFR.out.2 r hr).1; omega, (HFR.out.2 r hr).2⟩)
            obtain ⟨f, hf⟩ : ∃ f, f = fitsS cs rs := ⟨_, rfl⟩
            rw [← hf] at HST CF'
            have CF := Lib.hid CF'
            have HS0 := Lib.hid (show PS w1 g (some l) (.slice B5 acc.length dd) acc wr from ⟨HRD.out, HO.out, HROW.out⟩)
            clear CF' hf HROW HO
            by_cases hi1 : i < 1
            · have hi1i : (i : Int) < 1 := by omega
              have HS' := Lib.hid (show s' = none from by rw [HST.out.1, if_pos (.inl hi1)])
              go_wp2_with (first
                | (go_at_call 29/-f-/; (with_reducible refine CS.out.mono ?_); rintro e w3 ⟨rfl, hp, ho⟩; have HS1 := Lib.hid (HS0.out.step hgl hp ho); have hg3 : g < w3.heap.size := hp.lt; clear hp ho)
                | (go_at_call 30/-f-/; (with_reducible refine (CR.out _ (HS1.out.pt.more (below_alloc w3 (.cells #[.int .i64 i, .slice none 0 0] 38)))).mono ?_); rintro e w6 ⟨⟨u, rfl, hrv⟩, hp, ho⟩; obtain ⟨U, d5, rfl, _⟩ := hrv.rowz; have hk6 := ho.blk (Blk.new w3 38 #[.int .i64 i, .slice none 0 0]) (show ¬ w3.heap.size = g from by omega); have HB3 := Lib.hid (BY.mk' hk6 (by simpa using hrv)); have HO3 := Lib.hid (show Off (· = g) w3 (w6.setCell ⟨w3.heap.size, 1, none⟩ (.slice U rs.length d5)) from (off_trans ((Off.refl _ _).alloc _) ho).put (fun h => absurd h (Nat.lt_irrefl _)) _); have HP3 := Lib.hid (show Pt (w6.setCell ⟨w3.heap.size, 1, none⟩ (.slice U rs.length d5)) g st3 from hp.off ((Off.refl (fun x => x = w3.heap.size) w6).put (p := ⟨w3.heap.size, 1, none⟩) (fun _ => rfl) _) (by omega)); obtain ⟨kc0, kc1, kf1, klt⟩ := blk_cf hk6; obtain ⟨gc1, gf1, glt⟩ := hp.at_; have hne : w3.heap.size ≠ g := (by omega); have hne2 : g ≠ w3.heap.size := (by omega); clear hp ho hrv hk6)
                | (have HBD := HP3.out.bad; have HSX := Lib.hid (HS1.out.step hgl HBD.1 (off_trans HO3.out HBD.2)); have HRX := Lib.hid ((HB3.out.off hg3 HBD.2).row.mono (show w1.heap.size ≤ w3.heap.size + 1 from Nat.le_succ_of_le HS1.out.off.size)); clear HBD; obtain ⟨ps, hp0, hp1, hp2⟩ := HSX.out.row; at_builtin; refine wpList_append_src _ rfl _ _ 25 rfl w1.heap.size 38 i0 (.agg #[.int .i64 0, .slice none 0 0]) 2 32 Try.underlying25/-t-/ hi hz0 hz1 hz2 rfl (by decide) (.slice B5 acc.length dd) acc.length (pcells ps) rfl (World.ownsRow.alloc hp1 _) _ 1 1 [.int .i64 i, .slice U rs.length d5] rfl (Src.batN _ _ _ _ _ _ (by simp)) (by unfold maxLen; omega) (by omega) (by have := HSX.out.off.size; simp at this ⊢; omega) ?_; intro v3 w9 hown3 hgr3 hnew3; obtain ⟨A1, cc1, rfl⟩ := own_slice hown3; have HM := Lib.hid (HSX.out.more hgl HRX.out hp0 hp1 hp2 hown3 hgr3); clear hown3 hgr3 hnew3 hp0 hp1 hp2))
              go_roundw
              case rel => exact ⟨acc ++ [x], j + 1, m', s', by go_num, by omega, ⟨_, _, _, rfl⟩, HS'.out ▸ HM.out.pt, HM.out.off, fun h => (by rw [HS'.out] at h; cases h), HEQ⟩
              case measure => simp [intOf]; omega
            · have hi1i : ¬ (i : Int) < 1 := by omega
              cases f with
              | false =>
                have HS' := Lib.hid (show s' = none from by rw [HST.out.1, if_pos (.inr rfl)])
                go_wp2_with (first
                | (go_at_call 29/-f-/; (with_reducible refine CS.out.mono ?_); rintro e w3 ⟨rfl, hp, ho⟩; have HS1 := Lib.hid (HS0.out.step hgl hp ho); have hg3 : g < w3.heap.size := hp.lt; clear hp ho)
                | (go_at_call 30/-f-/; (with_reducible refine (CR.out _ (HS1.out.pt.more (below_alloc w3 (.cells #[.int .i64 i, .slice none 0 0] 38)))).mono ?_); rintro e w6 ⟨⟨u, rfl, hrv⟩, hp, ho⟩; obtain ⟨U, d5, rfl, _⟩ := hrv.rowz; have hk6 := ho.blk (Blk.new w3 38 #[.int .i64 i, .slice none 0 0]) (show ¬ w3.heap.size = g from by omega); have HB3 := Lib.hid (BY.mk' hk6 (by simpa using hrv)); have HO3 := Lib.hid (show Off (· = g) w3 (w6.setCell ⟨w3.heap.size, 1, none⟩ (.slice U rs.length d5)) from (off_trans ((Off.refl _ _).alloc _) ho).put (fun h => absurd h (Nat.lt_irrefl _)) _); have HP3 := Lib.hid (show Pt (w6.setCell ⟨w3.heap.size, 1, none⟩ (.slice U rs.length d5)) g st3 from hp.off ((Off.refl (fun x => x = w3.heap.size) w6).put (p := ⟨w3.heap.size, 1, none⟩) (fun _ => rfl) _) (by omega)); obtain ⟨kc0, kc1, kf1, klt⟩ := blk_cf hk6; obtain ⟨gc1, gf1, glt⟩ := hp.at_; have hne : w3.heap.size ≠ g := (by omega); have hne2 : g ≠ w3.heap.size := (by omega); clear hp ho hrv hk6)
                | (go_at_call 15/-f-/; (with_reducible refine (CF.out U d5 _ (HA.out.keep (HBEL.out _ (off_trans HS1.out.off HO3.out))) (HB3.out.row.is)).mono ?_); rintro e w7' ⟨rfl, hb⟩; replace HB3 := Lib.hid (HB3.out.off hg3 (Off.of hb)); replace HP3 := Lib.hid (HP3.out.more hb); replace HO3 := Lib.hid (off_trans HO3.out (Off.of hb)); obtain ⟨c0, c1, f1, hlt7⟩ := blk_cf HB3.out.blk; obtain ⟨gd1, ge1, glt7⟩ := HP3.out.at_; clear hb)
                | (have HBD := HP3.out.bad; have HSX := Lib.hid (HS1.out.step hgl HBD.1 (off_trans HO3.out HBD.2)); have HRX := Lib.hid ((HB3.out.off hg3 HBD.2).row.mono (show w1.heap.size ≤ w3.heap.size + 1 from Nat.le_succ_of_le HS1.out.off.size)); clear HBD; obtain ⟨ps, hp0, hp1, hp2⟩ := HSX.out.row; at_builtin; refine wpList_append_src _ rfl _ _ 25 rfl w1.heap.size 38 i0 (.agg #[.int .i64 0, .slice none 0 0]) 2 32 Try.underlying25/-t-/ hi hz0 hz1 hz2 rfl (by decide) (.slice B5 acc.length dd) acc.length (pcells ps) rfl (World.ownsRow.alloc hp1 _) _ 1 1 [.int .i64 i, .slice U rs.length d5] rfl (Src.batN _ _ _ _ _ _ (by simp)) (by unfold maxLen; omega) (by omega) (by have := HSX.out.off.size; simp at this ⊢; omega) ?_; intro v3 w9 hown3 hgr3 hnew3; obtain ⟨A1, cc1, rfl⟩ := own_slice hown3; have HM := Lib.hid (HSX.out.more hgl HRX.out hp0 hp1 hp2 hown3 hgr3); clear hown3 hgr3 hnew3 hp0 hp1 hp2))
                go_roundw
                case rel => exact ⟨acc ++ [x], j + 1, m', s', by go_num, by omega, ⟨_, _, _, rfl⟩, HS'.out ▸ HM.out.pt, HM.out.off, fun h => (by rw [HS'.out] at h; cases h), HEQ⟩
                case measure => simp [intOf]; omega
              | true =>
                have HS' := Lib.hid (show s' = st3 from by rw [HST.out.1, if_neg (by simp; omega)])
                have HX' := Lib.hid (fun h : s'.isSome = true => HST.out.2 (HST.out.1 ▸ h))
                go_wp2_with (first
                | (go_at_call 29/-f-/; (with_reducible refine CS.out.mono ?_); rintro e w3 ⟨rfl, hp, ho⟩; have HS1 := Lib.hid (HS0.out.step hgl hp ho); have hg3 : g < w3.heap.size := hp.lt; clear hp ho)
                | (go_at_call 30/-f-/; (with_reducible refine (CR.out _ (HS1.out.pt.more (below_alloc w3 (.cells #[.int .i64 i, .slice none 0 0] 38)))).mono ?_); rintro e w6 ⟨⟨u, rfl, hrv⟩, hp, ho⟩; obtain ⟨U, d5, rfl, _⟩ := hrv.rowz; have hk6 := ho.blk (Blk.new w3 38 #[.int .i64 i, .slice none 0 0]) (show ¬ w3.heap.size = g from by omega); have HB3 := Lib.hid (BY.mk' hk6 (by simpa using hrv)); have HO3 := Lib.hid (show Off (· = g) w3 (w6.setCell ⟨w3.heap.size, 1, none⟩ (.slice U rs.length d5)) from (off_trans ((Off.refl _ _).alloc _) ho).put (fun h => absurd h (Nat.lt_irrefl _)) _); have HP3 := Lib.hid (show Pt (w6.setCell ⟨w3.heap.size, 1, none⟩ (.slice U rs.length d5)) g st3 from hp.off ((Off.refl (fun x => x = w3.heap.size) w6).put (p := ⟨w3.heap.size, 1, none⟩) (fun _ => rfl) _) (by omega)); obtain ⟨kc0, kc1, kf1, klt⟩ := blk_cf hk6; obtain ⟨gc1, gf1, glt⟩ := hp.at_; have hne : w3.heap.size ≠ g := (by omega); have hne2 : g ≠ w3.heap.size := (by omega); clear hp ho hrv hk6)
                | (go_at_call 15/-f-/; (with_reducible refine (CF.out U d5 _ (HA.out.keep (HBEL.out _ (off_trans HS1.out.off HO3.out))) (HB3.out.row.is)).mono ?_); rintro e w7' ⟨rfl, hb⟩; replace HB3 := Lib.hid (HB3.out.off hg3 (Off.of hb)); replace HP3 := Lib.hid (HP3.out.more hb); replace HO3 := Lib.hid (off_trans HO3.out (Off.of hb)); obtain ⟨c0, c1, f1, hlt7⟩ := blk_cf HB3.out.blk; obtain ⟨gd1, ge1, glt7⟩ := HP3.out.at_; clear hb)
                | (have HSX := Lib.hid (HS1.out.step hgl HP3.out HO3.out); have HRX := Lib.hid (HB3.out.row.mono (show w1.heap.size ≤ w3.heap.size + 1 from Nat.le_succ_of_le HS1.out.off.size)); obtain ⟨ps, hp0, hp1, hp2⟩ := HSX.out.row; at_builtin; refine wpList_append_src _ rfl _ _ 25 rfl w1.heap.size 38 i0 (.agg #[.int .i64 0, .slice none 0 0]) 2 32 Try.underlying25/-t-/ hi hz0 hz1 hz2 rfl (by decide) (.slice B5 acc.length dd) acc.length (pcells ps) rfl (World.ownsRow.alloc hp1 _) _ 1 1 [.int .i64 i, .slice U rs.length d5] rfl (Src.batN _ _ _ _ _ _ (by simp)) (by unfold maxLen; omega) (by omega) (by have := HSX.out.off.size; simp at this ⊢; omega) ?_; intro v3 w9 hown3 hgr3 hnew3; obtain ⟨A1, cc1, rfl⟩ := own_slice hown3; have HM := Lib.hid (HSX.out.more hgl HRX.out hp0 hp1 hp2 hown3 hgr3); clear hown3 hgr3 hnew3 hp0 hp1 hp2))
                go_roundw
                case rel => exact ⟨acc ++ [x], j + 1, m', s', by go_num, by omega, ⟨_, _, _, rfl⟩, HS'.out ▸ HM.out.pt, HM.out.off, fun h => ⟨by rw [HX'.out h]; exact HM.out.row, by have := HLS.out h; simp only [List.length_append, List.length_singleton]; omega⟩, HEQ⟩
                case measure => simp [intOf]; omega
          · obtain rfl : mm = 0 := by omega
            have hlti : ¬ (j : Int) < (n0 : Int) := by omega
            have HRS := Lib.hid (show res = (acc, some l) from by rw [heq.out, moreR_zero])
            cases l with
            | cons x t =>
              have HX := Lib.hid (show readB cs s.data.toList = none from by rw [HR.out, HRB.out, HRS.out]; simp)
              obtain ⟨T, hT⟩ : ∃ T : ByteArray, T = ⟨(x :: t).toArray⟩ := ⟨_, rfl⟩
              have hTp : (0 : Int) < (T.size : Int) := by rw [hT, str_size]; simp
              have HT := Lib.hid hT
              clear hT hjm
              go_wp2_with (first
                | (go_at_call 31/-f-/; (with_reducible refine (read_no s A c cs _ (HA.out.keep (HBEL.out _ HO.out)) (by omega) (by omega) HX.out).mono ?_); rintro e w8 ⟨rfl, hb8⟩; have HB8 := Lib.hid ((HBEL.out _ HO.out).trans (hb8.mono (HBEL.out _ HO.out).size)); have HP8 := Lib.hid (HRD.out.more hb8); obtain ⟨gd1, ge1, glt8⟩ := HP8.out.isgood; have gd0 := HT.out ▸ HP8.out.text; clear hb8)
                | (go_at_call 32/-f-/; (with_reducible refine (SB.out _ HB8.out).mono ?_); rintro e w10 ⟨rfl, hb10⟩; have HB10 := Lib.hid (HB8.out.trans (hb10.mono HB8.out.size)); clear hb10)
                | (go_at_call 10/-f-/; (with_reducible refine (AW.out _).mono ?_); rintro e w9 ⟨rfl, hb9⟩; have HB9 := Lib.hid (HB10.out.trans (hb9.mono HB10.out.size)); clear hb9))
              go_ret
              exact ⟨rfl, HB9.out⟩
            | nil =>
              have HX := Lib.hid (show readB cs s.data.toList = some acc from by rw [HR.out, HRB.out, HRS.out]; rfl)
              have HAC := Lib.hid (show ∀ b ∈ acc, b.rows.length ≤ 32 ∧ ∀ v ∈ b.rows, v.length ≤ 1000000 from fun b hb => by
                have h := HOK.out.2 b (by rw [HRS.out]; exact hb)
                exact ⟨h.1, fun v hv => by have := (h.2 v hv).1; omega⟩)
              have HOB := Lib.hid (show Bats wr B5 acc from by
                obtain ⟨A9, c9, e9, h9⟩ := HROW.out.bats
                cases e9
                exact h9)
              obtain ⟨T, hT⟩ : ∃ T : ByteArray, T = ⟨([] : List UInt8).toArray⟩ := ⟨_, rfl⟩
              have hT0 : T.size = 0 := by rw [hT, str_size]; rfl
              have HT := Lib.hid hT
              clear hT hjm
              go_wp2_with (first
                | (go_at_call 31/-f-/; (with_reducible refine (read_yes s A c cs acc _ (HA.out.keep (HBEL.out _ HO.out)) (by omega) (by omega) HX.out).mono ?_); rintro e w8 ⟨⟨G, gd, rfl, hG⟩, hb8⟩; have HB8 := Lib.hid ((HBEL.out _ HO.out).trans (hb8.mono (HBEL.out _ HO.out).size)); have HP8 := Lib.hid (HRD.out.more hb8); have HG := Lib.hid hG; have HOB8 := Lib.hid (HOB.out.keep hb8); obtain ⟨gd1, ge1, glt8⟩ := HP8.out.isgood; have gd0 := HT.out ▸ HP8.out.text; clear hb8 hG))
              have HB8s := HB8.out.size
              go_loopw [16] (fun i wr => ∃ k : Nat, k ≤ acc.length ∧ i = .int .i64 k ∧ Hid (Below w8.heap.size w8 wr)) (fun i _ => acc.length - (intOf i).toNat)
              case atStart => exact ⟨0, Nat.zero_le _, rfl, Lib.hid (Below.refl _ _)⟩
              case round =>
                obtain ⟨k, hk, rfl, hbk⟩ := hrel
                obtain ⟨wy, rfl⟩ : ∃ x, x = wr := ⟨wr, rfl⟩
                have hszk := hbk.out.size
                have HBK := Lib.hid (HB8.out.trans (hbk.out.mono HB8s))
                clear gd0 gd1 ge1 glt8 gc1 gf1 glt
                by_cases hlt3 : k < acc.length
                · obtain ⟨b1, off1, rfl, hbw1, Ai, ci, x0, x1, hrz⟩ := bats_at (HG.out.keep hbk.out) hlt3
                  obtain ⟨b2, off2, rfl, hbw2, Aj, cj, y0, y1, hrz2⟩ := bats_at (HOB8.out.keep hbk.out) hlt3
                  have hM : acc.getD k default ∈ acc := by simp [List.getD, hlt3]
                  have hrw := HAC.out _ hM
                  have hki : (k : Int) < (acc.length : Int) := by omega
                  have hk0 : (0 : Int) ≤ (k : Int) := by omega
                  generalize acc.getD k default = x at *
                  obtain ⟨xi, rs⟩ := x
                  simp only at x0 x1 y0 y1 hrz hrz2 hrw
                  have hr2 : ∀ r ∈ rs, r.length ≤ 1000000 := hrw.2
                  have hrl : rs.length ≤ 32 := hrw.1
                  have SS' := fun W (hb : Below wy.heap.size wy W) => lsame_any xi xi Ai Aj ci cj rs rs W (hrz.below hb) (hrz2.below hb) (by omega) (by omega) hr2 hr2
                  rw [show (xi == xi && decide (rs = rs)) = true from by simp] at SS'
                  have SS := Lib.hid SS'
                  have HRE := Lib.hid (Below.refl wy.heap.size wy)
                  clear SS' hrz hrz2 hM hrw hr2
                  go_upto_region 27 with fail
                  go_region_held3 (fun W => W.cell? ⟨b1, off1 + k * 2, none⟩ = some (.int .i64 xi) ∧ W.cell? ⟨b1, off1 + k * 2 + 1, none⟩ = some (.slice Ai rs.length ci) ∧ W.cell? ⟨b2, off2 + k * 2, none⟩ = some (.int .i64 xi) ∧ W.cell? ⟨b2, off2 + k * 2 + 1, none⟩ = some (.slice Aj rs.length cj))
                    (first | exact ⟨x0, x1, y0, y1⟩ | (refine ⟨(HH.out.cell (p := ⟨b1, off1 + k * 2, none⟩) hbw1).trans x0, (HH.out.cell (p := ⟨b1, off1 + k * 2 + 1, none⟩) hbw1).trans x1, (HH.out.cell (p := ⟨b2, off2 + k * 2, none⟩) hbw2).trans y0, (HH.out.cell (p := ⟨b2, off2 + k * 2 + 1, none⟩) hbw2).trans y1⟩))
                    (first
                      | (go_at_call 23/-f-/; (with_reducible refine (SS.out _ HRE.out.drew).mono ?_); rintro e w7 ⟨rfl, hb7⟩; have HH := Lib.hid (show Below wy.heap.size wy w7 from ⟨hb7.os, hb7.tape, hb7.output, hb7.size, hb7.block⟩); clear hb7))
                  go_wp2
                  go_roundw
                  case rel => exact ⟨k + 1, hlt3, by go_num, Lib.hid (hbk.out.trans (HH.out.mono hszk))⟩
                  case measure => simp [intOf]; omega
                · have hkl : k = acc.length := by omega
                  subst hkl
                  go_wp2_with (first
                    | (go_at_call 32/-f-/; (with_reducible refine (SB.out _ HBK.out).mono ?_); rintro e w10 ⟨rfl, hb10⟩; have HB10 := Lib.hid (HBK.out.trans (hb10.mono HBK.out.size)); clear hb10)
                    | (go_at_call 10/-f-/; (with_reducible refine (AW.out _).mono ?_); rintro e w9 ⟨rfl, hb9⟩; have HB9 := Lib.hid (HB10.out.trans (hb9.mono HB10.out.size)); clear hb9))
                  go_ret
                  exact ⟨rfl, HB9.out⟩
theorem own : ownKnob Try.prog.godebug = none := by kernel_rfl
theorem laidOut : laidOutB Try.prog = true := by kernel_rfl
set_option maxRecDepth 100000 in
theorem lifted (os : Os) (started : os.Started) (H : Type) (enc : TypeId × Value → H) :
    ReturnsInHanded {} Try.checked os 6 .any (Rows.streamBytesSpec.pre6 enc Try.prog Try.f6 Rows.streamBytesRow.domain false) (Rows.streamBytesSpec.post enc Try.prog Try.f6 false true false false) := by
  refine returnsInHanded_of_change (C := Try.checked) own started (by kernel_rfl) Try.func6
    (ChangeSpec.witness6 (enc := enc) (C := Try.checked) false ⟨#[], #[.slice none 0 0, .slice none 0 0, .string ⟨#[]⟩], []⟩ 8 (by kernel_rfl) (by kernel_rfl) (by kernel_rfl) (by kernel_rfl)) ?_
  intro W base args ds gs before hval0 hW hcnd _
  have hval : ∀ (j : Nat) t v, Try.f6.params[j]? = some t → args[j]? = some v → Value.okWide Try.prog W .any base t v := hval0
  have hW' := hW
  obtain ⟨p, q, hA0, hV, rfl, hfz, hnd⟩ := hW
  have hA : DataW.TrodAll enc Try.prog W 0 (fun _ => true) true Try.f6.params.toList args.toList ds p := hA0
  rw [Try.params6] at hA hval
  obtain ⟨v0, vs0, d0, ds0, p0, q0, hargs, rfl, rfl, h0, r0⟩ := trodAll_cons hA
  obtain ⟨v1, vs1, d1, ds1, p1, q1, rfl, rfl, rfl, h1, r1⟩ := trodAll_cons r0
  obtain ⟨v2, vs2, d2, ds2, p2, q2, rfl, rfl, rfl, h2, r2⟩ := trodAll_cons r1
  obtain ⟨rfl, rfl, rfl⟩ := trodAll_nil r2
  obtain rfl : args = #[v0, v1, v2] := by cases args; simp_all
  obtain ⟨rfl, rfl⟩ := trodVars_none hV
  obtain ⟨a0, len0, cap0, rfl⟩ := okWide_slice Try.underlying22 (hval 0 22 v0 rfl rfl)
  have k0 := h0
  have lt0 : ∀ x ∈ p0, x.block < W.heap.size := by obtain ⟨m, hm⟩ := k0; exact DataW.trod_lt m _ _ _ hm
  obtain ⟨fuel0, hf0⟩ := h0
  have hg0 : DataW.trod enc Try.prog W 0 (fun _ => true) true fuel0 22 [.slice a0 len0 cap0] = some (d0, p0) := by simpa [Value.cells] using hf0
  have o0 := open_cols hg0
  obtain ⟨hl0, hcc0, cs0, hn0, hC0, hfc0⟩ := o0
  obtain ⟨a1, len1, cap1, rfl⟩ := okWide_slice Try.underlying25 (hval 1 25 v1 rfl rfl)
  have k1 := h1
  have lt1 : ∀ x ∈ p1, x.block < W.heap.size := by obtain ⟨m, hm⟩ := k1; exact DataW.trod_lt m _ _ _ hm
  obtain ⟨fuel1, hf1⟩ := h1
  have hg1 : DataW.trod enc Try.prog W 0 (fun _ => true) true fuel1 25 [.slice a1 len1 cap1] = some (d1, p1) := by simpa [Value.cells] using hf1
  have o1 := open_bats hg1
  obtain ⟨hl1, bs1, hn1, hB1, hfb1⟩ := o1
  obtain ⟨s2, rfl, rfl, rfl, z2⟩ := Go.ChangeMaps.open_string Try.underlying9 (hval 2 9 v2 rfl rfl) h2
  clear hA0 hval0
  refine (walk a0 len0 cap0 a1 len1 cap1 cs0 bs1 s2 W hC0 hn0 hl0 hcc0 hfc0 hB1 hn1 hl1 hfb1 (by unfold maxLen at z2; exact z2)).mono fun e W' ⟨he, bel⟩ => ?_
  subst he
  exact ⟨_, rfl, _, _, _, [], _, [], hW', trodAll_mk1 (shut_bool Try.underlying4 _), (trodAll_cons_mk (Below.trod laidOut (by kernel_rfl) (of_decide_eq_true (by kernel_rfl)) k0 bel lt0) (trodAll_cons_mk (Below.trod laidOut (by kernel_rfl) (of_decide_eq_true (by kernel_rfl)) k1 bel lt1) (trodAll_cons_mk (Go.ChangeMaps.shut_string Try.underlying9 z2) trodAll_mk0))), rfl, bel.frame _, fun h => by cases h⟩

theorem over : Rows.streamBytesRow.holds Try.pinned (OpenSpec.ofChange Rows.streamBytesSpec) :=
  OpenClaim.holds_of_wide 6 Try.f6 rfl rfl rfl rfl rfl rfl rfl ⟨rfl, rfl, rfl, rfl, rfl⟩ rfl rfl rfl rfl rfl (by kernel_rfl) Try.func6 (by kernel_rfl)
    (of_decide_eq_true (by kernel_rfl)) (by unfold Func.isWrapper; first | (rw [if_pos (by decide +kernel)]; kernel_rfl) | (rw [if_neg (by decide +kernel)]; exact ⟨rfl, rfl⟩))
    (fun os started H enc _ => lifted os started H enc)

theorem proved : Rows.StreamBytesSaid := over

end Go.Proofs.Ytacangeamdcgdaa.StreamBytes
