/- Contract of the document's Unkey. -/
import Derived.Test.YtabdmhlnaahdlaaDoorRks
import Derived.Test.YtabdmhlnaahdlaaDoorCnd
import Derived.Test.YtabdmhlnaahdlaaDoorFok
import Derived.Test.YtabdmhlnaahdlaaDoorUks
import Derived.Deep.CutBlock
import Derived.Deep.DeepCutAuto
namespace Go.Proofs.YtabdmhlnaahdlaaDoor
open Go.ChangeShapes Go.WideShapes Go.ChangeAt Go.RowKit
theorem rd_stop (l : List UInt8) : rd (0 :: 1 :: l) = [] := by rw [rd, if_pos ⟨rfl, rfl⟩]
theorem rd_zero (d : UInt8) (l : List UInt8) (h : d ≠ 1) : rd (0 :: d :: l) = 0 :: rd l := by rw [rd, if_neg (fun h2 => h h2.2), if_pos rfl]
theorem rd_other (c d : UInt8) (l : List UInt8) (h : c ≠ 0) : rd (c :: d :: l) = c :: rd (d :: l) := by rw [rd, if_neg (fun h2 => h h2.1), if_neg h]
/-- Behind the document's switch: the value that it tries lies in the block. -/
structure Tried (wr wx : World) (S : ByteArray) (v : Val) : Prop where
  blk : Blk wx wr.heap.size 35/-t-/ #[.int .i64 v.k, .int .i64 v.n, .string v.s]
  cd : cand S.data.toList = some v
  bel : Below wr.heap.size wr wx
  sz : v.s.size ≤ 200000
set_option maxRecDepth 100000 in
set_option maxHeartbeats 8000000 in
theorem refunkey_any (s : ByteArray) (w : World) (hs : s.size ≤ 100000) :
    Calls Tryd.prog 29/-f-/ #[.string s] w fun e w' => (∃ A c, e = .returned (.tuple #[.slice A ((unkey s.data.toList).getD []).length c, .bool (unkey s.data.toList).isSome]) ∧ Vals w' A ((unkey s.data.toList).getD []) ∧ ((unkey s.data.toList).getD []).length ≤ c) ∧ Below w.heap.size w w' := by
  obtain ⟨i0, hi, hz0, hz1, hz2⟩ := info_parts info35
  obtain ⟨j0, ji, jz0, jz1, jz2⟩ := info_parts info5
  obtain ⟨R, hR⟩ : ∃ R, R = unkey s.data.toList := ⟨_, rfl⟩
  rw [← hR]
  have HR := Lib.hid hR
  clear hR
  go_enter Tryd.func29/-f-/, Tryd.ntmps29/-f-/
  go_wp2
  go_loopw [0, 4] (fun u v wr => ∃ (S : ByteArray) (acc : List Val), u = .string S ∧ S.size ≤ s.size ∧ Below w.heap.size w wr ∧ RowV wr w.heap.size v acc ∧ acc.length + S.size ≤ s.size ∧ Hid (R = (unkey S.data.toList).map fun vs => acc ++ vs)) (fun u _ _ => match u with | .string S => S.size | _ => 0)
  case atStart =>
    refine ⟨s, [], rfl, Nat.le_refl _, Below.refl _ _, World.ownsRow_nil _ _ _ _, by simp, Lib.hid ?_⟩
    rw [HR.out]
    cases unkey s.data.toList <;> rfl
  case round =>
    obtain ⟨S, acc, rfl, hS, hbl, hrow, hal, heq⟩ := hrel
    have hsz := hbl.size
    have HROW := Lib.hid hrow
    have HBL := Lib.hid hbl
    clear hrow hbl
    by_cases he : S = ⟨#[]⟩
    · subst he
      have HF := Lib.hid (show R = some acc from by
        rw [heq.out]
        show (unkey []).map _ = _
        rw [unkey_nil]; simp)
      obtain ⟨A, c, hv, hV, hc⟩ := RowV.vals HROW.out
      subst hv
      have HV := Lib.hid hV
      have HC := Lib.hid hc
      clear hV hc
      go_wp2
      go_ret2
      exact ⟨⟨A, c, by rw [HF.out]; rfl, by rw [HF.out]; exact HV.out, by rw [HF.out]; exact HC.out⟩, HBL.out⟩
    · have hpos : 0 < S.size := by
        rcases Nat.eq_zero_or_pos S.size with h | h
        · exact absurd (ByteArray.ext (Array.eq_empty_of_size_eq_zero h)) he
        · exact h
      have hl : S.data.toList ≠ [] := fun h => he (ByteArray.ext (Array.toList_inj.1 h))
      have HST := Lib.hid (unkey_step S.data.toList hl)
      have HCD := Lib.hid (first_cand S.data.toList)
      have HH := Lib.hid (head_at S hpos)
      have HLL := Lib.hid (show S.data.toList.length = S.size by simp)
      clear he hl
      go_upto_block 2 with fail
      go_cut [] (fun wx => ∃ v : Val, Tried wr wx S v)
      case first =>
        by_cases h1 : S[0] = 1 ∧ 9 ≤ S.size
        · have hb1 : ((S[0].toNat : Int) == 1) = true := by rw [h1.1]; rfl
          have hb4 : decide ((9 : Int) ≤ S.size) = true := decide_eq_true (by omega)
          have h9 := h1.2
          have HC := Lib.hid (show cand S.data.toList = some ⟨1, (be ((S.data.toList.drop 1).take 8) : Int) - 9223372036854775808, ⟨#[]⟩⟩ from by
            unfold cand
            rw [HH.out, if_pos ⟨by rw [h1.1], by rw [HLL.out]; exact h9⟩])
          have HW1 := Lib.hid (show wrap64 (S[0].toNat : Int) = 1 from by rw [h1.1]; unfold wrap64; decide)
          clear h1
          go_wp2
          go_loopw [6, 7] (fun u i wx => ∃ j : Nat, j ≤ 8 ∧ i = .int .i64 (j + 1) ∧ u = .int .u64 (be ((S.data.toList.drop 1).take j) : Nat) ∧ wx = wr.alloc (.cells #[.int .i64 1, .int .i64 0, .string ⟨#[]⟩] 35/-t-/)) (fun _ i _ => 9 - (intOf i).toNat)
          case atStart => exact ⟨0, by omega, rfl, rfl, by rw [HW1.out]⟩
          case round =>
            obtain ⟨j, hj, rfl, rfl, rfl⟩ := hrel
            have hbl := be_lt ((S.data.toList.drop 1).take j)
            have hll : ((S.data.toList.drop 1).take j).length = j := by simp; omega
            rw [hll] at hbl
            by_cases hlt : j < 8
            · have hst : be ((S.data.toList.drop 1).take (j + 1)) = 256 * be ((S.data.toList.drop 1).take j) + S[j + 1].toNat := by
                rw [List.take_succ_eq_append_getElem (by rw [List.length_drop]; simp; omega), be_snoc, List.getElem_drop]
                congr 2
                simp [Nat.add_comm]
                rfl
              have HST2 := Lib.hid hst
              have hb7 : be ((S.data.toList.drop 1).take j) < 72057594037927936 := by
                have : (256 : Nat) ^ j ≤ 256 ^ 7 := Nat.pow_le_pow_right (by decide) (by omega)
                have e : (256 : Nat) ^ 7 = 72057594037927936 := by decide
                omega
              have HB7 := Lib.hid hb7
              have HLL2 := Lib.hid hll
              have hix : ((j : Int) + 1).toNat = j + 1 := by omega
              clear hst hbl hb7
              generalize be ((S.data.toList.drop 1).take j) = B at *
              go_wp2
              go_roundw
              case rel =>
                have hc := S[j + 1].toNat_lt
                have hB := HB7.out
                refine ⟨j + 1, by omega, by first | go_num | (congr 1; omega), ?_, by first | rfl | trivial⟩
                rw [HST2.out]
                refine congrArg (Value.int .u64) ?_
                simp only [IntKind.wrap_u64]
                omega
              case measure => simp [intOf]; omega
            · obtain rfl : j = 8 := by omega
              have hB : be ((S.data.toList.drop 1).take 8) < 18446744073709551616 := by simpa using hbl
              have HFIN := Lib.hid (show wrap64 (IntKind.u64.wrap ((be ((S.data.toList.drop 1).take 8) : Nat) - 9223372036854775808)) = (be ((S.data.toList.drop 1).take 8) : Int) - 9223372036854775808 from by
                simp only [IntKind.wrap_u64]; unfold wrap64; omega)
              clear hbl hll hB
              obtain ⟨B, hBB⟩ : ∃ B, B = be ((S.data.toList.drop 1).take 8) := ⟨_, rfl⟩
              rw [← hBB] at HFIN HC
              have HBB := Lib.hid hBB
              rw [← hBB]
              clear hBB
              go_wp2
              go_meet
              have h := Blk.new wr 35/-t-/ #[.int .i64 1, .int .i64 (wrap64 (IntKind.u64.wrap ((B : Int) - 9223372036854775808))), .string ⟨#[]⟩]
              exact ⟨⟨1, (B : Int) - 9223372036854775808, ⟨#[]⟩⟩, by
                have e := HFIN.out
                generalize wrap64 (IntKind.u64.wrap ((B : Int) - 9223372036854775808)) = y at e h ⊢
                subst e
                exact h, HC.out, (Below.refl _ _).alloc (Nat.le_refl _) _, by show (0 : Nat) ≤ _; omega⟩
        by_cases h2 : S[0] = 2
        · have hb1 : ((S[0].toNat : Int) == 1) = false := by rw [h2]; rfl
          have hb2 : ((S[0].toNat : Int) == 2) = true := by rw [h2]; rfl
          have HC := Lib.hid (show cand S.data.toList = some ⟨2, 0, ⟨(rd (S.data.toList.drop 1)).toArray⟩⟩ from by
            unfold cand
            rw [HH.out, h2, if_neg (fun h => by cases h.1), if_pos rfl])
          have HW2 := Lib.hid (show wrap64 (S[0].toNat : Int) = 2 from by rw [h2]; unfold wrap64; decide)
          clear h1 h2
          obtain ⟨w0, hw0⟩ : ∃ w0 : World, w0 = wr := ⟨wr, rfl⟩
          subst hw0
          go_wp2
          go_loopw [8, 9] (fun b i wx => ∃ (k : Nat) (acc2 : List UInt8), 1 ≤ k ∧ k ≤ S.size ∧ i = .int .i64 k ∧ Below w0.heap.size w0 wx ∧ Row8 wx (w0.heap.size + 1) b acc2 ∧ Blk wx w0.heap.size 35/-t-/ #[.int .i64 2, .int .i64 0, .string ⟨#[]⟩] ∧ acc2.length ≤ k ∧ Hid (acc2 = [] → b = .slice none 0 0) ∧ Hid (rd (S.data.toList.drop 1) = acc2 ++ rd (S.data.toList.drop k))) (fun _ i _ => S.size - (intOf i).toNat)
          case atStart =>
            have h := Blk.new w0 35/-t-/ #[.int .i64 2, .int .i64 0, .string ⟨#[]⟩]
            rw [HW2.out]
            exact ⟨1, [], by omega, hpos, rfl, (Below.refl _ _).alloc (Nat.le_refl _) _, World.ownsRow_nil _ _ _ _, h, by simp, Lib.hid (fun _ => rfl), Lib.hid rfl⟩
          case round =>
            obtain ⟨k, acc2, hk1, hk, rfl, hbx, hrx, hbk, hal2, hnil, hrd⟩ := hrel
            have HBX := Lib.hid hbx
            have HR8 := Lib.hid hrx
            have HBX8 := Lib.hid hbk
            have HOWN := Lib.hid (show u8.ownBlock ≠ some w0.heap.size from fun h => by have := (hrx.lt _ h).1; omega)
            have hbs : w0.heap.size < wr.heap.size := hbk.lt
            have f2 := hbk.frozen 2
            have g2 := hbk.cell 2
            simp at g2
            have hix : ((k : Int) + 1).toNat = k + 1 := by omega
            have hsz8 : (⟨acc2.toArray⟩ : ByteArray).size = acc2.length := by show acc2.toArray.size = _; rw [List.size_toArray]
            have CV : (convert 72/-t-/ 9/-t-/ u8).run Tryd.prog wr = .ok (.string ⟨acc2.toArray⟩) wr := by
              by_cases hacc : acc2 = []
              · rw [hnil.out hacc, hacc]; exact conv_nil wr
              · exact HR8.out.conv (List.length_pos_iff.2 hacc)
            clear hbx hrx hbk
            by_cases hlt : k + 1 < S.size
            · have hd1 := Lib.hid (drop_at S k (by omega))
              have hd2 := Lib.hid (drop_at S (k + 1) hlt)
              by_cases hc : S[k] = 0
              · have hc0 : ((S[k].toNat : Int) == 0) = true := by rw [hc]; rfl
                by_cases hone : S[k + 1] = 1
                · have hc1 : ((S[k + 1].toNat : Int) == 1) = true := by rw [hone]; rfl
                  have HEND := Lib.hid (show rd (S.data.toList.drop 1) = acc2 from by rw [hrd.out, hd1.out, hd2.out, hc, hone, rd_stop]; simp)
                  clear hc hone
                  have HRD := Lib.hid (show cand S.data.toList = some ⟨2, 0, ⟨acc2.toArray⟩⟩ from by rw [HC.out, HEND.out])
                  go_wp2
                  go_meet
                  exact ⟨⟨2, 0, ⟨acc2.toArray⟩⟩, HBX8.out.put 2 _, HRD.out, HBX.out.setCell (Nat.le_refl _) _, by rw [hsz8]; omega⟩
                · have hc1 : ((S[k + 1].toNat : Int) == 1) = false := beq_eq_false_iff_ne.2 (fun h => hone (UInt8.toNat_inj.1 (by show S[k + 1].toNat = 1; omega)))
                  have HEQ := Lib.hid (show rd (S.data.toList.drop 1) = (acc2 ++ [S[k]]) ++ rd (S.data.toList.drop (k + 2)) from by
                    rw [hrd.out, hd1.out, hd2.out, hc, rd_zero _ _ hone]; simp)
                  clear hc hone
                  go_wp2_with (at_builtin; refine wpList_append_src _ rfl _ _ 72/-t-/ rfl (w0.heap.size + 1) 5/-t-/ j0 (.int .u8 0) 1 1 Tryd.underlying72/-t-/ ji jz0 jz1 jz2 rfl (by decide) u8 acc2.length _ rfl (World.ownsRow.alloc HR8.out _) (some ⟨wr.heap.size, 0, none⟩) 1 1 [_] rfl (Src.one _ _ _ rfl) (by unfold maxLen; omega) (by omega) (by simp; omega) ?_; intro v3 w3 hown3 hgr3 hnew3; have HO3 := Lib.hid hown3; have HG3 := Lib.hid hgr3; clear hown3 hgr3 hnew3)
                  go_roundw
                  case rel =>
                    have hb3 : Below w0.heap.size w0 w3 := (HBX.out.alloc HBX.out.size _).grown HG3.out (by have := HBX.out.size; simp; omega) (fun g h => by have := (HR8.out.lt g h).1; omega)
                    exact ⟨k + 2, acc2 ++ [S[k]], by omega, by omega, by first | go_num | (congr 1; omega), hb3, row8_step (x := S[k]) HO3.out rfl rfl rfl rfl, blk_grown (HBX8.out.alloc _) HG3.out HOWN.out, by simp; omega, Lib.hid (fun h => by simp at h), HEQ⟩
                  case measure => simp [intOf]; omega
              · have hc0 : ((S[k].toNat : Int) == 0) = false := beq_eq_false_iff_ne.2 (fun h => hc (UInt8.toNat_inj.1 (by show S[k].toNat = 0; omega)))
                have HEQ := Lib.hid (show rd (S.data.toList.drop 1) = (acc2 ++ [S[k]]) ++ rd (S.data.toList.drop (k + 1)) from by
                  rw [hrd.out, hd1.out, hd2.out, rd_other _ _ _ hc]; simp)
                clear hc
                go_wp2_with (at_builtin; refine wpList_append_src _ rfl _ _ 72/-t-/ rfl (w0.heap.size + 1) 5/-t-/ j0 (.int .u8 0) 1 1 Tryd.underlying72/-t-/ ji jz0 jz1 jz2 rfl (by decide) u8 acc2.length _ rfl (World.ownsRow.alloc HR8.out _) (some ⟨wr.heap.size, 0, none⟩) 1 1 [_] rfl (Src.one _ _ _ rfl) (by unfold maxLen; omega) (by omega) (by simp; omega) ?_; intro v3 w3 hown3 hgr3 hnew3; have HO3 := Lib.hid hown3; have HG3 := Lib.hid hgr3; clear hown3 hgr3 hnew3)
                go_roundw
                case rel =>
                  have hb3 : Below w0.heap.size w0 w3 := (HBX.out.alloc HBX.out.size _).grown HG3.out (by have := HBX.out.size; simp; omega) (fun g h => by have := (HR8.out.lt g h).1; omega)
                  exact ⟨k + 1, acc2 ++ [S[k]], by omega, by omega, by first | go_num | (congr 1; omega), hb3, row8_step (x := S[k]) HO3.out rfl rfl rfl rfl, blk_grown (HBX8.out.alloc _) HG3.out HOWN.out, by simp; omega, Lib.hid (fun h => by simp at h), HEQ⟩
                case measure => simp [intOf]; omega
            · have HEND := Lib.hid (show rd (S.data.toList.drop 1) = acc2 from by
                rw [hrd.out]
                by_cases hks : k < S.size
                · rw [drop_at S k hks, List.drop_eq_nil_of_le (by simp; omega)]; simp [rd]
                · rw [List.drop_eq_nil_of_le (by simp; omega)]; simp [rd])
              have HRD := Lib.hid (show cand S.data.toList = some ⟨2, 0, ⟨acc2.toArray⟩⟩ from by rw [HC.out, HEND.out])
              go_wp2
              go_meet
              exact ⟨⟨2, 0, ⟨acc2.toArray⟩⟩, HBX8.out.put 2 _, HRD.out, HBX.out.setCell (Nat.le_refl _) _, by rw [hsz8]; omega⟩
        by_cases h3 : S[0] = 3 ∧ 2 ≤ S.size
        · have hb1 : ((S[0].toNat : Int) == 1) = false := by rw [h3.1]; rfl
          have hb2 : ((S[0].toNat : Int) == 2) = false := by rw [h3.1]; rfl
          have hb3 : ((S[0].toNat : Int) == 3) = true := by rw [h3.1]; rfl
          have hb4 : decide ((2 : Int) ≤ S.size) = true := decide_eq_true (by omega)
          have h2s : 1 < S.size := by omega
          have HW := Lib.hid (show wrap64 (S[1].toNat : Int) = S[1].toNat by have := S[1].toNat_lt; unfold wrap64; omega)
          have HC := Lib.hid (show cand S.data.toList = some ⟨3, S[1].toNat, ⟨#[]⟩⟩ from by
            unfold cand
            rw [HH.out, h3.1, if_neg (fun h => by cases h.1), if_neg (fun h => by cases h), if_pos ⟨rfl, by rw [HLL.out]; omega⟩, getD_at S 1 h2s])
          have HW3 := Lib.hid (show wrap64 (S[0].toNat : Int) = 3 from by rw [h3.1]; unfold wrap64; decide)
          clear h1 h2 h3
          go_wp2
          go_meet
          have h := Blk.new wr 35/-t-/ #[.int .i64 (wrap64 (S[0].toNat : Int)), .int .i64 (wrap64 (S[1].toNat : Int)), .string ⟨#[]⟩]
          exact ⟨⟨3, S[1].toNat, ⟨#[]⟩⟩, by
            have e := HW.out
            have e3 := HW3.out
            generalize wrap64 (S[1].toNat : Int) = y at e h ⊢
            generalize wrap64 (S[0].toNat : Int) = y3 at e3 h ⊢
            subst e e3
            exact h, HC.out, (Below.refl _ _).alloc (Nat.le_refl _) _, by show (0 : Nat) ≤ _; omega⟩
        · have HC := Lib.hid (show cand S.data.toList = none from by
            unfold cand
            rw [HH.out, HLL.out, if_neg (fun h => h1 ⟨Option.some.inj h.1, h.2⟩), if_neg (fun h => h2 (Option.some.inj h)), if_neg (fun h => h3 ⟨Option.some.inj h.1, h.2⟩)])
          have HF := Lib.hid (show R = none from by rw [heq.out, HST.out, HCD.out, HC.out]; rfl)
          have hb2 : ((S[0].toNat : Int) == 2) = false := beq_eq_false_iff_ne.2 (fun h => h2 (UInt8.toNat_inj.1 (by show S[0].toNat = 2; omega)))
          by_cases hc : S[0] = 1
          · have hb1 : ((S[0].toNat : Int) == 1) = true := by rw [hc]; rfl
            have hb3 : ((S[0].toNat : Int) == 3) = false := by rw [hc]; rfl
            have hb4 : decide ((9 : Int) ≤ S.size) = false := decide_eq_false (fun h => h1 ⟨hc, by omega⟩)
            clear h1 h2 h3 hc
            go_wp2
            go_ret2
            exact ⟨⟨none, 0, by rw [HF.out]; rfl, by rw [HF.out]; exact .inl rfl, by rw [HF.out]; exact Nat.le_refl _⟩, HBL.out.alloc hsz _⟩
          · have hb1 : ((S[0].toNat : Int) == 1) = false := beq_eq_false_iff_ne.2 (fun h => hc (UInt8.toNat_inj.1 (by show S[0].toNat = 1; omega)))
            by_cases hd : S[0] = 3
            · have hb3 : ((S[0].toNat : Int) == 3) = true := by rw [hd]; rfl
              have hb4 : decide ((2 : Int) ≤ S.size) = false := decide_eq_false (fun h => h3 ⟨hd, by omega⟩)
              clear h1 h2 h3 hc hd
              go_wp2
              go_ret2
              exact ⟨⟨none, 0, by rw [HF.out]; rfl, by rw [HF.out]; exact .inl rfl, by rw [HF.out]; exact Nat.le_refl _⟩, HBL.out.alloc hsz _⟩
            · have hb3 : ((S[0].toNat : Int) == 3) = false := beq_eq_false_iff_ne.2 (fun h => hd (UInt8.toNat_inj.1 (by show S[0].toNat = 3; omega)))
              clear h1 h2 h3 hc hd
              go_wp2
              go_ret2
              exact ⟨⟨none, 0, by rw [HF.out]; rfl, by rw [HF.out]; exact .inl rfl, by rw [HF.out]; exact Nat.le_refl _⟩, HBL.out.alloc hsz _⟩
      case rest =>
        obtain ⟨v, hT⟩ := hcut
        have HTB := Lib.hid hT.blk
        have HTL := Lib.hid hT.bel
        have hvs := hT.sz
        have HF0 := Lib.hid (show first S.data.toList = if okK S.data.toList v = true then some (v, (keyOf v).length) else none from by rw [HCD.out, hT.cd]; rfl)
        have HFT := Lib.hid (fun hr => cand_fit S.data.toList v hT.cd hr)
        have p0 := hT.blk.cell 0
        have p1 := hT.blk.cell 1
        have p2 := hT.blk.cell 2
        have hzt := hT.blk.lt
        have hwz := hT.bel.size
        simp at p0 p1 p2
        clear hT
        have RG := Lib.hid (fun W => refright_any v.k v.n v.s W (by omega))
        have HB7 := Lib.hid (show Below w.heap.size w wc from HBL.out.trans (HTL.out.mono hsz))
        by_cases hr : rightB v.k v.n v.s = true
        · have RK := Lib.hid (fun W => refkey_any v W (HFT.out hr) hr)
          have hok : okK S.data.toList v = decide ((keyOf v).length ≤ S.size ∧ S.data.toList.take (keyOf v).length = keyOf v) := by
            unfold okK
            rw [hr, Bool.true_and, HLL.out]
          have HOK := Lib.hid hok
          rw [hr] at RG
          clear hr hok
          have hkp := keyOf_pos v
          obtain ⟨K, hK⟩ : ∃ K, K = keyOf v := ⟨_, rfl⟩
          rw [← hK] at RK HF0 HOK hkp
          have hKs : (⟨K.toArray⟩ : ByteArray).size = K.length := by show K.toArray.size = _; rw [List.size_toArray]
          have HKK := Lib.hid hK
          have HKs := Lib.hid hKs
          clear hK hKs
          have F := fun (h : okK S.data.toList v = false) => (show R = none from by rw [heq.out, HST.out, HF0.out, h]; rfl)
          have HF := Lib.hid F
          clear F
          by_cases hle : K.length ≤ S.size
          · by_cases hpre : S.data.toList.take K.length = K
            · have hex : S.extract 0 K.length = ⟨K.toArray⟩ := ByteArray.ext (Array.toList_inj.1 (by
                rw [ByteArray.data_extract, Array.toList_extract]
                simpa [List.extract] using hpre))
              have hb : ((S.extract 0 K.length).toList == K) = true := by rw [hex, ByteArray.toList_eq]; simp
              have HEQ := Lib.hid (show R = (unkey (S.extract K.length S.size).data.toList).map fun vs => (acc ++ [v]) ++ vs from by
                rw [heq.out, HST.out, HF0.out, HOK.out, decide_eq_true ⟨hle, hpre⟩]
                have e : (S.extract K.length S.size).data.toList = S.data.toList.drop K.length := Lib.extract_to_end S K.length
                rw [e]
                simp only [if_true, Option.bind_some]
                cases unkey (S.data.toList.drop K.length) <;> simp)
              have hez : (S.extract K.length S.size).size = S.size - K.length := by rw [ByteArray.size_extract]; omega
              clear hpre hex HF
              go_wp2_with (first
                | (go_at_call 32/-f-/; (with_reducible refine (RG.out _).mono ?_); rintro e w2 ⟨rfl, hb2⟩; have B2 := Lib.hid (HTB.out.below hb2 HTB.out.lt); have r0 := B2.out.cell 0; have r1 := B2.out.cell 1; have r2 := B2.out.cell 2; have hq2 := B2.out.lt; simp at r0 r1 r2; have HB2 := Lib.hid (HTL.out.trans (hb2.mono hwz)); clear hb2)
                | (go_at_call 58/-f-/; (with_reducible refine (RK.out _).mono ?_); rintro e w3 ⟨rfl, hb3⟩; have B3 := Lib.hid (B2.out.below hb3 B2.out.lt); have t0 := B3.out.cell 0; have t1 := B3.out.cell 1; have t2 := B3.out.cell 2; have hq3 := B3.out.lt; simp at t0 t1 t2; have HB3 := Lib.hid (HB2.out.trans (hb3.mono HB2.out.size)); have HR3 := Lib.hid (show RowV w3 w.heap.size u4 acc from (Off.of (S := fun _ => False) HB3.out).own HROW.out (fun _ _ h => h)); clear hb3)
                | (at_builtin; refine wpList_append_src _ rfl _ _ 31/-t-/ rfl w.heap.size 35/-t-/ i0 (.agg #[.int .i64 0, .int .i64 0, .string ⟨#[]⟩]) 3 32 Tryd.underlying31/-t-/ hi hz0 hz1 hz2 rfl (by decide) u4 acc.length _ rfl (World.ownsRow.alloc HR3.out _) (some ⟨w3.heap.size, 0, none⟩) 1 1 [.int .i64 v.k, .int .i64 v.n, .string v.s] rfl (Src.val w3 v) (by unfold maxLen; omega) (by omega) (by simp; omega) ?_; intro v4 w4 hown4 hgr4 hnew4; have HO4 := Lib.hid hown4; have HG4 := Lib.hid hgr4; clear hown4 hgr4 hnew4))
              go_roundw
              case rel =>
                have hsz3 := HB3.out.size
                refine ⟨S.extract K.length S.size, acc ++ [v], rfl, by omega, ?_, ?_, by simp; omega, HEQ⟩
                · exact (((HBL.out.trans (HB3.out.mono hsz)).alloc (Nat.le_trans hsz hsz3) _).grown HG4.out (by simp; omega) (fun g h => (HR3.out.lt g h).1))
                · have h4 := HO4.out
                  unfold RowV
                  rw [vcells_append, List.length_append]
                  exact h4
              case measure => simp only []; omega
            · have hb : ((S.extract 0 K.length).toList == K) = false := by
                rw [ByteArray.toList_eq]
                refine beq_eq_false_iff_ne.2 fun h => hpre ?_
                rw [ByteArray.data_extract, Array.toList_extract] at h
                simpa [List.extract] using h
              have HF2 := Lib.hid (HF.out (by rw [HOK.out]; exact decide_eq_false fun h => hpre h.2))
              clear hpre HF
              go_wp2_with (first
                | (go_at_call 32/-f-/; (with_reducible refine (RG.out _).mono ?_); rintro e w2 ⟨rfl, hb2⟩; have B2 := Lib.hid (HTB.out.below hb2 HTB.out.lt); have r0 := B2.out.cell 0; have r1 := B2.out.cell 1; have r2 := B2.out.cell 2; have hq2 := B2.out.lt; simp at r0 r1 r2; have HB2 := Lib.hid (HTL.out.trans (hb2.mono hwz)); clear hb2)
                | (go_at_call 58/-f-/; (with_reducible refine (RK.out _).mono ?_); rintro e w3 ⟨rfl, hb3⟩; have B3 := Lib.hid (B2.out.below hb3 B2.out.lt); have t0 := B3.out.cell 0; have t1 := B3.out.cell 1; have t2 := B3.out.cell 2; have hq3 := B3.out.lt; simp at t0 t1 t2; have HB3 := Lib.hid (HB2.out.trans (hb3.mono HB2.out.size)); have HR3 := Lib.hid (show RowV w3 w.heap.size u4 acc from (Off.of (S := fun _ => False) HB3.out).own HROW.out (fun _ _ h => h)); clear hb3))
              go_ret2
              exact ⟨⟨none, 0, by rw [HF2.out]; rfl, by rw [HF2.out]; exact .inl rfl, by rw [HF2.out]; exact Nat.le_refl _⟩, HBL.out.trans (HB3.out.mono hsz)⟩
          · have HF2 := Lib.hid (HF.out (by rw [HOK.out]; exact decide_eq_false fun h => hle h.1))
            clear HF
            go_wp2_with (first
                | (go_at_call 32/-f-/; (with_reducible refine (RG.out _).mono ?_); rintro e w2 ⟨rfl, hb2⟩; have B2 := Lib.hid (HTB.out.below hb2 HTB.out.lt); have r0 := B2.out.cell 0; have r1 := B2.out.cell 1; have r2 := B2.out.cell 2; have hq2 := B2.out.lt; simp at r0 r1 r2; have HB2 := Lib.hid (HTL.out.trans (hb2.mono hwz)); clear hb2)
                | (go_at_call 58/-f-/; (with_reducible refine (RK.out _).mono ?_); rintro e w3 ⟨rfl, hb3⟩; have B3 := Lib.hid (B2.out.below hb3 B2.out.lt); have t0 := B3.out.cell 0; have t1 := B3.out.cell 1; have t2 := B3.out.cell 2; have hq3 := B3.out.lt; simp at t0 t1 t2; have HB3 := Lib.hid (HB2.out.trans (hb3.mono HB2.out.size)); have HR3 := Lib.hid (show RowV w3 w.heap.size u4 acc from (Off.of (S := fun _ => False) HB3.out).own HROW.out (fun _ _ h => h)); clear hb3))
            go_ret2
            exact ⟨⟨none, 0, by rw [HF2.out]; rfl, by rw [HF2.out]; exact .inl rfl, by rw [HF2.out]; exact Nat.le_refl _⟩, HBL.out.trans (HB3.out.mono hsz)⟩
        · have HF := Lib.hid (show R = none from by
            rw [heq.out, HST.out, HF0.out, show okK S.data.toList v = false from by unfold okK; rw [Bool.eq_false_iff.2 hr]; rfl]; rfl)
          rw [Bool.eq_false_iff.2 hr] at RG
          clear hr
          go_wp2_with (go_at_call 32/-f-/; (with_reducible refine (RG.out _).mono ?_); rintro e w2 ⟨rfl, hb2⟩; have HB2 := Lib.hid (HTL.out.trans (hb2.mono hwz)); clear hb2)
          go_ret2
          exact ⟨⟨none, 0, by rw [HF.out]; rfl, by rw [HF.out]; exact .inl rfl, by rw [HF.out]; exact Nat.le_refl _⟩, HBL.out.trans (HB2.out.mono hsz)⟩
end Go.Proofs.YtabdmhlnaahdlaaDoor
