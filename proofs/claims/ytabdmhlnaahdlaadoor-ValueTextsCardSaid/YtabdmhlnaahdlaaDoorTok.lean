/- Contracts of package value: the first value of a key. -/
import Derived.Test.YtabdmhlnaahdlaaDoorUnk
import Derived.Test.YtabdmhlnaahdlaaDoorPar
import Derived.Laws.BitsAllLaws
namespace Go.Proofs.YtabdmhlnaahdlaaDoor
open Go.ChangeShapes Go.WideShapes Go.ChangeAt Go.RowKit
theorem unesc_ne (c : UInt8) (l : List UInt8) (h : c ≠ 0) : unesc (c :: l) = (unesc l).map fun r => (c :: r.1, r.2 + 1) := by
  cases l with
  | nil => rfl
  | cons d t => unfold unesc; rw [if_pos h]; cases t <;> rfl
theorem unesc_ff (l : List UInt8) : unesc (0 :: 255 :: l) = (unesc l).map fun r => (0 :: r.1, r.2 + 2) := by
  rw [unesc, if_neg (by simp), if_pos rfl]
theorem unesc_end (l : List UInt8) : unesc (0 :: 1 :: l) = some ([], 2) := by
  rw [unesc, if_neg (by simp), if_neg (by simp), if_pos rfl]
theorem unesc_bad (d : UInt8) (l : List UInt8) (h1 : d ≠ 255) (h2 : d ≠ 1) : unesc (0 :: d :: l) = none := by
  rw [unesc, if_neg (by simp), if_neg h1, if_neg h2]
/-- What is answered of a first value. -/
def firstVal : Option (Val × Nat) → Value
  | some (x, n) => .tuple #[.agg #[.int .i64 x.k, .int .i64 x.n, .string x.s], .int .i64 n]
  | none => .tuple #[.agg #[.int .i64 0, .int .i64 0, .string ⟨#[]⟩], .int .i64 0]
def textRes (l : List UInt8) : Option (Val × Nat) := (unesc (l.drop 1)).bind fun r => if r.1.length ≤ 200 then some (⟨2, 0, ⟨r.1.toArray⟩⟩, r.2 + 1) else none
theorem drop_at (s : ByteArray) (i : Nat) (h : i < s.size) : s.data.toList.drop i = s[i] :: s.data.toList.drop (i + 1) := by
  rw [List.drop_eq_getElem_cons (by simpa using h)]; rfl
set_option maxRecDepth 100000 in
set_option maxHeartbeats 8000000 in
theorem textof_any (s : ByteArray) (w : World) (hs : s.size ≤ 100000) (h0 : 0 < s.size) :
    Calls Tryd.prog 75/-f-/ #[.string s] w fun e w' => e = .returned (firstVal (textRes s.data.toList)) ∧ Below w.heap.size w w' := by
  obtain ⟨i0, hi, hz0, hz1, hz2⟩ := info_parts info5
  have HTR := Lib.hid (show textRes s.data.toList = (unesc (s.data.toList.drop 1)).bind fun r => if r.1.length ≤ 200 then some (⟨2, 0, ⟨r.1.toArray⟩⟩, r.2 + 1) else none from rfl)
  generalize hR : textRes s.data.toList = R at *
  clear hR
  go_enter Tryd.func75/-f-/, Tryd.ntmps75/-f-/
  go_wp2
  go_loopw [4, 5] (fun v i wr => ∃ (k : Nat) (acc : List UInt8), 1 ≤ k ∧ k ≤ s.size ∧ i = .int .i64 k ∧ Res w wr ∧ Row8 wr (w.heap.size + 1) v acc ∧ acc.length ≤ k ∧ Hid (acc = [] → v = .slice none 0 0) ∧ Hid (unesc (s.data.toList.drop 1) = (unesc (s.data.toList.drop k)).map fun r => (acc ++ r.1, r.2 + (k - 1)))) (fun _ i _ => s.size - (intOf i).toNat)
  case atStart =>
    exact ⟨1, [], by omega, h0, rfl, Res.of (Below.refl _ _), World.ownsRow_nil _ _ _ _, by simp, Lib.hid (fun _ => rfl), Lib.hid (by cases unesc (s.data.toList.drop 1) <;> rfl)⟩
  case round =>
    obtain ⟨k, acc, hk1, hk, rfl, hres, hrow, hal, hnil, heq⟩ := hrel
    have HRS := Lib.hid hres
    have HROW := Lib.hid hrow
    have q0 := hres.blk.cell 0
    have q1 := hres.blk.cell 1
    have q2 := hres.blk.cell 2
    have f0 := hres.blk.frozen 0
    have f1 := hres.blk.frozen 1
    have f2 := hres.blk.frozen 2
    have hz := hres.blk.lt
    simp at q0 q1 q2
    have hown := Lib.hid (show u4.ownBlock ≠ some w.heap.size from fun h => by have := (hrow.lt _ h).1; omega)
    clear hres hrow
    by_cases hlt : k < s.size
    · have hd := Lib.hid (drop_at s k hlt)
      by_cases hc : s[k] = 0
      · have hc0 : ((s[k].toNat : Int) == 0) = true := by rw [hc]; rfl
        have HC := Lib.hid hc
        clear hc
        by_cases hlt2 : k + 1 < s.size
        · have hneq : ((k : Int) + 1 == s.size) = false := beq_eq_false_iff_ne.2 (by omega)
          have hd2 := Lib.hid (drop_at s (k + 1) hlt2)
          have hix : ((k : Int) + 1).toNat = k + 1 := by omega
          by_cases h255 : s[k + 1] = 255
          · have hc1 : ((s[k + 1].toNat : Int) == 255) = true := by rw [h255]; rfl
            have HEQ := Lib.hid (show unesc (s.data.toList.drop 1) = (unesc (s.data.toList.drop (k + 2))).map fun r => ((acc ++ [0]) ++ r.1, r.2 + (k + 2 - 1)) from by
              rw [heq.out, hd.out, HC.out, hd2.out, h255, unesc_ff]
              cases unesc (s.data.toList.drop (k + 2)) with
              | none => rfl
              | some r => simp; omega)
            clear h255
            go_wp2_with (at_builtin; refine wpList_append_src _ rfl _ _ 72/-t-/ rfl (w.heap.size + 1) 5/-t-/ i0 (.int .u8 0) 1 1 Tryd.underlying72/-t-/ hi hz0 hz1 hz2 rfl (by decide) u4 acc.length _ rfl (World.ownsRow.alloc HROW.out _) (some ⟨wr.heap.size, 0, none⟩) 1 1 [_] rfl (Src.one _ _ _ rfl) (by unfold maxLen; omega) (by omega) (by simp; omega) ?_; intro v3 w3 hown3 hgr3 hnew3; have HO3 := Lib.hid hown3; have HG3 := Lib.hid hgr3; clear hown3 hgr3 hnew3)
            go_roundw
            case rel =>
              have hb3 : Below w.heap.size w w3 := (HRS.out.below.alloc HRS.out.below.size _).grown HG3.out (by simp; omega) (fun g h => by have := (HROW.out.lt g h).1; omega)
              exact ⟨k + 2, acc ++ [0], by omega, by omega, by first | go_num | (congr 1; omega), ⟨hb3, blk_grown (HRS.out.blk.alloc _) HG3.out hown.out⟩, row8_step (x := 0) HO3.out rfl rfl rfl rfl, by simp; omega, Lib.hid (fun h => by simp at h), HEQ⟩
            case measure => simp [intOf]; omega
          · have hc1 : ((s[k + 1].toNat : Int) == 255) = false := beq_eq_false_iff_ne.2 (fun h => h255 (UInt8.toNat_inj.1 (by show s[k + 1].toNat = 255; omega)))
            by_cases hone : s[k + 1] = 1
            · have hc2 : ((s[k + 1].toNat : Int) == 1) = true := by rw [hone]; rfl
              have hur := Lib.hid (show unesc (s.data.toList.drop 1) = some (acc, k + 1) from by
                rw [heq.out, hd.out, HC.out, hd2.out, hone, unesc_end]
                simp; omega)
              have CV : (convert 72/-t-/ 9/-t-/ u4).run Tryd.prog wr = .ok (.string ⟨acc.toArray⟩) wr := by
                by_cases hacc : acc = []
                · rw [hnil.out hacc, hacc]; exact conv_nil wr
                · exact HROW.out.conv (List.length_pos_iff.2 hacc)
              have hsz : (⟨acc.toArray⟩ : ByteArray).size = acc.length := by show acc.toArray.size = _; rw [List.size_toArray]
              have RG := Lib.hid (fun W => right_any 2 0 ⟨acc.toArray⟩ W (by omega))
              by_cases hle : acc.length ≤ 200
              · have hrt : rightB 2 0 ⟨acc.toArray⟩ = true := by rw [rightB_2, hsz]; simp [hle]
                rw [hrt] at RG
                have HN := Lib.hid (show R = some (⟨2, 0, ⟨acc.toArray⟩⟩, k + 2) from by
                  rw [HTR.out, hur.out]
                  simp only [Option.bind_some]
                  rw [if_pos hle])
                clear h255 hone hsz hrt
                generalize (⟨acc.toArray⟩ : ByteArray) = S at *
                go_wp2_with (first
                  | (go_at_call 25/-f-/; (with_reducible refine (text_any S _).mono ?_); rintro e w2 ⟨rfl, hb2⟩; have HR2 := Lib.hid (HRS.out.more hb2); clear hb2)
                  | (go_at_call 56/-f-/; (with_reducible refine (RG.out _).mono ?_); rintro e w3 ⟨rfl, hb3⟩; have HR3 := Lib.hid ((HR2.out.more ((Below.refl w2.heap.size w2).alloc (Nat.le_refl _) _)).more hb3); have hB4 := ((Blk.new w2 35/-t-/ #[.int .i64 2, .int .i64 0, .string S]).below hb3 (by simp)); have t0 := hB4.cell 0; have t1 := hB4.cell 1; have t2 := hB4.cell 2; have r0 := HR3.out.blk.cell 0; have r1 := HR3.out.blk.cell 1; have r2 := HR3.out.blk.cell 2; have g0 := HR3.out.blk.frozen 0; have g1 := HR3.out.blk.frozen 1; have g2 := HR3.out.blk.frozen 2; have gz := HR3.out.blk.lt; simp at r0 r1 r2 t0 t1 t2; clear hb3 hB4))
                exact bodyPost_ret (v := .tuple #[.agg #[.int .i64 2, .int .i64 0, .string S], .int .i64 ((k : Int) + 1 + 1)]) (by simp [results, Tryd.results75/-f-/, go_sem, r0, r1, r2, gz]) rfl ⟨by rw [HN.out]; show _ = Ending.returned (.tuple #[.agg #[.int .i64 2, .int .i64 0, .string S], .int .i64 ((k + 2 : Nat) : Int)]); congr 3, HR3.out.end_ _ _ _⟩
              · have hrt : rightB 2 0 ⟨acc.toArray⟩ = false := by rw [rightB_2, hsz]; simp; omega
                rw [hrt] at RG
                have HN := Lib.hid (show R = none from by
                  rw [HTR.out, hur.out]
                  simp only [Option.bind_some]
                  rw [if_neg hle])
                clear h255 hone hsz hrt
                generalize (⟨acc.toArray⟩ : ByteArray) = S at *
                go_wp2_with (first
                  | (go_at_call 25/-f-/; (with_reducible refine (text_any S _).mono ?_); rintro e w2 ⟨rfl, hb2⟩; have HR2 := Lib.hid (HRS.out.more hb2); clear hb2)
                  | (go_at_call 56/-f-/; (with_reducible refine (RG.out _).mono ?_); rintro e w3 ⟨rfl, hb3⟩; have HR3 := Lib.hid ((HR2.out.more ((Below.refl w2.heap.size w2).alloc (Nat.le_refl _) _)).more hb3); have r0 := HR3.out.blk.cell 0; have r1 := HR3.out.blk.cell 1; have r2 := HR3.out.blk.cell 2; have g0 := HR3.out.blk.frozen 0; have g1 := HR3.out.blk.frozen 1; have g2 := HR3.out.blk.frozen 2; have gz := HR3.out.blk.lt; simp at r0 r1 r2; clear hb3))
                exact bodyPost_ret (v := .tuple #[.agg #[.int .i64 0, .int .i64 0, .string ⟨#[]⟩], .int .i64 0]) (by simp [results, Tryd.results75/-f-/, go_sem, r0, r1, r2, gz]) rfl ⟨by rw [HN.out]; rfl, HR3.out.end_ _ _ _⟩
            · have hc2 : ((s[k + 1].toNat : Int) == 1) = false := beq_eq_false_iff_ne.2 (fun h => hone (UInt8.toNat_inj.1 (by show s[k + 1].toNat = 1; omega)))
              have HN := Lib.hid (show R = none from by
                rw [HTR.out, heq.out, hd.out, HC.out, hd2.out, unesc_bad _ _ h255 hone]; rfl)
              clear h255 hone
              go_wp2
              refine bodyPost_ret (v := .tuple #[.agg #[.int .i64 0, .int .i64 0, .string ⟨#[]⟩], .int .i64 0]) (by simp [results, Tryd.results75/-f-/, go_sem, q0, q1, q2, hz]) rfl ⟨by rw [HN.out]; rfl, HRS.out.end_ _ _ _⟩
        · have hend : ((k : Int) + 1 == s.size) = true := by have : (k : Int) + 1 = s.size := by omega
                                                             rw [this]; exact beq_self_eq_true _
          have HN := Lib.hid (show R = none from by
            rw [HTR.out, heq.out, hd.out, HC.out, List.drop_eq_nil_of_le (by simp; omega)]; rfl)
          go_wp2
          refine bodyPost_ret (v := .tuple #[.agg #[.int .i64 0, .int .i64 0, .string ⟨#[]⟩], .int .i64 0]) (by simp [results, Tryd.results75/-f-/, go_sem, q0, q1, q2, hz]) rfl ⟨by rw [HN.out]; rfl, HRS.out.end_ _ _ _⟩
      · have hc0 : ((s[k].toNat : Int) == 0) = false := beq_eq_false_iff_ne.2 (fun h => hc (UInt8.toNat_inj.1 (by show s[k].toNat = 0; omega)))
        have HEQ := Lib.hid (show unesc (s.data.toList.drop 1) = (unesc (s.data.toList.drop (k + 1))).map fun r => ((acc ++ [s[k]]) ++ r.1, r.2 + (k + 1 - 1)) from by
          rw [heq.out, hd.out, unesc_ne _ _ hc]
          cases unesc (s.data.toList.drop (k + 1)) with
          | none => rfl
          | some r => simp; omega)
        clear hc
        go_wp2_with (at_builtin; refine wpList_append_src _ rfl _ _ 72/-t-/ rfl (w.heap.size + 1) 5/-t-/ i0 (.int .u8 0) 1 1 Tryd.underlying72/-t-/ hi hz0 hz1 hz2 rfl (by decide) u4 acc.length _ rfl (World.ownsRow.alloc HROW.out _) (some ⟨wr.heap.size, 0, none⟩) 1 1 [_] rfl (Src.one _ _ _ rfl) (by unfold maxLen; omega) (by omega) (by simp; omega) ?_; intro v3 w3 hown3 hgr3 hnew3; have HO3 := Lib.hid hown3; have HG3 := Lib.hid hgr3; clear hown3 hgr3 hnew3)
        go_roundw
        case rel =>
          have hb3 : Below w.heap.size w w3 := (HRS.out.below.alloc HRS.out.below.size _).grown HG3.out (by simp; omega) (fun g h => by have := (HROW.out.lt g h).1; omega)
          exact ⟨k + 1, acc ++ [s[k]], by omega, by omega, by go_num, ⟨hb3, blk_grown (HRS.out.blk.alloc _) HG3.out hown.out⟩, row8_step (x := s[k]) HO3.out rfl rfl rfl rfl, by simp; omega, Lib.hid (fun h => by simp at h), HEQ⟩
        case measure => simp [intOf]; omega
    · have hkl : k = s.size := by omega
      subst hkl
      have HN := Lib.hid (show R = none from by
        rw [HTR.out, heq.out, List.drop_eq_nil_of_le (by simp)]; rfl)
      go_wp2
      refine bodyPost_ret (v := .tuple #[.agg #[.int .i64 0, .int .i64 0, .string ⟨#[]⟩], .int .i64 0]) (by simp [results, Tryd.results75/-f-/, go_sem, q0, q1, q2, hz]) rfl ⟨by rw [HN.out]; rfl, HRS.out.end_ _ _ _⟩
end Go.Proofs.YtabdmhlnaahdlaaDoor
