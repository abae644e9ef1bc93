/- Contract of the document's Parse of a print. -/
import Derived.Test.YtabdmhlnaahdlaaDoorRpr
import Derived.Test.YtabdmhlnaahdlaaDoorRpm
import Derived.Test.YtabdmhlnaahdlaaDoorFok
import Derived.Deep.CutBlock
import Derived.Deep.DeepCutAuto
namespace Go.Proofs.YtabdmhlnaahdlaaDoor
open Go.ChangeShapes Go.WideShapes Go.ChangeAt Go.RowKit
theorem qd_step (c d : UInt8) (l : List UInt8) : qd (c :: d :: l) = c :: if c = 39 then qd l else qd (d :: l) := by rw [qd]
/-- Behind the switch: the value that is tried lies in its block, and nothing is answered yet. -/
structure TriedP (w wx : World) (s : ByteArray) (v : Val) : Prop where
  blk : Blk wx (w.heap.size + 1) 35/-t-/ #[.int .i64 v.k, .int .i64 v.n, .string v.s]
  res : Res w wx
  cd : rcand s = some v
  sz : v.s.size ≤ 1000000
theorem blk2 (w : World) (o : Obj) (t : TypeId) (cs : Array Value) : Blk ((w.alloc o).alloc (.cells cs t)) (w.heap.size + 1) t cs := by
  have := Blk.new (w.alloc o) t cs
  simpa using this
def parseVal : Option Val → Value
  | some x => .tuple #[.agg #[.int .i64 x.k, .int .i64 x.n, .string x.s], .bool true]
  | none => .tuple #[.agg #[.int .i64 0, .int .i64 0, .string ⟨#[]⟩], .bool false]
set_option maxRecDepth 100000 in
set_option maxHeartbeats 8000000 in
theorem refparse2_any (s : ByteArray) (w : World) (hs : s.size ≤ 700) :
    Calls Tryd.prog 36/-f-/ #[.string s] w fun e w' => e = .returned (parseVal (parsedR s)) ∧ Below w.heap.size w w' := by
  obtain ⟨j0, ji, jz0, jz1, jz2⟩ := info_parts info5
  obtain ⟨R, hR⟩ : ∃ R, R = parsedR s := ⟨_, rfl⟩
  rw [← hR]
  have HR := Lib.hid (show R = (rcand s).bind fun v => if okP s v = true then some v else none from hR)
  clear hR
  have HLL := Lib.hid (show s.data.toList.length = s.size by simp)
  go_enter Tryd.func36/-f-/, Tryd.ntmps36/-f-/
  go_upto_block 0 with fail
  go_cut [] (fun wx => ∃ v : Val, TriedP w wx s v)
  case first =>
    by_cases h1 : s = sTrue
    · have HC := Lib.hid (show rcand s = some ⟨3, 1, ⟨#[]⟩⟩ from by unfold rcand; rw [if_pos h1])
      have n1 : (s.toList == [116, 114, 117, 101]) = true := by rw [h1, ByteArray.toList_eq]; rfl
      clear h1
      go_wp2
      go_meet
      exact ⟨⟨3, 1, ⟨#[]⟩⟩, blk2 _ _ _ _, Res.of ((Below.refl _ _).alloc (Nat.le_refl _) _), HC.out, by show (0 : Nat) ≤ _; omega⟩
    have n1 := str_ne [116, 114, 117, 101] h1
    by_cases h2 : s = sFalse
    · have HC := Lib.hid (show rcand s = some ⟨3, 0, ⟨#[]⟩⟩ from by unfold rcand; rw [if_neg h1, if_pos h2])
      have n2 : (s.toList == [102, 97, 108, 115, 101]) = true := by rw [h2, ByteArray.toList_eq]; rfl
      clear h1 h2
      go_wp2
      go_meet
      exact ⟨⟨3, 0, ⟨#[]⟩⟩, blk2 _ _ _ _, Res.of ((Below.refl _ _).alloc (Nat.le_refl _) _), HC.out, by show (0 : Nat) ≤ _; omega⟩
    have n2 := str_ne [102, 97, 108, 115, 101] h2
    by_cases h3 : s.data.toList.head? = some 39
    · have HC := Lib.hid (show rcand s = some ⟨2, 0, ⟨(qd (s.data.toList.drop 1)).toArray⟩⟩ from by unfold rcand; rw [if_neg h1, if_neg h2, if_pos h3])
      have hpos : 0 < s.size := by
        rcases Nat.eq_zero_or_pos s.size with h | h
        · have e : s.data.toList = [] := List.eq_nil_of_length_eq_zero (by rw [HLL.out]; exact h)
          rw [e] at h3; cases h3
        · exact h
      have h39 : s[0] = 39 := by rw [head_at s hpos] at h3; exact Option.some.inj h3
      have hb0 : ((s[0].toNat : Int) == 39) = true := by rw [h39]; rfl
      clear h1 h2 h3 h39
      go_wp2
      go_loopw [5, 6] (fun b i wx => ∃ (k : Nat) (acc : List UInt8), 1 ≤ k ∧ k ≤ s.size ∧ i = .int .i64 k ∧ Res w wx ∧ Row8 wx (w.heap.size + 2) b acc ∧ Blk wx (w.heap.size + 1) 35/-t-/ #[.int .i64 2, .int .i64 0, .string ⟨#[]⟩] ∧ acc.length ≤ k ∧ Hid (acc = [] → b = .slice none 0 0) ∧ Hid (qd (s.data.toList.drop 1) = acc ++ qd (s.data.toList.drop k))) (fun _ i _ => s.size - (intOf i).toNat)
      case atStart =>
        exact ⟨1, [], by omega, hpos, rfl, Res.of ((Below.refl _ _).alloc (Nat.le_refl _) _), World.ownsRow_nil _ _ _ _, blk2 _ _ _ _, by simp, Lib.hid (fun _ => rfl), Lib.hid rfl⟩
      case round =>
        obtain ⟨k, acc, hk1, hk, rfl, hres, hrx, hbk, hal, hnil, hrd⟩ := hrel
        have HRS := Lib.hid hres
        have HR8 := Lib.hid hrx
        have HBX := Lib.hid hbk
        have HOWN := Lib.hid (show u5.ownBlock ≠ some (w.heap.size + 1) from fun h => by have := (hrx.lt _ h).1; omega)
        have HOWN0 := Lib.hid (show u5.ownBlock ≠ some w.heap.size from fun h => by have := (hrx.lt _ h).1; omega)
        have hbs : w.heap.size + 1 < wr.heap.size := hbk.lt
        have f2 := hbk.frozen 2
        have g2 := hbk.cell 2
        simp at g2
        have hsz8 : (⟨acc.toArray⟩ : ByteArray).size = acc.length := by show acc.toArray.size = _; rw [List.size_toArray]
        have CV : (convert 72/-t-/ 9/-t-/ u5).run Tryd.prog wr = .ok (.string ⟨acc.toArray⟩) wr := by
          by_cases hacc : acc = []
          · rw [hnil.out hacc, hacc]; exact conv_nil wr
          · exact HR8.out.conv (List.length_pos_iff.2 hacc)
        clear hres hrx hbk
        by_cases hlt : k + 1 < s.size
        · have hd1 := Lib.hid (drop_at s k (by omega))
          have hd2 := Lib.hid (drop_at s (k + 1) hlt)
          by_cases hc : s[k] = 39
          · have hc0 : ((s[k].toNat : Int) == 39) = true := by rw [hc]; rfl
            have HEQ := Lib.hid (show qd (s.data.toList.drop 1) = (acc ++ [s[k]]) ++ qd (s.data.toList.drop (k + 2)) from by
              rw [hrd.out, hd1.out, hd2.out, qd_step, if_pos hc]; simp)
            clear hc
            go_wp2_with (at_builtin; refine wpList_append_src _ rfl _ _ 72/-t-/ rfl (w.heap.size + 2) 5/-t-/ j0 (.int .u8 0) 1 1 Tryd.underlying72/-t-/ ji jz0 jz1 jz2 rfl (by decide) u5 acc.length _ rfl (World.ownsRow.alloc HR8.out _) (some ⟨wr.heap.size, 0, none⟩) 1 1 [_] rfl (Src.one _ _ _ rfl) (by unfold maxLen; omega) (by omega) (by simp; omega) ?_; intro v3 w3 hown3 hgr3 hnew3; have HO3 := Lib.hid hown3; have HG3 := Lib.hid hgr3; clear hown3 hgr3 hnew3)
            go_roundw
            case rel =>
              have hb3 : Below w.heap.size w w3 := (HRS.out.below.alloc HRS.out.below.size _).grown HG3.out (by simp; omega) (fun g h => by have := (HR8.out.lt g h).1; omega)
              exact ⟨k + 2, acc ++ [s[k]], by omega, by omega, by first | go_num | (congr 1; omega), ⟨hb3, blk_grown (HRS.out.blk.alloc _) HG3.out HOWN0.out⟩, row8_step (x := s[k]) HO3.out rfl rfl rfl rfl, blk_grown (HBX.out.alloc _) HG3.out HOWN.out, by simp; omega, Lib.hid (fun h => by simp at h), HEQ⟩
            case measure => simp [intOf]; omega
          · have hc0 : ((s[k].toNat : Int) == 39) = false := beq_eq_false_iff_ne.2 (fun h => hc (UInt8.toNat_inj.1 (by show s[k].toNat = 39; omega)))
            have HEQ := Lib.hid (show qd (s.data.toList.drop 1) = (acc ++ [s[k]]) ++ qd (s.data.toList.drop (k + 1)) from by
              rw [hrd.out, hd1.out, hd2.out, qd_step, if_neg hc]; simp)
            clear hc
            go_wp2_with (at_builtin; refine wpList_append_src _ rfl _ _ 72/-t-/ rfl (w.heap.size + 2) 5/-t-/ j0 (.int .u8 0) 1 1 Tryd.underlying72/-t-/ ji jz0 jz1 jz2 rfl (by decide) u5 acc.length _ rfl (World.ownsRow.alloc HR8.out _) (some ⟨wr.heap.size, 0, none⟩) 1 1 [_] rfl (Src.one _ _ _ rfl) (by unfold maxLen; omega) (by omega) (by simp; omega) ?_; intro v3 w3 hown3 hgr3 hnew3; have HO3 := Lib.hid hown3; have HG3 := Lib.hid hgr3; clear hown3 hgr3 hnew3)
            go_roundw
            case rel =>
              have hb3 : Below w.heap.size w w3 := (HRS.out.below.alloc HRS.out.below.size _).grown HG3.out (by simp; omega) (fun g h => by have := (HR8.out.lt g h).1; omega)
              exact ⟨k + 1, acc ++ [s[k]], by omega, by omega, by first | go_num | (congr 1; omega), ⟨hb3, blk_grown (HRS.out.blk.alloc _) HG3.out HOWN0.out⟩, row8_step (x := s[k]) HO3.out rfl rfl rfl rfl, blk_grown (HBX.out.alloc _) HG3.out HOWN.out, by simp; omega, Lib.hid (fun h => by simp at h), HEQ⟩
            case measure => simp [intOf]; omega
        · have HEND := Lib.hid (show qd (s.data.toList.drop 1) = acc from by
            rw [hrd.out]
            by_cases hks : k < s.size
            · rw [drop_at s k hks, List.drop_eq_nil_of_le (by simp; omega)]; simp [qd]
            · rw [List.drop_eq_nil_of_le (by simp; omega)]; simp [qd])
          have HRD := Lib.hid (show rcand s = some ⟨2, 0, ⟨acc.toArray⟩⟩ from by rw [HC.out, HEND.out])
          go_wp2
          go_meet
          exact ⟨⟨2, 0, ⟨acc.toArray⟩⟩, HBX.out.put 2 _, ⟨HRS.out.below.setCell (by show w.heap.size ≤ w.heap.size + 1; omega) _, HRS.out.blk.far (p := ⟨w.heap.size + 1, 2, none⟩) (by show w.heap.size ≠ w.heap.size + 1; omega) _⟩, HRD.out, by rw [hsz8]; omega⟩
    · have hb0 : s.size = 0 ∨ (∃ h : 0 < s.size, ((s[0].toNat : Int) == 39) = false) := by
        rcases Nat.eq_zero_or_pos s.size with h | h
        · left; exact h
        · right
          refine ⟨h, beq_eq_false_iff_ne.2 fun h9 => h3 ?_⟩
          rw [head_at s h]
          exact congrArg some (UInt8.toNat_inj.1 (by show s[0].toNat = 39; omega))
      have RP := Lib.hid (fun W => refparse_any s W hs)
      have HC := Lib.hid (show rcand s = if parseE s.data.toList = 0 then some ⟨1, parseV s.data.toList, ⟨#[]⟩⟩ else none from by unfold rcand; rw [if_neg h1, if_neg h2, if_neg h3])
      clear h1 h2 h3
      generalize parseE s.data.toList = E at *
      generalize parseV s.data.toList = V at *
      by_cases hE : E = 0
      · subst hE
        have HC2 := Lib.hid (HC.out.trans (if_pos rfl))
        clear HC
        rcases hb0 with hb0 | ⟨hpos, hb0⟩
        all_goals
          go_wp2_with (go_at_call 13/-f-/; (with_reducible refine (RP.out _).mono ?_); rintro e w1 ⟨rfl, hb1⟩; have B0 := Lib.hid (Blk.below ((Blk.new w 35/-t-/ #[.int .i64 0, .int .i64 0, .string ⟨#[]⟩]).alloc (.cells #[.int .i64 3, .int .i64 0, .string ⟨#[]⟩] 35/-t-/)) hb1 (by simp; omega)); have B1 := Lib.hid (Blk.below (blk2 w (.cells #[.int .i64 0, .int .i64 0, .string ⟨#[]⟩] 35/-t-/) 35/-t-/ #[.int .i64 3, .int .i64 0, .string ⟨#[]⟩]) hb1 (by simp)); have HB1 := Lib.hid (show Below w.heap.size w w1 from (((Below.refl w.heap.size w).alloc (Nat.le_refl _) _).alloc (by simp) _).trans (hb1.mono (by simp; omega))); have p0 := B0.out.cell 0; have p1 := B0.out.cell 1; have p2 := B0.out.cell 2; have q0 := B1.out.cell 0; have q1 := B1.out.cell 1; have q2 := B1.out.cell 2; have e0 := B0.out.frozen 0; have e1 := B0.out.frozen 1; have e2 := B0.out.frozen 2; have f0 := B1.out.frozen 0; have f1 := B1.out.frozen 1; have f2 := B1.out.frozen 2; have z0 := B0.out.lt; have z1 := B1.out.lt; simp at p0 p1 p2 q0 q1 q2; clear hb1)
          go_meet
          exact ⟨⟨1, V, ⟨#[]⟩⟩, ((B1.out.put 0 _).put 1 _).put 2 _, ⟨((HB1.out.setCell (by show w.heap.size ≤ w.heap.size + 1; omega) _).setCell (by show w.heap.size ≤ w.heap.size + 1; omega) _).setCell (by show w.heap.size ≤ w.heap.size + 1; omega) _, ((B0.out.far (p := ⟨w.heap.size + 1, 0, none⟩) (by show w.heap.size ≠ w.heap.size + 1; omega) _).far (p := ⟨w.heap.size + 1, 1, none⟩) (by show w.heap.size ≠ w.heap.size + 1; omega) _).far (p := ⟨w.heap.size + 1, 2, none⟩) (by show w.heap.size ≠ w.heap.size + 1; omega) _⟩, HC2.out, by show (0 : Nat) ≤ _; omega⟩
      · have HC2 := Lib.hid (HC.out.trans (if_neg hE))
        have hEb : (E == 0) = false := beq_eq_false_iff_ne.2 hE
        have HF := Lib.hid (show R = none from by rw [HR.out, HC2.out]; rfl)
        clear HC hE
        rcases hb0 with hb0 | ⟨hpos, hb0⟩
        all_goals
          go_wp2_with (go_at_call 13/-f-/; (with_reducible refine (RP.out _).mono ?_); rintro e w1 ⟨rfl, hb1⟩; have B0 := Lib.hid (Blk.below ((Blk.new w 35/-t-/ #[.int .i64 0, .int .i64 0, .string ⟨#[]⟩]).alloc (.cells #[.int .i64 3, .int .i64 0, .string ⟨#[]⟩] 35/-t-/)) hb1 (by simp; omega)); have B1 := Lib.hid (Blk.below (blk2 w (.cells #[.int .i64 0, .int .i64 0, .string ⟨#[]⟩] 35/-t-/) 35/-t-/ #[.int .i64 3, .int .i64 0, .string ⟨#[]⟩]) hb1 (by simp)); have HB1 := Lib.hid (show Below w.heap.size w w1 from (((Below.refl w.heap.size w).alloc (Nat.le_refl _) _).alloc (by simp) _).trans (hb1.mono (by simp; omega))); have p0 := B0.out.cell 0; have p1 := B0.out.cell 1; have p2 := B0.out.cell 2; have q0 := B1.out.cell 0; have q1 := B1.out.cell 1; have q2 := B1.out.cell 2; have e0 := B0.out.frozen 0; have e1 := B0.out.frozen 1; have e2 := B0.out.frozen 2; have f0 := B1.out.frozen 0; have f1 := B1.out.frozen 1; have f2 := B1.out.frozen 2; have z0 := B0.out.lt; have z1 := B1.out.lt; simp at p0 p1 p2 q0 q1 q2; clear hb1)
          exact bodyPost_ret (v := .tuple #[.agg #[.int .i64 0, .int .i64 0, .string ⟨#[]⟩], .bool false]) (by simp [results, Tryd.results36/-f-/, go_sem, p0, p1, p2, z0]) rfl ⟨by rw [HF.out]; rfl, (((((HB1.out.setCell (by show w.heap.size ≤ w.heap.size + 1; omega) _).setCell (by show w.heap.size ≤ w.heap.size + 1; omega) _).setCell (by show w.heap.size ≤ w.heap.size + 1; omega) _).setCell (Nat.le_refl _) _).setCell (Nat.le_refl _) _).setCell (Nat.le_refl _) _⟩
  case rest =>
    obtain ⟨v, hT⟩ := hcut
    have HRS := Lib.hid hT.res
    have HBK := Lib.hid hT.blk
    have hvs := hT.sz
    have HF := Lib.hid (show R = if okP s v = true then some v else none from by rw [HR.out, hT.cd]; rfl)
    have HFT := Lib.hid (fun hr => rcand_fit s v hT.cd hr)
    have p0 := hT.blk.cell 0
    have p1 := hT.blk.cell 1
    have p2 := hT.blk.cell 2
    simp at p0 p1 p2
    have hzb := hT.blk.lt
    clear hT
    have RG := Lib.hid (fun W => refright_any v.k v.n v.s W (by omega))
    by_cases hr : rightB v.k v.n v.s = true
    · have RP := Lib.hid (fun W => refprint2_any v W (HFT.out hr) hr)
      have hok : okP s v = decide (printOf v = s.data.toList) := by unfold okP; rw [hr, Bool.true_and]
      have HOK := Lib.hid hok
      rw [hr] at RG
      clear hr hok
      generalize printOf v = P at *
      by_cases hp : P = s.data.toList
      · have hb : (P == s.toList) = true := by rw [hp, ByteArray.toList_eq]; exact beq_self_eq_true _
        have HF2 := Lib.hid (show R = some v from by rw [HF.out, HOK.out, decide_eq_true hp]; rfl)
        clear hp
        go_wp2_with (first
          | (go_at_call 32/-f-/; (with_reducible refine (RG.out _).mono ?_); rintro e w2 ⟨rfl, hb2⟩; have HR2 := Lib.hid (HRS.out.more hb2); have BK2 := Lib.hid (HBK.out.below hb2 hzb); have s0 := BK2.out.cell 0; have s1 := BK2.out.cell 1; have s2 := BK2.out.cell 2; have sz := BK2.out.lt; simp at s0 s1 s2; clear hb2)
          | (go_at_call 33/-f-/; (with_reducible refine (RP.out _).mono ?_); rintro e w3 ⟨rfl, hb3⟩; have HR3 := Lib.hid (HR2.out.more hb3); have BK3 := Lib.hid (BK2.out.below hb3 BK2.out.lt); have t0 := BK3.out.cell 0; have t1 := BK3.out.cell 1; have t2 := BK3.out.cell 2; have tz := BK3.out.lt; have r0 := HR3.out.blk.cell 0; have r1 := HR3.out.blk.cell 1; have r2 := HR3.out.blk.cell 2; have g0 := HR3.out.blk.frozen 0; have g1 := HR3.out.blk.frozen 1; have g2 := HR3.out.blk.frozen 2; have gz := HR3.out.blk.lt; simp at t0 t1 t2 r0 r1 r2; clear hb3))
        exact bodyPost_ret (v := .tuple #[.agg #[.int .i64 v.k, .int .i64 v.n, .string v.s], .bool true]) (by simp [results, Tryd.results36/-f-/, go_sem, r0, r1, r2, gz]) rfl ⟨by rw [HF2.out]; rfl, HR3.out.end_ _ _ _⟩
      · have hb : (P == s.toList) = false := by rw [ByteArray.toList_eq]; exact beq_eq_false_iff_ne.2 hp
        have HF2 := Lib.hid (show R = none from by rw [HF.out, HOK.out, decide_eq_false hp]; rfl)
        clear hp
        go_wp2_with (first
          | (go_at_call 32/-f-/; (with_reducible refine (RG.out _).mono ?_); rintro e w2 ⟨rfl, hb2⟩; have HR2 := Lib.hid (HRS.out.more hb2); have BK2 := Lib.hid (HBK.out.below hb2 hzb); have s0 := BK2.out.cell 0; have s1 := BK2.out.cell 1; have s2 := BK2.out.cell 2; have sz := BK2.out.lt; simp at s0 s1 s2; clear hb2)
          | (go_at_call 33/-f-/; (with_reducible refine (RP.out _).mono ?_); rintro e w3 ⟨rfl, hb3⟩; have HR3 := Lib.hid (HR2.out.more hb3); have BK3 := Lib.hid (BK2.out.below hb3 BK2.out.lt); have t0 := BK3.out.cell 0; have t1 := BK3.out.cell 1; have t2 := BK3.out.cell 2; have tz := BK3.out.lt; have r0 := HR3.out.blk.cell 0; have r1 := HR3.out.blk.cell 1; have r2 := HR3.out.blk.cell 2; have g0 := HR3.out.blk.frozen 0; have g1 := HR3.out.blk.frozen 1; have g2 := HR3.out.blk.frozen 2; have gz := HR3.out.blk.lt; simp at t0 t1 t2 r0 r1 r2; clear hb3))
        exact bodyPost_ret (v := .tuple #[.agg #[.int .i64 0, .int .i64 0, .string ⟨#[]⟩], .bool false]) (by simp [results, Tryd.results36/-f-/, go_sem, r0, r1, r2, gz]) rfl ⟨by rw [HF2.out]; rfl, HR3.out.end_ _ _ _⟩
    · have HF2 := Lib.hid (show R = none from by
        rw [HF.out, show okP s v = false from by unfold okP; rw [Bool.eq_false_iff.2 hr]; rfl]; rfl)
      rw [Bool.eq_false_iff.2 hr] at RG
      clear hr
      go_wp2_with (go_at_call 32/-f-/; (with_reducible refine (RG.out _).mono ?_); rintro e w2 ⟨rfl, hb2⟩; have HR2 := Lib.hid (HRS.out.more hb2); have r0 := HR2.out.blk.cell 0; have r1 := HR2.out.blk.cell 1; have r2 := HR2.out.blk.cell 2; have g0 := HR2.out.blk.frozen 0; have g1 := HR2.out.blk.frozen 1; have g2 := HR2.out.blk.frozen 2; have gz := HR2.out.blk.lt; simp at r0 r1 r2; clear hb2)
      exact bodyPost_ret (v := .tuple #[.agg #[.int .i64 0, .int .i64 0, .string ⟨#[]⟩], .bool false]) (by simp [results, Tryd.results36/-f-/, go_sem, r0, r1, r2, gz]) rfl ⟨by rw [HF2.out]; rfl, HR2.out.end_ _ _ _⟩
end Go.Proofs.YtabdmhlnaahdlaaDoor
