/- StreamBorders: whatever batches come to a border, from any mark on: each answer, and the mark behind it. No condition. -/
import Derived.Test.YtacangeamdcgdaaRows
import Derived.Test.YtacangeamdcgdaaSte
namespace Go.Proofs.Ytacangeamdcgdaa.StreamBorders
open Go.ChangeShapes Go.WideShapes Go.ChangeAt Go.RowKit Go.Deep
theorem greatl_no {nm : ByteArray} {cs : List Col} {bs : List Bat} (h : greatL nm cs bs = false) : cs.length ≤ 12 ∧ bs.length ≤ 40 ∧ ∀ b ∈ bs, b.rows.length ≤ 40 ∧ ∀ r ∈ b.rows, r.length ≤ 30 := by
  unfold greatL at h
  rw [Bool.or_eq_false_iff, Bool.or_eq_false_iff, decide_eq_false_iff_not, List.any_eq_false] at h
  refine ⟨(greatS_no h.1.1).1, by omega, fun b hb => ?_⟩
  have hb2 : badB b = false := by simpa using h.2 b hb
  unfold badB at hb2
  rw [Bool.or_eq_false_iff, decide_eq_false_iff_not, List.any_eq_false] at hb2
  exact ⟨by omega, fun r hr => (great_no (by simpa using hb2.2 r hr)).1⟩
theorem bats_at {w : World} {A : Option Addr} {bs : List Bat} (h : Bats w A bs) {k : Nat} (hk : k < bs.length) : ∃ b off, A = some ⟨b, off, none⟩ ∧ b < w.heap.size ∧ ∃ Ai ci, w.cell? ⟨b, off + k * 2, none⟩ = some (.int .i64 (bs.getD k default).id) ∧ w.cell? ⟨b, off + k * 2 + 1, none⟩ = some (.slice Ai (bs.getD k default).rows.length ci) ∧ Rowz w Ai (bs.getD k default).rows := by
  rcases h with h | ⟨b, off, h1, h2, h3⟩
  · subst h; simp at hk
  · obtain ⟨Ai, ci, a1, a2, a3⟩ := h3 k hk
    exact ⟨b, off, h1, h2, Ai, ci, a1, a2, a3⟩
/-- What holds between the calls: the stream in its box, and all else as it was. -/
structure KS (w W : World) (nm : ByteArray) (A : Option Addr) (n c : Nat) : Prop where
  k : Blk W w.heap.size 24 #[.string nm, .slice A n c]
  bel : Below w.heap.size w W
theorem KS.keep {w W W' : World} {nm : ByteArray} {A : Option Addr} {n c : Nat} (k : KS w W nm A n c) (hb : Below W.heap.size W W') : KS w W' nm A n c :=
  ⟨k.k.below hb k.k.lt, k.bel.trans (hb.mono k.bel.size)⟩
theorem KS.off {w W W' : World} {nm : ByteArray} {A : Option Addr} {n c g : Nat} (k : KS w W nm A n c) (ho : Off (fun x => x = g) W W') (hg : w.heap.size < g) : KS w W' nm A n c :=
  ⟨ho.blk k.k (fun h => by omega), k.bel.trans (ho.below (B := w.heap.size) (fun x hx (h : x = g) => by omega) k.bel.size)⟩
theorem KS.cells {w W : World} {nm : ByteArray} {A : Option Addr} {n c : Nat} (k : KS w W nm A n c) : W.cell? ⟨w.heap.size, 0, none⟩ = some (.string nm) ∧ W.cell? ⟨w.heap.size, 1, none⟩ = some (.slice A n c) ∧ w.heap.size < W.heap.size :=
  ⟨(blk2 k.k).1, (blk2 k.k).2.1, k.k.lt⟩
set_option maxRecDepth 100000 in
set_option maxHeartbeats 16000000 in
theorem walk (nm : ByteArray) (A : Option Addr) (c : Nat) (cs : List Col) (k : Int) (B : Option Addr) (m d : Nat) (bs : List Bat) (w : World) (hnm : nm.size ≤ 9223372036854775807) (hA : Cols w A cs) (hcl : cs.length ≤ 9223372036854775807) (hcc : cs.length ≤ c) (hcf : ∀ x ∈ cs, FitC x) (hk : -9223372036854775808 ≤ k ∧ k ≤ 9223372036854775807)
    (hB : Bats w B bs) (hm : bs.length = m) (hm9 : m ≤ 9223372036854775807) (hbf : ∀ x ∈ bs, FitB x) :
    Calls Try.prog 3/-f-/ #[.agg #[.string nm, .slice A cs.length c], .int .i64 k, .slice B m d] w fun e w' => e = .returned (.bool true) ∧ Below w.heap.size w w' := by
  subst hm
  have b1 := below_alloc w (.cells #[.string nm, .slice A cs.length c] 24)
  have K1 := Lib.hid (KS.mk (Blk.new w 24 #[.string nm, .slice A cs.length c]) b1)
  have AW := Lib.hid awake_any
  have GL' := greatl_any nm A c cs B d bs (w.alloc (.cells #[.string nm, .slice A cs.length c] 24)) hnm (hA.keep b1) hcl hcc hcf (hB.keep b1) hm9 hbf
  obtain ⟨q, hq⟩ : ∃ q, q = greatL nm cs bs := ⟨_, rfl⟩
  rw [← hq] at GL'
  have GL := Lib.hid GL'
  have HQ := Lib.hid hq
  clear GL' hq b1
  cases q with
  | true =>
    go_enter Try.func3, Try.ntmps3
    go_wp2_with (first
      | (go_at_call 9/-f-/; (with_reducible refine GL.out.mono ?_); rintro e w2 ⟨rfl, hb2⟩; have K2 := Lib.hid (K1.out.keep hb2); clear hb2)
      | (go_at_call 10/-f-/; (with_reducible refine (AW.out _).mono ?_); rintro e w9 ⟨rfl, hb9⟩; have K9 := Lib.hid (K2.out.keep hb9); clear hb9))
    go_ret
    exact ⟨rfl, K9.out.bel⟩
  | false =>
  obtain ⟨hc12, hb40, hrows⟩ := greatl_no HQ.out.symm
  have HA := Lib.hid hA
  have HBS := Lib.hid hB
  have HBF := Lib.hid hbf
  have HCF := Lib.hid hcf
  have HRW := Lib.hid hrows
  have LR' := fun W (hW : Below w.heap.size w W) => lright_any nm A c cs W hnm (hA.keep hW) hcl hcc hcf
  obtain ⟨r, hr⟩ : ∃ r, r = schB (strS nm cs) := ⟨_, rfl⟩
  rw [← hr] at LR'
  have LR := Lib.hid LR'
  have HR := Lib.hid hr
  clear LR' hr hA hB hbf hcf hrows
  cases r with
  | false =>
    have NB := Lib.hid (fun W (hW : Below w.heap.size w W) => newborder_no nm A c cs W hnm (HA.out.keep hW) (by omega) hcc HCF.out HR.out.symm)
    go_enter Try.func3, Try.ntmps3
    go_wp2_with (first
      | (go_at_call 9/-f-/; (with_reducible refine GL.out.mono ?_); rintro e w2 ⟨rfl, hb2⟩; have K2 := Lib.hid (K1.out.keep hb2); clear hb2)
      | (go_at_call 10/-f-/; (with_reducible refine (AW.out _).mono ?_); rintro e w3 ⟨rfl, hb3⟩; have K3 := Lib.hid (K2.out.keep hb3); clear hb3; obtain ⟨d0, d1, hl⟩ := K3.out.cells)
      | (go_at_call 11/-f-/; (with_reducible refine (NB.out _ K3.out.bel).mono ?_); rintro e w4 ⟨rfl, hb4⟩; have K4 := Lib.hid (K3.out.keep hb4); clear hb4 d0 d1 hl; obtain ⟨d0, d1, hl⟩ := K4.out.cells)
      | (go_at_call 12/-f-/; (with_reducible refine (LR.out _ K4.out.bel).mono ?_); rintro e w5 ⟨rfl, hb5⟩; have K5 := Lib.hid (K4.out.keep hb5); clear hb5))
    go_ret
    exact ⟨rfl, K5.out.bel⟩
  | true =>
    have NB := Lib.hid (fun W (hW : Below w.heap.size w W) => newborder_yes nm A c cs W hnm (HA.out.keep hW) (by omega) hcc HCF.out HR.out.symm)
    go_enter Try.func3, Try.ntmps3
    go_upto_region 6 with (first
      | (go_at_call 9/-f-/; (with_reducible refine GL.out.mono ?_); rintro e w2 ⟨rfl, hb2⟩; have K2 := Lib.hid (K1.out.keep hb2); clear hb2)
      | (go_at_call 10/-f-/; (with_reducible refine (AW.out _).mono ?_); rintro e w3 ⟨rfl, hb3⟩; have K3 := Lib.hid (K2.out.keep hb3); clear hb3; obtain ⟨d0, d1, hl⟩ := K3.out.cells)
      | (go_at_call 11/-f-/; (with_reducible refine (NB.out _ K3.out.bel).mono ?_); rintro e w4 ⟨⟨g, rfl, hg, hbo⟩, hb4⟩; have K4 := Lib.hid (K3.out.keep hb4); have HBO4 := Lib.hid hbo; have hgw : w.heap.size < g := (by omega); clear hb4 d0 d1 hl hbo hg; obtain ⟨d0, d1, hl⟩ := K4.out.cells)
      | (go_at_call 12/-f-/; (with_reducible refine (LR.out _ K4.out.bel).mono ?_); rintro e w5 ⟨rfl, hb5⟩; have K5 := Lib.hid (K4.out.keep hb5); have HBO5 := Lib.hid (HBO4.out.keep hb5); clear hb5 d0 d1 hl; obtain ⟨d0, d1, hl⟩ := K5.out.cells))
    obtain ⟨z, hz⟩ : ∃ z, z = decide (0 ≤ k) := ⟨_, rfl⟩
    obtain ⟨v, hv⟩ : ∃ v : Int, v = (if k < 0 then 1 else 0) := ⟨_, rfl⟩
    have hmx : (if k < 0 then (0 : Int) else k) = max k 0 := by split <;> omega
    have hvz : (v == 0) = z := by
      rw [hv, hz]
      by_cases h : k < 0
      · rw [if_pos h, decide_eq_false (by omega)]; rfl
      · rw [if_neg h, decide_eq_true (by omega)]; rfl
    have ST' := bset_any g nm cs 0 k w5.drew (HBO5.out.keep (Below.refl _ _).drew)
    rw [← hv, hmx] at ST'
    have ST := Lib.hid ST'
    have NM := Lib.hid (name_any g nm cs 0 w5.drew (HBO5.out.keep (Below.refl _ _).drew))
    have hz2 := hz.symm
    clear ST' hv hmx hz
    go_region_held3 (fun W => W.cell? ⟨w.heap.size, 0, none⟩ = some (.string nm))
      (first | exact d0 | (exact (World.cell?_of_block (a := ⟨w.heap.size, 0, none⟩) (ho7.block w.heap.size hl (fun (h : w.heap.size = g) => (by omega)))).trans d0))
      (first
        | (go_at_call 13/-f-/; (with_reducible refine NM.out.mono ?_); rintro e w6 ⟨rfl, rfl⟩)
        | (go_at_call 14/-f-/; (with_reducible refine ST.out.mono ?_); rintro e w7 ⟨rfl, ho7, hb7⟩))
    have K7 := Lib.hid (K5.out.off (g := g) ⟨ho7.os, ho7.tape, ho7.output, ho7.size, ho7.block⟩ hgw)
    have HBO7 := Lib.hid hb7
    clear d0 d1 ho7 hb7 hl
    go_upto_region 8 with fail
    go_cut [9] from 56 to 57 (fun v wx => v = .int .i64 (max k 0) ∧ wx = w7)
    case first =>
      go_wp2
      all_goals
        go_meet
        exact ⟨congrArg (Value.int .i64) (by omega), rfl⟩
    case rest v9 =>
      obtain ⟨rfl, rfl⟩ := hcut
      go_wp2
      go_loopw [9, 10] (fun a i wr => ∃ (m : Int) (j : Nat), 0 ≤ m ∧ m ≤ 9223372036854775807 ∧ j ≤ bs.length ∧ a = .int .i64 m ∧ i = .int .i64 j ∧ Hid (KS w wr nm A cs.length c) ∧ Hid (Bord wr g nm cs m)) (fun _ i _ => bs.length - (intOf i).toNat)
      case atStart => exact ⟨max k 0, 0, by omega, by omega, Nat.zero_le _, rfl, rfl, K7, HBO7⟩
      case round =>
        obtain ⟨m, j, hm0, hm9', hj, rfl, rfl, hks, hbo⟩ := hrel
        obtain ⟨wx, rfl⟩ : ∃ x, x = wr := ⟨wr, rfl⟩
        by_cases hlt : j < bs.length
        · obtain ⟨b, off, rfl, hbw, Ai, ci, a0, a1, hrz⟩ := bats_at HBS.out hlt
          have hM : bs.getD j default ∈ bs := by simp [List.getD, hlt]
          have hfb := HBF.out _ hM
          have hrw := HRW.out _ hM
          generalize bs.getD j default = x at *
          obtain ⟨xi, rs⟩ := x
          simp only at a0 a1 hrz
          have hxi := hfb.id
          simp only at hxi
          have hr1 : ∀ r ∈ rs, r.length ≤ 1000 ∧ ∀ x ∈ r, FitV x := fun r hr => ⟨by have := hrw.2 r hr; omega, (hfb.rows r hr).2⟩
          have hrl : rs.length ≤ 40 := hrw.1
          have FL' := fun W (hb : Below w.heap.size w W) => lfits_any A Ai c ci cs rs W (HA.out.keep hb) (hrz.below hb) (by omega) hcc HCF.out (by omega) hr1
          have CKG' := fun W (hK : KS w W nm A cs.length c) (hBo : Bord W g nm cs m) => bcheck_any g nm cs m xi Ai rs.length ci (fitsS cs rs) W hBo hxi ⟨hm0, hm9'⟩ (fun B d W2 hb2 hc2 hd2 => sfits_any B Ai d ci cs rs W2 hc2 (hrz.below (hK.bel.trans (hb2.mono hK.bel.size))) (by omega) (by omega) hr1)
          have TKG' := fun W (hK : KS w W nm A cs.length c) (hBo : Bord W g nm cs m) => btake_any g nm cs m xi Ai rs.length ci (fitsS cs rs) W hBo hxi ⟨hm0, hm9'⟩ (fun B d W2 hb2 hc2 hd2 => sfits_any B Ai d ci cs rs W2 hc2 (hrz.below (hK.bel.trans (hb2.mono hK.bel.size))) (by omega) (by omega) hr1)
          generalize fitsS cs rs = q at *
          have FL := Lib.hid FL'
          have CKG := Lib.hid CKG'
          have TKG := Lib.hid TKG'
          have MX := Lib.hid (fun W (hBo : Bord W g nm cs m) => mark_any g nm cs m W hBo)
          clear FL' CKG' TKG' hrz hr1 hfb hrw hM
          obtain ⟨d0, d1, hl⟩ := hks.out.cells
          have x0 := (hks.out.bel.cell (p := ⟨b, off + j * 2, none⟩) hbw).trans a0
          have x1 := (hks.out.bel.cell (p := ⟨b, off + j * 2 + 1, none⟩) hbw).trans a1
          have hbx : b < wx.heap.size := Nat.lt_of_lt_of_le hbw hks.out.bel.size
          have hji : (j : Int) < (bs.length : Int) := by omega
          have hj0 : (0 : Int) ≤ (j : Int) := by omega
          have HDR := Lib.hid (hks.out.bel.drew)
          go_upto_region 13 with fail
          go_region_held3 (fun W => W.cell? ⟨w.heap.size, 1, none⟩ = some (.slice A cs.length c) ∧ W.cell? ⟨b, off + j * 2, none⟩ = some (.int .i64 xi) ∧ W.cell? ⟨b, off + j * 2 + 1, none⟩ = some (.slice Ai rs.length ci))
            (first | exact ⟨d1, x0, x1⟩ | (refine ⟨(hb3.cell (p := ⟨w.heap.size, 1, none⟩) hl).trans d1, (hb3.cell (p := ⟨b, off + j * 2, none⟩) hbx).trans x0, (hb3.cell (p := ⟨b, off + j * 2 + 1, none⟩) hbx).trans x1⟩))
            (first
              | (go_at_call 15/-f-/; (with_reducible refine (FL.out _ HDR.out).mono ?_); rintro e w3 ⟨rfl, hb3⟩))
          have hb4 : Below wx.heap.size wx w3 := ⟨hb3.os, hb3.tape, hb3.output, hb3.size, hb3.block⟩
          have KX := Lib.hid (hks.out.keep hb4)
          have HBX := Lib.hid (hbo.out.keep hb4)
          clear d0 d1 hl x0 x1 hb3 hb4 hbx hks hbo HDR
          have x0 := (KX.out.bel.cell (p := ⟨b, off + j * 2, none⟩) hbw).trans a0
          have x1 := (KX.out.bel.cell (p := ⟨b, off + j * 2 + 1, none⟩) hbw).trans a1
          cases q with
          | false =>
            have hr : chk false xi m = 13 := by rfl
            have CK := Lib.hid (show ∀ W, KS w W nm A cs.length c → Bord W g nm cs m → Calls Try.prog 16/-f-/ #[.pointer (some ⟨g, 0, none⟩), .agg #[.int .i64 xi, .slice Ai rs.length ci]] W fun e w' => e = .returned (.int .i64 13) ∧ Below W.heap.size W w' from fun W hK hBo => by
              have h := CKG.out W hK hBo
              rwa [hr] at h)
            have TK := Lib.hid (show ∀ W, KS w W nm A cs.length c → Bord W g nm cs m → Calls Try.prog 18/-f-/ #[.pointer (some ⟨g, 0, none⟩), .agg #[.int .i64 xi, .slice Ai rs.length ci]] W fun e w' => e = .returned (.int .i64 13) ∧ Off (fun x => x = g) W w' ∧ Bord w' g nm cs m from fun W hK hBo => by
              have h := TKG.out W hK hBo
              rw [hr] at h
              exact h)
            have MK := Lib.hid (fun W (hBo : Bord W g nm cs m) => mark_any g nm cs m W hBo)
            clear hr CKG TKG
            go_wp2_with (first
                  | (go_at_call 16/-f-/; (with_reducible refine (CK.out _ KX.out HBX.out).mono ?_); rintro e w4 ⟨rfl, hb4⟩; replace KX := Lib.hid (KX.out.keep hb4); replace HBX := Lib.hid (HBX.out.keep hb4); clear hb4 x0 x1; have x0 := (KX.out.bel.cell (p := ⟨b, off + j * 2, none⟩) hbw).trans a0; have x1 := (KX.out.bel.cell (p := ⟨b, off + j * 2 + 1, none⟩) hbw).trans a1)
                  | (go_at_call 17/-f-/; (with_reducible refine (MK.out _ HBY.out).mono ?_); rintro e w4 ⟨rfl, rfl⟩)
                  | (go_at_call 17/-f-/; (with_reducible refine (MX.out _ HBX.out).mono ?_); rintro e w4 ⟨rfl, rfl⟩)
                  | (go_at_call 18/-f-/; (with_reducible refine (TK.out _ KX.out HBX.out).mono ?_); rintro e w6 ⟨rfl, ho6, hb6⟩; replace KX := Lib.hid (KX.out.off ho6 hgw); have HBY := Lib.hid hb6; clear ho6 hb6 x0 x1; have x0 := (KX.out.bel.cell (p := ⟨b, off + j * 2, none⟩) hbw).trans a0; have x1 := (KX.out.bel.cell (p := ⟨b, off + j * 2 + 1, none⟩) hbw).trans a1))
            go_roundw
            case rel => exact ⟨m, j + 1, by omega, by omega, hlt, by first | rfl | go_num, by go_num, KX, HBY⟩
            case measure => simp [intOf]; omega
          | true =>
          by_cases h1 : xi < 1
          · have hr : chk true xi m = 1 := by unfold chk; rw [if_neg (by decide), if_pos h1]
            have CK := Lib.hid (show ∀ W, KS w W nm A cs.length c → Bord W g nm cs m → Calls Try.prog 16/-f-/ #[.pointer (some ⟨g, 0, none⟩), .agg #[.int .i64 xi, .slice Ai rs.length ci]] W fun e w' => e = .returned (.int .i64 1) ∧ Below W.heap.size W w' from fun W hK hBo => by
              have h := CKG.out W hK hBo
              rwa [hr] at h)
            have TK := Lib.hid (show ∀ W, KS w W nm A cs.length c → Bord W g nm cs m → Calls Try.prog 18/-f-/ #[.pointer (some ⟨g, 0, none⟩), .agg #[.int .i64 xi, .slice Ai rs.length ci]] W fun e w' => e = .returned (.int .i64 1) ∧ Off (fun x => x = g) W w' ∧ Bord w' g nm cs m from fun W hK hBo => by
              have h := TKG.out W hK hBo
              rw [hr] at h
              exact h)
            have MK := Lib.hid (fun W (hBo : Bord W g nm cs m) => mark_any g nm cs m W hBo)
            clear hr CKG TKG
            go_wp2_with (first
                  | (go_at_call 16/-f-/; (with_reducible refine (CK.out _ KX.out HBX.out).mono ?_); rintro e w4 ⟨rfl, hb4⟩; replace KX := Lib.hid (KX.out.keep hb4); replace HBX := Lib.hid (HBX.out.keep hb4); clear hb4 x0 x1; have x0 := (KX.out.bel.cell (p := ⟨b, off + j * 2, none⟩) hbw).trans a0; have x1 := (KX.out.bel.cell (p := ⟨b, off + j * 2 + 1, none⟩) hbw).trans a1)
                  | (go_at_call 17/-f-/; (with_reducible refine (MK.out _ HBY.out).mono ?_); rintro e w4 ⟨rfl, rfl⟩)
                  | (go_at_call 17/-f-/; (with_reducible refine (MX.out _ HBX.out).mono ?_); rintro e w4 ⟨rfl, rfl⟩)
                  | (go_at_call 18/-f-/; (with_reducible refine (TK.out _ KX.out HBX.out).mono ?_); rintro e w6 ⟨rfl, ho6, hb6⟩; replace KX := Lib.hid (KX.out.off ho6 hgw); have HBY := Lib.hid hb6; clear ho6 hb6 x0 x1; have x0 := (KX.out.bel.cell (p := ⟨b, off + j * 2, none⟩) hbw).trans a0; have x1 := (KX.out.bel.cell (p := ⟨b, off + j * 2 + 1, none⟩) hbw).trans a1))
            go_roundw
            case rel => exact ⟨m, j + 1, by omega, by omega, hlt, by first | rfl | go_num, by go_num, KX, HBY⟩
            case measure => simp [intOf]; omega
          by_cases h2 : xi ≤ m
          · have hr : chk true xi m = 9 := by unfold chk; rw [if_neg (by decide), if_neg h1, if_pos h2]
            have CK := Lib.hid (show ∀ W, KS w W nm A cs.length c → Bord W g nm cs m → Calls Try.prog 16/-f-/ #[.pointer (some ⟨g, 0, none⟩), .agg #[.int .i64 xi, .slice Ai rs.length ci]] W fun e w' => e = .returned (.int .i64 9) ∧ Below W.heap.size W w' from fun W hK hBo => by
              have h := CKG.out W hK hBo
              rwa [hr] at h)
            have TK := Lib.hid (show ∀ W, KS w W nm A cs.length c → Bord W g nm cs m → Calls Try.prog 18/-f-/ #[.pointer (some ⟨g, 0, none⟩), .agg #[.int .i64 xi, .slice Ai rs.length ci]] W fun e w' => e = .returned (.int .i64 9) ∧ Off (fun x => x = g) W w' ∧ Bord w' g nm cs m from fun W hK hBo => by
              have h := TKG.out W hK hBo
              rw [hr] at h
              exact h)
            have MK := Lib.hid (fun W (hBo : Bord W g nm cs m) => mark_any g nm cs m W hBo)
            clear hr CKG TKG
            go_wp2_with (first
                  | (go_at_call 16/-f-/; (with_reducible refine (CK.out _ KX.out HBX.out).mono ?_); rintro e w4 ⟨rfl, hb4⟩; replace KX := Lib.hid (KX.out.keep hb4); replace HBX := Lib.hid (HBX.out.keep hb4); clear hb4 x0 x1; have x0 := (KX.out.bel.cell (p := ⟨b, off + j * 2, none⟩) hbw).trans a0; have x1 := (KX.out.bel.cell (p := ⟨b, off + j * 2 + 1, none⟩) hbw).trans a1)
                  | (go_at_call 17/-f-/; (with_reducible refine (MK.out _ HBY.out).mono ?_); rintro e w4 ⟨rfl, rfl⟩)
                  | (go_at_call 17/-f-/; (with_reducible refine (MX.out _ HBX.out).mono ?_); rintro e w4 ⟨rfl, rfl⟩)
                  | (go_at_call 18/-f-/; (with_reducible refine (TK.out _ KX.out HBX.out).mono ?_); rintro e w6 ⟨rfl, ho6, hb6⟩; replace KX := Lib.hid (KX.out.off ho6 hgw); have HBY := Lib.hid hb6; clear ho6 hb6 x0 x1; have x0 := (KX.out.bel.cell (p := ⟨b, off + j * 2, none⟩) hbw).trans a0; have x1 := (KX.out.bel.cell (p := ⟨b, off + j * 2 + 1, none⟩) hbw).trans a1))
            go_roundw
            case rel => exact ⟨m, j + 1, by omega, by omega, hlt, by first | rfl | go_num, by go_num, KX, HBY⟩
            case measure => simp [intOf]; omega
          by_cases h3 : m < xi - 1
          · have h3b : m + 1 < xi := by omega
            have hr : chk true xi m = 10 := by unfold chk; rw [if_neg (by decide), if_neg h1, if_neg h2, if_pos h3]
            have CK := Lib.hid (show ∀ W, KS w W nm A cs.length c → Bord W g nm cs m → Calls Try.prog 16/-f-/ #[.pointer (some ⟨g, 0, none⟩), .agg #[.int .i64 xi, .slice Ai rs.length ci]] W fun e w' => e = .returned (.int .i64 10) ∧ Below W.heap.size W w' from fun W hK hBo => by
              have h := CKG.out W hK hBo
              rwa [hr] at h)
            have TK := Lib.hid (show ∀ W, KS w W nm A cs.length c → Bord W g nm cs m → Calls Try.prog 18/-f-/ #[.pointer (some ⟨g, 0, none⟩), .agg #[.int .i64 xi, .slice Ai rs.length ci]] W fun e w' => e = .returned (.int .i64 10) ∧ Off (fun x => x = g) W w' ∧ Bord w' g nm cs m from fun W hK hBo => by
              have h := TKG.out W hK hBo
              rw [hr] at h
              exact h)
            have MK := Lib.hid (fun W (hBo : Bord W g nm cs m) => mark_any g nm cs m W hBo)
            clear hr CKG TKG
            go_wp2_with (first
                  | (go_at_call 16/-f-/; (with_reducible refine (CK.out _ KX.out HBX.out).mono ?_); rintro e w4 ⟨rfl, hb4⟩; replace KX := Lib.hid (KX.out.keep hb4); replace HBX := Lib.hid (HBX.out.keep hb4); clear hb4 x0 x1; have x0 := (KX.out.bel.cell (p := ⟨b, off + j * 2, none⟩) hbw).trans a0; have x1 := (KX.out.bel.cell (p := ⟨b, off + j * 2 + 1, none⟩) hbw).trans a1)
                  | (go_at_call 17/-f-/; (with_reducible refine (MK.out _ HBY.out).mono ?_); rintro e w4 ⟨rfl, rfl⟩)
                  | (go_at_call 17/-f-/; (with_reducible refine (MX.out _ HBX.out).mono ?_); rintro e w4 ⟨rfl, rfl⟩)
                  | (go_at_call 18/-f-/; (with_reducible refine (TK.out _ KX.out HBX.out).mono ?_); rintro e w6 ⟨rfl, ho6, hb6⟩; replace KX := Lib.hid (KX.out.off ho6 hgw); have HBY := Lib.hid hb6; clear ho6 hb6 x0 x1; have x0 := (KX.out.bel.cell (p := ⟨b, off + j * 2, none⟩) hbw).trans a0; have x1 := (KX.out.bel.cell (p := ⟨b, off + j * 2 + 1, none⟩) hbw).trans a1))
            go_roundw
            case rel => exact ⟨m, j + 1, by omega, by omega, hlt, by first | rfl | go_num, by go_num, KX, HBY⟩
            case measure => simp [intOf]; omega
          · have h3b : ¬ m + 1 < xi := by omega
            have hr : chk true xi m = 0 := by unfold chk; rw [if_neg (by decide), if_neg h1, if_neg h2, if_neg h3]
            have CK := Lib.hid (show ∀ W, KS w W nm A cs.length c → Bord W g nm cs m → Calls Try.prog 16/-f-/ #[.pointer (some ⟨g, 0, none⟩), .agg #[.int .i64 xi, .slice Ai rs.length ci]] W fun e w' => e = .returned (.int .i64 0) ∧ Below W.heap.size W w' from fun W hK hBo => by
              have h := CKG.out W hK hBo
              rwa [hr] at h)
            have TK := Lib.hid (show ∀ W, KS w W nm A cs.length c → Bord W g nm cs m → Calls Try.prog 18/-f-/ #[.pointer (some ⟨g, 0, none⟩), .agg #[.int .i64 xi, .slice Ai rs.length ci]] W fun e w' => e = .returned (.int .i64 0) ∧ Off (fun x => x = g) W w' ∧ Bord w' g nm cs xi from fun W hK hBo => by
              have h := TKG.out W hK hBo
              rw [hr] at h
              exact h)
            have MK := Lib.hid (fun W (hBo : Bord W g nm cs xi) => mark_any g nm cs xi W hBo)
            clear hr CKG TKG
            go_wp2_with (first
                  | (go_at_call 16/-f-/; (with_reducible refine (CK.out _ KX.out HBX.out).mono ?_); rintro e w4 ⟨rfl, hb4⟩; replace KX := Lib.hid (KX.out.keep hb4); replace HBX := Lib.hid (HBX.out.keep hb4); clear hb4 x0 x1; have x0 := (KX.out.bel.cell (p := ⟨b, off + j * 2, none⟩) hbw).trans a0; have x1 := (KX.out.bel.cell (p := ⟨b, off + j * 2 + 1, none⟩) hbw).trans a1)
                  | (go_at_call 17/-f-/; (with_reducible refine (MK.out _ HBY.out).mono ?_); rintro e w4 ⟨rfl, rfl⟩)
                  | (go_at_call 17/-f-/; (with_reducible refine (MX.out _ HBX.out).mono ?_); rintro e w4 ⟨rfl, rfl⟩)
                  | (go_at_call 18/-f-/; (with_reducible refine (TK.out _ KX.out HBX.out).mono ?_); rintro e w6 ⟨rfl, ho6, hb6⟩; replace KX := Lib.hid (KX.out.off ho6 hgw); have HBY := Lib.hid hb6; clear ho6 hb6 x0 x1; have x0 := (KX.out.bel.cell (p := ⟨b, off + j * 2, none⟩) hbw).trans a0; have x1 := (KX.out.bel.cell (p := ⟨b, off + j * 2 + 1, none⟩) hbw).trans a1))
            go_roundw
            case rel => exact ⟨xi, j + 1, by omega, by omega, hlt, by first | rfl | go_num, by go_num, KX, HBY⟩
            case measure => simp [intOf]; omega
        · have hjl : j = bs.length := by omega
          subst hjl
          go_wp2
          go_ret
          exact ⟨rfl, hks.out.bel⟩
theorem own : ownKnob Try.prog.godebug = none := by kernel_rfl
theorem laidOut : laidOutB Try.prog = true := by kernel_rfl
set_option maxRecDepth 100000 in
theorem lifted (os : Os) (started : os.Started) (H : Type) (enc : TypeId × Value → H) :
    ReturnsInHanded {} Try.checked os 3 .any (Rows.streamBordersSpec.pre6 enc Try.prog Try.f3 Rows.streamBordersRow.domain false) (Rows.streamBordersSpec.post enc Try.prog Try.f3 false true false false) := by
  refine returnsInHanded_of_change (C := Try.checked) own started (by kernel_rfl) Try.func3
    (ChangeSpec.witness6 (enc := enc) (C := Try.checked) false ⟨#[], #[.agg #[.string ⟨#[]⟩, .slice none 0 0], .int .i64 0, .slice none 0 0], []⟩ 8 (by kernel_rfl) (by kernel_rfl) (by kernel_rfl) (by kernel_rfl)) ?_
  intro W base args ds gs before hval0 hW hcnd _
  have hval : ∀ (j : Nat) t v, Try.f3.params[j]? = some t → args[j]? = some v → Value.okWide Try.prog W .any base t v := hval0
  have hW' := hW
  obtain ⟨p, q, hA0, hV, rfl, hfz, hnd⟩ := hW
  have hA : DataW.TrodAll enc Try.prog W 0 (fun _ => true) true Try.f3.params.toList args.toList ds p := hA0
  rw [Try.params3] at hA hval
  obtain ⟨v0, vs0, d0, ds0, p0, q0, hargs, rfl, rfl, h0, r0⟩ := trodAll_cons hA
  obtain ⟨v1, vs1, d1, ds1, p1, q1, rfl, rfl, rfl, h1, r1⟩ := trodAll_cons r0
  obtain ⟨v2, vs2, d2, ds2, p2, q2, rfl, rfl, rfl, h2, r2⟩ := trodAll_cons r1
  obtain ⟨rfl, rfl, rfl⟩ := trodAll_nil r2
  obtain rfl : args = #[v0, v1, v2] := by cases args; simp_all
  obtain ⟨rfl, rfl⟩ := trodVars_none hV
  have k0 := h0
  have lt0 : ∀ x ∈ p0, x.block < W.heap.size := by obtain ⟨m, hm⟩ := k0; exact DataW.trod_lt m _ _ _ hm
  obtain ⟨nm0, A0, c0, cs0, rfl, hC0, hs0, hl0, hcc0, hfc0⟩ := open_stream (hval 0 24 v0 rfl rfl) h0
  obtain ⟨a1, rfl, rfl, rfl, w1⟩ := open_int Try.underlying3 (hval 1 3 v1 rfl rfl) h1
  have b1 := bounds_i64 w1
  obtain ⟨a2, len2, cap2, rfl⟩ := okWide_slice Try.underlying25 (hval 2 25 v2 rfl rfl)
  have k2 := h2
  have lt2 : ∀ x ∈ p2, x.block < W.heap.size := by obtain ⟨m, hm⟩ := k2; exact DataW.trod_lt m _ _ _ hm
  obtain ⟨fuel2, hf2⟩ := h2
  have hg2 : DataW.trod enc Try.prog W 0 (fun _ => true) true fuel2 25 [.slice a2 len2 cap2] = some (d2, p2) := by simpa [Value.cells] using hf2
  have o2 := open_bats hg2
  obtain ⟨hl2, bs2, hn2, hB2, hfb2⟩ := o2
  clear hA0 hval0
  refine (walk nm0 A0 c0 cs0 a1 a2 len2 cap2 bs2 W hs0 hC0 hl0 hcc0 hfc0 b1 hB2 hn2 hl2 hfb2).mono fun e W' ⟨he, bel⟩ => ?_
  subst he
  exact ⟨_, rfl, _, _, _, [], _, [], hW', trodAll_mk1 (shut_bool Try.underlying4 _), (trodAll_cons_mk (Below.trod laidOut (by kernel_rfl) (of_decide_eq_true (by kernel_rfl)) k0 bel lt0) (trodAll_cons_mk (shut_int Try.underlying3 w1) (trodAll_cons_mk (Below.trod laidOut (by kernel_rfl) (of_decide_eq_true (by kernel_rfl)) k2 bel lt2) trodAll_mk0))), rfl, bel.frame _, fun h => by cases h⟩

theorem over : Rows.streamBordersRow.holds Try.pinned (OpenSpec.ofChange Rows.streamBordersSpec) :=
  OpenClaim.holds_of_wide 3 Try.f3 rfl rfl rfl rfl rfl rfl rfl ⟨rfl, rfl, rfl, rfl, rfl⟩ rfl rfl rfl rfl rfl (by kernel_rfl) Try.func3 (by kernel_rfl)
    (of_decide_eq_true (by kernel_rfl)) (by unfold Func.isWrapper; first | (rw [if_pos (by decide +kernel)]; kernel_rfl) | (rw [if_neg (by decide +kernel)]; exact ⟨rfl, rfl⟩))
    (fun os started H enc _ => lifted os started H enc)

theorem proved : Rows.StreamBordersSaid := over

end Go.Proofs.Ytacangeamdcgdaa.StreamBorders
