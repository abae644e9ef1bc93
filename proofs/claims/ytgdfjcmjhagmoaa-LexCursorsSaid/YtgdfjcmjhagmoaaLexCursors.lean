/- LexCursors: of any words whatever is asked of a cursor, one behind the other: each answer. No condition. -/
import Derived.Test.YtgdfjcmjhagmoaaRows
import Derived.Test.YtgdfjcmjhagmoaaLxw
namespace Go.Proofs.Ytgdfjcmjhagmoaa.LexCursors
open Go.ChangeShapes Go.WideShapes Go.ChangeAt Go.RowKit Go.Deep
set_option maxRecDepth 100000 in
set_option maxHeartbeats 4000000 in
theorem walk_long (A : Option Addr) (n c : Nat) (z : Int) (A2 : Option Addr) (m c2 : Nat) (w : World) (hn : n ≤ 9223372036854775807) (hm : m ≤ 9223372036854775807) (h : 60 < n ∨ 60 < m) :
    Calls Try.prog 4/-f-/ #[.slice A n c, .int .i64 z, .slice A2 m c2] w fun e w' => e = .returned (.bool true) ∧ Below w.heap.size w w' := by
  have AW := Lib.hid awake_any
  by_cases h1 : 60 < n
  · clear h
    go_enter Try.func4, Try.ntmps4
    go_wp2_with (go_at_call 9/-f-/; (with_reducible refine (AW.out _).mono ?_); rintro e w9 ⟨rfl, hb9⟩; have HB9 := Lib.hid hb9; clear hb9)
    go_ret
    exact ⟨rfl, HB9.out⟩
  · have h2 : 60 < m := by omega
    clear h
    go_enter Try.func4, Try.ntmps4
    go_wp2_with (go_at_call 9/-f-/; (with_reducible refine (AW.out _).mono ?_); rintro e w9 ⟨rfl, hb9⟩; have HB9 := Lib.hid hb9; clear hb9)
    go_ret
    exact ⟨rfl, HB9.out⟩
theorem word_any (g p : Nat) (z : Int) (A : Option Addr) (ws : List Wd) (c : Nat) (w : World) (h : Blk w g 63 #[.int .i64 p, .int .i64 z, .slice A ws.length c]) (hw : Wds w A ws) (hn : ws.length ≤ 1000000) (hp : p ≤ ws.length) :
    Calls Try.prog 15/-f-/ #[.pointer (some ⟨g, 0, none⟩)] w fun e w' => e = .returned (wdV (atW ws z p)) ∧ Below w.heap.size w w' :=
  word_of _ _ w fun W hW => by subst hW; exact ahead_any g p 0 z A ws c _ (h.alloc _) (hw.alloc _) hn hp
theorem any_take (x : Wd) (ss : List ByteArray) (j : Nat) (hj : j < ss.length) : ((ss.take (j + 1)).any (saysB x)) = ((ss.take j).any (saysB x) || saysB x (ss.getD j default)) := by
  rw [List.take_add_one, List.any_append]
  simp [List.getD, hj]
set_option maxRecDepth 100000 in
set_option maxHeartbeats 16000000 in
theorem walk_short (A : Option Addr) (n c : Nat) (z : Int) (A2 : Option Addr) (m c2 : Nat) (ws : List Wd) (f : Nat → LAct) (w : World)
    (hw : Wds w A ws) (hn : ws.length = n) (hn60 : n ≤ 60) (hm60 : m ≤ 60) (hf : ∀ i, i < m → Elem w A2 i (f i)) :
    Calls Try.prog 4/-f-/ #[.slice A n c, .int .i64 z, .slice A2 m c2] w fun e w' => e = .returned (.bool true) ∧ Below w.heap.size w w' := by
  subst hn
  have HW := Lib.hid hw
  have HF := Lib.hid hf
  have AW := Lib.hid awake_any
  obtain ⟨i0, hi, hz0, hz1, hz2⟩ := info_parts info35
  clear hw hf
  go_enter Try.func4, Try.ntmps4
  go_wp2_with (go_at_call 9/-f-/; (with_reducible refine (AW.out _).mono ?_); rintro e w1 ⟨rfl, hb1⟩; have HB1 := Lib.hid hb1; clear hb1)
  go_loopw [7, 8] (fun v i wr => ∃ k : Nat, k ≤ ws.length ∧ i = .int .i64 k ∧ Hid (Below w.heap.size w wr) ∧ Hid (wr.ownsRow w.heap.size 35 4 v k (wcells (ws.take k)))) (fun _ i _ => ws.length - (intOf i).toNat)
  case atStart => exact ⟨0, Nat.zero_le _, rfl, HB1, Lib.hid (World.ownsRow_nil _ _ _ _)⟩
  case round =>
    obtain ⟨k, hk, rfl, hbl, hown⟩ := hrel
    obtain ⟨A0, k0, rfl⟩ := own_slice hown.out
    have hsz := hbl.out.size
    by_cases hlt : k < ws.length
    · obtain ⟨b, off, rfl, hb, x0, x1, x2, x3⟩ := wds_cell (HW.out.keep hbl.out) hlt
      have HT := Lib.hid (wcells_take ws k hlt)
      generalize ws.getD k default = x at *
      obtain ⟨kd, tx, n, p⟩ := x
      go_wp2_with (at_builtin; refine wpList_append_src _ rfl _ _ 22 rfl w.heap.size 35 i0 (.agg #[.int .i64 0, .string ⟨#[]⟩, .int .i64 0, .int .i64 0]) 4 40 Try.underlying22/-t-/ hi hz0 hz1 hz2 rfl (by decide) (.slice A0 k k0) k (wcells (ws.take k)) rfl (World.ownsRow.alloc hown.out _) (some ⟨wr.heap.size, 0, none⟩) 1 1 (wcs ⟨kd, tx, n, p⟩) rfl (Src.four wr ⟨kd, tx, n, p⟩ _) (by unfold maxLen; omega) (by omega) (by simp; omega) ?_; intro v9 w9 hown9 hgrow h9; clear h9; obtain ⟨A9, k9, rfl⟩ := own_slice hown9; have HG := Lib.hid hgrow; have HO9 := Lib.hid hown9; clear hgrow hown9)
      have HB9 := Lib.hid ((hbl.out.alloc hsz (.cells #[.int .i64 kd, .string tx, .int .i64 n, .int .i64 p] 35)).grown HG.out (by simp; omega) (fun g hg => (hown.out.lt g hg).1))
      go_roundw
      case rel => exact ⟨k + 1, hlt, by go_num, HB9, Lib.hid (by rw [← HT.out]; exact HO9.out)⟩
      case measure => simp [intOf]; omega
    · have hkl : k = ws.length := by omega
      subst hkl
      obtain ⟨wq, rfl⟩ : ∃ x, x = wr := ⟨wr, rfl⟩
      have HO := Lib.hid (show wq.ownsRow w.heap.size 35 4 (.slice A0 ws.length k0) ws.length (wcells ws) from by have := hown.out; rwa [List.take_length] at this)
      have ON := Lib.hid (on_any A0 ws.length k0 z (wcells ws) wq (own_flat HO.out) (wcells_len _) (by omega) (wcells_oneCell _) (by intro h; subst h; exact own_none HO.out))
      clear hown hi hz0 hz1 hz2
      go_wp2_with (go_at_call 13/-f-/; (with_reducible refine ON.out.mono ?_); rintro e w2 ⟨⟨g, B, d, rfl, hg, hk2, ho2⟩, hb2⟩; have HK2 := Lib.hid hk2; have HO2 := Lib.hid ho2; have HA2 := Lib.hid ((Off.of (S := fun _ => False) hb2).own HO.out (fun _ _ h => h)); have HB2 := Lib.hid (hbl.out.trans (hb2.mono hsz)); clear hk2 ho2 hb2)
      go_loopw [10] (fun i wx => ∃ k : Nat, k ≤ ws.length ∧ i = .int .i64 k ∧ Hid (Off (fun x => Value.ownBlock (.slice A0 ws.length k0) = some x) w2 wx) ∧ Hid (∀ g0, A0 = some ⟨g0, 0, none⟩ → ∃ m, Room wx g0 m ∧ ws.length * 4 ≤ m)) (fun i _ => ws.length - (intOf i).toNat)
      case atStart => exact ⟨0, Nat.zero_le _, rfl, Lib.hid (Off.refl _ _), Lib.hid (fun g0 h => by subst h; exact own_room HA2.out)⟩
      case round =>
        obtain ⟨k, hk, rfl, hoff, hroom⟩ := hrel
        by_cases hlt : k < ws.length
        · obtain ⟨g0, rfl⟩ := own_some HO.out (by omega)
          obtain ⟨m0, hr, hm0⟩ := hroom.out g0 rfl
          obtain ⟨⟨u0, c0⟩, f0⟩ := hr.facts (k * 4) (by omega)
          obtain ⟨⟨u1, c1⟩, f1⟩ := hr.facts (k * 4 + 1) (by omega)
          obtain ⟨⟨u2, c2⟩, f2⟩ := hr.facts (k * 4 + 2) (by omega)
          obtain ⟨⟨u3, c3⟩, f3⟩ := hr.facts (k * 4 + 3) (by omega)
          have HR := Lib.hid hr
          clear hr
          go_wp2
          go_roundw
          case rel => exact ⟨k + 1, hlt, by go_num, Lib.hid ((((hoff.out.put (p := ⟨g0, k * 4, none⟩) (fun _ => rfl) _).put (p := ⟨g0, k * 4 + 1, none⟩) (fun _ => rfl) _).put (p := ⟨g0, k * 4 + 2, none⟩) (fun _ => rfl) _).put (p := ⟨g0, k * 4 + 3, none⟩) (fun _ => rfl) _), Lib.hid (fun g1 h1 => by cases h1; exact ⟨m0, (((HR.out.put _ _).put _ _).put _ _).put _ _, hm0⟩)⟩
          case measure => simp [intOf]; omega
        · have hkl : k = ws.length := by omega
          subst hkl
          have hgA := HO.out.lt
          have HB3 := Lib.hid (HB2.out.trans (hoff.out.below (B := w.heap.size) (fun x hx h => by have := (hgA x h).1; omega) HB2.out.size))
          have HK3 := Lib.hid (hoff.out.blk HK2.out (fun h => by have := (hgA g h).2; omega))
          have HO3 := Lib.hid (hoff.out.own HO2.out (fun x hx h => by have := (hgA x h).2; have := (HO2.out.lt x hx).1; omega))
          have hgw : w.heap.size ≤ g := by omega
          have hfar := own_far HO3.out HK3.out (by decide)
          have HFA := Lib.hid hfar
          clear hfar hgA hroom hoff HK2 HO2 HA2 HB2 HO ON
          obtain ⟨w3, rfl⟩ : ∃ x, x = wr := ⟨wr, rfl⟩
          clear hk hlt
          go_wp2
          go_loopw [11, 12] (fun a i wx => ∃ p k : Nat, p ≤ ws.length ∧ k ≤ m ∧ a = .int .i64 p ∧ i = .int .i64 k ∧ Hid (Off (fun x => x = g) w3 wx) ∧ Hid (Blk wx g 63 #[.int .i64 p, .int .i64 z, .slice B ws.length d])) (fun _ i _ => m - (intOf i).toNat)
          case atStart => exact ⟨0, 0, Nat.zero_le _, Nat.zero_le _, rfl, rfl, Lib.hid (Off.refl _ _), HK3⟩
          case round =>
            obtain ⟨p, k, hp, hk, rfl, rfl, hoff, hblk⟩ := hrel
            obtain ⟨wx, rfl⟩ : ∃ x, x = wr := ⟨wr, rfl⟩
            have HBX := Lib.hid (HB3.out.trans (hoff.out.below (B := w.heap.size) (fun x hx (h : x = g) => by omega) HB3.out.size))
            by_cases hlt : k < m
            · have hE := HF.out k hlt
              generalize f k = q at *
              obtain ⟨qk, qn, A3, c3, ss⟩ := q
              obtain ⟨hcells, htx, ⟨hc1, hc2⟩, hqk, hqn⟩ := hE
              have HTX := Lib.hid (htx.keep HBX.out)
              have hcB := hcells.below HBX.out
              obtain ⟨b2, o2, rfl, hb2w, _⟩ := hcells
              obtain ⟨b2', o2', e2', hb2, hat⟩ := hcB
              cases e2'
              have y0 := hat 0 (by omega)
              have y1 := hat 1 (by omega)
              have y2 := hat 2 (by omega)
              simp only [List.getElem?_cons_zero, List.getElem?_cons_succ, Nat.add_zero] at y0 y1 y2
              clear hat htx
              have hgx := hblk.out.lt
              generalize hnow : atW ws z p = now at *
              obtain ⟨kd, tx, n, pl⟩ := now
              go_upto_if 69 with fail
              go_cut [] (fun wy => Hid (Below wx.heap.size wx wy) ∧ Hid (Blk wy wx.heap.size 36 #[.int .i64 kd, .string tx, .int .i64 n, .int .i64 pl]))
              case first =>
                by_cases hpl : p < ws.length
                · have hx := hnow
                  unfold atW at hx
                  rw [if_pos hpl] at hx
                  obtain ⟨b, off, rfl, hb, x0, x1, x2, x3⟩ := wds_cell (HW.out.keep HBX.out) hpl
                  rw [hx] at x0 x1 x2 x3
                  simp only at x0 x1 x2 x3
                  go_wp2
                  go_meet
                  exact ⟨Lib.hid ((Below.refl _ _).alloc (Nat.le_refl _) _), Lib.hid (Blk.new _ _ _)⟩
                · have hx := hnow
                  unfold atW at hx
                  rw [if_neg hpl] at hx
                  cases hx
                  go_wp2
                  go_meet
                  exact ⟨Lib.hid ((Below.refl _ _).alloc (Nat.le_refl _) _), Lib.hid (Blk.new _ _ _)⟩
              case rest =>
                obtain ⟨hby, hny⟩ := hcut
                obtain ⟨wy, rfl⟩ : ∃ x, x = wc := ⟨wc, rfl⟩
                have HBY := Lib.hid (HBX.out.trans (hby.out.mono HBX.out.size))
                have HOY := Lib.hid (hoff.out.trans (Off.of (S := fun x => x = g) hby.out) (fun _ _ h => h))
                have HKY := Lib.hid (hblk.out.below hby.out hgx)
                have HTY := Lib.hid (HTX.out.keep hby.out)
                have HWY := Lib.hid (own_wds (HOY.out.own HO3.out HFA.out))
                have z0 := (hby.out.cell (p := ⟨b2, o2 + k * 3, none⟩) hb2).trans y0
                have z1 := (hby.out.cell (p := ⟨b2, o2 + k * 3 + 1, none⟩) hb2).trans y1
                have z2 := (hby.out.cell (p := ⟨b2, o2 + k * 3 + 2, none⟩) hb2).trans y2
                have hb2y : b2 < wy.heap.size := Nat.lt_of_lt_of_le hb2 hby.out.size
                have hgn := hny.out.lt
                have HLE := Lib.hid (fun j (h : hits ws p ss j = true) => hits_le hp h)
                have HP := Lib.hid hnow
                clear y0 y1 y2 hby hoff hblk HTX hnow
                generalize wx.heap.size = gn at *
                clear hb2
                go_wp2
                go_loopw [14, 15, 16] (fun b t i wz => ∃ j : Nat, j ≤ ss.length ∧ i = .int .i64 j ∧ b = .bool ((ss.take j).any (saysB ⟨kd, tx, n, pl⟩)) ∧ t = .bool (hits ws p ss j) ∧ Hid (Below wy.heap.size wy wz)) (fun _ _ i _ => ss.length - (intOf i).toNat)
                case atStart => exact ⟨0, Nat.zero_le _, rfl, rfl, rfl, Lib.hid (Below.refl _ _)⟩
                case round =>
                  obtain ⟨j, hj, rfl, rfl, rfl, hbz⟩ := hrel
                  obtain ⟨wz, rfl⟩ : ∃ x, x = wr := ⟨wr, rfl⟩
                  have v2 := (hbz.out.cell (p := ⟨b2, o2 + k * 3 + 2, none⟩) hb2y).trans z2
                  have hb2z : b2 < wz.heap.size := Nat.lt_of_lt_of_le hb2y hbz.out.size
                  have hgnz : gn < wz.heap.size := Nat.lt_of_lt_of_le hgn hbz.out.size
                  have HNZ := Lib.hid (hny.out.below hbz.out hgn)
                  by_cases hjt : j < ss.length
                  · obtain ⟨b3, o3, rfl, hb3, hs3⟩ := txts_cell HTY.out hjt
                    have v3 := (hbz.out.cell (p := ⟨b3, o3 + j, none⟩) hb3).trans hs3
                    have hb3z : b3 < wz.heap.size := Nat.lt_of_lt_of_le hb3 hbz.out.size
                    obtain ⟨n0, n1, n2, n3, _, _, _, _, _⟩ := blk4 HNZ.out
                    have HN := Lib.hid (any_take ⟨kd, tx, n, pl⟩ ss j hjt)
                    have HH := Lib.hid (show hits ws p ss (j + 1) = (hits ws p ss j && (decide (p + j < ws.length) && saysB (ws.getD (p + j) default) (ss.getD j default))) from rfl)
                    have HL := Lib.hid (HLE.out j)
                    have HWZ := Lib.hid (HW.out.keep (HBY.out.trans (hbz.out.mono HBY.out.size)))
                    clear hs3
                    generalize ss.getD j default = t at *
                    generalize (ss.take j).any (saysB ⟨kd, tx, n, pl⟩) = isn at *
                    generalize hits ws p ss j = tk at *
                    have RS' := fun W => refsays_any ⟨kd, tx, n, pl⟩ t W
                    generalize saysB ⟨kd, tx, n, pl⟩ t = r1 at *
                    have RS := Lib.hid (show ∀ W, Calls Try.prog 14/-f-/ #[.agg #[.int .i64 kd, .string tx, .int .i64 n, .int .i64 pl], .string t] W fun e w' => e = .returned (.bool r1) ∧ Below W.heap.size W w' from RS')
                    clear RS'
                    go_upto_region 24 with fail
                    go_cut [14] (fun v wx => v = .bool (isn || r1) ∧ Hid (Below wz.heap.size wz wx))
                    case first =>
                      cases isn with
                      | true =>
                        go_quiet (fail)
                        go_wp2
                        go_meet
                        exact ⟨rfl, Lib.hid (below_drewN (Below.refl _ _) _)⟩
                      | false =>
                        as_aux_lemma =>
                          go_region_held3 (fun W => W.cell? ⟨gn, 0, none⟩ = some (.int .i64 kd) ∧ W.cell? ⟨gn, 1, none⟩ = some (.string tx) ∧ W.cell? ⟨gn, 2, none⟩ = some (.int .i64 n) ∧ W.cell? ⟨gn, 3, none⟩ = some (.int .i64 pl) ∧ W.cell? ⟨b2, o2 + k * 3 + 2, none⟩ = some (.slice (some ⟨b3, o3, none⟩) ss.length c3) ∧ W.cell? ⟨b3, o3 + j, none⟩ = some (.string t))
                            (first | exact ⟨n0, n1, n2, n3, v2, v3⟩ | (refine ⟨(hb5.cell (p := ⟨gn, 0, none⟩) hgnz).trans n0, (hb5.cell (p := ⟨gn, 1, none⟩) hgnz).trans n1, (hb5.cell (p := ⟨gn, 2, none⟩) hgnz).trans n2, (hb5.cell (p := ⟨gn, 3, none⟩) hgnz).trans n3, (hb5.cell (p := ⟨b2, o2 + k * 3 + 2, none⟩) hb2z).trans v2, (hb5.cell (p := ⟨b3, o3 + j, none⟩) hb3z).trans v3⟩))
                            (first
                              | (go_at_call 14/-f-/; (with_reducible refine (RS.out _).mono ?_); rintro e w5 ⟨rfl, hb5⟩))
                          go_wp2
                          go_meet
                          exact ⟨rfl, Lib.hid ⟨hb5.os, hb5.tape, hb5.output, hb5.size, hb5.block⟩⟩
                    case rest v14 =>
                      obtain ⟨rfl, hbc⟩ := hcut
                      obtain ⟨wu, rfl⟩ : ∃ x, x = wc := ⟨wc, rfl⟩
                      have HBC := Lib.hid (hbz.out.trans (hbc.out.mono hbz.out.size))
                      have u2 := (hbc.out.cell (p := ⟨b2, o2 + k * 3 + 2, none⟩) hb2z).trans v2
                      have u3 := (hbc.out.cell (p := ⟨b3, o3 + j, none⟩) hb3z).trans v3
                      have hszc := hbc.out.size
                      have HWU := Lib.hid (HWZ.out.keep hbc.out)
                      clear n0 n1 n2 n3 v2 v3 RS hbc
                      go_upto_region 25 with fail
                      cases tk with
                      | false =>
                        as_aux_lemma =>
                          go_quiet (fail)
                          go_wp2
                          go_roundw
                          case rel => exact ⟨j + 1, hjt, by go_num, by rw [HN.out], by rw [HH.out]; rfl, Lib.hid (below_drewN HBC.out _)⟩
                          case measure => simp [intOf]; omega
                      | true =>
                        have hpj := HL.out rfl
                        have hwr : IntKind.i64.wrap ((p : Int) + (j : Int)) = (p : Int) + (j : Int) := IntWalk.i64_in _ (by omega)
                        have hwn : ((p : Int) + (j : Int)).toNat = p + j := by omega
                        have hw0 : (0 : Int) ≤ (p : Int) + (j : Int) := by omega
                        by_cases hin : p + j < ws.length
                        · as_aux_lemma =>
                            have hd : decide ((p : Int) + (j : Int) < (ws.length : Int)) = true := decide_eq_true (by omega)
                            have hdn : decide (p + j < ws.length) = true := decide_eq_true hin
                            have hlt2 : (p : Int) + (j : Int) < (ws.length : Int) := by omega
                            obtain ⟨b4, o4, rfl, hb4, x0, x1, x2, x3⟩ := wds_cell HWU.out hin
                            have HH2 := Lib.hid (show hits ws p ss (j + 1) = saysB (ws.getD (p + j) default) t from by rw [HH.out, hdn]; rfl)
                            clear HH HL
                            generalize ws.getD (p + j) default = y at *
                            obtain ⟨ykd, ytx, yn, ypl⟩ := y
                            simp only at x0 x1 x2 x3
                            have RS' := fun W => refsays_any ⟨ykd, ytx, yn, ypl⟩ t W
                            generalize saysB ⟨ykd, ytx, yn, ypl⟩ t = r2 at *
                            have RS := Lib.hid (show ∀ W, Calls Try.prog 14/-f-/ #[.agg #[.int .i64 ykd, .string ytx, .int .i64 yn, .int .i64 ypl], .string t] W fun e w' => e = .returned (.bool r2) ∧ Below W.heap.size W w' from RS')
                            clear RS'
                            go_region_held3 (fun W => W.cell? ⟨b4, o4 + (p + j) * 4, none⟩ = some (.int .i64 ykd) ∧ W.cell? ⟨b4, o4 + (p + j) * 4 + 1, none⟩ = some (.string ytx) ∧ W.cell? ⟨b4, o4 + (p + j) * 4 + 2, none⟩ = some (.int .i64 yn) ∧ W.cell? ⟨b4, o4 + (p + j) * 4 + 3, none⟩ = some (.int .i64 ypl) ∧ W.cell? ⟨b2, o2 + k * 3 + 2, none⟩ = some (.slice (some ⟨b3, o3, none⟩) ss.length c3) ∧ W.cell? ⟨b3, o3 + j, none⟩ = some (.string t))
                              (first | exact ⟨x0, x1, x2, x3, u2, u3⟩ | (refine ⟨(hb5.cell (p := ⟨b4, o4 + (p + j) * 4, none⟩) hb4).trans x0, (hb5.cell (p := ⟨b4, o4 + (p + j) * 4 + 1, none⟩) hb4).trans x1, (hb5.cell (p := ⟨b4, o4 + (p + j) * 4 + 2, none⟩) hb4).trans x2, (hb5.cell (p := ⟨b4, o4 + (p + j) * 4 + 3, none⟩) hb4).trans x3, (hb5.cell (p := ⟨b2, o2 + k * 3 + 2, none⟩) (Nat.lt_of_lt_of_le hb2z hszc)).trans u2, (hb5.cell (p := ⟨b3, o3 + j, none⟩) (Nat.lt_of_lt_of_le hb3z hszc)).trans u3⟩))
                              (first
                                | (go_at_call 14/-f-/; (with_reducible refine (RS.out _).mono ?_); rintro e w5 ⟨rfl, hb5⟩))
                            go_wp2
                            go_roundw
                            case rel => exact ⟨j + 1, hjt, by go_num, by rw [HN.out], by rw [HH2.out], Lib.hid (HBC.out.trans (show Below wy.heap.size wu w5 from ⟨hb5.os, hb5.tape, hb5.output, hb5.size, fun x hx => hb5.block x (Nat.lt_of_lt_of_le hx HBC.out.size)⟩))⟩
                            case measure => simp [intOf]; omega
                        · as_aux_lemma =>
                            have hd : decide ((p : Int) + (j : Int) < (ws.length : Int)) = false := decide_eq_false (by omega)
                            have hdn : decide (p + j < ws.length) = false := decide_eq_false hin
                            go_quiet (fail)
                            go_wp2
                            go_roundw
                            case rel => exact ⟨j + 1, hjt, by go_num, by rw [HN.out], by rw [HH.out, hdn]; rfl, Lib.hid (below_drewN HBC.out _)⟩
                            case measure => simp [intOf]; omega
                  · have hjl : j = ss.length := by omega
                    subst hjl
                    rw [List.take_length] at *
                    have HOZ := Lib.hid (HOY.out.trans (Off.of (S := fun x => x = g) hbz.out) (fun _ _ h => h))
                    have HKZ := Lib.hid (HKY.out.below hbz.out HKY.out.lt)
                    have HTZ := Lib.hid (HTY.out.keep hbz.out)
                    have HWZ := Lib.hid (HWY.out.keep hbz.out)
                    have v0 := (hbz.out.cell (p := ⟨b2, o2 + k * 3, none⟩) hb2y).trans z0
                    have v1 := (hbz.out.cell (p := ⟨b2, o2 + k * 3 + 1, none⟩) hb2y).trans z1
                    obtain ⟨n0, n1, n2, n3, _, _, _, _, _⟩ := blk4 HNZ.out
                    have hgz := HKZ.out.lt
                    have hlen : ss.length ≤ 9223372036854775807 := by omega
                    have WC := Lib.hid (show ∀ W, Below wz.heap.size wz W → Calls Try.prog 15/-f-/ #[.pointer (some ⟨g, 0, none⟩)] W fun e w' => e = .returned (.agg #[.int .i64 kd, .string tx, .int .i64 n, .int .i64 pl]) ∧ Below W.heap.size W w' from fun W hb => by
                      have h := word_any g p z B ws d W (HKZ.out.below hb hgz) (HWZ.out.keep hb) (by omega) hp
                      rw [HP.out] at h
                      exact h)
                    have IS := Lib.hid (show ∀ W, Below wz.heap.size wz W → Calls Try.prog 16/-f-/ #[.pointer (some ⟨g, 0, none⟩), .slice A3 ss.length c3] W fun e w' => e = .returned (.bool (ss.any (saysB ⟨kd, tx, n, pl⟩))) ∧ Below W.heap.size W w' from fun W hb => is_of (.pointer (some ⟨g, 0, none⟩)) ⟨kd, tx, n, pl⟩ A3 ss.length c3 ss W (HTZ.out.keep hb) rfl hlen (WC.out W hb))
                    have TK := Lib.hid (take_at g p z B ws d A3 ss.length c3 ss wz HKZ.out HWZ.out (by omega) hp HTZ.out rfl hlen)
                    have LE := Lib.hid (HLE.out ss.length)
                    have LC := Lib.hid (fun W (hb : Below wz.heap.size wz W) => left_at g p z B ws.length d W (HKZ.out.below hb hgz) (by omega) (by omega) (by omega))
                    have HBZ := Lib.hid (HBY.out.trans (hbz.out.mono HBY.out.size))
                    have hbr := Below.refl wz.heap.size wz
                    have HR := Lib.hid hbr
                    generalize ss.any (saysB ⟨kd, tx, n, pl⟩) = isn at *
                    generalize hits ws p ss ss.length = tk at *
                    clear hbz HOY HKY HTY HWY z0 z1 z2 HNZ HLE hbr HTZ
                    by_cases e0 : qk = 0
                    · as_aux_lemma =>
                        subst e0
                        have NE := fun W => neR_self W kd tx n pl
                        go_upto_region 28 with fail
                        go_region_held3 (fun W => W.cell? ⟨gn, 0, none⟩ = some (.int .i64 kd) ∧ W.cell? ⟨gn, 1, none⟩ = some (.string tx) ∧ W.cell? ⟨gn, 2, none⟩ = some (.int .i64 n) ∧ W.cell? ⟨gn, 3, none⟩ = some (.int .i64 pl))
                          (first | exact ⟨n0, n1, n2, n3⟩ | (refine ⟨(hb5.cell (p := ⟨gn, 0, none⟩) hgnz).trans n0, (hb5.cell (p := ⟨gn, 1, none⟩) hgnz).trans n1, (hb5.cell (p := ⟨gn, 2, none⟩) hgnz).trans n2, (hb5.cell (p := ⟨gn, 3, none⟩) hgnz).trans n3⟩))
                          (first
                            | (go_at_call 15/-f-/; (with_reducible refine (WC.out _ HR.out.drew).mono ?_); rintro e w5 ⟨rfl, hb5⟩; have HB5 := Lib.hid (show Below wz.heap.size wz w5 from ⟨hb5.os, hb5.tape, hb5.output, hb5.size, hb5.block⟩)))
                        go_wp2_with (first
                          | (go_at_call 19/-f-/; (with_reducible refine (LC.out _ HB5.out).mono ?_); rintro e w6 ⟨rfl, q, rfl⟩))
                        go_roundw
                        case rel => exact ⟨p, k + 1, hp, hlt, rfl, by go_num, Lib.hid ((HOZ.out.trans (Off.of (S := fun x => x = g) HB5.out) (fun _ _ h => h)).drewN _), Lib.hid (HKZ.out.below (below_drewN HB5.out _) hgz)⟩
                        case measure => simp [intOf]; omega
                    have f0 : (qk == 0) = false := beq_eq_false_iff_ne.2 e0
                    by_cases e1 : qk = 1
                    · as_aux_lemma =>
                        subst e1
                        go_wp2_with (first
                          | (go_at_call 16/-f-/; (with_reducible refine (IS.out _ HR.out).mono ?_); rintro e w5 ⟨rfl, hb5⟩; have HB5 := Lib.hid hb5)
                          | (go_at_call 19/-f-/; (with_reducible refine (LC.out _ HB5.out).mono ?_); rintro e w6 ⟨rfl, q, rfl⟩))
                        go_roundw
                        case rel => exact ⟨p, k + 1, hp, hlt, rfl, by go_num, Lib.hid ((HOZ.out.trans (Off.of (S := fun x => x = g) HB5.out) (fun _ _ h => h)).drewN _), Lib.hid (HKZ.out.below (below_drewN HB5.out _) hgz)⟩
                        case measure => simp [intOf]; omega
                    have f1 : (qk == 1) = false := beq_eq_false_iff_ne.2 e1
                    by_cases e2 : qk = 2
                    · subst e2
                      cases tk with
                      | false =>
                        as_aux_lemma =>
                          go_wp2_with (first
                            | (go_at_call 17/-f-/; (with_reducible refine TK.out.mono ?_); rintro e w5 ⟨rfl, hb5, _⟩; have HB5 := Lib.hid (hb5 rfl); clear hb5)
                            | (go_at_call 19/-f-/; (with_reducible refine (LC.out _ HB5.out).mono ?_); rintro e w6 ⟨rfl, q, rfl⟩))
                          go_roundw
                          case rel => exact ⟨p, k + 1, hp, hlt, rfl, by go_num, Lib.hid ((HOZ.out.trans (Off.of (S := fun x => x = g) HB5.out) (fun _ _ h => h)).drewN _), Lib.hid (HKZ.out.below (below_drewN HB5.out _) hgz)⟩
                          case measure => simp [intOf]; omega
                      | true =>
                        as_aux_lemma =>
                          have hle := LE.out rfl
                          go_wp2_with (first
                            | (go_at_call 17/-f-/; (with_reducible refine TK.out.mono ?_); rintro e w5 ⟨rfl, _, hb5⟩; have HO5 := Lib.hid (hb5 rfl).1; have HK5 := Lib.hid (hb5 rfl).2; clear hb5; have t2 := (World.cell?_of_block (a := ⟨b2, o2 + k * 3 + 2, none⟩) (HO5.out.block b2 hb2z (fun (h : b2 = g) => (by omega)))).trans v2; have L5 := Lib.hid (left_at g ((p : Int) + (ss.length : Int)) z B ws.length d w5 (by have h := HK5.out; rwa [show ((p + ss.length : Nat) : Int) = (p : Int) + (ss.length : Int) from by omega] at h) (by omega) (by omega) (by omega)))
                            | (go_at_call 19/-f-/; (with_reducible refine L5.out.mono ?_); rintro e w6 ⟨rfl, q, rfl⟩))
                          go_roundw
                          case rel => exact ⟨p + ss.length, k + 1, hle, hlt, by go_num, by go_num, Lib.hid ((HOZ.out.trans HO5.out (fun _ _ h => h)).drewN _), Lib.hid HK5.out⟩
                          case measure => simp [intOf]; omega
                    have f2 : (qk == 2) = false := beq_eq_false_iff_ne.2 e2
                    by_cases e3 : qk = 3
                    · subst e3
                      by_cases hpn : p < ws.length
                      · have hatw : ws.getD p default = ⟨kd, tx, n, pl⟩ := by
                          have h := HP.out
                          unfold atW at h
                          rwa [if_pos hpn] at h
                        have hd : decide ((p : Int) < (ws.length : Int)) = true := decide_eq_true (by omega)
                        by_cases hkq : kd = qn
                        · as_aux_lemma =>
                            subst hkq
                            have KY' := kind_yes g p z kd B ws d wz HKZ.out HWZ.out (by omega) hpn (by rw [hatw])
                            rw [hatw] at KY'
                            have KY := Lib.hid (show Calls Try.prog 18/-f-/ #[.pointer (some ⟨g, 0, none⟩), .int .i64 kd] wz fun e w' => e = .returned (.tuple #[.agg #[.int .i64 kd, .string tx, .int .i64 n, .int .i64 pl], .bool true]) ∧ Off (fun x => x = g) wz w' ∧ Blk w' g 63 #[.int .i64 ((p : Int) + 1), .int .i64 z, .slice B ws.length d] from KY')
                            have NE := fun W => neR_self W kd tx n pl
                            clear KY' hatw
                            go_upto_region 40 with (go_at_call 18/-f-/; (with_reducible refine KY.out.mono ?_); rintro e w5 ⟨rfl, ho5, hk5⟩; have HO5 := Lib.hid ho5; have HK5 := Lib.hid hk5; have hs5 := ho5.size; have d0 := (World.cell?_of_block (a := ⟨gn, 0, none⟩) (ho5.block gn hgnz (fun (h : gn = g) => (by omega)))).trans n0; have d1 := (World.cell?_of_block (a := ⟨gn, 1, none⟩) (ho5.block gn hgnz (fun (h : gn = g) => (by omega)))).trans n1; have d2 := (World.cell?_of_block (a := ⟨gn, 2, none⟩) (ho5.block gn hgnz (fun (h : gn = g) => (by omega)))).trans n2; have d3 := (World.cell?_of_block (a := ⟨gn, 3, none⟩) (ho5.block gn hgnz (fun (h : gn = g) => (by omega)))).trans n3; have t1 := (World.cell?_of_block (a := ⟨b2, o2 + k * 3 + 1, none⟩) (ho5.block b2 hb2z (fun (h : b2 = g) => (by omega)))).trans v1; have hgn5 : gn ≠ w5.heap.size := (by omega); have hb25 : b2 ≠ w5.heap.size := (by omega); clear ho5 hk5)
                            have hal := (Below.refl w5.heap.size w5).alloc (Nat.le_refl _) (.cells #[.int .i64 kd, .string tx, .int .i64 n, .int .i64 pl] 35)
                            have d0' := (hal.cell (p := ⟨gn, 0, none⟩) (Nat.lt_of_lt_of_le hgnz hs5)).trans d0
                            have d1' := (hal.cell (p := ⟨gn, 1, none⟩) (Nat.lt_of_lt_of_le hgnz hs5)).trans d1
                            have d2' := (hal.cell (p := ⟨gn, 2, none⟩) (Nat.lt_of_lt_of_le hgnz hs5)).trans d2
                            have d3' := (hal.cell (p := ⟨gn, 3, none⟩) (Nat.lt_of_lt_of_le hgnz hs5)).trans d3
                            have t1' := (hal.cell (p := ⟨b2, o2 + k * 3 + 1, none⟩) (Nat.lt_of_lt_of_le hb2z hs5)).trans t1
                            have hk0 : (0 : Int) ≤ (k : Int) := by omega
                            have hkm : (k : Int) < (m : Int) := by omega
                            clear hal d0 d1 d2 d3 t1
                            have L5 := Lib.hid (fun q => left_at g ((p : Int) + 1) z B ws.length d ((w5.alloc (.cells #[.int .i64 kd, .string tx, .int .i64 n, .int .i64 pl] 35)).drewN q) (HK5.out.alloc _) (by omega) (by omega) (by omega))
                            go_quiet (fail)
                            go_wp2_with (first
                              | (go_at_call 19/-f-/; (with_reducible refine (L5.out _).mono ?_); rintro e w6 ⟨rfl, q, rfl⟩))
                            go_roundw
                            case rel => exact ⟨p + 1, k + 1, hpn, hlt, by go_num, by go_num, Lib.hid (((HOZ.out.trans HO5.out (fun _ _ h => h)).alloc _).drewN _), Lib.hid (by rw [show ((p + 1 : Nat) : Int) = (p : Int) + 1 from by omega]; exact HK5.out.alloc _)⟩
                            case measure => simp [intOf]; omega
                        · as_aux_lemma =>
                            have hq0 : (kd == qn) = false := beq_eq_false_iff_ne.2 hkq
                            have KN := Lib.hid (show Calls Try.prog 18/-f-/ #[.pointer (some ⟨g, 0, none⟩), .int .i64 qn] wz fun e w' => e = .returned (.tuple #[.agg #[.int .i64 0, .string ⟨#[]⟩, .int .i64 0, .int .i64 0], .bool false]) ∧ Below wz.heap.size wz w' from kind_no g p z qn B ws d wz HKZ.out HWZ.out (by omega) hpn (by rw [hatw]; exact hkq))
                            have NE := fun W => neW_self W 0 ⟨#[]⟩ 0 0
                            clear hatw hkq
                            go_upto_region 40 with (go_at_call 18/-f-/; (with_reducible refine KN.out.mono ?_); rintro e w5 ⟨rfl, hb5⟩; have HB5 := Lib.hid hb5; have hs5 := hb5.size; have d0 := (hb5.cell (p := ⟨gn, 0, none⟩) hgnz).trans n0; have d1 := (hb5.cell (p := ⟨gn, 1, none⟩) hgnz).trans n1; have d2 := (hb5.cell (p := ⟨gn, 2, none⟩) hgnz).trans n2; have d3 := (hb5.cell (p := ⟨gn, 3, none⟩) hgnz).trans n3; have t1 := (hb5.cell (p := ⟨b2, o2 + k * 3 + 1, none⟩) hb2z).trans v1; have hgn5 : gn ≠ w5.heap.size := (by omega); have hb25 : b2 ≠ w5.heap.size := (by omega); clear hb5)
                            have hal := (Below.refl w5.heap.size w5).alloc (Nat.le_refl _) (.cells #[.int .i64 0, .string ⟨#[]⟩, .int .i64 0, .int .i64 0] 35)
                            have d0' := (hal.cell (p := ⟨gn, 0, none⟩) (Nat.lt_of_lt_of_le hgnz hs5)).trans d0
                            have d1' := (hal.cell (p := ⟨gn, 1, none⟩) (Nat.lt_of_lt_of_le hgnz hs5)).trans d1
                            have d2' := (hal.cell (p := ⟨gn, 2, none⟩) (Nat.lt_of_lt_of_le hgnz hs5)).trans d2
                            have d3' := (hal.cell (p := ⟨gn, 3, none⟩) (Nat.lt_of_lt_of_le hgnz hs5)).trans d3
                            have t1' := (hal.cell (p := ⟨b2, o2 + k * 3 + 1, none⟩) (Nat.lt_of_lt_of_le hb2z hs5)).trans t1
                            have hk0 : (0 : Int) ≤ (k : Int) := by omega
                            have hkm : (k : Int) < (m : Int) := by omega
                            clear hal d0 d1 d2 d3 t1
                            have L5 := Lib.hid (fun q => left_at g p z B ws.length d ((w5.alloc (.cells #[.int .i64 0, .string ⟨#[]⟩, .int .i64 0, .int .i64 0] 35)).drewN q) ((HKZ.out.below HB5.out hgz).alloc _) (by omega) (by omega) (by omega))
                            go_quiet (fail)
                            go_wp2_with (first
                              | (go_at_call 19/-f-/; (with_reducible refine (L5.out _).mono ?_); rintro e w6 ⟨rfl, q, rfl⟩))
                            go_roundw
                            case rel => exact ⟨p, k + 1, hp, hlt, rfl, by go_num, Lib.hid (((HOZ.out.trans (Off.of (S := fun x => x = g) HB5.out) (fun _ _ h => h)).alloc _).drewN _), Lib.hid ((HKZ.out.below HB5.out hgz).alloc _)⟩
                            case measure => simp [intOf]; omega
                      · as_aux_lemma =>
                          have hd : decide ((p : Int) < (ws.length : Int)) = false := decide_eq_false (by omega)
                          have KN := Lib.hid (show Calls Try.prog 18/-f-/ #[.pointer (some ⟨g, 0, none⟩), .int .i64 qn] wz fun e w' => e = .returned (.tuple #[.agg #[.int .i64 0, .string ⟨#[]⟩, .int .i64 0, .int .i64 0], .bool false]) ∧ Below wz.heap.size wz w' from kind_end g p z qn B ws.length d wz HKZ.out (by omega) (by omega))
                          have NE := fun W => neW_self W 0 ⟨#[]⟩ 0 0
                          go_upto_region 40 with (go_at_call 18/-f-/; (with_reducible refine KN.out.mono ?_); rintro e w5 ⟨rfl, hb5⟩; have HB5 := Lib.hid hb5; have hs5 := hb5.size; have d0 := (hb5.cell (p := ⟨gn, 0, none⟩) hgnz).trans n0; have d1 := (hb5.cell (p := ⟨gn, 1, none⟩) hgnz).trans n1; have d2 := (hb5.cell (p := ⟨gn, 2, none⟩) hgnz).trans n2; have d3 := (hb5.cell (p := ⟨gn, 3, none⟩) hgnz).trans n3; have hgn5 : gn ≠ w5.heap.size := (by omega); have hb25 : b2 ≠ w5.heap.size := (by omega); clear hb5)
                          have L5 := Lib.hid (fun q => left_at g p z B ws.length d ((w5.alloc (.cells #[.int .i64 0, .string ⟨#[]⟩, .int .i64 0, .int .i64 0] 35)).drewN q) ((HKZ.out.below HB5.out hgz).alloc _) (by omega) (by omega) (by omega))
                          go_quiet (fail)
                          go_wp2_with (first
                            | (go_at_call 19/-f-/; (with_reducible refine (L5.out _).mono ?_); rintro e w6 ⟨rfl, q, rfl⟩))
                          go_roundw
                          case rel => exact ⟨p, k + 1, hp, hlt, rfl, by go_num, Lib.hid (((HOZ.out.trans (Off.of (S := fun x => x = g) HB5.out) (fun _ _ h => h)).alloc _).drewN _), Lib.hid ((HKZ.out.below HB5.out hgz).alloc _)⟩
                          case measure => simp [intOf]; omega
                    have f3 : (qk == 3) = false := beq_eq_false_iff_ne.2 e3
                    go_wp2_with (first
                      | (go_at_call 19/-f-/; (with_reducible refine (LC.out _ HR.out).mono ?_); rintro e w6 ⟨rfl, q, rfl⟩))
                    go_roundw
                    case rel => exact ⟨p, k + 1, hp, hlt, rfl, by go_num, Lib.hid (HOZ.out.drewN _), Lib.hid HKZ.out⟩
                    case measure => simp [intOf]; omega
            · have hkm : k = m := by omega
              subst hkm
              go_wp2
              go_ret
              exact ⟨rfl, HBX.out⟩
theorem walk (A : Option Addr) (n c : Nat) (z : Int) (A2 : Option Addr) (m c2 : Nat) (ws : List Wd) (f : Nat → LAct) (w : World)
    (hw : Wds w A ws) (hn : ws.length = n) (hn9 : n ≤ 9223372036854775807) (hm9 : m ≤ 9223372036854775807) (hf : ∀ i, i < m → Elem w A2 i (f i)) :
    Calls Try.prog 4/-f-/ #[.slice A n c, .int .i64 z, .slice A2 m c2] w fun e w' => e = .returned (.bool true) ∧ Below w.heap.size w w' := by
  by_cases h : 60 < n ∨ 60 < m
  · exact walk_long A n c z A2 m c2 w hn9 hm9 h
  · exact walk_short A n c z A2 m c2 ws f w hw hn (by omega) (by omega) hf
theorem own : ownKnob Try.prog.godebug = none := by kernel_rfl
theorem laidOut : laidOutB Try.prog = true := by kernel_rfl
set_option maxRecDepth 100000 in
theorem lifted (os : Os) (started : os.Started) (H : Type) (enc : TypeId × Value → H) :
    ReturnsInHanded {} Try.checked os 4 .any (Rows.lexCursorsSpec.pre6 enc Try.prog Try.f4 Rows.lexCursorsRow.domain false) (Rows.lexCursorsSpec.post enc Try.prog Try.f4 false true false false) := by
  refine returnsInHanded_of_change (C := Try.checked) own started (by kernel_rfl) Try.func4
    (ChangeSpec.witness6 (enc := enc) (C := Try.checked) false ⟨#[], #[.slice none 0 0, .int .i64 0, .slice none 0 0], []⟩ 8 (by kernel_rfl) (by kernel_rfl) (by kernel_rfl) (by kernel_rfl)) ?_
  intro W base args ds gs before hval0 hW hcnd _
  have hval : ∀ (j : Nat) t v, Try.f4.params[j]? = some t → args[j]? = some v → Value.okWide Try.prog W .any base t v := hval0
  have hW' := hW
  obtain ⟨p, q, hA0, hV, rfl, hfz, hnd⟩ := hW
  have hA : DataW.TrodAll enc Try.prog W 0 (fun _ => true) true Try.f4.params.toList args.toList ds p := hA0
  rw [Try.params4] at hA hval
  obtain ⟨v0, vs0, d0, ds0, p0, q0, hargs, rfl, rfl, h0, r0⟩ := trodAll_cons hA
  obtain ⟨v1, vs1, d1, ds1, p1, q1, rfl, rfl, rfl, h1, r1⟩ := trodAll_cons r0
  obtain ⟨v2, vs2, d2, ds2, p2, q2, rfl, rfl, rfl, h2, r2⟩ := trodAll_cons r1
  obtain ⟨rfl, rfl, rfl⟩ := trodAll_nil r2
  obtain rfl : args = #[v0, v1, v2] := by cases args; simp_all
  obtain ⟨rfl, rfl⟩ := trodVars_none hV
  obtain ⟨a0, len0, cap0, rfl⟩ := okWide_slice Try.underlying27 (hval 0 27 v0 rfl rfl)
  have k0 := h0
  have lt0 : ∀ x ∈ p0, x.block < W.heap.size := by obtain ⟨m, hm⟩ := k0; exact DataW.trod_lt m _ _ _ hm
  obtain ⟨fuel0, hf0⟩ := h0
  have hg0 : DataW.trod enc Try.prog W 0 (fun _ => true) true fuel0 27 [.slice a0 len0 cap0] = some (d0, p0) := by simpa [Value.cells] using hf0
  have o0 := words_open hg0
  obtain ⟨hlc0, hcm0, ws0, hn0, hw0, _⟩ := o0
  obtain ⟨a1, rfl, rfl, rfl, w1⟩ := open_int Try.underlying3 (hval 1 3 v1 rfl rfl) h1
  have b1 := bounds_i64 w1
  obtain ⟨a2, len2, cap2, rfl⟩ := okWide_slice Try.underlying33 (hval 2 33 v2 rfl rfl)
  have k2 := h2
  have lt2 : ∀ x ∈ p2, x.block < W.heap.size := by obtain ⟨m, hm⟩ := k2; exact DataW.trod_lt m _ _ _ hm
  obtain ⟨fuel2, hf2⟩ := h2
  have hg2 : DataW.trod enc Try.prog W 0 (fun _ => true) true fuel2 33 [.slice a2 len2 cap2] = some (d2, p2) := by simpa [Value.cells] using hf2
  have o2 := acts_open hg2
  obtain ⟨hm2, f2, hf2⟩ := o2
  clear hA0 hval0
  refine (walk a0 len0 cap0 a1 a2 len2 cap2 ws0 f2 W hw0 hn0 (Nat.le_trans hlc0 hcm0) hm2 hf2).mono fun e W' ⟨he, bel⟩ => ?_
  subst he
  exact ⟨_, rfl, _, _, _, [], _, [], hW', trodAll_mk1 (shut_bool Try.underlying4 _), (trodAll_cons_mk (Below.trod laidOut (by kernel_rfl) (of_decide_eq_true (by kernel_rfl)) k0 bel lt0) (trodAll_cons_mk (shut_int Try.underlying3 w1) (trodAll_cons_mk (Below.trod laidOut (by kernel_rfl) (of_decide_eq_true (by kernel_rfl)) k2 bel lt2) trodAll_mk0))), rfl, bel.frame _, fun h => by cases h⟩

theorem over : Rows.lexCursorsRow.holds Try.pinned (OpenSpec.ofChange Rows.lexCursorsSpec) :=
  OpenClaim.holds_of_wide 4 Try.f4 rfl rfl rfl rfl rfl rfl rfl ⟨rfl, rfl, rfl, rfl, rfl⟩ rfl rfl rfl rfl rfl (by kernel_rfl) Try.func4 (by kernel_rfl)
    (of_decide_eq_true (by kernel_rfl)) (by unfold Func.isWrapper; first | (rw [if_pos (by decide +kernel)]; kernel_rfl) | (rw [if_neg (by decide +kernel)]; exact ⟨rfl, rfl⟩))
    (fun os started H enc _ => lifted os started H enc)

theorem proved : Rows.LexCursorsSaid := over

end Go.Proofs.Ytgdfjcmjhagmoaa.LexCursors
