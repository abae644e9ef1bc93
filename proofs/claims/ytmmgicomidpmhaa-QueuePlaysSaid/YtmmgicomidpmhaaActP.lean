/- QueuePlays: the acts, one by one. -/
import Derived.Test.YtmmgicomidpmhaaAct
import Derived.Deep.DeepCutAuto
namespace Go.Proofs.Ytmmgicomidpmhaa.QueuePlays
open Go.ChangeShapes Go.WideShapes Go.ChangeAt Go.RowKit Go.Deep
set_option linter.unusedVariables false
set_option maxRecDepth 1000000 in
set_option maxHeartbeats 12000000 in
theorem put_block {w w1 wr : World} {b off len cap k : Nat} {room : Int} {q : QAct} {t : Tal} {vq : Value} {xs : List Int} {u8 : Value} (C : Ctx w w1 wr b off len cap k room q t vq xs u8) (h0 : q.kind = 0) (hbg : ¬ 100 < q.xs.length)
    {s2 s3 s4 s5 s6 s11 s12 s13 s14 s15 s16 s17 s18 s19 s20 s21 s22 s23 s24 s25 s26 s27 s28 s29 s30 s31 s32 s33 s34 s35 s36 s37 s38 s39 s40 s41 s42 s43 s44 s45 s47 s48 s49 s50 s51 s52 s53 s54 s55 s56 s57 s58 s59 s60 s61 s62 s63 s64 s65 s66 s67 s68 s69 s70 s71 s72 s73 s74 s75 s76 s77 s78 s79 s80 s81 s82 s83 s84 s85 s86 s87 s88 s89 s90 s91 s92 s93 s94 s95 s96 s97 s98 s99 s100 s101 s102 s103 s104 s105 s106 s107 s108 s109 s110 s111 s112 s113 s114 s115 s116 s117 s118 s119 s120 s121 s122 s123 s124 s125 s126 s127 s128 s129 s130 s131 s132 s133 s134 s135 s136 s137 s138 s139 s140 s141 s142 s143 s144 s145 s146 s147 s148 s149 s150 s151 s152 s153 s154 s155 s156 s157 s158 s159 s160 s161 s162 s163 s164 s165 s166 s167 s168 s169 s170 s171 s172 s173 s174 s175 s176 s177 s178 s179 s180 s181 s182 s183 s184 s185 s186 s187 s188 s189 s190 s191 s192 s193 s194 s195 s196 s197 s198 s199 s200 s201 s202 s203 s204 s205 s206 s207 s208 s209 s210 s211 s212 s213 s214 s215 s216 s217 s218 s219 s220 s221 s222 s223 s224 s225 s226 s227 s228 s229 s230 s231 s232 s233 s234 s235 s236 s237 s238 s239 s240 s241 s242 s243 s244 s245 s246 s247 s248 s249 s250 s251 : Value} {K : Act → World → Prop}
    (hK : NextP w w1 b off len cap k room q s2 s3 s4 s5 s17 s18 s19 s20 s21 s22 s23 s24 s25 s26 s27 s28 s29 s30 s31 s32 s33 s34 s35 K) :
    b2.wp Try.prog (Exit.then K (fun _ _ _ => False)) ⟨#[.int .i64 room, .slice (some ⟨b, off, none⟩) len cap, s2, s3, s4, s5, s6, .pointer (some ⟨w1.heap.size, 0, none⟩), u8, .pointer (some ⟨w1.heap.size + 1, 0, none⟩), .int .i64 k, s11, s12, s13, s14, s15, s16, s17, s18, s19, s20, s21, s22, s23, s24, s25, s26, s27, s28, s29, s30, s31, s32, s33, s34, s35, s36, s37, s38, s39, s40, s41, s42, s43, s44, s45, .int .i64 q.kind, s47, s48, s49, s50, s51, s52, s53, s54, s55, s56, s57, s58, s59, s60, s61, s62, s63, s64, s65, s66, s67, s68, s69, s70, s71, s72, s73, s74, s75, s76, s77, s78, s79, s80, s81, s82, s83, s84, s85, s86, s87, s88, s89, s90, s91, s92, s93, s94, s95, s96, s97, s98, s99, s100, s101, s102, s103, s104, s105, s106, s107, s108, s109, s110, s111, s112, s113, s114, s115, s116, s117, s118, s119, s120, s121, s122, s123, s124, s125, s126, s127, s128, s129, s130, s131, s132, s133, s134, s135, s136, s137, s138, s139, s140, s141, s142, s143, s144, s145, s146, s147, s148, s149, s150, s151, s152, s153, s154, s155, s156, s157, s158, s159, s160, s161, s162, s163, s164, s165, s166, s167, s168, s169, s170, s171, s172, s173, s174, s175, s176, s177, s178, s179, s180, s181, s182, s183, s184, s185, s186, s187, s188, s189, s190, s191, s192, s193, s194, s195, s196, s197, s198, s199, s200, s201, s202, s203, s204, s205, s206, s207, s208, s209, s210, s211, s212, s213, s214, s215, s216, s217, s218, s219, s220, s221, s222, s223, s224, s225, s226, s227, s228, s229, s230, s231, s232, s233, s234, s235, s236, s237, s238, s239, s240, s241, s242, s243, s244, s245, s246, s247, s248, s249, s250, s251], []⟩ wr := by
  conv => arg 2; whnf
  obtain ⟨hb1, hbl, hq, hbt, hrow, hdis, hfar, hinv, hkl, hlt, hlen, hn1, hn2, hbw, x1, x2, hints0, C20, C10, ⟨hcap1, hcap2⟩, ⟨hnn1, hnn2⟩⟩ := C
  have HQ := Lib.hid hq
  have HBT := Lib.hid hbt
  have HROW := Lib.hid hrow
  have HDIS := Lib.hid hdis
  have HFAR := Lib.hid hfar
  have hgl := hbt.lt
  have hbwr : b < wr.heap.size := Nat.lt_of_lt_of_le hbw hbl.size
  have HINV := Lib.hid hinv
  obtain ⟨i0, hi, hz0, hz1, hz2⟩ := info_parts info3
  have hints := Lib.hid (hints0.keep hbl)
  have CI := Lib.hid hints0
  have C2 := Lib.hid C20
  have C1 := Lib.hid C10
  clear C10 hq hbt hrow hdis hfar hinv C20 hints0
  have e0 : (q.kind == 0) = true := by rw [h0]; rfl
  clear h0
  -- the lists grow one by one
  obtain ⟨A8, c8, hv8, hI8, hc8⟩ := ints_of_own HROW.out
  have HV8 := Lib.hid hv8
  clear hv8 hI8 hc8
  have hxr := HINV.out.1
  have hW0 := hb1.size
  obtain ⟨W0, hW⟩ : ∃ W0, W0 = wr := ⟨_, rfl⟩
  subst hW
  clear x1
  obtain ⟨kk, hkk⟩ : ∃ kk, kk = min q.xs.length (room - xs.length).toNat := ⟨_, rfl⟩
  have HKK := Lib.hid hkk
  clear hkk
  go_upto_block 3 with fail
  go_cut [8, 11] from 47 to 251 (fun v j wx => j = .int .i64 kk ∧ GrowAt room q.xs xs (w1.heap.size + 2) u8 W0 v kk wx)
  case first =>
    go_wp2_with fail
    go_loopw [8, 11] (fun v j wx => Grow room q.xs xs (w1.heap.size + 2) u8 W0 v j wx) (fun _ j _ => q.xs.length - (intOf j).toNat)
    case atStart => exact ⟨0, rfl, A8, c8, Nat.zero_le _, by omega, HV8.out, Off.refl _ _, by simpa using HROW.out, .inl rfl⟩
    case round =>
      obtain ⟨m, rfl, A, c, hm, hmr, rfl, hofx, hrowx, hblkx⟩ := hrel
      have hblx : Below w.heap.size w wr := hbl.trans (hofx.below (fun x hx h => by have := (HROW.out.lt x h).1; omega) hbl.size)
      have y2 := (hblx.cell (p := ⟨b, off + k * 3 + 2, none⟩) hbw).trans C2.out
      have hsx := hofx.size
      have hbx1 : b < wr.heap.size := by omega
      have HROX := Lib.hid hrowx
      have HOFX := Lib.hid hofx
      have HBKX := Lib.hid hblkx
      clear hrowx hofx hblkx x2
      by_cases hml : m < q.xs.length
      · by_cases hmr2 : (xs.length + m : Int) < room
        · have hi2 := CI.out.keep hblx
          rcases hi2 with hnil | ⟨bb, oo, hA9, hbb, hcc⟩
          · rw [hnil] at hml; simp at hml
          have z0 := hcc m hml
          rw [hA9] at y2
          have HA9 := Lib.hid hA9
          clear hA9
          have HTS := Lib.hid (show q.xs.take (m + 1) = q.xs.take m ++ [q.xs.getD m 0] from by rw [List.take_succ_eq_append_getElem hml]; simp [List.getD, hml])
          clear hcc
          generalize q.xs.getD m 0 = xm at *
          go_wp2_with (at_builtin; refine wpList_append_src _ rfl _ _ 26 rfl (w1.heap.size + 2) 3 i0 (.int .i64 0) 1 8 Try.underlying26 hi hz0 hz1 hz2 rfl (by decide) (.slice A (xs.length + m) c) (xs.length + m) _ rfl (HROX.out.alloc _) (some ⟨wr.heap.size, 0, none⟩) 1 1 [_] rfl (src_one _ _ _ rfl) (by unfold maxLen; omega) (by omega) (by simp; omega) ?_; intro v' w2 hown2 hgr2 hnew2; have HO2 := Lib.hid hown2; have HG2 := Lib.hid hgr2; have HN2 := Lib.hid hnew2; clear hown2 hgr2 hnew2)
          go_roundw
          case rel =>
            have h8 : w2.ownsRow (w1.heap.size + 2) 3/-t-/ 1 v' (xs.length + m + 1) ((xs ++ q.xs.take (m + 1)).map (Value.int .i64)) := by
              rw [HTS.out, ← List.append_assoc, List.map_append]; exact HO2.out
            obtain ⟨g9, c9, rfl, _, _⟩ := h8.form (by omega)
            refine ⟨m + 1, by go_num, _, c9, by omega, by omega, rfl, (HOFX.out.alloc _).grown HG2.out (fun x hx hx2 => ?_), h8, ?_⟩
            · rcases HBKX.out with h | ⟨y, h, hy⟩
              · rw [← h]; exact hx
              · rw [h] at hx; have := Option.some.inj hx; omega
            · rcases HN2.out with h | h
              · rw [h]; exact HBKX.out
              · exact .inr ⟨_, h, by simp; omega⟩
          case measure => simp [intOf]; omega
        · have hmq : ¬ ((m : Int) < q.xs.length ∧ (xs.length + m : Int) < room) := by omega
          have hkm : m = min q.xs.length (room - xs.length).toNat := by omega
          have hno8 : room ≤ (xs.length + m : Int) := by omega
          clear hmq hmr2
          have HM := Lib.hid (hkm.trans HKK.out.symm)
          clear hkm
          go_wp2_with fail
          go_meet
          have hmk := HM.out
          subst hmk
          exact ⟨rfl, A, c, hm, hmr, rfl, HOFX.out, HROX.out, HBKX.out⟩
      · have hkm : m = min q.xs.length (room - xs.length).toNat := by omega
        have hno8 : (q.xs.length : Int) ≤ m := by omega
        clear hml
        have HM := Lib.hid (hkm.trans HKK.out.symm)
        clear hkm
        go_wp2_with fail
        go_meet
        have hmk := HM.out
        subst hmk
        exact ⟨rfl, A, c, hm, hmr, rfl, HOFX.out, HROX.out, HBKX.out⟩
  case rest v8 j8 =>
    obtain ⟨rfl, A, c, hm, hmr, rfl, hofx, hrowx, hblkx⟩ := hcut
    have hblx : Below w.heap.size w wc := hbl.trans (hofx.below (fun x hx h => by have := (HROW.out.lt x h).1; omega) hbl.size)
    have y2 := (hblx.cell (p := ⟨b, off + k * 3 + 2, none⟩) hbw).trans C2.out
    have hsx := hofx.size
    have hbx1 : b < wc.heap.size := by omega
    have hbt1 := hofx.blk HBT.out (fun h => by have := (HROW.out.lt _ h).1; omega)
    have hq1' : Que wc w1.heap.size t room vq xs := ⟨hofx.blk HQ.out.blk (fun h => by have := (HROW.out.lt _ h).1; omega), hofx.own HQ.out.own (fun x hx h => HDIS.out x h hx)⟩
    obtain ⟨came, went, refused, most⟩ := t
    have d0 := hbt1.cell 0
    have d2 := hbt1.cell 2
    have d3 := hbt1.cell 3
    have f0 := hbt1.frozen 0
    have f2 := hbt1.frozen 2
    have f3 := hbt1.frozen 3
    simp at d0 d2 d3
    have HBT1 := Lib.hid hbt1
    have HQ1 := Lib.hid hq1'
    have HROX := Lib.hid hrowx
    have HOFX := Lib.hid hofx
    have HBKX := Lib.hid hblkx
    have hxi := HINV.out
    simp only at hxi
    obtain ⟨g1, g2, g3, g4, g5, g6, g7, g8, g9⟩ := hxi
    have hgl2 := hbt1.lt
    clear hrowx hofx hblkx x2 hbt1 hq1' g2
    go_upto_region 28 with fail
    go_region
    have HLK := Lib.hid (show (xs ++ q.xs.take kk).length = xs.length + kk from by have := HKK.out; simp; omega)
    have HSEP := Lib.hid (show ∀ x, (Value.slice A (xs.length + kk) c).ownBlock = some x → ¬ (x = w1.heap.size + 1 ∨ QS w1.heap.size vq x) from by
      intro x hx h
      have h1 := HROX.out.lt x hx
      rcases h with h | h | h
      · omega
      · omega
      · rcases HBKX.out with h2 | ⟨y, h2, h3⟩
        · exact HDIS.out x (h2 ▸ hx) h
        · have := (HQ.out.own.lt x h).2
          rw [h2] at hx; have := Option.some.inj hx; omega)
    have hkl8 : kk ≤ q.xs.length := by have := HKK.out; omega
    by_cases hkq : kk < q.xs.length
    · have hne1 : ((kk : Int) == (q.xs.length : Int)) = false := by simp; omega
      go_wp2_with (go_at_call 8; refine (put_off (t := ⟨came, went, refused, most⟩) (room := room) (v := vq) (xs := xs) (ys := q.xs) (tc := tCells ⟨came + kk, went, refused + q.xs.length - kk, max most (xs.length + kk)⟩) HQ1.out (((((Off.refl (fun x => x = w1.heap.size + 1) wc).put (p := ⟨w1.heap.size + 1, 0, none⟩) (fun _ => rfl) _).put (p := ⟨w1.heap.size + 1, 2, none⟩) (fun _ => rfl) _).put (p := ⟨w1.heap.size + 1, 3, none⟩) (fun _ => rfl) _).drew) HFAR.out (by first | exact ((HBT1.out.put 0 _).put 2 _).put 3 _ | exact ((HBT1.out.put 0 _).put 2 _).put 3 _ | exact (((HBT1.out.put 0 _).put 2 _).drewN 1).put 3 _) q.A q.xs.length q.c w CI.out hblx (by omega) rfl hcap1 (by omega) hn1 hn2 g1 (by simp only; omega) (by simp only; omega) (by simp only; omega) kk HKK.out).mono ?_; rintro e w5 ⟨rfl, vq5, hq5, hbt5, hof5, hfar5, hbk5⟩; have hb5 : Below w.heap.size w w5 := hblx.trans (hof5.below (fun x hx h => by rcases h with h | h | h; omega; omega; have := (HQ1.out.own.lt x h).1; omega) hblx.size); have y5 := (hb5.cell (p := ⟨b, off + k * 3 + 2, none⟩) hbw).trans C2.out; have hs5 := hof5.size; have hbw5 : b < w5.heap.size := (by omega); have hgl5 := hbt5.lt; have HB5 := Lib.hid hb5; clear hb5 hs5; have HQ5 := Lib.hid hq5; have HBT5 := Lib.hid hbt5; have HOF5 := Lib.hid hof5; have HFAR5 := Lib.hid hfar5; have HSEP5 := Lib.hid (show ∀ x, (Value.slice A (xs.length + kk) c).ownBlock = some x → vq5.ownBlock ≠ some x from (by intro x hx h; have h1 := HROX.out.lt x hx; rcases hbk5 with h2 | ⟨y, h2, h3⟩; exact HSEP.out x hx (.inr (.inr (h2 ▸ h))); rw [h2] at h; have := Option.some.inj h; omega)); clear hq5 hbt5 hof5 hfar5 hbk5)
      exact hK _ _ _ _ _ _ _ _ _ _ _ _ _ _ _ _ _ _ _ _ _ _ _ _ _ _ _ _ _ _ _ _ _ _ _ _ _ _ _ _ _ _ _ _ _ _ _ _ _ _ _ _ _ _ _ _ _ _ _ _ _ _ _ _ _ _ _ _ _ _ _ _ _ _ _ _ _ _ _ _ _ _ _ _ _ _ _ _ _ _ _ _ _ _ _ _ _ _ _ _ _ _ _ _ _ _ _ _ _ _ _ _ _ _ _ _ _ _ _ _ _ _ _ _ _ _ _ _ _ _ _ _ _ _ _ _ _ _ _ _ _ _ _ _ _ _ _ _ _ _ _ _ _ _ _ _ _ _ _ _ _ _ _ _ _ _ _ _ _ _ _ _ _ _ _ _ _ _ _ _ _ _ _ _ _ _ _ _ _ _ _ _ _ _ _ _ _ _ _ _ _ _ _ _ _ _ _ _ _ _ _ _ _ _ _ _ _ _ _ _ _ _ _ _ ⟨HB5.out, ⟨came + kk, went, refused + q.xs.length - kk, max most (xs.length + kk)⟩, vq5, xs ++ q.xs.take kk, by first | exact HQ5.out | (have h9 := HQ5.out; rwa [show refused + ((q.xs.length : Int) - kk) = refused + q.xs.length - kk from by omega] at h9), HBT5.out, by rw [HLK.out]; exact HOF5.out.own HROX.out (fun x hx h => HSEP.out x hx h), HSEP5.out, HFAR5.out, by rw [HLK.out]; push_cast; omega, by rw [HLK.out]; have g2 := HINV.out.2.1; simp only at g2 ⊢; push_cast; omega, by simp only; omega, by simp only; omega, by simp only; omega, by simp only; omega, by simp only; omega, by simp only; omega, by simp only; omega⟩
    · have hne1 : ((kk : Int) == (q.xs.length : Int)) = true := by simp; omega
      go_wp2_with (go_at_call 8; refine (put_off (t := ⟨came, went, refused, most⟩) (room := room) (v := vq) (xs := xs) (ys := q.xs) (tc := tCells ⟨came + kk, went, refused + q.xs.length - kk, max most (xs.length + kk)⟩) HQ1.out (((((Off.refl (fun x => x = w1.heap.size + 1) wc).put (p := ⟨w1.heap.size + 1, 0, none⟩) (fun _ => rfl) _).put (p := ⟨w1.heap.size + 1, 2, none⟩) (fun _ => rfl) _).put (p := ⟨w1.heap.size + 1, 3, none⟩) (fun _ => rfl) _).drew) HFAR.out (by first | exact ((HBT1.out.put 0 _).put 2 _).put 3 _ | exact ((HBT1.out.put 0 _).put 2 _).put 3 _ | exact (((HBT1.out.put 0 _).put 2 _).drewN 1).put 3 _) q.A q.xs.length q.c w CI.out hblx (by omega) rfl hcap1 (by omega) hn1 hn2 g1 (by simp only; omega) (by simp only; omega) (by simp only; omega) kk HKK.out).mono ?_; rintro e w5 ⟨rfl, vq5, hq5, hbt5, hof5, hfar5, hbk5⟩; have hb5 : Below w.heap.size w w5 := hblx.trans (hof5.below (fun x hx h => by rcases h with h | h | h; omega; omega; have := (HQ1.out.own.lt x h).1; omega) hblx.size); have y5 := (hb5.cell (p := ⟨b, off + k * 3 + 2, none⟩) hbw).trans C2.out; have hs5 := hof5.size; have hbw5 : b < w5.heap.size := (by omega); have hgl5 := hbt5.lt; have HB5 := Lib.hid hb5; clear hb5 hs5; have HQ5 := Lib.hid hq5; have HBT5 := Lib.hid hbt5; have HOF5 := Lib.hid hof5; have HFAR5 := Lib.hid hfar5; have HSEP5 := Lib.hid (show ∀ x, (Value.slice A (xs.length + kk) c).ownBlock = some x → vq5.ownBlock ≠ some x from (by intro x hx h; have h1 := HROX.out.lt x hx; rcases hbk5 with h2 | ⟨y, h2, h3⟩; exact HSEP.out x hx (.inr (.inr (h2 ▸ h))); rw [h2] at h; have := Option.some.inj h; omega)); clear hq5 hbt5 hof5 hfar5 hbk5)
      exact hK _ _ _ _ _ _ _ _ _ _ _ _ _ _ _ _ _ _ _ _ _ _ _ _ _ _ _ _ _ _ _ _ _ _ _ _ _ _ _ _ _ _ _ _ _ _ _ _ _ _ _ _ _ _ _ _ _ _ _ _ _ _ _ _ _ _ _ _ _ _ _ _ _ _ _ _ _ _ _ _ _ _ _ _ _ _ _ _ _ _ _ _ _ _ _ _ _ _ _ _ _ _ _ _ _ _ _ _ _ _ _ _ _ _ _ _ _ _ _ _ _ _ _ _ _ _ _ _ _ _ _ _ _ _ _ _ _ _ _ _ _ _ _ _ _ _ _ _ _ _ _ _ _ _ _ _ _ _ _ _ _ _ _ _ _ _ _ _ _ _ _ _ _ _ _ _ _ _ _ _ _ _ _ _ _ _ _ _ _ _ _ _ _ _ _ _ _ _ _ _ _ _ _ _ _ _ _ _ _ _ _ _ _ _ _ _ _ _ _ _ _ _ _ _ ⟨HB5.out, ⟨came + kk, went, refused + q.xs.length - kk, max most (xs.length + kk)⟩, vq5, xs ++ q.xs.take kk, by first | exact HQ5.out | (have h9 := HQ5.out; rwa [show refused + ((q.xs.length : Int) - kk) = refused + q.xs.length - kk from by omega] at h9), HBT5.out, by rw [HLK.out]; exact HOF5.out.own HROX.out (fun x hx h => HSEP.out x hx h), HSEP5.out, HFAR5.out, by rw [HLK.out]; push_cast; omega, by rw [HLK.out]; have g2 := HINV.out.2.1; simp only at g2 ⊢; push_cast; omega, by simp only; omega, by simp only; omega, by simp only; omega, by simp only; omega, by simp only; omega, by simp only; omega, by simp only; omega⟩
set_option maxRecDepth 1000000 in
theorem put_blockw {w w1 wr : World} {b off len cap k : Nat} {room : Int} {q : QAct} {t : Tal} {vq : Value} {xs : List Int} {u8 : Value} (C : Ctx w w1 wr b off len cap k room q t vq xs u8) (h0 : q.kind = 0) (hbg : ¬ 100 < q.xs.length)
    {s2 s3 s4 s5 s6 s11 s12 s13 s14 s15 s16 s17 s18 s19 s20 s21 s22 s23 s24 s25 s26 s27 s28 s29 s30 s31 s32 s33 s34 s35 s36 s37 s38 s39 s40 s41 s42 s43 s44 s45 s47 s48 s49 s50 s51 s52 s53 s54 s55 s56 s57 s58 s59 s60 s61 s62 s63 s64 s65 s66 s67 s68 s69 s70 s71 s72 s73 s74 s75 s76 s77 s78 s79 s80 s81 s82 s83 s84 s85 s86 s87 s88 s89 s90 s91 s92 s93 s94 s95 s96 s97 s98 s99 s100 s101 s102 s103 s104 s105 s106 s107 s108 s109 s110 s111 s112 s113 s114 s115 s116 s117 s118 s119 s120 s121 s122 s123 s124 s125 s126 s127 s128 s129 s130 s131 s132 s133 s134 s135 s136 s137 s138 s139 s140 s141 s142 s143 s144 s145 s146 s147 s148 s149 s150 s151 s152 s153 s154 s155 s156 s157 s158 s159 s160 s161 s162 s163 s164 s165 s166 s167 s168 s169 s170 s171 s172 s173 s174 s175 s176 s177 s178 s179 s180 s181 s182 s183 s184 s185 s186 s187 s188 s189 s190 s191 s192 s193 s194 s195 s196 s197 s198 s199 s200 s201 s202 s203 s204 s205 s206 s207 s208 s209 s210 s211 s212 s213 s214 s215 s216 s217 s218 s219 s220 s221 s222 s223 s224 s225 s226 s227 s228 s229 s230 s231 s232 s233 s234 s235 s236 s237 s238 s239 s240 s241 s242 s243 s244 s245 s246 s247 s248 s249 s250 s251 : Value} {K : Act → World → Prop} {Q0 : Exit → Act → World → Prop}
    (hK : NextP w w1 b off len cap k room q s2 s3 s4 s5 s17 s18 s19 s20 s21 s22 s23 s24 s25 s26 s27 s28 s29 s30 s31 s32 s33 s34 s35 K) :
    b2.wp Try.prog (Exit.then K Q0) ⟨#[.int .i64 room, .slice (some ⟨b, off, none⟩) len cap, s2, s3, s4, s5, s6, .pointer (some ⟨w1.heap.size, 0, none⟩), u8, .pointer (some ⟨w1.heap.size + 1, 0, none⟩), .int .i64 k, s11, s12, s13, s14, s15, s16, s17, s18, s19, s20, s21, s22, s23, s24, s25, s26, s27, s28, s29, s30, s31, s32, s33, s34, s35, s36, s37, s38, s39, s40, s41, s42, s43, s44, s45, .int .i64 q.kind, s47, s48, s49, s50, s51, s52, s53, s54, s55, s56, s57, s58, s59, s60, s61, s62, s63, s64, s65, s66, s67, s68, s69, s70, s71, s72, s73, s74, s75, s76, s77, s78, s79, s80, s81, s82, s83, s84, s85, s86, s87, s88, s89, s90, s91, s92, s93, s94, s95, s96, s97, s98, s99, s100, s101, s102, s103, s104, s105, s106, s107, s108, s109, s110, s111, s112, s113, s114, s115, s116, s117, s118, s119, s120, s121, s122, s123, s124, s125, s126, s127, s128, s129, s130, s131, s132, s133, s134, s135, s136, s137, s138, s139, s140, s141, s142, s143, s144, s145, s146, s147, s148, s149, s150, s151, s152, s153, s154, s155, s156, s157, s158, s159, s160, s161, s162, s163, s164, s165, s166, s167, s168, s169, s170, s171, s172, s173, s174, s175, s176, s177, s178, s179, s180, s181, s182, s183, s184, s185, s186, s187, s188, s189, s190, s191, s192, s193, s194, s195, s196, s197, s198, s199, s200, s201, s202, s203, s204, s205, s206, s207, s208, s209, s210, s211, s212, s213, s214, s215, s216, s217, s218, s219, s220, s221, s222, s223, s224, s225, s226, s227, s228, s229, s230, s231, s232, s233, s234, s235, s236, s237, s238, s239, s240, s241, s242, s243, s244, s245, s246, s247, s248, s249, s250, s251], []⟩ wr :=
  wp_mono (put_block C h0 hbg hK) (fun e _ _ h => by cases e <;> first | exact h | exact h.elim)
end Go.Proofs.Ytmmgicomidpmhaa.QueuePlays
