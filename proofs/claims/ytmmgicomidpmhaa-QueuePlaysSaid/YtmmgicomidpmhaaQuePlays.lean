/- QueuePlays: whatever is put, taken and removed, with any room: each answer, what waits behind it, and the tally. No condition. -/
import Derived.Test.YtmmgicomidpmhaaRows
import Derived.Test.YtmmgicomidpmhaaActT
import Derived.Test.YtmmgicomidpmhaaActR
import Derived.Test.YtmmgicomidpmhaaActP
import Derived.Deep.RegionHeld3
import Derived.Deep.RegionWith
import Derived.Deep.CutBlock
namespace Go.Proofs.Ytmmgicomidpmhaa.QueuePlays
open Go.ChangeShapes Go.WideShapes Go.ChangeAt Go.RowKit Go.Deep
set_option linter.unusedVariables false
set_option maxRecDepth 1000000 in
set_option maxHeartbeats 12000000 in
theorem walk (room : Int) (a : Option Addr) (len cap : Nat) (ask : Int) (f : Nat → QAct) (w : World) (hr : -9223372036854775808 ≤ room ∧ room ≤ 9223372036854775807) (hq : -9223372036854775808 ≤ ask ∧ ask ≤ 9223372036854775807) (hlen : len ≤ 9223372036854775807) (hE : ∀ i, i < len → Elem w a i (f i)) :
    Calls Try.prog 3 #[.int .i64 room, .slice a len cap, .int .i64 ask] w fun e w' => e = .returned (.bool true) ∧ Below w.heap.size w w' := by
  obtain ⟨hr1, hr2⟩ := hr
  obtain ⟨hq1, hq2⟩ := hq
  by_cases hbig : 60 < len
  · go_enter Try.func3, Try.ntmps3
    go_wp2_with (go_at_call 6; refine (awake_any _).mono ?_; rintro e w1 ⟨rfl, hb1⟩)
    go_ret
    exact ⟨rfl, hb1⟩
  by_cases hno : room < 1
  · go_enter Try.func3, Try.ntmps3
    go_wp2_with (first | (go_at_call 6; refine (awake_any _).mono ?_; rintro e w1 ⟨rfl, hb1⟩) | (go_at_call 7; refine (new_no _ _ (.inl hno)).mono ?_; rintro e w2 ⟨rfl, rfl⟩))
    go_ret
    exact ⟨rfl, hb1⟩
  by_cases hno2 : 10000 < room
  · go_enter Try.func3, Try.ntmps3
    go_wp2_with (first | (go_at_call 6; refine (awake_any _).mono ?_; rintro e w1 ⟨rfl, hb1⟩) | (go_at_call 7; refine (new_no _ _ (.inr hno2)).mono ?_; rintro e w2 ⟨rfl, rfl⟩))
    go_ret
    exact ⟨rfl, hb1⟩
  have HE := Lib.hid hE
  have hn1 : 1 ≤ room := by omega
  have hn2 : room ≤ 10000 := by omega
  clear hE hno hno2
  go_enter Try.func3, Try.ntmps3
  go_wp2_with (first | (go_at_call 6; refine (awake_any _).mono ?_; rintro e w1 ⟨rfl, hb1⟩) | (go_at_call 7; refine (new_ok _ _ hn1 hn2).mono ?_; rintro e w2 ⟨rfl, rfl⟩))
  go_loopw [8, 10] (fun v i wr => ∃ (k : Nat), k ≤ len ∧ i = .int .i64 k ∧ Below w.heap.size w wr ∧ Inv w1.heap.size room k v wr) (fun _ i _ => len - (intOf i).toNat)
  case atStart =>
    have hs := hb1.size
    exact ⟨0, Nat.zero_le _, rfl, (hb1.alloc hs _).alloc (by simp; omega) _, ⟨0, 0, 0, 0⟩, .slice none 0 0, [], ⟨(Blk.new _ _ _).alloc _, (World.ownsRow_nil _ _ _ _).alloc _⟩, by have := Blk.new (w1.alloc (.cells (qCells ⟨0, 0, 0, 0⟩ room (.slice none 0 0)) 45)) 28 (tCells ⟨0, 0, 0, 0⟩); simpa using this, World.ownsRow_nil _ _ _ _, (fun x hx => by cases hx), (fun x hx => by cases hx), by simp; omega, by simp, by simp, by simp, by simp, by simp, by simp, by simp, by simp; omega⟩
  case round =>
    obtain ⟨k, hk, rfl, hbl, hinv⟩ := hrel
    by_cases hlt : k < len
    · obtain ⟨t, vq, xs, hq, hbt, hrow, hdis, hfar, hx1, ht1, ht2, ht3, ht4, ht5, ht6, ht7, ht8⟩ := hinv
      obtain ⟨b, off, rfl, hbw, hcell⟩ := (HE.out k hlt).cells
      have x0 := (hbl.cell (p := ⟨b, off + k * 3 + 0, none⟩) hbw).trans (hcell 0 (by omega))
      have x1 := (hbl.cell (p := ⟨b, off + k * 3 + 1, none⟩) hbw).trans (hcell 1 (by omega))
      have x2 := (hbl.cell (p := ⟨b, off + k * 3 + 2, none⟩) hbw).trans (hcell 2 (by omega))
      have C20 := hcell 2 (by omega)
      have C10 := hcell 1 (by omega)
      simp at x0 x1 x2 C20 C10
      clear hcell
      have hel := HE.out k hlt
      obtain ⟨hcap1, hcap2⟩ := hel.cap
      obtain ⟨hkd1, hkd2⟩ := hel.kind
      obtain ⟨hnn1, hnn2⟩ := hel.n
      generalize f k = q at *
      go_upto_block 2 with fail
      go_cut [8] (fun v wx => Below w.heap.size w wx ∧ Inv w1.heap.size room (k + 1) v wx)
      case first =>
        have HCTX := Lib.hid (show Ctx w w1 wr b off len cap k room q t vq xs u8 from ⟨hb1, hbl, hq, hbt, hrow, hdis, hfar, ⟨hx1, ht1, ht2, ht3, ht4, ht5, ht6, ht7, ht8⟩, by omega, hlt, hlen, hn1, hn2, hbw, x1, x2, hel.ints, C20, C10, ⟨hcap1, hcap2⟩, ⟨hnn1, hnn2⟩⟩)
        by_cases h0 : q.kind = 0
        · by_cases hbg : 100 < q.xs.length
          · have e0 : (q.kind == 0) = true := by rw [h0]; rfl
            have hbwr : b < wr.heap.size := Nat.lt_of_lt_of_le hbw hbl.size
            clear h0 hq hbt hrow hdis hfar hx1 ht1 ht2 ht3 ht4 ht5 ht6 ht7 ht8 HCTX C20 C10 hel
            go_wp2
            go_ret
            exact ⟨rfl, hbl⟩
          · refine put_blockw HCTX.out h0 hbg ?_
            clear h0
            intro t6 t11 t12 t13 t14 t15 t16 t36 t37 t38 t39 t40 t41 t42 t43 t44 t45 t47 t48 t49 t50 t51 t52 t53 t54 t55 t56 t57 t58 t59 t60 t61 t62 t63 t64 t65 t66 t67 t68 t69 t70 t71 t72 t73 t74 t75 t76 t77 t78 t79 t80 t81 t82 t83 t84 t85 t86 t87 t88 t89 t90 t91 t92 t93 t94 t95 t96 t97 t98 t99 t100 t101 t102 t103 t104 t105 t106 t107 t108 t109 t110 t111 t112 t113 t114 t115 t116 t117 t118 t119 t120 t121 t122 t123 t124 t125 t126 t127 t128 t129 t130 t131 t132 t133 t134 t135 t136 t137 t138 t139 t140 t141 t142 t143 t144 t145 t146 t147 t148 t149 t150 t151 t152 t153 t154 t155 t156 t157 t158 t159 t160 t161 t162 t163 t164 t165 t166 t167 t168 t169 t170 t171 t172 t173 t174 t175 t176 t177 t178 t179 t180 t181 t182 t183 t184 t185 t186 t187 t188 t189 t190 t191 t192 t193 t194 t195 t196 t197 t198 t199 t200 t201 t202 t203 t204 t205 t206 t207 t208 t209 t210 t211 t212 t213 t214 t215 t216 t217 t218 t219 t220 t221 t222 t223 t224 t225 t226 t227 t228 t229 t230 t231 t232 t233 t234 t235 t236 t237 t238 t239 t240 t241 t242 t243 t244 t245 t246 t247 t248 t249 t250 t251 v wx hpost
            go_wp2
            go_meet
            exact hpost
        by_cases h1 : q.kind = 1
        · refine take_blockw HCTX.out h1 ?_
          clear h1
          intro t6 t11 t12 t13 t14 t15 t16 t36 t37 t38 t39 t40 t41 t42 t43 t44 t45 t47 t48 t49 t50 t51 t52 t53 t54 t55 t56 t57 t58 t59 t60 t61 t62 t63 t64 t65 t66 t67 t68 t69 t70 t71 t72 t73 t74 t75 t76 t77 t78 t79 t80 t81 t82 t83 t84 t85 t86 t87 t88 t89 t90 t91 t92 t93 t94 t95 t96 t97 t98 t99 t100 t101 t102 t103 t104 t105 t106 t107 t108 t109 t110 t111 t112 t113 t114 t115 t116 t117 t118 t119 t120 t121 t122 t123 t124 t125 t126 t127 t128 t129 t130 t131 t132 t133 t134 t135 t136 t137 t138 t139 t140 t141 t142 t143 t144 t145 t146 t147 t148 t149 t150 t151 t152 t153 t154 t155 t156 t157 t158 t159 t160 t161 t162 t163 t164 t165 t166 t167 t168 t169 t170 t171 t172 t173 t174 t175 t176 t177 t178 t179 t180 t181 t182 t183 t184 t185 t186 t187 t188 t189 t190 t191 t192 t193 t194 t195 t196 t197 t198 t199 t200 t201 t202 t203 t204 t205 t206 t207 t208 t209 t210 t211 t212 t213 t214 t215 t216 t217 t218 t219 t220 t221 t222 t223 t224 t225 t226 t227 t228 t229 t230 t231 t232 t233 t234 t235 t236 t237 t238 t239 t240 t241 t242 t243 t244 t245 t246 t247 t248 t249 t250 t251 v wx hpost
          go_wp2
          go_meet
          exact hpost
        by_cases hin : q.n < 0 ∨ (xs.length : Int) ≤ q.n
        · have e0 : (q.kind == 0) = false := by simpa using h0
          have e1 : (q.kind == 1) = false := by simpa using h1
          have HQ := Lib.hid hq
          have HBT := Lib.hid hbt
          have HROW := Lib.hid hrow
          have HDIS := Lib.hid hdis
          have HFAR := Lib.hid hfar
          have hbwr : b < wr.heap.size := Nat.lt_of_lt_of_le hbw hbl.size
          have HINV := Lib.hid (show (xs.length : Int) ≤ room ∧ t.came = t.went + xs.length ∧ 0 ≤ t.came ∧ t.came ≤ 100 * k ∧ 0 ≤ t.went ∧ 0 ≤ t.refused ∧ t.refused ≤ 100 * k ∧ 0 ≤ t.most ∧ t.most ≤ room from ⟨hx1, ht1, ht2, ht3, ht4, ht5, ht6, ht7, ht8⟩)
          obtain ⟨A8, c8, hv8, hI8, hc8⟩ := ints_of_own HROW.out
          subst hv8
          have RO := Lib.hid (fun m => remove_out (t := t) (w := wr.drewN m) ⟨HQ.out.blk.drewN m, HQ.out.own⟩ q.n hin)
          have hor : (decide (q.n < 0) || decide ((xs.length : Int) ≤ q.n)) = true := by simpa using hin
          have hxl : xs.length ≤ 10000 := by omega
          clear hin h0 h1 hI8 hq hbt hrow hdis hfar hx1 ht1 ht2 ht3 ht4 ht5 ht6 ht7 ht8 hel HCTX C20 C10
          go_wp2_with (go_at_call 11; refine (RO.out 0).mono ?_; rintro e w3 ⟨rfl, rfl⟩)
          all_goals
            have h8 := HINV.out
            obtain ⟨g1, g2, g3, g4, g5, g6, g7, g8, g9⟩ := h8
            refine ⟨⟨k + 1, by omega, by go_num, below_drewN hbl 0, t, vq, xs, HQ.out, HBT.out, HROW.out, HDIS.out, HFAR.out, g1, g2, g3, ?_, g5, g6, ?_, g8, g9⟩, by simp [intOf]; omega⟩
            all_goals (push_cast; omega)
        · refine remove_blockw HCTX.out h0 h1 hin ?_
          intro t6 t11 t12 t13 t14 t15 t16 t36 t37 t38 t39 t40 t41 t42 t43 t44 t45 t47 t48 t49 t50 t51 t52 t53 t54 t55 t56 t57 t58 t59 t60 t61 t62 t63 t64 t65 t66 t67 t68 t69 t70 t71 t72 t73 t74 t75 t76 t77 t78 t79 t80 t81 t82 t83 t84 t85 t86 t87 t88 t89 t90 t91 t92 t93 t94 t95 t96 t97 t98 t99 t100 t101 t102 t103 t104 t105 t106 t107 t108 t109 t110 t111 t112 t113 t114 t115 t116 t117 t118 t119 t120 t121 t122 t123 t124 t125 t126 t127 t128 t129 t130 t131 t132 t133 t134 t135 t136 t137 t138 t139 t140 t141 t142 t143 t144 t145 t146 t147 t148 t149 t150 t151 t152 t153 t154 t155 t156 t157 t158 t159 t160 t161 t162 t163 t164 t165 t166 t167 t168 t169 t170 t171 t172 t173 t174 t175 t176 t177 t178 t179 t180 t181 t182 t183 t184 t185 t186 t187 t188 t189 t190 t191 t192 t193 t194 t195 t196 t197 t198 t199 t200 t201 t202 t203 t204 t205 t206 t207 t208 t209 t210 t211 t212 t213 t214 t215 t216 t217 t218 t219 t220 t221 t222 t223 t224 t225 t226 t227 t228 t229 t230 t231 t232 t233 t234 t235 t236 t237 t238 t239 t240 t241 t242 t243 t244 t245 t246 t247 t248 t249 t250 t251 v wx hpost
          go_wp2
          go_meet
          exact hpost
      case rest v8 =>
        clear hq hbt hrow hdis hfar
        obtain ⟨hbx, t', vq', ys, hq', hbt', hrow', hdis', hfar', hx'⟩ := hcut
        have HFAR := Lib.hid hfar'
        clear hfar'
        obtain ⟨A8, c8, rfl, hI8, hc8⟩ := ints_of_own hrow'
        obtain ⟨came, went, refused, most⟩ := t'
        have HX := Lib.hid hx'
        have hyl : ys.length ≤ 1000000 := by have := hx'.1; omega
        have HQ := Lib.hid hq'
        have HBT := Lib.hid hbt'
        have HROW := Lib.hid hrow'
        have HDIS := Lib.hid hdis'
        have LK := Lib.hid (fun m => looks_any (w := wc.drewN m) (ask := ask) ⟨HQ.out.blk.drewN m, HQ.out.own⟩ A8 ys.length c8 hI8 rfl hyl hn1 hn2 hq1 hq2)
        have CN := Lib.hid (fun m => counts_any (w := wc.drewN m) ⟨HQ.out.blk.drewN m, HQ.out.own⟩)
        have d0 := hbt'.cell 0
        have d1 := hbt'.cell 1
        have d2 := hbt'.cell 2
        have d3 := hbt'.cell 3
        have hbl8 := hbt'.lt
        simp at d0 d1 d2 d3
        have E := fun (a b c d a' b' c' d' : Int) (W : World) => eqTal a b c d a' b' c' d' W
        have hg := guardTal
        clear hq' hbt' hrow' hdis' hx' hI8 hc8 x0 x1 x2 hel
        go_upto_region 39 with fail
        go_region_with (first | (go_at_call 12; refine (LK.out 1).mono ?_; rintro e w3 ⟨rfl, m3, rfl⟩) | (go_at_call 13; refine (CN.out _).mono ?_; rintro e w4 ⟨rfl, hb4⟩; have hB4 := (HBT.out.drewN _).below hb4 HBT.out.lt; have z0 := hB4.cell 0; have z1 := hB4.cell 1; have z2 := hB4.cell 2; have z3 := hB4.cell 3; simp at z0 z1 z2 z3; have HB4 := Lib.hid hB4; clear hB4))
        all_goals go_wp2_with fail
        all_goals
          go_roundw
          case rel =>
            have hb5 : Below wc.heap.size wc w4 := (below_drewN (Below.refl wc.heap.size wc) (1 + m3)).trans hb4
            exact ⟨k + 1, by omega, by go_num, hbx.trans (hb5.mono hbx.size), _, _, _, ⟨HQ.out.blk.below hb5 HQ.out.blk.lt, (Off.of hb5 : Off (fun _ => False) wc w4).own HQ.out.own (fun _ _ h => h)⟩, HB4.out, (Off.of hb5 : Off (fun _ => False) wc w4).own HROW.out (fun _ _ h => h), HDIS.out, HFAR.out, HX.out⟩
          case measure => simp [intOf]; omega
    · have hkl : k = len := by omega
      subst hkl
      go_wp2
      go_ret
      exact ⟨rfl, hbl⟩
theorem own : ownKnob Try.prog.godebug = none := by kernel_rfl
theorem laidOut : laidOutB Try.prog = true := by kernel_rfl
set_option maxRecDepth 100000 in
theorem lifted (os : Os) (started : os.Started) (H : Type) (enc : TypeId × Value → H) :
    ReturnsInHanded {} Try.checked os 3 .any (Rows.queuePlaysSpec.pre6 enc Try.prog Try.f3 Rows.queuePlaysRow.domain false) (Rows.queuePlaysSpec.post enc Try.prog Try.f3 false true false false) := by
  refine returnsInHanded_of_change (C := Try.checked) own started (by kernel_rfl) Try.func3
    (ChangeSpec.witness6 (enc := enc) (C := Try.checked) false ⟨#[], #[.int .i64 0, .slice none 0 0, .int .i64 0], []⟩ 8 (by kernel_rfl) (by kernel_rfl) (by kernel_rfl) (by kernel_rfl)) ?_
  intro W base args ds gs before hval0 hW hcnd _
  have hval : ∀ (j : Nat) t v, Try.f3.params[j]? = some t → args[j]? = some v → Value.okWide Try.prog W .any base t v := hval0
  have hW' := hW
  obtain ⟨p, q, hA0, hV, rfl, hfz, hnd⟩ := hW
  have hA : DataW.TrodAll enc Try.prog W 0 (fun _ => true) true Try.f3.params.toList args.toList ds p := hA0
  rw [Try.params3] at hA hval
  obtain ⟨v0, vs0, d0, ds0, p0, q0, hargs, rfl, rfl, h0, r0⟩ := trodAll_cons hA
  obtain ⟨v1, vs1, d1, ds1, p1, q1, rfl, rfl, rfl, h1, r1⟩ := trodAll_cons r0
  obtain ⟨v2, vs2, d2, ds2, p2, q2, rfl, rfl, rfl, h2, r2⟩ := trodAll_cons r1
  obtain ⟨rfl, rfl, rfl⟩ := trodAll_nil r2
  obtain rfl : args = #[v0, v1, v2] := by cases args; simp_all
  obtain ⟨rfl, rfl⟩ := trodVars_none hV
  obtain ⟨a0, rfl, rfl, rfl, w0⟩ := open_int Try.underlying3 (hval 0 3 v0 rfl rfl) h0
  have b0 := bounds_i64 w0
  obtain ⟨a1, len1, cap1, rfl⟩ := okWide_slice Try.underlying22 (hval 1 22 v1 rfl rfl)
  have k1 := h1
  have lt1 : ∀ x ∈ p1, x.block < W.heap.size := by obtain ⟨m, hm⟩ := k1; exact DataW.trod_lt m _ _ _ hm
  obtain ⟨fuel1, hf1⟩ := h1
  have hg1 : DataW.trod enc Try.prog W 0 (fun _ => true) true fuel1 22 [.slice a1 len1 cap1] = some (d1, p1) := by simpa [Value.cells] using hf1
  have o1 := acts_open hg1
  obtain ⟨hm1, f1, hE1⟩ := o1
  obtain ⟨a2, rfl, rfl, rfl, w2⟩ := open_int Try.underlying3 (hval 2 3 v2 rfl rfl) h2
  have b2 := bounds_i64 w2
  clear hA0 hval0
  refine (walk a0 a1 len1 cap1 a2 f1 W b0 b2 hm1 hE1).mono fun e W' ⟨he, bel⟩ => ?_
  subst he
  exact ⟨_, rfl, _, _, _, [], _, [], hW', trodAll_mk1 (shut_bool Try.underlying4 _), (trodAll_cons_mk (shut_int Try.underlying3 w0) (trodAll_cons_mk (Below.trod laidOut (by kernel_rfl) (of_decide_eq_true (by kernel_rfl)) k1 bel lt1) (trodAll_cons_mk (shut_int Try.underlying3 w2) trodAll_mk0))), rfl, bel.frame _, fun h => by cases h⟩

theorem over : Rows.queuePlaysRow.holds Try.pinned (OpenSpec.ofChange Rows.queuePlaysSpec) :=
  OpenClaim.holds_of_wide 3 Try.f3 rfl rfl rfl rfl rfl rfl rfl ⟨rfl, rfl, rfl, rfl, rfl⟩ rfl rfl rfl rfl rfl (by kernel_rfl) Try.func3 (by kernel_rfl)
    (of_decide_eq_true (by kernel_rfl)) (by unfold Func.isWrapper; first | (rw [if_pos (by decide +kernel)]; kernel_rfl) | (rw [if_neg (by decide +kernel)]; exact ⟨rfl, rfl⟩))
    (fun os started H enc _ => lifted os started H enc)

theorem proved : Rows.QueuePlaysSaid := over

end Go.Proofs.Ytmmgicomidpmhaa.QueuePlays
