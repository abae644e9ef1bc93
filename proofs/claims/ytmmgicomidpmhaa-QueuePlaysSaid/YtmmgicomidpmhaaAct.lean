/- QueuePlays: the acts, one by one. -/
import Derived.Test.YtmmgicomidpmhaaRgn
import Derived.Deep.DeepCutAuto
namespace Go.Proofs.Ytmmgicomidpmhaa.QueuePlays
open Go.ChangeShapes Go.WideShapes Go.ChangeAt Go.RowKit Go.Deep
set_option linter.unusedVariables false
/-- Block n of a text. -/
def blockAt (n : Nat) : Code → Option Code
  | .block id c => if id = n then some (.block id c) else blockAt n c
  | .seq a b => match blockAt n a with
    | some c => some c
    | none => blockAt n b
  | .cond _ a b => match blockAt n a with
    | some c => some c
    | none => blockAt n b
  | .loop c => blockAt n c
  | .scope c => blockAt n c
  | _ => none
noncomputable def b2 : Code := (Try.f3.body.bind (blockAt 2)).getD .skip
/-- What is known ahead of an act. -/
structure Ctx (w w1 wr : World) (b off len cap k : Nat) (room : Int) (q : QAct) (t : Tal) (vq : Value) (xs : List Int) (u8 : Value) : Prop where
  hb1 : Below w.heap.size w w1
  hbl : Below w.heap.size w wr
  que : Que wr w1.heap.size t room vq xs
  blk : Blk wr (w1.heap.size + 1) 28/-t-/ (tCells t)
  row : wr.ownsRow (w1.heap.size + 2) 3/-t-/ 1 u8 xs.length (xs.map (Value.int .i64))
  dis : ∀ x, u8.ownBlock = some x → vq.ownBlock ≠ some x
  far : ∀ x, vq.ownBlock = some x → x ≠ w1.heap.size + 1
  inv : (xs.length : Int) ≤ room ∧ t.came = t.went + xs.length ∧ 0 ≤ t.came ∧ t.came ≤ 100 * k ∧ 0 ≤ t.went ∧ 0 ≤ t.refused ∧ t.refused ≤ 100 * k ∧ 0 ≤ t.most ∧ t.most ≤ room
  hkl : (k : Int) ≤ 60
  hlt : k < len
  hlen : len ≤ 9223372036854775807
  hn1 : 1 ≤ room
  hn2 : room ≤ 10000
  hbw : b < w.heap.size
  x1 : wr.cell? ⟨b, off + k * 3 + 1, none⟩ = some (.int .i64 q.n)
  x2 : wr.cell? ⟨b, off + k * 3 + 2, none⟩ = some (.slice q.A q.xs.length q.c)
  ints : Ints w .i64 q.A q.xs
  c2 : w.cell? ⟨b, off + k * 3 + 2, none⟩ = some (.slice q.A q.xs.length q.c)
  c1 : w.cell? ⟨b, off + k * 3 + 1, none⟩ = some (.int .i64 q.n)
  cap : q.xs.length ≤ q.c ∧ q.c ≤ 9223372036854775807
  n : -9223372036854775808 ≤ q.n ∧ q.n ≤ 9223372036854775807
theorem take_next {w wr w5 : World} {g : Nat} {room : Int} {k : Nat} {came went refused most : Int} {vq vq3 v5 u : Value} {xs : List Int} {nn n5 : Nat} {L : List Value}
    (hbl : Below w.heap.size w wr) (hg : w.heap.size ≤ g) (HQ : Que wr g ⟨came, went, refused, most⟩ room vq xs)
    (h9 : Que w5 g { (⟨came, went, refused, most⟩ : Tal) with went := went + nn } room vq3 (xs.drop nn) ∧ Blk w5 (g + 1) 28/-t-/ (tCells ⟨came, went, refused, most⟩) ∧ Off (QS g vq) wr w5 ∧ (∀ x, v5.ownBlock = some x → vq3.ownBlock ≠ some x) ∧ (∀ x, vq3.ownBlock = some x → x ≠ g + 1))
    (hown : w5.ownsRow (g + 2) 3/-t-/ 1 v5 n5 L) (hn5 : n5 = (xs.drop nn).length) (hL : L = (xs.drop nn).map (Value.int .i64)) (hu : u = .int .i64 (went + nn)) (hnx : nn ≤ xs.length)
    (h8 : (xs.length : Int) ≤ room ∧ came = went + xs.length ∧ 0 ≤ came ∧ came ≤ 100 * k ∧ 0 ≤ went ∧ 0 ≤ refused ∧ refused ≤ 100 * k ∧ 0 ≤ most ∧ most ≤ room) :
    Below w.heap.size w (w5.setCell ⟨g + 1, 1, none⟩ u) ∧ Inv g room (k + 1) v5 (w5.setCell ⟨g + 1, 1, none⟩ u) := by
  subst hu hn5 hL
  obtain ⟨g1, g2, g3, g4, g5, g6, g7, g8, g9⟩ := h8
  refine ⟨hbl.trans (((h9.2.2.1.more (T := fun x => x = g + 1 ∨ QS g vq x) (fun _ _ h => .inr h)).put (p := ⟨g + 1, 1, none⟩) (fun _ => .inl rfl) _).below (fun x hx h => by
    rcases h with h | h | h
    · omega
    · omega
    · have := (HQ.own.lt x h).1; omega) hbl.size), ⟨came, went + nn, refused, most⟩, vq3, xs.drop nn, h9.1.far ⟨g + 1, 1, none⟩ _ (by simp) (fun e => h9.2.2.2.2 _ e rfl), h9.2.1.put 1 _,
    ((Off.refl (fun x => x = g + 1) w5).put (p := ⟨g + 1, 1, none⟩) (fun _ => rfl) _).own hown (fun x hx e => by have := (hown.lt x hx).1; omega), h9.2.2.2.1, h9.2.2.2.2, ?_, ?_, ?_, ?_, ?_, ?_, ?_, ?_, ?_⟩
  all_goals (simp only [List.length_drop]; omega)
theorem remove_next {w wr w6 : World} {g : Nat} {room : Int} {k : Nat} {came went refused most : Int} {vq vq3 v6 u : Value} {xs : List Int} {nn n6 : Nat} {L : List Value}
    (hbl : Below w.heap.size w wr) (hg : w.heap.size ≤ g) (HQ : Que wr g ⟨came, went, refused, most⟩ room vq xs)
    (h9 : Que w6 g { (⟨came, went, refused, most⟩ : Tal) with went := went + 1 } room vq3 (xs.take nn ++ xs.drop (nn + 1)) ∧ Blk w6 (g + 1) 28/-t-/ (tCells ⟨came, went, refused, most⟩) ∧ Off (QS g vq) wr w6 ∧ (∀ x, v6.ownBlock = some x → vq3.ownBlock ≠ some x) ∧ (∀ x, vq3.ownBlock = some x → x ≠ g + 1))
    (hown : w6.ownsRow (g + 2) 3/-t-/ 1 v6 n6 L) (hn6 : n6 = 0 + nn + (xs.length - (nn + 1))) (hL : L = (xs.take nn ++ xs.drop (nn + 1)).map (Value.int .i64)) (hu : u = .int .i64 (went + 1)) (hnl : nn < xs.length)
    (h8 : (xs.length : Int) ≤ room ∧ came = went + xs.length ∧ 0 ≤ came ∧ came ≤ 100 * k ∧ 0 ≤ went ∧ 0 ≤ refused ∧ refused ≤ 100 * k ∧ 0 ≤ most ∧ most ≤ room) :
    Below w.heap.size w (w6.setCell ⟨g + 1, 1, none⟩ u) ∧ Inv g room (k + 1) v6 (w6.setCell ⟨g + 1, 1, none⟩ u) := by
  have hlen9 : (xs.take nn ++ xs.drop (nn + 1)).length = 0 + nn + (xs.length - (nn + 1)) := by simp; omega
  subst hu hn6 hL
  rw [← hlen9] at hown
  obtain ⟨g1, g2, g3, g4, g5, g6, g7, g8, g9⟩ := h8
  refine ⟨hbl.trans (((h9.2.2.1.more (T := fun x => x = g + 1 ∨ QS g vq x) (fun _ _ h => .inr h)).put (p := ⟨g + 1, 1, none⟩) (fun _ => .inl rfl) _).below (fun x hx h => by
    rcases h with h | h | h
    · omega
    · omega
    · have := (HQ.own.lt x h).1; omega) hbl.size), ⟨came, went + 1, refused, most⟩, vq3, xs.take nn ++ xs.drop (nn + 1), h9.1.far ⟨g + 1, 1, none⟩ _ (by simp) (fun e => h9.2.2.2.2 _ e rfl), h9.2.1.put 1 _,
    ((Off.refl (fun x => x = g + 1) w6).put (p := ⟨g + 1, 1, none⟩) (fun _ => rfl) _).own hown (fun x hx e => by have := (hown.lt x hx).1; omega), h9.2.2.2.1, h9.2.2.2.2, ?_, ?_, ?_, ?_, ?_, ?_, ?_, ?_, ?_⟩
  all_goals (simp only [hlen9]; omega)
set_option maxRecDepth 1000000 in
/-- What follows an act: whatever the scratch holds. -/
def NextP (w w1 : World) (b off len cap k : Nat) (room : Int) (q : QAct) (s2 s3 s4 s5 s17 s18 s19 s20 s21 s22 s23 s24 s25 s26 s27 s28 s29 s30 s31 s32 s33 s34 s35 : Value) (K : Act → World → Prop) : Prop :=
  ∀ (t6 t11 t12 t13 t14 t15 t16 t36 t37 t38 t39 t40 t41 t42 t43 t44 t45 t47 t48 t49 t50 t51 t52 t53 t54 t55 t56 t57 t58 t59 t60 t61 t62 t63 t64 t65 t66 t67 t68 t69 t70 t71 t72 t73 t74 t75 t76 t77 t78 t79 t80 t81 t82 t83 t84 t85 t86 t87 t88 t89 t90 t91 t92 t93 t94 t95 t96 t97 t98 t99 t100 t101 t102 t103 t104 t105 t106 t107 t108 t109 t110 t111 t112 t113 t114 t115 t116 t117 t118 t119 t120 t121 t122 t123 t124 t125 t126 t127 t128 t129 t130 t131 t132 t133 t134 t135 t136 t137 t138 t139 t140 t141 t142 t143 t144 t145 t146 t147 t148 t149 t150 t151 t152 t153 t154 t155 t156 t157 t158 t159 t160 t161 t162 t163 t164 t165 t166 t167 t168 t169 t170 t171 t172 t173 t174 t175 t176 t177 t178 t179 t180 t181 t182 t183 t184 t185 t186 t187 t188 t189 t190 t191 t192 t193 t194 t195 t196 t197 t198 t199 t200 t201 t202 t203 t204 t205 t206 t207 t208 t209 t210 t211 t212 t213 t214 t215 t216 t217 t218 t219 t220 t221 t222 t223 t224 t225 t226 t227 t228 t229 t230 t231 t232 t233 t234 t235 t236 t237 t238 t239 t240 t241 t242 t243 t244 t245 t246 t247 t248 t249 t250 t251 v : Value) (wx : World), Below w.heap.size w wx ∧ Inv w1.heap.size room (k + 1) v wx → K ⟨#[.int .i64 room, .slice (some ⟨b, off, none⟩) len cap, s2, s3, s4, s5, t6, .pointer (some ⟨w1.heap.size, 0, none⟩), v, .pointer (some ⟨w1.heap.size + 1, 0, none⟩), .int .i64 k, t11, t12, t13, t14, t15, t16, s17, s18, s19, s20, s21, s22, s23, s24, s25, s26, s27, s28, s29, s30, s31, s32, s33, s34, s35, t36, t37, t38, t39, t40, t41, t42, t43, t44, t45, .int .i64 q.kind, t47, t48, t49, t50, t51, t52, t53, t54, t55, t56, t57, t58, t59, t60, t61, t62, t63, t64, t65, t66, t67, t68, t69, t70, t71, t72, t73, t74, t75, t76, t77, t78, t79, t80, t81, t82, t83, t84, t85, t86, t87, t88, t89, t90, t91, t92, t93, t94, t95, t96, t97, t98, t99, t100, t101, t102, t103, t104, t105, t106, t107, t108, t109, t110, t111, t112, t113, t114, t115, t116, t117, t118, t119, t120, t121, t122, t123, t124, t125, t126, t127, t128, t129, t130, t131, t132, t133, t134, t135, t136, t137, t138, t139, t140, t141, t142, t143, t144, t145, t146, t147, t148, t149, t150, t151, t152, t153, t154, t155, t156, t157, t158, t159, t160, t161, t162, t163, t164, t165, t166, t167, t168, t169, t170, t171, t172, t173, t174, t175, t176, t177, t178, t179, t180, t181, t182, t183, t184, t185, t186, t187, t188, t189, t190, t191, t192, t193, t194, t195, t196, t197, t198, t199, t200, t201, t202, t203, t204, t205, t206, t207, t208, t209, t210, t211, t212, t213, t214, t215, t216, t217, t218, t219, t220, t221, t222, t223, t224, t225, t226, t227, t228, t229, t230, t231, t232, t233, t234, t235, t236, t237, t238, t239, t240, t241, t242, t243, t244, t245, t246, t247, t248, t249, t250, t251], []⟩ wx
end Go.Proofs.Ytmmgicomidpmhaa.QueuePlays
