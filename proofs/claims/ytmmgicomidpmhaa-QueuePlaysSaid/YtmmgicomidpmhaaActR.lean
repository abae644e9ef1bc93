/- QueuePlays: the acts, one by one. -/
import Derived.Test.YtmmgicomidpmhaaAct
import Derived.Deep.DeepCutAuto
namespace Go.Proofs.Ytmmgicomidpmhaa.QueuePlays
open Go.ChangeShapes Go.WideShapes Go.ChangeAt Go.RowKit Go.Deep
set_option linter.unusedVariables false
set_option maxRecDepth 1000000 in
set_option maxHeartbeats 12000000 in
theorem remove_block {w w1 wr : World} {b off len cap k : Nat} {room : Int} {q : QAct} {t : Tal} {vq : Value} {xs : List Int} {u8 : Value} (C : Ctx w w1 wr b off len cap k room q t vq xs u8) (h0 : ¬ q.kind = 0) (h1 : ¬ q.kind = 1) (hin : ¬ (q.n < 0 ∨ (xs.length : Int) ≤ q.n))
    {s2 s3 s4 s5 s6 s11 s12 s13 s14 s15 s16 s17 s18 s19 s20 s21 s22 s23 s24 s25 s26 s27 s28 s29 s30 s31 s32 s33 s34 s35 s36 s37 s38 s39 s40 s41 s42 s43 s44 s45 s47 s48 s49 s50 s51 s52 s53 s54 s55 s56 s57 s58 s59 s60 s61 s62 s63 s64 s65 s66 s67 s68 s69 s70 s71 s72 s73 s74 s75 s76 s77 s78 s79 s80 s81 s82 s83 s84 s85 s86 s87 s88 s89 s90 s91 s92 s93 s94 s95 s96 s97 s98 s99 s100 s101 s102 s103 s104 s105 s106 s107 s108 s109 s110 s111 s112 s113 s114 s115 s116 s117 s118 s119 s120 s121 s122 s123 s124 s125 s126 s127 s128 s129 s130 s131 s132 s133 s134 s135 s136 s137 s138 s139 s140 s141 s142 s143 s144 s145 s146 s147 s148 s149 s150 s151 s152 s153 s154 s155 s156 s157 s158 s159 s160 s161 s162 s163 s164 s165 s166 s167 s168 s169 s170 s171 s172 s173 s174 s175 s176 s177 s178 s179 s180 s181 s182 s183 s184 s185 s186 s187 s188 s189 s190 s191 s192 s193 s194 s195 s196 s197 s198 s199 s200 s201 s202 s203 s204 s205 s206 s207 s208 s209 s210 s211 s212 s213 s214 s215 s216 s217 s218 s219 s220 s221 s222 s223 s224 s225 s226 s227 s228 s229 s230 s231 s232 s233 s234 s235 s236 s237 s238 s239 s240 s241 s242 s243 s244 s245 s246 s247 s248 s249 s250 s251 : Value} {K : Act → World → Prop}
    (hK : NextP w w1 b off len cap k room q s2 s3 s4 s5 s17 s18 s19 s20 s21 s22 s23 s24 s25 s26 s27 s28 s29 s30 s31 s32 s33 s34 s35 K) :
    b2.wp Try.prog (Exit.then K (fun _ _ _ => False)) ⟨#[.int .i64 room, .slice (some ⟨b, off, none⟩) len cap, s2, s3, s4, s5, s6, .pointer (some ⟨w1.heap.size, 0, none⟩), u8, .pointer (some ⟨w1.heap.size + 1, 0, none⟩), .int .i64 k, s11, s12, s13, s14, s15, s16, s17, s18, s19, s20, s21, s22, s23, s24, s25, s26, s27, s28, s29, s30, s31, s32, s33, s34, s35, s36, s37, s38, s39, s40, s41, s42, s43, s44, s45, .int .i64 q.kind, s47, s48, s49, s50, s51, s52, s53, s54, s55, s56, s57, s58, s59, s60, s61, s62, s63, s64, s65, s66, s67, s68, s69, s70, s71, s72, s73, s74, s75, s76, s77, s78, s79, s80, s81, s82, s83, s84, s85, s86, s87, s88, s89, s90, s91, s92, s93, s94, s95, s96, s97, s98, s99, s100, s101, s102, s103, s104, s105, s106, s107, s108, s109, s110, s111, s112, s113, s114, s115, s116, s117, s118, s119, s120, s121, s122, s123, s124, s125, s126, s127, s128, s129, s130, s131, s132, s133, s134, s135, s136, s137, s138, s139, s140, s141, s142, s143, s144, s145, s146, s147, s148, s149, s150, s151, s152, s153, s154, s155, s156, s157, s158, s159, s160, s161, s162, s163, s164, s165, s166, s167, s168, s169, s170, s171, s172, s173, s174, s175, s176, s177, s178, s179, s180, s181, s182, s183, s184, s185, s186, s187, s188, s189, s190, s191, s192, s193, s194, s195, s196, s197, s198, s199, s200, s201, s202, s203, s204, s205, s206, s207, s208, s209, s210, s211, s212, s213, s214, s215, s216, s217, s218, s219, s220, s221, s222, s223, s224, s225, s226, s227, s228, s229, s230, s231, s232, s233, s234, s235, s236, s237, s238, s239, s240, s241, s242, s243, s244, s245, s246, s247, s248, s249, s250, s251], []⟩ wr := by
  conv => arg 2; whnf
  obtain ⟨hb1, hbl, hq, hbt, hrow, hdis, hfar, hinv, hkl, hlt, hlen, hn1, hn2, hbw, x1, x2, hints0, C20, C10, ⟨hcap1, hcap2⟩, ⟨hnn1, hnn2⟩⟩ := C
  have HQ := Lib.hid hq
  have HBT := Lib.hid hbt
  have HROW := Lib.hid hrow
  have HDIS := Lib.hid hdis
  have HFAR := Lib.hid hfar
  have hgl := hbt.lt
  have hbwr : b < wr.heap.size := Nat.lt_of_lt_of_le hbw hbl.size
  have HINV := Lib.hid hinv
  obtain ⟨i0, hi, hz0, hz1, hz2⟩ := info_parts info3
  have hints := Lib.hid (hints0.keep hbl)
  have CI := Lib.hid hints0
  have C2 := Lib.hid C20
  have C1 := Lib.hid C10
  clear C10 hq hbt hrow hdis hfar hinv C20 hints0
  have e0 : (q.kind == 0) = false := by simpa using h0
  have e1 : (q.kind == 1) = false := by simpa using h1
  clear h1 h0
  obtain ⟨came, went, refused, most⟩ := t
  obtain ⟨A8, c8, hv8, hI8, hc8⟩ := ints_of_own HROW.out
  subst hv8
  have HI8 := Lib.hid hI8
  have hxr := HINV.out.1
  have hxl : xs.length ≤ 10000 := by omega
  have hww1 : 0 ≤ went := by have := HINV.out; simp only at this; omega
  have hww2 : went ≤ 6000 := by have := HINV.out; simp only at this; omega
  clear hI8
  obtain ⟨nn, hqn⟩ : ∃ nn : Nat, q.n = nn := ⟨q.n.toNat, by omega⟩
  have HQN := Lib.hid hqn
  rw [hqn] at x1 hin
  clear hqn hnn1 hnn2
  have hnl : nn < xs.length := by omega
  have hg8 := HI8.out
  rcases hg8 with hnil | ⟨b8, o8, hA8, hb8, hc8'⟩
  · rw [hnil] at hnl; simp at hnl
  clear hc8'
  subst hA8
  have hor : ¬ (nn : Int) < 0 ∧ ¬ (xs.length : Int) ≤ nn := by omega
  obtain ⟨hor1, hor2⟩ := hor
  have RM := Lib.hid (fun m => remove_gone (t := ⟨came, went, refused, most⟩) HQ.out hbl hb1.size HROW.out HDIS.out nn hnl (by omega) (by have := HINV.out; simp only at this ⊢; omega) m)
  have X1 := Lib.hid (show w.cell? ⟨b, off + k * 3 + 1, none⟩ = some (.int .i64 nn) from C1.out.trans (by rw [HQN.out]))
  clear hin
  go_upto_region 18 with (go_at_call 11; refine (RM.out 0).mono ?_; rintro e w3 ⟨vq3, rfl, hgn⟩; have HGN := Lib.hid hgn; have y1 := (hgn.below.cell (p := ⟨b, off + k * 3 + 1, none⟩) hbw).trans X1.out; have hs3 := hgn.off.size; have hbw3 : b < w3.heap.size := (Nat.lt_of_lt_of_le hbwr hs3); have z8 : w3.cell? ⟨b8, o8 + nn, none⟩ = some (.int .i64 (xs.getD nn 0)) := (by rcases hgn.ints with h | ⟨b9, o9, h9, _, hc9⟩; (rw [h] at hnl; simp at hnl); (cases Option.some.inj h9; exact hc9 nn hnl)); clear hgn)
  refine region18w (w := w) (wr := wr) (xs := xs) (nn := nn) HGN HBT HFAR (by have := hb1.size; omega) hlt hlen hnl (by omega) hc8.2 y1 hbw3 ?_
  intro v6 t92 t93 t94 t95 t96 t97 t98 t99 t100 t101 t102 t103 t104 t105 t106 t107 t108 t109 w6 hx6 hown6
  have NX := Lib.hid hx6
  have HO6 := Lib.hid hown6
  have d1 := NX.out.2.1.cell 1
  have f1 := NX.out.2.1.frozen 1
  have hl5 := NX.out.2.1.lt
  simp at d1
  clear hx6 hown6
  go_wp2
  exact hK _ _ _ _ _ _ _ _ _ _ _ _ _ _ _ _ _ _ _ _ _ _ _ _ _ _ _ _ _ _ _ _ _ _ _ _ _ _ _ _ _ _ _ _ _ _ _ _ _ _ _ _ _ _ _ _ _ _ _ _ _ _ _ _ _ _ _ _ _ _ _ _ _ _ _ _ _ _ _ _ _ _ _ _ _ _ _ _ _ _ _ _ _ _ _ _ _ _ _ _ _ _ _ _ _ _ _ _ _ _ _ _ _ _ _ _ _ _ _ _ _ _ _ _ _ _ _ _ _ _ _ _ _ _ _ _ _ _ _ _ _ _ _ _ _ _ _ _ _ _ _ _ _ _ _ _ _ _ _ _ _ _ _ _ _ _ _ _ _ _ _ _ _ _ _ _ _ _ _ _ _ _ _ _ _ _ _ _ _ _ _ _ _ _ _ _ _ _ _ _ _ _ _ _ _ _ _ _ _ _ _ _ _ _ _ _ _ _ _ _ _ _ _ _ (remove_next hbl hb1.size HQ.out NX.out HO6.out rfl rfl (by first | rfl | simp) hnl HINV.out)
set_option maxRecDepth 1000000 in
theorem remove_blockw {w w1 wr : World} {b off len cap k : Nat} {room : Int} {q : QAct} {t : Tal} {vq : Value} {xs : List Int} {u8 : Value} (C : Ctx w w1 wr b off len cap k room q t vq xs u8) (h0 : ¬ q.kind = 0) (h1 : ¬ q.kind = 1) (hin : ¬ (q.n < 0 ∨ (xs.length : Int) ≤ q.n))
    {s2 s3 s4 s5 s6 s11 s12 s13 s14 s15 s16 s17 s18 s19 s20 s21 s22 s23 s24 s25 s26 s27 s28 s29 s30 s31 s32 s33 s34 s35 s36 s37 s38 s39 s40 s41 s42 s43 s44 s45 s47 s48 s49 s50 s51 s52 s53 s54 s55 s56 s57 s58 s59 s60 s61 s62 s63 s64 s65 s66 s67 s68 s69 s70 s71 s72 s73 s74 s75 s76 s77 s78 s79 s80 s81 s82 s83 s84 s85 s86 s87 s88 s89 s90 s91 s92 s93 s94 s95 s96 s97 s98 s99 s100 s101 s102 s103 s104 s105 s106 s107 s108 s109 s110 s111 s112 s113 s114 s115 s116 s117 s118 s119 s120 s121 s122 s123 s124 s125 s126 s127 s128 s129 s130 s131 s132 s133 s134 s135 s136 s137 s138 s139 s140 s141 s142 s143 s144 s145 s146 s147 s148 s149 s150 s151 s152 s153 s154 s155 s156 s157 s158 s159 s160 s161 s162 s163 s164 s165 s166 s167 s168 s169 s170 s171 s172 s173 s174 s175 s176 s177 s178 s179 s180 s181 s182 s183 s184 s185 s186 s187 s188 s189 s190 s191 s192 s193 s194 s195 s196 s197 s198 s199 s200 s201 s202 s203 s204 s205 s206 s207 s208 s209 s210 s211 s212 s213 s214 s215 s216 s217 s218 s219 s220 s221 s222 s223 s224 s225 s226 s227 s228 s229 s230 s231 s232 s233 s234 s235 s236 s237 s238 s239 s240 s241 s242 s243 s244 s245 s246 s247 s248 s249 s250 s251 : Value} {K : Act → World → Prop} {Q0 : Exit → Act → World → Prop}
    (hK : NextP w w1 b off len cap k room q s2 s3 s4 s5 s17 s18 s19 s20 s21 s22 s23 s24 s25 s26 s27 s28 s29 s30 s31 s32 s33 s34 s35 K) :
    b2.wp Try.prog (Exit.then K Q0) ⟨#[.int .i64 room, .slice (some ⟨b, off, none⟩) len cap, s2, s3, s4, s5, s6, .pointer (some ⟨w1.heap.size, 0, none⟩), u8, .pointer (some ⟨w1.heap.size + 1, 0, none⟩), .int .i64 k, s11, s12, s13, s14, s15, s16, s17, s18, s19, s20, s21, s22, s23, s24, s25, s26, s27, s28, s29, s30, s31, s32, s33, s34, s35, s36, s37, s38, s39, s40, s41, s42, s43, s44, s45, .int .i64 q.kind, s47, s48, s49, s50, s51, s52, s53, s54, s55, s56, s57, s58, s59, s60, s61, s62, s63, s64, s65, s66, s67, s68, s69, s70, s71, s72, s73, s74, s75, s76, s77, s78, s79, s80, s81, s82, s83, s84, s85, s86, s87, s88, s89, s90, s91, s92, s93, s94, s95, s96, s97, s98, s99, s100, s101, s102, s103, s104, s105, s106, s107, s108, s109, s110, s111, s112, s113, s114, s115, s116, s117, s118, s119, s120, s121, s122, s123, s124, s125, s126, s127, s128, s129, s130, s131, s132, s133, s134, s135, s136, s137, s138, s139, s140, s141, s142, s143, s144, s145, s146, s147, s148, s149, s150, s151, s152, s153, s154, s155, s156, s157, s158, s159, s160, s161, s162, s163, s164, s165, s166, s167, s168, s169, s170, s171, s172, s173, s174, s175, s176, s177, s178, s179, s180, s181, s182, s183, s184, s185, s186, s187, s188, s189, s190, s191, s192, s193, s194, s195, s196, s197, s198, s199, s200, s201, s202, s203, s204, s205, s206, s207, s208, s209, s210, s211, s212, s213, s214, s215, s216, s217, s218, s219, s220, s221, s222, s223, s224, s225, s226, s227, s228, s229, s230, s231, s232, s233, s234, s235, s236, s237, s238, s239, s240, s241, s242, s243, s244, s245, s246, s247, s248, s249, s250, s251], []⟩ wr :=
  wp_mono (remove_block C h0 h1 hin hK) (fun e _ _ h => by cases e <;> first | exact h | exact h.elim)
end Go.Proofs.Ytmmgicomidpmhaa.QueuePlays
