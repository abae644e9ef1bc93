/- Contracts of package codec: the writer's values. -/
import Derived.Test.YtacangeamdcgdaaWrt
import Derived.Deep.CutBlock
namespace Go.Proofs.Ytacangeamdcgdaa
open Go.ChangeShapes Go.WideShapes Go.ChangeAt Go.RowKit
/-- What is laid of a value: itself, if it is right. -/
def eff (x : Val) : Val := if rightB x.k x.n x.s = true then x else ⟨1, 0, ⟨#[]⟩⟩
theorem eff_right (x : Val) : rightB (eff x).k (eff x).n (eff x).s = true := by
  unfold eff
  split
  · assumption
  · simp [rightB]
theorem valW_eff (x : Val) : valW x = valW (eff x) := by
  unfold eff
  split
  · rfl
  · rename_i h
    unfold valW
    rw [if_neg h]
    simp [rightB]
theorem valW_len (x : Val) (hf : FitV x) : (valW x).length ≤ 210 := by
  unfold valW
  split
  · rename_i h
    split
    · have := zig_lt x.n hf.n.1 hf.n.2
      have := num_len9 (zig x.n) (by omega)
      simp; omega
    · split
      · rename_i h1 h2
        rw [h2, rightB_2] at h
        have h3 : x.n = 0 ∧ x.s.size ≤ 200 := by simpa using h
        have := num_len9 x.s.size (by omega)
        simp; omega
      · simp
  · have := num_len9 (zig 0) (by decide)
    simp; omega
theorem valsW_take (vs : List Val) (k : Nat) (h : k < vs.length) : valsW (vs.take (k + 1)) = valsW (vs.take k) ++ valW (vs.getD k default) := by
  unfold valsW
  rw [List.take_succ_eq_append_getElem h, List.flatMap_append]
  simp [List.getD, h]
/-- A slice of one, made just now. -/
theorem new_ints (W : World) (N : Nat) (t : TypeId) (n : Int) (e : W.heap.size = N) : Ints (W.alloc (.cells #[.int .i64 n] t)) .i64 (some ⟨N, 0, none⟩) [n] := by
  subst e; exact Ints.one (Blk.new W t _)
theorem new_strs (W : World) (N : Nat) (t : TypeId) (s : ByteArray) (e : W.heap.size = N) : Strs (W.alloc (.cells #[.string s] t)) (some ⟨N, 0, none⟩) [s] := by
  subst e
  exact .inr ⟨W.heap.size, 0, rfl, by simp, fun i hi => by
    have : i = 0 := by simp at hi; omega
    subst this; rw [(Blk.new W t #[.string s]).cell]; rfl⟩
theorem new_vals (W : World) (N : Nat) (t : TypeId) (x : Val) (e : W.heap.size = N) : Vals (W.alloc (.cells #[.int .i64 x.k, .int .i64 x.n, .string x.s] t)) (some ⟨N, 0, none⟩) [x] := by
  subst e
  refine .inr ⟨W.heap.size, 0, rfl, by simp, fun i hi => ?_⟩
  have : i = 0 := by simp at hi; omega
  subst this
  refine ⟨?_, ?_, ?_⟩ <;> (rw [(Blk.new W t _).cell]; rfl)
theorem new_safe {W : World} {base g t N : Nat} {cs : Array Value} (hg : g < W.heap.size) (ht : t ≠ 5) (e : W.heap.size = N) : Safe (W.alloc (.cells cs t)) base g (some ⟨N, 0, none⟩) := by
  subst e; exact safe_new hg ht
set_option maxRecDepth 100000 in
set_option maxHeartbeats 8000000 in
theorem wvalue_any (g base : Nat) (l : List UInt8) (A : Option Addr) (n c : Nat) (vs : List Val) (w : World) (h : Wr w g base l) (hA : Vals w A vs) (hS : vs ≠ [] → Safe w base g A) (hn : vs.length = n) (hf : ∀ x ∈ vs, FitV x) (hb : base ≤ w.heap.size) (hl : l.length ≤ 100000000) (hs : n ≤ 1000000) :
    Calls Try.prog 97/-f-/ #[.pointer (some ⟨g, 0, none⟩), .slice A n c] w fun e w' => e = .returned (.pointer (some ⟨g, 0, none⟩)) ∧ Laid g base (l ++ valsW vs) w w' := by
  subst hn
  obtain ⟨i0, hi, hz0, hz1, hz2⟩ := info_parts info5
  have HL0 := Lib.hid (Laid.refl h)
  have HA := Lib.hid hA
  have HS := Lib.hid hS
  have HF := Lib.hid hf
  clear h hA hS hf
  go_enter Try.func97, Try.ntmps97
  go_wp2
  go_loopw [6, 11, 50, 57] (fun _ i _ _ wr => ∃ k : Nat, k ≤ vs.length ∧ i = .int .i64 k ∧ Laid g base (l ++ valsW (vs.take k)) w wr) (fun _ i _ _ _ => vs.length - (intOf i).toNat)
  case atStart => exact ⟨0, Nat.zero_le _, rfl, by simpa [valsW] using HL0.out⟩
  case round =>
    obtain ⟨k, hk, rfl, hlaid⟩ := hrel
    have hbs := hlaid.base hb
    have HLD := Lib.hid hlaid
    by_cases hlt : k < vs.length
    · rcases HA.out with h | ⟨b, off, rfl, hbw, hcell⟩
      · subst h; simp at hlt
      have hs1 := HS.out (by rintro rfl; simp at hlt)
      have x0 := (hlaid.cell hs1 (off + k * 3)).trans (hcell k hlt).1
      have x1 := (hlaid.cell hs1 (off + k * 3 + 1)).trans (hcell k hlt).2.1
      have x2 := (hlaid.cell hs1 (off + k * 3 + 2)).trans (hcell k hlt).2.2
      have hbw2 : b < wr.heap.size := Nat.lt_of_lt_of_le hbw hlaid.below.size
      have HT := Lib.hid (valsW_take vs k hlt)
      have hfx := HF.out (vs.getD k default) (getD_mem vs k hlt)
      have hll : (l ++ valsW (vs.take k)).length ≤ 310000000 := by
        rw [List.length_append]
        have := flat_len valW 210 (vs.take k) (fun x hx => valW_len x (HF.out x (List.mem_of_mem_take hx)))
        have h2 : (vs.take k).length ≤ k := List.length_take_le _ _
        unfold valsW; omega
      clear hcell hs1
      generalize vs.getD k default = x at *
      obtain ⟨L, hL⟩ : ∃ L, L = l ++ valsW (vs.take k) := ⟨_, rfl⟩
      rw [← hL] at HLD hll hlaid
      have HT2 := Lib.hid (show l ++ valsW (vs.take (k + 1)) = L ++ valW (eff x) from by rw [HT.out, hL, ← valW_eff]; simp)
      have hER := eff_right x
      have HFE := Lib.hid (show FitV (eff x) from by unfold eff; split; exact hfx; exact ⟨by decide, by decide, by decide⟩)
      obtain ⟨v0, hB0, _⟩ := hlaid.wr.2
      have hglt := hB0.lt
      clear hB0
      obtain ⟨H, hH⟩ : ∃ H, H = wr.heap.size := ⟨_, rfl⟩
      have HH := Lib.hid hH
      have hHg : g < H := by omega
      clear hL hlaid HT
      obtain ⟨y, hy⟩ : ∃ y, y = eff x := ⟨_, rfl⟩
      rw [← hy] at HT2 hER HFE
      have HY := Lib.hid hy
      obtain ⟨xk, xn, xs⟩ := x
      have HR := Lib.hid hER
      simp only at x0 x1 x2
      have hfs := hfx.s
      simp only at hfs
      have HVX := Lib.hid (new_vals (wr.alloc (.cells #[.int .i64 xk, .int .i64 xn, .string xs] 93)) (wr.heap.size + 1) 93 ⟨xk, xn, xs⟩ (by simp))
      have HFX := Lib.hid hfx
      clear hy hER hH hfx
      go_upto_if 18 with (go_at_call 45/-f-/; refine (rightall_any _ 1 1 [⟨xk, xn, xs⟩] _ HVX.out rfl (fun x hx => by simp at hx; subst hx; exact HFX.out) (by omega)).mono ?_; rintro e w1 ⟨rfl, hb1⟩)
      have hE1 : rall [⟨xk, xn, xs⟩] = rightB xk xn xs := by simp [rall]
      rw [hE1]
      obtain ⟨rb, hrb⟩ : ∃ rb, rb = rightB xk xn xs := ⟨_, rfl⟩
      rw [← hrb]
      have HRB := Lib.hid hrb
      clear hE1 hrb
      go_cut [6] (fun p wx => p = .pointer (some ⟨H, 0, none⟩) ∧ Blk wx H 93 #[.int .i64 y.k, .int .i64 y.n, .string y.s] ∧ Laid g base L w wx)
      case first =>
        have hB1 : Blk w1 wr.heap.size 93 #[.int .i64 xk, .int .i64 xn, .string xs] := ((Blk.new wr 93 _).alloc _).below hb1 (by simp only [World.size_alloc]; omega)
        have hbw1 : Below wr.heap.size wr w1 := (((Below.refl _ _).alloc (Nat.le_refl _) _).alloc (by simp) _).trans (hb1.mono (by simp; omega))
        cases rb
        rotate_left
        · have hr := HRB.out.symm
          have HY2 := Lib.hid (show y = ⟨xk, xn, xs⟩ from by rw [HY.out]; unfold eff; rw [if_pos hr])
          have HB1 := Lib.hid hB1
          have HW1 := Lib.hid hbw1
          clear hB1 hbw1 hb1 hr
          go_wp2
          go_meet
          exact ⟨by rw [HH.out], by rw [HH.out, HY2.out]; exact HB1.out, HLD.out.more (by assumption) HW1.out⟩
        · have hr : ¬ rightB xk xn xs = true := by rw [← HRB.out]; simp
          have HY2 := Lib.hid (show y = ⟨1, 0, ⟨#[]⟩⟩ from by rw [HY.out]; unfold eff; rw [if_neg hr])
          have c0 := hB1.cell 0
          have c1 := hB1.cell 1
          have c2 := hB1.cell 2
          have f0 := hB1.frozen 0
          have f1 := hB1.frozen 1
          have f2 := hB1.frozen 2
          have hlt1 := hB1.lt
          simp only [List.getElem?_toArray, List.getElem?_cons_zero, List.getElem?_cons_succ] at c0 c1 c2
          have HB1 := Lib.hid hB1
          have HW1 := Lib.hid hbw1
          clear hB1 hbw1 hb1 hr
          go_wp2
          go_meet
          refine ⟨by rw [HH.out], ?_, ?_⟩
          · rw [HH.out, HY2.out]
            have := (((HB1.out.put 0 (.int .i64 1)).put 1 (.int .i64 0)).put 2 (.string ⟨#[]⟩)).alloc (.cells #[.int .i64 1, .int .i64 0, .string ⟨#[]⟩] 93)
            simpa using this
          · exact HLD.out.more (by assumption) ((((HW1.out.setCell (p := ⟨wr.heap.size, 0, none⟩) (Nat.le_refl _) _).setCell (p := ⟨wr.heap.size, 1, none⟩) (Nat.le_refl _) _).setCell (p := ⟨wr.heap.size, 2, none⟩) (Nat.le_refl _) _).alloc (by simpa using HW1.out.size) _)
      case rest p =>
        obtain ⟨rfl, hBT, hLD⟩ := hcut
        have hbc := hLD.base hb
        obtain ⟨_, v1, hB1, hr1⟩ := hLD.wr
        have q0 := hB1.cell 0
        have r0 := hB1.frozen 0
        have s0 := hB1.lt
        have t0 := hBT.cell 0
        have t1 := hBT.cell 1
        have t2 := hBT.cell 2
        have tlt := hBT.lt
        simp only [List.getElem?_toArray, List.getElem?_cons_zero, List.getElem?_cons_succ] at q0 t0 t1 t2
        have HLC := Lib.hid hLD
        have HB1 := Lib.hid hB1
        have HR1 := Lib.hid hr1
        have HBT := Lib.hid hBT
        have HNE := Lib.hid (own_ne hr1 hB1 (by decide))
        have HNT := Lib.hid (own_ne hr1 hBT (by decide))
        clear hLD hB1 hr1 hBT x0 x1 x2 HVX HFX HY
        obtain ⟨yk, yn, ys⟩ := y
        simp only at t0 t1 t2 HBT HR HFE HT2
        by_cases h1 : yk = 1
        · subst h1
          have hys : ys = ⟨#[]⟩ := by have := HR.out; rw [rightB_1] at this; simpa using this
          subst hys
          have HVW := Lib.hid (show L ++ valW ⟨1, yn, ⟨#[]⟩⟩ = (L ++ [1]) ++ signedsW [yn] from by unfold valW; rw [if_pos HR.out, if_pos rfl]; simp [signedsW])
          have HNW := Lib.hid (show Src (wc.alloc (.cells #[.int .u8 1] 5)).drew (some ⟨wc.heap.size, 0, none⟩) 1 1 [.int .u8 1] from Src.one _ _ _ rfl)
          have HRW := Lib.hid (show (wc.alloc (.cells #[.int .u8 1] 5)).drew.ownsRow base 5 1 v1 L.length (cells8 L) from World.ownsRow.alloc HR1.out _)
          have HBW := Lib.hid (show Blk (wc.alloc (.cells #[.int .u8 1] 5)).drew g 109 #[v1] from HB1.out.alloc _)
          have HTW := Lib.hid (show Blk (wc.alloc (.cells #[.int .u8 1] 5)).drew H 93 _ from HBT.out.alloc _)
          go_upto_region 8 with fail
          go_region_law (refine step_append_src _ rfl _ _ 105 rfl base 5 i0 (.int .u8 0) 1 1 Try.underlying105 hi hz0 hz1 hz2 rfl (by decide) v1 L.length (cells8 L) (by simp [Act.eval, Act.put]) HRW.out (some ⟨wc.heap.size, 0, none⟩) 1 1 [.int .u8 1] (by simp [Act.eval, Act.put]) HNW.out (by unfold maxLen; omega) (by omega) (by simp; omega) ?_; intro v' w1 hown1 hgr1 hnew1; obtain ⟨A1, c1, rfl⟩ := own_slice hown1; have HO1 := Lib.hid hown1; have HG1 := Lib.hid hgr1; have B1 := Lib.hid (blk_grown HBW.out hgr1 HNE.out); have BT1 := Lib.hid (blk_grown HTW.out hgr1 HNT.out); have q1 := B1.out.cell 0; have r1 := B1.out.frozen 0; have s1 := B1.out.lt; have z0 := BT1.out.cell 0; have z1 := BT1.out.cell 1; have z2 := BT1.out.cell 2; have zlt := BT1.out.lt; have hsz1 := hgr1.size; simp at hsz1; simp only [List.getElem?_toArray, List.getElem?_cons_zero, List.getElem?_cons_succ] at q1 z0 z1 z2; clear hown1 hgr1 hnew1)
          all_goals
            have HL2 := Lib.hid (laid_put (x := 1) (X := 1) HLC.out hb HR1.out rfl HO1.out ⟨HG1.out.1, HG1.out.2, HG1.out.3, HG1.out.4, HG1.out.5⟩ B1.out rfl)
            have HL3 := Lib.hid (HL2.out.more (by simpa using (show base ≤ w1.heap.size by omega)) ((Below.refl _ _).alloc (Nat.le_refl _) (.cells #[.int .i64 yn] 2)))
            have HIN := Lib.hid (new_ints (w1.setCell ⟨g, 0, none⟩ (.slice A1 (L.length + 1) c1)) w1.heap.size 2 yn (by simp))
            have HSN := Lib.hid (new_safe (W := w1.setCell ⟨g, 0, none⟩ (.slice A1 (L.length + 1) c1)) (base := base) (g := g) (t := 2) (N := w1.heap.size) (cs := #[.int .i64 yn]) (by simpa using s1) (by decide) (by simp))
            have hfn := HFE.out.n
            simp only at hfn
            go_wp2_with (go_at_call 107/-f-/; refine (wsigned_any g base (L ++ [1]) _ 1 1 [yn] _ HL3.out.wr HIN.out (fun _ => HSN.out) rfl (fun x hx => by simp at hx; subst hx; exact hfn) (by simp; omega) (by simp; omega) (by omega)).mono ?_; rintro e w3 ⟨rfl, hl3⟩)
            go_roundw
            case rel => exact ⟨k + 1, by omega, by go_num, by rw [HT2.out, HVW.out]; exact HL3.out.trans hl3⟩
            case measure => simp [intOf]; omega
        by_cases h2 : yk = 2
        · subst h2
          have hys : yn = 0 ∧ ys.size ≤ 200 := by have := HR.out; rw [rightB_2] at this; simpa using this
          obtain ⟨rfl, hys⟩ := hys
          have HVW := Lib.hid (show L ++ valW ⟨2, 0, ys⟩ = (L ++ [2]) ++ textsW [ys] from by unfold valW; rw [if_pos HR.out, if_neg (show ¬ (2 : Int) = 1 by decide), if_pos rfl]; simp [textsW, textW])
          clear h1
          have HNW := Lib.hid (show Src (wc.alloc (.cells #[.int .u8 2] 5)).drew (some ⟨wc.heap.size, 0, none⟩) 1 1 [.int .u8 2] from Src.one _ _ _ rfl)
          have HRW := Lib.hid (show (wc.alloc (.cells #[.int .u8 2] 5)).drew.ownsRow base 5 1 v1 L.length (cells8 L) from World.ownsRow.alloc HR1.out _)
          have HBW := Lib.hid (show Blk (wc.alloc (.cells #[.int .u8 2] 5)).drew g 109 #[v1] from HB1.out.alloc _)
          have HTW := Lib.hid (show Blk (wc.alloc (.cells #[.int .u8 2] 5)).drew H 93 _ from HBT.out.alloc _)
          go_upto_region 8 with fail
          go_region_law (refine step_append_src _ rfl _ _ 105 rfl base 5 i0 (.int .u8 0) 1 1 Try.underlying105 hi hz0 hz1 hz2 rfl (by decide) v1 L.length (cells8 L) (by simp [Act.eval, Act.put]) HRW.out (some ⟨wc.heap.size, 0, none⟩) 1 1 [.int .u8 2] (by simp [Act.eval, Act.put]) HNW.out (by unfold maxLen; omega) (by omega) (by simp; omega) ?_; intro v' w1 hown1 hgr1 hnew1; obtain ⟨A1, c1, rfl⟩ := own_slice hown1; have HO1 := Lib.hid hown1; have HG1 := Lib.hid hgr1; have B1 := Lib.hid (blk_grown HBW.out hgr1 HNE.out); have BT1 := Lib.hid (blk_grown HTW.out hgr1 HNT.out); have q1 := B1.out.cell 0; have r1 := B1.out.frozen 0; have s1 := B1.out.lt; have z0 := BT1.out.cell 0; have z1 := BT1.out.cell 1; have z2 := BT1.out.cell 2; have zlt := BT1.out.lt; have hsz1 := hgr1.size; simp at hsz1; simp only [List.getElem?_toArray, List.getElem?_cons_zero, List.getElem?_cons_succ] at q1 z0 z1 z2; clear hown1 hgr1 hnew1)
          all_goals
            have HL2 := Lib.hid (laid_put (x := 2) (X := 2) HLC.out hb HR1.out rfl HO1.out ⟨HG1.out.1, HG1.out.2, HG1.out.3, HG1.out.4, HG1.out.5⟩ B1.out rfl)
            have HL3 := Lib.hid (HL2.out.more (by simpa using (show base ≤ w1.heap.size by omega)) ((Below.refl _ _).alloc (Nat.le_refl _) (.cells #[.string ys] 9)))
            have HIN := Lib.hid (new_strs (w1.setCell ⟨g, 0, none⟩ (.slice A1 (L.length + 1) c1)) w1.heap.size 9 ys (by simp))
            have HSN := Lib.hid (new_safe (W := w1.setCell ⟨g, 0, none⟩ (.slice A1 (L.length + 1) c1)) (base := base) (g := g) (t := 9) (N := w1.heap.size) (cs := #[.string ys]) (by simpa using s1) (by decide) (by simp))
            go_wp2_with (go_at_call 108/-f-/; refine (wtext_any g base (L ++ [2]) _ 1 1 [ys] _ HL3.out.wr HIN.out (fun _ => HSN.out) rfl (fun x hx => by simp at hx; subst hx; omega) (by simp; omega) (by simp; omega) (by omega)).mono ?_; rintro e w3 ⟨rfl, hl3⟩)
            go_roundw
            case rel => exact ⟨k + 1, by omega, by go_num, by rw [HT2.out, HVW.out]; exact HL3.out.trans hl3⟩
            case measure => simp [intOf]; omega
        · have hk3 : yk = 3 := by
            have := HR.out
            by_cases h3 : yk = 3
            · exact h3
            · rw [rightB_no yk yn ys h1 h2 h3] at this; cases this
          subst hk3
          have hys : (yn = 0 ∨ yn = 1) ∧ ys = ⟨#[]⟩ := by have := HR.out; rw [rightB_3] at this; simpa using this
          obtain ⟨hyn, rfl⟩ := hys
          clear h1 h2
          have HNW := Lib.hid (show Src (wc.alloc (.cells #[.int .u8 3] 5)).drew (some ⟨wc.heap.size, 0, none⟩) 1 1 [.int .u8 3] from Src.one _ _ _ rfl)
          have HRW := Lib.hid (show (wc.alloc (.cells #[.int .u8 3] 5)).drew.ownsRow base 5 1 v1 L.length (cells8 L) from World.ownsRow.alloc HR1.out _)
          have HBW := Lib.hid (show Blk (wc.alloc (.cells #[.int .u8 3] 5)).drew g 109 #[v1] from HB1.out.alloc _)
          have HTW := Lib.hid (show Blk (wc.alloc (.cells #[.int .u8 3] 5)).drew H 93 _ from HBT.out.alloc _)
          go_upto_region 8 with fail
          go_region_law (refine step_append_src _ rfl _ _ 105 rfl base 5 i0 (.int .u8 0) 1 1 Try.underlying105 hi hz0 hz1 hz2 rfl (by decide) v1 L.length (cells8 L) (by simp [Act.eval, Act.put]) HRW.out (some ⟨wc.heap.size, 0, none⟩) 1 1 [.int .u8 3] (by simp [Act.eval, Act.put]) HNW.out (by unfold maxLen; omega) (by omega) (by simp; omega) ?_; intro v' w1 hown1 hgr1 hnew1; obtain ⟨A1, c1, rfl⟩ := own_slice hown1; have HO1 := Lib.hid hown1; have HG1 := Lib.hid hgr1; have B1 := Lib.hid (blk_grown HBW.out hgr1 HNE.out); have BT1 := Lib.hid (blk_grown HTW.out hgr1 HNT.out); have q1 := B1.out.cell 0; have r1 := B1.out.frozen 0; have s1 := B1.out.lt; have z0 := BT1.out.cell 0; have z1 := BT1.out.cell 1; have z2 := BT1.out.cell 2; have zlt := BT1.out.lt; have hsz1 := hgr1.size; simp at hsz1; simp only [List.getElem?_toArray, List.getElem?_cons_zero, List.getElem?_cons_succ] at q1 z0 z1 z2; clear hown1 hgr1 hnew1)
          all_goals
            have HL2 := Lib.hid (laid_put (x := 3) (X := 3) HLC.out hb HR1.out rfl HO1.out ⟨HG1.out.1, HG1.out.2, HG1.out.3, HG1.out.4, HG1.out.5⟩ B1.out rfl)
            have HT9 := Lib.hid (BT1.out.far (p := ⟨g, 0, none⟩) (show H ≠ g by omega) (.slice A1 (L.length + 1) c1))
            clear q0 r0 s0 t0 t1 t2 q1 r1 s1 z0 z1 z2
            generalize w1.setCell ⟨g, 0, none⟩ (.slice A1 (L.length + 1) c1) = wq at *
            obtain ⟨L9, e9⟩ : ∃ L9, L9 = L ++ [(3 : UInt8)] := ⟨_, rfl⟩
            rw [← e9] at HL2
            have hL9 : L9.length ≤ 310000001 := by rw [e9]; simp; omega
            have E9 := Lib.hid e9
            clear e9
            have hbq := HL2.out.base hb
            obtain ⟨_, v9, hB9, hR9⟩ := HL2.out.wr
            have q0 := hB9.cell 0
            have r0 := hB9.frozen 0
            have s0 := hB9.lt
            have t0 := HT9.out.cell 0
            have t1 := HT9.out.cell 1
            have tlq := HT9.out.lt
            simp only [List.getElem?_toArray, List.getElem?_cons_zero, List.getElem?_cons_succ] at q0 t0 t1
            have HNE9 := Lib.hid (own_ne hR9 hB9 (by decide))
            have HNT9 := Lib.hid (own_ne hR9 HT9.out (by decide))
            have HB9 := Lib.hid hB9
            have HR9 := Lib.hid hR9
            clear hB9 hR9 HNW HRW HBW HTW HBT HB1 HR1
            rcases hyn with rfl | rfl
            · have HVW := Lib.hid (show L ++ valW ⟨3, 0, ⟨#[]⟩⟩ = L9 ++ [0] from by rw [E9.out]; unfold valW; rw [if_pos HR.out, if_neg (show ¬ (3 : Int) = 1 by decide), if_neg (show ¬ (3 : Int) = 2 by decide)]; simp)
              have HNW4 := Lib.hid (show Src (wq.alloc (.cells #[.int .u8 (IntKind.u8.wrap 0)] 5)).drew (some ⟨wq.heap.size, 0, none⟩) 1 1 [.int .u8 (IntKind.u8.wrap 0)] from Src.one _ _ _ rfl)
              have HRW4 := Lib.hid (show (wq.alloc (.cells #[.int .u8 (IntKind.u8.wrap 0)] 5)).drew.ownsRow base 5 1 v9 L9.length (cells8 L9) from World.ownsRow.alloc HR9.out _)
              have HBW4 := Lib.hid (show Blk (wq.alloc (.cells #[.int .u8 (IntKind.u8.wrap 0)] 5)).drew g 109 #[v9] from HB9.out.alloc _)
              have HTW4 := Lib.hid (show Blk (wq.alloc (.cells #[.int .u8 (IntKind.u8.wrap 0)] 5)).drew H 93 _ from HT9.out.alloc _)
              go_upto_region 10 with fail
              go_region_law (refine step_append_src _ rfl _ _ 105 rfl base 5 i0 (.int .u8 0) 1 1 Try.underlying105 hi hz0 hz1 hz2 rfl (by decide) v9 L9.length (cells8 L9) (by simp [Act.eval, Act.put]) HRW4.out (some ⟨wq.heap.size, 0, none⟩) 1 1 [.int .u8 (IntKind.u8.wrap 0)] (by simp [Act.eval, Act.put]) HNW4.out (by unfold maxLen; omega) (by omega) (by simp; omega) ?_; intro v' w4 hown4 hgr4 hnew4; obtain ⟨A4, c4, rfl⟩ := own_slice hown4; have HO4 := Lib.hid hown4; have HG4 := Lib.hid hgr4; have B4 := Lib.hid (blk_grown HBW4.out hgr4 HNE9.out); have BT4 := Lib.hid (blk_grown HTW4.out hgr4 HNT9.out); have q1 := B4.out.cell 0; have r1 := B4.out.frozen 0; have s1 := B4.out.lt; have z0 := BT4.out.cell 0; have z1 := BT4.out.cell 1; have z2 := BT4.out.cell 2; have zlt := BT4.out.lt; have hsz1 := hgr4.size; simp at hsz1; simp only [List.getElem?_toArray, List.getElem?_cons_zero, List.getElem?_cons_succ] at q1 z0 z1 z2; clear hown4 hgr4 hnew4)
              all_goals
                go_wp2
                go_roundw
                case rel => exact ⟨k + 1, by omega, by go_num, by rw [HT2.out, HVW.out]; exact laid_put (x := 0) (X := IntKind.u8.wrap 0) HL2.out hb HR9.out (by decide) HO4.out ⟨HG4.out.1, HG4.out.2, HG4.out.3, HG4.out.4, HG4.out.5⟩ B4.out rfl⟩
                case measure => simp [intOf]; omega
            · have HVW := Lib.hid (show L ++ valW ⟨3, 1, ⟨#[]⟩⟩ = L9 ++ [1] from by rw [E9.out]; unfold valW; rw [if_pos HR.out, if_neg (show ¬ (3 : Int) = 1 by decide), if_neg (show ¬ (3 : Int) = 2 by decide)]; simp)
              have HNW4 := Lib.hid (show Src (wq.alloc (.cells #[.int .u8 (IntKind.u8.wrap 1)] 5)).drew (some ⟨wq.heap.size, 0, none⟩) 1 1 [.int .u8 (IntKind.u8.wrap 1)] from Src.one _ _ _ rfl)
              have HRW4 := Lib.hid (show (wq.alloc (.cells #[.int .u8 (IntKind.u8.wrap 1)] 5)).drew.ownsRow base 5 1 v9 L9.length (cells8 L9) from World.ownsRow.alloc HR9.out _)
              have HBW4 := Lib.hid (show Blk (wq.alloc (.cells #[.int .u8 (IntKind.u8.wrap 1)] 5)).drew g 109 #[v9] from HB9.out.alloc _)
              have HTW4 := Lib.hid (show Blk (wq.alloc (.cells #[.int .u8 (IntKind.u8.wrap 1)] 5)).drew H 93 _ from HT9.out.alloc _)
              go_upto_region 10 with fail
              go_region_law (refine step_append_src _ rfl _ _ 105 rfl base 5 i0 (.int .u8 0) 1 1 Try.underlying105 hi hz0 hz1 hz2 rfl (by decide) v9 L9.length (cells8 L9) (by simp [Act.eval, Act.put]) HRW4.out (some ⟨wq.heap.size, 0, none⟩) 1 1 [.int .u8 (IntKind.u8.wrap 1)] (by simp [Act.eval, Act.put]) HNW4.out (by unfold maxLen; omega) (by omega) (by simp; omega) ?_; intro v' w4 hown4 hgr4 hnew4; obtain ⟨A4, c4, rfl⟩ := own_slice hown4; have HO4 := Lib.hid hown4; have HG4 := Lib.hid hgr4; have B4 := Lib.hid (blk_grown HBW4.out hgr4 HNE9.out); have BT4 := Lib.hid (blk_grown HTW4.out hgr4 HNT9.out); have q1 := B4.out.cell 0; have r1 := B4.out.frozen 0; have s1 := B4.out.lt; have z0 := BT4.out.cell 0; have z1 := BT4.out.cell 1; have z2 := BT4.out.cell 2; have zlt := BT4.out.lt; have hsz1 := hgr4.size; simp at hsz1; simp only [List.getElem?_toArray, List.getElem?_cons_zero, List.getElem?_cons_succ] at q1 z0 z1 z2; clear hown4 hgr4 hnew4)
              all_goals
                go_wp2
                go_roundw
                case rel => exact ⟨k + 1, by omega, by go_num, by rw [HT2.out, HVW.out]; exact laid_put (x := 1) (X := IntKind.u8.wrap 1) HL2.out hb HR9.out (by decide) HO4.out ⟨HG4.out.1, HG4.out.2, HG4.out.3, HG4.out.4, HG4.out.5⟩ B4.out rfl⟩
                case measure => simp [intOf]; omega
    · have hkl : k = vs.length := by omega
      subst hkl
      rw [List.take_length] at HLD
      go_wp2
      go_ret
      exact ⟨rfl, HLD.out⟩
end Go.Proofs.Ytacangeamdcgdaa
