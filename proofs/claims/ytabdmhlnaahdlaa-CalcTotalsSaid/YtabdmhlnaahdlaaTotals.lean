/- CalcTotals: whatever comes and goes: the sum, or that it is beyond, and how many there are, each time. No condition. -/
import Derived.Test.YtabdmhlnaahdlaaRows
import Derived.Test.YtabdmhlnaahdlaaTot
import Derived.OpenShut
import Derived.ChangeOld
import Derived.Deep.Slices
import Derived.Deep.RegionHeld3
import Derived.Deep.RegionWith
import Derived.Deep.DeepCutAuto
import Derived.Deep.QuietTactic
namespace Go.Proofs.Ytabdmhlnaahdlaa.CalcTotals
open Go.ChangeShapes Go.WideShapes Go.ChangeAt Go.RowKit Go.Deep
set_option linter.unusedVariables false
/-- What element i of the acts is. -/
def Elem (w : World) (a : Option Addr) (T : Nat → Bool) (A : Nat → Option Addr) (C : Nat → Nat) (X : Nat → List Int) (i : Nat) : Prop :=
  ∃ b off, a = some ⟨b, off, none⟩ ∧ b < w.heap.size ∧ w.cell? ⟨b, off + i * 2, none⟩ = some (.bool (T i)) ∧ w.cell? ⟨b, off + i * 2 + 1, none⟩ = some (.slice (A i) (X i).length (C i)) ∧ Ints w .i64 (A i) (X i) ∧ Fit64 (X i) ∧ (X i).length ≤ 9223372036854775807
theorem Num.le {w : World} {v : Value} {z : Int} {n m B : Nat} (h : Num w v z n B) (hm : n ≤ m) : Num w v z m B := by
  obtain ⟨A, c, D, h1, h2, h3, h4, h5, h6, h7, h8⟩ := h.is
  exact ⟨A, c, D, h1, h2, h3, h4, h5, h6, h7, by omega⟩
theorem add_none (b off i : Nat) : (⟨b, off, none⟩ : Addr).add i = ⟨b, off + i, none⟩ := by cases i <;> simp [Addr.add]
theorem cells51 : Try.prog.cellsOf 51 = 2 := by kernel_rfl
theorem cells4 : Try.prog.cellsOf 4 = 1 := by kernel_rfl
theorem cells22 : Try.prog.cellsOf 22 = 1 := by kernel_rfl
theorem acts_open {H : Type} {enc : TypeId × Value → H} {W : World} {fuel : Nat} {x : DataW H × List MemPlace} {a : Option Addr} {len cap : Nat}
    (h : DataW.trod enc Try.prog W 0 (fun _ => true) true fuel 43 [.slice a len cap] = some x) :
    len ≤ 9223372036854775807 ∧ ∃ T A C X, ∀ i, i < len → Elem W a T A C X i := by
  rcases open_slice Try.underlying43 h with ⟨h1, _⟩ | ⟨ad, l, c, m, n, D, Pl, h1, _, hl, hm, hmm, _, hel⟩
  · simp at h1
    obtain ⟨rfl, rfl, rfl⟩ := h1
    exact ⟨by omega, fun _ => false, fun _ => none, fun _ => 0, fun _ => [], fun i hi => by omega⟩
  · simp at h1
    obtain ⟨rfl, rfl, rfl⟩ := h1
    refine ⟨by unfold maxLen at hm; omega, ?_⟩
    by_cases hz0 : len = 0
    · exact ⟨fun _ => false, fun _ => none, fun _ => 0, fun _ => [], fun i hi => by omega⟩
    obtain ⟨b, off, spot⟩ := ad
    have hspot : spot = none := by
      obtain ⟨cs', hc, _⟩ := hel 0 (by simp at hmm; omega)
      rw [cells51] at hc
      obtain ⟨_, hlen, hcell⟩ := World.cells?_some hc
      have hc0 := hcell 0 (by omega)
      match cs', hlen, hc0 with
      | [u, v], _, hc0 => simpa [Addr.add] using World.cell?_spot hc0
    subst hspot
    have key : ∀ i, i < len → ∃ q : Bool × Option Addr × Nat × List Int, Elem W (some ⟨b, off, none⟩) (fun _ => q.1) (fun _ => q.2.1) (fun _ => q.2.2.1) (fun _ => q.2.2.2) i := by
      intro i hi
      obtain ⟨cs', hc, ht⟩ := hel i (by simp at hmm; omega)
      rw [cells51] at hc
      obtain ⟨_, hlen, hcell⟩ := World.cells?_some hc
      obtain ⟨y0, y1, k, _, _, g0, g1⟩ := trod_struct2 Try.underlying51 ht
      match cs', hlen, hcell, g0, g1 with
      | [u, v], _, hcell, g0, g1 =>
        have g0' : DataW.trod enc Try.prog W 0 (fun _ => true) true k 4 [u] = some y0 := by simpa [cells4] using g0
        have g1' : DataW.trod enc Try.prog W 0 (fun _ => true) true k 22 [v] = some y1 := by simpa [cells22] using g1
        obtain ⟨t, hu, _⟩ := DataW.trod_bool Try.underlying4 g0'
        have hc0 := hcell 0 (by omega)
        have hc1 := hcell 1 (by omega)
        simp only [List.cons.injEq, and_true] at hu
        subst hu
        have e0 : ((⟨b, off, none⟩ : Addr).add (i * 2)).add 0 = ⟨b, off + i * 2, none⟩ := by rw [add_none, add_none]; rfl
        have e1 : ((⟨b, off, none⟩ : Addr).add (i * 2)).add 1 = ⟨b, off + i * 2 + 1, none⟩ := by rw [add_none, add_none]
        rw [e0] at hc0
        have hb : b < W.heap.size := World.block_lt_of_cell? _ _ hc0
        rw [e1] at hc1
        rcases open_ints Try.underlying22 Try.underlying2 (by kernel_rfl) g1' with ⟨hv, _⟩ | ⟨ax, ll, cc, zs, hv, _, hl', hm', hz, _, hcl, hwz⟩
        · simp only [List.cons.injEq, and_true] at hv
          subst hv
          exact ⟨(t, none, 0, []), b, off, rfl, hb, hc0, hc1, .inl rfl, fun x hx => by simp at hx, by simp⟩
        · simp only [List.cons.injEq, and_true] at hv
          subst hv
          obtain ⟨i1, i2⟩ := ints_of_open hl' (by simpa using hz) hcl
          exact ⟨(t, some ax, cc, zs.take ll), b, off, rfl, hb, hc0, by rw [i2]; exact hc1, i1, fit_take (fun q hq => bounds_i64 (hwz q hq)) _, by rw [i2]; unfold maxLen at hm'; omega⟩
    obtain ⟨f, hf⟩ := choose_lt key
    exact ⟨fun i => (f i).1, fun i => (f i).2.1, fun i => (f i).2.2.1, fun i => (f i).2.2.2, fun i hi => hf i hi⟩
def bound (k : Nat) : Int := 184467440737095516160 * k
set_option maxRecDepth 100000 in
set_option maxHeartbeats 6000000 in
theorem walk (a : Option Addr) (len cap : Nat) (T : Nat → Bool) (A : Nat → Option Addr) (C : Nat → Nat) (X : Nat → List Int) (w : World) (hlen : len ≤ 9223372036854775807) (hE : ∀ i, i < len → Elem w a T A C X i) :
    Calls Try.prog 6 #[.slice a len cap] w fun e w' => e = .returned (.bool true) ∧ Below w.heap.size w w' := by
  by_cases hbig : 30 < len
  · go_enter Try.func6, Try.ntmps6
    go_wp2_with (go_at_call 8; refine (awake_any _).mono ?_; rintro e w1 ⟨rfl, hb1⟩)
    go_ret
    exact ⟨rfl, hb1⟩
  have HE := Lib.hid hE
  clear hE
  go_enter Try.func6, Try.ntmps6
  go_wp2
  go_loopw [6, 7] (fun cn i wr => ∃ (k : Nat) (z cnt : Int) (A' : Option Addr) (c' : Nat) (D : List Int), k ≤ len ∧ i = .int .i64 k ∧ cn = .int .i64 cnt ∧ Hid (-(20 * (k : Int)) ≤ cnt ∧ cnt ≤ 20 * k ∧ -(bound k) ≤ z ∧ z ≤ bound k) ∧ Below w.heap.size w wr ∧ Blk wr w.heap.size 49 (totCells z cnt) ∧ Blk wr (w.heap.size + 1) 32 #[.bool (decide (z < 0)), .slice A' D.length c'] ∧ Num wr (.agg #[.bool (decide (z < 0)), .slice A' D.length c']) z (21 * k + 40) (w.heap.size + 2)) (fun _ i _ => len - (intOf i).toNat)
  case atStart =>
    have z1 := Blk.new (w.alloc (.cells #[.int .i64 0, .int .u64 0, .int .i64 0] 49)) 32 #[.bool false, .slice none 0 0]
    rw [World.size_alloc] at z1
    exact ⟨0, 0, 0, none, 0, [], Nat.zero_le _, rfl, rfl, Lib.hid (by unfold bound; omega), ((Below.refl _ _).alloc (Nat.le_refl _) _).alloc (by simp) _, (Blk.new w 49 #[.int .i64 0, .int .u64 0, .int .i64 0]).alloc _, z1, ⟨none, 0, [], rfl, .inl rfl, fun a ha => by simp at ha, Nat.le_refl _, fun d hd => by simp at hd, .inl rfl, rfl, by simp⟩⟩
  case round =>
    obtain ⟨k, z, cnt, A', c', D, hk, rfl, rfl, hbd, hbl, hblk, hs1, hnum⟩ := hrel
    have s0 := hs1.cell 0
    have s1 := hs1.cell 1
    have slt := hs1.lt
    have tlt := hblk.lt
    by_cases hlt : k < len
    · obtain ⟨b, off, rfl, hb, ht, hL, hI, hf, hx⟩ := HE.out k hlt
      have ht' : wr.cell? ⟨b, off + k * 2, none⟩ = some (.bool (T k)) := (hbl.cell (p := ⟨b, off + k * 2, none⟩) hb).trans ht
      have hL' : wr.cell? ⟨b, off + k * 2 + 1, none⟩ = some (.slice (A k) (X k).length (C k)) := (hbl.cell (p := ⟨b, off + k * 2 + 1, none⟩) hb).trans hL
      have hb' : b < wr.heap.size := Nat.lt_of_lt_of_le hb hbl.size
      have HBLK := Lib.hid hblk
      have HNUM := Lib.hid hnum
      have HS1 := Lib.hid hs1
      have HTT := Lib.hid ht
      have HLL := Lib.hid hL
      clear hblk hnum hs1 ht hL
      have hc1 : -600 ≤ cnt := by have := hbd.out; omega
      have hc2 : cnt ≤ 600 := by have := hbd.out; omega
      generalize hsb : decide (z < 0) = sb at *
      have HSB := Lib.hid hsb
      clear hsb
      simp at s0 s1
      generalize T k = tk at *
      generalize A k = Ak at *
      generalize C k = Ck at *
      generalize X k = xs at *
      by_cases hbig2 : 20 < xs.length
      · go_wp2_with (go_at_call 8; refine (awake_any _).mono ?_; rintro e w1 ⟨rfl, hb1⟩)
        go_ret
        exact ⟨rfl, hbl.trans (hb1.mono hbl.size)⟩
      cases tk
      · have PU0 := (put_any w.heap.size Ak xs.length Ck xs z cnt w wr HBLK.out hI hbl (Nat.le_refl _) rfl (by omega) hf (by have := hbd.out; unfold bound at this; unfold big; omega) (by have := hbd.out; omega))
        rw [show z + xs.sum = z + sgn false xs.sum from rfl] at PU0
        have PU := Lib.hid PU0
        clear PU0
        go_upto_region 19 with (first | (go_at_call_of 26 (Value.pointer (some ⟨w.heap.size, 0, none⟩)); refine PU.out.mono ?_; rintro e w1 ⟨rfl, hblk1', hbut⟩; have hblk1 := hblk1'; clear hblk1'; have hbl1 := hbl.trans ((hbut.below (Nat.le_refl _) hbl.size)); have ht1 := (hbl1.cell (p := ⟨b, off + k * 2, none⟩) hb).trans HTT.out; have hL1 := (hbl1.cell (p := ⟨b, off + k * 2 + 1, none⟩) hb).trans HLL.out; have hs11 := HS1.out.but hbut (by omega); have s10 := hs11.cell 0; have s11 := hs11.cell 1; have HS11 := Lib.hid hs11; have HB1 := Lib.hid hblk1; have t1lt := hblk1.lt; have s1lt := hs11.lt; clear hs11 hblk1; simp at s10 s11) | (go_at_call_of 26 (Value.pointer none); refine (put_nil _ _ _ _).mono ?_; rintro e w2 ⟨rfl, rfl⟩))
        have HI1 := Lib.hid (hI.keep hbl1)
        have HN1 := Lib.hid (show Num w1 (.agg #[.bool sb, .slice A' D.length c']) z (21 * k + 40) (w.heap.size + 2) from by
          obtain ⟨A9, c9, D9, e9, i9, f9, r9⟩ := HNUM.out.is
          refine ⟨A9, c9, D9, e9, ?_, f9, r9⟩
          rcases i9 with h | ⟨b9, off9, h1, h2, h3⟩
          · exact .inl h
          · have hne := f9 _ h1
            refine .inr ⟨b9, off9, h1, Nat.lt_of_lt_of_le h2 hbut.size, fun i hi => ?_⟩
            rw [← h3 i hi]; unfold World.cell?; rw [hbut.block b9 h2 (by have : w.heap.size + 2 ≤ b9 := hne; omega)])
        go_cut [6] (fun cn wx => cn = .int .i64 (cnt + xs.length) ∧ ∃ (A3 : Option Addr) (c3 : Nat) (D3 : List Int) (sb3 : Bool), Hid (decide (z + sgn false xs.sum < 0) = sb3) ∧ Below w.heap.size w wx ∧ Blk wx w.heap.size 49 (totCells (z + sgn false xs.sum) (cnt + xs.length)) ∧ Blk wx (w.heap.size + 1) 32 #[.bool sb3, .slice A3 D3.length c3] ∧ Num wx (.agg #[.bool sb3, .slice A3 D3.length c3]) (z + sgn false xs.sum) (21 * k + 61) (w.heap.size + 2))
        case first =>
          go_region_with (first | (go_at_call 14; refine (refsum_any Ak xs.length Ck false xs _ (show Ints w1.drew _ _ _ from HI1.out) rfl hf (by omega)).mono ?_; rintro e w2 ⟨v, he, hnum, hb2⟩; obtain ⟨A2, c2, D2, hv, hI2, hfr2, hrest2⟩ := hnum.is; generalize hsb2 : decide (sgn false xs.sum < 0) = sb2 at hv; have HSB2 := Lib.hid hsb2; clear hsb2; subst hv; subst he; have HR2 := Lib.hid hrest2; have HI2 := Lib.hid hI2; clear hrest2 hI2 hnum; have yg := (show Blk w1.drew _ _ _ from HS11.out).below hb2 s1lt; have p0 := yg.cell 0; have p1 := yg.cell 1; have yglt := yg.lt; simp at p0 p1) | (go_at_call 16; refine (plus_num (.agg #[.bool sb, .slice A' D.length c']) (.agg #[.bool sb2, .slice A2 D2.length c2]) z (sgn false xs.sum) (21 * k + 40) (xs.length + 20) (w.heap.size + 2) w1.heap.size _ ((HN1.out.keep (Below.refl _ _).drew).keep hb2) ⟨A2, c2, D2, by rw [HSB2.out], HI2.out, hfr2, HR2.out⟩ (by omega) (by omega)).mono ?_; rintro e w3 ⟨v, he, hnum, hb3⟩; obtain ⟨A3, c3, D3, hv, hI3, hfr3, hrest3⟩ := hnum.is; generalize hsb3 : decide (z + sgn false xs.sum < 0) = sb3 at hv; have HSB3 := Lib.hid hsb3; clear hsb3; subst hv; subst he; have HR3 := Lib.hid hrest3; have HI3 := Lib.hid hI3; clear hrest3 hI3 hnum; have xg := yg.below hb3 yglt; have q0 := xg.cell 0; have q1 := xg.cell 1; have qf0 := xg.frozen 0; have qf1 := xg.frozen 1; have xglt := xg.lt; simp at q0 q1))
          all_goals
            go_wp2_with fail
            go_meet
            have hsz1 := hbl1.size
            have hsz2 : w1.heap.size ≤ w2.heap.size := hb2.size
            have hbw2 : Below w.heap.size w w2 := hbl1.drew.trans (hb2.mono hbl1.drew.size)
            have hbw3 := hbw2.trans (hb3.mono hbw2.size)
            have xt := ((show Blk w1.drew _ _ _ from HB1.out).below hb2 t1lt).below hb3 (by omega)
            refine ⟨rfl, A3, c3, D3, sb3, HSB3, (hbw3.setCell (by simp) _).setCell (by simp) _, (xt.far (by simp) _).far (by simp) _, (xg.put 0 _).put 1 _, ⟨A3, c3, D3, by rw [HSB3.out], (HI3.out.store (fun a ha => ?_) _).store (fun a ha => ?_) _, hfr3.mono (by omega), HR3.out.1, HR3.out.2.1, HR3.out.2.2.1, HR3.out.2.2.2.1, by have := HR3.out.2.2.2.2; omega⟩⟩
            all_goals (have h5 := hfr3 a ha; show a.block ≠ w.heap.size + 1; omega)
        case rest =>
          obtain ⟨rfl, A3, c3, D3, sb3, HSB3, hbx, htx, hsx, hnx⟩ := hcut
          have hSM := sum_bd hf
          have HNX := Lib.hid hnx
          have HSX := Lib.hid hsx
          have HTX := Lib.hid htx
          have sxlt := hsx.lt
          have txlt := htx.lt
          have hU : -85070591730234615865843651857942052864 ≤ z + sgn false xs.sum ∧ z + sgn false xs.sum ≤ 85070591730234615865843651857942052864 := by
            have := hbd.out; unfold bound at this; simp only [sgn, if_true, Bool.false_eq_true, if_false]; omega
          have hNB := Lib.hid (show -(20 * ((k + 1 : Nat) : Int)) ≤ cnt + xs.length ∧ cnt + xs.length ≤ 20 * ((k + 1 : Nat) : Int) ∧ -(bound (k + 1)) ≤ z + sgn false xs.sum ∧ z + sgn false xs.sum ≤ bound (k + 1) from by
            have := hbd.out; unfold bound at this ⊢; simp only [sgn, if_true, Bool.false_eq_true, if_false]; omega)
          have TS := Lib.hid (fun W hW => totsum_any w.heap.size (z + sgn false xs.sum) (cnt + xs.length) W hW hU)
          clear hU hSM hnx hsx htx s0 s1
          go_wp2_with (first | (go_at_call 27; refine (TS.out _ HTX.out).mono ?_; rintro e w4 ⟨rfl, hb4⟩; have hs4 := HSX.out.below hb4 sxlt; have z0 := hs4.cell 0; have z1 := hs4.cell 1; have HS4 := Lib.hid hs4; have z4lt := hs4.lt; clear hs4; simp at z0 z1) | (go_at_call 13; refine (told_true (.agg #[.bool sb3, .slice A3 D3.length c3]) (z + sgn false xs.sum) (21 * k + 61) (w.heap.size + 2) _ (HNX.out.keep hb4) (by omega) _ _ rfl rfl).mono ?_; rintro e w5 ⟨rfl, hb5⟩) | (go_at_call 28; refine (totcount_any w.heap.size (z + sgn false xs.sum) (cnt + xs.length) _ ((HTX.out.below hb4 txlt).below hb5 (by have := hb4.size; omega))).mono ?_; rintro e w6 ⟨rfl, rfl⟩))
          go_roundw
          case rel =>
            have hb45 := hb4.trans (hb5.mono hb4.size)
            exact ⟨k + 1, z + sgn false xs.sum, cnt + xs.length, A3, c3, D3, by omega, by go_num, by go_num, hNB, hbx.trans (hb45.mono hbx.size), HTX.out.below hb45 txlt, by rw [HSB3.out]; exact HSX.out.below hb45 sxlt, by rw [HSB3.out]; exact Num.le (HNX.out.keep hb45) (by omega)⟩
          case measure => simp [intOf]; omega
      · have PU0 := (take_any w.heap.size Ak xs.length Ck xs z cnt w wr HBLK.out hI hbl (Nat.le_refl _) rfl (by omega) hf (by have := hbd.out; unfold bound at this; unfold big; omega) (by have := hbd.out; omega))
        rw [show z - xs.sum = z + sgn true xs.sum from by unfold sgn; rw [if_pos rfl]; omega] at PU0
        have PU := Lib.hid PU0
        clear PU0
        go_upto_region 19 with (first | (go_at_call_of 25 (Value.pointer (some ⟨w.heap.size, 0, none⟩)); refine PU.out.mono ?_; rintro e w1 ⟨rfl, hblk1', hbut⟩; have hblk1 := hblk1'; clear hblk1'; have hbl1 := hbl.trans ((hbut.below (Nat.le_refl _) hbl.size)); have ht1 := (hbl1.cell (p := ⟨b, off + k * 2, none⟩) hb).trans HTT.out; have hL1 := (hbl1.cell (p := ⟨b, off + k * 2 + 1, none⟩) hb).trans HLL.out; have hs11 := HS1.out.but hbut (by omega); have s10 := hs11.cell 0; have s11 := hs11.cell 1; have HS11 := Lib.hid hs11; have HB1 := Lib.hid hblk1; have t1lt := hblk1.lt; have s1lt := hs11.lt; clear hs11 hblk1; simp at s10 s11) | (go_at_call_of 25 (Value.pointer none); refine (take_nil _ _ _ _).mono ?_; rintro e w2 ⟨rfl, rfl⟩))
        have HI1 := Lib.hid (hI.keep hbl1)
        have HN1 := Lib.hid (show Num w1 (.agg #[.bool sb, .slice A' D.length c']) z (21 * k + 40) (w.heap.size + 2) from by
          obtain ⟨A9, c9, D9, e9, i9, f9, r9⟩ := HNUM.out.is
          refine ⟨A9, c9, D9, e9, ?_, f9, r9⟩
          rcases i9 with h | ⟨b9, off9, h1, h2, h3⟩
          · exact .inl h
          · have hne := f9 _ h1
            refine .inr ⟨b9, off9, h1, Nat.lt_of_lt_of_le h2 hbut.size, fun i hi => ?_⟩
            rw [← h3 i hi]; unfold World.cell?; rw [hbut.block b9 h2 (by have : w.heap.size + 2 ≤ b9 := hne; omega)])
        go_cut [6] (fun cn wx => cn = .int .i64 (cnt - xs.length) ∧ ∃ (A3 : Option Addr) (c3 : Nat) (D3 : List Int) (sb3 : Bool), Hid (decide (z + sgn true xs.sum < 0) = sb3) ∧ Below w.heap.size w wx ∧ Blk wx w.heap.size 49 (totCells (z + sgn true xs.sum) (cnt - xs.length)) ∧ Blk wx (w.heap.size + 1) 32 #[.bool sb3, .slice A3 D3.length c3] ∧ Num wx (.agg #[.bool sb3, .slice A3 D3.length c3]) (z + sgn true xs.sum) (21 * k + 61) (w.heap.size + 2))
        case first =>
          go_region_with (first | (go_at_call 14; refine (refsum_any Ak xs.length Ck true xs _ (show Ints w1.drew _ _ _ from HI1.out) rfl hf (by omega)).mono ?_; rintro e w2 ⟨v, he, hnum, hb2⟩; obtain ⟨A2, c2, D2, hv, hI2, hfr2, hrest2⟩ := hnum.is; generalize hsb2 : decide (sgn true xs.sum < 0) = sb2 at hv; have HSB2 := Lib.hid hsb2; clear hsb2; subst hv; subst he; have HR2 := Lib.hid hrest2; have HI2 := Lib.hid hI2; clear hrest2 hI2 hnum; have yg := (show Blk w1.drew _ _ _ from HS11.out).below hb2 s1lt; have p0 := yg.cell 0; have p1 := yg.cell 1; have yglt := yg.lt; simp at p0 p1) | (go_at_call 16; refine (plus_num (.agg #[.bool sb, .slice A' D.length c']) (.agg #[.bool sb2, .slice A2 D2.length c2]) z (sgn true xs.sum) (21 * k + 40) (xs.length + 20) (w.heap.size + 2) w1.heap.size _ ((HN1.out.keep (Below.refl _ _).drew).keep hb2) ⟨A2, c2, D2, by rw [HSB2.out], HI2.out, hfr2, HR2.out⟩ (by omega) (by omega)).mono ?_; rintro e w3 ⟨v, he, hnum, hb3⟩; obtain ⟨A3, c3, D3, hv, hI3, hfr3, hrest3⟩ := hnum.is; generalize hsb3 : decide (z + sgn true xs.sum < 0) = sb3 at hv; have HSB3 := Lib.hid hsb3; clear hsb3; subst hv; subst he; have HR3 := Lib.hid hrest3; have HI3 := Lib.hid hI3; clear hrest3 hI3 hnum; have xg := yg.below hb3 yglt; have q0 := xg.cell 0; have q1 := xg.cell 1; have qf0 := xg.frozen 0; have qf1 := xg.frozen 1; have xglt := xg.lt; simp at q0 q1))
          all_goals
            go_wp2_with fail
            go_meet
            have hsz1 := hbl1.size
            have hsz2 : w1.heap.size ≤ w2.heap.size := hb2.size
            have hbw2 : Below w.heap.size w w2 := hbl1.drew.trans (hb2.mono hbl1.drew.size)
            have hbw3 := hbw2.trans (hb3.mono hbw2.size)
            have xt := ((show Blk w1.drew _ _ _ from HB1.out).below hb2 t1lt).below hb3 (by omega)
            refine ⟨rfl, A3, c3, D3, sb3, HSB3, (hbw3.setCell (by simp) _).setCell (by simp) _, (xt.far (by simp) _).far (by simp) _, (xg.put 0 _).put 1 _, ⟨A3, c3, D3, by rw [HSB3.out], (HI3.out.store (fun a ha => ?_) _).store (fun a ha => ?_) _, hfr3.mono (by omega), HR3.out.1, HR3.out.2.1, HR3.out.2.2.1, HR3.out.2.2.2.1, by have := HR3.out.2.2.2.2; omega⟩⟩
            all_goals (have h5 := hfr3 a ha; show a.block ≠ w.heap.size + 1; omega)
        case rest =>
          obtain ⟨rfl, A3, c3, D3, sb3, HSB3, hbx, htx, hsx, hnx⟩ := hcut
          have hSM := sum_bd hf
          have HNX := Lib.hid hnx
          have HSX := Lib.hid hsx
          have HTX := Lib.hid htx
          have sxlt := hsx.lt
          have txlt := htx.lt
          have hU : -85070591730234615865843651857942052864 ≤ z + sgn true xs.sum ∧ z + sgn true xs.sum ≤ 85070591730234615865843651857942052864 := by
            have := hbd.out; unfold bound at this; simp only [sgn, if_true, Bool.false_eq_true, if_false]; omega
          have hNB := Lib.hid (show -(20 * ((k + 1 : Nat) : Int)) ≤ cnt - xs.length ∧ cnt - xs.length ≤ 20 * ((k + 1 : Nat) : Int) ∧ -(bound (k + 1)) ≤ z + sgn true xs.sum ∧ z + sgn true xs.sum ≤ bound (k + 1) from by
            have := hbd.out; unfold bound at this ⊢; simp only [sgn, if_true, Bool.false_eq_true, if_false]; omega)
          have TS := Lib.hid (fun W hW => totsum_any w.heap.size (z + sgn true xs.sum) (cnt - xs.length) W hW hU)
          clear hU hSM hnx hsx htx s0 s1
          go_wp2_with (first | (go_at_call 27; refine (TS.out _ HTX.out).mono ?_; rintro e w4 ⟨rfl, hb4⟩; have hs4 := HSX.out.below hb4 sxlt; have z0 := hs4.cell 0; have z1 := hs4.cell 1; have HS4 := Lib.hid hs4; have z4lt := hs4.lt; clear hs4; simp at z0 z1) | (go_at_call 13; refine (told_true (.agg #[.bool sb3, .slice A3 D3.length c3]) (z + sgn true xs.sum) (21 * k + 61) (w.heap.size + 2) _ (HNX.out.keep hb4) (by omega) _ _ rfl rfl).mono ?_; rintro e w5 ⟨rfl, hb5⟩) | (go_at_call 28; refine (totcount_any w.heap.size (z + sgn true xs.sum) (cnt - xs.length) _ ((HTX.out.below hb4 txlt).below hb5 (by have := hb4.size; omega))).mono ?_; rintro e w6 ⟨rfl, rfl⟩))
          go_roundw
          case rel =>
            have hb45 := hb4.trans (hb5.mono hb4.size)
            exact ⟨k + 1, z + sgn true xs.sum, cnt - xs.length, A3, c3, D3, by omega, by go_num, by go_num, hNB, hbx.trans (hb45.mono hbx.size), HTX.out.below hb45 txlt, by rw [HSB3.out]; exact HSX.out.below hb45 sxlt, by rw [HSB3.out]; exact Num.le (HNX.out.keep hb45) (by omega)⟩
          case measure => simp [intOf]; omega
    · have hkl : k = len := by omega
      subst hkl
      clear hs1 hnum hblk
      go_wp2_with (first | (go_at_call 27; refine (totsum_nil _).mono ?_; rintro e w4 ⟨rfl, rfl⟩) | (go_at_call 28; refine (totcount_nil _).mono ?_; rintro e w5 ⟨rfl, rfl⟩) | (go_at_call 8; refine (awake_any _).mono ?_; rintro e w6 ⟨rfl, hb6⟩))
      go_ret
      exact ⟨rfl, hbl.trans (hb6.mono hbl.size)⟩
theorem own : ownKnob Try.prog.godebug = none := by kernel_rfl
theorem laidOut : laidOutB Try.prog = true := by kernel_rfl
set_option maxRecDepth 100000 in
theorem lifted (os : Os) (started : os.Started) (H : Type) (enc : TypeId × Value → H) :
    ReturnsInHanded {} Try.checked os 6 .any (Rows.calcTotalsSpec.pre6 enc Try.prog Try.f6 Rows.calcTotalsRow.domain false) (Rows.calcTotalsSpec.post enc Try.prog Try.f6 false true false false) := by
  refine returnsInHanded_of_change (C := Try.checked) own started (by kernel_rfl) Try.func6
    (ChangeSpec.witness6 (enc := enc) (C := Try.checked) false ⟨#[], #[.slice none 0 0], []⟩ 8 (by kernel_rfl) (by kernel_rfl) (by kernel_rfl) (by kernel_rfl)) ?_
  intro W base args ds gs before hval0 hW hcnd _
  have hval : ∀ (j : Nat) t v, Try.f6.params[j]? = some t → args[j]? = some v → Value.okWide Try.prog W .any base t v := hval0
  have hW' := hW
  obtain ⟨p, q, hA0, hV, rfl, hfz, hnd⟩ := hW
  have hA : DataW.TrodAll enc Try.prog W 0 (fun _ => true) true Try.f6.params.toList args.toList ds p := hA0
  rw [Try.params6] at hA hval
  obtain ⟨v1, vs1, d1, ds1, p1, q1, hargs, rfl, rfl, h1, r1⟩ := trodAll_cons hA
  obtain ⟨rfl, rfl, rfl⟩ := trodAll_nil r1
  obtain rfl : args = #[v1] := by cases args; simp_all
  obtain ⟨rfl, rfl⟩ := trodVars_none hV
  obtain ⟨a1, len1, cap1, rfl⟩ := okWide_slice Try.underlying43 (hval 0 43 v1 rfl rfl)
  have k1 := h1
  have lt1 : ∀ x ∈ p1, x.block < W.heap.size := by obtain ⟨m, hm⟩ := k1; exact DataW.trod_lt m _ _ _ hm
  obtain ⟨hm1, T, A, C, X, hE⟩ : len1 ≤ 9223372036854775807 ∧ ∃ T A C X, ∀ i, i < len1 → Elem W a1 T A C X i := by
    obtain ⟨fuel, hf⟩ := h1
    exact acts_open (by simpa [Value.cells] using hf)
  clear hA0 hval0
  refine (walk a1 len1 cap1 T A C X W hm1 hE).mono fun e W' ⟨he, bel⟩ => ?_
  subst he
  exact ⟨_, rfl, _, _, _, [], _, [], hW', trodAll_mk1 (shut_bool Try.underlying4 _), (trodAll_cons_mk (Below.trod laidOut (by kernel_rfl) (of_decide_eq_true (by kernel_rfl)) k1 bel lt1) trodAll_mk0), rfl, bel.frame _, fun h => by cases h⟩

theorem over : Rows.calcTotalsRow.holds Try.pinned (OpenSpec.ofChange Rows.calcTotalsSpec) :=
  OpenClaim.holds_of_wide 6 Try.f6 rfl rfl rfl rfl rfl rfl rfl ⟨rfl, rfl, rfl, rfl, rfl⟩ rfl rfl rfl rfl rfl (by kernel_rfl) Try.func6 (by kernel_rfl)
    (of_decide_eq_true (by kernel_rfl)) (by unfold Func.isWrapper; first | (rw [if_pos (by decide +kernel)]; kernel_rfl) | (rw [if_neg (by decide +kernel)]; exact ⟨rfl, rfl⟩))
    (fun os started H enc _ => lifted os started H enc)

theorem proved : Rows.CalcTotalsSaid := over
end Go.Proofs.Ytabdmhlnaahdlaa.CalcTotals
