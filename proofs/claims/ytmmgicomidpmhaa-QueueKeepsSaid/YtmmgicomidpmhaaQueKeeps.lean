/- QueueKeeps: whatever is put, taken and removed: what came is what went and what waits; never more than there is room for waits; what is taken may be changed. No condition. -/
import Derived.Test.YtmmgicomidpmhaaRows
import Derived.Test.YtmmgicomidpmhaaQueD
import Derived.Test.YtmmgicomidpmhaaOpen
import Derived.Deep.RegionHeld3
import Derived.Deep.CutBlock
namespace Go.Proofs.Ytmmgicomidpmhaa.QueueKeeps
open Go.ChangeShapes Go.WideShapes Go.ChangeAt Go.RowKit Go.Deep
set_option linter.unusedVariables false
/-- An act. -/
structure QAct where
  kind : Int
  n : Int
  A : Option Addr
  c : Nat
  xs : List Int
instance : Inhabited QAct := ⟨⟨0, 0, none, 0, []⟩⟩
/-- Act i of the acts. -/
structure Elem (W : World) (a : Option Addr) (i : Nat) (q : QAct) : Prop where
  cells : At W a 3 i [.int .i64 q.kind, .int .i64 q.n, .slice q.A q.xs.length q.c]
  ints : Ints W .i64 q.A q.xs
  cap : q.xs.length ≤ q.c ∧ q.c ≤ 9223372036854775807
  kind : -9223372036854775808 ≤ q.kind ∧ q.kind ≤ 9223372036854775807
  n : -9223372036854775808 ≤ q.n ∧ q.n ≤ 9223372036854775807
  fit : Fit64 q.xs
theorem acts_open {H : Type} {enc : TypeId × Value → H} {W : World} {fuel : Nat} {x : DataW H × List MemPlace} {a : Option Addr} {len cap : Nat}
    (h : DataW.trod enc Try.prog W 0 (fun _ => true) true fuel 22 [.slice a len cap] = some x) :
    len ≤ 9223372036854775807 ∧ ∃ f : Nat → QAct, ∀ i, i < len → Elem W a i (f i) := by
  obtain ⟨h1, h2, h3, h4⟩ := open_elems (k := 3) Try.underlying22 (by kernel_rfl) (by omega) h
  refine ⟨by omega, ?_⟩
  refine choose_lt fun i hi => ?_
  obtain ⟨cs, n, y, hl, hat, ht⟩ := h4 i hi
  obtain ⟨y0, y1, y2, k, _, _, g0, g1, g2⟩ := trod_struct3 Try.underlying30 ht
  match cs, hl, hat, g0, g1, g2 with
  | [u, v, z], _, hat, g0, g1, g2 =>
    have c3 : Try.prog.cellsOf 3 = 1 := by kernel_rfl
    have c26 : Try.prog.cellsOf 26 = 1 := by kernel_rfl
    have g0' : DataW.trod enc Try.prog W 0 (fun _ => true) true k 3 [u] = some y0 := by simpa [c3] using g0
    have g1' : DataW.trod enc Try.prog W 0 (fun _ => true) true k 3 [v] = some y1 := by simpa [c3] using g1
    have g2' : DataW.trod enc Try.prog W 0 (fun _ => true) true k 26 [z] = some y2 := by simpa [c26] using g2
    obtain ⟨a0, e0, _, w0⟩ := DataW.trod_int Try.underlying3 g0'
    obtain ⟨a1, e1, _, w1⟩ := DataW.trod_int Try.underlying3 g1'
    obtain ⟨A, c, xs, rfl, hI, hc1, hc2, hw⟩ := open_ints_in Try.underlying26 Try.underlying3 c3 g2'
    simp only [List.cons.injEq, and_true] at e0 e1
    subst e0
    subst e1
    exact ⟨⟨a0, a1, A, c, xs⟩, hat, hI, ⟨hc1, hc2⟩, bounds_i64 w0, bounds_i64 w1, fun x hx => bounds_i64 (hw x hx)⟩
def atV (xs : List Int) (i : Int) : Int := if 0 ≤ i ∧ i < xs.length then xs.getD i.toNat 0 else 0
def atB (xs : List Int) (i : Int) : Bool := decide (0 ≤ i ∧ i < xs.length)
theorem at_any {w : World} {g : Nat} {t : Tal} {room : Int} {v : Value} {xs : List Int} (h : Que w g t room v xs) (i : Int) (hm : xs.length ≤ 1000000) : Calls Try.prog 14 #[.pointer (some ⟨g, 0, none⟩), .int .i64 i] w fun e w' => e = .returned (.tuple #[.int .i64 (atV xs i), .bool (atB xs i)]) ∧ w = w' := by
  by_cases hi : 0 ≤ i ∧ i < xs.length
  · have := at_in h i.toNat (by omega) hm
    rw [show ((i.toNat : Nat) : Int) = i from by omega] at this
    unfold atV atB
    rw [if_pos hi, decide_eq_true hi]
    exact this
  · unfold atV atB
    rw [if_neg hi, decide_eq_false hi]
    exact at_out h i (by omega)
/-- What holds at each round's head. -/
def Inv (g : Nat) (n : Int) (k : Nat) (wr : World) : Prop :=
  ∃ t v xs, Que wr g t n v xs ∧ (xs.length : Int) ≤ n ∧ t.came = t.went + xs.length ∧ 0 ≤ t.came ∧ t.came ≤ 100 * k ∧ 0 ≤ t.went ∧ 0 ≤ t.refused ∧ t.refused ≤ 100 * k ∧ 0 ≤ t.most ∧ t.most ≤ n
set_option maxRecDepth 100000 in
set_option maxHeartbeats 6000000 in
theorem walk (r : Int) (a : Option Addr) (len cap : Nat) (f : Nat → QAct) (w : World) (hr : 0 ≤ r ∧ r ≤ 255) (hlen : len ≤ 9223372036854775807) (hE : ∀ i, i < len → Elem w a i (f i)) :
    Calls Try.prog 4 #[.int .u8 r, .slice a len cap] w fun e w' => e = .returned (.bool true) ∧ Below w.heap.size w w' := by
  by_cases hbig : 60 < len
  · go_enter Try.func4, Try.ntmps4
    go_wp2_with (go_at_call 6; refine (awake_any _).mono ?_; rintro e w1 ⟨rfl, hb1⟩)
    go_ret
    exact ⟨rfl, hb1⟩
  have HE := Lib.hid hE
  clear hE
  obtain ⟨hr1, hr2⟩ := hr
  have hn1 : 1 ≤ 1 + r % 40 := by omega
  have hn2 : 1 + r % 40 ≤ 40 := by omega
  go_enter Try.func4, Try.ntmps4
  go_wp2_with (first | (go_at_call 6; refine (awake_any _).mono ?_; rintro e w1 ⟨rfl, hb1⟩) | (go_at_call 7; refine (new_ok _ _ (by omega) (by omega)).mono ?_; rintro e w2 ⟨rfl, rfl⟩))
  generalize 1 + r % 40 = n at *
  go_loopw [7] (fun i wr => ∃ (k : Nat), k ≤ len ∧ i = .int .i64 k ∧ Below w.heap.size w wr ∧ Inv w1.heap.size n k wr) (fun i _ => len - (intOf i).toNat)
  case atStart =>
    refine ⟨0, by omega, rfl, hb1.alloc hb1.size _, ⟨0, 0, 0, 0⟩, .slice none 0 0, [], ⟨Blk.new _ _ _, World.ownsRow_nil _ _ _ _⟩, ?_⟩
    simp; omega
  case round =>
    obtain ⟨k, hk, rfl, hbl, hinv⟩ := hrel
    by_cases hlt : k < len
    · obtain ⟨t, v, xs, hq, hx1, ht1, ht2, ht3, ht4, ht5, ht6, ht7, ht8⟩ := hinv
      obtain ⟨b, off, rfl, hbw, hcell⟩ := (HE.out k hlt).cells
      have x0 := (hbl.cell (p := ⟨b, off + k * 3 + 0, none⟩) hbw).trans (hcell 0 (by omega))
      have x1 := (hbl.cell (p := ⟨b, off + k * 3 + 1, none⟩) hbw).trans (hcell 1 (by omega))
      have x2 := (hbl.cell (p := ⟨b, off + k * 3 + 2, none⟩) hbw).trans (hcell 2 (by omega))
      simp at x0 x1 x2
      clear hcell
      have hel := HE.out k hlt
      obtain ⟨hcap1, hcap2⟩ := hel.cap
      obtain ⟨hkd1, hkd2⟩ := hel.kind
      obtain ⟨hnn1, hnn2⟩ := hel.n
      generalize f k = q at *
      by_cases hbg : 100 < q.xs.length
      · go_wp2
        go_ret
        exact ⟨rfl, hbl⟩
      go_upto_block 2 with fail

      go_cut [] (fun wx => Below w.heap.size w wx ∧ Inv w1.heap.size n (k + 1) wx)
      case first =>
        have HQ := Lib.hid hq
        have hgl := hq.blk.lt
        have hbwr : b < wr.heap.size := Nat.lt_of_lt_of_le hbw hbl.size
        have HINV := Lib.hid (show (xs.length : Int) ≤ n ∧ t.came = t.went + xs.length ∧ 0 ≤ t.came ∧ t.came ≤ 100 * k ∧ 0 ≤ t.went ∧ 0 ≤ t.refused ∧ t.refused ≤ 100 * k ∧ 0 ≤ t.most ∧ t.most ≤ n from ⟨hx1, ht1, ht2, ht3, ht4, ht5, ht6, ht7, ht8⟩)
        have hkl : (k : Int) ≤ 60 := by omega
        clear hq hx1 ht1 ht2 ht3 ht4 ht5 ht6 ht7 ht8
        by_cases h0 : q.kind = 0
        · have e0 : (q.kind == 0) = true := by rw [h0]; rfl
          have hsrc := Lib.hid ((((hel.ints.keep (w' := wr) (hbl.mono (Nat.le_refl _))).keep ((Below.refl wr.heap.size wr).alloc (Nat.le_refl _) (.cells #[] 3))).src q.xs.length (Nat.le_refl _)))
          obtain ⟨i0, hi, hz0, hz1, hz2⟩ := info_parts info3
          clear hel h0
          go_upto_region 14 with (at_builtin; refine wpList_append_src _ rfl _ _ 26 rfl wr.heap.size 3 i0 (.int .i64 0) 1 8 Try.underlying26 hi hz0 hz1 hz2 rfl (by decide) (.slice (some ⟨wr.heap.size, 0, none⟩) 0 0) 0 [] rfl (World.ownsRow_made wr #[] 0 (Nat.le_refl _) (Nat.zero_le _) (by simp)) q.A q.xs.length q.c _ rfl hsrc.out (by unfold maxLen; omega) (by omega) (by simp) ?_; intro vi wi howni hgri hnewi)
          -- what the copy is
          have hrow : wi.ownsRow wr.heap.size 3 1 vi q.xs.length (q.xs.map (Value.int .i64)) := by
            have := howni; rw [Nat.zero_add, List.nil_append, List.take_length] at this; exact this
          obtain ⟨Ai, ci, rfl, hIi, hni⟩ := ints_of_own hrow
          have hwi : Below wr.heap.size wr wi := ((Below.refl _ _).alloc (Nat.le_refl _) _).grown hgri (by simp) (fun x hx => by simp [Value.ownBlock] at hx; omega)
          have hqi : Que wi w1.heap.size t n v xs := ⟨HQ.out.blk.below hwi hgl, (Off.of hwi : Off (fun _ => False) wr wi).own HQ.out.own (fun _ _ h => h)⟩
          have hxi := HINV.out
          have PU := Lib.hid (put_any hqi Ai q.xs.length ci hIi rfl hni.2 (by omega) hn1 (by omega) hxi.1 (by omega) (by omega) (by omega) (min q.xs.length (n - xs.length).toNat) rfl)
          generalize hkk : min q.xs.length (n - xs.length).toNat = kk at PU
          have hkk1 : kk ≤ q.xs.length ∧ (xs.length + kk : Int) ≤ n ∧ kk ≤ 100 := by omega
          have hvi : ∀ x, (Value.slice Ai q.xs.length ci).ownBlock = some x → x ≠ w1.heap.size ∧ v.ownBlock ≠ some x := fun x hx => by
            have l1 := (hrow.lt x hx).1
            exact ⟨by omega, fun e => by have := (HQ.out.own.lt x e).2; omega⟩
          obtain ⟨zs, hzs⟩ : ∃ zs, zs = xs ++ q.xs.take kk := ⟨_, rfl⟩
          have hzl : zs.length = xs.length + kk := by rw [hzs]; simp; omega
          rw [← hzs] at PU
          generalize (if kk < q.xs.length then (18 : Int) else 0) = ee at PU
          have hz1 : (zs.length : Int) ≤ n := by omega
          have HZL := Lib.hid hzl
          have HROW := Lib.hid hrow
          have HWI := Lib.hid hwi
          have HVI := Lib.hid hvi
          have HKK := Lib.hid hkk1
          clear hkk hxi hkk1 hvi hrow hwi hqi howni hgri hnewi hIi hzs hzl hni
          go_wp2_with (first
            | (go_at_call 8; refine PU.out.mono ?_; rintro e w2 ⟨rfl, v2, hq2, hof2, hob2⟩; have HQ2 := Lib.hid hq2; have HR2 := Lib.hid (QS.own hof2 HROW.out HVI.out); have HOF := Lib.hid hof2; have HOB := Lib.hid hob2; clear hq2 hof2 hob2)
            | (go_at_call 15; refine (len_any HQ2.out).mono ?_; rintro e w3 ⟨rfl, rfl⟩)
            | (go_at_call 14; refine (at_any HQ2.out _ (by omega)).mono ?_; rintro e w3 ⟨rfl, rfl⟩))
          -- the copy's block
          have hgi : ∀ x, (Value.slice Ai q.xs.length ci).ownBlock = some x → x ≠ w1.heap.size ∧ v2.ownBlock ≠ some x ∧ w.heap.size ≤ x := fun x hx => by
            have l1 := (HROW.out.lt x hx)
            have l2 := hbl.size
            refine ⟨(HVI.out x hx).1, fun e => ?_, by omega⟩
            rcases HOB.out with h | ⟨y, hy, hy2⟩
            · rw [h] at e; exact (HVI.out x hx).2 e
            · rw [hy] at e; have := Option.some.inj e; omega
          have HGI := Lib.hid hgi
          clear hgi
          go_loopw [11] (fun j wx => ∃ (m : Nat) (ys : List Int), m ≤ q.xs.length ∧ ys.length = q.xs.length ∧ j = .int .i64 m ∧ Off (fun x => (Value.slice Ai q.xs.length ci).ownBlock = some x) w2 wx ∧ wx.ownsRow wr.heap.size 3 1 (.slice Ai q.xs.length ci) q.xs.length (ys.map (Value.int .i64))) (fun j _ => q.xs.length - (intOf j).toNat)
          case atStart => exact ⟨0, q.xs, Nat.zero_le _, rfl, rfl, Off.refl _ _, HR2.out⟩
          case round =>
            obtain ⟨m, ys, hm, hyl, rfl, hofx, hrowx⟩ := hrel
            by_cases hml : m < q.xs.length
            · rcases hrowx.2 with ⟨hc, h00⟩ | ⟨gi, cc, cur, hc, hgb, hh, hnc, hcm, hcs, hct⟩
              · omega
              have hAi : Ai = some ⟨gi, 0, none⟩ ∧ ci = cc := by injection hc with h1 h2 h3; exact ⟨h1, h3⟩
              obtain ⟨rfl, rfl⟩ := hAi
              have y0 := World.ownsRow.cellAt hrowx m (by omega)
              have y1 := World.ownsRow.frozenAt hrowx m
              rw [List.getElem?_map, List.getElem?_eq_getElem (by omega)] at y0
              simp only [Option.map_some] at y0
              have hst := fun z => World.ownsRow.stored hrowx m (.int .i64 z)
              have HST := Lib.hid hst
              have hgx := Blk.lt hh
              have HOX := Lib.hid hofx
              have HYL := Lib.hid hyl
              generalize hyy : ys[m] = yy at y0
              clear hst hrowx hofx hyl hyy hc hct hcs
              go_wp2_with fail
              go_roundw
              case rel => exact ⟨m + 1, ys.set m (wrap64 (yy + 1)), by omega, by rw [List.length_set]; exact HYL.out, by go_num, HOX.out.put (p := ⟨gi, m, none⟩) (fun _ => rfl) _, by rw [List.map_set]; exact (HST.out _).1⟩
              case measure => simp [intOf]; omega
            · have hmq : m = q.xs.length := by omega
              subst hmq
              have hqx : Que wr w1.heap.size ⟨t.came + kk, t.went, t.refused + (q.xs.length - kk), max t.most (xs.length + kk)⟩ n v2 zs :=
                ⟨hofx.blk HQ2.out.blk (fun h => (HGI.out _ h).1 rfl), hofx.own HQ2.out.own (fun x hx h => (HGI.out x h).2.1 hx)⟩
              have HQX := Lib.hid hqx
              have HOX := Lib.hid hofx
              clear hqx hofx hrowx hyl
              go_wp2_with (first
                | (go_at_call 15; refine (len_any HQX.out).mono ?_; rintro e w3 ⟨rfl, rfl⟩)
                | (go_at_call 14; refine (at_any HQX.out _ (by omega)).mono ?_; rintro e w3 ⟨rfl, rfl⟩))
              go_meet
              have hxi := HINV.out
              have hkk := HKK.out
              have hzz := HZL.out
              refine ⟨(hbl.trans (HWI.out.mono hbl.size)).trans ((HOF.out.below (fun x hx h => ?_) (Nat.le_trans hbl.size HWI.out.size)).trans (HOX.out.below (fun x hx h => ?_) (Nat.le_trans (Nat.le_trans hbl.size HWI.out.size) HOF.out.size))), _, _, _, HQX.out, hz1, ?_⟩
              · rcases h with h | h
                · have := hb1.size; omega
                · have := (HQ.out.own.lt x h).1; have := hb1.size; omega
              · have := (HGI.out x h).2.2; omega
              · simp only
                omega
        have e0 : (q.kind == 0) = false := by rw [beq_eq_false_iff_ne]; exact h0
        have hxl : xs.length ≤ 1000000 := by have := HINV.out; omega
        have hwl : 0 ≤ t.went ∧ t.went ≤ 1000000000000 := by have := HINV.out; omega
        clear hel
        by_cases h1 : q.kind = 1
        · have e1 : (q.kind == 1) = true := by rw [h1]; rfl
          clear h0 h1
          by_cases hz : q.n < 1 ∨ xs = []
          · have AT := Lib.hid (at_any HQ.out 0 hxl)
            have TA := Lib.hid (take_zero HQ.out q.n hz hxl hnn1 hnn2)
            clear hz
            go_wp2_with (first
              | (go_at_call 14; refine AT.out.mono ?_; rintro e w3 ⟨rfl, rfl⟩)
              | (go_at_call 10; refine TA.out.mono ?_; rintro e w3 ⟨rfl, rfl⟩))
            go_meet
            have hxi := HINV.out
            exact ⟨hbl, t, v, xs, HQ.out, hxi.1, hxi.2.1, hxi.2.2.1, by omega, hxi.2.2.2.2.1, hxi.2.2.2.2.2.1, by omega, hxi.2.2.2.2.2.2.2⟩
          · have hne : 0 < xs.length := List.length_pos_iff.2 (fun h => hz (.inr h))
            obtain ⟨kk, hkk⟩ : ∃ kk : Nat, min q.n (xs.length : Int) = kk := ⟨(min q.n (xs.length : Int)).toNat, by omega⟩
            have hk0 : 0 < kk := by omega
            have hkx : kk ≤ xs.length := by omega
            have AT := Lib.hid (at_any HQ.out 0 hxl)
            rw [show atV xs 0 = xs.getD 0 0 from by unfold atV; rw [if_pos ⟨by omega, by omega⟩]; rfl, show atB xs 0 = true from decide_eq_true ⟨by omega, by omega⟩] at AT
            have TA := Lib.hid ((take_some HQ.out q.n kk hkk hk0 hxl hwl).mono (R' := fun e w' => ∃ A3 c3 v3, e = .returned (.slice (some A3) kk c3) ∧ w'.cell? A3 = some (.int .i64 (xs.getD 0 0)) ∧ Que w' w1.heap.size { t with went := t.went + kk } n v3 (xs.drop kk) ∧ Below w.heap.size w w') (by
              rintro e w3 ⟨v2, v3, rfl, hown3, hq5, hof3, hob3⟩
              have hown4 : w3.ownsRow wr.heap.size 3 1 v2 (xs.take kk).length ((xs.take kk).map (Value.int .i64)) := by rw [List.length_take, Nat.min_eq_left hkx]; exact hown3
              obtain ⟨A3, c3, rfl, hI3, hn3⟩ := ints_of_own hown4
              rcases hI3 with hI3 | ⟨bb, oo, rfl, hbb, hcc⟩
              · have := congrArg List.length hI3; rw [List.length_take, List.length_nil] at this; omega
              have hc0 := hcc 0 (by rw [List.length_take]; omega)
              have hg0 : (xs.take kk).getD 0 0 = xs.getD 0 0 := by simp only [List.getD, List.getElem?_take]; rw [if_pos hk0]
              rw [hg0] at hc0
              refine ⟨⟨bb, oo, none⟩, c3, v3, by rw [List.length_take, Nat.min_eq_left hkx], by simpa using hc0, hq5, hbl.trans (hof3.below (fun x hx h => ?_) hbl.size)⟩
              rcases h with h | h
              · have := hb1.size; omega
              · have := (HQ.out.own.lt x h).1; have := hb1.size; omega))
            clear hz hkk
            generalize xs.getD 0 0 = x00 at *
            go_wp2_with (first
              | (go_at_call 14; refine AT.out.mono ?_; rintro e w3 ⟨rfl, rfl⟩)
              | (go_at_call 10; refine TA.out.mono ?_; rintro e w3 ⟨A3, c3, v3, rfl, hc0, hq3, hb3⟩))
            go_meet
            have hxi := HINV.out
            refine ⟨hb3, _, v3, _, hq3, ?_⟩
            simp only [List.length_drop]
            omega
        · have e1 : (q.kind == 1) = false := by rw [beq_eq_false_iff_ne]; exact h1
          clear h0 h1
          by_cases hz : q.n < 0 ∨ (xs.length : Int) ≤ q.n
          · have RM := Lib.hid (remove_out HQ.out q.n hz)
            clear hz
            go_wp2_with (go_at_call 11; refine RM.out.mono ?_; rintro e w3 ⟨rfl, rfl⟩)
            go_meet
            have hxi := HINV.out
            exact ⟨hbl, t, v, xs, HQ.out, hxi.1, hxi.2.1, hxi.2.2.1, by omega, hxi.2.2.2.2.1, hxi.2.2.2.2.2.1, by omega, hxi.2.2.2.2.2.2.2⟩
          · obtain ⟨i, hi⟩ : ∃ i : Nat, q.n = i := ⟨q.n.toNat, by omega⟩
            have RM0 := remove_in HQ.out i (by omega) hxl hwl
            rw [← hi] at RM0
            have RM := Lib.hid RM0
            have HI := Lib.hid (show i < xs.length from by omega)
            clear hz hi RM0
            go_wp2_with (go_at_call 11; refine RM.out.mono ?_; rintro e w3 ⟨v3, rfl, hq3, hof3, hob3⟩)
            go_meet
            have hxi := HINV.out
            have hii := HI.out
            refine ⟨hbl.trans (hof3.below (fun x hx h => ?_) hbl.size), _, v3, _, hq3, ?_⟩
            · rcases h with h | h
              · have := hb1.size; omega
              · have := (HQ.out.own.lt x h).1; have := hb1.size; omega
            · simp only [List.length_append, List.length_take, List.length_drop]
              omega
      case rest => 
        obtain ⟨hbx, ⟨came, went, refused, most⟩, v', ys, hq', hx1', ht1', ht2', ht3', ht4', ht5', ht6', ht7', ht8'⟩ := hcut
        simp only at ht1' ht2' ht3' ht4' ht5' ht6' ht7' ht8'
        subst ht1'
        have g1 : decide (n < (ys.length : Int)) = false := decide_eq_false (by omega)
        have g2 : decide (n < most) = false := decide_eq_false (by omega)
        have g3 : decide (n - (ys.length : Int) < 0) = false := decide_eq_false (by omega)
        have g4 : 0 ≤ went + (ys.length : Int) := ht2'
        have g5 : went + (ys.length : Int) ≤ 6100 := by omega
        have g6 : went ≤ 6100 := by omega
        have HQ := Lib.hid hq'
        have HIN := Lib.hid (show (ys.length : Int) ≤ n ∧ went + ys.length ≤ 100 * ((k + 1 : Nat) : Int) ∧ 0 ≤ went ∧ 0 ≤ refused ∧ refused ≤ 100 * ((k + 1 : Nat) : Int) ∧ 0 ≤ most ∧ most ≤ n from ⟨hx1', ht3', ht4', ht5', ht6', ht7', ht8'⟩)
        clear hq hq' ht3' ht6' ht8' hx1' x0 x1 x2 hel
        go_upto_region 29 with (go_at_call 13; refine (counts_any HQ.out).mono ?_; rintro e w3 ⟨rfl, hb3⟩)
        have hq3 : Que (w3.alloc (.cells #[.int .i64 (went + ys.length), .int .i64 went, .int .i64 refused, .int .i64 most] 28)) w1.heap.size ⟨went + ys.length, went, refused, most⟩ n v' ys := ⟨(HQ.out.blk.below hb3 HQ.out.blk.lt).alloc _, ((Off.of hb3 : Off (fun _ => False) wc w3).own HQ.out.own (fun _ _ h => h)).alloc _⟩
        have hblk : Blk (w3.alloc (.cells #[.int .i64 (went + ys.length), .int .i64 went, .int .i64 refused, .int .i64 most] 28)) w3.heap.size 28 #[.int .i64 (went + ys.length), .int .i64 went, .int .i64 refused, .int .i64 most] := Blk.new _ _ _
        have hbx4 : Below w.heap.size w (w3.alloc (.cells #[.int .i64 (went + ys.length), .int .i64 went, .int .i64 refused, .int .i64 most] 28)) := (hbx.trans (hb3.mono hbx.size)).alloc (Nat.le_trans hbx.size hb3.size) _
        generalize w3.alloc (.cells #[.int .i64 (went + ys.length), .int .i64 went, .int .i64 refused, .int .i64 most] 28) = W at *
        have d0 := hblk.cell 0
        have d1 := hblk.cell 1
        have d3 := hblk.cell 3
        simp at d0 d1 d3
        have HQ3 := Lib.hid hq3
        have LEN := Lib.hid (fun m => (len_any (w := W.drewN m) ⟨HQ3.out.blk.drewN m, HQ3.out.own⟩).mono (R' := fun e w' => e = .returned (.int .i64 ys.length) ∧ w' = W.drewN m) fun _ _ ⟨a, b⟩ => ⟨a, b.symm⟩)
        have FRE := Lib.hid (fun m => free_any (w := W.drewN m) ⟨HQ3.out.blk.drewN m, HQ3.out.own⟩ hn1 (by omega) (by have := HIN.out.1; omega))
        clear hq3 hblk
        go_quiet (first | (go_at_call 15; exact Calls.quiet_of_same (LEN.out _)) | (go_at_call 16; exact Calls.quiet_of (FRE.out _)))
        go_wp2_with fail
        go_roundw
        case rel => exact ⟨k + 1, by omega, by go_num, below_drewN hbx4 _, _, _, _, ⟨HQ3.out.blk.drewN _, HQ3.out.own⟩, HIN.out.1, rfl, g4, HIN.out.2⟩
        case measure => simp [intOf]; omega
    · have hkl : k = len := by omega
      subst hkl
      go_wp2
      go_ret
      exact ⟨rfl, hbl⟩
theorem own : ownKnob Try.prog.godebug = none := by kernel_rfl
theorem laidOut : laidOutB Try.prog = true := by kernel_rfl
set_option maxRecDepth 100000 in
theorem lifted (os : Os) (started : os.Started) (H : Type) (enc : TypeId × Value → H) :
    ReturnsInHanded {} Try.checked os 4 .any (Rows.queueKeepsSpec.pre6 enc Try.prog Try.f4 Rows.queueKeepsRow.domain false) (Rows.queueKeepsSpec.post enc Try.prog Try.f4 false true false false) := by
  refine returnsInHanded_of_change (C := Try.checked) own started (by kernel_rfl) Try.func4
    (ChangeSpec.witness6 (enc := enc) (C := Try.checked) false ⟨#[], #[.int .u8 0, .slice none 0 0], []⟩ 8 (by kernel_rfl) (by kernel_rfl) (by kernel_rfl) (by kernel_rfl)) ?_
  intro W base args ds gs before hval0 hW hcnd _
  have hval : ∀ (j : Nat) t v, Try.f4.params[j]? = some t → args[j]? = some v → Value.okWide Try.prog W .any base t v := hval0
  have hW' := hW
  obtain ⟨p, q, hA0, hV, rfl, hfz, hnd⟩ := hW
  have hA : DataW.TrodAll enc Try.prog W 0 (fun _ => true) true Try.f4.params.toList args.toList ds p := hA0
  rw [Try.params4] at hA hval
  obtain ⟨v0, vs0, d0, ds0, p0, q0, hargs, rfl, rfl, h0, r0⟩ := trodAll_cons hA
  obtain ⟨v1, vs1, d1, ds1, p1, q1, rfl, rfl, rfl, h1, r1⟩ := trodAll_cons r0
  obtain ⟨rfl, rfl, rfl⟩ := trodAll_nil r1
  obtain rfl : args = #[v0, v1] := by cases args; simp_all
  obtain ⟨rfl, rfl⟩ := trodVars_none hV
  obtain ⟨a0, rfl, rfl, rfl, w0⟩ := open_int Try.underlying5 (hval 0 5 v0 rfl rfl) h0
  have b0 := bounds_u8 w0
  obtain ⟨a1, len1, cap1, rfl⟩ := okWide_slice Try.underlying22 (hval 1 22 v1 rfl rfl)
  have k1 := h1
  have lt1 : ∀ x ∈ p1, x.block < W.heap.size := by obtain ⟨m, hm⟩ := k1; exact DataW.trod_lt m _ _ _ hm
  obtain ⟨fuel1, hf1⟩ := h1
  have hg1 : DataW.trod enc Try.prog W 0 (fun _ => true) true fuel1 22 [.slice a1 len1 cap1] = some (d1, p1) := by simpa [Value.cells] using hf1
  have o1 := acts_open hg1
  obtain ⟨hm1, f1, hE1⟩ := o1
  clear hA0 hval0
  refine (walk a0 a1 len1 cap1 f1 W b0 hm1 hE1).mono fun e W' ⟨he, bel⟩ => ?_
  subst he
  exact ⟨_, rfl, _, _, _, [], _, [], hW', trodAll_mk1 (shut_bool Try.underlying4 _), (trodAll_cons_mk (shut_int Try.underlying5 w0) (trodAll_cons_mk (Below.trod laidOut (by kernel_rfl) (of_decide_eq_true (by kernel_rfl)) k1 bel lt1) trodAll_mk0)), rfl, bel.frame _, fun h => by cases h⟩

theorem over : Rows.queueKeepsRow.holds Try.pinned (OpenSpec.ofChange Rows.queueKeepsSpec) :=
  OpenClaim.holds_of_wide 4 Try.f4 rfl rfl rfl rfl rfl rfl rfl ⟨rfl, rfl, rfl, rfl, rfl⟩ rfl rfl rfl rfl rfl (by kernel_rfl) Try.func4 (by kernel_rfl)
    (of_decide_eq_true (by kernel_rfl)) (by unfold Func.isWrapper; first | (rw [if_pos (by decide +kernel)]; kernel_rfl) | (rw [if_neg (by decide +kernel)]; exact ⟨rfl, rfl⟩))
    (fun os started H enc _ => lifted os started H enc)

theorem proved : Rows.QueueKeepsSaid := over

end Go.Proofs.Ytmmgicomidpmhaa.QueueKeeps
