/- Crash: the power goes, and comes. -/
import Derived.Test.YtlhfamdandpkgaaDsj
namespace Go.Proofs.Ytlhfamdandpkgaa
open Go.ChangeShapes Go.WideShapes Go.ChangeAt Go.RowKit Go.Maps Go.Sort
theorem RowS.strt {w : World} {base : Nat} {v : Value} {ss : List (List UInt8)} (h : RowS w base v ss) : ∃ A c, v = .slice A ss.length c ∧ StrT w A (ss.map fun x => ⟨x.toArray⟩) := by
  rcases h.2 with ⟨rfl, h0⟩ | ⟨g, cap, cur, rfl, hb, hh, h1, h2, h3, h4⟩
  · refine ⟨none, 0, ?_, .inl ?_⟩
    · rw [h0]
    · rw [List.eq_nil_of_length_eq_zero h0]; rfl
  · refine ⟨some ⟨g, 0, none⟩, cap, rfl, .inr ⟨g, 0, rfl, ⟨_, _, _, hh, by decide⟩, fun i hi => ?_⟩⟩
    rw [List.length_map] at hi
    have := World.ownsRow.cells h (g := g) rfl i (encStr (ss.getD i [])) (by simp [hi, List.getD])
    simpa [Addr.add_lit, encStr, List.getD, hi] using this
/-- A slice of ints that lies in no block of a disk's. -/
def IntT (w : World) (A : Option Addr) (xs : List Int) : Prop :=
  xs = [] ∨ ∃ b off, A = some ⟨b, off, none⟩ ∧ (∃ cs t fr, w.heap[b]? = some (Obj.cells cs t fr) ∧ dty t = false) ∧ ∀ i (_ : i < xs.length), w.cell? ⟨b, off + i, none⟩ = some (.int .i64 (xs.getD i 0))
theorem IntT.fra {base : Nat} {w w' : World} {A : Option Addr} {xs : List Int} (h : IntT w A xs) (hf : Fra base w w') : IntT w' A xs := by
  rcases h with h | ⟨b, off, h1, ⟨cs, t, fr, h2, h3⟩, h4⟩
  · exact .inl h
  · have hh := hf.stay b cs t fr h2 h3
    exact .inr ⟨b, off, h1, ⟨cs, t, fr, hh, h3⟩, fun i hi => (World.cell?_of_block (a := ⟨b, off + i, none⟩) (hh.trans h2.symm)).trans (h4 i hi)⟩
theorem IntT.one (W : World) (N : Nat) (x : Int) (e : W.heap.size = N) : IntT (W.alloc (.cells #[.int .i64 x] 3)) (some ⟨N, 0, none⟩) [x] := by
  subst e
  refine .inr ⟨W.heap.size, 0, rfl, ⟨_, _, _, Blk.new W 3 #[.int .i64 x], by decide⟩, fun i hi => ?_⟩
  have : i = 0 := by simp at hi; omega
  subst this; rw [(Blk.new W 3 #[.int .i64 x]).cell]; rfl
theorem slice_block (A : Option Addr) (m n c : Nat) : (Value.slice A m c).ownBlock = (Value.slice A n c).ownBlock := by
  cases A with
  | none => rfl
  | some a => rcases a with ⟨g, _ | o, _ | q⟩ <;> rfl
theorem Row8.take {w : World} {base n c : Nat} {A : Option Addr} {l : List UInt8} (h : Row8 w base (.slice A n c) l) (m : Nat) (hm : m ≤ l.length) : Row8 w base (.slice A m c) (l.take m) := by
  have hml : (l.take m).length = m := by rw [List.length_take]; omega
  refine ⟨by simp [cells8], ?_⟩
  rcases h.2 with ⟨hv, h0⟩ | ⟨g, cap, cur, hv, hb, hh, h1, h2, h3, h4⟩
  · cases hv
    have : m = 0 := by omega
    subst this
    exact .inl ⟨rfl, hml⟩
  · cases hv
    refine .inr ⟨g, c, cur, by rw [hml], hb, hh, by omega, h2, h3, ?_⟩
    rw [hml, Nat.mul_one]
    have : cells8 (l.take m) = (cells8 l).take m := by simp [cells8, List.map_take]
    rw [this, ← h4, Nat.mul_one, List.take_take]
    congr 1; omega
theorem Row8.cap {w : World} {base n c : Nat} {A : Option Addr} {l : List UInt8} (h : Row8 w base (.slice A n c) l) : l.length ≤ c := by
  rcases h.2 with ⟨hv, h0⟩ | ⟨g, cap, cur, hv, hb, hh, h1, h2, h3, h4⟩
  · cases hv; omega
  · cases hv; exact h1
/-- How much of a file stays. -/
def stayN (f : FRec) (kp : Int) : Nat := f.kept + min kp.toNat (f.dat.length - f.kept)
def stayF (f : FRec) (kp : Int) : FRec := ⟨f.nm, f.dat.take (stayN f kp), stayN f kp⟩
def crashF (fl : List FRec) (ks : List Int) : List FRec := fl.mapIdx fun i f => stayF f (ks.getD i 0)
def mixF (fl : List FRec) (ks : List Int) (k : Nat) : List FRec := fl.mapIdx fun i f => if i < k then stayF f (ks.getD i 0) else f
theorem mixF_zero (fl : List FRec) (ks : List Int) : mixF fl ks 0 = fl := by
  apply List.ext_getElem
  · simp [mixF]
  · intro i h1 h2; simp [mixF]
theorem mixF_all (fl : List FRec) (ks : List Int) : mixF fl ks fl.length = crashF fl ks := by
  apply List.ext_getElem
  · simp [mixF, crashF]
  · intro i h1 h2
    have : i < fl.length := by simpa [crashF] using h2
    simp [mixF, crashF, this]
theorem mixF_len (fl : List FRec) (ks : List Int) (k : Nat) : (mixF fl ks k).length = fl.length := by simp [mixF]
theorem mixF_nms (fl : List FRec) (ks : List Int) (k : Nat) : (mixF fl ks k).map FRec.nm = fl.map FRec.nm := by
  apply List.ext_getElem
  · simp [mixF]
  · intro i h1 h2
    simp only [List.getElem_map, mixF, List.getElem_mapIdx]
    split <;> rfl
theorem mixF_get {fl : List FRec} (ks : List Int) {k : Nat} (hk : k < fl.length) (hn : (fl.map FRec.nm).Nodup) : fget (mixF fl ks k) (fl.getD k default).nm = some (fl.getD k default) := by
  have hm : fl.getD k default ∈ mixF fl ks k := by
    rw [List.mem_iff_getElem]
    exact ⟨k, by rw [mixF_len]; exact hk, by simp [mixF, List.getD, hk]⟩
  exact fget_mem (by rw [mixF_nms]; exact hn) _ hm
theorem mixF_succ {fl : List FRec} (ks : List Int) {k : Nat} (hk : k < fl.length) (hn : (fl.map FRec.nm).Nodup) : mixF fl ks (k + 1) = setF (mixF fl ks k) (stayF (fl.getD k default) (ks.getD k 0)) := by
  apply List.ext_getElem
  · simp [mixF, setF]
  · intro i h1 h2
    have hi : i < fl.length := by rw [mixF_len] at h1; exact h1
    have hgd : fl.getD k default = fl[k] := by simp [List.getD, hk]
    have hnm : (stayF (fl.getD k default) (ks.getD k 0)).nm = fl[k].nm := by rw [hgd]; rfl
    have hne : i ≠ k → fl[i].nm ≠ fl[k].nm := fun h e => by
      have := (List.nodup_iff_pairwise_ne.1 hn)
      exact h ((List.getElem_inj (h₀ := by simpa using hi) (h₁ := by simpa using hk) hn).1 (by simpa using e))
    have e1 : (mixF fl ks (k + 1))[i] = if i < k + 1 then stayF fl[i] (ks.getD i 0) else fl[i] := by simp [mixF]
    have e2 : (mixF fl ks k)[i]'(by rw [mixF_len]; exact hi) = if i < k then stayF fl[i] (ks.getD i 0) else fl[i] := by simp [mixF]
    have e3 : (setF (mixF fl ks k) (stayF (fl.getD k default) (ks.getD k 0)))[i] = if ((mixF fl ks k)[i]'(by rw [mixF_len]; exact hi)).nm = fl[k].nm then stayF (fl.getD k default) (ks.getD k 0) else (mixF fl ks k)[i]'(by rw [mixF_len]; exact hi) := by
      rw [← hnm]; simp only [setF, List.getElem_map]
    rw [e1, e3, e2]
    by_cases hik : i = k
    · subst hik
      rw [if_pos (show i < i + 1 by omega), if_neg (show ¬ i < i by omega), if_pos rfl, hgd]
    · by_cases hlt : i < k
      · rw [if_pos (show i < k + 1 by omega), if_pos hlt, if_neg (show ¬ (stayF fl[i] (ks.getD i 0)).nm = fl[k].nm from hne hik)]
      · rw [if_neg (show ¬ i < k + 1 by omega), if_neg hlt, if_neg (hne hik)]
set_option maxRecDepth 100000 in
set_option maxHeartbeats 16000000 in
theorem crash_any (base d : Nat) (p : Pw) (fl : List FRec) (A : Option Addr) (c : Nat) (ks : List Int) (w : World) (h : Dsk w base d p fl) (hA : IntT w A ks) (hl : ks.length ≤ 1000000) :
    Calls Try.prog 24/-f-/ #[.pointer (some ⟨d, 0, none⟩), .slice A ks.length c] w fun e w' => e = .returned (.tuple #[]) ∧ Dsk w' base d { p with off := false, armed := false } (crashF fl ks) ∧ Fra base w w' := by
  have hds := h.size
  have RS := Lib.hid (restore_any base d p fl w h)
  have HFD := Lib.hid (show ∀ w2, Off (· = d) w w2 → Fra base w w2 from fun w2 ho => by
    obtain ⟨b, D, h1, h2, h3⟩ := h
    exact Fra.off_d h1 (by omega) h2 ho)
  have HA := Lib.hid hA
  obtain ⟨p1, hp1⟩ : ∃ p1, p1 = { p with off := false, armed := false } := ⟨_, rfl⟩
  rw [← hp1] at RS ⊢
  clear hA hp1 h
  go_enter Try.func24, Try.ntmps24
  go_upto_region 2 with (go_at_call 49/-f-/; (with_reducible refine RS.out.mono ?_); rintro e w2 ⟨rfl, hb, ho⟩; have HB := Lib.hid hb; have HFW := Lib.hid (HFD.out _ ho); have NM := Lib.hid (names0_any base d p1 fl none 0 w2 hb); clear hb ho)
  go_wp2_with (go_at_call 21/-f-/; (with_reducible refine NM.out.mono ?_); rintro e w3 ⟨v, rfl, hrow, hb3⟩; obtain ⟨A3, c3, hv, hst⟩ := hrow.strt; rw [List.length_map] at hv; subst hv; have HN3 := Lib.hid hst; have HB3 := Lib.hid hb3; clear hrow hst hb3)
  have hw2 := HB.out.size
  have hw3 := HB3.out.size
  obtain ⟨b, D, h1, h2, h3⟩ := HB.out.below HB3.out
  have hn := h3.nodup
  have HFW3 := Lib.hid (HFW.out.trans (Fra.of (by omega) HB3.out))
  have DS := Lib.hid (show Dsp w3 w3 base d b p1 D (mixF fl ks 0) from by rw [mixF_zero]; exact ⟨h1, h2, h3, Fra.refl _ _, by omega⟩)
  have hl100 := h3.lens
  have HFI := Lib.hid h3.fits
  clear h2 h3
  go_loopw [4, 5, 6, 7, 8, 18] (fun _ _ _ _ _ i wr => ∃ k : Nat, k ≤ fl.length ∧ i = .int .i64 k ∧ Hid (Dsp w3 wr base d b p1 D (mixF fl ks k))) (fun _ _ _ _ _ i _ => fl.length - (intOf i).toNat)
  case atStart => exact ⟨0, Nat.zero_le _, rfl, DS⟩
  case round =>
    obtain ⟨k, hk, rfl, hds⟩ := hrel
    by_cases hkl : k < fl.length
    · have HT := Lib.hid (mixF_succ ks hkl hn)
      have hmg := mixF_get ks hkl hn
      rcases HN3.out.fra hds.out.fra with hx | ⟨q, off, rfl, _, hcell⟩
      · have := congrArg List.length hx
        simp only [List.length_map, List.length_nil] at this; omega
      have x0 := hcell k (by simpa using hkl)
      rw [show ((fl.map FRec.nm).map fun x => (⟨x.toArray⟩ : ByteArray)).getD k ⟨#[]⟩ = ⟨(fl.getD k default).nm.toArray⟩ from by simp [List.getD, hkl]] at x0
      have hki : (k : Int) < (fl.length : Int) := by omega
      obtain ⟨_, hnm20, _, hkd⟩ := HFI.out (fl.getD k default) (by simp [List.getD, hkl])
      have hI := HA.out.fra (HFW3.out.trans hds.out.fra)
      clear hcell
      generalize fl.getD k default = f at *
      obtain ⟨c0, c1, c2, c3', c4, c5, hf, hlt⟩ := blk6 hds.out.disk
      clear c0 c1 c2 c3' c4 hf
      generalize mixF fl ks k = flk at *
      rcases hds.out.fls.look ⟨f.nm.toArray⟩ (by show f.nm.toArray.size ≤ maxLen; rw [List.size_toArray]; unfold maxLen; omega) with ⟨g1, _, _⟩ | ⟨f', g, A1, cc1, g1, g2, ⟨g3, g4, g5⟩, hlk⟩
      · rw [show (⟨f.nm.toArray⟩ : ByteArray).data.toList = f.nm from rfl, hmg] at g1; cases g1
      rw [show (⟨f.nm.toArray⟩ : ByteArray).data.toList = f.nm from rfl] at g1 g2
      obtain rfl : f = f' := by rw [hmg] at g1; exact Option.some.inj g1
      obtain ⟨y0, y1, yf0, yf1, yl⟩ := blk2 g4
      have hdl := (hds.out.fls.fits f (fget_some hmg).1).2.2.1
      obtain ⟨kk, hkk⟩ : ∃ kk, kk = ks.getD k 0 := ⟨_, rfl⟩
      rw [← hkk] at HT
      obtain ⟨S, hS⟩ : ∃ S, S = stayN f kk := ⟨_, rfl⟩
      have hSl : S ≤ f.dat.length := by rw [hS]; unfold stayN; omega
      have hsub2 : IntKind.i64.wrap ((f.dat.length : Int) - f.kept) = f.dat.length - f.kept := (IntWalk.i64_left _).trans (IntWalk.wrap64_in _ (by omega))
      have hcap := Row8.cap (n := f.dat.length) g5
      have HDS := Lib.hid (show Dsp w3 ((wr.drew.setCell ⟨g, 0, none⟩ (.slice A1 S cc1)).setCell ⟨g, 1, none⟩ (.int .i64 S)) base d b p1 D (setF flk (stayF f kk)) from by
        have ho := (((Off.refl (fun i => i = g ∨ (Value.slice A1 f.dat.length cc1).ownBlock = some i) wr).drew).put (p := ⟨g, 0, none⟩) (fun _ => .inl rfl) (.slice A1 S cc1)).put (p := ⟨g, 1, none⟩) (fun _ => .inl rfl) (.int .i64 S)
        have ho2 := (((Off.refl (fun i => i = g) wr).drew).put (p := ⟨g, 0, none⟩) (fun _ => rfl) (.slice A1 S cc1)).put (p := ⟨g, 1, none⟩) (fun _ => rfl) (.int .i64 S)
        have hne : ∀ i, (Value.slice A1 f.dat.length cc1).ownBlock = some i → ¬ i = g := fun i hi e => by
          subst e
          obtain ⟨cur, hcc, _⟩ := own_cells_of g5 hi
          unfold Blk at g4; rw [g4] at hcc; simp at hcc
        have hr : Row8 wr base (.slice A1 S cc1) (f.dat.take S) := by
          exact Row8.take (n := f.dat.length) g5 S hSl
        unfold stayF
        rw [← hS]
        refine hds.out.set (v' := .slice A1 S cc1) hmg g2 g4 ho ⟨g3, by simpa using ((show Blk wr.drew g 74 _ from g4).put 0 (.slice A1 S cc1)).put 1 (.int .i64 S), ho2.own hr (fun i hi => hne i (by rw [slice_block A1 f.dat.length S cc1]; exact hi))⟩ (fun i hi => .inl (by rw [slice_block A1 f.dat.length S cc1]; exact hi)) (by rw [List.length_take]; omega) (by rw [List.length_take]; omega))
      have hS2 : (f.kept : Int) + min (max kk 0) (f.dat.length - f.kept) = S := by rw [hS]; unfold stayN; omega
      have yd0 : wr.drew.frozen? ⟨g, 0, none⟩ = false := yf0
      have yd1 : wr.drew.frozen? ⟨g, 1, none⟩ = false := yf1
      have hSc : (S : Int) ≤ (cc1 : Int) := by omega
      have hSz : (0 : Int) ≤ (S : Int) := by omega
      clear hmg g1 g2 g4 g5 hS hdl
      by_cases hk2 : k < ks.length
      · rcases hI with hx | ⟨q2, off2, rfl, _, hcell2⟩
        · subst hx; simp at hk2
        have z0 := hcell2 k hk2
        rw [← hkk] at z0
        have hki2 : (k : Int) < (ks.length : Int) := by omega
        clear hcell2 hkk
        have hM : IntKind.i64.wrap ((f.kept : Int) + min (max kk 0) (IntKind.i64.wrap ((f.dat.length : Int) - f.kept))) = S := by rw [hsub2]; exact (IntWalk.i64_left _).trans ((IntWalk.wrap64_in _ (by omega)).trans (by omega))
        clear hS2 hsub2
        go_upto_region 9 with (fail)
        go_region_held3 (fun W => W.cell? ⟨g, 0, none⟩ = some (.slice A1 f.dat.length cc1) ∧ W.cell? ⟨g, 1, none⟩ = some (.int .i64 f.kept)) (exact ⟨y0, y1⟩) (fail)
        clear hM
        go_wp2
        go_roundw
        case rel => exact ⟨k + 1, hkl, by go_num, Lib.hid (by rw [HT.out]; exact HDS.out)⟩
        case measure => simp [intOf]; omega
      · have hki2 : ¬ (k : Int) < (ks.length : Int) := by omega
        have hkk0 : kk = 0 := by rw [hkk]; simp [List.getD, List.getElem?_eq_none (show ks.length ≤ k by omega)]
        have hM : IntKind.i64.wrap ((f.kept : Int) + min 0 (IntKind.i64.wrap ((f.dat.length : Int) - f.kept))) = S := by rw [hsub2]; exact (IntWalk.i64_left _).trans ((IntWalk.wrap64_in _ (by omega)).trans (by omega))
        clear hS2 hkk hkk0 hI hsub2
        go_upto_region 9 with (fail)
        go_region_held3 (fun W => W.cell? ⟨g, 0, none⟩ = some (.slice A1 f.dat.length cc1) ∧ W.cell? ⟨g, 1, none⟩ = some (.int .i64 f.kept)) (exact ⟨y0, y1⟩) (fail)
        clear hM
        go_wp2
        go_roundw
        case rel => exact ⟨k + 1, hkl, by go_num, Lib.hid (by rw [HT.out]; exact HDS.out)⟩
        case measure => simp [intOf]; omega
    · have hke : k = fl.length := by omega
      subst hke
      rw [mixF_all] at hds
      go_wp2
      go_end0
      exact ⟨rfl, hds.out.dsk, HFW3.out.trans hds.out.fra⟩
end Go.Proofs.Ytlhfamdandpkgaa
