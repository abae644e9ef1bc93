/- Sync: files' bytes are kept. -/
import Derived.Test.YtlhfamdandpkgaaDsi
namespace Go.Proofs.Ytlhfamdandpkgaa
open Go.ChangeShapes Go.WideShapes Go.ChangeAt Go.RowKit Go.Maps
/-- A disk at work. -/
structure Dsp (w0 wr : World) (base d b : Nat) (p : Pw) (D : DataW Unit) (fl : List FRec) : Prop where
  le : base ≤ d
  disk : Blk wr d 67 (p.cells b)
  fls : Fls wr base b D fl
  fra : Fra base w0 wr
  sz : base ≤ w0.heap.size
theorem Dsp.dsk {w0 wr : World} {base d b : Nat} {p : Pw} {D : DataW Unit} {fl : List FRec} (h : Dsp w0 wr base d b p D fl) : Dsk wr base d p fl := ⟨b, D, h.le, h.disk, h.fls⟩
theorem Dsp.set {w0 wr w' : World} {base d b : Nat} {p : Pw} {D : DataW Unit} {fl : List FRec} (h : Dsp w0 wr base d b p D fl) {nm dat' : List UInt8} {f : FRec} {g kept' : Nat} {v v' k : Value}
    (hf : fget fl nm = some f) (hg : fAt D nm = some g) (hB : Blk wr g 74 #[v, k]) (hoff : Off (fun i => i = g ∨ v.ownBlock = some i) wr w')
    (hnew : Fil w' base g v' dat' kept') (hloc : ∀ i, v'.ownBlock = some i → v.ownBlock = some i ∨ wr.heap.size ≤ i) (hd : dat'.length ≤ 1048576) (hk : kept' ≤ dat'.length) :
    Dsp w0 w' base d b p D (setF fl ⟨nm, dat', kept'⟩) := by
  obtain ⟨g', v0, e1, e2, e3, e4⟩ := h.fls.get hf
  rw [hg] at e1
  obtain rfl := Option.some.inj e1
  obtain rfl : v = v0 := by unfold Blk at e3 hB; rw [e3] at hB; simp at hB; exact hB.1.symm
  have hne : ∀ i, (i = g ∨ v.ownBlock = some i) → base ≤ i ∧ ∀ cs t fr, wr.heap[i]? = some (Obj.cells cs t fr) → dty t = true ∧ t ≠ 67 := by
    rintro i (rfl | hi)
    · refine ⟨e2, fun cs t fr hh => ?_⟩
      unfold Blk at hB; rw [hB] at hh; simp at hh; obtain ⟨_, rfl, _⟩ := hh; exact ⟨by decide, by decide⟩
    · obtain ⟨cur, hc, hb⟩ := own_cells_of e4 hi
      refine ⟨hb, fun cs t fr hh => ?_⟩
      rw [hc] at hh; simp at hh; obtain ⟨_, rfl, _⟩ := hh; exact ⟨by decide, by decide⟩
  exact ⟨h.le, hoff.blk h.disk (fun hi => ((hne d hi).2 _ _ _ h.disk).2 rfl), h.fls.change hf hg hB hoff hnew hloc hd hk, h.fra.trans (Fra.off hoff (Nat.le_trans h.sz h.fra.size) (fun i hi => ⟨(hne i hi).1, fun cs t fr hh => ((hne i hi).2 cs t fr hh).1⟩)), h.sz⟩
/-- A file's bytes are kept. -/
def keepF (fl : List FRec) (nm : List UInt8) : List FRec := match fget fl nm with
  | some f => setF fl ⟨nm, f.dat, f.dat.length⟩
  | none => fl
def keepAll (fl : List FRec) (ss : List ByteArray) : List FRec := ss.foldl (fun l s => keepF l s.data.toList) fl
theorem keepF_nms (fl : List FRec) (nm : List UInt8) : (keepF fl nm).map FRec.nm = fl.map FRec.nm := by
  unfold keepF
  split
  · exact setF_nms _ _
  · rfl
theorem keepAll_take (fl : List FRec) (ss : List ByteArray) (k : Nat) (h : k < ss.length) : keepAll fl (ss.take (k + 1)) = keepF (keepAll fl (ss.take k)) (ss.getD k ⟨#[]⟩).data.toList := by
  unfold keepAll
  rw [List.take_succ_eq_append_getElem h, List.foldl_append]
  simp [List.getD, h]
theorem keepAll_nms (ss : List ByteArray) : ∀ fl : List FRec, (keepAll fl ss).map FRec.nm = fl.map FRec.nm := by
  induction ss with
  | nil => intro fl; rfl
  | cons x t ih => intro fl; exact (ih (keepF fl x.data.toList)).trans (keepF_nms _ _)
def allF (fl : List FRec) (ss : List ByteArray) : Bool := ss.all fun s => (fget fl s.data.toList).isSome
theorem allF_take (fl : List FRec) (ss : List ByteArray) (k : Nat) (h : k < ss.length) : allF fl (ss.take (k + 1)) = (allF fl (ss.take k) && (fget fl (ss.getD k ⟨#[]⟩).data.toList).isSome) := by
  unfold allF
  rw [List.take_succ_eq_append_getElem h, List.all_append]
  simp [List.getD, h]
def syncE (p : Pw) (fl : List FRec) (ss : List ByteArray) : Int := if beginE p ss = 0 then (if allF fl ss = true then 0 else 8) else beginE p ss
def syncF (p : Pw) (fl : List FRec) (ss : List ByteArray) : List FRec := if syncE p fl ss = 0 then keepAll fl ss else fl
theorem allF_get {fl : List FRec} {ss : List ByteArray} (h : allF fl ss = true) (k : Nat) (hk : k < ss.length) : (fget fl (ss.getD k ⟨#[]⟩).data.toList).isSome = true := by
  unfold allF at h
  exact List.all_eq_true.1 h _ (by simp [List.getD, hk])
theorem fget_isSome {fl fl' : List FRec} (h : fl'.map FRec.nm = fl.map FRec.nm) {nm : List UInt8} (hs : (fget fl nm).isSome = true) : ∃ f, fget fl' nm = some f := by
  cases h2 : fget fl' nm with
  | some f => exact ⟨f, rfl⟩
  | none =>
    rw [fget_none, h, ← fget_none] at h2
    rw [h2] at hs; cases hs
set_option maxRecDepth 100000 in
set_option maxHeartbeats 16000000 in
theorem sync_any (base d : Nat) (p : Pw) (fl : List FRec) (A : Option Addr) (c : Nat) (ss : List ByteArray) (w : World) (h : Dsk w base d p fl) (hA : StrT w A ss) (hl : ss.length ≤ 1000000) (hz : ∀ s ∈ ss, s.size ≤ maxLen) :
    Calls Try.prog 23/-f-/ #[.pointer (some ⟨d, 0, none⟩), .slice A ss.length c] w fun e w' => e = .returned (.int .i64 (syncE p fl ss)) ∧ Dsk w' base d (useP p).2 (syncF p fl ss) ∧ Fra base w w' := by
  have hds := h.size
  have BG := Lib.hid (begin_any base d p fl A ss.length c ss w h hA.strs rfl hl (fun b off e hne => by
    obtain ⟨b', D, h1, h2, h3⟩ := h
    exact hA.ne h2 (by decide) b off e hne))
  have HFD := Lib.hid (show ∀ w2, Off (· = d) w w2 → Fra base w w2 from fun w2 ho => by
    obtain ⟨b, D, h1, h2, h3⟩ := h
    exact Fra.off_d h1 (by omega) h2 ho)
  have HA := Lib.hid hA
  have HZ := Lib.hid hz
  obtain ⟨p1, hp1⟩ : ∃ p1, p1 = (useP p).2 := ⟨_, rfl⟩
  obtain ⟨E, hE⟩ : ∃ E, E = beginE p ss := ⟨_, rfl⟩
  rw [← hp1] at BG
  rw [← hE] at BG
  rw [← hp1]
  have HE := Lib.hid hE
  clear hA hz hp1 hE h
  by_cases h0 : E = 0
  · subst h0
    go_enter Try.func23, Try.ntmps23
    go_upto_region 4 with (go_at_call 41/-f-/; (with_reducible refine BG.out.mono ?_); rintro e w2 ⟨rfl, hb, ho⟩; have HB := Lib.hid hb; have HFW := Lib.hid (HFD.out _ ho); clear hb ho)
    go_wp2
    have HA2 := Lib.hid (HA.out.fra HFW.out)
    obtain ⟨b, D, h1, h2, h3⟩ := HB.out
    obtain ⟨c0, c1, c2, c3, c4, c5, hf, hlt⟩ := blk6 h2
    have H2 := Lib.hid h2
    have H3 := Lib.hid h3
    clear h2 h3 c0 c1 c2 c3 c4 hf
    go_loop [7, 19] (fun _ i => ∃ k : Nat, k ≤ ss.length ∧ i = .int .i64 k ∧ Hid (allF fl (ss.take k) = true)) (fun _ i => ss.length - (intOf i).toNat)
    case atStart => exact ⟨0, Nat.zero_le _, rfl, Lib.hid rfl⟩
    case round =>
      obtain ⟨k, hk, rfl, hall⟩ := hrel
      by_cases hkl : k < ss.length
      · have HT := Lib.hid (allF_take fl ss k hkl)
        rcases HA2.out with hx | ⟨q, off, rfl, _, hcell⟩
        · subst hx; simp at hkl
        have x0 := hcell k hkl
        have hki : (k : Int) < (ss.length : Int) := by omega
        have hmem : ss.getD k ⟨#[]⟩ ∈ ss := by simp [List.getD, hkl]
        have hxz := HZ.out _ hmem
        have HM := Lib.hid hmem
        clear hcell hmem
        generalize ss.getD k ⟨#[]⟩ = x at *
        rcases H3.out.look x hxz with ⟨g1, g2, hlk⟩ | ⟨f, g, A1, cc1, g1, g2, g3, hlk⟩
        · have HX := Lib.hid (show syncE p fl ss = 8 ∧ syncF p fl ss = fl from by
            have : syncE p fl ss = 8 := by
              unfold syncE
              rw [← HE.out, if_pos rfl, if_neg (fun e => by
                have := List.all_eq_true.1 e x HM.out
                rw [g1] at this; cases this)]
            exact ⟨this, by unfold syncF; rw [this]; rfl⟩)
          clear g1 g2
          go_wp2
          go_ret
          exact ⟨ret_int (by rw [HX.out.1]), by rw [HX.out.2]; exact HB.out, HFW.out⟩
        · have HG := Lib.hid (show allF fl (ss.take (k + 1)) = true from by rw [HT.out, hall.out, g1]; rfl)
          clear g1 g2 g3
          go_wp2
          go_round
          case rel => exact ⟨k + 1, hkl, by go_num, HG⟩
          case measure => simp [intOf]; omega
      · have hke : k = ss.length := by omega
        subst hke
        rw [List.take_length] at hall
        have HX := Lib.hid (show syncE p fl ss = 0 ∧ syncF p fl ss = keepAll fl ss from by
          have : syncE p fl ss = 0 := by unfold syncE; rw [← HE.out, if_pos rfl, if_pos hall.out]
          exact ⟨this, by unfold syncF; rw [this, if_pos rfl]⟩)
        have DS := Lib.hid (show Dsp w w2 base d b p1 D fl from ⟨h1, H2.out, H3.out, HFW.out, by omega⟩)
        clear c5 hlt
        go_wp2
        go_loopw [9, 10, 33] (fun _ _ i wr => ∃ k : Nat, k ≤ ss.length ∧ i = .int .i64 k ∧ Hid (Dsp w wr base d b p1 D (keepAll fl (ss.take k)))) (fun _ _ i _ => ss.length - (intOf i).toNat)
        case atStart => exact ⟨0, Nat.zero_le _, rfl, DS⟩
        case round =>
          obtain ⟨k, hk2, rfl, hds⟩ := hrel
          by_cases hkl : k < ss.length
          · have HT := Lib.hid (keepAll_take fl ss k hkl)
            have hso := allF_get hall.out k hkl
            obtain ⟨f', hf'⟩ := fget_isSome (keepAll_nms (ss.take k) fl) hso
            rcases HA.out.fra hds.out.fra with hx | ⟨q, off, rfl, _, hcell⟩
            · subst hx; simp at hkl
            have x0 := hcell k hkl
            have hki : (k : Int) < (ss.length : Int) := by omega
            have hxz := HZ.out (ss.getD k ⟨#[]⟩) (by simp [List.getD, hkl])
            clear hcell hso
            generalize ss.getD k ⟨#[]⟩ = x at *
            generalize keepAll fl (ss.take k) = flk at *
            obtain ⟨c0, c1, c2, c3, c4, c5, hf, hlt⟩ := blk6 hds.out.disk
            clear c0 c1 c2 c3 c4 hf
            rcases hds.out.fls.look x hxz with ⟨g1, g2, hlk⟩ | ⟨f, g, A1, cc1, g1, g2, ⟨g3, g4, g5⟩, hlk⟩
            · rw [g1] at hf'; cases hf'
            obtain ⟨y0, y1, _, yf1, yl⟩ := blk2 g4
            have hfit := hds.out.fls.fits f (fget_some g1).1
            have HDS := Lib.hid (show Dsp w (wr.setCell ⟨g, 1, none⟩ (.int .i64 f.dat.length)) base d b p1 D (keepF flk x.data.toList) from by
              have ho := (Off.refl (fun i => i = g ∨ (Value.slice A1 f.dat.length cc1).ownBlock = some i) wr).put (p := ⟨g, 1, none⟩) (fun _ => .inl rfl) (.int .i64 f.dat.length)
              have := hds.out.set (kept' := f.dat.length) (v' := .slice A1 f.dat.length cc1) g1 g2 g4 ho ⟨g3, by simpa using g4.put 1 (.int .i64 f.dat.length), ((Off.refl (fun i => i = g) wr).put (p := ⟨g, 1, none⟩) (fun _ => rfl) _).own g5 (fun i hi e => by
                subst e
                obtain ⟨cur, hcc, _⟩ := own_cells_of g5 hi
                unfold Blk at g4; rw [g4] at hcc; simp at hcc)⟩ (fun i hi => .inl hi) hfit.2.2.1 (Nat.le_refl _)
              unfold keepF
              rw [g1]
              exact this)
            clear hf' g1 g2 g4 g5 hfit
            go_wp2
            go_roundw
            case rel => exact ⟨k + 1, hkl, by go_num, Lib.hid (by rw [HT.out]; exact HDS.out)⟩
            case measure => simp [intOf]; omega
          · have hke : k = ss.length := by omega
            subst hke
            rw [List.take_length] at hds
            go_wp2
            go_ret
            exact ⟨ret_int (by rw [HX.out.1]), by rw [HX.out.2]; exact hds.out.dsk, hds.out.fra⟩
  · have hne : (E == 0) = false := beq_eq_false_iff_ne.2 h0
    have hne2 : (E != 0) = true := by simp [bne, hne]
    have HX := Lib.hid (show syncE p fl ss = E ∧ syncF p fl ss = fl from by
      have : syncE p fl ss = E := by unfold syncE; rw [← HE.out, if_neg h0]
      exact ⟨this, by unfold syncF; rw [this, if_neg h0]⟩)
    clear h0 hne
    go_enter Try.func23, Try.ntmps23
    go_wp2_with (go_at_call 41/-f-/; (with_reducible refine BG.out.mono ?_); rintro e w2 ⟨rfl, hb, ho⟩; have HB := Lib.hid hb; have HO := Lib.hid ho; clear hb ho)
    go_ret
    exact ⟨ret_int (by rw [HX.out.1]), by rw [HX.out.2]; exact HB.out, HFD.out _ HO.out⟩
end Go.Proofs.Ytlhfamdandpkgaa
