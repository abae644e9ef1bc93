/- Append: a file's bytes. -/
import Derived.Test.YtlhfamdandpkgaaDsh
namespace Go.Proofs.Ytlhfamdandpkgaa
open Go.ChangeShapes Go.WideShapes Go.ChangeAt Go.RowKit Go.Maps
def catL (ss : List ByteArray) : List UInt8 := ss.flatMap fun s => s.data.toList
theorem catL_take (ss : List ByteArray) (k : Nat) (h : k < ss.length) : catL (ss.take (k + 1)) = catL (ss.take k) ++ (ss.getD k ⟨#[]⟩).data.toList := by
  unfold catL
  rw [List.take_succ_eq_append_getElem h, List.flatMap_append]
  simp [List.getD, h]
theorem catL_le (ss : List ByteArray) (k : Nat) : (catL (ss.take k)).length ≤ (catL ss).length := by
  have : catL ss = catL (ss.take k) ++ catL (ss.drop k) := by
    unfold catL
    rw [← List.flatMap_append, List.take_append_drop]
  rw [this, List.length_append]; omega
def datF (fl : List FRec) (nm : List UInt8) : List UInt8 := ((fget fl nm).map fun f => f.dat).getD []
theorem datF_len (fl : List FRec) (nm : List UInt8) : (datF fl nm).length = datL fl nm := by
  unfold datF datL
  cases fget fl nm <;> rfl
/-- The files, where one of a name is. -/
def hasF (fl : List FRec) (nm : List UInt8) : List FRec := if fget fl nm = none then insF fl ⟨nm, [], 0⟩ else fl
def appE (p : Pw) (fl : List FRec) (s : ByteArray) (ss : List ByteArray) : Int :=
  if beginE p [s] = 0 then fitE (useP p).2 fl s.data.toList (datL fl s.data.toList + (catL ss).length) (catL ss).length else beginE p [s]
def appF (p : Pw) (fl : List FRec) (s : ByteArray) (ss : List ByteArray) : List FRec :=
  if appE p fl s ss = 0 then setF (hasF fl s.data.toList) ⟨s.data.toList, datF fl s.data.toList ++ catL ss, keptL fl s.data.toList⟩ else fl
theorem beginE_ok {p : Pw} {s : ByteArray} (h : beginE p [s] = 0) : 0 < s.data.toList.length ∧ s.data.toList.length ≤ 20 := by
  unfold beginE at h
  split at h
  · cases h
  · split at h
    · rename_i h2
      simp [mayB] at h2
      exact ⟨by rw [Array.length_toList]; exact h2.1, by rw [Array.length_toList]; exact h2.2⟩
    · cases h
theorem fitE_ok {p : Pw} {fl : List FRec} {nm : List UInt8} {size more : Int} (h : fitE p fl nm size more = 0) : size ≤ 1048576 ∧ (fget fl nm = none → fl.length < 100) ∧ more ≤ p.room - usedF fl := by
  unfold fitE at h
  split at h
  · cases h
  · rename_i h2
    split at h
    · cases h
    · rename_i h3
      refine ⟨by omega, fun hn => ?_, by omega⟩
      rcases Nat.lt_or_ge fl.length 100 with h4 | h4
      · exact h4
      · exact absurd (.inr ⟨hn, h4⟩) h2
/-- A disk at whose file is being written. -/
structure Apd (w0 wr : World) (base d b : Nat) (p : Pw) (D : DataW Unit) (fl : List FRec) (nm : List UInt8) (g : Nat) (dat : List UInt8) (kept : Nat) : Prop where
  le : base ≤ d
  disk : Blk wr d 67 (p.cells b)
  fls : Fls wr base b D fl
  get : fget fl nm = some ⟨nm, dat, kept⟩
  at_ : fAt D nm = some g
  fra : Fra base w0 wr
  sz : base ≤ w0.heap.size
theorem Apd.step {w0 wr w2 : World} {base d b : Nat} {p : Pw} {D : DataW Unit} {fl : List FRec} {nm : List UInt8} {g : Nat} {dat : List UInt8} {kept : Nat} (h : Apd w0 wr base d b p D fl nm g dat kept) {v v' : Value} {s : ByteArray}
    (hB : Blk wr g 74 #[v, .int .i64 kept]) (hown' : w2.ownsRow base 5 1 v' (dat.length + s.size) (cells8 dat ++ Lib.strCells s)) (hg : wr.grownBy w2 v.ownBlock) (hloc : ∀ j, v'.ownBlock = some j → v.ownBlock = some j ∨ wr.heap.size ≤ j)
    (hl : dat.length + s.size ≤ 1048576) : Apd w0 (w2.setCell ⟨g, 0, none⟩ v') base d b p D (setF fl ⟨nm, dat ++ s.data.toList, kept⟩) nm g (dat ++ s.data.toList) kept := by
  have hfit := h.fls.fits _ (fget_some h.get).1
  obtain ⟨g', v0, e1, e2, e3, e4⟩ := h.fls.get h.get
  rw [h.at_] at e1
  obtain rfl := Option.some.inj e1
  obtain rfl : v = v0 := by unfold Blk at e3 hB; rw [e3] at hB; simp at hB; exact hB.symm
  have hsz : s.data.toList.length = s.size := by rw [Array.length_toList]; rfl
  have hgv : v.ownBlock ≠ some g := fun e => by
    obtain ⟨cur, hc, _⟩ := own_cells_of e4 e
    unfold Blk at hB; rw [hB] at hc; simp at hc
  have hB2 : Blk w2 g 74 #[v, .int .i64 kept] := blk_grown hB hg hgv
  have hgv' : v'.ownBlock ≠ some g := fun e => by
    obtain ⟨cur, hc, _⟩ := own_cells_of hown' e
    unfold Blk at hB2; rw [hB2] at hc; simp at hc
  have hoff : Off (fun i => i = g ∨ v.ownBlock = some i) wr (w2.setCell ⟨g, 0, none⟩ v') := ((Off.refl _ wr).grown hg (fun k hk _ => .inr hk)).put (p := ⟨g, 0, none⟩) (fun _ => .inl rfl) v'
  have hrow : Row8 (w2.setCell ⟨g, 0, none⟩ v') base v' (dat ++ s.data.toList) := by
    have := ((Off.refl (fun i => i = g) w2).put (p := ⟨g, 0, none⟩) (fun _ => rfl) v').own hown' (fun k hk e => hgv' (by rw [hk, e]))
    unfold Row8
    rw [List.length_append, hsz, cells8_append]
    exact this
  have hd : dat.length + s.data.toList.length ≤ 1048576 := by omega
  have hne : ∀ i, (i = g ∨ v.ownBlock = some i) → base ≤ i ∧ ∀ cs t fr, wr.heap[i]? = some (Obj.cells cs t fr) → dty t = true ∧ t ≠ 67 := by
    rintro i (rfl | hi)
    · refine ⟨e2, fun cs t fr hh => ?_⟩
      unfold Blk at hB; rw [hB] at hh; simp at hh; obtain ⟨_, rfl, _⟩ := hh; exact ⟨by decide, by decide⟩
    · obtain ⟨cur, hc, hb⟩ := own_cells_of e4 hi
      refine ⟨hb, fun cs t fr hh => ?_⟩
      rw [hc] at hh; simp at hh; obtain ⟨_, rfl, _⟩ := hh; exact ⟨by decide, by decide⟩
  refine ⟨h.le, hoff.blk h.disk (fun hi => ((hne d hi).2 _ _ _ h.disk).2 rfl), ?_, ?_, h.at_, h.fra.trans (Fra.off hoff (Nat.le_trans h.sz h.fra.size) (fun i hi => ⟨(hne i hi).1, fun cs t fr hh => ((hne i hi).2 cs t fr hh).1⟩)), h.sz⟩
  · refine h.fls.change h.get h.at_ hB hoff ⟨e2, ?_, hrow⟩ hloc (by rw [List.length_append]; exact hd) (by rw [List.length_append]; have := hfit.2.2.2; simp only at this; omega)
    simpa using hB2.put 0 v'
  · exact fget_setF_same (f := ⟨nm, dat ++ s.data.toList, kept⟩) (List.mem_map.2 ⟨_, (fget_some h.get).1, rfl⟩)
set_option maxRecDepth 100000 in
theorem infoU8 : (Try.prog.info? 5).map (fun i => (i.zero, i.size, i.bytes)) = some (some (.int .u8 0), 1, 1) := by kernel_rfl
set_option maxRecDepth 100000 in
set_option maxHeartbeats 16000000 in
theorem append_any (base d : Nat) (p : Pw) (fl : List FRec) (s : ByteArray) (A : Option Addr) (c : Nat) (ss : List ByteArray) (w : World) (h : Dsk w base d p fl) (hr : Roo p) (hA : StrT w A ss) (hs : s.size ≤ maxLen) (hl : ss.length ≤ 1000000) (hc : (catL ss).length ≤ 1000000000) :
    Calls Try.prog 20/-f-/ #[.pointer (some ⟨d, 0, none⟩), .string s, .slice A ss.length c] w fun e w' => e = .returned (.int .i64 (appE p fl s ss)) ∧ Dsk w' base d (useP p).2 (appF p fl s ss) ∧ Fra base w w' := by
  have hds := h.size
  have hW : Below w.heap.size w (w.alloc (.cells #[.string s] 9)) := below_al w _
  obtain ⟨W, hWd⟩ : ∃ W, W = w.alloc (.cells #[.string s] 9) := ⟨_, rfl⟩
  have hS1 : Strs W (some ⟨w.heap.size, 0, none⟩) [s] := by rw [hWd]; exact (StrT.one w _ s rfl).strs
  rw [← hWd] at hW
  have hD1 := h.below hW
  have hF1 : Fra base w W := Fra.of (by omega) hW
  have BG := Lib.hid (begin_any base d p fl (some ⟨w.heap.size, 0, none⟩) 1 1 [s] W hD1 hS1 rfl (by decide) (fun b off e _ => by cases e; omega))
  have hFd : ∀ w2, Off (· = d) W w2 → Fra base W w2 := fun w2 ho => by
    obtain ⟨b, D, h1, h2, h3⟩ := hD1
    exact Fra.off_d h1 (by have := h2.lt; omega) h2 ho
  have HFD := Lib.hid hFd
  have HF1 := Lib.hid hF1
  have HWD := Lib.hid hWd
  have HA := Lib.hid hA
  have hrr : Roo (useP p).2 := by unfold Roo; rw [useP_room]; exact hr
  have HRR := Lib.hid hrr
  obtain ⟨p1, hp1⟩ : ∃ p1, p1 = (useP p).2 := ⟨_, rfl⟩
  obtain ⟨E, hE⟩ : ∃ E, E = beginE p [s] := ⟨_, rfl⟩
  rw [← hp1] at BG HRR
  rw [← hE] at BG
  rw [← hp1]
  have HP1 := Lib.hid hp1
  have HE := Lib.hid hE
  clear hW hS1 hD1 hF1 hFd hWd hA hrr hp1 hE h hr
  by_cases h0 : E = 0
  · subst h0
    --CASE
    go_enter Try.func20, Try.ntmps20
    go_upto_region 1 with (fail)
    go_upto_region 4 with (go_at_call 41/-f-/; rw [← HWD.out]; (with_reducible refine BG.out.mono ?_); rintro e w2 ⟨rfl, hb, ho⟩; have HB := Lib.hid hb; have HFW := Lib.hid (HF1.out.trans (HFD.out _ ho)); clear hb ho)
    go_wp2
    have HA2 := Lib.hid (HA.out.fra HFW.out)
    obtain ⟨i0, hi, hz0, hz1, hz2⟩ := info_parts infoU8
    go_loop [8, 10, 24] (fun m _ i => ∃ k : Nat, k ≤ ss.length ∧ i = .int .i64 k ∧ m = .int .i64 ((catL (ss.take k)).length : Nat)) (fun _ _ i => ss.length - (intOf i).toNat)
    case atStart => exact ⟨0, Nat.zero_le _, rfl, rfl⟩
    case round =>
      obtain ⟨k, hk, rfl, rfl⟩ := hrel
      by_cases hlt : k < ss.length
      · have HT := Lib.hid (catL_take ss k hlt)
        have hcl := catL_le ss (k + 1)
        rw [HT.out, List.length_append] at hcl
        rcases HA2.out with hx | ⟨q, off, rfl, _, hcell⟩
        · subst hx; simp at hlt
        have x0 := hcell k hlt
        have hki : (k : Int) < (ss.length : Int) := by omega
        clear hcell
        generalize ss.getD k ⟨#[]⟩ = x at *
        have hxs : x.data.toList.length = x.size := by rw [Array.length_toList]; rfl
        go_wp2
        go_round
        case rel => exact ⟨k + 1, hlt, by go_num, by rw [HT.out, List.length_append, hxs]; go_num⟩
        case measure => simp [intOf]; omega
      · have hkl : k = ss.length := by omega
        subst hkl
        rw [List.take_length]
        obtain ⟨b, D, h1, h2, h3⟩ := HB.out
        have SZ := Lib.hid (size_any base d b D p1 fl s w2 h2 h3 hs)
        have hdl := datL_le h3 s.data.toList
        obtain ⟨L, hL⟩ : ∃ L, L = (catL ss).length := ⟨_, rfl⟩
        rw [← hL] at hc ⊢
        have FI := Lib.hid (fits_any base d p1 fl s ((datL fl s.data.toList : Nat) + (L : Nat)) L w2 HB.out HRR.out hs)
        obtain ⟨F, hF⟩ : ∃ F, F = fitE p1 fl s.data.toList ((datL fl s.data.toList : Nat) + (L : Nat)) L := ⟨_, rfl⟩
        rw [← hF] at FI
        have HAE := Lib.hid (show appE p fl s ss = F from by unfold appE; rw [← HE.out, if_pos rfl, ← HP1.out, hF, hL])
        have H2 := Lib.hid h2
        have H3 := Lib.hid h3
        have HF := Lib.hid hF
        have HL := Lib.hid hL
        clear h2 h3 hF hL
        by_cases hF0 : F = 0
        · subst hF0
          obtain ⟨ok1, ok2, ok3⟩ := fitE_ok HF.out.symm
          go_upto_region 13 with (first
            | (go_at_call 43/-f-/; (with_reducible refine SZ.out.mono ?_); rintro e w3 ⟨rfl, rfl⟩)
            | (go_at_call 42/-f-/; (with_reducible refine FI.out.mono ?_); rintro e w4 ⟨rfl, hb4⟩; have HB4 := Lib.hid hb4; clear hb4))
          have hDB := H2.out.below HB4.out H2.out.lt
          have hFB := H3.out.below HB4.out
          have hw2 := HB.out.size
          have hw4 := HB4.out.size
          have HFW4 := Lib.hid (HFW.out.trans (Fra.of (by omega) HB4.out))
          have hdat : (datF fl s.data.toList).length + (catL ss).length ≤ 1048576 := by rw [datF_len, ← HL.out]; omega
          have HPF := Lib.hid (show ∀ flx dat0 kept0, flx = hasF fl s.data.toList → dat0 = datF fl s.data.toList → kept0 = keptL fl s.data.toList → appF p fl s ss = setF flx ⟨s.data.toList, dat0 ++ catL ss, kept0⟩ from fun _ _ _ h1 h2 h3 => by unfold appF; rw [HAE.out, if_pos rfl, h1, h2, h3])
          obtain ⟨c0, c1, c2, c3, c4, c5, hf, hlt4⟩ := blk6 hDB
          clear c0 c1 c2 c3 c4 hf
          rcases hFB.look s hs with ⟨g1, g2, hlk⟩ | ⟨f, g, A1, cc1, g1, g2, g3, hlk⟩
          · obtain ⟨W5, hW5⟩ : ∃ W5, W5 = w4.alloc (.cells #[.slice none 0 0, .int .i64 0] 74) := ⟨_, rfl⟩
            have hb5 : Below w4.heap.size w4 W5 := by rw [hW5]; exact below_al w4 _
            have hfile : Blk W5 w4.heap.size 74 #[.slice none 0 0, .int .i64 0] := by rw [hW5]; exact Blk.new _ _ _
            have hs5 : W5.heap.size = w4.heap.size + 1 := by rw [hW5]; simp
            have hDB5 := hDB.below hb5 hDB.lt
            have hFB5 := hFB.below hb5
            have hml := hFB5.len
            have hl100 := hFB5.lens
            have LAY := Lib.hid (lay_any d b w4.heap.size D p1 s W5 hDB5 hFB5.own (by unfold maxLen; omega) hs)
            have HAPX := Lib.hid (show ∀ w6, w6.ownsMap Try.prog 9 Rp b (Maps.size D + 1) (D.put (.string s.data.toList) (.lit (.int .i64 w4.heap.size))) → W5.grownBy w6 (some b) → ∃ D' flx dat0 kept0, Apd w w6 base d b p1 D' flx s.data.toList w4.heap.size dat0 kept0 ∧ flx = hasF fl s.data.toList ∧ dat0 = datF fl s.data.toList ∧ kept0 = keptL fl s.data.toList from fun w6 hown6 hg6 => by
              obtain ⟨es, clk, hmb, _⟩ := hFB5.own
              have hfit := beginE_ok HE.out.symm
              have hfls := hFB5.add (nm := s.data.toList) (dat := []) (kept := 0) (v := .slice none 0 0) hg6 hown6 (Fil.turn ⟨by omega, hfile, rfl, .inl ⟨rfl, rfl⟩⟩ hFB5.own hg6) g2 (fun nm' e => by
                obtain ⟨f', hf', heq⟩ := List.mem_map.1 ((hFB.mem nm').2 ⟨_, e⟩)
                obtain ⟨g', v', a1, a2, a3, _⟩ := hFB.file f' hf'
                rw [heq, e] at a1
                have := a3.lt
                have := Option.some.inj a1
                omega) (fun i _ _ _ _ _ _ hv => by cases hv) (ok2 g1) ⟨hfit.1, hfit.2, by simp, by simp⟩
              refine ⟨_, _, [], 0, ⟨h1, blk_grown hDB5 hg6 (fun e => map_ne hFB5.own hDB5 (Option.some.inj e)), hfls, fget_mem hfls.nodup ⟨s.data.toList, [], 0⟩ (mem_insF.2 (.inl rfl)), by rw [fAt_put hFB5.isMap]; simp, ?_, by omega⟩, by unfold hasF; rw [if_pos g1], by simp [datF, g1], by simp [keptL, g1]⟩
              exact (HFW4.out.trans (Fra.of (by omega) hb5)).trans (Fra.map hg6 hmb (by omega) hFB5.hb))
            have HW5 := Lib.hid hW5
            clear hW5 hb5 hfile hDB5 hFB5 hDB hFB hml hl100
            go_upto_region 17 with (go_at_call 44/-f-/; rw [← HW5.out]; (with_reducible refine LAY.out.mono ?_); rintro e w6 ⟨rfl, hown6, hg6⟩; obtain ⟨D', flx, dat0, kept0, hap, hx1, hx2, hx3⟩ := HAPX.out w6 hown6 hg6; have AP := Lib.hid hap; have HAF := Lib.hid (HPF.out flx dat0 kept0 hx1 hx2 hx3); rw [← hx2] at hdat; clear hown6 hg6 hap hx1 hx2 hx3)
            clear c5 hlk hlt4
            go_wp2
            go_loopw [14, 61] (fun _ i wr => ∃ k : Nat, k ≤ ss.length ∧ i = .int .i64 k ∧ Hid (Apd w wr base d b p1 D' (setF flx ⟨s.data.toList, dat0 ++ catL (ss.take k), kept0⟩) s.data.toList w4.heap.size (dat0 ++ catL (ss.take k)) kept0)) (fun _ i _ => ss.length - (intOf i).toNat)
            case atStart => exact ⟨0, Nat.zero_le _, rfl, Lib.hid (by rw [show catL (ss.take 0) = [] from rfl, List.append_nil, setF_self AP.out.fls.nodup AP.out.get]; exact AP.out)⟩
            case round =>
              obtain ⟨k, hk, rfl, hap⟩ := hrel
              by_cases hlt : k < ss.length
              · have HT := Lib.hid (catL_take ss k hlt)
                have hcl := catL_le ss (k + 1)
                rw [HT.out, List.length_append] at hcl
                obtain ⟨dk, hdk⟩ : ∃ dk, dk = dat0 ++ catL (ss.take k) := ⟨_, rfl⟩
                have hdl2 : dk.length = dat0.length + (catL (ss.take k)).length := by rw [hdk, List.length_append]
                rw [← hdk] at hap
                have HDK := Lib.hid hdk
                clear hdk
                rcases HA.out.fra hap.out.fra with hx | ⟨q, off, rfl, _, hcell⟩
                · subst hx; simp at hlt
                have x0 := hcell k hlt
                have hki : (k : Int) < (ss.length : Int) := by omega
                obtain ⟨g', v, e1, e2, e3, e4⟩ := hap.out.fls.get hap.out.get
                rw [hap.out.at_] at e1
                obtain rfl := Option.some.inj e1
                replace e4 : Row8 wr base v dk := e4
                replace e3 : Blk wr w4.heap.size 74 #[v, .int .i64 kept0] := e3
                obtain ⟨y0, y1, yf, _, yl⟩ := blk2 e3
                have HE3 := Lib.hid e3
                have HE4 := Lib.hid e4
                have hbs : base ≤ wr.heap.size := Nat.le_trans hap.out.sz hap.out.fra.size
                obtain ⟨A1, c1, rfl⟩ := own_slice e4
                clear hcell e3 e4 y1
                generalize ss.getD k ⟨#[]⟩ = x at *
                have hxs : x.data.toList.length = x.size := by rw [Array.length_toList]; rfl
                have hbig : dk.length + x.size ≤ 1048576 := by omega
                clear hdl2 hxs
                go_wp2_with (first
                  | (at_builtin; refine wpList_append_str _ rfl _ _ 57 9 rfl base 5 i0 Try.underlying57 Try.underlying9 hi hz0 hz1 hz2 _ _ (cells8 (dk)) rfl HE4.out x rfl (by unfold maxLen; omega) (by omega) hbs ?_; intro v' w5 hown' hgr hloc; obtain ⟨A2, c2, rfl⟩ := own_slice hown'; have HAP := Lib.hid (hap.out.step HE3.out hown' hgr hloc hbig); have yf2 : w5.frozen? ⟨w4.heap.size, 0, none⟩ = false := (blk2 (blk_grown HE3.out hgr (fun e => by
                      obtain ⟨cur, hcc, _⟩ := own_cells_of HE4.out e
                      have hb3 := HE3.out
                      unfold Blk at hb3; rw [hb3] at hcc; simp at hcc))).2.2.1; have yl2 : w4.heap.size < w5.heap.size := Nat.lt_of_lt_of_le yl hgr.size; have ym : (w5.cell? ⟨w4.heap.size, 0, none⟩) = some (.slice A1 dk.length c1) := (blk2 (blk_grown HE3.out hgr (fun e => by
                      obtain ⟨cur, hcc, _⟩ := own_cells_of HE4.out e
                      have hb3 := HE3.out
                      unfold Blk at hb3; rw [hb3] at hcc; simp at hcc))).1; clear hown' hgr hloc)
                  | go_in)
                go_roundw
                case rel => exact ⟨k + 1, hlt, by go_num, Lib.hid (by rw [HT.out, ← List.append_assoc, ← HDK.out]; have := HAP.out; rw [setF_setF _ (by rfl)] at this; exact this)⟩
                case measure => simp [intOf]; omega
              · have hkl : k = ss.length := by omega
                subst hkl
                rw [List.take_length] at hap
                go_wp2
                go_ret
                exact ⟨ret_int (by rw [HAE.out]), ⟨b, D', hap.out.le, hap.out.disk, by rw [HAF.out]; exact hap.out.fls⟩, hap.out.fra⟩
          · obtain ⟨hfm, hfn⟩ := fget_some g1
            have hgf : fget fl s.data.toList = some ⟨s.data.toList, f.dat, f.kept⟩ := by rw [g1, ← hfn]
            obtain ⟨dat0, hx2⟩ : ∃ x, x = f.dat := ⟨_, rfl⟩
            obtain ⟨kept0, hx3⟩ : ∃ x, x = f.kept := ⟨_, rfl⟩
            obtain ⟨D', hx4⟩ : ∃ x, x = D := ⟨_, rfl⟩
            obtain ⟨flx, hx5⟩ : ∃ x, x = fl := ⟨_, rfl⟩
            have AP := Lib.hid (show Apd w w4 base d b p1 D' flx s.data.toList g dat0 kept0 from by rw [hx2, hx3, hx4, hx5]; exact ⟨h1, hDB, hFB, hgf, g2, HFW4.out, by omega⟩)
            have HAF := Lib.hid (HPF.out flx dat0 kept0 (by rw [hx5]; unfold hasF; rw [g1]; rfl) (by rw [hx2]; simp [datF, g1]) (by rw [hx3]; simp [keptL, g1]))
            replace hdat : dat0.length + (catL ss).length ≤ 1048576 := by rw [hx2]; simpa [datF, g1] using hdat
            clear hx2 hx3 hx4 hx5 hgf hfm hfn g1 g2 g3 hDB hFB
            go_upto_region 17 with (fail)
            clear c5 hlk hlt4
            go_wp2
            go_loopw [14, 61] (fun _ i wr => ∃ k : Nat, k ≤ ss.length ∧ i = .int .i64 k ∧ Hid (Apd w wr base d b p1 D' (setF flx ⟨s.data.toList, dat0 ++ catL (ss.take k), kept0⟩) s.data.toList g (dat0 ++ catL (ss.take k)) kept0)) (fun _ i _ => ss.length - (intOf i).toNat)
            case atStart => exact ⟨0, Nat.zero_le _, rfl, Lib.hid (by rw [show catL (ss.take 0) = [] from rfl, List.append_nil, setF_self AP.out.fls.nodup AP.out.get]; exact AP.out)⟩
            case round =>
              obtain ⟨k, hk, rfl, hap⟩ := hrel
              by_cases hlt : k < ss.length
              · have HT := Lib.hid (catL_take ss k hlt)
                have hcl := catL_le ss (k + 1)
                rw [HT.out, List.length_append] at hcl
                obtain ⟨dk, hdk⟩ : ∃ dk, dk = dat0 ++ catL (ss.take k) := ⟨_, rfl⟩
                have hdl2 : dk.length = dat0.length + (catL (ss.take k)).length := by rw [hdk, List.length_append]
                rw [← hdk] at hap
                have HDK := Lib.hid hdk
                clear hdk
                rcases HA.out.fra hap.out.fra with hx | ⟨q, off, rfl, _, hcell⟩
                · subst hx; simp at hlt
                have x0 := hcell k hlt
                have hki : (k : Int) < (ss.length : Int) := by omega
                obtain ⟨g', v, e1, e2, e3, e4⟩ := hap.out.fls.get hap.out.get
                rw [hap.out.at_] at e1
                obtain rfl := Option.some.inj e1
                replace e4 : Row8 wr base v dk := e4
                replace e3 : Blk wr g 74 #[v, .int .i64 kept0] := e3
                obtain ⟨y0, y1, yf, _, yl⟩ := blk2 e3
                have HE3 := Lib.hid e3
                have HE4 := Lib.hid e4
                have hbs : base ≤ wr.heap.size := Nat.le_trans hap.out.sz hap.out.fra.size
                obtain ⟨A1, c1, rfl⟩ := own_slice e4
                clear hcell e3 e4 y1
                generalize ss.getD k ⟨#[]⟩ = x at *
                have hxs : x.data.toList.length = x.size := by rw [Array.length_toList]; rfl
                have hbig : dk.length + x.size ≤ 1048576 := by omega
                clear hdl2 hxs
                go_wp2_with (first
                  | (at_builtin; refine wpList_append_str _ rfl _ _ 57 9 rfl base 5 i0 Try.underlying57 Try.underlying9 hi hz0 hz1 hz2 _ _ (cells8 (dk)) rfl HE4.out x rfl (by unfold maxLen; omega) (by omega) hbs ?_; intro v' w5 hown' hgr hloc; obtain ⟨A2, c2, rfl⟩ := own_slice hown'; have HAP := Lib.hid (hap.out.step HE3.out hown' hgr hloc hbig); have yf2 : w5.frozen? ⟨g, 0, none⟩ = false := (blk2 (blk_grown HE3.out hgr (fun e => by
                      obtain ⟨cur, hcc, _⟩ := own_cells_of HE4.out e
                      have hb3 := HE3.out
                      unfold Blk at hb3; rw [hb3] at hcc; simp at hcc))).2.2.1; have yl2 : g < w5.heap.size := Nat.lt_of_lt_of_le yl hgr.size; have ym : (w5.cell? ⟨g, 0, none⟩) = some (.slice A1 dk.length c1) := (blk2 (blk_grown HE3.out hgr (fun e => by
                      obtain ⟨cur, hcc, _⟩ := own_cells_of HE4.out e
                      have hb3 := HE3.out
                      unfold Blk at hb3; rw [hb3] at hcc; simp at hcc))).1; clear hown' hgr hloc)
                  | go_in)
                go_roundw
                case rel => exact ⟨k + 1, hlt, by go_num, Lib.hid (by rw [HT.out, ← List.append_assoc, ← HDK.out]; have := HAP.out; rw [setF_setF _ (by rfl)] at this; exact this)⟩
                case measure => simp [intOf]; omega
              · have hkl : k = ss.length := by omega
                subst hkl
                rw [List.take_length] at hap
                go_wp2
                go_ret
                exact ⟨ret_int (by rw [HAE.out]), ⟨b, D', hap.out.le, hap.out.disk, by rw [HAF.out]; exact hap.out.fls⟩, hap.out.fra⟩
        · have hne : (F == 0) = false := beq_eq_false_iff_ne.2 hF0
          have hne2 : (F != 0) = true := by simp [bne, hne]
          have HAF := Lib.hid (show appF p fl s ss = fl from by unfold appF; rw [HAE.out, if_neg hF0])
          clear hF0 hne
          go_wp2_with (first
            | (go_at_call 43/-f-/; (with_reducible refine SZ.out.mono ?_); rintro e w3 ⟨rfl, rfl⟩)
            | (go_at_call 42/-f-/; (with_reducible refine FI.out.mono ?_); rintro e w4 ⟨rfl, hb4⟩; have HB4 := Lib.hid hb4; clear hb4))
          go_ret
          exact ⟨ret_int (by rw [HAE.out]), by rw [HAF.out]; exact HB.out.below HB4.out, HFW.out.trans (Fra.of (by have := HB.out.size; omega) HB4.out)⟩
    --ESAC
  · have hne : (E == 0) = false := beq_eq_false_iff_ne.2 h0
    have hne2 : (E != 0) = true := by simp [bne, hne]
    have HX := Lib.hid (show appE p fl s ss = E ∧ appF p fl s ss = fl from by
      have : appE p fl s ss = E := by unfold appE; rw [← HE.out, if_neg h0]
      exact ⟨this, by unfold appF; rw [this, if_neg h0]⟩)
    clear h0 hne
    go_enter Try.func20, Try.ntmps20
    go_upto_region 1 with (fail)
    go_wp2_with (go_at_call 41/-f-/; rw [← HWD.out]; (with_reducible refine BG.out.mono ?_); rintro e w2 ⟨rfl, hb, ho⟩; have HB := Lib.hid hb; have HO := Lib.hid ho; clear hb ho)
    go_ret
    exact ⟨ret_int (by rw [HX.out.1]), by rw [HX.out.2]; exact HB.out, HF1.out.trans (HFD.out _ HO.out)⟩
end Go.Proofs.Ytlhfamdandpkgaa
