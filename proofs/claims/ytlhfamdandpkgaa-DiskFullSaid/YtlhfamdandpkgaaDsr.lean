/- Rename: a file's name. -/
import Derived.Test.YtlhfamdandpkgaaDsp
namespace Go.Proofs.Ytlhfamdandpkgaa
open Go.ChangeShapes Go.WideShapes Go.ChangeAt Go.RowKit Go.Maps
def renE (p : Pw) (fl : List FRec) (s t : ByteArray) : Int := if beginE p [s, t] = 0 then (if fget fl s.data.toList = none then 8 else 0) else beginE p [s, t]
def putF (fl : List FRec) (f : FRec) : List FRec := if fget fl f.nm = none then insF fl f else setF fl f
def renF (p : Pw) (fl : List FRec) (s t : ByteArray) : List FRec := if renE p fl s t = 0 then putF (dropF fl s.data.toList) ⟨t.data.toList, datF fl s.data.toList, keptL fl s.data.toList⟩ else fl
theorem beginE_two {p : Pw} {s t : ByteArray} (h : beginE p [s, t] = 0) : (s.size ≤ 20) ∧ 0 < t.size ∧ t.size ≤ 20 := by
  unfold beginE at h
  split at h
  · cases h
  · split at h
    · rename_i h2
      simp [mayB] at h2
      exact ⟨h2.1.2, h2.2.1, h2.2.2⟩
    · cases h
theorem dropF_lt {fl : List FRec} {nm : List UInt8} {f : FRec} (h : fget fl nm = some f) : (dropF fl nm).length < fl.length := by
  unfold dropF
  obtain ⟨h1, h2⟩ := fget_some h
  rw [List.length_filter_lt_length_iff_exists]
  exact ⟨f, h1, by simp [h2]⟩
/-- A file has another name now. -/
theorem Fls.moved {w w3 w4 : World} {base b : Nat} {D : DataW Unit} {fl : List FRec} (h : Fls w base b D fl) {nm tm : List UInt8} {f : FRec} {g : Nat} {v : Value} {n n' : Nat} (hf : fget fl nm = some f) (hg : fAt D nm = some g) (hfil : Fil w base g v f.dat f.kept)
    (hown3 : w3.ownsMap Try.prog 9 Rp b n (D.del (.string nm))) (hm3 : w.grownBy w3 (some b)) (hown4 : w4.ownsMap Try.prog 9 Rp b n' ((D.del (.string nm)).put (.string tm) (.lit (.int .i64 g)))) (hm4 : w3.grownBy w4 (some b)) (ht : 0 < tm.length ∧ tm.length ≤ 20) :
    Fls w4 base b ((D.del (.string nm)).put (.string tm) (.lit (.int .i64 g))) (putF (dropF fl nm) ⟨tm, f.dat, f.kept⟩) := by
  have h3 := h.drop hm3 hown3
  have hf3 := hfil.turn h.own hm3
  have hf4 := hf3.turn h3.own hm4
  have hfit := h.fits f (fget_some hf).1
  have hfresh : ∀ nm', fAt (D.del (.string nm)) nm' ≠ some g := fun nm' e => by
    rw [fAt_del] at e
    by_cases a : nm' = nm
    · rw [if_pos a] at e; cases e
    · rw [if_neg a] at e; exact a (h.inj _ _ g e hg)
  have hrow : ∀ i nm' g' v' k', fAt (D.del (.string nm)) nm' = some g' → Blk w3 g' 74 #[v', k'] → v.ownBlock = some i → v'.ownBlock ≠ some i := fun i nm' g' v' k' e hB hv => by
    rw [fAt_del] at e
    by_cases a : nm' = nm
    · rw [if_pos a] at e; cases e
    · rw [if_neg a] at e
      exact h.apart nm nm' g g' v v' _ k' i (fun e => a e.symm) hg e hfil.2.1 (h.back hm3 e hB) hv
  unfold putF
  cases hx : fget (dropF fl nm) tm with
  | none =>
    rw [if_pos rfl]
    exact h3.add hm4 hown4 hf4 ((h3.none_iff tm).2 hx) hfresh hrow (by have := dropF_lt hf; have := h.lens; omega) ⟨ht.1, ht.2, hfit.2.2.1, hfit.2.2.2⟩
  | some f' =>
    rw [if_neg (by simp)]
    exact h3.replace hx hm4 hown4 hf4 (fun nm' e => absurd e (hfresh nm')) (fun i nm' g' v' k' _ => hrow i nm' g' v' k') ⟨hfit.2.2.1, hfit.2.2.2⟩
set_option maxRecDepth 100000 in
set_option maxHeartbeats 16000000 in
theorem rename_any (base d : Nat) (p : Pw) (fl : List FRec) (s t : ByteArray) (w : World) (h : Dsk w base d p fl) (hs : s.size ≤ maxLen) :
    Calls Try.prog 27/-f-/ #[.pointer (some ⟨d, 0, none⟩), .string s, .string t] w fun e w' => e = .returned (.int .i64 (renE p fl s t)) ∧ Dsk w' base d (useP p).2 (renF p fl s t) ∧ Fra base w w' := by
  have hds := h.size
  have hW : Below w.heap.size w (w.alloc (.cells #[.string s, .string t] 9)) := below_al w _
  obtain ⟨W, hWd⟩ : ∃ W, W = w.alloc (.cells #[.string s, .string t] 9) := ⟨_, rfl⟩
  have hS1 : Strs W (some ⟨w.heap.size, 0, none⟩) [s, t] := by rw [hWd]; exact (StrT.two w _ s t rfl).strs
  rw [← hWd] at hW
  have hD1 := h.below hW
  have hF1 : Fra base w W := Fra.of (by omega) hW
  have BG := Lib.hid (begin_any base d p fl (some ⟨w.heap.size, 0, none⟩) 2 2 [s, t] W hD1 hS1 rfl (by decide) (fun b off e _ => by cases e; omega))
  have HFD := Lib.hid (show ∀ w2, Off (· = d) W w2 → Fra base W w2 from fun w2 ho => by
    obtain ⟨b, D, h1, h2, h3⟩ := hD1
    exact Fra.off_d h1 (by have := h2.lt; omega) h2 ho)
  have HF1 := Lib.hid hF1
  have HWD := Lib.hid hWd
  have hbw : base ≤ w.heap.size := by omega
  obtain ⟨p1, hp1⟩ : ∃ p1, p1 = (useP p).2 := ⟨_, rfl⟩
  obtain ⟨E, hE⟩ : ∃ E, E = beginE p [s, t] := ⟨_, rfl⟩
  rw [← hp1] at BG
  rw [← hE] at BG
  rw [← hp1]
  have HE := Lib.hid hE
  clear hW hS1 hD1 hF1 hWd hp1 hE h
  by_cases h0 : E = 0
  · subst h0
    have hok := beginE_two HE.out.symm
    have ht20 : t.size ≤ maxLen := by unfold maxLen; omega
    go_enter Try.func27, Try.ntmps27
    go_upto_region 1 with (fail)
    go_upto_region 4 with (go_at_call 41/-f-/; rw [← HWD.out]; (with_reducible refine BG.out.mono ?_); rintro e w2 ⟨rfl, hb, ho⟩; have HB := Lib.hid hb; have HFW := Lib.hid (HF1.out.trans (HFD.out _ ho)); clear hb ho)
    obtain ⟨b, D, h1, h2, h3⟩ := HB.out
    obtain ⟨c0, c1, c2, c3, c4, c5, hf, hlt⟩ := blk6 h2
    have H2 := Lib.hid h2
    have H3 := Lib.hid h3
    clear h2 c0 c1 c2 c3 c4 hf
    rcases h3.look s hs with ⟨g1, g2, hlk⟩ | ⟨f, g, A1, cc1, g1, g2, g3, hlk⟩
    · have HX := Lib.hid (show renE p fl s t = 8 ∧ renF p fl s t = fl from by
        have : renE p fl s t = 8 := by unfold renE; rw [← HE.out, if_pos rfl, if_pos g1]
        exact ⟨this, by unfold renF; rw [this]; rfl⟩)
      clear g1 g2 h3
      go_wp2
      go_ret
      exact ⟨ret_int (by rw [HX.out.1]), by rw [HX.out.2]; exact HB.out, HFW.out⟩
    · have HX := Lib.hid (show renE p fl s t = 0 ∧ renF p fl s t = putF (dropF fl s.data.toList) ⟨t.data.toList, f.dat, f.kept⟩ from by
        have : renE p fl s t = 0 := by unfold renE; rw [← HE.out, if_pos rfl, if_neg (by rw [g1]; simp)]
        exact ⟨this, by unfold renF; rw [this, if_pos rfl]; simp [datF, keptL, g1]⟩)
      have G1 := Lib.hid g1
      have G2 := Lib.hid g2
      have G3 := Lib.hid g3
      have hml : Maps.size D < maxLen := by have := h3.len; have := h3.lens; unfold maxLen; omega
      clear g1 g2 g3 h3
      go_wp2_with (first
        | (at_delete; refine wpList_delete_own _ rfl _ _ 63 9 rfl 72 (string_keyed Try.underlying9) Try.underlying63 Rp b (Maps.size D) D rfl H3.out.own _ (.string s.data.toList) rfl (key_str Try.underlying9 s hs) ?_; intro w3 hown3 hturn3; have O3 := Lib.hid hown3; have M3 := Lib.hid hturn3.grown; have K3 := Lib.hid (blk_grown H2.out hturn3.grown (fun e => map_ne H3.out.own H2.out (Option.some.inj e))); have d5 := (blk6 K3.out).2.2.2.2.2.1; have dlt := K3.out.lt; clear hown3 hturn3)
        | (at_mapUpdate; refine wpList_mapUpdate_own _ rfl _ _ _ 63 rfl 9 72 (string_keyed Try.underlying9) Try.underlying63 Rp b (Maps.size D) (D.del (.string s.data.toList)) rfl O3.out hml _ _ (.string t.data.toList) rfl rfl (key_str Try.underlying9 t ht20) (.lit (.int .i64 g)) [] rfl ?_; intro w4 hown4 hg4; have O4 := Lib.hid hown4; have M4 := Lib.hid hg4; clear hown4 hg4)
        | go_in)
      go_ret
      have hfl := H3.out.moved G1.out G2.out G3.out O3.out M3.out O4.out M4.out ⟨by rw [Array.length_toList]; exact hok.2.1, by rw [Array.length_toList]; exact hok.2.2⟩
      obtain ⟨es, clk, hmb, _⟩ := H3.out.own
      obtain ⟨es2, clk2, hmb2, _⟩ := O3.out
      have hw2 := HFW.out.size
      have hw3 := M3.out.size
      refine ⟨ret_int (by rw [HX.out.1]), ⟨b, _, h1, blk_grown K3.out M4.out (fun e => map_ne O3.out K3.out (Option.some.inj e)), by rw [HX.out.2]; exact hfl⟩, (HFW.out.trans (Fra.map M3.out hmb (by omega) H3.out.hb)).trans (Fra.map M4.out hmb2 (by omega) H3.out.hb)⟩
  · have hne : (E == 0) = false := beq_eq_false_iff_ne.2 h0
    have hne2 : (E != 0) = true := by simp [bne, hne]
    have HX := Lib.hid (show renE p fl s t = E ∧ renF p fl s t = fl from by
      have : renE p fl s t = E := by unfold renE; rw [← HE.out, if_neg h0]
      exact ⟨this, by unfold renF; rw [this, if_neg h0]⟩)
    clear h0 hne
    go_enter Try.func27, Try.ntmps27
    go_upto_region 1 with (fail)
    go_wp2_with (go_at_call 41/-f-/; rw [← HWD.out]; (with_reducible refine BG.out.mono ?_); rintro e w2 ⟨rfl, hb, ho⟩; have HB := Lib.hid hb; have HO := Lib.hid ho; clear hb ho)
    go_ret
    exact ⟨ret_int (by rw [HX.out.1]), by rw [HX.out.2]; exact HB.out, HF1.out.trans (HFD.out _ HO.out)⟩
end Go.Proofs.Ytlhfamdandpkgaa
