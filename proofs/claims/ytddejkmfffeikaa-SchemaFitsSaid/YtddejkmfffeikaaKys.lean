/- Contracts of package schema: the keys by all indexes; the partition. -/
import Derived.Test.YtddejkmfffeikaaRfk
import Derived.Deep.RegionHeld3
namespace Go.Proofs.Ytddejkmfffeikaa
open Go.ChangeShapes Go.WideShapes Go.ChangeAt Go.RowKit
theorem own_stays {W W' : World} {B e size n : Nat} {v : Value} {xs : List Value} (h : W.ownsRow B e size v n xs) (hb : Below W.heap.size W W') : W'.ownsRow B e size v n xs := by
  obtain ⟨h0, h⟩ := h
  refine ⟨h0, ?_⟩
  rcases h with h | ⟨g, cap, cur, hv, hb2, hh, hr⟩
  · exact .inl h
  · exact .inr ⟨g, cap, cur, hv, hb2, by rw [hb.block g (Blk.lt hh)]; exact hh, hr⟩
theorem chk_ok {s : Sch} {vs : List Val} (h : chkE s vs = 0) : schB s = true ∧ fitsB s.cols vs = true := by
  unfold chkE at h
  by_cases h1 : schB s = true
  · by_cases h2 : fitsB s.cols vs = true
    · exact ⟨h1, h2⟩
    · rw [if_pos h1, if_neg h2] at h; omega
  · rw [if_neg h1] at h; omega
theorem fits_both {cs : List Col} {vs : List Val} (h : fitsB cs vs = true) : vs.length = cs.length ∧ rall vs = true := by
  unfold fitsB at h
  simp only [Bool.and_eq_true, decide_eq_true_eq] at h
  exact h.1
def partV (s : Sch) (vs : List Val) : Int := if chkE s vs = 0 then spreadV (vs.getD s.by_.toNat default) s.parts.toNat else 0
set_option maxRecDepth 100000 in
set_option maxHeartbeats 16000000 in
theorem part_any (v : Value) (s : Sch) (D : Option Addr) (n cd : Nat) (vs : List Val) (w : World) (hv : SchV w v s) (hf : FitS s) (hA : Vals w D vs) (hn : vs.length = n) (hfv : ∀ x ∈ vs, FitV x) (hs : n ≤ 1000) :
    Calls Try.prog 22/-f-/ #[v, .slice D n cd] w fun e w' => e = .returned (.tuple #[.int .i64 (partV s vs), .int .i64 (chkE s vs)]) ∧ Below w.heap.size w w' := by
  subst hn
  have HV := Lib.hid hv
  have HF := Lib.hid hf
  have HA := Lib.hid hA
  have HFV := Lib.hid hfv
  obtain ⟨A, B, c, d, rfl, hC, hI, hc, hd⟩ := hv.is
  have HB0 := Lib.hid ((Below.refl w.heap.size w).alloc (Nat.le_refl _) (.cells #[.string s.nm, .slice A s.cols.length c, .slice B s.idx.length d, .int .i64 s.limit, .int .i64 s.parts, .int .i64 s.by_] 25))
  have BL := Lib.hid (Blk.new w 25 #[.string s.nm, .slice A s.cols.length c, .slice B s.idx.length d, .int .i64 s.limit, .int .i64 s.parts, .int .i64 s.by_])
  have HI := Lib.hid hI
  have C1' := fun W hW hW2 => check_any (.agg #[.string s.nm, .slice A s.cols.length c, .slice B s.idx.length d, .int .i64 s.limit, .int .i64 s.parts, .int .i64 s.by_]) s D vs.length cd vs W hW HF.out hW2 rfl HFV.out hs
  obtain ⟨E, hE⟩ : ∃ E, E = chkE s vs := ⟨_, rfl⟩
  rw [← hE] at C1' ⊢
  have C1 := Lib.hid C1'
  have HE := Lib.hid hE
  clear C1' hE hC hI hA hfv hf hv
  obtain ⟨R, hR⟩ : ∃ R, R = partV s vs := ⟨_, rfl⟩
  rw [← hR]
  have HR := Lib.hid hR
  clear hR
  by_cases h0 : E = 0
  · subst h0
    have HOK := Lib.hid (chk_ok HE.out.symm)
    have HP := Lib.hid (schB_parts HOK.out.1)
    have hvl := (fits_both HOK.out.2).1
    obtain ⟨p, hp⟩ : ∃ p : Nat, s.by_ = p := ⟨s.by_.toNat, by have := HP.out.b0; omega⟩
    obtain ⟨m, hm⟩ : ∃ m : Nat, s.parts = m := ⟨s.parts.toNat, by have := HP.out.p1; omega⟩
    have hpl : p < vs.length := by have := HP.out.b1; omega
    have hm0 : 0 < m := by have := HP.out.p1; omega
    have hm1 : m ≤ 1000000 := by have := HP.out.p8; omega
    have hpi : (p : Int) < vs.length := by omega
    rcases HA.out with h | ⟨b, off, rfl, hbw, hcell⟩
    · rw [h] at hpl; simp at hpl
    obtain ⟨x0, x1, x2⟩ := hcell p hpl
    have hmem := getD_mem vs p hpl
    have hrr : rightB (vs.getD p default).k (vs.getD p default).n (vs.getD p default).s = true := by
      have := (fits_both HOK.out.2).2
      unfold rall at this
      exact List.all_eq_true.1 this _ hmem
    have C2' := fun W => spread_any (vs.getD p default) m W (HFV.out _ hmem) hrr hm0 hm1
    have HX := Lib.hid (show R = spreadV (vs.getD p default) m from by rw [HR.out]; unfold partV; rw [← HE.out, if_pos rfl, hp, hm]; rfl)
    have hpp := Lib.hid hp
    have hmm := Lib.hid hm
    clear hcell hrr hmem hvl hp hm
    generalize vs.getD p default = x at *
    rw [← HX.out] at C2'
    have C2 := Lib.hid C2'
    have X0 := Lib.hid x0
    have X1 := Lib.hid x1
    have X2 := Lib.hid x2
    obtain ⟨xk, xn, xs⟩ := x
    clear C2' x0 x1 x2
    go_enter Try.func22, Try.ntmps22
    go_upto_region 4 with (go_at_call 45/-f-/; (with_reducible refine (C1.out _ (HV.out.keep HB0.out) (HA.out.keep HB0.out)).mono ?_); rintro e w1 ⟨rfl, hb⟩; have H1 := Lib.hid (HB0.out.trans (hb.mono HB0.out.size)); have K1 := BL.out.below hb BL.out.lt; have e1 := K1.cell 1; have e2 := K1.cell 2; have e4 := K1.cell 4; have e5 := K1.cell 5; have el := K1.lt; simp only [List.getElem?_toArray, List.getElem?_cons_zero, List.getElem?_cons_succ] at e1 e2 e4 e5; have HK1 := Lib.hid K1; clear K1; clear hb)
    rw [hpp.out] at e5
    rw [hmm.out] at e4
    have y0 := (H1.out.cell (p := ⟨b, off + p * 3, none⟩) hbw).trans X0.out
    have y1 := (H1.out.cell (p := ⟨b, off + p * 3 + 1, none⟩) hbw).trans X1.out
    have y2 := (H1.out.cell (p := ⟨b, off + p * 3 + 2, none⟩) hbw).trans X2.out
    have hbx : b < w1.heap.size := Nat.lt_of_lt_of_le hbw H1.out.size
    go_region_held3 (fun W => W.cell? ⟨w.heap.size, 5, none⟩ = some (.int .i64 p) ∧ W.cell? ⟨w.heap.size, 4, none⟩ = some (.int .i64 m) ∧ W.cell? ⟨b, off + p * 3, none⟩ = some (.int .i64 xk) ∧ W.cell? ⟨b, off + p * 3 + 1, none⟩ = some (.int .i64 xn) ∧ W.cell? ⟨b, off + p * 3 + 2, none⟩ = some (.string xs))
      (first | exact ⟨e5, e4, y0, y1, y2⟩ | exact ⟨f5, f4, z0, z1, z2⟩)
      (first
        | (go_at_call 46/-f-/; (with_reducible refine (C2.out _).mono ?_); rintro e w2 ⟨rfl, hb⟩; have H2 := Lib.hid (show Below w.heap.size w w2 from H1.out.drew.trans (hb.mono H1.out.drew.size)); have f5 := (hb.cell (p := ⟨w.heap.size, 5, none⟩) el).trans e5; have f4 := (hb.cell (p := ⟨w.heap.size, 4, none⟩) el).trans e4; have z0 := (hb.cell (p := ⟨b, off + p * 3, none⟩) hbx).trans y0; have z1 := (hb.cell (p := ⟨b, off + p * 3 + 1, none⟩) hbx).trans y1; have z2 := (hb.cell (p := ⟨b, off + p * 3 + 2, none⟩) hbx).trans y2; clear hb))
    go_wp2
    go_ret2
    exact ⟨rfl, H2.out⟩
  · have HX := Lib.hid (show R = 0 from by rw [HR.out]; unfold partV; rw [← HE.out, if_neg h0])
    have hne : (E == 0) = false := beq_eq_false_iff_ne.2 h0
    have hne2 : (E != 0) = true := by simp [bne, hne]
    go_enter Try.func22, Try.ntmps22
    go_wp2_with (go_at_call 45/-f-/; (with_reducible refine (C1.out _ (HV.out.keep HB0.out) (HA.out.keep HB0.out)).mono ?_); rintro e w1 ⟨rfl, hb⟩; have H1 := Lib.hid (HB0.out.trans (hb.mono HB0.out.size)); have K1 := BL.out.below hb BL.out.lt; have e1 := K1.cell 1; have e2 := K1.cell 2; have e4 := K1.cell 4; have e5 := K1.cell 5; have el := K1.lt; simp only [List.getElem?_toArray, List.getElem?_cons_zero, List.getElem?_cons_succ] at e1 e2 e4 e5; have HK1 := Lib.hid K1; clear K1; clear hb)
    go_ret2
    exact ⟨ret_two HX.out.symm rfl, H1.out⟩
def Strs (w : World) (A : Option Addr) (ss : List ByteArray) : Prop :=
  ss = [] ∨ ∃ b off, A = some ⟨b, off, none⟩ ∧ b < w.heap.size ∧ ∀ i (_ : i < ss.length), w.cell? ⟨b, off + i, none⟩ = some (.string (ss.getD i ⟨#[]⟩))
theorem Strs.keep {w w' : World} {A : Option Addr} {ss : List ByteArray} (h : Strs w A ss) (hb : Below w.heap.size w w') : Strs w' A ss := by
  rcases h with h | ⟨b, off, h1, h2, h3⟩
  · exact .inl h
  · exact .inr ⟨b, off, h1, Nat.lt_of_lt_of_le h2 hb.size, fun i hi => (hb.cell (p := ⟨b, off + i, none⟩) h2).trans (h3 i hi)⟩
theorem strs_of {w : World} {base n : Nat} {v : Value} {ss : List ByteArray} (h : w.ownsRow base 9 1 v n (ss.map Value.string)) (hlen : ss.length = n) : ∃ A c, v = .slice A n c ∧ Strs w A ss := by
  subst hlen
  obtain ⟨h0, h⟩ := h
  rcases h with ⟨rfl, h1⟩ | ⟨g, cap, cur, rfl, hb, hh, hn, hc, hs, ht⟩
  · have : ss = [] := List.eq_nil_of_length_eq_zero h1
    subst this
    exact ⟨none, 0, rfl, .inl rfl⟩
  · refine ⟨some ⟨g, 0, none⟩, cap, rfl, .inr ⟨g, 0, rfl, Blk.lt hh, fun i hi => ?_⟩⟩
    rw [Nat.zero_add, Blk.cell hh i, ← Array.getElem?_toList]
    have h2 : (ss.map Value.string)[i]? = some (.string (ss.getD i ⟨#[]⟩)) := by simp [List.getD, hi]
    rw [← h2, ← ht, List.getElem?_take, if_pos (by omega)]
theorem info9 : (Try.prog.info? 9).map (fun i => (i.zero, i.size, i.bytes)) = some (some (.string ⟨#[]⟩), 1, 16) := by kernel_rfl
theorem src_str (w : World) (x : ByteArray) : Src (w.alloc (.cells #[.string x] 9)) (some ⟨w.heap.size, 0, none⟩) 1 1 [.string x] := by
  refine ⟨rfl, ?_, ?_, ?_⟩
  · intro h; simp at h
  · intro ad hA j u hu
    obtain rfl := Option.some.inj hA
    rw [addr_add, Nat.zero_add, (Blk.new w 9 #[.string x]).cell]
    rw [← hu]
    simp
  · intro u hu
    simp at hu
    rcases hu with rfl; rfl
/-- The keys of a row by the first indexes. -/
def keysI (s : Sch) (vs : List Val) (n : Nat) : List ByteArray := (List.range n).map fun i => ⟨(keyX s.idx i vs).toArray⟩
theorem keysI_succ (s : Sch) (vs : List Val) (n : Nat) : keysI s vs (n + 1) = keysI s vs n ++ [⟨(keyX s.idx n vs).toArray⟩] := by
  unfold keysI; rw [List.range_succ, List.map_append]; rfl
theorem keysI_len (s : Sch) (vs : List Val) (n : Nat) : (keysI s vs n).length = n := by simp [keysI]
set_option maxRecDepth 100000 in
set_option maxHeartbeats 16000000 in
theorem keys_any (v : Value) (s : Sch) (D : Option Addr) (n cd : Nat) (vs : List Val) (w : World) (hv : SchV w v s) (hf : FitS s) (hA : Vals w D vs) (hn : vs.length = n) (hfv : ∀ x ∈ vs, FitV x) (hz : ∀ x ∈ vs, x.s.size ≤ 300) (hs : n ≤ 1000) :
    Calls Try.prog 21/-f-/ #[v, .slice D n cd] w fun e w' => (∃ A5 c5, e = .returned (.tuple #[.slice A5 (if chkE s vs = 0 then s.idx.length else 0) c5, .int .i64 (chkE s vs)]) ∧ Strs w' A5 (keysI s vs (if chkE s vs = 0 then s.idx.length else 0))) ∧ Below w.heap.size w w' := by
  subst hn
  have HV := Lib.hid hv
  have HF := Lib.hid hf
  have HA := Lib.hid hA
  have HFV := Lib.hid hfv
  obtain ⟨A, B, c, d, rfl, hC, hI, hc, hd⟩ := hv.is
  have HB0 := Lib.hid ((Below.refl w.heap.size w).alloc (Nat.le_refl _) (.cells #[.string s.nm, .slice A s.cols.length c, .slice B s.idx.length d, .int .i64 s.limit, .int .i64 s.parts, .int .i64 s.by_] 25))
  have BL := Lib.hid (Blk.new w 25 #[.string s.nm, .slice A s.cols.length c, .slice B s.idx.length d, .int .i64 s.limit, .int .i64 s.parts, .int .i64 s.by_])
  have HI := Lib.hid hI
  have C1' := fun W hW hW2 => check_any (.agg #[.string s.nm, .slice A s.cols.length c, .slice B s.idx.length d, .int .i64 s.limit, .int .i64 s.parts, .int .i64 s.by_]) s D vs.length cd vs W hW HF.out hW2 rfl HFV.out hs
  obtain ⟨E, hE⟩ : ∃ E, E = chkE s vs := ⟨_, rfl⟩
  rw [← hE] at C1' ⊢
  have C1 := Lib.hid C1'
  have HE := Lib.hid hE
  clear C1' hE hC hI hA hfv hf hv
  by_cases h0 : E = 0
  · subst h0
    have HOK := Lib.hid (chk_ok HE.out.symm)
    have HP := Lib.hid (schB_parts HOK.out.1)
    have hil := HP.out.i4
    have hrall := (fits_both HOK.out.2).2
    have HKY := Lib.hid (fun W (k : Nat) (hk : k < s.idx.length) hW hW2 => keyx_any B D s.idx.length d vs.length cd s.idx k vs W hW hW2 rfl rfl HFV.out hz hrall hk HF.out.idx (fun x hx => by have := (HP.out.ix x hx).1; omega) HP.out.uq (by omega) hs)
    obtain ⟨i0, hi, hz0, hz1, hz2⟩ := info_parts info9
    rw [if_pos rfl]
    clear hrall hz
    go_enter Try.func21, Try.ntmps21
    go_wp2_with (go_at_call 45/-f-/; (with_reducible refine (C1.out _ (HV.out.keep HB0.out) (HA.out.keep HB0.out)).mono ?_); rintro e w1 ⟨rfl, hb⟩; have H1 := Lib.hid (HB0.out.trans (hb.mono HB0.out.size)); have K1 := BL.out.below hb BL.out.lt; have e1 := K1.cell 1; have e2 := K1.cell 2; have e4 := K1.cell 4; have e5 := K1.cell 5; have el := K1.lt; simp only [List.getElem?_toArray, List.getElem?_cons_zero, List.getElem?_cons_succ] at e1 e2 e4 e5; have HK1 := Lib.hid K1; clear K1; clear hb)
    go_loopw [7, 8, 18] (fun u _ i wr => ∃ k : Nat, k ≤ s.idx.length ∧ i = .int .i64 k ∧ Below w.heap.size w wr ∧ Blk wr w.heap.size 25 #[.string s.nm, .slice A s.cols.length c, .slice B s.idx.length d, .int .i64 s.limit, .int .i64 s.parts, .int .i64 s.by_] ∧ wr.ownsRow (w.heap.size + 1) 9 1 u k ((keysI s vs k).map Value.string)) (fun _ _ i _ => s.idx.length - (intOf i).toNat)
    case atStart => exact ⟨0, Nat.zero_le _, rfl, H1.out, HK1.out, World.ownsRow_nil _ _ _ _⟩
    case round =>
      clear e1 e2 e4 e5 el
      obtain ⟨k, hk, rfl, hbl, hbk, hrow⟩ := hrel
      have hsz := hbl.size
      have s2 := hbk.cell 2
      have hlt2 := hbk.lt
      simp only [List.getElem?_toArray, List.getElem?_cons_zero, List.getElem?_cons_succ] at s2
      have HBK := Lib.hid hbk
      have HROW := Lib.hid hrow
      clear hbk hrow
      by_cases hlt : k < s.idx.length
      · have C2 := Lib.hid (HKY.out wr k hlt (HI.out.keep hbl) (HA.out.keep hbl))
        have HS := Lib.hid (keysI_succ s vs k)
        have hlk := keysI_len s vs k
        obtain ⟨T, hT⟩ : ∃ T : ByteArray, T = ⟨(keyX s.idx k vs).toArray⟩ := ⟨_, rfl⟩
        rw [← hT] at C2 HS
        have hlt3 : w.heap.size < w.heap.size + 1 := by omega
        have hmm : ((keysI s vs k).map Value.string).length = k := by rw [List.length_map, hlk]
        clear hT
        go_wp2_with (first
          | (go_at_call 44/-f-/; (with_reducible refine C2.out.mono ?_); rintro e w2 ⟨rfl, hb⟩; have H2 := Lib.hid (hbl.trans (hb.mono hbl.size)); have hsz2 := H2.out.size; have HROW2 := Lib.hid (own_stays HROW.out hb); have HBK2 := Lib.hid (HBK.out.below hb HBK.out.lt); clear hb)
          | (at_builtin; refine wpList_append_src _ rfl _ _ 46 rfl (w.heap.size + 1) 9 i0 (.string ⟨#[]⟩) 1 16 Try.underlying46/-t-/ hi hz0 hz1 hz2 rfl (by decide) u7 k _ rfl (World.ownsRow.alloc HROW2.out _) (some ⟨w2.heap.size, 0, none⟩) 1 1 [.string T] rfl (src_str w2 T) (by unfold maxLen; omega) (by omega) (by simp; omega) ?_; intro v3 w3 hown3 hgr3 hnew3; have HO3 := Lib.hid hown3; have HG3 := Lib.hid hgr3; clear hown3 hgr3 hnew3))
        go_roundw
        case rel =>
          refine ⟨k + 1, by omega, by go_num, (H2.out.alloc hsz2 _).grown HG3.out (by simp; omega) (fun g h => Nat.le_of_succ_le (HROW2.out.lt g h).1), grown_blk HBK2.out (Nat.lt_succ_self _) HROW2.out HG3.out, ?_⟩
          · rw [HS.out, List.map_append, List.map_singleton]
            exact HO3.out
        case measure => simp [intOf]; omega
      · have hkl : k = s.idx.length := by omega
        subst hkl
        have hr := HROW.out
        obtain ⟨A5, c5, e5, hst⟩ := strs_of hr (keysI_len _ _ _)
        subst e5
        go_wp2
        go_ret2
        exact ⟨⟨_, _, rfl, hst⟩, hbl⟩
  · have hne : (E == 0) = false := beq_eq_false_iff_ne.2 h0
    have hne2 : (E != 0) = true := by simp [bne, hne]
    rw [if_neg h0]
    go_enter Try.func21, Try.ntmps21
    go_wp2_with (go_at_call 45/-f-/; (with_reducible refine (C1.out _ (HV.out.keep HB0.out) (HA.out.keep HB0.out)).mono ?_); rintro e w1 ⟨rfl, hb⟩; have H1 := Lib.hid (HB0.out.trans (hb.mono HB0.out.size)); have K1 := BL.out.below hb BL.out.lt; have e1 := K1.cell 1; have e2 := K1.cell 2; have e4 := K1.cell 4; have e5 := K1.cell 5; have el := K1.lt; simp only [List.getElem?_toArray, List.getElem?_cons_zero, List.getElem?_cons_succ] at e1 e2 e4 e5; have HK1 := Lib.hid K1; clear K1; clear hb)
    go_ret2
    exact ⟨⟨_, _, rfl, .inl rfl⟩, H1.out⟩
end Go.Proofs.Ytddejkmfffeikaa
