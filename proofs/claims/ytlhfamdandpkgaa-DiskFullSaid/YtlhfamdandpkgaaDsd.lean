/- Contracts of package disk: how much there is; what may be laid. -/
import Derived.Test.YtlhfamdandpkgaaDsc
namespace Go.Proofs.Ytlhfamdandpkgaa
open Go.ChangeShapes Go.WideShapes Go.ChangeAt Go.RowKit Go.Maps
theorem Fls.off_d {w w' : World} {base b d : Nat} {D : DataW Unit} {fl : List FRec} {cs : Array Value} (h : Fls w base b D fl) (hd : Blk w d 67 cs) (ho : Off (· = d) w w') : Fls w' base b D fl := by
  refine h.keep (fun i _ hi => ?_) ho.size
  rcases hi with rfl | ⟨cs2, t, hh, ht⟩
  · exact ho.block _ h.own.lt (fun e => map_ne h.own hd e)
  · refine ho.block i (Blk.lt hh) (fun e => ?_)
    subst e
    unfold Blk at hd
    rw [hd] at hh
    simp at hh
    obtain ⟨_, rfl⟩ := hh
    rcases ht with ht | ht <;> exact absurd ht (by decide)
theorem Fra.off_d {w w' : World} {base d : Nat} {cs : Array Value} (hb : base ≤ d) (hs : base ≤ w.heap.size) (hd : Blk w d 67 cs) (ho : Off (· = d) w w') : Fra base w w' :=
  ⟨ho.below (fun k hk e => by omega) hs, fun i cs2 t fr hi ht => (ho.block i (by
    rcases Nat.lt_or_ge i w.heap.size with h | h
    · exact h
    · rw [Array.getElem?_eq_none h] at hi; cases hi) (fun e => by
    subst e
    unfold Blk at hd
    rw [hd] at hi
    simp at hi
    obtain ⟨_, rfl, _⟩ := hi
    exact absurd ht (by decide))).trans hi⟩
theorem Fra.of {w w' : World} {base : Nat} (hs : base ≤ w.heap.size) (hb : Below w.heap.size w w') : Fra base w w' :=
  ⟨hb.mono hs, fun i cs t fr hi _ => (hb.block i (by
    rcases Nat.lt_or_ge i w.heap.size with h | h
    · exact h
    · rw [Array.getElem?_eq_none h] at hi; cases hi)).trans hi⟩
theorem Dsk.below {w w' : World} {base d : Nat} {p : Pw} {fl : List FRec} (h : Dsk w base d p fl) (hb : Below w.heap.size w w') : Dsk w' base d p fl := by
  obtain ⟨b, D, h1, h2, h3⟩ := h
  exact ⟨b, D, h1, h2.below hb h2.lt, h3.below hb⟩
theorem Dsk.size {w : World} {base d : Nat} {p : Pw} {fl : List FRec} (h : Dsk w base d p fl) : base ≤ d ∧ d < w.heap.size := by
  obtain ⟨b, D, h1, h2, h3⟩ := h
  exact ⟨h1, h2.lt⟩
def beginE (p : Pw) (ss : List ByteArray) : Int := if (useP p).1 = false then 7 else if mayB ss = true then 0 else 1
set_option maxRecDepth 100000 in
set_option maxHeartbeats 4000000 in
theorem begin_any (base d : Nat) (p : Pw) (fl : List FRec) (A : Option Addr) (n c : Nat) (ss : List ByteArray) (w : World) (h : Dsk w base d p fl) (hA : Strs w A ss) (hn : ss.length = n) (hl : n ≤ 1000000) (hne : ∀ b off, A = some ⟨b, off, none⟩ → ss ≠ [] → b ≠ d) :
    Calls Try.prog 41/-f-/ #[.pointer (some ⟨d, 0, none⟩), .slice A n c] w fun e w' => e = .returned (.int .i64 (beginE p ss)) ∧ Dsk w' base d (useP p).2 fl ∧ Off (· = d) w w' := by
  subst hn
  obtain ⟨b, D, h1, h2, h3⟩ := h
  have hlt := h2.lt
  have U' := use_any d b p w h2
  have HE := Lib.hid (show ∀ q m, (useP p).1 = q → mayB ss = m → beginE p ss = if q = false then 7 else if m = true then 0 else 1 from fun q m h1 h2 => by unfold beginE; rw [h1, h2])
  have H2 := Lib.hid h2
  have H3 := Lib.hid h3
  have HA := Lib.hid hA
  have HNE := Lib.hid hne
  obtain ⟨q, hq⟩ : ∃ q, q = (useP p).1 := ⟨_, rfl⟩
  obtain ⟨p', hp'⟩ : ∃ p', p' = (useP p).2 := ⟨_, rfl⟩
  rw [← hq, ← hp'] at U'
  rw [← hp']
  have U := Lib.hid U'
  have HQ := Lib.hid hq
  have HM' := fun W (hW : Off (· = d) w W) => maybe_any A ss.length c ss W (show Strs W A ss from by
    by_cases h0 : ss = []
    · exact .inl h0
    rcases HA.out with h | ⟨g, off, e, hg, hc⟩
    · exact .inl h
    · have hblk := hW.block g hg (HNE.out g off e h0)
      exact .inr ⟨g, off, e, Nat.lt_of_lt_of_le hg hW.size, fun i hi => (World.cell?_of_block (a := ⟨g, off + i, none⟩) hblk).trans (hc i hi)⟩) rfl hl
  obtain ⟨m, hm⟩ : ∃ m, m = mayB ss := ⟨_, rfl⟩
  rw [← hm] at HM'
  have HM := Lib.hid HM'
  have HMM := Lib.hid hm
  clear h2 h3 hA hne U' hq hp' HM' hm
  cases q with
  | false =>
    go_enter Try.func41, Try.ntmps41
    go_wp2_with (go_at_call 51/-f-/; (with_reducible refine U.out.mono ?_); rintro e w1 ⟨rfl, hb, ho⟩; have HB := Lib.hid hb; have HO := Lib.hid ho; clear hb ho)
    go_ret
    exact ⟨ret_int (by rw [HE.out false m HQ.out.symm HMM.out.symm]; rfl), ⟨b, D, h1, HB.out, H3.out.off_d H2.out HO.out⟩, HO.out⟩
  | true =>
    cases m with
    | false =>
      go_enter Try.func41, Try.ntmps41
      go_wp2_with (first
        | (go_at_call 51/-f-/; (with_reducible refine U.out.mono ?_); rintro e w1 ⟨rfl, hb, ho⟩; have HB := Lib.hid hb; have HO := Lib.hid ho; clear hb ho)
        | (go_at_call 50/-f-/; (with_reducible refine (HM.out _ HO.out).mono ?_); rintro e w2 ⟨rfl, rfl⟩))
      go_ret
      exact ⟨ret_int (by rw [HE.out true false HQ.out.symm HMM.out.symm]; rfl), ⟨b, D, h1, HB.out, H3.out.off_d H2.out HO.out⟩, HO.out⟩
    | true =>
      go_enter Try.func41, Try.ntmps41
      go_wp2_with (first
        | (go_at_call 51/-f-/; (with_reducible refine U.out.mono ?_); rintro e w1 ⟨rfl, hb, ho⟩; have HB := Lib.hid hb; have HO := Lib.hid ho; clear hb ho)
        | (go_at_call 50/-f-/; (with_reducible refine (HM.out _ HO.out).mono ?_); rintro e w2 ⟨rfl, rfl⟩))
      go_ret
      exact ⟨ret_int (by rw [HE.out true true HQ.out.symm HMM.out.symm]; rfl), ⟨b, D, h1, HB.out, H3.out.off_d H2.out HO.out⟩, HO.out⟩
/-- How long a file of a name is. -/
def datL (fl : List FRec) (nm : List UInt8) : Nat := ((fget fl nm).map fun f => f.dat.length).getD 0
theorem fget_mem : ∀ {fl : List FRec}, (fl.map FRec.nm).Nodup → ∀ f ∈ fl, fget fl f.nm = some f
  | [], _, f, hf => by cases hf
  | y :: t, hn, f, hf => by
    unfold fget
    rw [List.find?_cons]
    by_cases h : y.nm = f.nm
    · rw [List.map_cons, List.nodup_cons] at hn
      rcases List.mem_cons.1 hf with rfl | hf
      · simp
      · exact absurd (List.mem_map.2 ⟨f, hf, h.symm⟩) hn.1
    · rw [decide_eq_false h]
      rw [List.map_cons, List.nodup_cons] at hn
      exact fget_mem hn.2 f ((List.mem_cons.1 hf).resolve_left (fun e => h (by rw [e])))
theorem datL_sum {fl : List FRec} (hn : (fl.map FRec.nm).Nodup) : ((fl.map FRec.nm).map (datL fl)).sum = usedF fl := by
  unfold usedF
  rw [List.map_map]
  congr 1
  apply List.map_congr_left
  intro f hf
  simp [datL, fget_mem hn f hf]
theorem datL_le {w : World} {base b : Nat} {D : DataW Unit} {fl : List FRec} (h : Fls w base b D fl) (nm : List UInt8) : datL fl nm ≤ 1048576 := by
  unfold datL
  cases hf : fget fl nm with
  | none => simp
  | some f => simpa using (h.fits f (fget_some hf).1).2.2.1
theorem sum_le (fl : List FRec) (hl : ∀ nm, datL fl nm ≤ 1048576) : ∀ ss : List (List UInt8), (ss.map (datL fl)).sum ≤ 1048576 * ss.length
  | [] => by simp
  | x :: t => by
    have := sum_le fl hl t
    have h2 := hl x
    rw [List.map_cons, List.sum_cons, List.length_cons]; omega
theorem used_le {w : World} {base b : Nat} {D : DataW Unit} {fl : List FRec} (h : Fls w base b D fl) : usedF fl ≤ 104857600 := by
  rw [← datL_sum h.nodup]
  have := sum_le fl (datL_le h) (fl.map FRec.nm)
  have h2 := h.lens
  rw [List.length_map] at this
  omega
theorem own_slice {w : World} {base e size n : Nat} {v : Value} {xs : List Value} (h : w.ownsRow base e size v n xs) : ∃ A c, v = .slice A n c := by
  rcases h.2 with ⟨rfl, h0⟩ | ⟨g, cap, cur, rfl, _⟩
  · subst h0; exact ⟨_, _, rfl⟩
  · exact ⟨_, _, rfl⟩
theorem blk2 {w : World} {g t : Nat} {a b : Value} (h : Blk w g t #[a, b]) : w.cell? ⟨g, 0, none⟩ = some a ∧ w.cell? ⟨g, 1, none⟩ = some b ∧ w.frozen? ⟨g, 0, none⟩ = false ∧ w.frozen? ⟨g, 1, none⟩ = false ∧ g < w.heap.size := ⟨h.cell 0, h.cell 1, h.frozen 0, h.frozen 1, h.lt⟩
theorem names_perm (D : DataW Unit) : (names D).Perm (strKeys D) := List.mergeSort_perm _ _
set_option maxRecDepth 100000 in
set_option maxHeartbeats 8000000 in
theorem used_any (base d : Nat) (p : Pw) (fl : List FRec) (w : World) (h : Dsk w base d p fl) :
    Calls Try.prog 26/-f-/ #[.pointer (some ⟨d, 0, none⟩)] w fun e w' => e = .returned (.int .i64 (usedF fl)) ∧ Below w.heap.size w w' := by
  obtain ⟨b, D, h1, h2, h3⟩ := h
  obtain ⟨c0, c1, c2, c3, c4, c5, hf, hlt⟩ := blk6 h2
  have HF := Lib.hid h3
  have hlen := h3.len
  have hl100 := h3.lens
  have HSUM := Lib.hid (datL_sum h3.nodup)
  have HLE := Lib.hid (sum_le fl (datL_le h3))
  have HLEN := Lib.hid hlen
  clear h2 h3 hf c0 c1 c2 c3 c4 hlen
  go_enter Try.func26, Try.ntmps26
  go_wp2_with (first
    | (at_range; refine wpList_range_own _ rfl _ 63 rfl 9 72 (string_keyed Try.underlying9) Try.underlying63 Rp b (Maps.size D) D rfl HF.out.own ?_; intro w0 hrg0 hg0 hs0)
    | go_in)
  have HRG := Lib.hid hrg0
  have HB0 := Lib.hid (show Below w.heap.size w w0 from (Below.refl _ _).grown hg0 (Nat.le_refl _) (fun j hj => by cases hj))
  clear hrg0 hs0 hg0
  go_frame
  go_loopw [3, 5] (fun nv _ wr => ∃ (left : Lit → Bool) (cnt : Nat) (ss : List (List UInt8)), Hid (wr.ranges Try.prog 9 Rp b w.heap.size (Maps.size D) D left cnt) ∧ ss.length + cnt ≤ Maps.size D ∧ nv = .int .i64 ((ss.map (datL fl)).sum : Nat) ∧ Hid (Collected D left ss) ∧ Hid (Below w.heap.size w wr))
    (fun _ _ wr => wr.rangeLeft b w.heap.size)
  case atStart => exact ⟨_, _, [], HRG, by simp, rfl, Lib.hid (Collected.start D), HB0⟩
  case round =>
    obtain ⟨left, cnt, ss, hrg, hcs, rfl, hC, hbl⟩ := hrel
    have hsum := HLE.out ss
    have hss : ss.length ≤ 100 := by have := HLEN.out; omega
    go_wp2_with (first
      | (at_next; refine wpList_next_ranges _ rfl _ rfl 9 (string_keyed Try.underlying9) Rp encStr pVal (fun key kl hk => by obtain ⟨x, hx, _⟩ := Maps.keyOf_str Try.underlying9 hk; exact ⟨x, hx⟩) (fun v y hv => by rcases Rp_inv hv with ⟨e, _⟩ | ⟨g, e, _⟩ <;> exact ⟨_, e⟩) b w.heap.size (Maps.size D) D left cnt rfl hrg.out ?_ ?_)
      | go_in)
    · intro hc0 hl0
      have HP := Lib.hid (hC.out.perm HF.out.own (string_keyed Try.underlying9) Try.underlying9 hl0)
      have HE := Lib.hid (show (ss.map (datL fl)).sum = usedF fl from by
        rw [← HSUM.out, ← HF.out.nms]
        exact sum_perm ((HP.out.trans (names_perm D).symm).map (datL fl)))
      go_wp2
      go_ret
      exact ⟨ret_int (congrArg _ HE.out), hbl.out⟩
    · intro x c kl yd yp w2 cnt2 hkey hlk hv hat hrg2 hlt2 hg2 hs2 hen
      clear hs2
      obtain ⟨x', ex, rfl, _⟩ := Maps.keyOf_str Try.underlying9 hkey
      obtain rfl := encStr_inj ex
      have hc := fAt_val (D := D) (nm := x) (by rw [hat .nil]; exact hv)
      have hhas : Maps.has D (.string x) = true := has_true_of_atKey hat
      obtain ⟨g, hg⟩ := HF.out.full x hhas
      rw [hg] at hc
      obtain rfl : c = some g := by
        cases c with
        | none => cases hc
        | some c => simp only [pVal, Value.pointer.injEq, Option.some.injEq, Addr.mk.injEq] at hc; rw [hc.1]
      have hpv : pVal (some g) = .pointer (some ⟨g, 0, none⟩) := rfl
      obtain ⟨f, hf⟩ : ∃ f, fget fl x = some f := by
        cases h0 : fget fl x with
        | some f => exact ⟨f, rfl⟩
        | none => rw [(HF.out.none_iff x).2 h0] at hg; cases hg
      obtain ⟨g', v, hg', hfil⟩ := HF.out.get hf
      rw [hg] at hg'
      obtain rfl := Option.some.inj hg'
      have hbl2 : Below w.heap.size w w2 := hbl.out.grown hg2 hbl.out.size (fun j hj => by cases hj; exact Nat.le_refl _)
      obtain ⟨k0, k1, kf, _, kl⟩ := blk2 (hfil.2.1.below hbl2 hfil.2.1.lt)
      obtain ⟨A, cc, rfl⟩ := own_slice hfil.2.2
      have hdl : datL fl x = f.dat.length := by simp [datL, hf]
      have hd1 := datL_le HF.out x
      rw [hdl] at hd1
      clear hv hkey hbl hg' hfil
      go_wp2
      go_roundw
      case rel => exact ⟨_, cnt2, ss ++ [x], Lib.hid hrg2, by simp; omega, by rw [List.map_append, List.sum_append, List.map_singleton, List.sum_singleton, hdl]; simp, Lib.hid (hC.out.step hlk hat), Lib.hid hbl2⟩
      case measure => rw [hrg2.left_eq, hrg.out.left_eq]; exact hlt2
end Go.Proofs.Ytlhfamdandpkgaa
