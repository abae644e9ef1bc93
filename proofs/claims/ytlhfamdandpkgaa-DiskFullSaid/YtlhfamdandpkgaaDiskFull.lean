/- DiskFull: a disk takes as many files as may be, and one more not. -/
import Derived.Test.YtlhfamdandpkgaaRows
import Derived.Test.YtlhfamdandpkgaaDsr
namespace Go.Proofs.Ytlhfamdandpkgaa.DiskFull
open Go.ChangeShapes Go.WideShapes Go.ChangeAt Go.RowKit Go.Maps
def nmI (i : Nat) : List UInt8 := [102, UInt8.ofNat (97 + i / 26), UInt8.ofNat (97 + i % 26)]
theorem u8_inj {a b : Nat} (ha : a < 256) (hb : b < 256) (h : UInt8.ofNat a = UInt8.ofNat b) : a = b := by
  have := congrArg UInt8.toNat h
  simp at this; omega
theorem nmI_inj {i j : Nat} (hi : i < 1000) (hj : j < 1000) (h : nmI i = nmI j) : i = j := by
  unfold nmI at h
  simp only [List.cons.injEq, and_true, true_and] at h
  have h1 := u8_inj (by omega) (by omega) h.1
  have h2 := u8_inj (by omega) (by omega) h.2
  omega
/-- What lies there behind k uses. -/
structure Ful (k : Nat) (fl : List FRec) : Prop where
  len : fl.length = min k 100
  one : ∀ f ∈ fl, f.dat.length = 1
  mem : ∀ nm, nm ∈ fl.map FRec.nm ↔ ∃ i, i < min k 100 ∧ nm = nmI i
theorem used_one : ∀ {fl : List FRec}, (∀ f ∈ fl, f.dat.length = 1) → usedF fl = fl.length
  | [], _ => rfl
  | f :: t, h => by
    have h1 := used_one (fl := t) (fun x hx => h x (List.mem_cons_of_mem _ hx))
    unfold usedF at h1 ⊢
    rw [List.map_cons, List.sum_cons, h1, h f (List.mem_cons_self ..), List.length_cons]; omega
theorem Ful.used {k : Nat} {fl : List FRec} (h : Ful k fl) : usedF fl = min k 100 := by rw [used_one h.one, h.len]
theorem Ful.zero : Ful 0 [] := ⟨rfl, fun f hf => (by cases hf), fun nm => by simp⟩
theorem Ful.none {k : Nat} {fl : List FRec} (h : Ful k fl) (hk : k ≤ 104) : fget fl (nmI k) = none := by
  rw [fget_none, h.mem]
  rintro ⟨i, hi, e⟩
  have := nmI_inj (by omega) (by omega) e
  omega
theorem setF_insF {fl : List FRec} {nm dat : List UInt8} (hn : nm ∉ fl.map FRec.nm) : (setF (insF fl ⟨nm, [], 0⟩) ⟨nm, dat, 0⟩).Perm (⟨nm, dat, 0⟩ :: fl) := by
  unfold setF insF
  refine ((List.mergeSort_perm (⟨nm, [], 0⟩ :: fl) (fun a b => leB a.nm b.nm)).map _).trans ?_
  rw [List.map_cons, if_pos rfl]
  refine List.Perm.cons _ ?_
  rw [List.map_congr_left (g := id) (fun x hx => ?_), List.map_id]
  exact if_neg (fun e => hn (List.mem_map.2 ⟨x, hx, e⟩))
theorem usedF_perm {l l' : List FRec} (h : l.Perm l') : usedF l = usedF l' := sum_perm (h.map fun f => f.dat.length)
/-- One file more. -/
theorem app_ful {p : Pw} {k : Nat} {fl : List FRec} {s x : ByteArray} (hp : Pok p 1000 k) (h : Ful k fl) (hk : k < 100) (hs : s.data.toList = nmI k) (hx : x.size = 1) :
    appE p fl s [x] = 0 ∧ Ful (k + 1) (appF p fl s [x]) := by
  have hn := h.none (by omega)
  have hsz : s.size = 3 := by
    have : s.data.toList.length = 3 := by rw [hs]; rfl
    rw [Array.length_toList] at this; exact this
  have hc : (catL [x]).length = 1 := by simp [catL]; exact hx
  have hd : datL fl (nmI k) = 0 := by simp [datL, hn]
  have hlen := h.len
  have hus := h.used
  have e : appE p fl s [x] = 0 := by
    unfold appE
    rw [if_pos (hp.begin (by omega) (by omega) (mayB_one (by omega) (by omega))), hs, hd, hc]
    refine fit_ok (by decide) (by omega) ?_
    rw [(hp.use (by omega) (by omega)).2.2.2.1]
    omega
  refine ⟨e, ?_⟩
  unfold appF
  rw [e, if_pos rfl, hs]
  have e2 : hasF fl (nmI k) = insF fl ⟨nmI k, [], 0⟩ := by unfold hasF; rw [if_pos hn]
  rw [e2, show datF fl (nmI k) = [] from by simp [datF, hn], show keptL fl (nmI k) = 0 from by simp [keptL, hn], List.nil_append]
  have hpm := setF_insF (dat := catL [x]) (fget_none.1 hn)
  refine ⟨by rw [hpm.length_eq, List.length_cons]; omega, ?_, fun nm => ?_⟩
  · intro f hf
    rcases List.mem_cons.1 (hpm.mem_iff.1 hf) with rfl | hf
    · exact hc
    · exact h.one f hf
  · rw [(hpm.map FRec.nm).mem_iff, List.map_cons, List.mem_cons, h.mem]
    constructor
    · rintro (rfl | ⟨i, hi, rfl⟩)
      · exact ⟨k, by omega, rfl⟩
      · exact ⟨i, by omega, rfl⟩
    · rintro ⟨i, hi, rfl⟩
      by_cases e : i = k
      · exact .inl (by rw [e])
      · exact .inr ⟨i, by omega, rfl⟩
/-- And none more. -/
theorem app_over {p : Pw} {k : Nat} {fl : List FRec} {s x : ByteArray} (hp : Pok p 1000 k) (h : Ful k fl) (hk : 100 ≤ k) (hk2 : k ≤ 104) (hs : s.data.toList = nmI k) :
    appE p fl s [x] = 5 ∧ Ful (k + 1) (appF p fl s [x]) := by
  have hn := h.none hk2
  have hsz : s.size = 3 := by
    have : s.data.toList.length = 3 := by rw [hs]; rfl
    rw [Array.length_toList] at this; exact this
  have hlen := h.len
  have e : appE p fl s [x] = 5 := by
    unfold appE
    rw [if_pos (hp.begin (by omega) (by omega) (mayB_one (by omega) (by omega))), hs]
    unfold fitE
    rw [if_pos (.inr ⟨hn, by omega⟩)]
  refine ⟨e, ?_⟩
  unfold appF
  rw [e, if_neg (by decide)]
  exact ⟨by rw [hlen]; omega, h.one, fun nm => by rw [h.mem, show min (k + 1) 100 = min k 100 by omega]⟩
/-- A disk that fills. -/
def Fst (w0 w : World) (d k : Nat) : Prop := ∃ p fl, Pok p 1000 k ∧ Dsk w w0.heap.size d p fl ∧ Fra w0.heap.size w0 w ∧ Ful k fl
theorem Fst.step {w0 w w' : World} {d k : Nat} (h : Fst w0 w d k) (hb : Below w.heap.size w w') : Fst w0 w' d k := by
  obtain ⟨p, fl, h1, h2, h3, h4⟩ := h
  exact ⟨p, fl, h1, h2.below hb, h3.trans (Fra.of h3.size hb), h4⟩
theorem Fst.append {w0 w : World} {d k : Nat} (h : Fst w0 w d k) (hk : k ≤ 104) (s x : ByteArray) (hs : s.data.toList = nmI k) (hx : x.size = 1) (A : Option Addr) (c : Nat) (hA : StrT w A [x]) :
    Calls Try.prog 20/-f-/ #[.pointer (some ⟨d, 0, none⟩), .string s, .slice A 1 c] w fun e w' => e = .returned (.int .i64 (if k < 100 then 0 else 5)) ∧ Fst w0 w' d (k + 1) := by
  obtain ⟨p, fl, hp, hD, hf, hu⟩ := h
  have hsz : s.size = 3 := by
    have : s.data.toList.length = 3 := by rw [hs]; rfl
    rw [Array.length_toList] at this; exact this
  have hc : (catL [x]).length = 1 := by simp [catL]; exact hx
  refine (append_any w0.heap.size d p fl s A c [x] w hD (hp.roo (by decide) (by decide)) hA (by unfold maxLen; omega) (by simp) (by omega)).mono ?_
  rintro e w' ⟨rfl, hD', hf'⟩
  have hus := (hp.use (by omega) (by omega)).2
  by_cases hlt : k < 100
  · obtain ⟨e1, e2⟩ := app_ful hp hu hlt hs hx
    rw [if_pos hlt, e1]
    exact ⟨rfl, _, _, hus, hD', hf.trans hf', e2⟩
  · obtain ⟨e1, e2⟩ := app_over (x := x) hp hu (by omega) hk hs
    rw [if_neg hlt, e1]
    exact ⟨rfl, _, _, hus, hD', hf.trans hf', e2⟩
theorem Fst.names {w0 w : World} {d k : Nat} (h : Fst w0 w d k) (hk : 100 ≤ k) (A : Option Addr) (c : Nat) :
    Calls Try.prog 21/-f-/ #[.pointer (some ⟨d, 0, none⟩), .slice A 0 c] w fun e w' => (∃ B m, e = .returned (.slice B 100 m)) ∧ Fst w0 w' d k := by
  have h0 := h
  obtain ⟨p, fl, hp, hD, hf, hu⟩ := h
  refine (names0_any w0.heap.size d p fl A c w hD).mono ?_
  rintro e w' ⟨v, rfl, hr, hb⟩
  obtain ⟨B, m, rfl, _⟩ := hr.strt
  refine ⟨⟨B, m, ?_⟩, h0.step hb⟩
  rw [List.length_map, hu.len, show min k 100 = 100 by omega]
/-- One file less. -/
def Lst (w0 w : World) (d k n : Nat) : Prop := ∃ p fl, Pok p 1000 k ∧ Dsk w w0.heap.size d p fl ∧ Fra w0.heap.size w0 w ∧ fl.length = n ∧ (∀ f ∈ fl, f.dat.length = 1) ∧ (n < 100 → fget fl [110, 101, 119] = none)
theorem Lst.step {w0 w w' : World} {d k n : Nat} (h : Lst w0 w d k n) (hb : Below w.heap.size w w') : Lst w0 w' d k n := by
  obtain ⟨p, fl, h1, h2, h3, h4⟩ := h
  exact ⟨p, fl, h1, h2.below hb, h3.trans (Fra.of h3.size hb), h4⟩
theorem dropF_len {fl : List FRec} {nm : List UInt8} (hn : (fl.map FRec.nm).Nodup) (hm : nm ∈ fl.map FRec.nm) : (dropF fl nm).length = fl.length - 1 := by
  have h1 : (dropF fl nm).length = ((dropF fl nm).map FRec.nm).length := by rw [List.length_map]
  have h2 : (fl.map FRec.nm).length = fl.length := by rw [List.length_map]
  rw [h1, dropF_nms, ← h2, ← List.length_erase_of_mem hm, hn.erase_eq_filter]
  congr 1
  apply List.filter_congr
  intro x _
  by_cases e : x = nm <;> simp [e]
theorem Fst.rename {w0 w : World} {d k : Nat} (h : Fst w0 w d k) (hk : 100 ≤ k) (hk2 : k ≤ 104) :
    Calls Try.prog 27/-f-/ #[.pointer (some ⟨d, 0, none⟩), .string ⟨#[102, 97, 97]⟩, .string ⟨#[102, 97, 98]⟩] w fun e w' => e = .returned (.int .i64 0) ∧ Lst w0 w' d (k + 1) 99 := by
  obtain ⟨p, fl, hp, hD, hf, hu⟩ := h
  have hnd : (fl.map FRec.nm).Nodup := by obtain ⟨b, D, _, _, h3⟩ := hD; exact h3.nodup
  have hm0 : nmI 0 ∈ fl.map FRec.nm := (hu.mem _).2 ⟨0, by omega, rfl⟩
  have hm1 : nmI 1 ∈ fl.map FRec.nm := (hu.mem _).2 ⟨1, by omega, rfl⟩
  obtain ⟨f, hgf⟩ : ∃ f, fget fl (nmI 0) = some f := by
    cases h0 : fget fl (nmI 0) with
    | some f => exact ⟨f, rfl⟩
    | none => exact absurd hm0 (fget_none.1 h0)
  have e1 : renE p fl ⟨#[102, 97, 97]⟩ ⟨#[102, 97, 98]⟩ = 0 := by
    unfold renE
    rw [if_pos (hp.begin (by omega) (by omega) (by decide)), if_neg]
    show ¬ fget fl (nmI 0) = none
    rw [hgf]; simp
  refine (rename_any w0.heap.size d p fl ⟨#[102, 97, 97]⟩ ⟨#[102, 97, 98]⟩ w hD (by decide)).mono ?_
  rintro e w' ⟨rfl, hD', hf'⟩
  have hr : renF p fl ⟨#[102, 97, 97]⟩ ⟨#[102, 97, 98]⟩ = setF (dropF fl (nmI 0)) ⟨nmI 1, f.dat, f.kept⟩ := by
    unfold renF
    rw [e1, if_pos rfl]
    show putF (dropF fl (nmI 0)) ⟨nmI 1, datF fl (nmI 0), keptL fl (nmI 0)⟩ = _
    rw [show datF fl (nmI 0) = f.dat from by simp [datF, hgf], show keptL fl (nmI 0) = f.kept from by simp [keptL, hgf]]
    unfold putF
    rw [if_neg]
    show ¬ fget (dropF fl (nmI 0)) (nmI 1) = none
    rw [fget_none, dropF_nms]
    intro h
    exact h (List.mem_filter.2 ⟨hm1, by decide⟩)
  rw [e1]
  rw [hr] at hD'
  refine ⟨rfl, _, _, (hp.use (by omega) (by omega)).2, hD', hf.trans hf', ?_, ?_, fun _ => ?_⟩
  · unfold setF
    rw [List.length_map, dropF_len hnd hm0, hu.len]; omega
  · intro x hx
    rcases mem_setF hx with rfl | ⟨hx, _⟩
    · exact hu.one f (fget_some hgf).1
    · exact hu.one x (mem_dropF.1 hx).1
  · rw [fget_none, setF_nms, dropF_nms]
    intro h
    obtain ⟨i, _, e⟩ := (hu.mem _).1 (List.mem_filter.1 h).1
    unfold nmI at e
    simp at e
theorem Lst.append {w0 w : World} {d k : Nat} (h : Lst w0 w d k 99) (hk : k ≤ 1000) (x : ByteArray) (hx : x.size = 1) (A : Option Addr) (c : Nat) (hA : StrT w A [x]) :
    Calls Try.prog 20/-f-/ #[.pointer (some ⟨d, 0, none⟩), .string ⟨#[110, 101, 119]⟩, .slice A 1 c] w fun e w' => e = .returned (.int .i64 0) ∧ Lst w0 w' d (k + 1) 100 := by
  obtain ⟨p, fl, hp, hD, hf, hl, ho, hg⟩ := h
  have hn : fget fl (⟨#[110, 101, 119]⟩ : ByteArray).data.toList = none := hg (by decide)
  have hc : (catL [x]).length = 1 := by simp [catL]; exact hx
  have hd : datL fl (⟨#[110, 101, 119]⟩ : ByteArray).data.toList = 0 := by simp only [datL, hn]; rfl
  have e : appE p fl ⟨#[110, 101, 119]⟩ [x] = 0 := by
    unfold appE
    rw [if_pos (hp.begin (by omega) (by omega) (by decide)), hd, hc]
    refine fit_ok (by decide) (by omega) ?_
    rw [(hp.use (by omega) (by omega)).2.2.2.1, used_one ho, hl]; decide
  refine (append_any w0.heap.size d p fl ⟨#[110, 101, 119]⟩ A c [x] w hD (hp.roo (by decide) (by decide)) hA (by decide) (by simp) (by omega)).mono ?_
  rintro e' w' ⟨rfl, hD', hf'⟩
  rw [e]
  have hpm := setF_insF (dat := catL [x]) (fget_none.1 hn)
  have hr : appF p fl ⟨#[110, 101, 119]⟩ [x] = setF (insF fl ⟨(⟨#[110, 101, 119]⟩ : ByteArray).data.toList, [], 0⟩) ⟨(⟨#[110, 101, 119]⟩ : ByteArray).data.toList, catL [x], 0⟩ := by
    unfold appF
    rw [e, if_pos rfl]
    have e2 : hasF fl (⟨#[110, 101, 119]⟩ : ByteArray).data.toList = insF fl ⟨(⟨#[110, 101, 119]⟩ : ByteArray).data.toList, [], 0⟩ := by unfold hasF; rw [if_pos hn]
    rw [e2, show datF fl (⟨#[110, 101, 119]⟩ : ByteArray).data.toList = [] from by simp only [datF, hn]; rfl, show keptL fl (⟨#[110, 101, 119]⟩ : ByteArray).data.toList = 0 from by simp only [keptL, hn]; rfl, List.nil_append]
  rw [hr] at hD'
  refine ⟨rfl, _, _, (hp.use (by omega) (by omega)).2, hD', hf.trans hf', by rw [hpm.length_eq, List.length_cons, hl], fun f hf => ?_, fun h => by omega⟩
  rcases List.mem_cons.1 (hpm.mem_iff.1 hf) with rfl | hf
  · exact hc
  · exact ho f hf
theorem Lst.used {w0 w : World} {d k n : Nat} (h : Lst w0 w d k n) :
    Calls Try.prog 26/-f-/ #[.pointer (some ⟨d, 0, none⟩)] w fun e w' => e = .returned (.int .i64 n) ∧ Lst w0 w' d k n := by
  have h0 := h
  obtain ⟨p, fl, hp, hD, hf, hl, ho, hg⟩ := h
  refine (used_any w0.heap.size d p fl w hD).mono ?_
  rintro e w' ⟨rfl, hb⟩
  exact ⟨ret_int (by rw [used_one ho, hl]), h0.step hb⟩
theorem Lst.below {w0 w : World} {d k n : Nat} (h : Lst w0 w d k n) : Below w0.heap.size w0 w := by
  obtain ⟨p, fl, _, _, hf, _⟩ := h; exact hf.below
set_option maxRecDepth 100000 in
set_option maxHeartbeats 16000000 in
theorem walk (a0 : Int) (w : World) (h0 : 0 ≤ a0) (h1 : a0 ≤ 255) : Calls Try.prog 6/-f-/ #[.int .u8 a0] w fun e w' => e = .returned (.bool true) ∧ Below w.heap.size w w' := by
  obtain ⟨m, hm, hm4⟩ : ∃ m : Nat, Int.tmod a0 5 = m ∧ m ≤ 4 := ⟨(a0 % 5).toNat, by rw [Int.tmod_eq_emod_of_nonneg h0]; omega, by omega⟩
  have NW := Lib.hid (new_any w.heap.size 1000 w (Nat.le_refl _) (by decide) (by decide))
  go_enter Try.func6, Try.ntmps6
  go_upto_region 2 with (go_at_call 10/-f-/; (with_reducible refine NW.out.mono ?_); rintro e w1 ⟨d, rfl, _, hD, hb⟩; have HF := Lib.hid (show Fst w w1 d 0 from ⟨_, _, ⟨rfl, rfl, rfl, rfl⟩, hD, Fra.of (Nat.le_refl _) hb, Ful.zero⟩); clear hD hb)
  go_wp2
  go_loopw [4, 5] (fun i _ wr => ∃ k : Nat, k ≤ 100 + m ∧ i = .int .i64 k ∧ Hid (Fst w wr d k)) (fun i _ _ => 100 + m - (intOf i).toNat)
  case atStart => exact ⟨0, Nat.zero_le _, rfl, HF⟩
  case round =>
    obtain ⟨k, hk, rfl, hF⟩ := hrel
    by_cases hkl : k < 100 + m
    · have hki : (k : Int) < 100 + (m : Int) := by omega
      have a1 : ((UInt8.ofNat (97 + k / 26)).toNat : Int) = 97 + (k : Int) / 26 := by simp; omega
      have a2 : ((UInt8.ofNat (97 + k % 26)).toNat : Int) = 97 + (k : Int) % 26 := by simp; omega
      have hcs : (#[.int .u8 102, .int .u8 (97 + (k : Int) / 26), .int .u8 (97 + (k : Int) % 26)] : Array Value) = (cells8 (nmI k)).toArray := by
        unfold cells8 nmI
        simp only [List.map_cons, List.map_nil, a1, a2]
        rfl
      have hcv : (convert 57 9 (.slice (some ⟨wr.heap.size, 0, none⟩) 3 3)).run Try.prog (wr.alloc (.cells #[.int .u8 102, .int .u8 (97 + (k : Int) / 26), .int .u8 (97 + (k : Int) % 26)] 5)) = .ok (.string ⟨(nmI k).toArray⟩) (wr.alloc (.cells #[.int .u8 102, .int .u8 (97 + (k : Int) / 26), .int .u8 (97 + (k : Int) % 26)] 5)) := by
        rw [hcs]
        refine run_convert_bytes_back (P := Try.prog) _ 57 9 5 ⟨wr.heap.size, 0, none⟩ 3 (nmI k) Try.underlying57 Try.underlying5 Try.underlying9 (fun j hj => ?_)
        have := (Blk.new wr 5 (cells8 (nmI k)).toArray).cell j
        rw [Addr.add_lit, Nat.zero_add]
        refine this.trans ?_
        simp [cells8, hj]
      have HM := Lib.hid hm
      have hk104 : k ≤ 104 := by omega
      clear a1 a2 hcs
      by_cases hlt : k < 100
      · have hlti : (k : Int) < 100 := by omega
        have hlt2 : ¬ (100 : Int) ≤ (k : Int) := by omega
        have AP := Lib.hid (show ∀ W, Fst w W d k → ∀ N, W.heap.size = N → Calls Try.prog 20/-f-/ #[.pointer (some ⟨d, 0, none⟩), .string ⟨(nmI k).toArray⟩, .slice (some ⟨N, 0, none⟩) 1 1] (W.alloc (.cells #[.string ⟨#[120]⟩] 9)) fun e w' => e = .returned (.int .i64 0) ∧ Fst w w' d (k + 1) from fun W h N e => by
          have := (h.step (below_al W _)).append hk104 ⟨(nmI k).toArray⟩ ⟨#[120]⟩ rfl rfl _ 1 (StrT.one W N ⟨#[120]⟩ e)
          rwa [if_pos hlt] at this)
        clear hlt
        go_upto_region 5 with (fail)
        go_wp2_with (go_at_call 20/-f-/; (with_reducible refine (AP.out _ (hF.out.step (below_al _ _)) _ (by simp)).mono ?_); rintro e w5 ⟨rfl, h⟩; have G := Lib.hid h; clear h)
        go_roundw
        case rel => exact ⟨k + 1, by omega, by go_num, G⟩
        case measure => simp [intOf]; omega
      · have hlti : ¬ (k : Int) < 100 := by omega
        have hlt2 : (100 : Int) ≤ (k : Int) := by omega
        have AP := Lib.hid (show ∀ W, Fst w W d k → ∀ N, W.heap.size = N → Calls Try.prog 20/-f-/ #[.pointer (some ⟨d, 0, none⟩), .string ⟨(nmI k).toArray⟩, .slice (some ⟨N, 0, none⟩) 1 1] (W.alloc (.cells #[.string ⟨#[120]⟩] 9)) fun e w' => e = .returned (.int .i64 5) ∧ Fst w w' d (k + 1) from fun W h N e => by
          have := (h.step (below_al W _)).append hk104 ⟨(nmI k).toArray⟩ ⟨#[120]⟩ rfl rfl _ 1 (StrT.one W N ⟨#[120]⟩ e)
          rwa [if_neg hlt] at this)
        clear hlt
        go_upto_region 5 with (fail)
        go_wp2_with (go_at_call 20/-f-/; (with_reducible refine (AP.out _ (hF.out.step (below_al _ _)) _ (by simp)).mono ?_); rintro e w5 ⟨rfl, h⟩; have G := Lib.hid h; clear h)
        go_roundw
        case rel => exact ⟨k + 1, by omega, by go_num, G⟩
        case measure => simp [intOf]; omega
    · have hki : ¬ (k : Int) < 100 + (m : Int) := by omega
      have hk8 : k = 100 + m := by omega
      have HF8 := Lib.hid (show Fst w wr d k from hF.out)
      clear hki hkl
      go_upto_region 8 with (fail)
      go_wp2_with (first
        | (go_at_call 21/-f-/; (with_reducible refine (HF8.out.names (by omega) none 0).mono ?_); rintro e w2 ⟨⟨B, mm, rfl⟩, h⟩; have G2 := Lib.hid h; clear h)
        | (go_at_call 27/-f-/; (with_reducible refine (G2.out.rename (by omega) (by omega)).mono ?_); rintro e w3 ⟨rfl, h⟩; have G3 := Lib.hid h; clear h)
        | (go_at_call 20/-f-/; (with_reducible refine ((G3.out.step (below_al _ _)).append (by omega) _ (by decide) _ _ (StrT.one _ _ _ rfl)).mono ?_); rintro e w4 ⟨rfl, h⟩; have G4 := Lib.hid h; clear h)
        | (go_at_call 26/-f-/; (with_reducible refine (G4.out.used).mono ?_); rintro e w5 ⟨rfl, h⟩; have G5 := Lib.hid h; clear h)
        | (go_at_call 9/-f-/; (with_reducible refine (awake_any _).mono ?_); rintro e w6 ⟨rfl, hb⟩; have G6 := Lib.hid (G5.out.below.trans (hb.mono G5.out.below.size)); clear hb))
      go_ret
      exact ⟨rfl, G6.out⟩
theorem own : ownKnob Try.prog.godebug = none := by kernel_rfl
theorem laidOut : laidOutB Try.prog = true := by kernel_rfl
set_option maxRecDepth 100000 in
theorem lifted (os : Os) (started : os.Started) (H : Type) (enc : TypeId × Value → H) :
    ReturnsInHanded {} Try.checked os 6 .any (Rows.diskFullSpec.pre6 enc Try.prog Try.f6 Rows.diskFullRow.domain false) (Rows.diskFullSpec.post enc Try.prog Try.f6 false true false false) := by
  refine returnsInHanded_of_change (C := Try.checked) own started (by kernel_rfl) Try.func6
    (ChangeSpec.witness6 (enc := enc) (C := Try.checked) false ⟨#[], #[.int .u8 0], []⟩ 8 (by kernel_rfl) (by kernel_rfl) (by kernel_rfl) (by kernel_rfl)) ?_
  intro W base args ds gs before hval0 hW hcnd _
  have hval : ∀ (j : Nat) t v, Try.f6.params[j]? = some t → args[j]? = some v → Value.okWide Try.prog W .any base t v := hval0
  have hW' := hW
  obtain ⟨p, q, hA0, hV, rfl, hfz, hnd⟩ := hW
  have hA : DataW.TrodAll enc Try.prog W 0 (fun _ => true) true Try.f6.params.toList args.toList ds p := hA0
  rw [Try.params6] at hA hval
  obtain ⟨v0, vs0, d0, ds0, p0, q0, hargs, rfl, rfl, h0, r0⟩ := trodAll_cons hA
  obtain ⟨rfl, rfl, rfl⟩ := trodAll_nil r0
  obtain rfl : args = #[v0] := by cases args; simp_all
  obtain ⟨rfl, rfl⟩ := trodVars_none hV
  obtain ⟨a0, rfl, rfl, rfl, w0⟩ := open_int Try.underlying5 (hval 0 5 v0 rfl rfl) h0
  have b0 := bounds_u8 w0
  clear hA0 hval0
  refine (walk a0 W b0.1 b0.2).mono fun e W' ⟨he, bel⟩ => ?_
  subst he
  exact ⟨_, rfl, _, _, _, [], _, [], hW', trodAll_mk1 (shut_bool Try.underlying4 _), (trodAll_cons_mk (shut_int Try.underlying5 w0) trodAll_mk0), rfl, bel.frame _, fun h => by cases h⟩

theorem over : Rows.diskFullRow.holds Try.pinned (OpenSpec.ofChange Rows.diskFullSpec) :=
  OpenClaim.holds_of_wide 6 Try.f6 rfl rfl rfl rfl rfl rfl rfl ⟨rfl, rfl, rfl, rfl, rfl⟩ rfl rfl rfl rfl rfl (by kernel_rfl) Try.func6 (by kernel_rfl)
    (of_decide_eq_true (by kernel_rfl)) (by unfold Func.isWrapper; first | (rw [if_pos (by decide +kernel)]; kernel_rfl) | (rw [if_neg (by decide +kernel)]; exact ⟨rfl, rfl⟩))
    (fun os started H enc _ => lifted os started H enc)

theorem proved : Rows.DiskFullSaid := over

end Go.Proofs.Ytlhfamdandpkgaa.DiskFull
