/- Files by their names, as they lie: what becomes of them. -/
import Derived.Test.YtlhfamdandpkgaaDsm
namespace Go.Proofs.Ytlhfamdandpkgaa
open Go.ChangeShapes Go.WideShapes Go.ChangeAt Go.RowKit Go.Maps
section
variable {w w' : World} {base b : Nat} {D : DataW Unit} {fl : List FRec}
theorem Fls.str (_ : Fls w base b D fl) : Try.prog.underlying 9 = some .string := Try.underlying9
theorem Fls.mem (h : Fls w base b D fl) (nm : List UInt8) : nm ∈ fl.map FRec.nm ↔ ∃ g, fAt D nm = some g := by
  rw [← h.nms, mem_names h.own h.str, h.full.has, Option.isSome_iff_exists]
theorem Fls.none_iff (h : Fls w base b D fl) (nm : List UInt8) : fAt D nm = none ↔ fget fl nm = none := by
  rw [fget_none, h.mem]
  cases fAt D nm <;> simp
theorem Fls.get (h : Fls w base b D fl) {nm : List UInt8} {f : FRec} (hf : fget fl nm = some f) : ∃ g v, fAt D nm = some g ∧ Fil w base g v f.dat f.kept := by
  obtain ⟨h1, rfl⟩ := fget_some hf
  exact h.file f h1
theorem Fls.len (h : Fls w base b D fl) : Maps.size D = fl.length := by
  rw [← names_len h.own h.str, h.nms, List.length_map]
theorem Fls.nodup (h : Fls w base b D fl) : (fl.map FRec.nm).Nodup := by rw [← h.nms]; exact names_nodup h.own h.str
theorem Fls.sorted (h : Fls w base b D fl) : (fl.map FRec.nm).Pairwise (fun a b => leB a b = true) := by rw [← h.nms]; exact names_sorted D
theorem own_tight {P : Program} {k : TypeId} {R : Value → Option (DataW Unit × List MemPlace)} {n : Nat} (h : w.ownsMap P k R b n D) : w.ownsMap P k R b (Maps.size D) D := by
  obtain ⟨es, clock, hb, F, _, rfl⟩ := h
  exact ⟨es, clock, hb, F, by rw [show Maps.size (DataW.map _) = _ from Maps.size_eq _, length_sorted]; simp, rfl⟩
theorem map_ne {P : Program} {k : TypeId} {R : Value → Option (DataW Unit × List MemPlace)} {n g t : Nat} {cs : Array Value} {fr : Nat × Nat} (h : w.ownsMap P k R b n D) (hg : w.heap[g]? = some (.cells cs t fr)) : b ≠ g := by
  rintro rfl
  obtain ⟨es, clock, hb, _⟩ := h
  rw [hb] at hg; cases hg
theorem own_cells_of {base e size n : Nat} {v : Value} {xs : List Value} (h : w.ownsRow base e size v n xs) {i : Nat} (hi : v.ownBlock = some i) : ∃ cur, w.heap[i]? = some (.cells cur e (0, 0)) ∧ base ≤ i := by
  rcases h.2 with ⟨rfl, _⟩ | ⟨g, cap, cur, rfl, hb, hh, _⟩
  · cases hi
  · obtain rfl : g = i := by simpa [Value.ownBlock] using hi
    exact ⟨cur, hh, hb⟩
/-- Files stay while what they lie in stays. -/
theorem Fls.keep (h : Fls w base b D fl) (hk : ∀ i : Nat, base ≤ i → (i = b ∨ ∃ cs t, w.heap[i]? = some (Obj.cells cs t (0, 0)) ∧ (t = 74 ∨ t = 5)) → w'.heap[i]? = w.heap[i]?) (hs : w.heap.size ≤ w'.heap.size) : Fls w' base b D fl := by
  have kb : ∀ {i t cs}, base ≤ i → Blk w i t cs → (t = 74 ∨ t = 5) → Blk w' i t cs := fun {i t cs} h1 h2 h3 => (hk i h1 (.inr ⟨_, _, h2, h3⟩)).trans h2
  refine ⟨h.hb, ?_, h.full, h.nms, h.inj, fun f hf => ?_, fun nm nm' g g' v v' k k' i hne hg hg' hB hB' hv => ?_, h.lens, h.fits⟩
  · obtain ⟨es, clock, hb, rest⟩ := h.own
    exact ⟨es, clock, (hk b h.hb (.inl rfl)).trans hb, rest⟩
  · obtain ⟨g, v, h1, h2, h3, h4⟩ := h.file f hf
    refine ⟨g, v, h1, h2, kb h2 h3 (.inl rfl), h4.1, ?_⟩
    rcases h4.2 with h5 | ⟨q, cap, cur, rfl, hb, hh, rest⟩
    · exact .inl h5
    · exact .inr ⟨q, cap, cur, rfl, hb, kb hb hh (.inr rfl), rest⟩
  · -- blocks of files are what they were
    have back : ∀ {nm g cs}, fAt D nm = some g → Blk w' g 74 cs → Blk w g 74 cs := fun {nm g cs} h1 h2 => by
      obtain ⟨f, hf, rfl⟩ := List.mem_map.1 ((h.mem nm).2 ⟨g, h1⟩)
      obtain ⟨g2, v2, e1, e2, e3, _⟩ := h.file f hf
      rw [h1] at e1
      obtain rfl := Option.some.inj e1
      have := kb e2 e3 (.inl rfl)
      unfold Blk at this h2 ⊢
      rw [this] at h2
      rw [e3, ← h2]
    exact h.apart nm nm' g g' v v' k k' i hne hg hg' (back hg hB) (back hg' hB') hv
theorem Fls.below (h : Fls w base b D fl) (hb : Below w.heap.size w w') : Fls w' base b D fl := by
  refine h.keep (fun i _ hi => ?_) hb.size
  have hlt : i < w.heap.size := by
    rcases hi with rfl | ⟨cs, t, hh, _⟩
    · exact h.own.lt
    · exact Blk.lt hh
  exact hb.block i hlt
/-- A file is another one now. -/
theorem Fls.change (h : Fls w base b D fl) {nm dat' : List UInt8} {f : FRec} {g kept' : Nat} {v v' : Value} {k : Value} (hf : fget fl nm = some f) (hg : fAt D nm = some g) (hB : Blk w g 74 #[v, k]) (hoff : Off (fun i => i = g ∨ v.ownBlock = some i) w w')
    (hnew : Fil w' base g v' dat' kept') (hown : ∀ i, v'.ownBlock = some i → v.ownBlock = some i ∨ w.heap.size ≤ i) (hd : dat'.length ≤ 1048576) (hk : kept' ≤ dat'.length) : Fls w' base b D (setF fl ⟨nm, dat', kept'⟩) := by
  obtain ⟨hfm, rfl⟩ := fget_some hf
  obtain ⟨g0, v0, e1, e2, e3, e4⟩ := h.file f hfm
  rw [hg] at e1
  obtain rfl := Option.some.inj e1
  have hv0 : v0 = v := by unfold Blk at e3 hB; rw [e3] at hB; simp at hB; exact hB.1
  subst hv0
  have hbne : ∀ i cs t, w.heap[i]? = some (.cells cs t (0, 0)) → b ≠ i := fun i cs t hi => map_ne h.own hi
  have hmb : w'.heap[b]? = w.heap[b]? := hoff.block b h.own.lt (by
    rintro (e | e)
    · exact hbne g _ _ hB e
    · obtain ⟨cur, hc, _⟩ := own_cells_of e4 e
      exact hbne b _ _ hc rfl)
  -- another file's block and row
  have other : ∀ f2 ∈ fl, f2.nm ≠ f.nm → ∀ g2 v2, fAt D f2.nm = some g2 → Fil w base g2 v2 f2.dat f2.kept → Fil w' base g2 v2 f2.dat f2.kept := by
    intro f2 hf2 hne g2 v2 h1 ⟨h2, h3, h4⟩
    have hgg : g2 ≠ g := fun e => hne (h.inj _ _ g (e ▸ h1) hg)
    have hrow : ∀ i, v2.ownBlock = some i → ¬ (i = g ∨ v0.ownBlock = some i) := by
      rintro i hi (e | e)
      · obtain ⟨cur, hc, _⟩ := own_cells_of h4 hi
        rw [e] at hc
        unfold Blk at hB
        rw [hB] at hc
        simp at hc
      · exact h.apart _ _ g2 g v2 v0 _ _ i hne h1 hg h3 hB hi e
    refine ⟨h2, hoff.blk h3 ?_, hoff.own h4 hrow⟩
    rintro (e | e)
    · exact hgg e
    · obtain ⟨cur, hc, _⟩ := own_cells_of e4 e
      unfold Blk at h3
      rw [h3] at hc
      simp at hc
  refine ⟨h.hb, ?_, h.full, by rw [setF_nms]; exact h.nms, h.inj, fun x hx => ?_, fun nm nm' g1 g2 v1 v2 k1 k2 i hne h1 h2 hB1 hB2 hv => ?_, by unfold setF; rw [List.length_map]; exact h.lens, fun x hx => ?_⟩
  · obtain ⟨es, clock, hb, rest⟩ := h.own
    exact ⟨es, clock, hmb.trans hb, rest⟩
  · rcases mem_setF hx with rfl | ⟨hx, hne⟩
    · exact ⟨g, v', hg, hnew⟩
    · obtain ⟨g2, v2, h1, h2⟩ := h.file x hx
      exact ⟨g2, v2, h1, other x hx hne g2 v2 h1 h2⟩
  · -- what a file's block holds now
    have what : ∀ {nm g1 v1 k1}, fAt D nm = some g1 → Blk w' g1 74 #[v1, k1] → (nm = f.nm ∧ v1 = v') ∨ (nm ≠ f.nm ∧ ∃ k0 c, Blk w g1 74 #[v1, k0] ∧ Row8 w base v1 c) := by
      intro nm g1 v1 k1 a1 a2
      by_cases hn : nm = f.nm
      · subst hn
        rw [hg] at a1
        obtain rfl := Option.some.inj a1
        have := hnew.2.1
        unfold Blk at this a2
        rw [this] at a2
        simp at a2
        exact .inl ⟨rfl, a2.1.symm⟩
      · obtain ⟨f2, hf2, rfl⟩ := List.mem_map.1 ((h.mem nm).2 ⟨g1, a1⟩)
        obtain ⟨g3, v3, b1, b2⟩ := h.file f2 hf2
        rw [a1] at b1
        obtain rfl := Option.some.inj b1
        have b3 := other f2 hf2 hn g1 v3 a1 b2
        have := b3.2.1
        unfold Blk at this a2
        rw [this] at a2
        simp at a2
        obtain ⟨rfl, _⟩ := a2
        exact .inr ⟨hn, _, _, b2.2.1, b2.2.2⟩
    have fresh : ∀ {c : List UInt8} {u : Value} {j : Nat}, Row8 w base u c → u.ownBlock = some j → j < w.heap.size := fun {c u j} hr hj => (World.ownsRow.lt hr j hj).2
    rcases what h1 hB1 with ⟨e1, rfl⟩ | ⟨e1, k0, c0, hb0, hr0⟩
    · rcases what h2 hB2 with ⟨e2, rfl⟩ | ⟨e2, k0', c0', hb0', hr0'⟩
      · exact absurd (e1.trans e2.symm) hne
      · intro hv2
        rcases hown i hv with ho | ho
        · exact h.apart _ _ g g2 v0 v2 _ _ i (fun e => e2 (e.symm.trans rfl) ) hg h2 hB hb0' ho hv2
        · have := fresh hr0' hv2; omega
    · rcases what h2 hB2 with ⟨e2, rfl⟩ | ⟨e2, k0', c0', hb0', hr0'⟩
      · intro hv2
        rcases hown i hv2 with ho | ho
        · exact h.apart _ _ g1 g v1 v0 _ _ i e1 h1 hg hb0 hB hv ho
        · have := fresh hr0 hv; omega
      · exact h.apart _ _ g1 g2 v1 v2 _ _ i hne h1 h2 hb0 hb0' hv
  · rcases mem_setF hx with rfl | ⟨hx, _⟩
    · exact ⟨(h.fits f hfm).1, (h.fits f hfm).2.1, hd, hk⟩
    · exact h.fits x hx
/-- What a file's block and row were before the map turned. -/
theorem Fls.back (h : Fls w base b D fl) (hm : w.grownBy w' (some b)) {nm : List UInt8} {g : Nat} {cs : Array Value} (hg : fAt D nm = some g) (hB : Blk w' g 74 cs) : Blk w g 74 cs := by
  obtain ⟨f, hf, rfl⟩ := List.mem_map.1 ((h.mem nm).2 ⟨g, hg⟩)
  obtain ⟨g2, v2, e1, e2, e3, _⟩ := h.file f hf
  rw [hg] at e1
  obtain rfl := Option.some.inj e1
  have := hm.block g e3.lt (fun e => map_ne h.own e3 (Option.some.inj e).symm)
  unfold Blk at hB e3 ⊢
  rw [← this, hB]
theorem Fil.turn {base b g : Nat} {v : Value} {dat : List UInt8} {kept : Nat} {P : Program} {k : TypeId} {R : Value → Option (DataW Unit × List MemPlace)} {n : Nat} {D : DataW Unit} (hf : Fil w base g v dat kept) (hown : w.ownsMap P k R b n D) (hm : w.grownBy w' (some b)) : Fil w' base g v dat kept := by
  obtain ⟨h1, h2, h3⟩ := hf
  have hb : ∀ i t cs, Blk w i t cs → Blk w' i t cs := fun i t cs hi => (hm.block i hi.lt (fun e => map_ne hown hi (Option.some.inj e).symm)).trans hi
  refine ⟨h1, hb _ _ _ h2, h3.1, ?_⟩
  rcases h3.2 with h5 | ⟨q, cap, cur, rfl, h6, hh, rest⟩
  · exact .inl h5
  · exact .inr ⟨q, cap, cur, rfl, h6, hb _ _ _ hh, rest⟩
theorem Fls.isMap (h : Fls w base b D fl) : IsMap D := h.own.isMap
/-- A name leads to a new block. -/
theorem Fls.lay (h : Fls w base b D fl) {nm dat : List UInt8} {g kept n : Nat} {v : Value} {fl' : List FRec} (hm : w.grownBy w' (some b)) (hown : w'.ownsMap Try.prog 9 Rp b n (D.put (.string nm) (.lit (.int .i64 g)))) (hnew : Fil w' base g v dat kept)
    (hfresh : ∀ nm', fAt D nm' = some g → nm' = nm) (hrow : ∀ i nm' g' v' k', nm' ≠ nm → fAt D nm' = some g' → Blk w g' 74 #[v', k'] → v.ownBlock = some i → v'.ownBlock ≠ some i)
    (hfl : (fl'.map FRec.nm).Pairwise (fun a b => leB a b = true) ∧ (fl'.map FRec.nm).Nodup) (hmem : ∀ x, x ∈ fl' ↔ x = ⟨nm, dat, kept⟩ ∨ (x ∈ fl ∧ x.nm ≠ nm)) (hlen : fl'.length ≤ 100) (hb : 0 < nm.length ∧ nm.length ≤ 20 ∧ dat.length ≤ 1048576 ∧ kept ≤ dat.length) :
    Fls w' base b (D.put (.string nm) (.lit (.int .i64 g))) fl' := by
  have hD := h.isMap
  have hfull := h.full.put hD nm g
  have hnm : ∀ x, x ∈ fl'.map FRec.nm ↔ ∃ g', fAt (D.put (.string nm) (.lit (.int .i64 g))) x = some g' := by
    intro x
    rw [fAt_put hD]
    by_cases hx : x = nm
    · subst hx
      rw [if_pos rfl]
      exact ⟨fun _ => ⟨g, rfl⟩, fun _ => List.mem_map.2 ⟨⟨x, dat, kept⟩, (hmem _).2 (.inl rfl), rfl⟩⟩
    · rw [if_neg hx, ← h.mem]
      constructor
      · intro hx2
        obtain ⟨y, hy, rfl⟩ := List.mem_map.1 hx2
        rcases (hmem y).1 hy with rfl | ⟨hy, _⟩
        · exact absurd rfl hx
        · exact List.mem_map.2 ⟨y, hy, rfl⟩
      · intro hx2
        obtain ⟨y, hy, rfl⟩ := List.mem_map.1 hx2
        exact List.mem_map.2 ⟨y, (hmem y).2 (.inr ⟨hy, hx⟩), rfl⟩
  refine ⟨h.hb, own_tight hown, hfull, ?_, fun nm1 nm2 g1 h1 h2 => ?_, fun x hx => ?_, fun nm1 nm2 g1 g2 v1 v2 k1 k2 i hne h1 h2 hB1 hB2 hv => ?_, hlen, fun x hx => ?_⟩
  · refine sorted_unique (names_sorted _) hfl.1 (names_nodup hown h.str) hfl.2 (fun x => ?_)
    rw [mem_names hown h.str, hfull.has, Option.isSome_iff_exists, hnm]
  · rw [fAt_put hD] at h1 h2
    by_cases a1 : nm1 = nm
    · by_cases a2 : nm2 = nm
      · rw [a1, a2]
      · rw [if_pos a1] at h1
        rw [if_neg a2] at h2
        obtain rfl := Option.some.inj h1
        exact absurd (hfresh _ h2) a2
    · by_cases a2 : nm2 = nm
      · rw [if_neg a1] at h1
        rw [if_pos a2] at h2
        obtain rfl := Option.some.inj h2
        exact absurd (hfresh _ h1) a1
      · rw [if_neg a1] at h1
        rw [if_neg a2] at h2
        exact h.inj _ _ g1 h1 h2
  · rcases (hmem x).1 hx with rfl | ⟨hx, hne⟩
    · exact ⟨g, v, by rw [fAt_put hD, if_pos rfl], hnew⟩
    · obtain ⟨g2, v2, e1, e2⟩ := h.file x hx
      exact ⟨g2, v2, by rw [fAt_put hD, if_neg hne]; exact e1, e2.turn h.own hm⟩
  · rw [fAt_put hD] at h1 h2
    have hb1 : ∀ {u k}, Blk w' g 74 #[u, k] → u = v := by
      intro u k hu
      have := hnew.2.1
      unfold Blk at this hu
      rw [this] at hu
      simp at hu
      exact hu.1.symm
    by_cases a1 : nm1 = nm
    · by_cases a2 : nm2 = nm
      · exact absurd (a1.trans a2.symm) hne
      · rw [if_pos a1] at h1
        rw [if_neg a2] at h2
        obtain rfl := Option.some.inj h1
        obtain rfl := hb1 hB1
        exact hrow i nm2 g2 v2 k2 a2 h2 (h.back hm h2 hB2) hv
    · by_cases a2 : nm2 = nm
      · rw [if_neg a1] at h1
        rw [if_pos a2] at h2
        obtain rfl := Option.some.inj h2
        obtain rfl := hb1 hB2
        intro hv2
        exact hrow i nm1 g1 v1 k1 a1 h1 (h.back hm h1 hB1) hv2 hv
      · rw [if_neg a1] at h1
        rw [if_neg a2] at h2
        exact h.apart _ _ g1 g2 v1 v2 k1 k2 i hne h1 h2 (h.back hm h1 hB1) (h.back hm h2 hB2) hv
  · rcases (hmem x).1 hx with rfl | ⟨hx, _⟩
    · exact hb
    · exact h.fits x hx
theorem Fls.add (h : Fls w base b D fl) {nm dat : List UInt8} {g kept n : Nat} {v : Value} (hm : w.grownBy w' (some b)) (hown : w'.ownsMap Try.prog 9 Rp b n (D.put (.string nm) (.lit (.int .i64 g)))) (hnew : Fil w' base g v dat kept) (hno : fAt D nm = none)
    (hfresh : ∀ nm', fAt D nm' ≠ some g) (hrow : ∀ i nm' g' v' k', fAt D nm' = some g' → Blk w g' 74 #[v', k'] → v.ownBlock = some i → v'.ownBlock ≠ some i)
    (hlen : fl.length < 100) (hb : 0 < nm.length ∧ nm.length ≤ 20 ∧ dat.length ≤ 1048576 ∧ kept ≤ dat.length) :
    Fls w' base b (D.put (.string nm) (.lit (.int .i64 g))) (insF fl ⟨nm, dat, kept⟩) := by
  have hn : nm ∉ fl.map FRec.nm := fget_none.1 ((h.none_iff nm).1 hno)
  refine h.lay hm hown hnew (fun nm' h1 => absurd h1 (hfresh nm')) (fun i nm' g' v' k' _ => hrow i nm' g' v' k') ⟨insF_sorted _ _, insF_nodup h.nodup hn⟩ (fun x => ?_) (by rw [insF_len]; omega) hb
  rw [mem_insF]
  constructor
  · rintro (h1 | h1)
    · exact .inl h1
    · exact .inr ⟨h1, fun e => hn (List.mem_map.2 ⟨x, h1, e⟩)⟩
  · rintro (h1 | h1)
    · exact .inl h1
    · exact .inr h1.1
theorem mem_setF_iff {fl : List FRec} {f x : FRec} (hm : f.nm ∈ fl.map FRec.nm) : x ∈ setF fl f ↔ x = f ∨ (x ∈ fl ∧ x.nm ≠ f.nm) := by
  constructor
  · exact mem_setF
  · unfold setF
    rintro (rfl | ⟨h1, h2⟩)
    · obtain ⟨y, hy, e⟩ := List.mem_map.1 hm
      exact List.mem_map.2 ⟨y, hy, if_pos e⟩
    · exact List.mem_map.2 ⟨x, h1, if_neg h2⟩
theorem Fls.replace (h : Fls w base b D fl) {nm dat : List UInt8} {g kept n : Nat} {v : Value} {f : FRec} (hf : fget fl nm = some f) (hm : w.grownBy w' (some b)) (hown : w'.ownsMap Try.prog 9 Rp b n (D.put (.string nm) (.lit (.int .i64 g)))) (hnew : Fil w' base g v dat kept)
    (hfresh : ∀ nm', fAt D nm' = some g → nm' = nm) (hrow : ∀ i nm' g' v' k', nm' ≠ nm → fAt D nm' = some g' → Blk w g' 74 #[v', k'] → v.ownBlock = some i → v'.ownBlock ≠ some i)
    (hb : dat.length ≤ 1048576 ∧ kept ≤ dat.length) :
    Fls w' base b (D.put (.string nm) (.lit (.int .i64 g))) (setF fl ⟨nm, dat, kept⟩) := by
  obtain ⟨hfm, rfl⟩ := fget_some hf
  have hmm : f.nm ∈ fl.map FRec.nm := List.mem_map.2 ⟨f, hfm, rfl⟩
  refine h.lay hm hown hnew hfresh hrow ⟨by rw [setF_nms]; exact h.sorted, by rw [setF_nms]; exact h.nodup⟩ (fun x => mem_setF_iff hmm) (by unfold setF; rw [List.length_map]; exact h.lens) ⟨(h.fits f hfm).1, (h.fits f hfm).2.1, hb⟩
/-- A name is no more. -/
theorem Fls.drop (h : Fls w base b D fl) {nm : List UInt8} {n : Nat} (hm : w.grownBy w' (some b)) (hown : w'.ownsMap Try.prog 9 Rp b n (D.del (.string nm))) : Fls w' base b (D.del (.string nm)) (dropF fl nm) := by
  have hfull := h.full.del nm
  refine ⟨h.hb, own_tight hown, hfull, ?_, fun nm1 nm2 g1 h1 h2 => ?_, fun x hx => ?_, fun nm1 nm2 g1 g2 v1 v2 k1 k2 i hne h1 h2 hB1 hB2 hv => ?_, Nat.le_trans (List.length_filter_le _ _) h.lens, fun x hx => h.fits x (mem_dropF.1 hx).1⟩
  · rw [dropF_nms]
    refine sorted_unique (names_sorted _) (h.sorted.filter _) (names_nodup hown h.str) (h.nodup.filter _) (fun x => ?_)
    rw [mem_names hown h.str, hfull.has, Option.isSome_iff_exists, List.mem_filter, h.mem, fAt_del]
    by_cases hx : x = nm
    · simp [hx]
    · simp [hx]
  · rw [fAt_del] at h1 h2
    by_cases a1 : nm1 = nm
    · rw [if_pos a1] at h1; cases h1
    · by_cases a2 : nm2 = nm
      · rw [if_pos a2] at h2; cases h2
      · rw [if_neg a1] at h1
        rw [if_neg a2] at h2
        exact h.inj _ _ g1 h1 h2
  · obtain ⟨h1, h2⟩ := mem_dropF.1 hx
    obtain ⟨g2, v2, e1, e2⟩ := h.file x h1
    exact ⟨g2, v2, by rw [fAt_del, if_neg h2]; exact e1, e2.turn h.own hm⟩
  · rw [fAt_del] at h1 h2
    by_cases a1 : nm1 = nm
    · rw [if_pos a1] at h1; cases h1
    · by_cases a2 : nm2 = nm
      · rw [if_pos a2] at h2; cases h2
      · rw [if_neg a1] at h1
        rw [if_neg a2] at h2
        exact h.apart _ _ g1 g2 v1 v2 k1 k2 i hne h1 h2 (h.back hm h1 hB1) (h.back hm h2 hB2) hv
end
end Go.Proofs.Ytlhfamdandpkgaa
