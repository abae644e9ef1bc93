/- Contracts of package stream: bytes as batches. -/
import Derived.Test.YtacangeamdcgdaaSrd
namespace Go.Proofs.Ytacangeamdcgdaa
open Go.ChangeShapes Go.WideShapes Go.ChangeAt Go.RowKit Go.Deep
def pcells (ps : List (Int × Value)) : List Value := ps.flatMap fun p => [Value.int .i64 p.1, p.2]
theorem pcells_len (ps : List (Int × Value)) : (pcells ps).length = ps.length * 2 := by
  unfold pcells
  induction ps with
  | nil => rfl
  | cons p t ih => rw [List.flatMap_cons, List.length_append, ih, List.length_cons]; simp; omega
theorem pcells_snoc (ps : List (Int × Value)) (p : Int × Value) : pcells (ps ++ [p]) = pcells ps ++ [.int .i64 p.1, p.2] := by
  unfold pcells; rw [List.flatMap_append]; rfl
theorem pcells_at : ∀ (ps : List (Int × Value)) (i : Nat) (p : Int × Value), ps[i]? = some p → (pcells ps)[i * 2]? = some (.int .i64 p.1) ∧ (pcells ps)[i * 2 + 1]? = some p.2
  | [], i, p, h => by cases h
  | q :: t, 0, p, h => by
    obtain rfl : q = p := by simpa using h
    exact ⟨rfl, rfl⟩
  | q :: t, i + 1, p, h => by
    obtain ⟨h1, h2⟩ := pcells_at t i p (by simpa using h)
    have e : pcells (q :: t) = .int .i64 q.1 :: q.2 :: pcells t := rfl
    rw [e, show (i + 1) * 2 = i * 2 + 2 from by omega, show i * 2 + 2 + 1 = (i * 2 + 1) + 2 from by omega]
    exact ⟨h1, h2⟩
/-- A slice of the call's own that holds just these batches. -/
def RowB (w : World) (base : Nat) (v : Value) (bs : List Bat) : Prop :=
  ∃ ps : List (Int × Value), ps.length = bs.length ∧ w.ownsRow base 38 2 v bs.length (pcells ps) ∧ ∀ i, i < bs.length → ∃ u, ps[i]? = some ((bs.getD i default).id, u) ∧ RowR w base u (bs.getD i default).rows
theorem RowB.nil (w : World) (base : Nat) : RowB w base (.slice none 0 0) [] := ⟨[], rfl, World.ownsRow_nil _ _ _ _, fun i hi => absurd hi (by simp)⟩
theorem RowB.off {g : Nat} {w w' : World} {base : Nat} {v : Value} {bs : List Bat} (h : RowB w base v bs) (hg : g < base) (ho : Off (· = g) w w') : RowB w' base v bs := by
  obtain ⟨ps, h0, h1, h2⟩ := h
  refine ⟨ps, h0, ho.own h1 (fun k hk e => by have := (World.ownsRow.lt h1 k hk).1; omega), fun i hi => ?_⟩
  obtain ⟨u, hu, hr⟩ := h2 i hi
  exact ⟨u, hu, hr.off hg ho⟩
theorem RowR.other {w w' : World} {base base' e' size' n' : Nat} {v v' : Value} {rs : List (List Val)} {xs' : List Value} (h : RowR w base v rs) (h' : w.ownsRow base' e' size' v' n' xs') (he : 76 ≠ e') (he2 : 93 ≠ e') (hg : w.grownBy w' v'.ownBlock) : RowR w' base v rs := by
  obtain ⟨cs, h1, h0, h2⟩ := h
  refine ⟨cs, own_other h1 h' he hg, h0, fun i hi => ?_⟩
  obtain ⟨u, hu, hr⟩ := h2 i hi
  exact ⟨u, hu, own_other hr h' he2 hg⟩
theorem RowR.alloc {w : World} {base : Nat} {v : Value} {rs : List (List Val)} (h : RowR w base v rs) (o : Obj) : RowR (w.alloc o) base v rs := by
  obtain ⟨cs, h1, h0, h2⟩ := h
  refine ⟨cs, World.ownsRow.alloc h1 _, h0, fun i hi => ?_⟩
  obtain ⟨u, hu, hr⟩ := h2 i hi
  exact ⟨u, hu, World.ownsRow.alloc hr _⟩
theorem RowR.mono {w : World} {base base' : Nat} {v : Value} {rs : List (List Val)} (h : RowR w base' v rs) (hb : base ≤ base') : RowR w base v rs := by
  obtain ⟨cs, h1, h0, h2⟩ := h
  refine ⟨cs, own_mono h1 hb, h0, fun i hi => ?_⟩
  obtain ⟨u, hu, hr⟩ := h2 i hi
  exact ⟨u, hu, own_mono hr hb⟩
theorem infoBat : (Try.prog.info? 38).map (fun i => (i.zero, i.size, i.bytes)) = some (some (.agg #[.int .i64 0, .slice none 0 0]), 2, 32) := by kernel_rfl
theorem Src.bat (w : World) (i : Int) (A : Option Addr) (n c : Nat) : Src (w.alloc (.cells #[.int .i64 i, .slice A n c] 38)) (some ⟨w.heap.size, 0, none⟩) 1 2 [.int .i64 i, .slice A n c] := by
  refine ⟨rfl, ?_, ?_, ?_⟩
  · intro h; simp at h
  · intro ad hA j u hu
    obtain rfl := Option.some.inj hA
    rw [addr_add, Nat.zero_add, (Blk.new w 38 #[.int .i64 i, .slice A n c]).cell]
    simpa using hu
  · intro u hu
    have : u = .int .i64 i ∨ u = .slice A n c := by simpa using hu
    rcases this with rfl | rfl <;> rfl
/-- One batch more. -/
theorem RowB.snoc {w w1 w2 : World} {base n c : Nat} {id : Int} {A : Option Addr} {v v' : Value} {bs : List Bat} {rs : List (List Val)} (hu : RowR w base (.slice A n c) rs) {ps : List (Int × Value)} {o : Obj} (hps : w.ownsRow base 38 2 v bs.length (pcells ps)) (ho : w2.ownsRow base 38 2 v' (bs.length + 1) (pcells ps ++ [.int .i64 id, .slice A n c])) (hw : w1 = w.alloc o) (hg : w1.grownBy w2 v.ownBlock)
    (h0 : ps.length = bs.length) (h2 : ∀ i, i < bs.length → ∃ u, ps[i]? = some ((bs.getD i default).id, u) ∧ RowR w base u (bs.getD i default).rows) : RowB w2 base v' (bs ++ [⟨id, rs⟩]) := by
  subst hw
  have keep : ∀ {u r}, RowR w base u r → RowR w2 base u r := fun {u r} hr => (hr.alloc _).other (World.ownsRow.alloc hps _) (by decide) (by decide) hg
  refine ⟨ps ++ [(id, .slice A n c)], by simp [h0], by rw [List.length_append, pcells_snoc]; exact ho, fun i hi => ?_⟩
  rw [List.length_append, List.length_singleton] at hi
  by_cases hlt : i < bs.length
  · obtain ⟨u', hu', hr'⟩ := h2 i hlt
    rw [show (bs ++ [(⟨id, rs⟩ : Bat)]).getD i default = bs.getD i default from by simp [List.getD, List.getElem?_append_left hlt]]
    exact ⟨u', by rw [List.getElem?_append_left (by omega)]; exact hu', keep hr'⟩
  · have hi2 : i = bs.length := by omega
    subst hi2
    rw [show (bs ++ [(⟨id, rs⟩ : Bat)]).getD bs.length default = ⟨id, rs⟩ from by simp [List.getD]]
    exact ⟨.slice A n c, by rw [List.getElem?_append_right (by omega), h0]; simp, keep hu⟩
theorem RowB.bats {w : World} {base : Nat} {v : Value} {bs : List Bat} (h : RowB w base v bs) : ∃ A c, v = .slice A bs.length c ∧ Bats w A bs := by
  obtain ⟨ps, h0, ⟨_, h1⟩, h2⟩ := h
  rcases h1 with ⟨rfl, h3⟩ | ⟨g, cap, cur, rfl, hb, hh, hn, hc, hs, ht⟩
  · have : bs = [] := List.eq_nil_of_length_eq_zero h3
    subst this
    exact ⟨none, 0, rfl, .inl rfl⟩
  · refine ⟨_, _, rfl, .inr ⟨g, 0, rfl, Blk.lt hh, fun i hi => ?_⟩⟩
    obtain ⟨u, hu, hr⟩ := h2 i hi
    obtain ⟨A, c, rfl, hz⟩ := hr.rowz
    obtain ⟨p1, p2⟩ := pcells_at ps i _ hu
    refine ⟨A, c, ?_, ?_, hz⟩
    · rw [Nat.zero_add, Blk.cell hh (i * 2), ← Array.getElem?_toList]
      have h4 : (cur.toList.take (bs.length * 2))[i * 2]? = (pcells ps)[i * 2]? := by rw [ht]
      rw [List.getElem?_take, if_pos (by omega)] at h4
      rw [h4, p1]
    · rw [Nat.zero_add, Blk.cell hh (i * 2 + 1), ← Array.getElem?_toList]
      have h4 : (cur.toList.take (bs.length * 2))[i * 2 + 1]? = (pcells ps)[i * 2 + 1]? := by rw [ht]
      rw [List.getElem?_take, if_pos (by omega)] at h4
      rw [h4, p2]
/-- What Read answers. -/
def ReadRes (R : Option (List Bat)) (e : Ending) (w' : World) : Prop :=
  (R = none ∧ e = .returned (.tuple #[.slice none 0 0, .int .i64 4])) ∨ ∃ bs B d, R = some bs ∧ e = .returned (.tuple #[.slice B bs.length d, .int .i64 0]) ∧ Bats w' B bs
theorem batS_eq (cs : List Col) (l : List UInt8) : batS cs (some l) = (⟨(stepR 0 (sizeR 9223372036854775807) (some l)).1, (stepR [] (rowsR 32 8) (stepR 0 (sizeR 9223372036854775807) (some l)).2).1⟩, if (stepR 0 (sizeR 9223372036854775807) (some l)).1 < 1 ∨ fitsS cs (stepR [] (rowsR 32 8) (stepR 0 (sizeR 9223372036854775807) (some l)).2).1 = false then none else (stepR [] (rowsR 32 8) (stepR 0 (sizeR 9223372036854775807) (some l)).2).2) := rfl
theorem batS_len (cs : List Col) (l : List UInt8) (h : (stepR default (batR cs) (some l)).2.isSome = true) : ((stepR default (batR cs) (some l)).2.getD []).length + 1 ≤ l.length :=
  len_step default (batR cs) (fun l x r h => bat_short cs l r x h) l h
/-- A reader at work, and the batches that it gave. -/
structure RS (w1 : World) (g : Nat) (s : Option (List UInt8)) (lv : Value) (acc : List Bat) (W : World) : Prop where
  rd : Rd W g s
  off : Off (· = g) w1 W
  row : RowB W w1.heap.size lv acc
theorem RS.step {w1 W W' : World} {g : Nat} {s s' : Option (List UInt8)} {lv : Value} {acc : List Bat} (h : RS w1 g s lv acc W) (hg : g < w1.heap.size) (hr : Rd W' g s') (ho : Off (· = g) W W') : RS w1 g s' lv acc W' := ⟨hr, off_trans h.off ho, h.row.off hg ho⟩
theorem RS.below {w1 W W' : World} {g : Nat} {s : Option (List UInt8)} {lv : Value} {acc : List Bat} (h : RS w1 g s lv acc W) (hg : g < w1.heap.size) (hb : Below W.heap.size W W') : RS w1 g s lv acc W' := h.step hg (h.rd.more hb) (Off.of hb)
/-- A batch in a box. -/
structure BX (base k : Nat) (i : Int) (U : Option Addr) (d : Nat) (rs : List (List Val)) (W : World) : Prop where
  blk : Blk W k 38 #[.int .i64 i, .slice U rs.length d]
  row : RowR W base (.slice U rs.length d) rs
theorem BX.off {base k g : Nat} {i : Int} {U : Option Addr} {d : Nat} {rs : List (List Val)} {W W' : World} (h : BX base k i U d rs W) (hg : g < base) (hk : base ≤ k) (ho : Off (· = g) W W') : BX base k i U d rs W' := ⟨ho.blk h.blk (by omega), h.row.off hg ho⟩
theorem RS.more {w1 W W2 : World} {g k : Nat} {s : Option (List UInt8)} {lv v' : Value} {acc : List Bat} {i : Int} {U : Option Addr} {d : Nat} {rs : List (List Val)} {o : Obj} {ps : List (Int × Value)} (h : RS w1 g s lv acc W) (hgl : g < w1.heap.size) (hb : BX w1.heap.size k i U d rs W)
    (hp0 : ps.length = acc.length) (hp1 : W.ownsRow w1.heap.size 38 2 lv acc.length (pcells ps)) (hp2 : ∀ i, i < acc.length → ∃ u, ps[i]? = some ((acc.getD i default).id, u) ∧ RowR W w1.heap.size u (acc.getD i default).rows)
    (ho : W2.ownsRow w1.heap.size 38 2 v' (acc.length + 1) (pcells ps ++ [.int .i64 i, .slice U rs.length d])) (hg : (W.alloc o).grownBy W2 lv.ownBlock) : RS w1 g s v' (acc ++ [⟨i, rs⟩]) W2 :=
  ⟨(h.rd.more (below_alloc W o)).grown (World.ownsRow.alloc hp1 _) hgl (by decide) hg, (h.off.alloc _).grown hg (fun k hk hlt => by have := (World.ownsRow.lt hp1 k hk).1; omega), RowB.snoc hb.row hp1 ho rfl hg hp0 hp2⟩
theorem RowR.is {w : World} {base d : Nat} {U : Option Addr} {rs : List (List Val)} (h : RowR w base (.slice U rs.length d) rs) : Rowz w U rs := by
  obtain ⟨A, c, e, h2⟩ := h.rowz
  cases e
  exact h2
theorem rend_none (g : Nat) (w : World) (h : Rd w g none) : Calls Try.prog 59/-f-/ #[.pointer (some ⟨g, 0, none⟩)] w fun e w' => e = .returned (.bool false) ∧ w = w' := rend_any g none w h
theorem rend_nil2 (g : Nat) (w : World) (h : Rd w g (some [])) : Calls Try.prog 59/-f-/ #[.pointer (some ⟨g, 0, none⟩)] w fun e w' => e = .returned (.bool true) ∧ w = w' := rend_any g (some []) w h
theorem rend_cons (g : Nat) (x : UInt8) (t : List UInt8) (w : World) (h : Rd w g (some (x :: t))) : Calls Try.prog 59/-f-/ #[.pointer (some ⟨g, 0, none⟩)] w fun e w' => e = .returned (.bool false) ∧ w = w' := rend_any g (some (x :: t)) w h
set_option maxRecDepth 100000 in
set_option maxHeartbeats 16000000 in
theorem sread_any (S : ByteArray) (A : Option Addr) (c : Nat) (cs : List Col) (w : World) (hA : Cols w A cs) (hcl : cs.length ≤ 1000000) (hs : S.size ≤ 100000000) :
    Calls Try.prog 31/-f-/ #[.string S, .slice A cs.length c] w fun e w' => ReadRes (readB cs S.data.toList) e w' ∧ Below w.heap.size w w' := by
  obtain ⟨i0, hi, hz0, hz1, hz2⟩ := info_parts infoBat
  have hsl : S.data.toList.length = S.size := by simp
  have HA := Lib.hid hA
  have HRB := Lib.hid (readB_step cs S.data.toList)
  have HRES := Lib.hid (step_many (S.size : Int) (batR cs) (batsR cs S.size) (fun _ => rfl) (some S.data.toList))
  have hmn := size_lt (S.size : Int) (some S.data.toList) (by omega)
  have hl1 := len_size (S.size : Int) (some S.data.toList)
  rw [hsl] at HRB
  simp only [Option.getD_some] at hl1
  rw [hsl] at hl1
  have C1 := Lib.hid (fun g W (h : Rd W g (some S.data.toList)) => rsize_any g (S.size : Int) (some S.data.toList) W h (by omega) (by simp only [Option.getD_some]; omega))
  clear hA hsl
  generalize readB cs S.data.toList = R at *
  generalize stepR [] (batsR cs S.size) (some S.data.toList) = res at *
  generalize stepR 0 (sizeR (S.size : Int)) (some S.data.toList) = q0 at *
  obtain ⟨n0, st0⟩ := q0
  simp only at C1 HRES hmn hl1
  go_enter Try.func31, Try.ntmps31
  go_wp2_with (first
    | (go_at_call 54/-f-/; (with_reducible refine (read_any S _ (by omega)).mono ?_); rintro e w1 ⟨⟨g, rfl, hg, hr1⟩, hb1⟩; have HR1 := Lib.hid hr1; have HB1 := Lib.hid hb1; clear hr1 hb1)
    | (go_at_call 55/-f-/; (with_reducible refine (C1.out g _ HR1.out).mono ?_); rintro e w2 ⟨rfl, hr2, ho2⟩; have HR2 := Lib.hid hr2; have HO2 := Lib.hid ho2; clear hr2 ho2))
  have hgl : g < w1.heap.size := by obtain ⟨v, hB, _⟩ := HR1.out; exact hB.lt
  have hws : w.heap.size ≤ w1.heap.size := HB1.out.size
  have HS2 := Lib.hid (show RS w1 g st0 (.slice none 0 0) [] w2 from ⟨HR2.out, HO2.out, RowB.nil _ _⟩)
  have HBEL := Lib.hid (fun W (h : Off (· = g) w1 W) => HB1.out.trans (h.below (B := w.heap.size) (fun k hk e => by omega) hws))
  clear HR2 HO2 HR1
  go_loopw [7, 8, 9] (fun lv nv _ wr => ∃ (acc : List Bat) (m : Nat) (s : Option (List UInt8)), nv = .int .i64 m ∧ m ≤ 9223372036854775807 ∧ (∃ B k d, lv = .slice B k d) ∧ Rd wr g s ∧ Off (· = g) w1 wr ∧ (s.isSome = true → RowB wr w1.heap.size lv acc ∧ acc.length + (s.getD []).length ≤ 100000000) ∧ Hid (res = moreR (batR cs) acc m s)) (fun _ nv _ _ => (intOf nv).toNat)
  case atStart => exact ⟨[], n0, st0, rfl, hmn, ⟨_, _, _, rfl⟩, HS2.out.rd, HS2.out.off, fun _ => ⟨HS2.out.row, by simp; omega⟩, HRES⟩
  case round =>
    obtain ⟨acc, m, s, rfl, hmm, ⟨B, kk, dd, rfl⟩, hrd, ho, hrow, heq⟩ := hrel
    have HRD := Lib.hid hrd
    have HO := Lib.hid ho
    have hbs : w1.heap.size ≤ wr.heap.size := ho.size
    clear hrd ho
    cases s with
    | none =>
      have HX := Lib.hid (show R = none from by rw [HRB.out, heq.out]; rfl)
      clear hrow
      by_cases h0 : m = 0
      · subst h0
        go_wp2_with (first
          | (go_at_call 56/-f-/; (with_reducible refine (rgood_any g none _ HRD.out).mono ?_); rintro e w5 ⟨rfl, rfl⟩)
          | (go_at_call 59/-f-/; (with_reducible refine (rend_none g _ HRD.out).mono ?_); rintro e w6 ⟨rfl, rfl⟩))
        go_ret2
        refine ⟨.inl ⟨HX.out, ?_⟩, HBEL.out _ HO.out⟩; rfl
      · have hpos : 0 < m := by omega
        clear h0
        go_wp2_with (first
          | (go_at_call 56/-f-/; (with_reducible refine (rgood_any g none _ HRD.out).mono ?_); rintro e w5 ⟨rfl, rfl⟩)
          | (go_at_call 59/-f-/; (with_reducible refine (rend_none g _ HRD.out).mono ?_); rintro e w6 ⟨rfl, rfl⟩))
        go_ret2
        exact ⟨.inl ⟨HX.out, rfl⟩, HBEL.out _ HO.out⟩
    | some l =>
      obtain ⟨hrowB, hsum⟩ := hrow rfl
      simp only [Option.getD_some] at hsum
      have hkk : kk = acc.length := by
        obtain ⟨A9, c9, e9, _⟩ := hrowB.bats
        cases e9; rfl
      subst hkk
      have HROW := Lib.hid hrowB
      clear hrow hrowB
      by_cases h0 : m = 0
      · subst h0
        have HRS := Lib.hid (show res = (acc, some l) from by rw [heq.out, moreR_zero])
        cases l with
        | nil =>
          have HX := Lib.hid (show R = some acc from by rw [HRB.out, HRS.out]; rfl)
          go_wp2_with (first
            | (go_at_call 59/-f-/; (with_reducible refine (rend_nil2 g _ HRD.out).mono ?_); rintro e w6 ⟨rfl, rfl⟩))
          go_ret2
          refine ⟨.inr ⟨acc, B, dd, HX.out, rfl, ?_⟩, HBEL.out _ HO.out⟩
          obtain ⟨A9, c9, e9, h9⟩ := HROW.out.bats
          cases e9
          exact h9
        | cons x t =>
          have HX := Lib.hid (show R = none from by rw [HRB.out, HRS.out]; simp)
          go_wp2_with (first
            | (go_at_call 59/-f-/; (with_reducible refine (rend_cons g x t _ HRD.out).mono ?_); rintro e w6 ⟨rfl, rfl⟩))
          go_ret2
          exact ⟨.inl ⟨HX.out, rfl⟩, HBEL.out _ HO.out⟩
      · obtain ⟨m', rfl⟩ : ∃ m', m = m' + 1 := ⟨m - 1, by omega⟩
        have hpos : 0 < m' + 1 := by omega
        have HEQ := Lib.hid (heq.out.trans (moreR_succ default (batR cs) acc m' l))
        have HST := Lib.hid (bat_step cs l)
        have HLS := Lib.hid (batS_len cs l)
        rw [batS_eq] at HST
        have CS := Lib.hid (rsize_any g 9223372036854775807 (some l) wr HRD.out (by decide) (by simp only [Option.getD_some]; omega))
        have hln := len_size 9223372036854775807 (some l)
        simp only [Option.getD_some] at hln
        clear h0 heq
        generalize stepR default (batR cs) (some l) = st at *
        generalize stepR 0 (sizeR 9223372036854775807) (some l) = q at *
        obtain ⟨i, st2⟩ := q
        obtain ⟨x, s'⟩ := st
        simp only at HST CS HEQ HLS hln
        have CR := Lib.hid (fun W (h : Rd W g st2) => rrows_any g 32 8 st2 W h (by decide) (by decide) (by omega))
        have HFR := Lib.hid (rowsS_fit st2)
        generalize stepR [] (rowsR 32 8) st2 = q at *
        obtain ⟨rs, st3⟩ := q
        simp only at HST CR HFR
        have hr32 : rs.length ≤ 32 := HFR.out.1
        have CF' := fun U d5 W (h : Cols W A cs) (h2 : Rowz W U rs) => sfits_any A U c d5 cs rs W h h2 hcl (by omega) (fun r hr => ⟨by have := (HFR.out.2 r hr).1; omega, (HFR.out.2 r hr).2⟩)
        obtain ⟨f, hf⟩ : ∃ f, f = fitsS cs rs := ⟨_, rfl⟩
        rw [← hf] at HST CF'
        have CF := Lib.hid CF'
        have HS0 := Lib.hid (show RS w1 g (some l) (.slice B acc.length dd) acc wr from ⟨HRD.out, HO.out, HROW.out⟩)
        clear CF' hf HROW HO
        by_cases hi1 : i < 1
        · have hi1i : (i : Int) < 1 := by omega
          have HS' := Lib.hid (show s' = none from by rw [HST.out.1, if_pos (.inl hi1)])
          go_wp2_with (first
            | (go_at_call 56/-f-/; (with_reducible refine (rgood_any g (some l) _ HS0.out.rd).mono ?_); rintro e w5 ⟨rfl, rfl⟩)
            | (go_at_call 55/-f-/; (with_reducible refine CS.out.mono ?_); rintro e w5 ⟨rfl, hr, ho⟩; have HS1 := Lib.hid (HS0.out.step hgl hr ho); clear hr ho)
            | (go_at_call 57/-f-/; (with_reducible refine (CR.out _ HS1.out.rd).mono ?_); rintro e w6 ⟨⟨u, rfl, hrv⟩, hr, ho⟩; obtain ⟨U, d5, rfl, _⟩ := hrv.rowz; have HRV := Lib.hid (hrv.mono HS1.out.off.size); have HS2 := Lib.hid (HS1.out.step hgl hr ho); have HS3 := Lib.hid (HS2.out.below hgl (below_alloc w6 (.cells #[.int .i64 i, .slice U rs.length d5] 38))); have HB3 := Lib.hid (show BX w1.heap.size w6.heap.size i U d5 rs (w6.alloc (.cells #[.int .i64 i, .slice U rs.length d5] 38)) from ⟨Blk.new _ _ _, HRV.out.alloc _⟩); have hb6 := HS2.out.off.size; clear hr ho hrv)
            | (go_at_call 58/-f-/; (with_reducible refine (rfail_any g st3 _ HS3.out.rd).mono ?_); rintro e w8 ⟨rfl, hr, ho⟩; replace HB3 := Lib.hid (HB3.out.off hgl hb6 ho); replace HS3 := Lib.hid (HS3.out.step hgl hr ho); obtain ⟨d0, d1⟩ := cells2 HB3.out.blk; have hlt8 := HB3.out.blk.lt; clear hr ho)
            | (obtain ⟨ps, hp0, hp1, hp2⟩ := HS3.out.row; at_builtin; refine wpList_append_src _ rfl _ _ 25 rfl w1.heap.size 38 i0 (.agg #[.int .i64 0, .slice none 0 0]) 2 32 Try.underlying25/-t-/ hi hz0 hz1 hz2 rfl (by decide) (.slice B acc.length dd) acc.length (pcells ps) rfl (World.ownsRow.alloc hp1 _) _ 1 1 [.int .i64 i, .slice U rs.length d5] rfl (Src.bat _ _ _ _ _) (by unfold maxLen; omega) (by omega) (by simp; have := HS3.out.off.size; omega) ?_; intro v3 w3 hown3 hgr3 hnew3; obtain ⟨A1, cc1, rfl⟩ := own_slice hown3; have HM := Lib.hid (HS3.out.more hgl HB3.out hp0 hp1 hp2 hown3 hgr3); clear hown3 hgr3 hnew3 hp0 hp1 hp2))
          go_roundw
          case rel => exact ⟨acc ++ [x], m', s', by go_num, by omega, ⟨_, _, _, rfl⟩, HS'.out ▸ HM.out.rd, HM.out.off, fun h => (by rw [HS'.out] at h; cases h), HEQ⟩
          case measure => simp [intOf]
        · have hi1i : ¬ (i : Int) < 1 := by omega
          cases f with
          | false =>
            have HS' := Lib.hid (show s' = none from by rw [HST.out.1, if_pos (.inr rfl)])
            go_wp2_with (first
            | (go_at_call 56/-f-/; (with_reducible refine (rgood_any g (some l) _ HS0.out.rd).mono ?_); rintro e w5 ⟨rfl, rfl⟩)
            | (go_at_call 55/-f-/; (with_reducible refine CS.out.mono ?_); rintro e w5 ⟨rfl, hr, ho⟩; have HS1 := Lib.hid (HS0.out.step hgl hr ho); clear hr ho)
            | (go_at_call 57/-f-/; (with_reducible refine (CR.out _ HS1.out.rd).mono ?_); rintro e w6 ⟨⟨u, rfl, hrv⟩, hr, ho⟩; obtain ⟨U, d5, rfl, _⟩ := hrv.rowz; have HRV := Lib.hid (hrv.mono HS1.out.off.size); have HS2 := Lib.hid (HS1.out.step hgl hr ho); have HS3 := Lib.hid (HS2.out.below hgl (below_alloc w6 (.cells #[.int .i64 i, .slice U rs.length d5] 38))); have HB3 := Lib.hid (show BX w1.heap.size w6.heap.size i U d5 rs (w6.alloc (.cells #[.int .i64 i, .slice U rs.length d5] 38)) from ⟨Blk.new _ _ _, HRV.out.alloc _⟩); have hb6 := HS2.out.off.size; clear hr ho hrv)
            | (go_at_call 25/-f-/; (with_reducible refine (CF.out U d5 _ (HA.out.keep (HBEL.out _ HS3.out.off)) HB3.out.row.is).mono ?_); rintro e w7 ⟨rfl, hb⟩; replace HB3 := Lib.hid (HB3.out.off hgl hb6 (Off.of hb)); replace HS3 := Lib.hid (HS3.out.below hgl hb); obtain ⟨c0, c1⟩ := cells2 HB3.out.blk; have hlt7 := HB3.out.blk.lt; clear hb)
            | (go_at_call 58/-f-/; (with_reducible refine (rfail_any g st3 _ HS3.out.rd).mono ?_); rintro e w8 ⟨rfl, hr, ho⟩; replace HB3 := Lib.hid (HB3.out.off hgl hb6 ho); replace HS3 := Lib.hid (HS3.out.step hgl hr ho); obtain ⟨d0, d1⟩ := cells2 HB3.out.blk; have hlt8 := HB3.out.blk.lt; clear hr ho)
            | (obtain ⟨ps, hp0, hp1, hp2⟩ := HS3.out.row; at_builtin; refine wpList_append_src _ rfl _ _ 25 rfl w1.heap.size 38 i0 (.agg #[.int .i64 0, .slice none 0 0]) 2 32 Try.underlying25/-t-/ hi hz0 hz1 hz2 rfl (by decide) (.slice B acc.length dd) acc.length (pcells ps) rfl (World.ownsRow.alloc hp1 _) _ 1 1 [.int .i64 i, .slice U rs.length d5] rfl (Src.bat _ _ _ _ _) (by unfold maxLen; omega) (by omega) (by simp; have := HS3.out.off.size; omega) ?_; intro v3 w3 hown3 hgr3 hnew3; obtain ⟨A1, cc1, rfl⟩ := own_slice hown3; have HM := Lib.hid (HS3.out.more hgl HB3.out hp0 hp1 hp2 hown3 hgr3); clear hown3 hgr3 hnew3 hp0 hp1 hp2))
            go_roundw
            case rel => exact ⟨acc ++ [x], m', s', by go_num, by omega, ⟨_, _, _, rfl⟩, HS'.out ▸ HM.out.rd, HM.out.off, fun h => (by rw [HS'.out] at h; cases h), HEQ⟩
            case measure => simp [intOf]
          | true =>
            have HS' := Lib.hid (show s' = st3 from by rw [HST.out.1, if_neg (by simp; omega)])
            have HX' := Lib.hid (fun h : s'.isSome = true => HST.out.2 (HST.out.1 ▸ h))
            go_wp2_with (first
            | (go_at_call 56/-f-/; (with_reducible refine (rgood_any g (some l) _ HS0.out.rd).mono ?_); rintro e w5 ⟨rfl, rfl⟩)
            | (go_at_call 55/-f-/; (with_reducible refine CS.out.mono ?_); rintro e w5 ⟨rfl, hr, ho⟩; have HS1 := Lib.hid (HS0.out.step hgl hr ho); clear hr ho)
            | (go_at_call 57/-f-/; (with_reducible refine (CR.out _ HS1.out.rd).mono ?_); rintro e w6 ⟨⟨u, rfl, hrv⟩, hr, ho⟩; obtain ⟨U, d5, rfl, _⟩ := hrv.rowz; have HRV := Lib.hid (hrv.mono HS1.out.off.size); have HS2 := Lib.hid (HS1.out.step hgl hr ho); have HS3 := Lib.hid (HS2.out.below hgl (below_alloc w6 (.cells #[.int .i64 i, .slice U rs.length d5] 38))); have HB3 := Lib.hid (show BX w1.heap.size w6.heap.size i U d5 rs (w6.alloc (.cells #[.int .i64 i, .slice U rs.length d5] 38)) from ⟨Blk.new _ _ _, HRV.out.alloc _⟩); have hb6 := HS2.out.off.size; clear hr ho hrv)
            | (go_at_call 25/-f-/; (with_reducible refine (CF.out U d5 _ (HA.out.keep (HBEL.out _ HS3.out.off)) HB3.out.row.is).mono ?_); rintro e w7 ⟨rfl, hb⟩; replace HB3 := Lib.hid (HB3.out.off hgl hb6 (Off.of hb)); replace HS3 := Lib.hid (HS3.out.below hgl hb); obtain ⟨c0, c1⟩ := cells2 HB3.out.blk; have hlt7 := HB3.out.blk.lt; clear hb)
            | (obtain ⟨ps, hp0, hp1, hp2⟩ := HS3.out.row; at_builtin; refine wpList_append_src _ rfl _ _ 25 rfl w1.heap.size 38 i0 (.agg #[.int .i64 0, .slice none 0 0]) 2 32 Try.underlying25/-t-/ hi hz0 hz1 hz2 rfl (by decide) (.slice B acc.length dd) acc.length (pcells ps) rfl (World.ownsRow.alloc hp1 _) _ 1 1 [.int .i64 i, .slice U rs.length d5] rfl (Src.bat _ _ _ _ _) (by unfold maxLen; omega) (by omega) (by simp; have := HS3.out.off.size; omega) ?_; intro v3 w3 hown3 hgr3 hnew3; obtain ⟨A1, cc1, rfl⟩ := own_slice hown3; have HM := Lib.hid (HS3.out.more hgl HB3.out hp0 hp1 hp2 hown3 hgr3); clear hown3 hgr3 hnew3 hp0 hp1 hp2))
            go_roundw
            case rel => exact ⟨acc ++ [x], m', s', by go_num, by omega, ⟨_, _, _, rfl⟩, HS'.out ▸ HM.out.rd, HM.out.off, fun h => ⟨by rw [HX'.out h]; exact HM.out.row, by have := HLS.out h; simp only [List.length_append, List.length_singleton]; omega⟩, HEQ⟩
            case measure => simp [intOf]
theorem read_yes (S : ByteArray) (A : Option Addr) (c : Nat) (cs : List Col) (bs : List Bat) (w : World) (hA : Cols w A cs) (hcl : cs.length ≤ 1000000) (hs : S.size ≤ 100000000) (h : readB cs S.data.toList = some bs) :
    Calls Try.prog 31/-f-/ #[.string S, .slice A cs.length c] w fun e w' => (∃ G gd, e = .returned (.tuple #[.slice G bs.length gd, .int .i64 0]) ∧ Bats w' G bs) ∧ Below w.heap.size w w' :=
  (sread_any S A c cs w hA hcl hs).mono fun e w' ⟨hr, hb⟩ => by
    rcases hr with ⟨h1, _⟩ | ⟨bs', G, gd, h1, h2, h3⟩
    · rw [h] at h1; cases h1
    · rw [h] at h1
      cases h1
      exact ⟨⟨G, gd, h2, h3⟩, hb⟩
theorem read_no (S : ByteArray) (A : Option Addr) (c : Nat) (cs : List Col) (w : World) (hA : Cols w A cs) (hcl : cs.length ≤ 1000000) (hs : S.size ≤ 100000000) (h : readB cs S.data.toList = none) :
    Calls Try.prog 31/-f-/ #[.string S, .slice A cs.length c] w fun e w' => e = .returned (.tuple #[.slice none 0 0, .int .i64 4]) ∧ Below w.heap.size w w' :=
  (sread_any S A c cs w hA hcl hs).mono fun e w' ⟨hr, hb⟩ => by
    rcases hr with ⟨_, h2⟩ | ⟨bs', G, gd, h1, h2, h3⟩
    · exact ⟨h2, hb⟩
    · rw [h] at h1; cases h1
end Go.Proofs.Ytacangeamdcgdaa
