/- Contracts of the reference for package calc (affluxref01): numbers' sums, opposites and products. -/
import Derived.Test.YtddejkmfffeikaaRefB
import Derived.Deep.RegionHeld3
namespace Go.Proofs.Ytddejkmfffeikaa
open Go.ChangeShapes Go.WideShapes Go.ChangeAt Go.RowKit
open Ar (val Dig Canon)
set_option maxRecDepth 100000 in
set_option maxHeartbeats 1000000 in
theorem plus_same (A B : Option Addr) (c d : Nat) (X Y : List Int) (za zb : Int) (w : World) (hA : Ints w .i64 A X) (hB : Ints w .i64 B Y) (hs : X.length ≤ 50000) (hs' : Y.length ≤ 50000)
    (hX : Dig X) (hY : Dig Y) (vX : val X = za.natAbs) (vY : val Y = zb.natAbs) (hsg : (za < 0) ↔ (zb < 0)) :
    Calls Try.prog 49 #[.agg #[.bool (decide (za < 0)), .slice A X.length c], .agg #[.bool (decide (zb < 0)), .slice B Y.length d]] w fun e w' => ∃ v, e = .returned v ∧ Num w' v (za + zb) (max X.length Y.length + 1) w.heap.size ∧ Below w.heap.size w w' := by
  have hdec : decide (za < 0) = decide (zb < 0) := by rw [decide_eq_decide]; exact hsg
  have AD := Lib.hid (fun W (h : Below w.heap.size w W) => add_digits A B X.length c Y.length d X Y W (hA.keep h) (hB.keep h) rfl rfl (by omega) (by omega) hX hY)
  have HV := Lib.hid (show val X + val Y = (za + zb).natAbs by rw [vX, vY]; omega)
  have HD := Lib.hid hsg
  rw [← hdec]
  clear hA hB vX vY hsg hdec
  generalize hnb : decide (za < 0) = nb
  have HNB := Lib.hid hnb
  clear hnb
  go_enter Try.func49, Try.ntmps49
  go_wp2_with fail
  have z0 := (((Blk.new w 79 #[.bool nb, .slice A X.length c]).alloc (.cells #[.bool nb, .slice B Y.length d] 79)).alloc (.cells #[.bool false, .slice none 0 0] 79))
  have z1 := ((Blk.new (w.alloc (.cells #[.bool nb, .slice A X.length c] 79)) 79 #[.bool nb, .slice B Y.length d]).alloc (.cells #[.bool false, .slice none 0 0] 79))
  have z2 := Blk.new ((w.alloc (.cells #[.bool nb, .slice A X.length c] 79)).alloc (.cells #[.bool nb, .slice B Y.length d] 79)) 79 #[.bool false, .slice none 0 0]
  have hbz : Below w.heap.size w (((w.alloc (.cells #[.bool nb, .slice A X.length c] 79)).alloc (.cells #[.bool nb, .slice B Y.length d] 79)).alloc (.cells #[.bool false, .slice none 0 0] 79)) := (((Below.refl _ _).alloc (Nat.le_refl _) _).alloc (by simp) _).alloc (by simp; omega) _
  simp only [World.size_alloc] at z1 z2
  have s2 := z2.lt
  have s1 := z1.lt
  have s0 := z0.lt
  generalize ((w.alloc (.cells #[.bool nb, .slice A X.length c] 79)).alloc (.cells #[.bool nb, .slice B Y.length d] 79)).alloc (.cells #[.bool false, .slice none 0 0] 79) = wz at *
  have AD1 := Lib.hid (AD.out wz.drew hbz.drew)
  have SG := Lib.hid (fun (C : Option Addr) (l cap : Nat) (Z : List Int) (W : World) (hI : Ints W .i64 C Z) (hl : Hid (Z.length = l)) (hcl : l ≤ cap) (hlm : l ≤ max X.length Y.length + 1) (hd : Dig Z) (hv : Hid (val Z = val X + val Y)) => sign_any nb C l cap Z W (za + zb) (by
    have h1 := HV.out; have h2 := hv.out; have h3 := HD.out; have h4 := HNB.out; subst h4
    by_cases h : za < 0 <;> simp only [h, decide_true, decide_false, if_true, Bool.false_eq_true, if_false] <;> omega) hI hl.out hcl (by omega) hd)
  have c0 := z0.cell 0
  have c1 := z0.cell 1
  have c2 := z1.cell 0
  have c3 := z1.cell 1
  have c4 := z2.cell 0
  have c5 := z2.cell 1
  have f4 := z2.frozen 0
  have f5 := z2.frozen 1
  simp at c0 c1 c2 c3 c4 c5
  go_region_held3 (fun W => W.cell? ⟨w.heap.size, 0, none⟩ = some (.bool nb) ∧ W.cell? ⟨w.heap.size, 1, none⟩ = some (.slice A X.length c) ∧ W.cell? ⟨w.heap.size + 1, 1, none⟩ = some (.slice B Y.length d)) (first | exact ⟨c0, c1, c3⟩ | exact ⟨d0, d1, d3⟩ | exact ⟨p0, p1, p3⟩ | (refine ⟨?_, ?_, ?_⟩ <;> (rw [World.cell?_setCell_other _ _ _ _ (by simp), World.cell?_setCell_other _ _ _ _ (by simp)]; assumption)) | go_keep) ((first | (go_at_call 65; refine AD1.out.mono ?_; rintro e w1 ⟨C, l, cap, Z, rfl, hl, hcl, hlm, hI, hfr, hdz, hv, hb⟩; have y0 := (show Blk wz.drew _ _ _ from z0).below hb s0; have y1 := (show Blk wz.drew _ _ _ from z1).below hb s1; have y2 := (show Blk wz.drew _ _ _ from z2).below hb s2; have d0 := y0.cell 0; have d1 := y0.cell 1; have d3 := y1.cell 1; have t0 := y0.lt; have t1 := y1.lt; have t2 := y2.lt; simp at d0 d1 d3) | (go_at_call 64; refine (SG.out C l cap Z _ hI hl hcl hlm hdz hv).mono ?_; rintro e w2 ⟨m, rfl, hm, hr, hb2⟩; have x0 := y0.below hb2 t0; have x1 := y1.below hb2 t1; have x2 := y2.below hb2 t2; have e4 := x2.cell 0; have e5 := x2.cell 1; have g4 := x2.frozen 0; have g5 := x2.frozen 1; have p0 := x0.cell 0; have p1 := x0.cell 1; have p3 := x1.cell 1; simp at e4 e5 p0 p1 p3)))
  all_goals
    go_wp2
    have hL := hl.out
    have hlm' : (Z.take m).length = m := by rw [List.length_take]; omega
    refine bodyPost_ret (v := .agg #[.bool (decide (za + zb < 0)), .slice C m cap]) (by simp [results, Try.results49, go_sem, e4, e5]) rfl ⟨_, rfl, ⟨C, cap, Z.take m, by rw [hlm'], ?_, hfr.mono hbz.size, by omega, hdz.take m, hr.out.1, hr.out.2, by omega⟩, ?_⟩
    · exact (((hI.keep hb2).take m).store (fun a ha => by have := hfr a ha; simp; simp at this; omega) _).store (fun a ha => by have := hfr a ha; simp; simp at this; omega) _
    · exact ((((hbz.drew).trans (hb.mono (hbz.drew).size)).trans (hb2.mono ((hbz.drew).trans (hb.mono (hbz.drew).size)).size)).setCell (by simp; omega) _).setCell (by simp; omega) _

set_option maxRecDepth 100000 in
set_option maxHeartbeats 1000000 in
theorem plus_lt (A B : Option Addr) (c d : Nat) (X Y : List Int) (za zb : Int) (w : World) (hA : Ints w .i64 A X) (hB : Ints w .i64 B Y) (hs : X.length ≤ 50000) (hs' : Y.length ≤ 50000)
    (hX : Dig X) (hY : Dig Y) (cX : Canon X) (cY : Canon Y) (vX : val X = za.natAbs) (vY : val Y = zb.natAbs) (hsg : ¬ ((za < 0) ↔ (zb < 0))) (hlt : val X < val Y) :
    Calls Try.prog 49 #[.agg #[.bool (decide (za < 0)), .slice A X.length c], .agg #[.bool (decide (zb < 0)), .slice B Y.length d]] w fun e w' => ∃ v, e = .returned v ∧ Num w' v (za + zb) (max X.length Y.length + 1) w.heap.size ∧ Below w.heap.size w w' := by
  have hne : (decide (za < 0) == decide (zb < 0)) = false := by
    rw [beq_eq_false_iff_ne]; intro h; exact hsg (decide_eq_decide.1 h)
  have LE := Lib.hid (fun W (h : Below w.heap.size w W) => less_digits A B X.length c Y.length d X Y W (hA.keep h) (hB.keep h) rfl rfl (by omega) (by omega) hX hY cX cY)
  have AD := Lib.hid (fun W (h : Below w.heap.size w W) => sub_digits B A Y.length d X.length c Y X W (hB.keep h) (hA.keep h) rfl rfl (by omega) (by omega) hY hX (by omega))
  have HD := Lib.hid (show ¬ ((za < 0) ↔ (zb < 0)) ∧ val X = za.natAbs ∧ val Y = zb.natAbs from ⟨hsg, vX, vY⟩)
  have HLT := Lib.hid hlt
  clear hA hB vX vY hsg hlt
  generalize hnb : decide (za < 0) = nb at *
  generalize hmb : decide (zb < 0) = mb at *
  have HNB := Lib.hid hnb
  have HMB := Lib.hid hmb
  clear hnb hmb
  have z0 := (((Blk.new w 79 #[.bool nb, .slice A X.length c]).alloc (.cells #[.bool mb, .slice B Y.length d] 79)).alloc (.cells #[.bool false, .slice none 0 0] 79))
  have z1 := ((Blk.new (w.alloc (.cells #[.bool nb, .slice A X.length c] 79)) 79 #[.bool mb, .slice B Y.length d]).alloc (.cells #[.bool false, .slice none 0 0] 79))
  have z2 := Blk.new ((w.alloc (.cells #[.bool nb, .slice A X.length c] 79)).alloc (.cells #[.bool mb, .slice B Y.length d] 79)) 79 #[.bool false, .slice none 0 0]
  have hbz : Below w.heap.size w (((w.alloc (.cells #[.bool nb, .slice A X.length c] 79)).alloc (.cells #[.bool mb, .slice B Y.length d] 79)).alloc (.cells #[.bool false, .slice none 0 0] 79)) := (((Below.refl _ _).alloc (Nat.le_refl _) _).alloc (by simp) _).alloc (by simp; omega) _
  simp only [World.size_alloc] at z1 z2
  go_enter Try.func49, Try.ntmps49
  go_wp2_with (go_at_call 66; refine (LE.out _ hbz).mono ?_; rintro e wl ⟨rfl, hb0⟩; have l0 := z0.below hb0 z0.lt; have l1 := z1.below hb0 z1.lt; have l2 := z2.below hb0 z2.lt; have hdl : decide (val X < val Y) = true := by simpa using HLT.out)
  have hbl := hbz.trans (hb0.mono hbz.size)
  clear hb0 z0 z1 z2 hbz
  have s0 := l0.lt
  have s1 := l1.lt
  have s2 := l2.lt
  have AD1 := Lib.hid (AD.out wl.drew hbl.drew)
  have SG := Lib.hid (fun (C : Option Addr) (l cap : Nat) (Z : List Int) (W : World) (hI : Ints W .i64 C Z) (hl : Hid (Z.length = l)) (hcl : l ≤ cap) (hlm : l ≤ Y.length) (hd : Dig Z) (hv : Hid (val Z = val Y - val X)) => sign_any mb C l cap Z W (za + zb) (by
    have h1 := HD.out; have h2 := hv.out; have h3 := HNB.out; have h4 := HMB.out; have h5 := HLT.out; subst h3 h4
    by_cases h : za < 0 <;> by_cases h' : zb < 0 <;> simp only [h, h', decide_true, decide_false, if_true, Bool.false_eq_true, if_false] <;> omega) hI hl.out hcl (by omega) hd)
  have c0 := l0.cell 0
  have c1 := l0.cell 1
  have c2 := l1.cell 0
  have c3 := l1.cell 1
  simp at c0 c1 c2 c3
  go_region_held3 (fun W => W.cell? ⟨w.heap.size + 1, 0, none⟩ = some (.bool mb) ∧ W.cell? ⟨w.heap.size + 1, 1, none⟩ = some (.slice B Y.length d) ∧ W.cell? ⟨w.heap.size, 1, none⟩ = some (.slice A X.length c)) (first | exact ⟨c2, c3, c1⟩ | exact ⟨d2, d3, d1⟩ | exact ⟨p2, p3, p1⟩ | (refine ⟨?_, ?_, ?_⟩ <;> (rw [World.cell?_setCell_other _ _ _ _ (by simp), World.cell?_setCell_other _ _ _ _ (by simp)]; assumption)) | go_keep) ((first | (go_at_call 67; refine AD1.out.mono ?_; rintro e w1 ⟨C, l, cap, Z, rfl, hl, hcl, hlm, hI, hfr, hdz, hv, hb⟩; have y0 := (show Blk wl.drew _ _ _ from l0).below hb s0; have y1 := (show Blk wl.drew _ _ _ from l1).below hb s1; have y2 := (show Blk wl.drew _ _ _ from l2).below hb s2; have d0 := y0.cell 0; have d1 := y0.cell 1; have d2 := y1.cell 0; have d3 := y1.cell 1; have t0 := y0.lt; have t1 := y1.lt; have t2 := y2.lt; simp at d0 d1 d2 d3) | (go_at_call 64; refine (SG.out C l cap Z _ hI hl hcl hlm hdz hv).mono ?_; rintro e w2 ⟨m, rfl, hm, hr, hb2⟩; have x0 := y0.below hb2 t0; have x1 := y1.below hb2 t1; have x2 := y2.below hb2 t2; have e4 := x2.cell 0; have e5 := x2.cell 1; have g4 := x2.frozen 0; have g5 := x2.frozen 1; have p0 := x0.cell 0; have p1 := x0.cell 1; have p2 := x1.cell 0; have p3 := x1.cell 1; simp at e4 e5 p0 p1 p2 p3)))
  all_goals
    go_wp2
    have hL := hl.out
    have hlm' : (Z.take m).length = m := by rw [List.length_take]; omega
    refine bodyPost_ret (v := .agg #[.bool (decide (za + zb < 0)), .slice C m cap]) (by simp [results, Try.results49, go_sem, e4, e5]) rfl ⟨_, rfl, ⟨C, cap, Z.take m, by rw [hlm'], ?_, hfr.mono hbl.size, by omega, hdz.take m, hr.out.1, hr.out.2, by omega⟩, ?_⟩
    · exact (((hI.keep hb2).take m).store (fun a ha => by have := hfr a ha; simp; simp at this; omega) _).store (fun a ha => by have := hfr a ha; simp; simp at this; omega) _
    · exact ((((hbl.drew).trans (hb.mono (hbl.drew).size)).trans (hb2.mono ((hbl.drew).trans (hb.mono (hbl.drew).size)).size)).setCell (by simp; omega) _).setCell (by simp; omega) _

set_option maxRecDepth 100000 in
set_option maxHeartbeats 1000000 in
theorem plus_ge (A B : Option Addr) (c d : Nat) (X Y : List Int) (za zb : Int) (w : World) (hA : Ints w .i64 A X) (hB : Ints w .i64 B Y) (hs : X.length ≤ 50000) (hs' : Y.length ≤ 50000)
    (hX : Dig X) (hY : Dig Y) (cX : Canon X) (cY : Canon Y) (vX : val X = za.natAbs) (vY : val Y = zb.natAbs) (hsg : ¬ ((za < 0) ↔ (zb < 0))) (hlt : ¬ val X < val Y) :
    Calls Try.prog 49 #[.agg #[.bool (decide (za < 0)), .slice A X.length c], .agg #[.bool (decide (zb < 0)), .slice B Y.length d]] w fun e w' => ∃ v, e = .returned v ∧ Num w' v (za + zb) (max X.length Y.length + 1) w.heap.size ∧ Below w.heap.size w w' := by
  have hne : (decide (za < 0) == decide (zb < 0)) = false := by
    rw [beq_eq_false_iff_ne]; intro h; exact hsg (decide_eq_decide.1 h)
  have LE := Lib.hid (fun W (h : Below w.heap.size w W) => less_digits A B X.length c Y.length d X Y W (hA.keep h) (hB.keep h) rfl rfl (by omega) (by omega) hX hY cX cY)
  have AD := Lib.hid (fun W (h : Below w.heap.size w W) => sub_digits A B X.length c Y.length d X Y W (hA.keep h) (hB.keep h) rfl rfl (by omega) (by omega) hX hY (by omega))
  have HD := Lib.hid (show ¬ ((za < 0) ↔ (zb < 0)) ∧ val X = za.natAbs ∧ val Y = zb.natAbs from ⟨hsg, vX, vY⟩)
  have HLT := Lib.hid hlt
  clear hA hB vX vY hsg hlt
  generalize hnb : decide (za < 0) = nb at *
  generalize hmb : decide (zb < 0) = mb at *
  have HNB := Lib.hid hnb
  have HMB := Lib.hid hmb
  clear hnb hmb
  have z0 := (((Blk.new w 79 #[.bool nb, .slice A X.length c]).alloc (.cells #[.bool mb, .slice B Y.length d] 79)).alloc (.cells #[.bool false, .slice none 0 0] 79))
  have z1 := ((Blk.new (w.alloc (.cells #[.bool nb, .slice A X.length c] 79)) 79 #[.bool mb, .slice B Y.length d]).alloc (.cells #[.bool false, .slice none 0 0] 79))
  have z2 := Blk.new ((w.alloc (.cells #[.bool nb, .slice A X.length c] 79)).alloc (.cells #[.bool mb, .slice B Y.length d] 79)) 79 #[.bool false, .slice none 0 0]
  have hbz : Below w.heap.size w (((w.alloc (.cells #[.bool nb, .slice A X.length c] 79)).alloc (.cells #[.bool mb, .slice B Y.length d] 79)).alloc (.cells #[.bool false, .slice none 0 0] 79)) := (((Below.refl _ _).alloc (Nat.le_refl _) _).alloc (by simp) _).alloc (by simp; omega) _
  simp only [World.size_alloc] at z1 z2
  go_enter Try.func49, Try.ntmps49
  go_wp2_with (go_at_call 66; refine (LE.out _ hbz).mono ?_; rintro e wl ⟨rfl, hb0⟩; have l0 := z0.below hb0 z0.lt; have l1 := z1.below hb0 z1.lt; have l2 := z2.below hb0 z2.lt; have hdl : decide (val X < val Y) = false := by simpa using HLT.out)
  have hbl := hbz.trans (hb0.mono hbz.size)
  clear hb0 z0 z1 z2 hbz
  have s0 := l0.lt
  have s1 := l1.lt
  have s2 := l2.lt
  have AD1 := Lib.hid (AD.out wl.drew hbl.drew)
  have SG := Lib.hid (fun (C : Option Addr) (l cap : Nat) (Z : List Int) (W : World) (hI : Ints W .i64 C Z) (hl : Hid (Z.length = l)) (hcl : l ≤ cap) (hlm : l ≤ X.length) (hd : Dig Z) (hv : Hid (val Z = val X - val Y)) => sign_any nb C l cap Z W (za + zb) (by
    have h1 := HD.out; have h2 := hv.out; have h3 := HNB.out; have h4 := HMB.out; have h5 := HLT.out; subst h3 h4
    by_cases h : za < 0 <;> by_cases h' : zb < 0 <;> simp only [h, h', decide_true, decide_false, if_true, Bool.false_eq_true, if_false] <;> omega) hI hl.out hcl (by omega) hd)
  have c0 := l0.cell 0
  have c1 := l0.cell 1
  have c2 := l1.cell 0
  have c3 := l1.cell 1
  simp at c0 c1 c2 c3
  go_region_held3 (fun W => W.cell? ⟨w.heap.size, 0, none⟩ = some (.bool nb) ∧ W.cell? ⟨w.heap.size, 1, none⟩ = some (.slice A X.length c) ∧ W.cell? ⟨w.heap.size + 1, 1, none⟩ = some (.slice B Y.length d)) (first | exact ⟨c0, c1, c3⟩ | exact ⟨d0, d1, d3⟩ | exact ⟨p0, p1, p3⟩ | (refine ⟨?_, ?_, ?_⟩ <;> (rw [World.cell?_setCell_other _ _ _ _ (by simp), World.cell?_setCell_other _ _ _ _ (by simp)]; assumption)) | go_keep) ((first | (go_at_call 67; refine AD1.out.mono ?_; rintro e w1 ⟨C, l, cap, Z, rfl, hl, hcl, hlm, hI, hfr, hdz, hv, hb⟩; have y0 := (show Blk wl.drew _ _ _ from l0).below hb s0; have y1 := (show Blk wl.drew _ _ _ from l1).below hb s1; have y2 := (show Blk wl.drew _ _ _ from l2).below hb s2; have d0 := y0.cell 0; have d1 := y0.cell 1; have d2 := y1.cell 0; have d3 := y1.cell 1; have t0 := y0.lt; have t1 := y1.lt; have t2 := y2.lt; simp at d0 d1 d2 d3) | (go_at_call 64; refine (SG.out C l cap Z _ hI hl hcl hlm hdz hv).mono ?_; rintro e w2 ⟨m, rfl, hm, hr, hb2⟩; have x0 := y0.below hb2 t0; have x1 := y1.below hb2 t1; have x2 := y2.below hb2 t2; have e4 := x2.cell 0; have e5 := x2.cell 1; have g4 := x2.frozen 0; have g5 := x2.frozen 1; have p0 := x0.cell 0; have p1 := x0.cell 1; have p2 := x1.cell 0; have p3 := x1.cell 1; simp at e4 e5 p0 p1 p2 p3)))
  all_goals
    go_wp2
    have hL := hl.out
    have hlm' : (Z.take m).length = m := by rw [List.length_take]; omega
    refine bodyPost_ret (v := .agg #[.bool (decide (za + zb < 0)), .slice C m cap]) (by simp [results, Try.results49, go_sem, e4, e5]) rfl ⟨_, rfl, ⟨C, cap, Z.take m, by rw [hlm'], ?_, hfr.mono hbl.size, by omega, hdz.take m, hr.out.1, hr.out.2, by omega⟩, ?_⟩
    · exact (((hI.keep hb2).take m).store (fun a ha => by have := hfr a ha; simp; simp at this; omega) _).store (fun a ha => by have := hfr a ha; simp; simp at this; omega) _
    · exact ((((hbl.drew).trans (hb.mono (hbl.drew).size)).trans (hb2.mono ((hbl.drew).trans (hb.mono (hbl.drew).size)).size)).setCell (by simp; omega) _).setCell (by simp; omega) _

/-- Any two numbers' sum. -/
theorem plus_num (va vb : Value) (za zb : Int) (n m Ba Bb : Nat) (w : World) (ha : Num w va za n Ba) (hb : Num w vb zb m Bb) (hn : n ≤ 50000) (hm : m ≤ 50000) :
    Calls Try.prog 49 #[va, vb] w fun e w' => ∃ v, e = .returned v ∧ Num w' v (za + zb) (max n m + 1) w.heap.size ∧ Below w.heap.size w w' := by
  obtain ⟨A, c, X, rfl, hA, _, hcX, hX, cX, vX, lX⟩ := ha.is
  obtain ⟨B, d, Y, rfl, hB, _, hcY, hY, cY, vY, lY⟩ := hb.is
  have key : Calls Try.prog 49 #[.agg #[.bool (decide (za < 0)), .slice A X.length c], .agg #[.bool (decide (zb < 0)), .slice B Y.length d]] w fun e w' => ∃ v, e = .returned v ∧ Num w' v (za + zb) (max X.length Y.length + 1) w.heap.size ∧ Below w.heap.size w w' := by
    by_cases hsg : (za < 0) ↔ (zb < 0)
    · exact plus_same A B c d X Y za zb w hA hB (by omega) (by omega) hX hY vX vY hsg
    · by_cases hlt : val X < val Y
      · exact plus_lt A B c d X Y za zb w hA hB (by omega) (by omega) hX hY cX cY vX vY hsg hlt
      · exact plus_ge A B c d X Y za zb w hA hB (by omega) (by omega) hX hY cX cY vX vY hsg hlt
  refine key.mono ?_
  rintro e w' ⟨v, h1, h2, h3⟩
  obtain ⟨A', c', D', q1, q2, q3, q4, q5, q6, q7, q8⟩ := h2.is
  exact ⟨v, h1, ⟨A', c', D', q1, q2, q3, q4, q5, q6, q7, by omega⟩, h3⟩
end Go.Proofs.Ytddejkmfffeikaa
