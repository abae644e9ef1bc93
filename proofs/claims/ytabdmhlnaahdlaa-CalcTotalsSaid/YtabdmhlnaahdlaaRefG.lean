/- Floor, of the reference for package calc. -/
import Derived.Test.YtabdmhlnaahdlaaRefF
import Derived.Deep.DeepCutAuto
import Derived.Deep.RegionHeld3
namespace Go.Proofs.Ytabdmhlnaahdlaa
open Go.ChangeShapes Go.WideShapes Go.ChangeAt Go.RowKit
open Ar (val Dig Canon)
/-- A variable of the reference's type lies in block g, and is a number. -/
def At (W : World) (g : Nat) (z : Int) (len B : Nat) : Prop := ∃ (A : Option Addr) (c : Nat) (D : List Int) (s : Bool), Blk W g 32 #[.bool s, .slice A D.length c] ∧ Hid (s = decide (z < 0)) ∧ Num W (.agg #[.bool s, .slice A D.length c]) z len B
theorem At.keep {W W' : World} {g : Nat} {z : Int} {len B : Nat} (h : At W g z len B) (hb : Below W.heap.size W W') : At W' g z len B := by
  obtain ⟨A, c, D, s, h1, h2, h3⟩ := h
  exact ⟨A, c, D, s, h1.below hb h1.lt, h2, h3.keep hb⟩
theorem Num.weak {W : World} {v : Value} {z : Int} {len B l2 B2 : Nat} (h : Num W v z len B) (hl : len ≤ l2) (h2 : B2 ≤ B) : Num W v z l2 B2 := by
  obtain ⟨A, c, D, h1, h2', h3, h4, h5, h6, h7, h8⟩ := h.is
  exact ⟨A, c, D, h1, h2', fun a ha => Nat.le_trans h2 (h3 a ha), h4, h5, h6, h7, by omega⟩
theorem At.of {W : World} {v : Value} {z : Int} {len B : Nat} (h : Num W v z len B) : ∃ (A : Option Addr) (c : Nat) (D : List Int) (s : Bool), v = .agg #[.bool s, .slice A D.length c] ∧ Hid (s = decide (z < 0)) := by
  obtain ⟨A, c, D, h1, _⟩ := h.is
  exact ⟨A, c, D, _, h1, rfl⟩
theorem Num.store {W : World} {v : Value} {z : Int} {len B : Nat} (h : Num W v z len B) {p : Addr} (hp : p.block < B) (u : Value) : Num (W.setCell p u) v z len B := by
  obtain ⟨A, c, D, h1, h2, h3, h4⟩ := h.is
  exact ⟨A, c, D, h1, h2.store (fun a ha => by have := h3 a ha; omega) u, h3, h4⟩
theorem At.put {y : World} {g : Nat} {b0 s : Bool} {A0 A : Option Addr} {n0 k0 c : Nat} {D : List Int} {z : Int} {len B B2 : Nat} (hb : Blk y g 32 #[.bool b0, .slice A0 n0 k0]) (hm : Num y (.agg #[.bool s, .slice A D.length c]) z len B) (hB : g < B) (hs : Hid (s = decide (z < 0))) (h2 : B2 ≤ B) :
    At ((y.setCell ⟨g, 0, none⟩ (.bool s)).setCell ⟨g, 1, none⟩ (.slice A D.length c)) g z len B2 :=
  ⟨A, c, D, s, (hb.put 0 _).put 1 _, hs, ((hm.store (p := ⟨g, 0, none⟩) hB _).store (p := ⟨g, 1, none⟩) hB _).weak (Nat.le_refl _) h2⟩
theorem At.new {y : World} {s : Bool} {A : Option Addr} {c : Nat} {D : List Int} {z : Int} {len B B2 : Nat} (hm : Num y (.agg #[.bool s, .slice A D.length c]) z len B) (hs : Hid (s = decide (z < 0))) (h2 : B2 ≤ B) :
    At (y.alloc (.cells #[.bool s, .slice A D.length c] 32)) y.heap.size z len B2 :=
  ⟨A, c, D, s, Blk.new _ _ _, hs, (hm.keep ((Below.refl _ _).alloc (Nat.le_refl _) _)).weak (Nat.le_refl _) h2⟩
theorem Num.open_ {W : World} {s : Bool} {A : Option Addr} {c : Nat} {D : List Int} {z : Int} {len B : Nat} (h : Num W (.agg #[.bool s, .slice A D.length c]) z len B) :
    ∃ E : List Int, Ints W .i64 A E ∧ E.length = D.length ∧ Hid (D.length ≤ c ∧ Dig E ∧ Canon E ∧ val E = z.natAbs ∧ D.length ≤ len) := by
  obtain ⟨A2, c2, E, h1, h2, h3, h4⟩ := h.is
  simp only [Value.agg.injEq, Array.mk.injEq, List.cons.injEq, Value.slice.injEq, and_true] at h1
  obtain ⟨_, rfl, hl, rfl⟩ := h1
  exact ⟨E, h2, hl.symm, by rw [hl]; exact h4⟩
theorem At.lt {W : World} {g : Nat} {z : Int} {len B : Nat} (h : At W g z len B) : g < W.heap.size := by
  obtain ⟨A, c, D, s, h1, _⟩ := h
  exact h1.lt
theorem minus_at {W : World} {s : Bool} {A : Option Addr} {c : Nat} {D : List Int} {z : Int} {len B : Nat} (h : Num W (.agg #[.bool s, .slice A D.length c]) z len B) (hs : Hid (s = decide (z < 0))) (hl : len ≤ 100000) :
    Calls Try.prog 18 #[.agg #[.bool s, .slice A D.length c]] W fun e w' => ∃ (m : Nat) (b : Bool), e = .returned (.agg #[.bool b, .slice A m c]) ∧ Hid (b = decide (-z < 0) ∧ (m = 0 → z = 0)) ∧ Below W.heap.size W w' := by
  obtain ⟨E, i1, i2, i3⟩ := h.open_
  have h3 := i3.out
  have := minus_exact A c E z W i1 (by omega) (by omega) h3.2.1 h3.2.2.2.1
  rw [← hs.out, i2] at this
  refine this.mono ?_
  rintro e w' ⟨m, q1, q2, q3, q4⟩
  refine ⟨m, _, q1, Lib.hid ⟨rfl, fun hm => ?_⟩, q4⟩
  subst hm
  have := q3.out.2
  simp [val] at this
  omega
set_option maxHeartbeats 4000000 in
theorem floor_true (a b q : Int) (w : World) (ha : -9223372036854775808 ≤ a ∧ a ≤ 9223372036854775807) (hb : -9223372036854775808 ≤ b ∧ b ≤ 9223372036854775807) (hq : -9223372036854775808 ≤ q ∧ q ≤ 9223372036854775807)
    (hlo : 0 ≤ (if b < 0 then -(a - b * q) else a - b * q)) (hhi : 0 < (if b < 0 then -(b * q + b - a) else b * q + b - a)) :
    Calls Try.prog 22 #[.int .i64 a, .int .i64 b, .int .i64 q] w fun e w' => e = .returned (.bool true) ∧ Below w.heap.size w w' := by
  have h0 : Below w.heap.size w w := Below.refl _ _
  have HL := Lib.hid hlo
  have HH := Lib.hid hhi
  have OB := Lib.hid (fun W => of_any b W hb.1 hb.2)
  have OA := Lib.hid (fun W => of_any a W ha.1 ha.2)
  have OQ := Lib.hid (fun W => of_any q W hq.1 hq.2)
  clear hlo hhi
  go_enter Try.func22, Try.ntmps22
  go_wp2_with fail
  refine (OB.out _).mono ?_
  rintro e w1 ⟨v1, rfl, n1, b1⟩
  have h1 := h0.trans (b1.mono h0.size)
  go_wp2_with fail
  refine (OQ.out _).mono ?_
  rintro e w2 ⟨v2, rfl, n2, b2⟩
  have h2 := h1.trans (b2.mono h1.size)
  go_wp2_with fail
  refine (times_num v1 v2 _ _ _ _ _ _ _ (n1.keep b2) n2 (by omega) (by omega)).mono ?_
  rintro e w3 ⟨v3, rfl, n3, b3⟩
  have h3 := h2.trans (b3.mono h2.size)
  have n3' := n3.weak (l2 := 41) (B2 := 0) (by omega) (Nat.zero_le _)
  obtain ⟨A3, c3, D3, s3, hv3, HS3⟩ := At.of n3
  subst hv3
  have at7 : At (w3.alloc (.cells #[.bool s3, .slice A3 D3.length c3] 32)) w3.heap.size (b * q) 41 0 := ⟨A3, c3, D3, s3, Blk.new w3 32 _, HS3, n3'.keep ((Below.refl _ _).alloc (Nat.le_refl _) _)⟩
  have h4 := h3.alloc h3.size (.cells #[.bool s3, .slice A3 D3.length c3] 32)
  have hg7 : w.heap.size ≤ w3.heap.size := h3.size
  clear n3 n3' h3 b3 h2 b2 h1 b1 n1 n2 h0 HS3
  go_upto_region 2 with fail
  generalize w3.heap.size = g7 at *
  generalize w3.alloc (.cells #[.bool s3, .slice A3 D3.length c3] 32) = x1 at *
  go_cut [8] (fun p wx => ∃ g8, p = .pointer (some ⟨g8, 0, none⟩) ∧ Below x1.heap.size x1 wx ∧ At wx g8 (b * q + b) 42 0)
  case first =>
    obtain ⟨A, c, D, s, kB, HS, n7⟩ := at7
    have c0 := kB.cell 0
    have c1 := kB.cell 1
    have klt := kB.lt
    simp at c0 c1
    have PL := Lib.hid (fun (y1 : World) (v : Value) (B1 : Nat) (m1 : Num y1 v b 20 B1) (q1 : Below x1.heap.size x1 y1) => plus_num (.agg #[.bool s, .slice A D.length c]) v (b * q) b 41 20 0 B1 y1 (n7.keep q1) m1 (by omega) (by omega))
    go_region_held3 (fun W => W.cell? ⟨g7, 0, none⟩ = some (.bool s) ∧ W.cell? ⟨g7, 1, none⟩ = some (.slice A D.length c)) (first | exact ⟨c0, c1⟩ | exact ⟨d0, d1⟩ | exact ⟨e0, e1⟩ | (refine ⟨?_, ?_⟩ <;> (first | assumption | (rw [World.cell?_drew]; assumption) | (rw [World.cell?_alloc_lt _ _ _ (by assumption)]; assumption) | (rw [World.cell?_drew, World.cell?_alloc_lt _ _ _ (by assumption)]; assumption) | (rw [World.cell?_setCell_other _ _ _ _ (by intro h; injection h; omega), World.cell?_setCell_other _ _ _ _ (by intro h; injection h; omega)]; assumption))) | go_keep) (first | (go_at_call 17; refine (OB.out _).mono ?_; rintro e y1 ⟨v, rfl, m1, q1⟩; obtain ⟨hc1, hf1⟩ := bcell q1; have hz1 := q1.size; (try simp at hz1); (try have hz1p : x1.heap.size < y1.heap.size := by omega); have kk := kB.below (show Below x1.heap.size x1 y1 from Below.trans (by repeat (first | exact Below.refl _ _ | refine Below.drew ?_ | refine Below.alloc ?_ (by simp) _)) (q1.mono (by simp))) klt; have q1' : Below x1.heap.size x1 y1 := Below.trans (by repeat (first | exact Below.refl _ _ | refine Below.drew ?_ | refine Below.alloc ?_ (by simp) _)) (q1.mono (by simp)); have d0 := kk.cell 0; have d1 := kk.cell 1; have kklt := kk.lt; have hzz := q1'.size; simp at d0 d1) | (go_at_call 16; refine (PL.out _ v _ (m1.keep ?_) ?_).mono ?_; (repeat (first | exact Below.refl _ _ | refine Below.drew ?_ | refine Below.alloc ?_ (by simp) _)); (repeat (first | exact q1' | refine Below.drew ?_ | refine Below.alloc ?_ (by first | omega | (simp; omega)) _)); rintro e y2 ⟨v8, rfl, m2, q2⟩; obtain ⟨hc2, hf2⟩ := bcell q2; have hz2 := q2.size; obtain ⟨A8, c8, D8, s8, hv8, HS8⟩ := At.of m2; subst hv8; have kk2 := kk.below (show Below y1.heap.size y1 y2 from Below.trans (by repeat (first | exact Below.refl _ _ | refine Below.drew ?_ | refine Below.alloc ?_ (by simp) _)) (q2.mono (by simp))) kklt; have e0 := kk2.cell 0; have e1 := kk2.cell 1; have kk2lt := kk2.lt; simp at e0 e1; (try simp at hz2); (try have hz2p : y1.heap.size < y2.heap.size := by omega)))
    all_goals
      go_wp2_with fail
      go_meet
      first
        | exact ⟨_, rfl, by have h9 := q1'.trans (show Below x1.heap.size y1 y2 from Below.mono (Below.trans (by repeat (first | exact Below.refl _ _ | refine Below.drew ?_ | refine Below.alloc ?_ (by simp) _)) (q2.mono (by simp))) hzz); exact h9.alloc h9.size _, At.new m2 HS8 (Nat.zero_le _)⟩
        | exact ⟨_, rfl, by have h9 := q1'.trans (show Below x1.heap.size y1 y2 from Below.mono (Below.trans (by repeat (first | exact Below.refl _ _ | refine Below.drew ?_ | refine Below.alloc ?_ (by simp) _)) (q2.mono (by simp))) hzz); exact (h9.setCell (by simp; omega) _).setCell (by simp; omega) _, At.put ((Blk.new y1 _ _).below q2 (by simp)) m2 (by simp) HS8 (Nat.zero_le _)⟩
        | exact ⟨_, rfl, by have h9 := q1'.trans (show Below x1.heap.size y1 y2 from Below.mono (Below.trans (by repeat (first | exact Below.refl _ _ | refine Below.drew ?_ | refine Below.alloc ?_ (by simp) _)) (q2.mono (by simp))) hzz); exact (h9.setCell (by simp) _).setCell (by simp) _, At.put (((Blk.new x1.drew _ _).below q1 (by simp)).below q2 (by simpa using hz1p)) m2 (by simpa using hz1p) HS8 (Nat.zero_le _)⟩
  case rest =>
    obtain ⟨g8, rfl, hb8, at8⟩ := hcut
    replace at7 := at7.keep hb8
    replace h4 := h4.trans (hb8.mono h4.size)
    clear hb8 x1
    go_upto_region 3 with fail
    go_cut [9] (fun p wx => ∃ g9, p = .pointer (some ⟨g9, 0, none⟩) ∧ wc.heap.size ≤ g9 ∧ Below wc.heap.size wc wx ∧ At wx g9 (a + -(b * q)) 42 wc.heap.size)
    case first =>
      obtain ⟨A, c, D, s, kB, HS, n7⟩ := at7
      have c0 := kB.cell 0
      have c1 := kB.cell 1
      have klt := kB.lt
      simp at c0 c1
      have MN := Lib.hid (fun (W : World) (h : Num W (.agg #[.bool s, .slice A D.length c]) (b * q) 41 0) => minus_num _ (b * q) 41 0 W h (by omega))
      have PL := Lib.hid (fun (W : World) (v v2 : Value) (B1 B2 : Nat) (m1 : Num W v a 20 B1) (m2 : Num W v2 (-(b * q)) 41 B2) => plus_num v v2 a (-(b * q)) 20 41 B1 B2 W m1 m2 (by omega) (by omega))
      go_region_held3 (fun W => W.cell? ⟨g7, 0, none⟩ = some (.bool s) ∧ W.cell? ⟨g7, 1, none⟩ = some (.slice A D.length c)) (first | exact ⟨c0, c1⟩ | exact ⟨d10, d11⟩ | exact ⟨d20, d21⟩ | exact ⟨d30, d31⟩ | (refine ⟨?_, ?_⟩ <;> (first | assumption | (rw [World.cell?_drew]; assumption) | (rw [World.cell?_alloc_lt _ _ _ (by assumption)]; assumption) | (rw [World.cell?_drew, World.cell?_alloc_lt _ _ _ (by assumption)]; assumption) | (rw [World.cell?_setCell_other _ _ _ _ (by intro h; injection h; omega), World.cell?_setCell_other _ _ _ _ (by intro h; injection h; omega)]; assumption))) | go_keep) ((first | (go_at_call 17; refine (OA.out _).mono ?_; rintro e y1 ⟨v, rfl, m1, q1⟩; obtain ⟨hc1, hf1⟩ := bcell q1; have hs1 := q1.size; (try simp at hs1); (try have hsp1 : wc.heap.size < y1.heap.size := by omega); have p1 : Below wc.heap.size wc y1 := Below.trans (by repeat (first | exact Below.refl _ _ | refine Below.drew ?_ | refine Below.alloc ?_ (by simp) _)) (q1.mono (by simp)); have hz1 := p1.size; (try have hsq1 : wc.heap.size < y1.heap.size := by omega); have kk1 := kB.below p1 klt; have d10 := kk1.cell 0; have d11 := kk1.cell 1; have kklt1 := kk1.lt; simp at d10 d11; skip) | (go_at_call 18; refine (MN.out _ ((n7.keep p1).keep ?_)).mono ?_; (repeat (first | exact Below.refl _ _ | refine Below.drew ?_ | refine Below.alloc ?_ (by simp) _)); rintro e y2 ⟨v2, rfl, m2, q2⟩; obtain ⟨hc2, hf2⟩ := bcell q2; have hs2 := q2.size; (try simp at hs2); (try have hsp2 : y1.heap.size < y2.heap.size := by omega); have r2 : Below y1.heap.size y1 y2 := Below.trans (by repeat (first | exact Below.refl _ _ | refine Below.drew ?_ | refine Below.alloc ?_ (by simp) _)) (q2.mono (by simp)); have p2 : Below wc.heap.size wc y2 := p1.trans (r2.mono hz1); have hz2 := p2.size; (try have hsq2 : wc.heap.size < y2.heap.size := by omega); have kk2 := kB.below p2 klt; have d20 := kk2.cell 0; have d21 := kk2.cell 1; have kklt2 := kk2.lt; simp at d20 d21; have m1' := m1.keep r2) | (go_at_call 16; refine (PL.out _ v v2 _ _ (m1'.keep ?_) (m2.keep ?_)).mono ?_; (repeat (first | exact Below.refl _ _ | refine Below.drew ?_ | refine Below.alloc ?_ (by simp) _)); (repeat (first | exact Below.refl _ _ | refine Below.drew ?_ | refine Below.alloc ?_ (by simp) _)); rintro e y3 ⟨v3', rfl, m3, q3⟩; obtain ⟨hc3, hf3⟩ := bcell q3; have hs3 := q3.size; (try simp at hs3); (try have hsp3 : y2.heap.size < y3.heap.size := by omega); have r3 : Below y2.heap.size y2 y3 := Below.trans (by repeat (first | exact Below.refl _ _ | refine Below.drew ?_ | refine Below.alloc ?_ (by simp) _)) (q3.mono (by simp)); have p3 : Below wc.heap.size wc y3 := p2.trans (r3.mono hz2); have hz3 := p3.size; (try have hsq3 : wc.heap.size < y3.heap.size := by omega); have kk3 := kB.below p3 klt; have d30 := kk3.cell 0; have d31 := kk3.cell 1; have kklt3 := kk3.lt; simp at d30 d31; obtain ⟨A3', c3', D3', s3', hv3', HS3⟩ := At.of m3; subst hv3')))
      all_goals
        go_wp2_with fail
        go_meet
        first
          | exact ⟨_, rfl, hz3, p3.alloc hz3 _, At.new m3 HS3 (by first | exact hz2 | (simp; omega))⟩
          | exact ⟨_, rfl, hz2, (p3.setCell (by simp; omega) _).setCell (by simp; omega) _, At.put ((Blk.new y2 _ _).below q3 (by simp)) m3 (by simp) HS3 (by first | exact hz2 | (simp; omega))⟩
          | exact ⟨_, rfl, hz1, (p3.setCell (by simp; omega) _).setCell (by simp; omega) _, At.put (((Blk.new y1 _ _).below q2 (by simp)).below q3 (by simpa using hsp2)) m3 (by simpa using hsp2) HS3 (by first | exact hz2 | (simp; omega))⟩
          | exact ⟨_, rfl, Nat.le_refl _, (p3.setCell (by simp) _).setCell (by simp) _, At.put ((((Blk.new wc.drew _ _).below q1 (by simp)).below q2 (by simpa using hsp1)).below q3 (by simpa using hsq2)) m3 (by simpa using hsq2) HS3 (by first | exact hz2 | (simp; omega))⟩
    case rest =>
      obtain ⟨g9, rfl, ge9, hb9, at9⟩ := hcut
      have ge9' : w.heap.size ≤ g9 := by have := h4.size; omega
      have lt9 := at9.lt
      replace at8 := at8.keep hb9
      replace h4 := h4.trans (hb9.mono h4.size)
      clear hb9 at7
      go_upto_region 4 with fail
      go_cut [10] (fun p wx => ∃ g9, p = .pointer (some ⟨g9, 0, none⟩) ∧ wc.heap.size ≤ g9 ∧ Below wc.heap.size wc wx ∧ At wx g9 (b * q + b + -a) 43 wc.heap.size)
      case first =>
        obtain ⟨A, c, D, s, kB, HS, n7⟩ := at8
        have c0 := kB.cell 0
        have c1 := kB.cell 1
        have klt := kB.lt
        simp at c0 c1
        have MN := Lib.hid (fun (W : World) (v : Value) (B1 : Nat) (h : Num W v a 20 B1) => minus_num v a 20 B1 W h (by omega))
        have PL := Lib.hid (fun (W : World) (v2 : Value) (B2 : Nat) (m1 : Num W (.agg #[.bool s, .slice A D.length c]) (b * q + b) 42 0) (m2 : Num W v2 (-a) 20 B2) => plus_num _ v2 (b * q + b) (-a) 42 20 0 B2 W m1 m2 (by omega) (by omega))
        go_region_held3 (fun W => W.cell? ⟨g8, 0, none⟩ = some (.bool s) ∧ W.cell? ⟨g8, 1, none⟩ = some (.slice A D.length c)) (first | exact ⟨c0, c1⟩ | exact ⟨d10, d11⟩ | exact ⟨d20, d21⟩ | exact ⟨d30, d31⟩ | (refine ⟨?_, ?_⟩ <;> (first | assumption | (rw [World.cell?_drew]; assumption) | (rw [World.cell?_alloc_lt _ _ _ (by assumption)]; assumption) | (rw [World.cell?_drew, World.cell?_alloc_lt _ _ _ (by assumption)]; assumption) | (rw [World.cell?_setCell_other _ _ _ _ (by intro h; injection h; omega), World.cell?_setCell_other _ _ _ _ (by intro h; injection h; omega)]; assumption))) | go_keep) ((first | (go_at_call 17; refine (OA.out _).mono ?_; rintro e y1 ⟨v, rfl, m1, q1⟩; obtain ⟨hc1, hf1⟩ := bcell q1; have hs1 := q1.size; (try simp at hs1); (try have hsp1 : wc.heap.size < y1.heap.size := by omega); have p1 : Below wc.heap.size wc y1 := Below.trans (by repeat (first | exact Below.refl _ _ | refine Below.drew ?_ | refine Below.alloc ?_ (by simp) _)) (q1.mono (by simp)); have hz1 := p1.size; (try have hsq1 : wc.heap.size < y1.heap.size := by omega); have kk1 := kB.below p1 klt; have d10 := kk1.cell 0; have d11 := kk1.cell 1; have kklt1 := kk1.lt; simp at d10 d11; skip) | (go_at_call 18; refine (MN.out _ v _ (m1.keep ?_)).mono ?_; (repeat (first | exact Below.refl _ _ | refine Below.drew ?_ | refine Below.alloc ?_ (by simp) _)); rintro e y2 ⟨v2, rfl, m2, q2⟩; obtain ⟨hc2, hf2⟩ := bcell q2; have hs2 := q2.size; (try simp at hs2); (try have hsp2 : y1.heap.size < y2.heap.size := by omega); have r2 : Below y1.heap.size y1 y2 := Below.trans (by repeat (first | exact Below.refl _ _ | refine Below.drew ?_ | refine Below.alloc ?_ (by simp) _)) (q2.mono (by simp)); have p2 : Below wc.heap.size wc y2 := p1.trans (r2.mono hz1); have hz2 := p2.size; (try have hsq2 : wc.heap.size < y2.heap.size := by omega); have kk2 := kB.below p2 klt; have d20 := kk2.cell 0; have d21 := kk2.cell 1; have kklt2 := kk2.lt; simp at d20 d21; skip) | (go_at_call 16; refine (PL.out _ v2 _ ((n7.keep p2).keep ?_) (m2.keep ?_)).mono ?_; (repeat (first | exact Below.refl _ _ | refine Below.drew ?_ | refine Below.alloc ?_ (by simp) _)); (repeat (first | exact Below.refl _ _ | refine Below.drew ?_ | refine Below.alloc ?_ (by simp) _)); rintro e y3 ⟨v3', rfl, m3, q3⟩; obtain ⟨hc3, hf3⟩ := bcell q3; have hs3 := q3.size; (try simp at hs3); (try have hsp3 : y2.heap.size < y3.heap.size := by omega); have r3 : Below y2.heap.size y2 y3 := Below.trans (by repeat (first | exact Below.refl _ _ | refine Below.drew ?_ | refine Below.alloc ?_ (by simp) _)) (q3.mono (by simp)); have p3 : Below wc.heap.size wc y3 := p2.trans (r3.mono hz2); have hz3 := p3.size; (try have hsq3 : wc.heap.size < y3.heap.size := by omega); have kk3 := kB.below p3 klt; have d30 := kk3.cell 0; have d31 := kk3.cell 1; have kklt3 := kk3.lt; simp at d30 d31; obtain ⟨A3', c3', D3', s3', hv3', HS3⟩ := At.of m3; subst hv3')))
        all_goals
          go_wp2_with fail
          go_meet
          first
            | exact ⟨_, rfl, hz3, p3.alloc hz3 _, At.new m3 HS3 (by first | exact hz2 | (simp; omega))⟩
            | exact ⟨_, rfl, hz2, (p3.setCell (by simp; omega) _).setCell (by simp; omega) _, At.put ((Blk.new y2 _ _).below q3 (by simp)) m3 (by simp) HS3 (by first | exact hz2 | (simp; omega))⟩
            | exact ⟨_, rfl, hz1, (p3.setCell (by simp; omega) _).setCell (by simp; omega) _, At.put (((Blk.new y1 _ _).below q2 (by simp)).below q3 (by simpa using hsp2)) m3 (by simpa using hsp2) HS3 (by first | exact hz2 | (simp; omega))⟩
            | exact ⟨_, rfl, Nat.le_refl _, (p3.setCell (by simp) _).setCell (by simp) _, At.put ((((Blk.new wc.drew _ _).below q1 (by simp)).below q2 (by simpa using hsp1)).below q3 (by simpa using hsq2)) m3 (by simpa using hsq2) HS3 (by first | exact hz2 | (simp; omega))⟩
      case rest =>
        obtain ⟨g10, rfl, ge10, hb10, at10⟩ := hcut
        replace at9 := at9.keep hb10
        replace h4 := h4.trans (hb10.mono h4.size)
        clear hb10 at8
        obtain ⟨A9, c9, D9, s9, k9, HS9, n9⟩ := at9
        obtain ⟨A10, c10, D10, s10, k10, HS10, n10⟩ := at10
        have hne : g9 ≠ g10 := by omega
        obtain ⟨E9, i9, f9, q9⟩ := n9.open_
        obtain ⟨E10, i10, f10, q10⟩ := n10.open_
        have a90 := k9.cell 0
        have a91 := k9.cell 1
        have a9f := k9.frozen 0
        have a9g := k9.frozen 1
        have a100 := k10.cell 0
        have a101 := k10.cell 1
        have a10f := k10.frozen 0
        have a10g := k10.frozen 1
        simp at a90 a91 a100 a101
        by_cases hbn : b < 0
        · have MX9 := Lib.hid (minus_at n9 HS9 (by omega))
          have N10 := Lib.hid n10
          go_wp2_with fail
          refine MX9.out.mono ?_
          rintro e z1 ⟨m9, b9, rfl, hm9, pz1⟩
          have kk9 := k9.below pz1 k9.lt
          have kk10 := k10.below pz1 k10.lt
          have hz1 := h4.trans (pz1.mono h4.size)
          have a90' := kk9.cell 0
          have a91' := kk9.cell 1
          have a9f' := kk9.frozen 0
          have a9g' := kk9.frozen 1
          have k10' := ((kk10.far (p := ⟨g9, 0, none⟩) (fun h => hne h.symm) (.bool b9)).far (p := ⟨g9, 1, none⟩) (fun h => hne h.symm) (.slice A9 m9 c9))
          have k9' := (kk9.put 0 (.bool b9)).put 1 (.slice A9 m9 c9)
          have b100 := k10'.cell 0
          have b101 := k10'.cell 1
          have MX10 := Lib.hid (minus_at (((N10.out.keep pz1).store (p := ⟨g9, 0, none⟩) (by show g9 < _; omega) (.bool b9)).store (p := ⟨g9, 1, none⟩) (by show g9 < _; omega) (.slice A9 m9 c9)) HS10 (by omega))
          have hz2 := (hz1.setCell (p := ⟨g9, 0, none⟩) (by show _ ≤ g9; omega) (.bool b9)).setCell (p := ⟨g9, 1, none⟩) (by show _ ≤ g9; omega) (.slice A9 m9 c9)
          simp at a90' a91' b100 b101
          go_wp2_with fail
          refine MX10.out.mono ?_
          rintro e z2 ⟨m10, b10, rfl, hm10, pz2⟩
          have j9 := k9'.below pz2 k9'.lt
          have j10 := k10'.below pz2 k10'.lt
          have hz3 := hz2.trans (pz2.mono hz2.size)
          have t9 : b9 = false := by have := HL.out; rw [if_pos hbn] at this; rw [hm9.out.1]; exact decide_eq_false (by omega)
          have t10 : b10 = false := by have := HH.out; rw [if_pos hbn] at this; rw [hm10.out.1]; exact decide_eq_false (by omega)
          have tl : 0 < m10 := by
            have := HH.out; rw [if_pos hbn] at this
            rcases Nat.eq_zero_or_pos m10 with h | h
            · have h1 := hm10.out.2 h; omega
            · exact h
          subst t9 t10
          have j100 := j10.cell 0
          have j101 := j10.cell 1
          have j10f := j10.frozen 0
          have j10g := j10.frozen 1
          have j90 := (j9.far (p := ⟨g10, 0, none⟩) hne (.bool false)).far (p := ⟨g10, 1, none⟩) hne (.slice A10 m10 c10)
          have j900 := j90.cell 0
          simp at j100 j101 j900
          go_wp2
          go_ret
          exact ⟨rfl, (hz3.setCell (by show _ ≤ g10; omega) _).setCell (by show _ ≤ g10; omega) _⟩
        · have t9 : s9 = false := by have := HL.out; rw [if_neg hbn] at this; rw [HS9.out]; exact decide_eq_false (by omega)
          have t10 : s10 = false := by have := HH.out; rw [if_neg hbn] at this; rw [HS10.out]; exact decide_eq_false (by omega)
          have tl : 0 < D10.length := by
            have := HH.out; rw [if_neg hbn] at this
            rcases Nat.eq_zero_or_pos D10.length with h | h
            · have h1 := q10.out.2.2.2.1; rw [List.eq_nil_of_length_eq_zero (show E10.length = 0 by omega)] at h1; simp [val] at h1; omega
            · exact h
          subst t9 t10
          have hbn' : 0 ≤ b := by omega
          go_wp2
          go_ret
          exact ⟨rfl, h4⟩
end Go.Proofs.Ytabdmhlnaahdlaa
