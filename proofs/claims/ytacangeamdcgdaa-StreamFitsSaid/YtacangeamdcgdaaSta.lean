/- Contracts of package stream: a border; what is awake. -/
import Derived.Test.YtacangeamdcgdaaStg
import Derived.Test.YtacangeamdcgdaaSca
namespace Go.Proofs.Ytacangeamdcgdaa
open Go.ChangeShapes Go.WideShapes Go.ChangeAt Go.RowKit Go.Deep
/-- A stream as a schema. -/
def strS (nm : ByteArray) (cs : List Col) : Sch := ⟨nm, cs, [⟨[0], true⟩], 1, 1, 0⟩
theorem blk2 {w : World} {g t : Nat} {a b : Value} (h : Blk w g t #[a, b]) : w.cell? ⟨g, 0, none⟩ = some a ∧ w.cell? ⟨g, 1, none⟩ = some b ∧ w.frozen? ⟨g, 0, none⟩ = false ∧ w.frozen? ⟨g, 1, none⟩ = false ∧ g < w.heap.size :=
  ⟨h.cell 0, h.cell 1, h.frozen 0, h.frozen 1, h.lt⟩
theorem blk3 {w : World} {g t : Nat} {a b c : Value} (h : Blk w g t #[a, b, c]) : w.cell? ⟨g, 0, none⟩ = some a ∧ w.cell? ⟨g, 1, none⟩ = some b ∧ w.cell? ⟨g, 2, none⟩ = some c ∧ w.frozen? ⟨g, 0, none⟩ = false ∧ w.frozen? ⟨g, 1, none⟩ = false ∧ w.frozen? ⟨g, 2, none⟩ = false ∧ g < w.heap.size :=
  ⟨h.cell 0, h.cell 1, h.cell 2, h.frozen 0, h.frozen 1, h.frozen 2, h.lt⟩
/-- The world in which the schema of a stream is tried. -/
def rW (w : World) (nm : ByteArray) (A : Option Addr) (n c : Nat) : World :=
  ((w.alloc (.cells #[.string nm, .slice A n c] 24)).alloc (.cells #[.int .i64 0] 3)).alloc (.cells #[.slice (some ⟨w.heap.size + 1, 0, none⟩) 1 1, .bool true] 83)
theorem rW_is (w : World) (nm : ByteArray) (A : Option Addr) (c : Nat) (cs : List Col) (hC : Cols w A cs) (hc : cs.length ≤ c) :
    SchV (rW w nm A cs.length c) (.agg #[.string nm, .slice A cs.length c, .slice (some ⟨w.heap.size + 1 + 1, 0, none⟩) 1 1, .int .i64 1, .int .i64 1, .int .i64 0]) (strS nm cs) ∧ Below w.heap.size w (rW w nm A cs.length c) := by
  unfold rW
  generalize h1 : w.alloc (.cells #[.string nm, .slice A cs.length c] 24) = w1
  have s1 : w1.heap.size = w.heap.size + 1 := by rw [← h1]; simp
  have b1 : Below w.heap.size w w1 := by rw [← h1]; exact below_alloc _ _
  rw [← s1]
  generalize h2 : w1.alloc (.cells #[.int .i64 0] 3) = w2
  have s2 : w2.heap.size = w1.heap.size + 1 := by rw [← h2]; simp
  have b2 : Below w1.heap.size w1 w2 := by rw [← h2]; exact below_alloc _ _
  have k2 : Ints w2 .i64 (some ⟨w1.heap.size, 0, none⟩) [0] := by rw [← h2]; exact Ints.one (Blk.new w1 3 _)
  rw [← s2]
  have b3 := below_alloc w2 (.cells #[.slice (some ⟨w1.heap.size, 0, none⟩) 1 1, .bool true] 83)
  refine ⟨⟨A, some ⟨w2.heap.size, 0, none⟩, c, 1, rfl, ((hC.keep b1).keep b2).keep b3, .inr ⟨w2.heap.size, 0, rfl, by simp, fun i hi => ?_⟩, hc, Nat.le_refl _⟩, (b1.trans (b2.mono b1.size)).trans (b3.mono (by omega))⟩
  have hi0 : i = 0 := by simp [strS] at hi; omega
  subst hi0
  refine ⟨some ⟨w1.heap.size, 0, none⟩, 1, ?_, ?_, k2.keep b3, Nat.le_refl _⟩ <;> (rw [(Blk.new w2 83 _).cell]; rfl)
theorem str_fit (nm : ByteArray) (cs : List Col) (hnm : nm.size ≤ 9223372036854775807) (hcl : cs.length ≤ 9223372036854775807) (hcf : ∀ x ∈ cs, FitC x) : FitS (strS nm cs) :=
  ⟨hnm, hcl, (by show 1 ≤ _; omega), hcf, (fun x hx => (by
    have hx' : x = ⟨[0], true⟩ := by simpa [strS] using hx
    subst hx'
    exact ⟨by decide, fun y hy => (by simp at hy; subst hy; decide)⟩)), ⟨by show (-9223372036854775808 : Int) ≤ 1; omega, by show (1 : Int) ≤ _; omega⟩, ⟨by show (-9223372036854775808 : Int) ≤ 1; omega, by show (1 : Int) ≤ _; omega⟩, ⟨by show (-9223372036854775808 : Int) ≤ 0; omega, by show (0 : Int) ≤ _; omega⟩⟩
set_option maxRecDepth 100000 in
set_option maxHeartbeats 4000000 in
theorem sright_any (nm : ByteArray) (A : Option Addr) (c : Nat) (cs : List Col) (w : World) (hnm : nm.size ≤ 9223372036854775807) (hC : Cols w A cs) (hcl : cs.length ≤ 9223372036854775807) (hcc : cs.length ≤ c) (hcf : ∀ x ∈ cs, FitC x) :
    Calls Try.prog 38/-f-/ #[.agg #[.string nm, .slice A cs.length c]] w fun e w' => e = .returned (.bool (schB (strS nm cs))) ∧ Below w.heap.size w w' := by
  have X := rW_is w nm A c cs hC hcc
  have RS := Lib.hid (right_sch _ (strS nm cs) (rW w nm A cs.length c) X.1 (str_fit nm cs hnm hcl hcf))
  have HB := Lib.hid X.2
  generalize schB (strS nm cs) = q at *
  clear X hC hcf
  unfold rW at RS HB
  go_enter Try.func38, Try.ntmps38
  go_wp2_with (go_at_call 64/-f-/; (with_reducible refine RS.out.mono ?_); rintro e w2 ⟨rfl, hb2⟩; have HB2 := Lib.hid (HB.out.trans (hb2.mono HB.out.size)); clear hb2)
  go_ret
  exact ⟨rfl, HB2.out⟩
set_option maxRecDepth 100000 in
set_option maxHeartbeats 4000000 in
theorem copys_any (nm : ByteArray) (A : Option Addr) (c : Nat) (cs : List Col) (w : World) (hC : Cols w A cs) (hcl : cs.length ≤ 1000000) :
    Calls Try.prog 39/-f-/ #[.agg #[.string nm, .slice A cs.length c]] w fun e w' => (∃ B d, e = .returned (.agg #[.string nm, .slice B cs.length d]) ∧ Cols w' B cs ∧ cs.length ≤ d) ∧ Below w.heap.size w w' := by
  have b1 := below_alloc w (.cells #[.string nm, .slice A cs.length c] 24)
  have hs1 : (w.alloc (.cells #[.string nm, .slice A cs.length c] 24)).heap.size = w.heap.size + 1 := by simp
  have b2 := below_alloc (w.alloc (.cells #[.string nm, .slice A cs.length c] 24)) (.cells #[.string ⟨#[]⟩, .slice none 0 0] 24)
  have k1 := (Blk.new w 24 #[.string nm, .slice A cs.length c]).below b2 (by simp)
  have k2 : Blk ((w.alloc (.cells #[.string nm, .slice A cs.length c] 24)).alloc (.cells #[.string ⟨#[]⟩, .slice none 0 0] 24)) (w.heap.size + 1) 24 #[.string ⟨#[]⟩, .slice none 0 0] := by
    have h := Blk.new (w.alloc (.cells #[.string nm, .slice A cs.length c] 24)) 24 #[.string ⟨#[]⟩, .slice none 0 0]
    rwa [hs1] at h
  have b3 := b1.trans (b2.mono b1.size)
  have CL := Lib.hid (clonecols_any A c cs _ (hC.keep b3) hcl)
  have HK1 := Lib.hid k1
  have HK2 := Lib.hid k2
  have HB3 := Lib.hid b3
  clear b1 b2 b3 k1 k2 hC hs1
  go_enter Try.func39, Try.ntmps39
  go_wp2_with (go_at_call 65/-f-/; (with_reducible refine CL.out.mono ?_); rintro e w3 ⟨⟨B, d, rfl, hcb⟩, hb3⟩; have HC3 := Lib.hid hcb; have HB4 := Lib.hid (HB3.out.trans (hb3.mono HB3.out.size)); have HK3 := Lib.hid (HK1.out.below hb3 HK1.out.lt); have HK4 := Lib.hid (HK2.out.below hb3 HK2.out.lt); clear hcb hb3; obtain ⟨c0, c1, f0, f1, l1⟩ := blk2 HK3.out; obtain ⟨d0, d1, g0, g1, l2⟩ := blk2 HK4.out)
  have hsz : w.heap.size ≠ w.heap.size + 1 := by omega
  have HKF := ((HK4.out.far (p := ⟨w.heap.size, 1, none⟩) (by simp) (.slice B cs.length d)).put 0 (.string nm)).put 1 (.slice B cs.length d)
  obtain ⟨m0, m1, _, _, _⟩ := blk2 (a := .string nm) (b := .slice B cs.length d) HKF
  have HOF := Lib.hid ((((Off.refl (fun x => x = w.heap.size ∨ x = w.heap.size + 1) w3).put (p := ⟨w.heap.size, 1, none⟩) (fun _ => .inl rfl) (.slice B cs.length d)).put (p := ⟨w.heap.size + 1, 0, none⟩) (fun _ => .inr rfl) (.string nm)).put (p := ⟨w.heap.size + 1, 1, none⟩) (fun _ => .inr rfl) (.slice B cs.length d))
  have hlo := HC3.out.lt
  simp only [World.size_alloc] at hlo
  have HOW := Lib.hid (HOF.out.own HC3.out (fun x hx (h : x = w.heap.size ∨ x = w.heap.size + 1) => by have := (hlo x hx).1; omega))
  refine bodyPost_ret (v := .agg #[.string nm, .slice B cs.length d]) (by simp [results, Try.results39, go_sem, m0, m1]) rfl ⟨⟨B, d, rfl, own_cols HOW.out, own_cap HOW.out⟩, ((HB4.out.setCell (Nat.le_refl _) _).setCell (by simp) _).setCell (by simp) _⟩
/-- A border: its stream's name and columns, and its mark. -/
def Bord (w : World) (g : Nat) (nm : ByteArray) (cs : List Col) (m : Int) : Prop := ∃ B d, Blk w g 81 #[.string nm, .slice B cs.length d, .int .i64 m] ∧ Cols w B cs ∧ cs.length ≤ d ∧ (∀ b off, B = some ⟨b, off, none⟩ → cs ≠ [] → b ≠ g)
set_option maxRecDepth 100000 in
set_option maxHeartbeats 4000000 in
theorem newborder_yes (nm : ByteArray) (A : Option Addr) (c : Nat) (cs : List Col) (w : World) (hnm : nm.size ≤ 9223372036854775807) (hC : Cols w A cs) (hcl : cs.length ≤ 1000000) (hcc : cs.length ≤ c) (hcf : ∀ x ∈ cs, FitC x) (hr : schB (strS nm cs) = true) :
    Calls Try.prog 11/-f-/ #[.agg #[.string nm, .slice A cs.length c]] w fun e w' => (∃ g, e = .returned (.tuple #[.pointer (some ⟨g, 0, none⟩), .int .i64 0]) ∧ w.heap.size ≤ g ∧ Bord w' g nm cs 0) ∧ Below w.heap.size w w' := by
  have b1 := below_alloc w (.cells #[.string nm, .slice A cs.length c] 24)
  have SR' := sright_any nm A c cs (w.alloc (.cells #[.string nm, .slice A cs.length c] 24)) hnm (hC.keep b1) (by omega) hcc hcf
  rw [hr] at SR'
  have SR := Lib.hid SR'
  have HK1 := Lib.hid (Blk.new w 24 #[.string nm, .slice A cs.length c])
  have HB1 := Lib.hid b1
  have HC := Lib.hid hC
  have CP := Lib.hid (fun W (hW : Cols W A cs) => copys_any nm A c cs W hW hcl)
  have BE := Lib.hid (fun (wr : World) (h : Below (w.alloc (.cells #[.string nm, .slice A cs.length c] 24)).heap.size (w.alloc (.cells #[.string nm, .slice A cs.length c] 24)) wr) => (show Blk wr w.heap.size 24 #[.string nm, .slice A cs.length c] ∧ Below w.heap.size w wr from ⟨HK1.out.below h (by simp), b1.trans (h.mono (by simp))⟩))
  clear SR' b1 hC hcf hr
  go_enter Try.func11, Try.ntmps11
  go_wp2_with (first
    | (go_at_call 38/-f-/; (with_reducible refine SR.out.mono ?_); rintro e w2 ⟨rfl, hb2⟩; have X := BE.out _ hb2; have HB2 := Lib.hid X.2; obtain ⟨c0, c1, f0, f1, l1⟩ := blk2 X.1; clear X hb2)
    | (go_at_call 39/-f-/; (with_reducible refine (CP.out _ (HC.out.keep HB2.out)).mono ?_); rintro e w3 ⟨⟨B, d, rfl, hcb, hcd⟩, hb3⟩; have HC3 := Lib.hid hcb; have HB3 := Lib.hid (HB2.out.trans (hb3.mono HB2.out.size)); clear hcb hb3))
  refine bodyPost_ret (v := .tuple #[.pointer (some ⟨w3.heap.size, 0, none⟩), .int .i64 0]) (by simp [results, Try.results11, go_sem]) rfl ⟨⟨w3.heap.size, rfl, HB3.out.size, B, d, Blk.new _ _ _, HC3.out.keep (below_alloc _ _), hcd, fun b off hb hne => (by
    rcases HC3.out with h | ⟨b', off', h1, h2, _⟩
    · exact absurd h hne
    · rw [h1] at hb
      cases hb
      omega)⟩, HB3.out.alloc HB3.out.size _⟩
set_option maxRecDepth 100000 in
theorem fits0_any (A : Option Addr) (n c : Nat) (w : World) : Calls Try.prog 25/-f-/ #[.slice A n c, .slice none 0 0] w fun e w' => e = .returned (.bool true) ∧ w = w' := by
  go_enter Try.func25, Try.ntmps25
  go_wp2
  go_loop [12] (fun i => i = .int .i64 0) (fun _ => 0)
  case atStart => rfl
  case round =>
    subst hrel
    go_wp2
    go_ret
    exact ⟨rfl, rfl⟩
end Go.Proofs.Ytacangeamdcgdaa
