/- The reference's text of a number. -/
import Derived.Test.YtabdmhlnaahdlaaDoorRefD
import Derived.Test.YtabdmhlnaahdlaaDoorPrint
import Derived.WalkSpells
namespace Go.Proofs.YtabdmhlnaahdlaaDoor
open Go.ChangeShapes Go.WideShapes Go.ChangeAt Go.RowKit
namespace Ar
open Go.Lib (decDigits)
def ch (d : Int) : UInt8 := UInt8.ofNat (48 + d.toNat)
theorem ch_toNat (d : Int) (h0 : 0 ≤ d) (h1 : d ≤ 9) : ((ch d).toNat : Int) = 48 + d := by
  unfold ch; rw [UInt8.toNat_ofNat']; omega
theorem str_step (D : List Int) (k : Nat) (h : k < D.length) : (⟨#[ch (D.getD k 0)]⟩ : ByteArray) ++ ⟨((D.take k).map ch).reverse.toArray⟩ = ⟨((D.take (k + 1)).map ch).reverse.toArray⟩ := by
  rw [List.take_succ_eq_append_getElem h, List.map_append, List.reverse_append]
  have e : D.getD k 0 = D[k] := by simp [List.getD, h]
  rw [e]
  apply ByteArray.ext
  simp
theorem dec_of_val (D : List Int) (hD : Dig D) (hC : Canon D) (hne : D ≠ []) : Lib.decDigits (val D).toNat = (D.map ch).reverse := by
  induction D with
  | nil => exact absurd rfl hne
  | cons x r ih =>
    have hx := hD x (by simp)
    have hDr : Dig r := fun d hd => hD d (by simp [hd])
    have hv0 : 0 ≤ val r := (val_bd r hDr).1
    rw [show val (x :: r) = x + 10 * val r from rfl, List.map_cons, List.reverse_cons]
    cases r with
    | nil =>
      rw [Lib.decDigits, dif_pos (by simp only [val]; omega)]
      simp only [val, List.map_nil, List.reverse_nil, List.nil_append, ch]
      congr 2; omega
    | cons y s =>
      have hCr : Canon (y :: s) := by
        rcases hC with h | h
        · cases h
        · right
          simpa [List.getD] using h
      have ih' := ih hDr hCr (by simp)
      have hpos : 0 < val (y :: s) := by
        rcases Int.lt_or_le 0 (val (y :: s)) with h | h
        · exact h
        · have hz : val (y :: s) = 0 := by omega
          rw [hz] at ih'
          have e0 : Lib.decDigits (0 : Int).toNat = [48] := by rw [Lib.decDigits]; rfl
          rw [e0] at ih'
          have hl := congrArg List.length ih'
          simp at hl
          subst hl
          rcases hCr with h | h
          · cases h
          · simp [List.getD, val] at h hz; omega
      rw [Lib.decDigits, dif_neg (by omega)]
      have e1 : (x + 10 * val (y :: s)).toNat / 10 = (val (y :: s)).toNat := by omega
      have e2 : (x + 10 * val (y :: s)).toNat % 10 = x.toNat := by omega
      rw [e1, e2, ih']
      rfl
theorem text_pos (n : Int) (D : List Int) (hD : Dig D) (hC : Canon D) (hv : val D = n.natAbs) (hne : D ≠ []) (hn : ¬ n < 0) : (D.map ch).reverse = Lib.itoa n := by
  rw [← dec_of_val D hD hC hne, hv]
  simp only [Lib.itoa, if_neg hn]
  congr 1; omega
theorem text_neg (n : Int) (D : List Int) (hD : Dig D) (hC : Canon D) (hv : val D = n.natAbs) (hne : D ≠ []) (hn : n < 0) : 45 :: (D.map ch).reverse = Lib.itoa n := by
  rw [← dec_of_val D hD hC hne, hv]
  simp only [Lib.itoa, if_pos hn]
  rfl
end Ar
theorem _root_.Go.RowKit.Below.mono0 {B C : Nat} {a b : World} (h : Below B a b) (hc : C = B) : Below C a b := hc ▸ h
set_option maxRecDepth 100000 in
set_option maxHeartbeats 1000000 in
theorem refprint_any (n : Int) (w : World) (h0 : -9223372036854775808 ≤ n) (h1 : n ≤ 9223372036854775807) :
    Calls Tryd.prog 15/-f-/ #[.int .i64 n] w fun e w' => e = .returned (.string ⟨(Lib.itoa n).toArray⟩) ∧ Below w.heap.size w w' := by
  have OF := Lib.hid (of_any n w h0 h1)
  go_enter Tryd.func15, Tryd.ntmps15
  go_upto_region 2 with (go_at_call 50; refine OF.out.mono ?_; rintro e w1 ⟨v, rfl, hnum, hb1⟩; obtain ⟨A, c, D, rfl, hI, hfr, hrest⟩ := hnum.is; have HI := Lib.hid hI; have HR := Lib.hid hrest; clear hrest hI hnum)
  generalize hnb : decide (n < 0) = nb at *
  have HNB := Lib.hid hnb
  clear hnb
  by_cases hD0 : D.length = 0
  · have hDn : D = [] := List.eq_nil_of_length_eq_zero hD0
    have g1 := Blk.new w1 66 #[.bool nb, .slice A D.length c]
    have g1c0 := g1.cell 0
    have g1c1 := g1.cell 1
    simp at g1c0 g1c1
    have hn0 : n = 0 := by have := HR.out.2.2.2.1; rw [hDn] at this; simp [Ar.val] at this; omega
    have hit := Lib.hid (show Lib.itoa n = [48] from by rw [hn0]; simp only [Lib.itoa]; rw [if_neg (by omega), Lib.decDigits]; rfl)
    clear hDn hn0
    go_wp2
    go_ret
    exact ⟨congrArg (fun q => Ending.returned (.string q)) (by rw [hit.out]), hb1.alloc hb1.size _⟩
  have g1 := Blk.new w1 66 #[.bool nb, .slice A D.length c]
  have g1c0 := g1.cell 0
  have g1c1 := g1.cell 1
  simp at g1c0 g1c1
  go_wp2
  go_loopw [4, 5] (fun sv i wr => ∃ (k : Nat) (S : ByteArray), k ≤ D.length ∧ i = .int .i64 k ∧ sv = .string S ∧ S.size = k ∧ Hid (S = ⟨((D.take k).map Ar.ch).reverse.toArray⟩) ∧ Below (w1.heap.size + 1) (w1.alloc (.cells #[.bool nb, .slice A D.length c] 66)) wr) (fun _ i _ => D.length - (intOf i).toNat)
  case atStart => exact ⟨0, _, Nat.zero_le _, rfl, rfl, rfl, Lib.hid rfl, Below.refl _ _⟩
  case round =>
    obtain ⟨k, S, hk, rfl, rfl, hSz, hS, hbl⟩ := hrel
    have hD20 : D.length ≤ 20 := by have := HR.out.2.2.2.2; omega
    by_cases hlt : k < D.length
    · have hg := g1.below hbl (by omega)
      have c0 := hg.cell 0
      have c1 := hg.cell 1
      simp at c0 c1
      have hsz := hbl.size
      simp only [World.size_alloc] at hsz
      obtain ⟨b, off, rfl, hb, hcell⟩ := ((HI.out.keep ((Below.refl _ _).alloc (Nat.le_refl _) _)).keep (hbl.mono0 (by simp))).at_ (i := k) hlt
      have hx := HR.out.2.1.at_ k
      have HST := Lib.hid (Ar.str_step D k hlt)
      generalize D.getD k 0 = x at *
      have hch := Lib.hid (Ar.ch_toNat x hx.1 hx.2)
      have CV : (convert 72 9 (.slice (some ⟨wr.heap.size, 0, none⟩) 1 1)).run Tryd.prog (wr.alloc (.cells #[.int .u8 (48 + x)] 5)) = .ok (.string ⟨#[Ar.ch x]⟩) (wr.alloc (.cells #[.int .u8 (48 + x)] 5)) :=
        run_convert_bytes_back (P := Tryd.prog) _ 72 9 5 ⟨wr.heap.size, 0, none⟩ 1 [Ar.ch x] Tryd.underlying72 Tryd.underlying5 Tryd.underlying9 (fun j hj => by
          obtain rfl : j = 0 := by simp at hj; omega
          simp [Addr.add, hch.out])
      go_wp2
      go_roundw
      case rel => exact ⟨k + 1, _, by omega, by go_num, rfl, by rw [ByteArray.size_append, hSz, Nat.add_comm]; rfl, Lib.hid (by rw [← HST.out, hS.out]), hbl.alloc (by omega) _⟩
      case measure => simp [intOf]; omega
    · obtain rfl : k = D.length := by omega
      rw [List.take_length] at hS
      have hg := g1.below hbl (by omega)
      have c0 := hg.cell 0
      have c1 := hg.cell 1
      simp at c0 c1
      have hbe : Below w.heap.size w wr := (hb1.alloc hb1.size _).trans (hbl.mono (by have := hb1.size; omega))
      have hne : D ≠ [] := fun h => hD0 (by rw [h]; rfl)
      cases nb
      · go_wp2
        go_ret
        refine ⟨?_, hbe⟩
        exact congrArg (fun q => Ending.returned (.string q)) (by rw [hS.out, Ar.text_pos n D HR.out.2.1 HR.out.2.2.1 HR.out.2.2.2.1 hne (of_decide_eq_false HNB.out)])
      · go_wp2
        go_ret
        refine ⟨?_, hbe⟩
        exact congrArg (fun q => Ending.returned (.string q)) (by rw [hS.out, ← Ar.text_neg n D HR.out.2.1 HR.out.2.2.1 HR.out.2.2.2.1 hne (of_decide_eq_true HNB.out)]; exact ByteArray.ext (by simp))
end Go.Proofs.YtabdmhlnaahdlaaDoor
