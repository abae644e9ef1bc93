/- The document's example for package seal; texts, joined. -/
import Derived.Test.YtmmgicomidpmhaaDoorOpn
namespace Go.Proofs.YtmmgicomidpmhaaDoor
open Go.ChangeShapes Go.WideShapes Go.ChangeAt Go.RowKit
theorem strs_two {w : World} {t : TypeId} {g : Nat} {a b : ByteArray} (h : Blk w g t #[.string a, .string b]) : Strs w (some ⟨g, 0, none⟩) [a, b] :=
  .inr ⟨g, 0, rfl, h.lt, fun i hi => by
    have : i = 0 ∨ i = 1 := by simp at hi; omega
    rcases this with rfl | rfl <;> (rw [h.cell]; rfl)⟩
theorem sum_example : Crc.sum [49, 50, 51, 52, 53, 54, 55, 56, 57] = 11051210869376104954 := by decide +kernel
theorem opened_example : opened (framed [97, 98]) = ([97, 98], 14, 0) := by decide +kernel
set_option maxHeartbeats 2000000 in
theorem awake_any (w : World) (hT : QT w) : Calls Tryd.prog 9 #[] w fun e w' => e = .returned (.bool true) ∧ Below w.heap.size w w' := by
  have hb1 : Below w.heap.size w (w.alloc (.cells #[.string ⟨#[97]⟩, .string ⟨#[98]⟩] 9)) := (Below.refl _ _).alloc (Nat.le_refl _) _
  have FR := Lib.hid (frame_ok (some ⟨w.heap.size, 0, none⟩) 2 2 [⟨#[97]⟩, ⟨#[98]⟩] _ (strs_two (Blk.new w 9 #[.string ⟨#[97]⟩, .string ⟨#[98]⟩])) (hT.below hb1 hT.lt) rfl (by omega) (fun s hs => by simp at hs; rcases hs with rfl | rfl <;> decide) (by decide))
  rw [show cat [⟨#[97]⟩, ⟨#[98]⟩] = [97, 98] from rfl] at FR
  have OP := Lib.hid (fun (W : World) (h : QT W) => open_any ⟨(framed [97, 98]).toArray⟩ W h (by decide +kernel))
  rw [show (ByteArray.mk (framed [97, 98]).toArray).data.toList = framed [97, 98] from rfl, opened_example] at OP
  have OF := Lib.hid (fun (W : World) (h : QT W) => of_any (some ⟨W.heap.size, 0, none⟩) 2 2 [⟨#[49, 50, 51, 52]⟩, ⟨#[53, 54, 55, 56, 57]⟩] _ (strs_two (Blk.new W 9 #[.string ⟨#[49, 50, 51, 52]⟩, .string ⟨#[53, 54, 55, 56, 57]⟩])) (h.below ((Below.refl W.heap.size W).alloc (Nat.le_refl _) _) h.lt) rfl (by omega) (fun s hs => by simp at hs; rcases hs with rfl | rfl <;> decide))
  rw [show cat [⟨#[49, 50, 51, 52]⟩, ⟨#[53, 54, 55, 56, 57]⟩] = [49, 50, 51, 52, 53, 54, 55, 56, 57] from rfl, sum_example] at OF
  have HT := Lib.hid hT
  have HB1 := Lib.hid hb1
  clear hT hb1
  generalize framed [97, 98] = fr at *
  go_enter Tryd.func9, Tryd.ntmps9
  go_wp2_with (first
    | (go_at_call 11; refine FR.out.mono ?_; rintro e w1 ⟨rfl, hb2⟩; have HT1 := Lib.hid ((HT.out.below HB1.out HT.out.lt).below hb2 (Nat.lt_of_lt_of_le HT.out.lt HB1.out.size)))
    | (go_at_call 16; refine (OP.out _ HT1.out).mono ?_; rintro e w2 ⟨rfl, hb3⟩; have HT2 := Lib.hid (HT1.out.below hb3 HT1.out.lt))
    | (go_at_call 12; refine (OF.out _ HT2.out).mono ?_; rintro e w3 ⟨rfl, hb4⟩))
  go_ret
  have b2 := HB1.out.trans (hb2.mono HB1.out.size)
  have b3 := b2.trans (hb3.mono b2.size)
  exact ⟨rfl, (b3.alloc b3.size _).trans (hb4.mono (by simp; have := b3.size; omega))⟩
end Go.Proofs.YtmmgicomidpmhaaDoor
