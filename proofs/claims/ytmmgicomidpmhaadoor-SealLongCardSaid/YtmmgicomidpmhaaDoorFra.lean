/- Contracts of package seal: frames. -/
import Derived.Test.YtmmgicomidpmhaaDoorSea
import Derived.Lib.AppendStr
import Derived.Laws.IdiomStrings
namespace Go.Proofs.YtmmgicomidpmhaaDoor
open Go.ChangeShapes Go.WideShapes Go.ChangeAt Go.RowKit
/-- Bytes as cells. -/
def cells8 (l : List UInt8) : List Value := l.map fun b => Value.int .u8 b.toNat
theorem cells8_append (a b : List UInt8) : cells8 (a ++ b) = cells8 a ++ cells8 b := by simp [cells8]
/-- A slice of the call's own that holds just these bytes. -/
def Row8 (w : World) (base : Nat) (v : Value) (l : List UInt8) : Prop := w.ownsRow base 5 1 v l.length (cells8 l)
theorem Row8.keep {S : Nat → Prop} {w w' : World} {base : Nat} {v : Value} {l : List UInt8} (h : Row8 w base v l) (hb : Off S w w') (hn : ∀ g, base ≤ g → g < w.heap.size → ¬ S g) : Row8 w' base v l :=
  hb.own h (fun g hg => hn g (h.lt g hg).1 (h.lt g hg).2)
theorem Row8.conv {w : World} {base : Nat} {v : Value} {l : List UInt8} (h : Row8 w base v l) (hl : 0 < l.length) : (convert 37 9 v).run Tryd.prog w = .ok (.string ⟨l.toArray⟩) w := by
  obtain ⟨g, cap, rfl, _, _⟩ := h.form hl
  exact run_convert_bytes_back (P := Tryd.prog) _ 37 9 5 ⟨g, 0, none⟩ cap l Tryd.underlying37 Tryd.underlying5 Tryd.underlying9 (fun j hj => by
    refine h.cells (g := g) rfl j _ ?_
    simp [cells8, hj])
theorem Src.one (w : World) (x : Value) (t : TypeId) (h : x.oneCell' = true) : Src (w.alloc (.cells #[x] t)) (some ⟨w.heap.size, 0, none⟩) 1 1 [x] :=
  by
    refine ⟨rfl, ?_, ?_, ?_⟩
    · intro h; simp at h
    · intro ad hA j u hu
      obtain rfl := Option.some.inj hA
      exact cell_one_new w x t j u hu
    · intro u hu
      simp at hu; subst hu; exact h
theorem info5 : (Tryd.prog.info? 5).map (fun i => (i.zero, i.size, i.bytes)) = some (some (.int .u8 0), 1, 1) := by kernel_rfl
def be4 (n : Nat) : List UInt8 := [UInt8.ofNat (n / 16777216), UInt8.ofNat (n / 65536), UInt8.ofNat (n / 256), UInt8.ofNat n]
def le8 (z : Nat) : List UInt8 := (List.range 8).map fun i => UInt8.ofNat (z / 256 ^ i)
def headed (l : List UInt8) : List UInt8 := be4 l.length ++ l
def framed (l : List UInt8) : List UInt8 := headed l ++ le8 (Crc.sum (headed l))
theorem cat_mono (ss : List ByteArray) (k : Nat) : (cat (ss.take k)).length ≤ (cat ss).length := by
  have h : cat ss = cat (ss.take k) ++ cat (ss.drop k) := by unfold cat; rw [← List.flatMap_append, List.take_append_drop]
  rw [h, List.length_append]; omega
theorem cat_bound (ss : List ByteArray) (h : ∀ s ∈ ss, s.size ≤ 1000000) : (cat ss).length ≤ 1000000 * ss.length := by
  induction ss with
  | nil => simp [cat]
  | cons s r ih =>
    have h1 := h s (by simp)
    have h2 := ih fun x hx => h x (by simp [hx])
    have h3 : cat (s :: r) = s.data.toList ++ cat r := rfl
    rw [h3, List.length_append, List.length_cons]
    have h4 : s.data.toList.length = s.size := by simp
    omega
set_option maxHeartbeats 4000000 in
theorem frame_long (A : Option Addr) (n c : Nat) (ss : List ByteArray) (w : World) (hA : Strs w A ss) (hn : ss.length = n) (hs : n ≤ 1000000) (hb : ∀ s ∈ ss, s.size ≤ 1000000) (hbig : 65536 < (cat ss).length) :
    Calls Tryd.prog 11 #[.slice A n c] w fun e w' => e = .returned (.tuple #[.string ⟨#[]⟩, .bool false]) ∧ w = w' := by
  subst hn
  have hcb := cat_bound ss hb
  go_enter Tryd.func11, Tryd.ntmps11
  go_wp2
  go_loop [4, 15] (fun t i => ∃ k : Nat, k ≤ ss.length ∧ i = .int .i64 k ∧ t = .int .i64 ((cat (ss.take k)).length : Nat)) (fun _ i => ss.length - (intOf i).toNat)
  case atStart => exact ⟨0, Nat.zero_le _, rfl, rfl⟩
  case round =>
    obtain ⟨k, hk, rfl, rfl⟩ := hrel
    have hm := cat_mono ss k
    by_cases hlt' : k < ss.length
    · have hct := congrArg List.length (cat_take ss k hlt')
      rw [List.length_append] at hct
      have hm2 := cat_mono ss (k + 1)
      rcases hA with h | ⟨b, off, rfl, hbw, hcell⟩
      · subst h; simp at hlt'
      have x0 := hcell k hlt'
      have hts : (ss.getD k ⟨#[]⟩).data.toList.length = (ss.getD k ⟨#[]⟩).size := by simp
      rw [hts] at hct
      have HCT := Lib.hid hct
      have hz : (cat (ss.take k)).length + (ss.getD k ⟨#[]⟩).size ≤ 1000000000000 := by omega
      clear hct hts hcell hb hm2
      generalize ss.getD k ⟨#[]⟩ = s at *
      go_wp2
      go_round
      case rel => exact ⟨k + 1, by omega, by go_num, by rw [HCT.out]; go_num⟩
      case measure => simp [intOf]; omega
    · have hkl : k = ss.length := by omega
      subst hkl
      rw [List.take_length]
      generalize (cat ss).length = z at *
      go_wp2
      go_ret2
      exact ⟨rfl, rfl⟩
theorem row8_step {w2 : World} {B n : Nat} {v' : Value} {l l' : List UInt8} {x : UInt8} {X : Int} {cs : List Value} (h : w2.ownsRow B 5 1 v' n (cs ++ [.int .u8 X])) (hc : cs = cells8 l) (hn : n = l.length + 1) (hx : X = (x.toNat : Int)) (hl : l' = l ++ [x]) : Row8 w2 B v' l' := by
  subst hx; subst hl; subst hc; subst hn
  unfold Row8
  rw [cells8_append, List.length_append]
  exact h
theorem headed_len (l : List UInt8) : (headed l).length = l.length + 4 := by simp [headed, be4]
theorem le8_len (z : Nat) : (le8 z).length = 8 := by simp [le8]
set_option maxRecDepth 100000 in
set_option maxHeartbeats 8000000 in
theorem frame_ok (A : Option Addr) (n c : Nat) (ss : List ByteArray) (w : World) (hA : Strs w A ss) (hT : QT w) (hn : ss.length = n) (hs : n ≤ 1000000) (hb : ∀ s ∈ ss, s.size ≤ 1000000) (hbig : (cat ss).length ≤ 65536) :
    Calls Tryd.prog 11 #[.slice A n c] w fun e w' => e = .returned (.tuple #[.string ⟨(framed (cat ss)).toArray⟩, .bool true]) ∧ Below w.heap.size w w' := by
  subst hn
  have hcb := cat_bound ss hb
  have HA := Lib.hid hA
  have HB := Lib.hid hb
  have HT := Lib.hid hT
  clear hb hT hA
  obtain ⟨i0, hi, hz0, hz1, hz2⟩ := info_parts info5
  go_enter Tryd.func11, Tryd.ntmps11
  go_wp2
  go_loop [4, 15] (fun t i => ∃ k : Nat, k ≤ ss.length ∧ i = .int .i64 k ∧ t = .int .i64 ((cat (ss.take k)).length : Nat)) (fun _ i => ss.length - (intOf i).toNat)
  case atStart => exact ⟨0, Nat.zero_le _, rfl, rfl⟩
  case round =>
    obtain ⟨k, hk, rfl, rfl⟩ := hrel
    have hm := cat_mono ss k
    by_cases hlt' : k < ss.length
    · have hct := congrArg List.length (cat_take ss k hlt')
      rw [List.length_append] at hct
      have hm2 := cat_mono ss (k + 1)
      rcases HA.out with h | ⟨b, off, rfl, hbw, hcell⟩
      · subst h; simp at hlt'
      have x0 := hcell k hlt'
      have hts : (ss.getD k ⟨#[]⟩).data.toList.length = (ss.getD k ⟨#[]⟩).size := by simp
      rw [hts] at hct
      have HCT := Lib.hid hct
      have hz : (cat (ss.take k)).length + (ss.getD k ⟨#[]⟩).size ≤ 1000000000000 := by omega
      clear hct hts hcell hm2
      generalize ss.getD k ⟨#[]⟩ = s at *
      go_wp2
      go_round
      case rel => exact ⟨k + 1, by omega, by go_num, by rw [HCT.out]; go_num⟩
      case measure => simp [intOf]; omega
    · have hkl : k = ss.length := by omega
      subst hkl
      rw [List.take_length]
      have HC := Lib.hid (show (headed (cat ss)).length = (cat ss).length + 4 from headed_len _)
      generalize hz' : (cat ss).length = z at *
      have HZ := Lib.hid hz'
      clear hz' hm hcb
      go_wp2_with (first | (refine wpList_make_own _ rfl _ _ 37 rfl w.heap.size 5 i0 (.int .u8 0) 1 Tryd.underlying37 hi hz0 hz1 .i64 .i64 _ (z + 12) rfl rfl (by omega) (by rw [hz2]; omega) (by unfold maxLen; omega) (Nat.le_refl _) ?_; intro w1 hown1 hgr1; have HO1 := Lib.hid hown1; have HG1 := Lib.hid hgr1; clear hown1 hgr1))
      go_loopw [7, 30] (fun v i wr => ∃ k : Nat, k ≤ 4 ∧ i = .int .i64 k ∧ Below w.heap.size w wr ∧ Row8 wr w.heap.size v ((be4 z).take k)) (fun _ i _ => 4 - (intOf i).toNat)
      case atStart => exact ⟨0, Nat.zero_le _, rfl, (Below.refl _ _).grown HG1.out (Nat.le_refl _) (fun g h => by simp at h), HO1.out⟩
      case round =>
        obtain ⟨k, hk, rfl, hbl, hrow⟩ := hrel
        have hsz := hbl.size
        have HROW := Lib.hid hrow
        clear hrow
        have hk4 : k = 0 ∨ k = 1 ∨ k = 2 ∨ k = 3 ∨ k = 4 := by omega
        rcases hk4 with rfl | rfl | rfl | rfl | rfl
        · go_wp2_with (at_builtin; refine wpList_append_src _ rfl _ _ 37 rfl w.heap.size 5 i0 (.int .u8 0) 1 1 Tryd.underlying37 hi hz0 hz1 hz2 rfl (by decide) u7 0 _ rfl (World.ownsRow.alloc HROW.out _) (some ⟨wr.heap.size, 0, none⟩) 1 1 [_] rfl (Src.one _ _ _ rfl) (by unfold maxLen; simp) (by simp) (by simp; omega) ?_; intro v' w2 hown2 hgr2 hnew2; have HO2 := Lib.hid hown2; have HG2 := Lib.hid hgr2; clear hown2 hgr2 hnew2)
          go_roundw
          case rel => exact ⟨1, by omega, by go_num, (hbl.alloc hsz _).grown HG2.out (by simp; omega) (fun g h => (HROW.out.lt g h).1), row8_step (x := UInt8.ofNat (z / 16777216)) HO2.out rfl rfl (by rw [UInt8.toNat_ofNat']; omega) rfl⟩
          case measure => simp [intOf]
        · go_wp2_with (at_builtin; refine wpList_append_src _ rfl _ _ 37 rfl w.heap.size 5 i0 (.int .u8 0) 1 1 Tryd.underlying37 hi hz0 hz1 hz2 rfl (by decide) u7 1 _ rfl (World.ownsRow.alloc HROW.out _) (some ⟨wr.heap.size, 0, none⟩) 1 1 [_] rfl (Src.one _ _ _ rfl) (by unfold maxLen; simp) (by simp) (by simp; omega) ?_; intro v' w2 hown2 hgr2 hnew2; have HO2 := Lib.hid hown2; have HG2 := Lib.hid hgr2; clear hown2 hgr2 hnew2)
          go_roundw
          case rel => exact ⟨2, by omega, by go_num, (hbl.alloc hsz _).grown HG2.out (by simp; omega) (fun g h => (HROW.out.lt g h).1), row8_step (x := UInt8.ofNat (z / 65536)) HO2.out rfl rfl (by rw [UInt8.toNat_ofNat']; omega) rfl⟩
          case measure => simp [intOf]
        · go_wp2_with (at_builtin; refine wpList_append_src _ rfl _ _ 37 rfl w.heap.size 5 i0 (.int .u8 0) 1 1 Tryd.underlying37 hi hz0 hz1 hz2 rfl (by decide) u7 2 _ rfl (World.ownsRow.alloc HROW.out _) (some ⟨wr.heap.size, 0, none⟩) 1 1 [_] rfl (Src.one _ _ _ rfl) (by unfold maxLen; simp) (by simp) (by simp; omega) ?_; intro v' w2 hown2 hgr2 hnew2; have HO2 := Lib.hid hown2; have HG2 := Lib.hid hgr2; clear hown2 hgr2 hnew2)
          go_roundw
          case rel => exact ⟨3, by omega, by go_num, (hbl.alloc hsz _).grown HG2.out (by simp; omega) (fun g h => (HROW.out.lt g h).1), row8_step (x := UInt8.ofNat (z / 256)) HO2.out rfl rfl (by rw [UInt8.toNat_ofNat']; omega) rfl⟩
          case measure => simp [intOf]
        · go_wp2_with (at_builtin; refine wpList_append_src _ rfl _ _ 37 rfl w.heap.size 5 i0 (.int .u8 0) 1 1 Tryd.underlying37 hi hz0 hz1 hz2 rfl (by decide) u7 3 _ rfl (World.ownsRow.alloc HROW.out _) (some ⟨wr.heap.size, 0, none⟩) 1 1 [_] rfl (Src.one _ _ _ rfl) (by unfold maxLen; simp) (by simp) (by simp; omega) ?_; intro v' w2 hown2 hgr2 hnew2; have HO2 := Lib.hid hown2; have HG2 := Lib.hid hgr2; clear hown2 hgr2 hnew2)
          go_roundw
          case rel => exact ⟨4, by omega, by go_num, (hbl.alloc hsz _).grown HG2.out (by simp; omega) (fun g h => (HROW.out.lt g h).1), row8_step (x := UInt8.ofNat (z)) HO2.out rfl rfl (by rw [UInt8.toNat_ofNat']; omega) rfl⟩
          case measure => simp [intOf]
        · have HR4 := Lib.hid (show Row8 wr w.heap.size u7 (be4 z) from HROW.out)
          have HBL := Lib.hid hbl
          clear hbl hsz HROW
          rw [show ((4 : Nat) : Int) = 4 from rfl]
          go_wp2
          go_loopw [7, 45] (fun v i wx => ∃ k : Nat, k ≤ ss.length ∧ i = .int .i64 k ∧ Below w.heap.size w wx ∧ Row8 wx w.heap.size v (be4 z ++ cat (ss.take k))) (fun _ i _ => ss.length - (intOf i).toNat)
          case atStart => exact ⟨0, Nat.zero_le _, rfl, HBL.out, by simpa [cat] using HR4.out⟩
          case round =>
            obtain ⟨k, hk, rfl, hbl, hrow⟩ := hrel
            have hsz := hbl.size
            have hm := cat_mono ss k
            have HROW := Lib.hid hrow
            clear hrow
            by_cases hlt' : k < ss.length
            · have hct := cat_take ss k hlt'
              have hctl := congrArg List.length hct
              rw [List.length_append] at hctl
              have hm2 := cat_mono ss (k + 1)
              rcases HA.out with h | ⟨b, off, rfl, hbw, hcell⟩
              · subst h; simp at hlt'
              have x0 := (hbl.cell (p := ⟨b, off + k, none⟩) hbw).trans (hcell k hlt')
              have hts : (ss.getD k ⟨#[]⟩).data.toList.length = (ss.getD k ⟨#[]⟩).size := by simp
              rw [hts] at hctl
              have HCT := Lib.hid hct
              have hzl := HZ.out
              have hlen : (be4 z ++ cat (ss.take k)).length + (ss.getD k ⟨#[]⟩).size ≤ 70000 := by rw [List.length_append, show (be4 z).length = 4 from rfl]; omega
              have hm3 := Lib.hid hctl
              clear hct hts hcell hm2 hctl hm hzl
              generalize ss.getD k ⟨#[]⟩ = s at *
              go_wp2_with (at_builtin; refine Lib.wpList_append_own_string _ rfl _ _ 37 9 rfl w.heap.size 5 i0 Tryd.underlying37 Tryd.underlying9 hi hz0 hz1 hz2 u7 (be4 z ++ cat (ss.take k)).length _ rfl HROW.out s rfl (by unfold maxLen; omega) (by omega) hsz ?_; intro v' w2 hown2 hgr2 hnew2; have HO2 := Lib.hid hown2; have HG2 := Lib.hid hgr2; clear hown2 hgr2 hnew2)
              go_roundw
              case rel =>
                refine ⟨k + 1, by omega, by go_num, hbl.grown HG2.out hsz (fun g h => (HROW.out.lt g h).1), ?_⟩
                have h1 := HO2.out
                rw [HCT.out, ← List.append_assoc]
                unfold Row8
                rw [cells8_append, List.length_append, show s.data.toList.length = s.size from by simp]
                exact h1
              case measure => simp [intOf]; omega
            · have hkl : k = ss.length := by omega
              subst hkl
              rw [List.take_length] at HROW
              have hrl : (be4 z ++ cat ss).length = z + 4 := by rw [List.length_append, HZ.out]; simp [be4]; omega
              have hhd : be4 z ++ cat ss = headed (cat ss) := by unfold headed; rw [HZ.out]
              rw [hhd] at HROW hrl
              have HRL := Lib.hid hrl
              have hbb : Below wr.heap.size wr (wr.alloc (.cells #[.string ⟨(headed (cat ss)).toArray⟩] 9)) := (Below.refl _ _).alloc (Nat.le_refl _) _
              have hsg : Strs (wr.alloc (.cells #[.string ⟨(headed (cat ss)).toArray⟩] 9)) (some ⟨wr.heap.size, 0, none⟩) [⟨(headed (cat ss)).toArray⟩] :=
                .inr ⟨wr.heap.size, 0, rfl, by simp, fun i hi => by
                  obtain rfl : i = 0 := by simp at hi; omega
                  exact (Blk.new wr 9 #[.string ⟨(headed (cat ss)).toArray⟩]).cell 0⟩
              have OF := Lib.hid (of_any (some ⟨wr.heap.size, 0, none⟩) 1 1 [⟨(headed (cat ss)).toArray⟩] _ hsg ((HT.out.below hbl HT.out.lt).below hbb (Nat.lt_of_lt_of_le HT.out.lt hsz)) rfl (by omega) (fun s hs => by simp at hs; subst hs; simp [ByteArray.size]; omega))
              rw [show cat [⟨(headed (cat ss)).toArray⟩] = headed (cat ss) from by simp [cat]] at OF
              have CV := HROW.out.conv (by omega)
              have HFR := Lib.hid (show framed (cat ss) = headed (cat ss) ++ le8 (Crc.sum (headed (cat ss))) from rfl)
              have hsl := Crc.sum_lt (headed (cat ss))
              clear hsg hrl hhd hm
              generalize hfr : framed (cat ss) = fr at *
              have HFE := Lib.hid hfr
              clear hfr
              generalize headed (cat ss) = hd at *
              generalize Crc.sum hd = sm at *
              go_wp2_with (go_at_call 12; refine OF.out.mono ?_; rintro e w3 ⟨rfl, hb3⟩)
              have hbl3 : Below w.heap.size w w3 := hbl.trans ((hbb.trans (hb3.mono (by simp))).mono hsz)
              have hr3 : Row8 w3 w.heap.size u7 hd := ((Off.of (hbb.trans (hb3.mono (by simp))) : Off (fun _ => False) wr w3).own HROW.out (fun _ _ h => h))
              have HR3 := Lib.hid hr3
              have HBL3 := Lib.hid hbl3
              have HBB := Lib.hid hbb
              clear hr3 hbl3 hbb hb3 CV hbl hsz
              go_loopw [7, 57] (fun v i wx => ∃ k : Nat, k ≤ 8 ∧ i = .int .i64 k ∧ Below w.heap.size w wx ∧ Row8 wx w.heap.size v (hd ++ (le8 sm).take k)) (fun _ i _ => 8 - (intOf i).toNat)
              case atStart => exact ⟨0, Nat.zero_le _, rfl, HBL3.out, by simpa using HR3.out⟩
              case round =>
                obtain ⟨k, hk, rfl, hbl, hrow⟩ := hrel
                have hsz := hbl.size
                have HROW := Lib.hid hrow
                clear hrow
                have hk8 : k = 0 ∨ k = 1 ∨ k = 2 ∨ k = 3 ∨ k = 4 ∨ k = 5 ∨ k = 6 ∨ k = 7 ∨ k = 8 := by omega
                have hlh : ∀ j, j ≤ 8 → (hd ++ (le8 sm).take j).length ≤ 70000 := fun j hj => by rw [List.length_append, List.length_take, le8_len, HRL.out]; omega
                have HLH := Lib.hid hlh
                clear hlh
                rcases hk8 with rfl | rfl | rfl | rfl | rfl | rfl | rfl | rfl | rfl
                · have hl9 := HLH.out 0 (by omega)
                  go_wp2_with (at_builtin; refine wpList_append_src _ rfl _ _ 37 rfl w.heap.size 5 i0 (.int .u8 0) 1 1 Tryd.underlying37 hi hz0 hz1 hz2 rfl (by decide) u7 (hd ++ (le8 sm).take 0).length _ rfl (World.ownsRow.alloc HROW.out _) (some ⟨wr.heap.size, 0, none⟩) 1 1 [_] rfl (Src.one _ _ _ rfl) (by unfold maxLen; omega) (by omega) (by simp; omega) ?_; intro v' w2 hown2 hgr2 hnew2; have HO2 := Lib.hid hown2; have HG2 := Lib.hid hgr2; clear hown2 hgr2 hnew2)
                  go_roundw
                  case rel => exact ⟨1, by omega, by go_num, (hbl.alloc hsz _).grown HG2.out (by simp; omega) (fun g h => (HROW.out.lt g h).1), row8_step (x := UInt8.ofNat (sm / 256 ^ 0)) HO2.out rfl rfl (by rw [UInt8.toNat_ofNat']; omega) (by rw [List.append_assoc]; rfl)⟩
                  case measure => simp [intOf]
                · have hl9 := HLH.out 1 (by omega)
                  go_wp2_with (at_builtin; refine wpList_append_src _ rfl _ _ 37 rfl w.heap.size 5 i0 (.int .u8 0) 1 1 Tryd.underlying37 hi hz0 hz1 hz2 rfl (by decide) u7 (hd ++ (le8 sm).take 1).length _ rfl (World.ownsRow.alloc HROW.out _) (some ⟨wr.heap.size, 0, none⟩) 1 1 [_] rfl (Src.one _ _ _ rfl) (by unfold maxLen; omega) (by omega) (by simp; omega) ?_; intro v' w2 hown2 hgr2 hnew2; have HO2 := Lib.hid hown2; have HG2 := Lib.hid hgr2; clear hown2 hgr2 hnew2)
                  go_roundw
                  case rel => exact ⟨2, by omega, by go_num, (hbl.alloc hsz _).grown HG2.out (by simp; omega) (fun g h => (HROW.out.lt g h).1), row8_step (x := UInt8.ofNat (sm / 256 ^ 1)) HO2.out rfl rfl (by rw [UInt8.toNat_ofNat']; omega) (by rw [List.append_assoc]; rfl)⟩
                  case measure => simp [intOf]
                · have hl9 := HLH.out 2 (by omega)
                  go_wp2_with (at_builtin; refine wpList_append_src _ rfl _ _ 37 rfl w.heap.size 5 i0 (.int .u8 0) 1 1 Tryd.underlying37 hi hz0 hz1 hz2 rfl (by decide) u7 (hd ++ (le8 sm).take 2).length _ rfl (World.ownsRow.alloc HROW.out _) (some ⟨wr.heap.size, 0, none⟩) 1 1 [_] rfl (Src.one _ _ _ rfl) (by unfold maxLen; omega) (by omega) (by simp; omega) ?_; intro v' w2 hown2 hgr2 hnew2; have HO2 := Lib.hid hown2; have HG2 := Lib.hid hgr2; clear hown2 hgr2 hnew2)
                  go_roundw
                  case rel => exact ⟨3, by omega, by go_num, (hbl.alloc hsz _).grown HG2.out (by simp; omega) (fun g h => (HROW.out.lt g h).1), row8_step (x := UInt8.ofNat (sm / 256 ^ 2)) HO2.out rfl rfl (by rw [UInt8.toNat_ofNat']; omega) (by rw [List.append_assoc]; rfl)⟩
                  case measure => simp [intOf]
                · have hl9 := HLH.out 3 (by omega)
                  go_wp2_with (at_builtin; refine wpList_append_src _ rfl _ _ 37 rfl w.heap.size 5 i0 (.int .u8 0) 1 1 Tryd.underlying37 hi hz0 hz1 hz2 rfl (by decide) u7 (hd ++ (le8 sm).take 3).length _ rfl (World.ownsRow.alloc HROW.out _) (some ⟨wr.heap.size, 0, none⟩) 1 1 [_] rfl (Src.one _ _ _ rfl) (by unfold maxLen; omega) (by omega) (by simp; omega) ?_; intro v' w2 hown2 hgr2 hnew2; have HO2 := Lib.hid hown2; have HG2 := Lib.hid hgr2; clear hown2 hgr2 hnew2)
                  go_roundw
                  case rel => exact ⟨4, by omega, by go_num, (hbl.alloc hsz _).grown HG2.out (by simp; omega) (fun g h => (HROW.out.lt g h).1), row8_step (x := UInt8.ofNat (sm / 256 ^ 3)) HO2.out rfl rfl (by rw [UInt8.toNat_ofNat']; omega) (by rw [List.append_assoc]; rfl)⟩
                  case measure => simp [intOf]
                · have hl9 := HLH.out 4 (by omega)
                  go_wp2_with (at_builtin; refine wpList_append_src _ rfl _ _ 37 rfl w.heap.size 5 i0 (.int .u8 0) 1 1 Tryd.underlying37 hi hz0 hz1 hz2 rfl (by decide) u7 (hd ++ (le8 sm).take 4).length _ rfl (World.ownsRow.alloc HROW.out _) (some ⟨wr.heap.size, 0, none⟩) 1 1 [_] rfl (Src.one _ _ _ rfl) (by unfold maxLen; omega) (by omega) (by simp; omega) ?_; intro v' w2 hown2 hgr2 hnew2; have HO2 := Lib.hid hown2; have HG2 := Lib.hid hgr2; clear hown2 hgr2 hnew2)
                  go_roundw
                  case rel => exact ⟨5, by omega, by go_num, (hbl.alloc hsz _).grown HG2.out (by simp; omega) (fun g h => (HROW.out.lt g h).1), row8_step (x := UInt8.ofNat (sm / 256 ^ 4)) HO2.out rfl rfl (by rw [UInt8.toNat_ofNat']; omega) (by rw [List.append_assoc]; rfl)⟩
                  case measure => simp [intOf]
                · have hl9 := HLH.out 5 (by omega)
                  go_wp2_with (at_builtin; refine wpList_append_src _ rfl _ _ 37 rfl w.heap.size 5 i0 (.int .u8 0) 1 1 Tryd.underlying37 hi hz0 hz1 hz2 rfl (by decide) u7 (hd ++ (le8 sm).take 5).length _ rfl (World.ownsRow.alloc HROW.out _) (some ⟨wr.heap.size, 0, none⟩) 1 1 [_] rfl (Src.one _ _ _ rfl) (by unfold maxLen; omega) (by omega) (by simp; omega) ?_; intro v' w2 hown2 hgr2 hnew2; have HO2 := Lib.hid hown2; have HG2 := Lib.hid hgr2; clear hown2 hgr2 hnew2)
                  go_roundw
                  case rel => exact ⟨6, by omega, by go_num, (hbl.alloc hsz _).grown HG2.out (by simp; omega) (fun g h => (HROW.out.lt g h).1), row8_step (x := UInt8.ofNat (sm / 256 ^ 5)) HO2.out rfl rfl (by rw [UInt8.toNat_ofNat']; omega) (by rw [List.append_assoc]; rfl)⟩
                  case measure => simp [intOf]
                · have hl9 := HLH.out 6 (by omega)
                  go_wp2_with (at_builtin; refine wpList_append_src _ rfl _ _ 37 rfl w.heap.size 5 i0 (.int .u8 0) 1 1 Tryd.underlying37 hi hz0 hz1 hz2 rfl (by decide) u7 (hd ++ (le8 sm).take 6).length _ rfl (World.ownsRow.alloc HROW.out _) (some ⟨wr.heap.size, 0, none⟩) 1 1 [_] rfl (Src.one _ _ _ rfl) (by unfold maxLen; omega) (by omega) (by simp; omega) ?_; intro v' w2 hown2 hgr2 hnew2; have HO2 := Lib.hid hown2; have HG2 := Lib.hid hgr2; clear hown2 hgr2 hnew2)
                  go_roundw
                  case rel => exact ⟨7, by omega, by go_num, (hbl.alloc hsz _).grown HG2.out (by simp; omega) (fun g h => (HROW.out.lt g h).1), row8_step (x := UInt8.ofNat (sm / 256 ^ 6)) HO2.out rfl rfl (by rw [UInt8.toNat_ofNat']; omega) (by rw [List.append_assoc]; rfl)⟩
                  case measure => simp [intOf]
                · have hl9 := HLH.out 7 (by omega)
                  go_wp2_with (at_builtin; refine wpList_append_src _ rfl _ _ 37 rfl w.heap.size 5 i0 (.int .u8 0) 1 1 Tryd.underlying37 hi hz0 hz1 hz2 rfl (by decide) u7 (hd ++ (le8 sm).take 7).length _ rfl (World.ownsRow.alloc HROW.out _) (some ⟨wr.heap.size, 0, none⟩) 1 1 [_] rfl (Src.one _ _ _ rfl) (by unfold maxLen; omega) (by omega) (by simp; omega) ?_; intro v' w2 hown2 hgr2 hnew2; have HO2 := Lib.hid hown2; have HG2 := Lib.hid hgr2; clear hown2 hgr2 hnew2)
                  go_roundw
                  case rel => exact ⟨8, by omega, by go_num, (hbl.alloc hsz _).grown HG2.out (by simp; omega) (fun g h => (HROW.out.lt g h).1), row8_step (x := UInt8.ofNat (sm / 256 ^ 7)) HO2.out rfl rfl (by rw [UInt8.toNat_ofNat']; omega) (by rw [List.append_assoc]; rfl)⟩
                  case measure => simp [intOf]
                · have HEND := Lib.hid (show Row8 wr w.heap.size u7 fr from by rw [HFR.out]; exact HROW.out)
                  rw [show ((8 : Nat) : Int) = 8 from rfl]
                  have CV2 := HEND.out.conv (by rw [HFR.out, List.length_append, HRL.out]; omega)
                  go_wp2
                  go_ret2
                  exact ⟨by rw [HFE.out]; rfl, hbl⟩
end Go.Proofs.YtmmgicomidpmhaaDoor
