/- SealSums: whatever texts: their sum, added together or one by one, and their frame. Condition: the table that the row lists holds what the program's text lays in it. -/
import Derived.Test.YtmmgicomidpmhaaDoorQtc
import Derived.Test.YtmmgicomidpmhaaDoorSam
import Derived.SliceStrings
import Derived.LaidEql
namespace Go.Proofs.YtmmgicomidpmhaaDoor.SealSums
open Go.ChangeShapes Go.WideShapes Go.ChangeAt Go.RowKit
set_option linter.unusedVariables false
theorem texts_open {H : Type} {enc : TypeId × Value → H} {W : World} {fuel : Nat} {x : DataW H × List MemPlace} {a : Option Addr} {len cap : Nat}
    (h : DataW.trod enc Tryd.prog W 0 (fun _ => true) true fuel 22 [.slice a len cap] = some x) :
    len ≤ cap ∧ cap ≤ 9223372036854775807 ∧ ∃ ss : List ByteArray, ss.length = len ∧ Strs W a ss ∧ ∀ s ∈ ss, s.size ≤ 9223372036854775807 := by
  rcases open_strings Tryd.underlying22 Tryd.underlying9 (by kernel_rfl) h with ⟨h1, _⟩ | ⟨ad, l, c, ss, h1, _, hl, hm, hsl, _, hcl, hsz⟩
  · simp at h1
    obtain ⟨rfl, rfl, rfl⟩ := h1
    exact ⟨Nat.le_refl _, by omega, [], rfl, .inl rfl, fun s hs => by simp at hs⟩
  · simp at h1
    obtain ⟨rfl, rfl, rfl⟩ := h1
    have hlen : (ss.take len).length = len := by rw [List.length_take]; simp at hsl; omega
    refine ⟨hl, by unfold maxLen at hm; omega, ss.take len, hlen, ?_, fun s hs => by have := hsz s (List.mem_of_mem_take hs); unfold maxLen at this; omega⟩
    rcases Nat.eq_zero_or_pos len with h0 | h0
    · exact .inl (by subst h0; simp)
    · obtain ⟨b, off, spot⟩ := ad
      have hc := hcl 0 (by simp at hsl; omega)
      have hspot : spot = none := by simpa [Addr.add] using World.cell?_spot hc
      subst hspot
      refine .inr ⟨b, off, rfl, World.block_lt_of_cell? _ _ hc, fun i hi => ?_⟩
      have h1 := hcl i (by simp at hsl; omega)
      have h2 : (ss.take len).getD i ⟨#[]⟩ = ss.getD i ByteArray.empty := by
        simp only [List.getD, List.getElem?_take]; rw [if_pos (by omega)]; rfl
      rw [h2, ← addr_add]; exact h1
/-- A text of those, that is too long. -/
def Long (ss : List ByteArray) : Prop := ∃ i, i < ss.length ∧ i < 20 ∧ 1500 < (ss.getD i ⟨#[]⟩).size
set_option maxHeartbeats 2000000 in
theorem join_long (A : Option Addr) (n c : Nat) (ss : List ByteArray) (w : World) (hA : Strs w A ss) (hn : ss.length = n) (hm : n ≤ 9223372036854775807) (hz : ∀ s ∈ ss, s.size ≤ 9223372036854775807) (hl : Long ss) :
    Calls Tryd.prog 8 #[.slice A n c] w fun e w' => e = .returned (.tuple #[.string ⟨#[]⟩, .bool false]) ∧ w = w' := by
  subst hn
  obtain ⟨j, hj1, hj2, hj3⟩ := hl
  -- the first of those that are too long
  go_enter Tryd.func8, Tryd.ntmps8
  go_wp2
  go_loop [4, 5] (fun t i => ∃ k : Nat, k ≤ j ∧ i = .int .i64 k ∧ ∃ S : ByteArray, t = .string S ∧ S.size ≤ 1500 * k) (fun _ i => j + 1 - (intOf i).toNat)
  case atStart => exact ⟨0, by omega, rfl, _, rfl, by simp [ByteArray.size]⟩
  case round =>
    obtain ⟨k, hk, rfl, S, rfl, hS⟩ := hrel
    have hlt : k < ss.length := by omega
    have hk20 : k < 20 := by omega
    have hzk := hz _ (List.getElem_mem hlt)
    rw [show ss[k] = ss.getD k ⟨#[]⟩ from by simp [List.getD, List.getElem?_eq_getElem hlt]] at hzk
    rcases hA with h | ⟨b, off, rfl, hbw, hcell⟩
    · subst h; simp at hlt
    have x0 := hcell k hlt
    by_cases hkj : k = j
    · subst hkj
      clear hcell
      generalize ss.getD k ⟨#[]⟩ = s at *
      go_wp2
      go_ret2
      exact ⟨rfl, rfl⟩
    · by_cases hbig : 1500 < (ss.getD k ⟨#[]⟩).size
      · clear hcell
        generalize ss.getD k ⟨#[]⟩ = s at *
        go_wp2
        go_ret2
        exact ⟨rfl, rfl⟩
      · clear hcell
        generalize ss.getD k ⟨#[]⟩ = s at *
        go_wp2
        go_round
        case rel => exact ⟨k + 1, by omega, by go_num, _, rfl, by rw [ByteArray.size_append]; omega⟩
        case measure => simp [intOf]; omega
theorem long_of (ss : List ByteArray) (k : Nat) (hk : k ≤ ss.length) (hk20 : k ≤ 20) (h : ¬ Long ss) : (cat (ss.take k)).length ≤ 1500 * k := by
  induction k with
  | zero => simp [cat]
  | succ k ih =>
    have h1 := congrArg List.length (cat_take ss k (by omega))
    rw [List.length_append] at h1
    have h2 : (ss.getD k ⟨#[]⟩).size ≤ 1500 := by
      rcases Nat.lt_or_ge 1500 (ss.getD k ⟨#[]⟩).size with h3 | h3
      · exact absurd ⟨k, by omega, by omega, h3⟩ h
      · exact h3
    have h3 : (ss.getD k ⟨#[]⟩).data.toList.length = (ss.getD k ⟨#[]⟩).size := by simp
    have := ih (by omega) (by omega)
    omega
/-- What the statement asks of: not too many, and not too long. -/
def Fine (ss : List ByteArray) : Prop := ¬ Long ss ∧ ss.length ≤ 20 ∧ (cat ss).length ≤ 1500
/-- What join tells. -/
def JoinPost (ss : List ByteArray) (e : Ending) : Prop := ∃ S b, S.data.toList = cat (ss.take 20) ∧ b = decide (ss.length ≤ 20 ∧ S.size ≤ 1500) ∧ e = .returned (.tuple #[.string S, .bool b])
set_option maxHeartbeats 2000000 in
theorem join_not_long (A : Option Addr) (n c : Nat) (ss : List ByteArray) (w : World) (hA : Strs w A ss) (hn : ss.length = n) (hm : n ≤ 9223372036854775807) (hz : ∀ s ∈ ss, s.size ≤ 9223372036854775807) (hl : ¬ Long ss) :
    Calls Tryd.prog 8 #[.slice A n c] w fun e w' => JoinPost ss e ∧ w = w' := by
  subst hn
  go_enter Tryd.func8, Tryd.ntmps8
  go_wp2
  go_loop [4, 5] (fun t i => ∃ k : Nat, k ≤ ss.length ∧ k ≤ 20 ∧ i = .int .i64 k ∧ ∃ S : ByteArray, t = .string S ∧ S.size ≤ 1500 * k ∧ Hid (S.data.toList = cat (ss.take k))) (fun _ i => 21 - (intOf i).toNat)
  case atStart => exact ⟨0, by omega, by omega, rfl, _, rfl, by simp [ByteArray.size], Lib.hid rfl⟩
  case round =>
    obtain ⟨k, hk, hk2, rfl, S, rfl, hS, hSd⟩ := hrel
    by_cases hlt : k < ss.length
    · by_cases hk20 : k < 20
      · have hs : (ss.getD k ⟨#[]⟩).size ≤ 1500 := by
          rcases Nat.lt_or_ge 1500 (ss.getD k ⟨#[]⟩).size with h3 | h3
          · exact absurd ⟨k, hlt, hk20, h3⟩ hl
          · exact h3
        rcases hA with h | ⟨b, off, rfl, hbw, hcell⟩
        · subst h; simp at hlt
        have x0 := hcell k hlt
        have HCT := Lib.hid (cat_take ss k hlt)
        clear hcell
        generalize ss.getD k ⟨#[]⟩ = s at *
        go_wp2
        go_round
        case rel => exact ⟨k + 1, by omega, by omega, by go_num, _, rfl, by rw [ByteArray.size_append]; omega, Lib.hid (by rw [HCT.out, ← hSd.out]; simp)⟩
        case measure => simp [intOf]; omega
      · have hk21 : k = 20 := by omega
        subst hk21
        have he : ¬ ss.length ≤ 20 := by omega
        have HD := Lib.hid (show false = decide (ss.length ≤ 20 ∧ S.size ≤ 1500) from (decide_eq_false (fun h => he h.1)).symm)
        have he8 : decide ((ss.length : Int) ≤ 20) = false := decide_eq_false (by omega)
        go_wp2
        go_ret2
        exact ⟨⟨S, _, hSd.out, HD.out, rfl⟩, rfl⟩
    · have hkl : k = ss.length := by omega
      subst hkl
      have hfull : ss.take 20 = ss.take ss.length := by rw [List.take_length, List.take_of_length_le hk2]
      have HF := Lib.hid hfull
      clear hfull
      by_cases hS9 : S.size ≤ 1500
      · have HD := Lib.hid (show true = decide (ss.length ≤ 20 ∧ S.size ≤ 1500) from (decide_eq_true ⟨hk2, hS9⟩).symm)
        have hS8 : decide ((S.size : Int) ≤ 1500) = true := decide_eq_true (by omega)
        go_wp2
        go_ret2
        exact ⟨⟨S, _, by rw [HF.out]; exact hSd.out, HD.out, rfl⟩, rfl⟩
      · have HD := Lib.hid (show false = decide (ss.length ≤ 20 ∧ S.size ≤ 1500) from (decide_eq_false (fun h => hS9 h.2)).symm)
        have hS8 : decide ((S.size : Int) ≤ 1500) = false := decide_eq_false (by omega)
        go_wp2
        go_ret2
        exact ⟨⟨S, _, by rw [HF.out]; exact hSd.out, HD.out, rfl⟩, rfl⟩
theorem strs_one {w : World} {t : TypeId} {g : Nat} {a : ByteArray} (h : Blk w g t #[.string a]) : Strs w (some ⟨g, 0, none⟩) [a] :=
  .inr ⟨g, 0, rfl, h.lt, fun i hi => by
    obtain rfl : i = 0 := by simp at hi; omega
    rw [h.cell]; rfl⟩
theorem eqin_self (d g : Nat) (W : World) : (Op.equalIn (d + 1) 26 (.pointer (some ⟨g, 0, none⟩)) (.pointer (some ⟨g, 0, none⟩))).run Tryd.prog W = .ok true W := by
  have h := Tryd.underlying26
  have h2 : ∀ w, (Go.sizeOf 29).run Tryd.prog w = .ok 1 w := Tryd.sizeOf29
  simp [Op.equalIn, run_underlying h, h2, run_sameAddr_same]
theorem neq_self (g : Nat) (W : World) : (binOp .neq 26 (.pointer (some ⟨g, 0, none⟩)) (.pointer (some ⟨g, 0, none⟩))).run Tryd.prog W = .ok (.bool false) W := by
  simp only [binOp]
  have h2 : (Op.equal 26 (.pointer (some ⟨g, 0, none⟩)) (.pointer (some ⟨g, 0, none⟩))).run Tryd.prog W = .ok true W := eqin_self 9999 g W
  simp [h2]
theorem cat_mem (ss : List ByteArray) (s : ByteArray) (h : s ∈ ss) : s.size ≤ (cat ss).length := by
  induction ss with
  | nil => simp at h
  | cons x r ih =>
    have e : cat (x :: r) = x.data.toList ++ cat r := rfl
    have hx : x.data.toList.length = x.size := by simp
    rw [e, List.length_append]
    rcases List.mem_cons.1 h with h1 | h1
    · subst h1; omega
    · have := ih h1; omega
theorem sum_zero : Crc.sum [] = 0 := by decide +kernel
theorem add_step (a b : List UInt8) : Crc.inv (Crc.crc (Crc.inv (Crc.sum a)) b) = Crc.sum (a ++ b) := by
  unfold Crc.sum
  rw [Crc.inv_inv, Crc.crc_append]
set_option maxHeartbeats 6000000 in
theorem walk (A : Option Addr) (n c : Nat) (ss : List ByteArray) (w : World) (hT : QT w) (hA : Strs w A ss) (hn : ss.length = n) (hm : n ≤ 9223372036854775807) (hz : ∀ s ∈ ss, s.size ≤ 9223372036854775807) :
    Calls Tryd.prog 3 #[.slice A n c] w fun e w' => e = .returned (.bool true) ∧ Below w.heap.size w w' := by
  subst hn
  by_cases hl : Long ss
  · have JL := Lib.hid (fun W (h : Strs W A ss) => join_long A ss.length c ss W h rfl hm hz hl)
    go_enter Tryd.func3, Tryd.ntmps3
    go_wp2_with (first | (go_at_call 8; refine (JL.out _ hA).mono ?_; rintro e w1 ⟨rfl, rfl⟩) | (go_at_call 9; refine (awake_any _ hT).mono ?_; rintro e w1 ⟨rfl, hb1⟩))
    go_ret
    exact ⟨rfl, hb1⟩
  have JN := join_not_long A ss.length c ss w hA rfl hm hz hl
  by_cases hf : ss.length ≤ 20 ∧ (cat (ss.take 20)).length ≤ 1500
  · obtain ⟨hf1, hf2⟩ := hf
    have hfull : ss.take 20 = ss := List.take_of_length_le hf1
    rw [hfull] at hf2
    have JN2 := Lib.hid (JN.mono (R' := fun e w' => (∃ S : ByteArray, S.data.toList = cat ss ∧ S.size ≤ 1500 ∧ e = .returned (.tuple #[.string S, .bool true])) ∧ w = w') (by
      rintro e w' ⟨⟨S, b, h1, h2, h3⟩, h4⟩
      rw [hfull] at h1
      have h5 : S.size ≤ 1500 := by have := congrArg List.length h1; simp at this; omega
      rw [decide_eq_true ⟨hf1, h5⟩] at h2
      subst h2
      exact ⟨⟨S, h1, h5, h3⟩, h4⟩))
    have hsz : ∀ s ∈ ss, s.size ≤ 1000000 := fun s hs => by
      have := cat_mem ss s hs; omega
    have HSZ := Lib.hid hsz
    have HA := Lib.hid hA
    have HT := Lib.hid hT
    have HF2 := Lib.hid hf2
    clear JN hsz hA hT hf2 hfull hl hz
    go_enter Tryd.func3, Tryd.ntmps3
    go_wp2_with (go_at_call 8; refine JN2.out.mono ?_; rintro e w1 ⟨⟨S, hS, hS5, rfl⟩, rfl⟩; have HS := Lib.hid hS; clear hS)
    go_loopw [6] (fun i wr => ∃ k : Nat, k ≤ ss.length ∧ i = .int .i64 k ∧ Below w.heap.size w wr ∧ Blk wr w.heap.size 29 #[.int .u64 (Crc.sum (cat (ss.take k)) : Nat)]) (fun i _ => ss.length - (intOf i).toNat)
    case atStart => exact ⟨0, Nat.zero_le _, rfl, (Below.refl _ _).alloc (Nat.le_refl _) _, by rw [List.take_zero, show cat [] = [] from rfl, sum_zero]; exact Blk.new _ _ _⟩
    case round =>
      obtain ⟨k, hk, rfl, hbl, hblk⟩ := hrel
      by_cases hlt : k < ss.length
      · have HCT := Lib.hid (cat_take ss k hlt)
        have hsz := HSZ.out _ (List.getElem_mem hlt)
        rw [show ss[k] = ss.getD k ⟨#[]⟩ from by simp [List.getD, List.getElem?_eq_getElem hlt]] at hsz
        rcases HA.out with h | ⟨b, off, rfl, hbw, hcell⟩
        · subst h; simp at hlt
        have x0 := (hbl.cell (p := ⟨b, off + k, none⟩) hbw).trans (hcell k hlt)
        have hbw2 : b < wr.heap.size := Nat.lt_of_lt_of_le hbw hbl.size
        have AS := Lib.hid (add_step (cat (ss.take k)) (ss.getD k ⟨#[]⟩).data.toList)
        have hvl := Crc.sum_lt (cat (ss.take k))
        clear hcell
        generalize ss.getD k ⟨#[]⟩ = s at *
        have hbb : Below wr.heap.size wr (wr.alloc (.cells #[.string s] 9)) := (Below.refl _ _).alloc (Nat.le_refl _) _
        have hlt2 := hblk.lt
        have AD := Lib.hid (add_any w.heap.size (Crc.sum (cat (ss.take k))) (some ⟨wr.heap.size, 0, none⟩) 1 1 [s] _ (hblk.alloc _) hvl (strs_one (Blk.new wr 9 #[.string s])) ((HT.out.below hbl HT.out.lt).below hbb (Nat.lt_of_lt_of_le HT.out.lt hbl.size)) rfl (by omega) (fun x hx => by simp at hx; subst hx; exact hsz))
        rw [show cat [s] = s.data.toList from by simp [cat]] at AD
        rw [AS.out, ← HCT.out] at AD
        have HBK := Lib.hid hblk
        have NS := neq_self w.heap.size
        clear hblk hbb hvl
        generalize hzz : Crc.sum (cat (ss.take (k + 1))) = z at *
        have HZZ := Lib.hid hzz
        clear hzz
        go_wp2_with (go_at_call 10; refine AD.out.mono ?_; rintro e w1 ⟨rfl, rfl⟩)
        go_roundw
        case rel => exact ⟨k + 1, by omega, by go_num, (hbl.setCell (by simp) _).alloc (by simpa using hbl.size) _, by rw [HZZ.out]; exact (HBK.out.put 0 (.int .u64 z)).alloc _⟩
        case measure => simp [intOf]; omega
      · have hkl : k = ss.length := by omega
        subst hkl
        rw [List.take_length] at hblk
        have hT1 := HT.out.below hbl HT.out.lt
        have hA1 := HA.out.keep hbl
        have FR := Lib.hid (frame_ok A ss.length c ss wr hA1 hT1 rfl (by omega) HSZ.out (by have := HF2.out; omega))
        have OF := Lib.hid (fun W h1 h2 => of_any A ss.length c ss W h1 h2 rfl (by omega) HSZ.out)
        have RS := Lib.hid (fun W => refsum_any S W (by omega))
        have RF := Lib.hid (fun W => refframe_any S W (by omega))
        rw [HS.out] at RS RF
        have HBK := Lib.hid hblk
        have HT1 := Lib.hid hT1
        have HA1 := Lib.hid hA1
        have hlt2 := hblk.lt
        clear hblk hT1 hA1
        generalize framed (cat ss) = fr at *
        generalize Crc.sum (cat ss) = z at *
        go_wp2_with (first
          | (go_at_call 11; refine FR.out.mono ?_; rintro e w1 ⟨rfl, hb1⟩; have HT2 := Lib.hid (HT1.out.below hb1 HT1.out.lt); have HA2 := Lib.hid (HA1.out.keep hb1); have HB2 := Lib.hid (HBK.out.below hb1 hlt2))
          | (go_at_call 12; refine (OF.out _ HA2.out HT2.out).mono ?_; rintro e w2 ⟨rfl, hb2⟩; have HT3 := Lib.hid (HT2.out.below hb2 HT2.out.lt); have HB3 := Lib.hid (HB2.out.below hb2 HB2.out.lt))
          | (go_at_call 13; refine (RS.out _).mono ?_; rintro e w3 ⟨rfl, rfl⟩)
          | (go_at_call_of 14 (Value.pointer (some ⟨w.heap.size, 0, none⟩)); refine (value_any _ _ _ HB3.out).mono ?_; rintro e w4 ⟨rfl, rfl⟩)
          | (go_at_call_of 14 (Value.pointer none); refine (value_nil _).mono ?_; rintro e w4 ⟨rfl, rfl⟩)
          | (go_at_call 10; refine (add_nil _ _ _ _).mono ?_; rintro e w5 ⟨rfl, rfl⟩)
          | (go_at_call 15; refine (RF.out _).mono ?_; rintro e w6 ⟨rfl, hb6⟩; have HT6 := Lib.hid (HT3.out.below hb6 HT3.out.lt))
          | (go_at_call 9; refine (awake_any _ HT6.out).mono ?_; rintro e w7 ⟨rfl, hb7⟩))
        go_ret
        have c1 := hbl.trans (hb1.mono hbl.size)
        have c2 := c1.trans (hb2.mono c1.size)
        have c3 := c2.trans (hb6.mono c2.size)
        exact ⟨rfl, c3.trans (hb7.mono c3.size)⟩
  · have JN2 := Lib.hid (JN.mono (R' := fun e w' => (∃ S : ByteArray, e = .returned (.tuple #[.string S, .bool false])) ∧ w = w') (by
      rintro e w' ⟨⟨S, b, h1, h2, h3⟩, h4⟩
      have h5 : S.size = (cat (ss.take 20)).length := by have := congrArg List.length h1; simp at this; simpa using this
      rw [decide_eq_false (by rw [h5]; exact hf)] at h2
      subst h2
      exact ⟨⟨S, h3⟩, h4⟩))
    clear JN hf
    go_enter Tryd.func3, Tryd.ntmps3
    go_wp2_with (first | (go_at_call 8; refine JN2.out.mono ?_; rintro e w1 ⟨⟨S, rfl⟩, rfl⟩) | (go_at_call 9; refine (awake_any _ hT).mono ?_; rintro e w1 ⟨rfl, hb1⟩))
    go_ret
    exact ⟨rfl, hb1⟩
theorem own : ownKnob Tryd.prog.godebug = none := by kernel_rfl
theorem laidOut : laidOutB Tryd.prog = true := by kernel_rfl
set_option maxRecDepth 100000 in
theorem contract (H : Type) (enc : TypeId × Value → H) (W : World) (base : Nat) (args : Array Value) (ds gs : List (DataW H)) (before : List MemPlace)
    (hval : ∀ (j : Nat) t v, Tryd.f3.params[j]? = some t → args[j]? = some v → Value.okWide Tryd.prog W .any base t v)
    (hW : DataW.Whole enc Tryd.prog Tryd.f3.params.toList Rows.sealSumsSpec.vars false W args.toList ds gs before) (hL : laidMetH Tryd.prog Rows.sealSumsRow.laid W) :
    Calls Tryd.prog 3 args W fun e W' => ∃ v, e = .returned v ∧ Rows.sealSumsSpec.post enc Tryd.prog Tryd.f3 false true false false W args v W' := by
  have hW' := hW
  have tb := table hL
  obtain ⟨p, q, hA0, hV, rfl, hfz, hnd⟩ := hW
  have hA : DataW.TrodAll enc Tryd.prog W 0 (fun _ => true) true Tryd.f3.params.toList args.toList ds p := hA0
  rw [Tryd.params3] at hA hval
  obtain ⟨v0, vs0, d0, ds0, p0, q0, hargs, rfl, rfl, h0, r0⟩ := trodAll_cons hA
  obtain ⟨rfl, rfl, rfl⟩ := trodAll_nil r0
  obtain rfl : args = #[v0] := by cases args; simp_all
  obtain ⟨rfl, rfl⟩ := trodVars_none hV
  obtain ⟨a0, len0, cap0, rfl⟩ := okWide_slice Tryd.underlying22 (hval 0 22 v0 rfl rfl)
  have k0 := h0
  have lt0 : ∀ x ∈ p0, x.block < W.heap.size := by obtain ⟨m, hm⟩ := k0; exact DataW.trod_lt m _ _ _ hm
  obtain ⟨fuel0, hf0⟩ := h0
  have hg0 : DataW.trod enc Tryd.prog W 0 (fun _ => true) true fuel0 22 [.slice a0 len0 cap0] = some (d0, p0) := by simpa [Value.cells] using hf0
  have o0 := texts_open hg0
  obtain ⟨hlc0, hcm0, ss0, hn0, hs0, hz0⟩ := o0
  clear hA0
  refine (walk a0 len0 cap0 ss0 W tb hs0 hn0 (Nat.le_trans hlc0 hcm0) hz0).mono fun e W' ⟨he, bel⟩ => ?_
  subst he
  exact ⟨_, rfl, _, _, _, [], _, [], hW', trodAll_mk1 (shut_bool Tryd.underlying4 _), (trodAll_cons_mk (Below.trod laidOut (by kernel_rfl) (of_decide_eq_true (by kernel_rfl)) k0 bel lt0) trodAll_mk0), rfl, bel.frame _, fun h => by cases h⟩
theorem laid_met (os : Os) : laidMet Tryd.prog Rows.sealSumsRow.laid ((laidWorld os).forCall (fun _ _ => 0) ⟨#[], #[.slice none 0 0], []⟩).memory :=
  laidMet_of_run' 8 (by kernel_rfl) (by kernel_rfl)
theorem reads (os : Os) {H : Type} (enc : TypeId × Value → H) : ∃ places, DataW.whole enc Tryd.prog ((laidWorld os).forCall (fun _ _ => 0) ⟨#[], #[.slice none 0 0], []⟩).memory Tryd.f3.params.toList Rows.sealSumsSpec.vars false (#[.slice none 0 0] : Array Value).toList 8 = some ([.nil], [], places) :=
  ⟨[], by kernel_rfl⟩
set_option maxRecDepth 100000 in
theorem lifted (os : Os) (started : os.Started) (H : Type) (enc : TypeId × Value → H) (Fi : Stop.Interp) :
    ReturnsInHanded {} Tryd.checked os 3 .any ((OpenSpec.ofChange Rows.sealSumsSpec).preRow enc Tryd.prog Tryd.f3 Rows.sealSumsRow.domain false Rows.sealSumsRow.laid) (((OpenSpec.ofChange Rows.sealSumsSpec).at Fi).post enc Tryd.prog Tryd.f3 false true false false) := by
  obtain ⟨places, hx⟩ := reads os enc
  refine returnsInHanded_of_row (C := Tryd.checked) (s := OpenSpec.ofChange Rows.sealSumsSpec) own started (by kernel_rfl) Tryd.func3
    (witness_row_at (enc := enc) (C := Tryd.checked) false (laidWorld os) #[.slice none 0 0] rfl (by kernel_rfl) (by kernel_rfl) (by kernel_rfl)
      (OpenSpec.preRow_of_cond 8 hx (by kernel_rfl) (fun k hk => by cases hk) (by kernel_rfl) (laid_met os))) ?_
  intro W base args ds gs before hval hW _ _ _ hL _ _
  exact contract H enc W base args ds gs before hval hW hL
theorem said : Rows.SealSumsSaid :=
  OpenClaim.holds_of_cond 3 Tryd.f3 rfl rfl rfl rfl rfl rfl rfl ⟨rfl, rfl, rfl, rfl, rfl⟩ rfl rfl rfl rfl rfl (by kernel_rfl) Tryd.func3 (by kernel_rfl)
    (of_decide_eq_true (by kernel_rfl)) (by unfold Func.isWrapper; first | (rw [if_pos (by decide +kernel)]; kernel_rfl) | (rw [if_neg (by decide +kernel)]; exact ⟨rfl, rfl⟩))
    (fun os started H enc _ Fi => by rw [OpenClaim.pre_eq_preRow]; exact lifted os started H enc Fi)
theorem plain (f : FuncId) (fn : Func) (hf : Tryd.pinned.checked.prog.funcNamed "afflux/affluxlaw05.SealSums" = some f) (hfn : Tryd.pinned.checked.prog.funcs[f]? = some fn) :
    false = Tryd.pinned.checked.prog.looks [] ∧ ∀ (j : Nat) t, fn.params[j]? = some t → Tryd.pinned.checked.prog.wantsStandIn t = false := by
  obtain rfl : f = 3 := Option.some.inj ((show Tryd.prog.funcNamed "afflux/affluxlaw05.SealSums" = some 3 by kernel_rfl).symm.trans hf) |>.symm
  obtain rfl : fn = Tryd.f3 := (Option.some.inj (Tryd.func3.symm.trans hfn)).symm
  refine ⟨by kernel_rfl, fun j t ht => ?_⟩
  rw [Tryd.params3] at ht
  have hm := Array.mem_of_getElem? ht
  simp only [List.mem_toArray, List.mem_cons, List.not_mem_nil, or_false] at hm
  rcases hm with rfl
  · exact (show Tryd.prog.wantsStandIn 22 = false by kernel_rfl)
theorem proved : Rows.SealSumsCardSaid :=
  Claim7.holds_tied_plain_at .later [] _ _ _ _ said (fun _ h => by cases h) (by kernel_rfl) (fun _ h => by cases h) sealSums_row_tie rfl ⟨rfl, rfl⟩ (by kernel_rfl) rfl plain (by kernel_rfl)

end Go.Proofs.YtmmgicomidpmhaaDoor.SealSums
