/- The document's answers for package seal: eight bytes of a sum; a frame. -/
import Derived.Test.YtmmgicomidpmhaaDoorRef
namespace Go.Proofs.YtmmgicomidpmhaaDoor
open Go.ChangeShapes Go.WideShapes Go.ChangeAt Go.RowKit
theorem le8_take (z k : Nat) (h : k < 8) : (le8 z).take (k + 1) = (le8 z).take k ++ [UInt8.ofNat (z / 256 ^ k)] := by
  rw [List.take_succ_eq_append_getElem (by rw [le8_len]; exact h)]
  simp [le8]
theorem bytes_eq {a b : ByteArray} (h : a.data.toList = b.data.toList) : a = b := ByteArray.ext (Array.toList_inj.1 h)
set_option maxHeartbeats 4000000 in
theorem eight_any (z : Nat) (w : World) (hz : z < 18446744073709551616) :
    Calls Tryd.prog 22 #[.int .u64 z] w fun e w' => e = .returned (.string ⟨(le8 z).toArray⟩) ∧ Below w.heap.size w w' := by
  obtain ⟨i0, hi, hz0, hz1, hz2⟩ := info_parts info5
  go_enter Tryd.func22, Tryd.ntmps22
  go_wp2
  go_loopw [0, 3, 4] (fun n v i wr => ∃ k : Nat, k ≤ 8 ∧ i = .int .i64 k ∧ n = .int .u64 (z / 256 ^ k : Nat) ∧ Below w.heap.size w wr ∧ Row8 wr w.heap.size v ((le8 z).take k)) (fun _ _ i _ => 8 - (intOf i).toNat)
  case atStart => exact ⟨0, Nat.zero_le _, rfl, by simp, Below.refl _ _, World.ownsRow_nil _ _ _ _⟩
  case round =>
    obtain ⟨k, hk, rfl, rfl, hbl, hrow⟩ := hrel
    have hsz := hbl.size
    have HROW := Lib.hid hrow
    clear hrow
    by_cases hlt : k < 8
    · have HT := Lib.hid (le8_take z k hlt)
      have hlen : ((le8 z).take k).length = k := by rw [List.length_take, le8_len]; omega
      have HL := Lib.hid hlen
      have hq : z / 256 ^ k < 18446744073709551616 := Nat.lt_of_le_of_lt (Nat.div_le_self _ _) hz
      have HD := Lib.hid (show z / 256 ^ (k + 1) = z / 256 ^ k / 256 from by rw [Nat.pow_succ, Nat.div_div_eq_div_mul])
      clear hlen
      generalize z / 256 ^ k = y at *
      go_wp2_with (at_builtin; refine wpList_append_src _ rfl _ _ 37 rfl w.heap.size 5 i0 (.int .u8 0) 1 1 Tryd.underlying37 hi hz0 hz1 hz2 rfl (by decide) u3 _ _ rfl (World.ownsRow.alloc HROW.out _) (some ⟨wr.heap.size, 0, none⟩) 1 1 [_] rfl (Src.one _ _ _ rfl) (by unfold maxLen; rw [HL.out]; omega) (by rw [HL.out]; omega) (by simp; omega) ?_; intro v' w2 hown2 hgr2 hnew2; have HO2 := Lib.hid hown2; have HG2 := Lib.hid hgr2; clear hown2 hgr2 hnew2)
      go_roundw
      case rel =>
        refine ⟨k + 1, by omega, by go_num, by rw [HD.out]; rfl, (hbl.alloc hsz _).grown HG2.out (by simp; omega) (fun g h => (HROW.out.lt g h).1), ?_⟩
        exact row8_step (x := UInt8.ofNat y) HO2.out rfl rfl (by rw [UInt8.toNat_ofNat']; omega) HT.out
      case measure => simp [intOf]; omega
    · have hk8 : k = 8 := by omega
      subst hk8
      have HE := Lib.hid (show Row8 wr w.heap.size u3 (le8 z) from HROW.out)
      have CV := HE.out.conv (by rw [le8_len]; omega)
      generalize hl8 : le8 z = l8 at *
      have HL8 := Lib.hid hl8
      clear hl8 hsz
      go_wp2
      go_ret
      exact ⟨by rw [HL8.out]; rfl, hbl⟩
set_option maxHeartbeats 4000000 in
theorem refframe_any (s : ByteArray) (w : World) (hs : s.size ≤ 900000) :
    Calls Tryd.prog 15 #[.string s] w fun e w' => e = .returned (.string ⟨(framed s.data.toList).toArray⟩) ∧ Below w.heap.size w w' := by
  have hsl : s.data.toList.length = s.size := by simp
  generalize hm : s.size = m at *
  have HM := Lib.hid hm
  have CV : (convert 37 9 (.slice (some ⟨w.heap.size, 0, none⟩) 4 4)).run Tryd.prog (w.alloc (.cells #[.int .u8 (m / 16777216), .int .u8 (m / 65536 % 256), .int .u8 (m / 256 % 256), .int .u8 (m % 256)] 5)) = .ok (.string ⟨(be4 m).toArray⟩) (w.alloc (.cells #[.int .u8 (m / 16777216), .int .u8 (m / 65536 % 256), .int .u8 (m / 256 % 256), .int .u8 (m % 256)] 5)) :=
    run_convert_bytes_back (P := Tryd.prog) _ 37 9 5 ⟨w.heap.size, 0, none⟩ 4 (be4 m) Tryd.underlying37 Tryd.underlying5 Tryd.underlying9 (fun j hj => by
      have hj4 : j = 0 ∨ j = 1 ∨ j = 2 ∨ j = 3 := by simp [be4] at hj; omega
      rw [addr_add, Nat.zero_add, (Blk.new w 5 _).cell j]
      rcases hj4 with rfl | rfl | rfl | rfl <;> simp [be4] <;> omega)
  have h4 : (ByteArray.mk (be4 m).toArray).size = 4 := rfl
  have H4 := Lib.hid (show (ByteArray.mk (be4 m).toArray).data.toList = be4 m from rfl)
  generalize (ByteArray.mk (be4 m).toArray) = S4 at *
  have hT : (S4 ++ s).data.toList = headed s.data.toList := by
    unfold headed; rw [hsl, ← H4.out]; simp
  have hTs : (S4 ++ s).size = 4 + m := by rw [ByteArray.size_append, h4, hm]
  have RS := Lib.hid (fun W => refsum_any (S4 ++ s) W (by rw [hTs]; omega))
  rw [hT] at RS
  have HTT := Lib.hid hT
  have HSL := Lib.hid hsl
  have EI := Lib.hid (fun W => eight_any (Crc.sum (headed s.data.toList)) W (Crc.sum_lt _))
  have HE8 := Lib.hid (show (ByteArray.mk (le8 (Crc.sum (headed s.data.toList))).toArray).data.toList = le8 (Crc.sum (headed s.data.toList)) from rfl)
  have h8 : (ByteArray.mk (le8 (Crc.sum (headed s.data.toList))).toArray).size = 8 := by simp [ByteArray.size, le8_len]
  generalize (ByteArray.mk (le8 (Crc.sum (headed s.data.toList))).toArray) = S8 at *
  generalize hsm : Crc.sum (headed s.data.toList) = sm at *
  have HSM := Lib.hid hsm
  clear hsl hT hsm
  go_enter Tryd.func15, Tryd.ntmps15
  go_wp2_with (first | (go_at_call 13; refine (RS.out _).mono ?_; rintro e w1 ⟨rfl, rfl⟩) | (go_at_call 22; refine (EI.out _).mono ?_; rintro e w2 ⟨rfl, hb2⟩))
  go_ret
  refine ⟨congrArg (fun t => Ending.returned (.string t)) (bytes_eq ?_), ((Below.refl _ _).alloc (Nat.le_refl _) _).trans (hb2.mono (by simp))⟩
  show (S4 ++ s ++ S8).data.toList = framed s.data.toList
  rw [show (S4 ++ s ++ S8).data.toList = (S4 ++ s).data.toList ++ S8.data.toList from by simp, HTT.out, HE8.out]
  unfold framed
  rw [HSM.out]
theorem le_le8 (z : Nat) (hz : z < 18446744073709551616) : Crc.le (le8 z) = z := by
  have h : le8 z = [UInt8.ofNat (z / 256 ^ 0), UInt8.ofNat (z / 256 ^ 1), UInt8.ofNat (z / 256 ^ 2), UInt8.ofNat (z / 256 ^ 3), UInt8.ofNat (z / 256 ^ 4), UInt8.ofNat (z / 256 ^ 5), UInt8.ofNat (z / 256 ^ 6), UInt8.ofNat (z / 256 ^ 7)] := rfl
  rw [h]
  simp only [Crc.le_add, show Crc.le [] = 0 from rfl, UInt8.toNat_ofNat']
  omega
theorem be4_bev (a b c d : UInt8) : be4 (bev [a, b, c, d]) = [a, b, c, d] := by
  have h1 : a.toNat < 256 := a.toNat_lt
  have h2 : b.toNat < 256 := b.toNat_lt
  have h3 : c.toNat < 256 := c.toNat_lt
  have h4 : d.toNat < 256 := d.toNat_lt
  have hb : bev [a, b, c, d] = 16777216 * a.toNat + 65536 * b.toNat + 256 * c.toNat + d.toNat := by simp [bev]; omega
  rw [hb]
  unfold be4
  have e : ∀ (x : UInt8) (n : Nat), n % 256 = x.toNat → UInt8.ofNat n = x := fun x n h => UInt8.toNat_inj.1 (by rw [UInt8.toNat_ofNat']; exact h)
  rw [e a _ (by omega), e b _ (by omega), e c _ (by omega), e d _ (by omega)]
theorem be4_take (l : List UInt8) (h : 4 ≤ l.length) : be4 (bev (l.take 4)) = l.take 4 ∧ ∃ a b c d, l.take 4 = [a, b, c, d] ∧ l[0]? = some a ∧ l[1]? = some b ∧ l[2]? = some c ∧ l[3]? = some d := by
  match l, h with
  | a :: b :: c :: d :: r, _ => exact ⟨be4_bev a b c d, a, b, c, d, rfl, rfl, rfl, rfl, rfl⟩
theorem take_split (l : List UInt8) (a b : Nat) : l.take (a + b) = l.take a ++ (l.drop a).take b := by
  rw [List.take_add]
theorem headed_take (l : List UInt8) (h : 4 ≤ l.length) (hl : bev (l.take 4) + 12 ≤ l.length) : headed ((l.drop 4).take (bev (l.take 4))) = l.take (4 + bev (l.take 4)) := by
  unfold headed
  rw [List.length_take, List.length_drop, Nat.min_eq_left (by omega), (be4_take l h).1, take_split]
theorem framed_iff (l : List UInt8) (h : 4 ≤ l.length) (hl : bev (l.take 4) + 12 ≤ l.length) :
    framed ((l.drop 4).take (bev (l.take 4))) = l.take (bev (l.take 4) + 12) ↔ Crc.le ((l.drop (4 + bev (l.take 4))).take 8) = Crc.sum (l.take (4 + bev (l.take 4))) := by
  unfold framed
  rw [headed_take l h hl, show bev (l.take 4) + 12 = (4 + bev (l.take 4)) + 8 from by omega, take_split l (4 + bev (l.take 4)) 8]
  generalize l.take (4 + bev (l.take 4)) = x
  have hd : ((l.drop (4 + bev (l.take 4))).take 8).length = 8 := by rw [List.length_take, List.length_drop]; omega
  generalize (l.drop (4 + bev (l.take 4))).take 8 = y at *
  rw [List.append_cancel_left_eq]
  constructor
  · intro e; rw [← e, le_le8 _ (Crc.sum_lt _)]
  · intro e
    refine Crc.le_inj (by rw [le8_len, hd]) ?_
    rw [le_le8 _ (Crc.sum_lt _), e]
end Go.Proofs.YtmmgicomidpmhaaDoor
