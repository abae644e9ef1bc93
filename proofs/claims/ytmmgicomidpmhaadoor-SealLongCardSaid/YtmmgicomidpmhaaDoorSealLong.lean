/- SealLong: whatever number: texts of more bytes than may be aren't framed; as many as may be are. Condition: the table that the row lists holds what the program's text lays in it. -/
import Derived.Test.YtmmgicomidpmhaaDoorTur
import Derived.Test.YtmmgicomidpmhaaDoorMor
import Derived.Test.YtmmgicomidpmhaaDoorQtc
import Derived.Deep.CutBlock
import Derived.Deep.DeepCutAuto
import Derived.Deep.RegionHeld3
import Derived.Deep.OwnRows
namespace Go.Proofs.YtmmgicomidpmhaaDoor.SealLong
open Go.ChangeShapes Go.WideShapes Go.ChangeAt Go.RowKit
set_option linter.unusedVariables false
theorem made (n : Nat) (hn : n ≤ 1000000) (W : World) : (Instr.makeSlice 37 (.int .i64 n) (.int .i64 n)).run Tryd.prog W = .ok (.slice (some ⟨W.heap.size, 0, none⟩) n n) (W.alloc (.cells (madeCells #[.int .u8 0] n) 5)) :=
  run_make_row' 37 5 (.int .u8 0) 1 Tryd.underlying37/-t-/ info5 rfl .i64 .i64 n (by omega) (by omega) W
def zeros (n : Nat) : ByteArray := ⟨(List.replicate n (0 : UInt8)).toArray⟩
theorem conv (n : Nat) (W : World) (g : Nat) (h : W.heap[g]? = some (.cells (madeCells #[.int .u8 0] n) 5 (0, 0))) : (convert 37 9 (.slice (some ⟨g, 0, none⟩) n n)).run Tryd.prog W = .ok (.string (zeros n)) W := by
  have h2 := run_convert_bytes_back (P := Tryd.prog) W 37 9 5 ⟨g, 0, none⟩ n (List.replicate n (0 : UInt8)) Tryd.underlying37/-t-/ Tryd.underlying5/-t-/ Tryd.underlying9/-t-/ (fun j hj => by
    rw [addr_add, Nat.zero_add, cell_of_row W g j _ _ _ h]
    simp at hj
    simp [madeCells, hj]
    rw [Nat.mod_one]; rfl)
  simpa [zeros] using h2
theorem strs_two {w : World} {t : TypeId} {g : Nat} {a b : ByteArray} (h : Blk w g t #[.string a, .string b]) : Strs w (some ⟨g, 0, none⟩) [a, b] :=
  .inr ⟨g, 0, rfl, h.lt, fun i hi => by
    have : i = 0 ∨ i = 1 := by simp at hi; omega
    rcases this with rfl | rfl <;> (rw [h.cell]; rfl)⟩
theorem cat_two (k : Nat) : cat [zeros 65530, zeros k] = List.replicate (65530 + k) (0 : UInt8) := by
  simp only [cat, List.flatMap_cons, List.flatMap_nil, List.append_nil, zeros]
  exact List.replicate_append_replicate
theorem zeros_size (n : Nat) : (zeros n).size = n := by
  show (List.replicate n (0 : UInt8)).toArray.size = n
  rw [List.size_toArray, List.length_replicate]
theorem cat_two_len (k : Nat) : (cat [zeros 65530, zeros k]).length = 65530 + k := by rw [cat_two, List.length_replicate]
/-- One result for all worlds. -/
theorem frame_res (k : Nat) (hk : k ≤ 1000) : ∃ (F : ByteArray) (b : Bool), (6 < k → F = ⟨#[]⟩ ∧ b = false) ∧ (k ≤ 6 → (F.size : Int) = 65530 + k + 12 ∧ b = true) ∧
    ∀ (W : World) (g : Nat), Blk W g 9 #[.string (zeros 65530), .string (zeros k)] → QT W →
      Calls Tryd.prog 11/-f-/ #[.slice (some ⟨g, 0, none⟩) 2 2] W fun e w' => e = .returned (.tuple #[.string F, .bool b]) ∧ Below W.heap.size W w' := by
  have hz1 := zeros_size 65530
  have hz2 := zeros_size k
  have hl := cat_two_len k
  by_cases hk6 : 6 < k
  · exact ⟨⟨#[]⟩, false, fun _ => ⟨rfl, rfl⟩, fun h => absurd hk6 (by omega), fun W g h hT => (frame_long (some ⟨g, 0, none⟩) 2 2 _ W (strs_two h) rfl (by omega) (fun s hs => by simp only [List.mem_cons, List.not_mem_nil, or_false] at hs; rcases hs with rfl | rfl <;> omega) (by omega)).mono fun e w' ⟨h1, h2⟩ => ⟨h1, h2 ▸ Below.refl _ _⟩⟩
  · refine ⟨_, true, fun h => absurd h hk6, fun _ => ⟨?_, rfl⟩, fun W g h hT => frame_ok (some ⟨g, 0, none⟩) 2 2 _ W (strs_two h) hT rfl (by omega) (fun s hs => by simp only [List.mem_cons, List.not_mem_nil, or_false] at hs; rcases hs with rfl | rfl <;> omega) (by omega)⟩
    have : (ByteArray.mk (framed (cat [zeros 65530, zeros k])).toArray).size = (framed (cat [zeros 65530, zeros k])).length := by
      show (framed (cat [zeros 65530, zeros k])).toArray.size = _
      rw [List.size_toArray]
    rw [this, framed_len, hl]
    omega
set_option maxRecDepth 100000 in
set_option maxHeartbeats 4000000 in
theorem walk (x0 : Int) (w : World) (hT : QT w) (hx0 : 0 ≤ x0) (hx1 : x0 ≤ 255) :
    Calls Tryd.prog 4/-f-/ #[.int .u8 x0] w fun e w' => e = .returned (.bool true) ∧ Below w.heap.size w w' := by
  obtain ⟨x, rfl⟩ : ∃ x : Nat, x0 = x := ⟨x0.toNat, by omega⟩
  obtain ⟨k, hk, hk12⟩ : ∃ k : Nat, k = x % 12 ∧ k < 12 := ⟨_, rfl, Nat.mod_lt _ (by decide)⟩
  have hkv : ((x : Int).tmod 12) = (k : Int) := by rw [hk, Int.tmod_eq_emod_of_nonneg (by omega)]; rfl
  have M1 : ∀ W : World, (Instr.makeSlice 37 (.int .i64 65530) (.int .i64 65530)).run Tryd.prog W = .ok (.slice (some ⟨W.heap.size, 0, none⟩) 65530 65530) (W.alloc (.cells (madeCells #[.int .u8 0] 65530) 5)) := made 65530 (by omega)
  have M2 := made k (by omega)
  have C1 : ∀ (W : World) (g : Nat), W.heap[g]? = some (.cells (madeCells #[.int .u8 0] 65530) 5 (0, 0)) → (convert 37 9 (.slice (some ⟨g, 0, none⟩) 65530 65530)).run Tryd.prog W = .ok (.string (zeros 65530)) W := conv 65530
  have C2 := conv k
  obtain ⟨F, b, hlong, hshort, FR⟩ := frame_res k (by omega)
  obtain ⟨Z1, hZ1⟩ : ∃ Z, Z = madeCells #[.int .u8 0] 65530 := ⟨_, rfl⟩
  obtain ⟨S1, hS1⟩ : ∃ Z, Z = zeros 65530 := ⟨_, rfl⟩
  rw [← hZ1] at M1 C1
  rw [← hS1] at C1 FR
  have HZ1 := Lib.hid hZ1
  have HS1 := Lib.hid hS1
  clear hk hZ1 hS1
  generalize madeCells #[.int .u8 0] k = Z2 at *
  have hA := fun (X : Obj) => heap_alloc_new w X
  have hB := fun (X Y : Obj) => (show ((w.alloc X).alloc Y).heap[w.heap.size]? = some X from (Below.heap_alloc _ _ _ (by simp)).trans (heap_alloc_new w X))
  have hC := fun (X Y : Obj) => (show ((w.alloc X).alloc Y).heap[w.heap.size + 1]? = some Y from by have := heap_alloc_new (w.alloc X) Y; simpa using this)
  have a1 := C1 (w.alloc (.cells Z1 5)).drew w.heap.size (hA _)
  have a2 := C2 (w.alloc (.cells Z2 5)).drew w.heap.size (hA _)
  have b1 := C1 ((w.alloc (.cells Z1 5)).alloc (.cells Z2 5)).drew w.heap.size (hB _ _)
  have b2 := C2 ((w.alloc (.cells Z2 5)).alloc (.cells Z1 5)).drew w.heap.size (hB _ _)
  have c1 := C1 ((w.alloc (.cells Z2 5)).alloc (.cells Z1 5)).drew (w.heap.size + 1) (hC _ _)
  have c2 := C2 ((w.alloc (.cells Z1 5)).alloc (.cells Z2 5)).drew (w.heap.size + 1) (hC _ _)
  generalize zeros k = S2 at *
  clear hA hB hC C1 C2
  have hBk := fun (X Y : Obj) => (show Blk (((w.alloc X).alloc Y).alloc (.cells #[.string S1, .string S2] 9)).drew (w.heap.size + 1 + 1) 9 #[.string S1, .string S2] from (show Blk (((w.alloc X).alloc Y).alloc (.cells #[.string S1, .string S2] 9)) (w.heap.size + 1 + 1) 9 #[.string S1, .string S2] from by simpa using Blk.new ((w.alloc X).alloc Y) 9 #[.string S1, .string S2]))
  have hQt := fun (X Y Z : Obj) => (show QT (((w.alloc X).alloc Y).alloc Z).drew from hT.below (((((Below.refl w.heap.size w).alloc (Nat.le_refl _) X).alloc (by simp) Y).alloc (by simp; omega) Z).drew) hT.lt)
  have hBe := fun (X Y Z : Obj) => (show Below w.heap.size w (((w.alloc X).alloc Y).alloc Z).drew from (((((Below.refl w.heap.size w).alloc (Nat.le_refl _) X).alloc (by simp) Y).alloc (by simp; omega) Z).drew))
  have HB := Lib.hid hBk
  have HQ := Lib.hid hQt
  have HE := Lib.hid hBe
  have HT := Lib.hid hT
  have HL := Lib.hid hlong
  have HS := Lib.hid hshort
  have HF := Lib.hid FR
  clear hBk hQt hBe hT hlong hshort FR
  go_enter Tryd.func4/-f-/, Tryd.ntmps4/-f-/
  go_upto_region 2 with fail
  have hw1 : IntKind.i64.wrap (65530 + (k : Int) - 65530) = k := by rw [show (65530 + (k : Int) - 65530) = k from by omega]; exact IntWalk.i64_in _ (by omega)
  go_cut [4, 5] (fun v u wx => v = .string F ∧ u = .bool b ∧ Below w.heap.size w wx)
  case first =>
    go_region_with (go_at_call 11/-f-/; refine (HF.out _ _ (HB.out _ _) (HQ.out _ _ _)).mono ?_; rintro e w1 ⟨rfl, hb1⟩)
    all_goals go_wp2
    all_goals
      go_meet
      exact ⟨rfl, rfl, (HE.out _ _ _).trans (hb1.mono (by simp; omega))⟩
  case rest v u =>
    obtain ⟨rfl, rfl, hbc⟩ := hcut
    have HTc := Lib.hid (HT.out.below hbc HT.out.lt)
    clear hw1 M1 M2 a1 a2 b1 b2 c1 c2
    by_cases hk6 : 6 < k
    · obtain ⟨rfl, rfl⟩ := HL.out hk6
      go_wp2_with (go_at_call 9/-f-/; refine (awake_any _ HTc.out).mono ?_; rintro e w5 ⟨rfl, hb5⟩)
      go_ret
      exact ⟨rfl, hbc.trans (hb5.mono hbc.size)⟩
    · obtain ⟨hfz, rfl⟩ := HS.out (by omega)
      have hfe : ((F.size : Int) == 65530 + k + 12) = true := by rw [hfz]; exact beq_self_eq_true _
      clear hfz
      go_wp2_with (go_at_call 9/-f-/; refine (awake_any _ HTc.out).mono ?_; rintro e w5 ⟨rfl, hb5⟩)
      go_ret
      exact ⟨rfl, hbc.trans (hb5.mono hbc.size)⟩
theorem own : ownKnob Tryd.prog.godebug = none := by kernel_rfl
theorem laidOut : laidOutB Tryd.prog = true := by kernel_rfl
set_option maxRecDepth 100000 in
theorem contract (H : Type) (enc : TypeId × Value → H) (W : World) (base : Nat) (args : Array Value) (ds gs : List (DataW H)) (before : List MemPlace)
    (hval : ∀ (j : Nat) t v, Tryd.f4.params[j]? = some t → args[j]? = some v → Value.okWide Tryd.prog W .any base t v)
    (hW : DataW.Whole enc Tryd.prog Tryd.f4.params.toList Rows.sealLongSpec.vars false W args.toList ds gs before) (hL : laidMetH Tryd.prog Rows.sealLongRow.laid W) :
    Calls Tryd.prog 4 args W fun e W' => ∃ v, e = .returned v ∧ Rows.sealLongSpec.post enc Tryd.prog Tryd.f4 false true false false W args v W' := by
  have hW' := hW
  have tb := table hL
  obtain ⟨p, q, hA0, hV, rfl, hfz, hnd⟩ := hW
  have hA : DataW.TrodAll enc Tryd.prog W 0 (fun _ => true) true Tryd.f4.params.toList args.toList ds p := hA0
  rw [Tryd.params4] at hA hval
  obtain ⟨v0, vs0, d0, ds0, p0, q0, hargs, rfl, rfl, h0, r0⟩ := trodAll_cons hA
  obtain ⟨rfl, rfl, rfl⟩ := trodAll_nil r0
  obtain rfl : args = #[v0] := by cases args; simp_all
  obtain ⟨rfl, rfl⟩ := trodVars_none hV
  obtain ⟨a0, rfl, rfl, rfl, w0⟩ := open_int Tryd.underlying5 (hval 0 5 v0 rfl rfl) h0
  have b0 := bounds_u8 w0
  clear hA0
  refine (walk a0 W tb b0.1 b0.2).mono fun e W' ⟨he, bel⟩ => ?_
  subst he
  exact ⟨_, rfl, _, _, _, [], _, [], hW', trodAll_mk1 (shut_bool Tryd.underlying4 _), (trodAll_cons_mk (shut_int Tryd.underlying5 w0) trodAll_mk0), rfl, bel.frame _, fun h => by cases h⟩
theorem laid_met (os : Os) : laidMet Tryd.prog Rows.sealLongRow.laid ((laidWorld os).forCall (fun _ _ => 0) ⟨#[], #[.int .u8 0], []⟩).memory :=
  laidMet_of_run' 8 (by kernel_rfl) (by kernel_rfl)
theorem reads (os : Os) {H : Type} (enc : TypeId × Value → H) : ∃ places, DataW.whole enc Tryd.prog ((laidWorld os).forCall (fun _ _ => 0) ⟨#[], #[.int .u8 0], []⟩).memory Tryd.f4.params.toList Rows.sealLongSpec.vars false (#[.int .u8 0] : Array Value).toList 8 = some ([.lit (.int .u8 0)], [], places) :=
  ⟨[], by kernel_rfl⟩
set_option maxRecDepth 100000 in
theorem lifted (os : Os) (started : os.Started) (H : Type) (enc : TypeId × Value → H) (Fi : Stop.Interp) :
    ReturnsInHanded {} Tryd.checked os 4 .any ((OpenSpec.ofChange Rows.sealLongSpec).preRow enc Tryd.prog Tryd.f4 Rows.sealLongRow.domain false Rows.sealLongRow.laid) (((OpenSpec.ofChange Rows.sealLongSpec).at Fi).post enc Tryd.prog Tryd.f4 false true false false) := by
  obtain ⟨places, hx⟩ := reads os enc
  refine returnsInHanded_of_row (C := Tryd.checked) (s := OpenSpec.ofChange Rows.sealLongSpec) own started (by kernel_rfl) Tryd.func4
    (witness_row_at (enc := enc) (C := Tryd.checked) false (laidWorld os) #[.int .u8 0] rfl (by kernel_rfl) (by kernel_rfl) (by kernel_rfl)
      (OpenSpec.preRow_of_cond 8 hx (by kernel_rfl) (fun k hk => by cases hk) (by kernel_rfl) (laid_met os))) ?_
  intro W base args ds gs before hval hW _ _ _ hL _ _
  exact contract H enc W base args ds gs before hval hW hL
theorem said : Rows.SealLongSaid :=
  OpenClaim.holds_of_cond 4 Tryd.f4 rfl rfl rfl rfl rfl rfl rfl ⟨rfl, rfl, rfl, rfl, rfl⟩ rfl rfl rfl rfl rfl (by kernel_rfl) Tryd.func4 (by kernel_rfl)
    (of_decide_eq_true (by kernel_rfl)) (by unfold Func.isWrapper; first | (rw [if_pos (by decide +kernel)]; kernel_rfl) | (rw [if_neg (by decide +kernel)]; exact ⟨rfl, rfl⟩))
    (fun os started H enc _ Fi => by rw [OpenClaim.pre_eq_preRow]; exact lifted os started H enc Fi)
theorem plain (f : FuncId) (fn : Func) (hf : Tryd.pinned.checked.prog.funcNamed "afflux/affluxlaw05.SealLong" = some f) (hfn : Tryd.pinned.checked.prog.funcs[f]? = some fn) :
    false = Tryd.pinned.checked.prog.looks [] ∧ ∀ (j : Nat) t, fn.params[j]? = some t → Tryd.pinned.checked.prog.wantsStandIn t = false := by
  obtain rfl : f = 4 := Option.some.inj ((show Tryd.prog.funcNamed "afflux/affluxlaw05.SealLong" = some 4 by kernel_rfl).symm.trans hf) |>.symm
  obtain rfl : fn = Tryd.f4 := (Option.some.inj (Tryd.func4.symm.trans hfn)).symm
  refine ⟨by kernel_rfl, fun j t ht => ?_⟩
  rw [Tryd.params4] at ht
  have hm := Array.mem_of_getElem? ht
  simp only [List.mem_toArray, List.mem_cons, List.not_mem_nil, or_false] at hm
  rcases hm with rfl
  · exact (show Tryd.prog.wantsStandIn 5 = false by kernel_rfl)
theorem proved : Rows.SealLongCardSaid :=
  Claim7.holds_tied_plain_at .later [] _ _ _ _ said (fun _ h => by cases h) (by kernel_rfl) (fun _ h => by cases h) sealLong_row_tie rfl ⟨rfl, rfl⟩ (by kernel_rfl) rfl plain (by kernel_rfl)

end Go.Proofs.YtmmgicomidpmhaaDoor.SealLong
