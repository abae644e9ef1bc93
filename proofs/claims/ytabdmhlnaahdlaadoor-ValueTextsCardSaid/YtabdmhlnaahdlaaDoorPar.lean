/- Contracts of package value: the value of a print. -/
import Derived.Test.YtabdmhlnaahdlaaDoorKpr
import Derived.Laws.DeepStrings4
namespace Go.Proofs.YtabdmhlnaahdlaaDoor
open Go.ChangeShapes Go.WideShapes Go.ChangeAt Go.RowKit
abbrev sTrue : ByteArray := ⟨#[116, 114, 117, 101]⟩
abbrev sFalse : ByteArray := ⟨#[102, 97, 108, 115, 101]⟩
/-- The value that a text may be the print of. -/
def readV (s : ByteArray) : Val :=
  if s = sTrue then ⟨3, 1, ⟨#[]⟩⟩ else if s = sFalse then ⟨3, 0, ⟨#[]⟩⟩
  else if 2 ≤ s.size ∧ s.data.toList.head? = some 39 then ⟨2, 0, ⟨(und (s.extract 1 (s.size - 1)).data.toList).toArray⟩⟩
  else if parseE s.data.toList = 0 then ⟨1, parseV s.data.toList, ⟨#[]⟩⟩ else ⟨0, 0, ⟨#[]⟩⟩
theorem str_ne {s : ByteArray} (l : List UInt8) (h : ¬ s = ⟨l.toArray⟩) : (s.toList == l) = false :=
  beq_eq_false_iff_ne.2 (by rw [ByteArray.toList_eq]; intro h2; exact h (ByteArray.ext (by rw [← h2])))
structure Res (w w1 : World) : Prop where
  below : Below w.heap.size w w1
  blk : Blk w1 w.heap.size 35/-t-/ #[.int .i64 0, .int .i64 0, .string ⟨#[]⟩]
theorem Res.of {w w1 : World} (h : Below (w.alloc (.cells #[.int .i64 0, .int .i64 0, .string ⟨#[]⟩] 35/-t-/)).heap.size (w.alloc (.cells #[.int .i64 0, .int .i64 0, .string ⟨#[]⟩] 35/-t-/)) w1) : Res w w1 :=
  ⟨((Below.refl _ _).alloc (Nat.le_refl _) _).trans (h.mono (by simp)), (Blk.new w _ _).below h (by simp)⟩
theorem Res.more {w w1 w2 : World} (h : Res w w1) (hb : Below w1.heap.size w1 w2) : Res w w2 :=
  ⟨h.below.trans (hb.mono h.below.size), h.blk.below hb h.blk.lt⟩
theorem Res.end_ {w w1 : World} (h : Res w w1) (a b c : Value) : Below w.heap.size w (((w1.setCell ⟨w.heap.size, 0, none⟩ a).setCell ⟨w.heap.size, 1, none⟩ b).setCell ⟨w.heap.size, 2, none⟩ c) :=
  ((h.below.setCell (Nat.le_refl _) _).setCell (Nat.le_refl _) _).setCell (Nat.le_refl _) _
set_option maxRecDepth 100000 in
set_option maxHeartbeats 8000000 in
theorem read_any (s : ByteArray) (w : World) (hT : PT w) (hs : s.size ≤ 1000000) :
    Calls Tryd.prog 62/-f-/ #[.string s] w fun e w' => e = .returned (.agg #[.int .i64 (readV s).k, .int .i64 (readV s).n, .string (readV s).s]) ∧ Below w.heap.size w w' := by
  have HT := Lib.hid hT
  clear hT
  by_cases h1 : s = sTrue
  · have HV := Lib.hid (show readV s = ⟨3, 1, ⟨#[]⟩⟩ from by unfold readV; rw [if_pos h1])
    rw [HV.out]
    clear HV
    subst h1
    go_enter Tryd.func62/-f-/, Tryd.ntmps62/-f-/
    go_wp2_with (go_at_call 26/-f-/; (with_reducible refine (bool_any true _).mono ?_); rintro e w1 ⟨rfl, hb1⟩; have HR := Lib.hid (Res.of hb1); have q0 := HR.out.blk.cell 0; have q1 := HR.out.blk.cell 1; have q2 := HR.out.blk.cell 2; have f0 := HR.out.blk.frozen 0; have f1 := HR.out.blk.frozen 1; have f2 := HR.out.blk.frozen 2; have hz := HR.out.blk.lt; simp at q0 q1 q2; clear hb1)
    refine bodyPost_ret (v := .agg #[.int .i64 3, .int .i64 1, .string ⟨#[]⟩]) (by simp [results, Tryd.results62/-f-/, go_sem, q0, q1, q2, hz]) rfl ⟨rfl, HR.out.end_ _ _ _⟩
  have HV1 := Lib.hid h1
  have n1 := str_ne [116, 114, 117, 101] h1
  clear h1
  by_cases h2 : s = sFalse
  · have HV := Lib.hid (show readV s = ⟨3, 0, ⟨#[]⟩⟩ from by unfold readV; rw [if_neg HV1.out, if_pos h2])
    rw [HV.out]
    clear HV n1 HV1
    subst h2
    go_enter Tryd.func62/-f-/, Tryd.ntmps62/-f-/
    go_wp2_with (go_at_call 26/-f-/; (with_reducible refine (bool_any false _).mono ?_); rintro e w1 ⟨rfl, hb1⟩; have HR := Lib.hid (Res.of hb1); have q0 := HR.out.blk.cell 0; have q1 := HR.out.blk.cell 1; have q2 := HR.out.blk.cell 2; have f0 := HR.out.blk.frozen 0; have f1 := HR.out.blk.frozen 1; have f2 := HR.out.blk.frozen 2; have hz := HR.out.blk.lt; simp at q0 q1 q2; clear hb1)
    refine bodyPost_ret (v := .agg #[.int .i64 3, .int .i64 0, .string ⟨#[]⟩]) (by simp [results, Tryd.results62/-f-/, go_sem, q0, q1, q2, hz]) rfl ⟨rfl, HR.out.end_ _ _ _⟩
  have HV2 := Lib.hid h2
  have n2 := str_ne [102, 97, 108, 115, 101] h2
  clear h2
  by_cases h2z : 2 ≤ s.size
  · have hd : s.data.toList.head? = some s[0] := by
      have h9 : s.data.toList[0]? = some s[0] := by rw [List.getElem?_eq_getElem (by simp; omega)]; rfl
      rw [List.head?_eq_getElem?]; exact h9
    by_cases h39 : s[0] = 39
    · have hb0 : ((s[0].toNat : Int) == 39) = true := by rw [h39]; rfl
      have HV := Lib.hid (show readV s = ⟨2, 0, ⟨(und (s.extract 1 (s.size - 1)).data.toList).toArray⟩⟩ from by unfold readV; rw [if_neg HV1.out, if_neg HV2.out, if_pos ⟨h2z, by rw [hd, h39]⟩])
      rw [HV.out]
      have UA := Lib.hid (fun W (h : PT W) => und_any (s.extract 1 (s.size - 1)) W h (by simp; omega))
      clear HV hd h39
      generalize (⟨(und (s.extract 1 (s.size - 1)).data.toList).toArray⟩ : ByteArray) = U at *
      have k1 : (0 : Int) ≤ 1 := by omega
      have k2 : (1 : Int) ≤ (s.size : Int) - 1 := by omega
      have k3 : (s.size : Int) - 1 ≤ s.size := by omega
      have k4 : ((s.size : Int) - 1).toNat = s.size - 1 := by omega
      go_enter Tryd.func62/-f-/, Tryd.ntmps62/-f-/
      go_wp2_with (first | (go_at_call 61/-f-/; (with_reducible refine (UA.out _ (HT.out.below ((Below.refl _ _).alloc (Nat.le_refl _) _) (Nat.le_refl _))).mono ?_); rintro e w0 ⟨rfl, hb0'⟩; have HB0 := Lib.hid hb0'; clear hb0') | (go_at_call 25/-f-/; (with_reducible refine (text_any _ _).mono ?_); rintro e w1 ⟨rfl, hb1'⟩; have hb1 := HB0.out.trans (hb1'.mono HB0.out.size); clear hb1'; have HR := Lib.hid (Res.of hb1); have q0 := HR.out.blk.cell 0; have q1 := HR.out.blk.cell 1; have q2 := HR.out.blk.cell 2; have f0 := HR.out.blk.frozen 0; have f1 := HR.out.blk.frozen 1; have f2 := HR.out.blk.frozen 2; have hz := HR.out.blk.lt; simp at q0 q1 q2; clear hb1))
      exact bodyPost_ret (v := .agg #[.int .i64 2, .int .i64 0, .string U]) (by simp [results, Tryd.results62/-f-/, go_sem, q0, q1, q2, hz]) rfl ⟨rfl, HR.out.end_ _ _ _⟩
    have hb0 : ((s[0].toNat : Int) == 39) = false := beq_eq_false_iff_ne.2 (fun h => h39 (UInt8.toNat_inj.1 (by show s[0].toNat = 39; omega)))
    have HC := Lib.hid (show ¬ (2 ≤ s.size ∧ s.data.toList.head? = some 39) from fun h => by
      rw [hd] at h; exact h39 (Option.some.inj h.2))
    clear hd h39
    have PA := Lib.hid (fun W => parse_any s W (by omega))
    by_cases he : parseE s.data.toList = 0
    · have HV := Lib.hid (show readV s = ⟨1, parseV s.data.toList, ⟨#[]⟩⟩ from by unfold readV; rw [if_neg HV1.out, if_neg HV2.out, if_neg HC.out, if_pos he])
      rw [HV.out]
      rw [he] at PA
      clear HV he
      generalize parseV s.data.toList = pv at *
      go_enter Tryd.func62/-f-/, Tryd.ntmps62/-f-/
      go_wp2_with (first | (go_at_call 12/-f-/; (with_reducible refine (PA.out _).mono ?_); rintro e w0 ⟨rfl, rfl⟩) | (go_at_call 24/-f-/; (with_reducible refine (int_any _ _).mono ?_); rintro e w1 ⟨rfl, hb1⟩; have HR := Lib.hid (Res.of hb1); have q0 := HR.out.blk.cell 0; have q1 := HR.out.blk.cell 1; have q2 := HR.out.blk.cell 2; have f0 := HR.out.blk.frozen 0; have f1 := HR.out.blk.frozen 1; have f2 := HR.out.blk.frozen 2; have hz := HR.out.blk.lt; simp at q0 q1 q2; clear hb1))
      exact bodyPost_ret (v := .agg #[.int .i64 1, .int .i64 pv, .string ⟨#[]⟩]) (by simp [results, Tryd.results62/-f-/, go_sem, q0, q1, q2, hz]) rfl ⟨rfl, HR.out.end_ _ _ _⟩
    · have HV := Lib.hid (show readV s = ⟨0, 0, ⟨#[]⟩⟩ from by unfold readV; rw [if_neg HV1.out, if_neg HV2.out, if_neg HC.out, if_neg he])
      rw [HV.out]
      have he2 : (parseE s.data.toList == 0) = false := beq_eq_false_iff_ne.2 he
      clear HV he
      generalize parseV s.data.toList = pv at *
      generalize parseE s.data.toList = pe at *
      go_enter Tryd.func62/-f-/, Tryd.ntmps62/-f-/
      go_wp2_with (go_at_call 12/-f-/; (with_reducible refine (PA.out _).mono ?_); rintro e w0 ⟨rfl, rfl⟩)
      refine bodyPost_ret (v := .agg #[.int .i64 0, .int .i64 0, .string ⟨#[]⟩]) (by simp [results, Tryd.results62/-f-/, go_sem]) rfl ⟨rfl, ?_⟩
      repeat (first | exact Below.refl _ _ | (refine Below.setCell ?_ (by simp) _) | (refine Below.alloc ?_ (by simp) _))
  · have HC := Lib.hid (show ¬ (2 ≤ s.size ∧ s.data.toList.head? = some 39) from fun h => h2z h.1)
    have PA := Lib.hid (fun W => parse_any s W (by omega))
    by_cases he : parseE s.data.toList = 0
    · have HV := Lib.hid (show readV s = ⟨1, parseV s.data.toList, ⟨#[]⟩⟩ from by unfold readV; rw [if_neg HV1.out, if_neg HV2.out, if_neg HC.out, if_pos he])
      rw [HV.out]
      rw [he] at PA
      clear HV he
      generalize parseV s.data.toList = pv at *
      go_enter Tryd.func62/-f-/, Tryd.ntmps62/-f-/
      go_wp2_with (first | (go_at_call 12/-f-/; (with_reducible refine (PA.out _).mono ?_); rintro e w0 ⟨rfl, rfl⟩) | (go_at_call 24/-f-/; (with_reducible refine (int_any _ _).mono ?_); rintro e w1 ⟨rfl, hb1⟩; have HR := Lib.hid (Res.of hb1); have q0 := HR.out.blk.cell 0; have q1 := HR.out.blk.cell 1; have q2 := HR.out.blk.cell 2; have f0 := HR.out.blk.frozen 0; have f1 := HR.out.blk.frozen 1; have f2 := HR.out.blk.frozen 2; have hz := HR.out.blk.lt; simp at q0 q1 q2; clear hb1))
      exact bodyPost_ret (v := .agg #[.int .i64 1, .int .i64 pv, .string ⟨#[]⟩]) (by simp [results, Tryd.results62/-f-/, go_sem, q0, q1, q2, hz]) rfl ⟨rfl, HR.out.end_ _ _ _⟩
    · have HV := Lib.hid (show readV s = ⟨0, 0, ⟨#[]⟩⟩ from by unfold readV; rw [if_neg HV1.out, if_neg HV2.out, if_neg HC.out, if_neg he])
      rw [HV.out]
      have he2 : (parseE s.data.toList == 0) = false := beq_eq_false_iff_ne.2 he
      clear HV he
      generalize parseV s.data.toList = pv at *
      generalize parseE s.data.toList = pe at *
      go_enter Tryd.func62/-f-/, Tryd.ntmps62/-f-/
      go_wp2_with (go_at_call 12/-f-/; (with_reducible refine (PA.out _).mono ?_); rintro e w0 ⟨rfl, rfl⟩)
      refine bodyPost_ret (v := .agg #[.int .i64 0, .int .i64 0, .string ⟨#[]⟩]) (by simp [results, Tryd.results62/-f-/, go_sem]) rfl ⟨rfl, ?_⟩
      repeat (first | exact Below.refl _ _ | (refine Below.setCell ?_ (by simp) _) | (refine Below.alloc ?_ (by simp) _))
end Go.Proofs.YtabdmhlnaahdlaaDoor
