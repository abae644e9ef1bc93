/- Files by their names: plain mathematics. -/
import Derived.Test.YtlhfamdandpkgaaDsa
namespace Go.Proofs.Ytlhfamdandpkgaa
open Go.ChangeShapes Go.WideShapes Go.ChangeAt Go.RowKit Go.Maps
theorem sorted_unique {l l' : List (List UInt8)} (h1 : l.Pairwise (fun a b => leB a b = true)) (h2 : l'.Pairwise (fun a b => leB a b = true)) (n1 : l.Nodup) (n2 : l'.Nodup) (hm : ∀ x, x ∈ l ↔ x ∈ l') : l = l' := by
  refine List.Perm.eq_of_pairwise (le := fun a b => leB a b = true) (fun a b _ _ h1 h2 => ?_) h1 h2 ((List.perm_ext_iff_of_nodup n1 n2).2 hm)
  simp only [leB, decide_eq_true_eq] at h1 h2
  exact List.le_antisymm h1 h2
def fget (fl : List FRec) (nm : List UInt8) : Option FRec := fl.find? (fun f => decide (f.nm = nm))
def setF (fl : List FRec) (f : FRec) : List FRec := fl.map (fun x => if x.nm = f.nm then f else x)
def insF (fl : List FRec) (f : FRec) : List FRec := (f :: fl).mergeSort (fun a b => leB a.nm b.nm)
def dropF (fl : List FRec) (nm : List UInt8) : List FRec := fl.filter (fun x => decide (x.nm ≠ nm))
def usedF (fl : List FRec) : Nat := (fl.map fun f => f.dat.length).sum
theorem fget_some {fl : List FRec} {nm : List UInt8} {f : FRec} (h : fget fl nm = some f) : f ∈ fl ∧ f.nm = nm := by
  unfold fget at h
  exact ⟨List.mem_of_find?_eq_some h, by simpa using List.find?_some h⟩
theorem fget_none {fl : List FRec} {nm : List UInt8} : fget fl nm = none ↔ nm ∉ fl.map FRec.nm := by
  unfold fget
  rw [List.find?_eq_none]
  simp
theorem setF_nms (fl : List FRec) (f : FRec) : (setF fl f).map FRec.nm = fl.map FRec.nm := by
  unfold setF
  rw [List.map_map]
  apply List.map_congr_left
  intro x _
  by_cases h : x.nm = f.nm
  · simp [h]
  · simp [h]
theorem mem_setF {fl : List FRec} {f x : FRec} (h : x ∈ setF fl f) : x = f ∨ (x ∈ fl ∧ x.nm ≠ f.nm) := by
  unfold setF at h
  obtain ⟨y, hy, rfl⟩ := List.mem_map.1 h
  by_cases h : y.nm = f.nm
  · rw [if_pos h]; exact .inl rfl
  · rw [if_neg h]; exact .inr ⟨hy, h⟩
theorem mem_insF {fl : List FRec} {f x : FRec} : x ∈ insF fl f ↔ x = f ∨ x ∈ fl := by
  unfold insF
  rw [(List.mergeSort_perm (f :: fl) (fun a b => leB a.nm b.nm)).mem_iff]; simp
theorem insF_len (fl : List FRec) (f : FRec) : (insF fl f).length = fl.length + 1 := by unfold insF; rw [List.length_mergeSort]; rfl
theorem insF_sorted (fl : List FRec) (f : FRec) : ((insF fl f).map FRec.nm).Pairwise (fun a b => leB a b = true) :=
  List.pairwise_map.2 (List.pairwise_mergeSort (fun a b c => leB_tr a.nm b.nm c.nm) (fun a b => leB_to a.nm b.nm) (f :: fl))
theorem insF_nodup {fl : List FRec} {f : FRec} (h : (fl.map FRec.nm).Nodup) (hn : f.nm ∉ fl.map FRec.nm) : ((insF fl f).map FRec.nm).Nodup := by
  have hp := (List.mergeSort_perm (f :: fl) (fun a b => leB a.nm b.nm)).map FRec.nm
  refine hp.nodup_iff.2 ?_
  rw [List.map_cons]
  exact List.nodup_cons.2 ⟨hn, h⟩
theorem mem_dropF {fl : List FRec} {nm : List UInt8} {x : FRec} : x ∈ dropF fl nm ↔ x ∈ fl ∧ x.nm ≠ nm := by simp [dropF]
theorem dropF_nms (fl : List FRec) (nm : List UInt8) : (dropF fl nm).map FRec.nm = (fl.map FRec.nm).filter (fun x => decide (x ≠ nm)) := by
  unfold dropF
  rw [List.filter_map]; rfl
theorem fget_setF_same {fl : List FRec} {f : FRec} (h : f.nm ∈ fl.map FRec.nm) : fget (setF fl f) f.nm = some f := by
  unfold fget setF
  induction fl with
  | nil => cases h
  | cons y t ih =>
    rw [List.map_cons, List.find?_cons]
    by_cases hy : y.nm = f.nm
    · simp [hy]
    · simp only [if_neg hy, decide_eq_false hy]
      rw [List.map_cons, List.mem_cons] at h
      exact ih (h.resolve_left (fun e => hy e.symm))
theorem sum_perm {l l' : List Nat} (h : l.Perm l') : l.sum = l'.sum := h.sum_nat
theorem usedF_insF (fl : List FRec) (f : FRec) : usedF (insF fl f) = usedF fl + f.dat.length := by
  unfold usedF insF
  rw [sum_perm ((List.mergeSort_perm (f :: fl) (fun a b => leB a.nm b.nm)).map fun f => f.dat.length)]
  simp; omega
end Go.Proofs.Ytlhfamdandpkgaa
