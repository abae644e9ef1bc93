/- Maps from strings to pointers: how they read; look-up, store, delete, length, range, told by a function of names. -/
import Derived.Test.YtlhfamdandpkgaaOff
import Derived.Maps.OwnSet
import Derived.Maps.OwnOps
import Derived.Maps.RangeWalk
import Derived.Sort.KeysCollected
import Derived.Sort.OwnSorted
namespace Go.Proofs.Ytlhfamdandpkgaa
open Go.ChangeShapes Go.WideShapes Go.ChangeAt Go.RowKit Go.Maps
/-- A pointer as an element of a map. -/
def Rp (v : Value) : Option (DataW Unit × List MemPlace) := match v with
  | .pointer none => some (.nil, [])
  | .pointer (some ⟨g, 0, none⟩) => some (.lit (.int .i64 g), [])
  | _ => none
/-- The block that a name leads to. -/
def fAt (D : DataW Unit) (nm : List UInt8) : Option Nat := match D.atKey (.string nm) .nil with
  | .lit (.int _ z) => some z.toNat
  | _ => none
def pVal : Option Nat → Value
  | some g => .pointer (some ⟨g, 0, none⟩)
  | none => .pointer none
theorem Rp_pVal (g : Nat) : Rp (pVal (some g)) = some (.lit (.int .i64 g), []) := rfl
theorem Rp_inv {v : Value} {y : DataW Unit × List MemPlace} (h : Rp v = some y) : (v = pVal none ∧ y = (.nil, [])) ∨ ∃ g : Nat, v = pVal (some g) ∧ y = (.lit (.int .i64 g), []) := by
  unfold Rp at h
  split at h
  · exact .inl ⟨rfl, (Option.some.inj h).symm⟩
  · rename_i g; exact .inr ⟨g, rfl, (Option.some.inj h).symm⟩
  · cases h
theorem fAt_val {D : DataW Unit} {nm : List UInt8} {v : Value} {ps : List MemPlace} (h : Rp v = some (D.atKey (.string nm) .nil, ps)) : v = pVal (fAt D nm) := by
  unfold fAt
  rcases Rp_inv h with ⟨rfl, h2⟩ | ⟨g, rfl, h2⟩
  · rw [(Prod.mk.inj h2).1]
  · rw [(Prod.mk.inj h2).1]; simp
section
variable {P : Program} {k e t : TypeId} {w : World} {b n : Nat} {D : DataW Unit}
theorem key_str (hk : P.underlying k = some .string) (s : ByteArray) (hs : s.size ≤ maxLen) : keyOf P k (.string s) = some (.string s.data.toList) := by
  simp [keyOf, hk, mapKey, hs]
theorem ptr_look (h : w.ownsMap P k Rp b n D) (hk : P.underlying k = some .string) (ht : P.underlying t = some (.map k e)) (hz : (zeroValue e).run P w = .ok (.pointer none) w) (s : ByteArray) (hs : s.size ≤ maxLen) :
    (Instr.lookup t (.map (some b)) (.string s) false).run P w = .ok (pVal (fAt D s.data.toList)) w := by
  obtain ⟨v, ps, hrun, hv⟩ := h.lookup (string_keyed hk) ht hz (z := .pointer none) (zd := .nil) (zp := []) rfl (key_str hk s hs)
  rw [hrun, fAt_val hv]
theorem isKey_str (nm : List UInt8) : WideAt.IsKeyLit (.string nm) := by first | exact trivial | (unfold WideAt.IsKeyLit; trivial) | simp [WideAt.IsKeyLit]
theorem fAt_put (hD : IsMap D) (nm nm' : List UInt8) (g : Nat) : fAt (D.put (.string nm) (.lit (.int .i64 g))) nm' = if nm' = nm then some g else fAt D nm' := by
  unfold fAt
  by_cases hn : nm' = nm
  · subst hn
    rw [if_pos rfl, atKey_put_same hD (isKey_str _)]; simp
  · rw [if_neg hn, atKey_put_other (fun h => hn (by cases h; rfl))]
theorem fAt_del (nm nm' : List UInt8) : fAt (D.del (.string nm)) nm' = if nm' = nm then none else fAt D nm' := by
  unfold fAt
  by_cases hn : nm' = nm
  · subst hn
    rw [if_pos rfl, atKey_del_same]
  · rw [if_neg hn, atKey_del_other (fun h => hn (by cases h; rfl))]
/-- Each name of the map leads to a block. -/
def Full (D : DataW Unit) : Prop := ∀ nm, Maps.has D (.string nm) = true → ∃ g, fAt D nm = some g
theorem has_of_fAt {nm : List UInt8} {g : Nat} (h : fAt D nm = some g) : Maps.has D (.string nm) = true := by
  cases h1 : Maps.has D (.string nm) with
  | true => rfl
  | false =>
    unfold fAt at h
    rw [atKey_of_not_has h1] at h
    cases h
theorem Full.has (h : Full D) (nm : List UInt8) : Maps.has D (.string nm) = (fAt D nm).isSome := by
  cases h1 : fAt D nm with
  | some g => rw [has_of_fAt h1]; rfl
  | none =>
    cases h2 : Maps.has D (.string nm) with
    | false => rfl
    | true =>
      obtain ⟨g, hg⟩ := h nm h2
      rw [h1] at hg; cases hg
theorem Full.empty : Full (.map []) := fun nm h => by cases h
theorem Full.put (h : Full D) (hD : IsMap D) (nm : List UInt8) (g : Nat) : Full (D.put (.string nm) (.lit (.int .i64 g))) := fun nm' h1 => by
  rw [fAt_put hD]
  by_cases hn : nm' = nm
  · exact ⟨g, if_pos hn⟩
  · rw [if_neg hn]
    rw [has_put_other (fun e => hn (by cases e; rfl))] at h1
    exact h nm' h1
theorem Full.del (h : Full D) (nm : List UInt8) : Full (D.del (.string nm)) := fun nm' h1 => by
  rw [fAt_del]
  by_cases hn : nm' = nm
  · subst hn
    rw [has_del_same] at h1; cases h1
  · rw [if_neg hn]
    rw [has_del_other (fun e => hn (by cases e; rfl))] at h1
    exact h nm' h1
/-- A map's names, rising. -/
def names (D : DataW Unit) : List (List UInt8) := (strKeys D).mergeSort leB
theorem leB_tr (a b c : List UInt8) (h1 : leB a b = true) (h2 : leB b c = true) : leB a c = true := by simp only [leB, decide_eq_true_eq] at *; exact List.le_trans h1 h2
theorem leB_to (a b : List UInt8) : (leB a b || leB b a) = true := by simp only [leB, Bool.or_eq_true, decide_eq_true_eq]; exact List.le_total a b
theorem names_sorted (D : DataW Unit) : (names D).Pairwise (fun a b => leB a b = true) := List.pairwise_mergeSort leB_tr leB_to _
theorem own_entries (h : w.ownsMap P k Rp b n D) (hk : P.underlying k = some .string) : ∃ es, D = .map es ∧ es.Pairwise (fun p q => p.1 ≠ q.1) ∧ ∀ p ∈ es, ∃ x, p.1 = .string x := by
  obtain ⟨es, hD, hpw, _⟩ := h.entries (string_keyed hk)
  obtain ⟨es', hD', hko⟩ := h.keysOf
  obtain rfl : es = es' := by rw [hD] at hD'; simpa using hD'
  exact ⟨es, hD, hpw, fun p hp => by obtain ⟨v, hv⟩ := hko p hp; obtain ⟨x, _, hx, _⟩ := Maps.keyOf_str hk hv; exact ⟨x, hx⟩⟩
theorem mem_strKeys (h : w.ownsMap P k Rp b n D) (hk : P.underlying k = some .string) (x : List UInt8) : x ∈ strKeys D ↔ Maps.has D (.string x) = true := by
  obtain ⟨es, rfl, _, hs⟩ := own_entries h hk
  rw [has_eq, List.any_eq_true]
  show x ∈ es.map (fun p => strOf p.1) ↔ _
  rw [List.mem_map]
  constructor
  · rintro ⟨p, hp, rfl⟩
    obtain ⟨a, ha⟩ := hs p hp
    exact ⟨p, hp, by rw [ha]; simp [Lit.sameKey, strOf]⟩
  · rintro ⟨p, hp, hx⟩
    obtain ⟨a, ha⟩ := hs p hp
    rw [ha] at hx
    exact ⟨p, hp, by rw [ha]; simpa [Lit.sameKey, strOf] using hx⟩
theorem strKeys_nodup (h : w.ownsMap P k Rp b n D) (hk : P.underlying k = some .string) : (strKeys D).Nodup := by
  obtain ⟨es, rfl, hp, hs⟩ := own_entries h hk
  show (es.map fun p => strOf p.1).Nodup
  refine List.pairwise_map.2 (hp.imp_of_mem fun {p q} hp' hq' hne e => hne ?_)
  obtain ⟨a, ha⟩ := hs p hp'
  obtain ⟨c, hc⟩ := hs q hq'
  rw [ha, hc] at e ⊢
  exact congrArg _ e
theorem mem_names (h : w.ownsMap P k Rp b n D) (hk : P.underlying k = some .string) (x : List UInt8) : x ∈ names D ↔ Maps.has D (.string x) = true := by
  rw [← mem_strKeys h hk]
  exact (List.mergeSort_perm (strKeys D) leB).mem_iff
theorem names_nodup (h : w.ownsMap P k Rp b n D) (hk : P.underlying k = some .string) : (names D).Nodup := (List.mergeSort_perm (strKeys D) leB).nodup_iff.2 (strKeys_nodup h hk)
theorem names_len (h : w.ownsMap P k Rp b n D) (hk : P.underlying k = some .string) : (names D).length = Maps.size D := by
  obtain ⟨es, rfl, _, _⟩ := own_entries h hk
  unfold names
  rw [List.length_mergeSort]
  exact List.length_map ..
end
end Go.Proofs.Ytlhfamdandpkgaa
