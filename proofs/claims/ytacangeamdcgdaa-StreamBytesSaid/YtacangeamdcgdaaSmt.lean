/- Batches as bytes: plain mathematics; a reader at the beginning. -/
import Derived.Test.YtacangeamdcgdaaWrx
import Derived.Test.YtacangeamdcgdaaStr
namespace Go.Proofs.Ytacangeamdcgdaa
open Go.ChangeShapes Go.WideShapes Go.ChangeAt Go.RowKit
/-- A batch as it is laid. -/
def batW (b : Bat) : List UInt8 := num b.id.toNat ++ rowsW b.rows
def batsW (bs : List Bat) : List UInt8 := num bs.length ++ bs.flatMap batW
def batR (cs : List Col) (l : List UInt8) : Option (Bat × List UInt8) :=
  (sizeR 9223372036854775807 l).bind fun x => (rowsR 32 8 x.2).bind fun y => if 1 ≤ x.1 ∧ fitsS cs y.1 = true then some (⟨x.1, y.1⟩, y.2) else none
def batsR (cs : List Col) (most : Int) (l : List UInt8) : Option (List Bat × List UInt8) := (sizeR most l).bind fun x => manyR (batR cs) x.1 x.2
/-- What bytes are, if they are batches and nothing else. -/
def readB (cs : List Col) (l : List UInt8) : Option (List Bat) := match batsR cs l.length l with
  | some (bs, []) => some bs
  | _ => none
theorem bat_short (cs : List Col) (l r : List UInt8) (x : Bat) (h : batR cs l = some (x, r)) : r.length < l.length := by
  unfold batR at h
  cases h1 : sizeR 9223372036854775807 l with
  | none => rw [h1] at h; cases h
  | some y =>
    obtain ⟨n, t⟩ := y
    rw [h1] at h
    simp only [Option.bind_some] at h
    cases h2 : rowsR 32 8 t with
    | none => rw [h2] at h; cases h
    | some z =>
      obtain ⟨rs, u⟩ := z
      rw [h2] at h
      simp only [Option.bind_some] at h
      have a1 := (size_short _ _ _ _ h1).1
      have a2 : u.length ≤ t.length := by
        unfold rowsR at h2
        cases h3 : sizeR 32 t with
        | none => rw [h3] at h2; cases h2
        | some q =>
          obtain ⟨m, v⟩ := q
          rw [h3] at h2
          have b1 := (size_short _ _ _ _ h3).1
          have b2 := many_le (rowR 8) (fun l x r h => row_short 8 l r x h) m v u rs h2
          omega
      split at h
      · obtain ⟨_, rfl⟩ := Prod.mk.inj (Option.some.inj h)
        omega
      · cases h
/-- A batch as it is read, number and rows one behind the other. -/
def batS (cs : List Col) (st : Option (List UInt8)) : Bat × Option (List UInt8) :=
  let p := stepR 0 (sizeR 9223372036854775807) st
  let q := stepR [] (rowsR 32 8) p.2
  (⟨p.1, q.1⟩, if p.1 < 1 ∨ fitsS cs q.1 = false then none else q.2)
theorem fitsS_nil (cs : List Col) : fitsS cs [] = true := rfl
theorem bat_step (cs : List Col) (l : List UInt8) : (stepR default (batR cs) (some l)).2 = (batS cs (some l)).2 ∧ ((batS cs (some l)).2.isSome = true → (stepR default (batR cs) (some l)).1 = (batS cs (some l)).1) := by
  unfold batS
  cases h1 : sizeR 9223372036854775807 l with
  | none =>
    rw [stepR_bad _ (sizeR 9223372036854775807) _ h1, stepR_bad _ _ _ (by unfold batR; rw [h1]; rfl)]
    simp [stepR]
  | some y =>
    obtain ⟨n, t⟩ := y
    rw [stepR_ok _ (sizeR 9223372036854775807) _ _ _ h1]
    simp only
    cases h2 : rowsR 32 8 t with
    | none =>
      rw [stepR_bad _ (rowsR 32 8) _ h2, stepR_bad _ _ _ (by unfold batR; rw [h1]; simp only [Option.bind_some]; rw [h2]; rfl)]
      simp
    | some z =>
      obtain ⟨rs, u⟩ := z
      rw [stepR_ok _ (rowsR 32 8) _ _ _ h2]
      simp only
      by_cases hc : 1 ≤ n ∧ fitsS cs rs = true
      · rw [stepR_ok _ (batR cs) _ ⟨n, rs⟩ u (by unfold batR; rw [h1]; simp only [Option.bind_some]; rw [h2]; simp only [Option.bind_some]; rw [if_pos hc])]
        rw [if_neg (by rw [hc.2]; simp; omega)]
        exact ⟨rfl, fun _ => rfl⟩
      · rw [stepR_bad _ (batR cs) _ (by unfold batR; rw [h1]; simp only [Option.bind_some]; rw [h2]; simp only [Option.bind_some]; rw [if_neg hc])]
        have : n < 1 ∨ fitsS cs rs = false := by
          by_cases h3 : 1 ≤ n
          · right
            cases h4 : fitsS cs rs with
            | true => exact absurd ⟨h3, h4⟩ hc
            | false => rfl
          · left; omega
        rw [if_pos this]
        simp
theorem fits_rows {cs : List Col} {rs : List (List Val)} (h : fitsS cs rs = true) : rs.length ≤ 32 ∧ ∀ r ∈ rs, r.length = cs.length ∧ ∀ v ∈ r, rightB v.k v.n v.s = true := by
  unfold fitsS at h
  rw [Bool.and_eq_true, decide_eq_true_eq, List.all_eq_true] at h
  refine ⟨h.1, fun r hr => ?_⟩
  have h2 := h.2 r hr
  unfold fitsB at h2
  rw [Bool.and_eq_true, Bool.and_eq_true, decide_eq_true_eq] at h2
  refine ⟨h2.1.1, fun v hv => ?_⟩
  have h3 := h2.1.2
  unfold rall at h3
  rw [List.all_eq_true] at h3
  exact h3 v hv
/-- What is laid is read as it was, and not if it is cut off. -/
theorem bat_reads (cs : List Col) (b : Bat) (hc : cs.length ≤ 8) (hi : 1 ≤ b.id ∧ b.id ≤ 9223372036854775807) (hf : fitsS cs b.rows = true) (hv : ∀ r ∈ b.rows, ∀ v ∈ r, -9223372036854775808 ≤ v.n ∧ v.n ≤ 9223372036854775807) : Reads (batR cs) b (batW b) := by
  obtain ⟨h32, hr⟩ := fits_rows hf
  have h1 := size_reads b.id.toNat 9223372036854775807 (by omega) (by omega)
  have h2 := rows_reads b.rows 32 8 (by omega) (by omega) (fun r hr' => ⟨by have := (hr r hr').1; omega, by have := (hr r hr').1; omega, fun v hv' => ⟨(hr r hr').2 v hv', hv r hr' v hv'⟩⟩)
  have h3 : Reads (fun l => (rowsR 32 8 l).bind fun y => if 1 ≤ b.id.toNat ∧ fitsS cs y.1 = true then some ((⟨b.id.toNat, y.1⟩ : Bat), y.2) else none) b (rowsW b.rows) := by
    constructor
    · intro r
      show Option.bind (rowsR 32 8 (rowsW b.rows ++ r)) _ = _
      rw [h2.all]
      simp only [Option.bind_some]
      rw [if_pos ⟨by omega, hf⟩, Int.toNat_of_nonneg (by omega)]
    · intro p hp hr
      show Option.bind (rowsR 32 8 p) _ = _
      rw [h2.cut p hp hr]; rfl
  exact h1.bind (fun n r => (rowsR 32 8 r).bind fun y => if 1 ≤ n ∧ fitsS cs y.1 = true then some ((⟨n, y.1⟩ : Bat), y.2) else none) h3
def OkB (cs : List Col) (b : Bat) : Prop := (1 ≤ b.id ∧ b.id ≤ 9223372036854775807) ∧ fitsS cs b.rows = true ∧ ∀ r ∈ b.rows, ∀ v ∈ r, -9223372036854775808 ≤ v.n ∧ v.n ≤ 9223372036854775807
theorem bats_reads (cs : List Col) (bs : List Bat) (most : Int) (hc : cs.length ≤ 8) (hl : bs.length < 2 ^ 64) (hm : (bs.length : Int) ≤ most) (h : ∀ b ∈ bs, OkB cs b) : Reads (batsR cs most) bs (batsW bs) :=
  (size_reads bs.length most hl hm).bind (fun n r => manyR (batR cs) n r) (many_reads (batR cs) batW bs fun b hb => bat_reads cs b hc (h b hb).1 (h b hb).2.1 (h b hb).2.2)
theorem num_pos (n : Nat) : 1 ≤ (num n).length := by simp [num]
theorem bats_len (bs : List Bat) : bs.length + 1 ≤ (batsW bs).length := by
  have h : ∀ bs : List Bat, bs.length ≤ (bs.flatMap batW).length := by
    intro bs
    induction bs with
    | nil => simp
    | cons b t ih =>
      have h2 := num_pos b.id.toNat
      have h3 : 1 ≤ (batW b).length := by unfold batW; rw [List.length_append]; omega
      rw [List.flatMap_cons, List.length_append, List.length_cons]; omega
  have h1 := h bs
  have h2 := num_pos bs.length
  unfold batsW
  rw [List.length_append]; omega
theorem readB_all (cs : List Col) (bs : List Bat) (hc : cs.length ≤ 8) (hl : bs.length < 2 ^ 64) (h : ∀ b ∈ bs, OkB cs b) : readB cs (batsW bs) = some bs := by
  have h2 := (bats_reads cs bs (batsW bs).length hc hl (by have := bats_len bs; omega) h).all []
  rw [List.append_nil] at h2
  unfold readB
  rw [h2]
theorem readB_cut (cs : List Col) (bs : List Bat) (hc : cs.length ≤ 8) (hl : bs.length < 2 ^ 64) (h : ∀ b ∈ bs, OkB cs b) (k : Nat) (hk : k < (batsW bs).length) : readB cs ((batsW bs).take k) = none := by
  have hp : ((batsW bs).take k).length = k := by rw [List.length_take]; omega
  unfold readB
  rw [hp]
  by_cases hm : (bs.length : Int) ≤ k
  · rw [(bats_reads cs bs k hc hl hm h).cut _ (by omega) ⟨(batsW bs).drop k, List.take_append_drop k _⟩]
  · have : sizeR k ((batsW bs).take k) = none := by
      by_cases hn : k < (num bs.length).length
      · unfold sizeR
        rw [(nat_reads bs.length hl).cut _ (by omega) ⟨(num bs.length).drop k, by unfold batsW; rw [List.take_append_of_le_length (by omega), List.take_append_drop]⟩]; rfl
      · have e : (batsW bs).take k = num bs.length ++ (bs.flatMap batW).take (k - (num bs.length).length) := by
          unfold batsW
          rw [List.take_append, List.take_of_length_le (by omega)]
        rw [e]
        unfold sizeR
        rw [(nat_reads bs.length hl).all]
        simp only [Option.bind_some]
        rw [if_pos (by omega)]
    unfold batsR
    rw [this]
    rfl
/-- More things than bytes are never read. -/
theorem many_over {α : Type} (f : List UInt8 → Option (α × List UInt8)) (hf : ∀ l x r, f l = some (x, r) → r.length < l.length) : ∀ (n : Nat) (l : List UInt8), l.length < n → manyR f n l = none
  | 0, l, h => absurd h (by omega)
  | n + 1, l, h => by
    unfold manyR
    cases h1 : f l with
    | none => rfl
    | some x =>
      obtain ⟨a, r⟩ := x
      have := hf _ _ _ h1
      simp only [Option.bind_some]
      rw [many_over f hf n r (by omega)]
      rfl
theorem bats_most (cs : List Col) (l : List UInt8) (m : Int) (h : (l.length : Int) ≤ m) : batsR cs m l = batsR cs l.length l := by
  unfold batsR sizeR
  cases h1 : natR l with
  | none => rfl
  | some x =>
    obtain ⟨n, r⟩ := x
    have hs := nat_short _ _ _ h1
    simp only [Option.bind_some]
    by_cases h2 : (l.length : Int) < (n : Int)
    · rw [if_pos h2]
      by_cases h3 : m < (n : Int)
      · rw [if_pos h3]
      · rw [if_neg h3]
        show manyR (batR cs) n r = _
        rw [many_over (batR cs) (fun l x r h => bat_short cs l r x h) n r (by omega)]; rfl
    · rw [if_neg h2, if_neg (by omega)]
theorem many_all {α : Type} (P : α → Prop) (f : List UInt8 → Option (α × List UInt8)) (hf : ∀ l r x, f l = some (x, r) → P x) : ∀ (n : Nat) (l r : List UInt8) (x : List α), manyR f n l = some (x, r) → x.length = n ∧ ∀ a ∈ x, P a
  | 0, l, r, x, h => by
    simp only [manyR, Option.some.injEq, Prod.mk.injEq] at h
    rw [← h.1]; exact ⟨rfl, fun a ha => by cases ha⟩
  | n + 1, l, r, x, h => by
    unfold manyR at h
    cases h1 : f l with
    | none => rw [h1] at h; cases h
    | some y =>
      obtain ⟨a, b⟩ := y
      rw [h1] at h
      simp only [Option.bind_some] at h
      cases h2 : manyR f n b with
      | none => rw [h2] at h; cases h
      | some z =>
        obtain ⟨c, d⟩ := z
        rw [h2] at h
        simp only [Option.map_some, Option.some.injEq, Prod.mk.injEq] at h
        obtain ⟨h3, h4⟩ := many_all P f hf n b d c h2
        rw [← h.1]
        refine ⟨by rw [List.length_cons, h3], fun u hu => ?_⟩
        rcases List.mem_cons.1 hu with rfl | hu
        · exact hf _ _ _ h1
        · exact h4 u hu
theorem val_fit (l r : List UInt8) (x : Val) (h : valR l = some (x, r)) : FitV x := by
  obtain ⟨h1, h2⟩ := val_right l r x h
  obtain ⟨k, n, s⟩ := x
  simp only at h1 h2
  by_cases a1 : k = 1
  · subst a1
    rw [rightB_1, decide_eq_true_eq] at h1
    subst h1
    exact ⟨by simp, h2, by show (ByteArray.mk #[]).size ≤ 9223372036854775807; decide⟩
  · by_cases a2 : k = 2
    · subst a2
      rw [rightB_2, Bool.and_eq_true, decide_eq_true_eq] at h1
      exact ⟨by simp, h2, by have := h1.2; simp only; omega⟩
    · by_cases a3 : k = 3
      · subst a3
        rw [rightB_3, Bool.and_eq_true, decide_eq_true_eq] at h1
        obtain ⟨_, h1⟩ := h1
        subst h1
        exact ⟨by simp, h2, by show (ByteArray.mk #[]).size ≤ 9223372036854775807; decide⟩
      · rw [rightB_no k n s a1 a2 a3] at h1; cases h1
theorem row_fit (l r : List UInt8) (x : List Val) (h : rowR 8 l = some (x, r)) : x.length ≤ 8 ∧ ∀ v ∈ x, FitV v := by
  unfold rowR at h
  cases h1 : sizeR 8 l with
  | none => rw [h1] at h; cases h
  | some y =>
    obtain ⟨n, t⟩ := y
    rw [h1] at h
    have h2 := (size_short _ _ _ _ h1).2
    obtain ⟨h3, h4⟩ := many_all FitV valR val_fit n t r x h
    exact ⟨by omega, h4⟩
theorem rows_fit (l r : List UInt8) (x : List (List Val)) (h : rowsR 32 8 l = some (x, r)) : x.length ≤ 32 ∧ ∀ v ∈ x, v.length ≤ 8 ∧ ∀ u ∈ v, FitV u := by
  unfold rowsR at h
  cases h1 : sizeR 32 l with
  | none => rw [h1] at h; cases h
  | some y =>
    obtain ⟨n, t⟩ := y
    rw [h1] at h
    have h2 := (size_short _ _ _ _ h1).2
    obtain ⟨h3, h4⟩ := many_all (fun v => v.length ≤ 8 ∧ ∀ u ∈ v, FitV u) (rowR 8) row_fit n t r x h
    exact ⟨by omega, h4⟩
theorem rowsS_fit (st : Option (List UInt8)) : (stepR [] (rowsR 32 8) st).1.length ≤ 32 ∧ ∀ v ∈ (stepR [] (rowsR 32 8) st).1, v.length ≤ 8 ∧ ∀ u ∈ v, FitV u := by
  cases st with
  | none => exact ⟨Nat.zero_le _, fun v hv => by cases hv⟩
  | some l => cases h : rowsR 32 8 l with
    | none => rw [stepR_bad _ _ _ h]; exact ⟨Nat.zero_le _, fun v hv => by cases hv⟩
    | some x => obtain ⟨a, r⟩ := x; rw [stepR_ok _ _ _ _ _ h]; exact rows_fit _ _ _ h
theorem rowsS_len (st : Option (List UInt8)) : ((stepR [] (rowsR 32 8) st).2.getD []).length ≤ (st.getD []).length := by
  cases st with
  | none => exact Nat.le_refl _
  | some l => cases h : rowsR 32 8 l with
    | none => rw [stepR_bad _ _ _ h]; simp
    | some x =>
      obtain ⟨a, r⟩ := x
      rw [stepR_ok _ _ _ _ _ h]
      show r.length ≤ l.length
      unfold rowsR at h
      cases h3 : sizeR 32 l with
      | none => rw [h3] at h; cases h
      | some q =>
        obtain ⟨m, v⟩ := q
        rw [h3] at h
        have b1 := (size_short _ _ _ _ h3).1
        have b2 := many_le (rowR 8) (fun l x r h => row_short 8 l r x h) m v r a h
        omega
theorem bat_ok (cs : List Col) (l r : List UInt8) (x : Bat) (h : batR cs l = some (x, r)) : x.rows.length ≤ 32 ∧ ∀ v ∈ x.rows, v.length ≤ 8 ∧ ∀ u ∈ v, FitV u := by
  unfold batR at h
  cases h1 : sizeR 9223372036854775807 l with
  | none => rw [h1] at h; cases h
  | some y =>
    obtain ⟨n, t⟩ := y
    rw [h1] at h
    simp only [Option.bind_some] at h
    cases h2 : rowsR 32 8 t with
    | none => rw [h2] at h; cases h
    | some z =>
      obtain ⟨rs, u⟩ := z
      rw [h2] at h
      simp only [Option.bind_some] at h
      split at h
      · obtain ⟨rfl, _⟩ := Prod.mk.inj (Option.some.inj h)
        exact rows_fit _ _ _ h2
      · cases h
theorem bats_ok (cs : List Col) (most : Int) (l r : List UInt8) (x : List Bat) (h : batsR cs most l = some (x, r)) : (x.length : Int) ≤ most ∧ ∀ b ∈ x, b.rows.length ≤ 32 ∧ ∀ v ∈ b.rows, v.length ≤ 8 ∧ ∀ u ∈ v, FitV u := by
  unfold batsR at h
  cases h1 : sizeR most l with
  | none => rw [h1] at h; cases h
  | some y =>
    obtain ⟨n, t⟩ := y
    rw [h1] at h
    have h2 := (size_short _ _ _ _ h1).2
    obtain ⟨h3, h4⟩ := many_all (fun b : Bat => b.rows.length ≤ 32 ∧ ∀ v ∈ b.rows, v.length ≤ 8 ∧ ∀ u ∈ v, FitV u) (batR cs) (bat_ok cs) n t r x h
    exact ⟨by omega, h4⟩
theorem readB_step (cs : List Col) (l : List UInt8) : readB cs l = if (stepR [] (batsR cs l.length) (some l)).2 = some [] then some (stepR [] (batsR cs l.length) (some l)).1 else none := by
  unfold readB
  cases h : batsR cs l.length l with
  | none => rw [stepR_bad _ _ _ h]; rfl
  | some x =>
    obtain ⟨bs, r⟩ := x
    rw [stepR_ok _ _ _ _ _ h]
    cases r with
    | nil => rfl
    | cons c t => rfl
end Go.Proofs.Ytacangeamdcgdaa
