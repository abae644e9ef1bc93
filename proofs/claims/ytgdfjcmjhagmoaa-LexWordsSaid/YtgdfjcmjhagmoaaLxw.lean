/- The document's answer: whether a word says a text; what words and acts leave. -/
import Derived.Test.YtgdfjcmjhagmoaaLxv
import Derived.Deep.RegionHeld3
import Derived.Deep.RegionWith
import Derived.Deep.CutBlock
namespace Go.Proofs.Ytgdfjcmjhagmoaa
open Go.ChangeShapes Go.WideShapes Go.ChangeAt Go.RowKit Go.Deep
set_option maxRecDepth 100000 in
set_option maxHeartbeats 4000000 in
theorem refsays_any (x : Wd) (t : ByteArray) (w : World) :
    Calls Try.prog 14/-f-/ #[wdV x, .string t] w fun e w' => e = .returned (.bool (saysB x t)) ∧ Below w.heap.size w w' := by
  obtain ⟨kd, tx, n, a⟩ := x
  show Calls Try.prog 14/-f-/ #[.agg #[.int .i64 kd, .string tx, .int .i64 n, .int .i64 a], .string t] w _
  obtain ⟨q, hq⟩ : ∃ q, q = (tx.toList == t.toList) := ⟨_, rfl⟩
  have e : saysB ⟨kd, tx, n, a⟩ t = ((kd == 0 || kd == 3) && q) := by rw [hq]; rfl
  rw [e]
  clear e
  have hq2 := hq.symm
  clear hq
  by_cases h0 : kd = 0
  · subst h0
    go_enter Try.func14, Try.ntmps14
    go_wp2
    go_ret
    exact ⟨ret_bool (by simp), (Below.refl _ _).alloc (Nat.le_refl _) _⟩
  · have e0 : (kd == 0) = false := beq_eq_false_iff_ne.2 h0
    by_cases h3 : kd = 3
    · subst h3
      go_enter Try.func14, Try.ntmps14
      go_wp2
      go_ret
      exact ⟨ret_bool (by simp), (Below.refl _ _).alloc (Nat.le_refl _) _⟩
    · have e3 : (kd == 3) = false := beq_eq_false_iff_ne.2 h3
      clear h0 h3
      go_enter Try.func14, Try.ntmps14
      go_wp2
      go_ret
      exact ⟨ret_bool (by simp [e0, e3]), (Below.refl _ _).alloc (Nat.le_refl _) _⟩
theorem eqW_self (x : Wd) : eqW x x = true := by simp [eqW]
theorem run_neW (W : World) (a b : Int) (s t : ByteArray) (m n p q : Int) : (binOp .neq 35 (.agg #[.int .i64 a, .string s, .int .i64 m, .int .i64 p]) (.agg #[.int .i64 b, .string t, .int .i64 n, .int .i64 q])).run Try.prog W = .ok (.bool !(a == b && (s.toList == t.toList && (m == n && p == q)))) W := by
  simp [go_sem, Try.underlying35]
  by_cases h1 : a = b <;> by_cases h2 : s.toList = t.toList <;> by_cases h3 : m = n <;> by_cases h4 : p = q <;> simp [h1, h2, h3, h4]
theorem run_neR (W : World) (a b : Int) (s t : ByteArray) (m n p q : Int) : (binOp .neq 36 (.agg #[.int .i64 a, .string s, .int .i64 m, .int .i64 p]) (.agg #[.int .i64 b, .string t, .int .i64 n, .int .i64 q])).run Try.prog W = .ok (.bool !(a == b && (s.toList == t.toList && (m == n && p == q)))) W := by
  simp [go_sem, Try.underlying36]
  by_cases h1 : a = b <;> by_cases h2 : s.toList = t.toList <;> by_cases h3 : m = n <;> by_cases h4 : p = q <;> simp [h1, h2, h3, h4]
theorem neW_self (W : World) (a : Int) (s : ByteArray) (m p : Int) : (binOp .neq 35 (.agg #[.int .i64 a, .string s, .int .i64 m, .int .i64 p]) (.agg #[.int .i64 a, .string s, .int .i64 m, .int .i64 p])).run Try.prog W = .ok (.bool false) W := by
  rw [run_neW]; simp
theorem neR_self (W : World) (a : Int) (s : ByteArray) (m p : Int) : (binOp .neq 36 (.agg #[.int .i64 a, .string s, .int .i64 m, .int .i64 p]) (.agg #[.int .i64 a, .string s, .int .i64 m, .int .i64 p])).run Try.prog W = .ok (.bool false) W := by
  rw [run_neR]; simp
theorem wds_cell {w : World} {A : Option Addr} {ws : List Wd} (h : Wds w A ws) {i : Nat} (hi : i < ws.length) : ∃ b off, A = some ⟨b, off, none⟩ ∧ b < w.heap.size ∧ w.cell? ⟨b, off + i * 4, none⟩ = some (.int .i64 (ws.getD i default).kd) ∧ w.cell? ⟨b, off + i * 4 + 1, none⟩ = some (.string (ws.getD i default).tx) ∧ w.cell? ⟨b, off + i * 4 + 2, none⟩ = some (.int .i64 (ws.getD i default).n) ∧ w.cell? ⟨b, off + i * 4 + 3, none⟩ = some (.int .i64 (ws.getD i default).at_) := by
  rcases h with h | ⟨b, off, h1, h2, h3⟩
  · subst h; simp at hi
  · exact ⟨b, off, h1, h2, h3 i hi⟩
theorem txts_cell {w : World} {A : Option Addr} {ss : List ByteArray} (h : Txts w A ss) {j : Nat} (hj : j < ss.length) : ∃ b off, A = some ⟨b, off, none⟩ ∧ b < w.heap.size ∧ w.cell? ⟨b, off + j, none⟩ = some (.string (ss.getD j default)) := by
  rcases h with h | ⟨b, off, h1, h2, h3⟩
  · rw [h] at hj; simp at hj
  · exact ⟨b, off, h1, h2, h3 j hj⟩
theorem wcells_take (ws : List Wd) (k : Nat) (hk : k < ws.length) : wcells (ws.take k) ++ wcs (ws.getD k default) = wcells (ws.take (k + 1)) := by
  rw [List.take_add_one, wcells, wcells, List.flatMap_append]
  congr 1
  simp [List.getD, hk]
/-- A block of words that may be stored to. -/
def Room (w : World) (g m : Nat) : Prop := ∃ cur : Array Value, Blk w g 35 cur ∧ cur.size = m
theorem Room.put {w : World} {g m : Nat} (h : Room w g m) (i : Nat) (u : Value) : Room (w.setCell ⟨g, i, none⟩ u) g m := by
  obtain ⟨cur, h1, h2⟩ := h
  exact ⟨_, h1.put i u, by simp [h2]⟩
theorem Room.facts {w : World} {g m : Nat} (h : Room w g m) (i : Nat) (hi : i < m) : (∃ u, w.cell? ⟨g, i, none⟩ = some u) ∧ w.frozen? ⟨g, i, none⟩ = false := by
  obtain ⟨cur, h1, h2⟩ := h
  exact ⟨⟨cur[i], by rw [h1.cell i]; simp [h2, hi]⟩, h1.frozen i⟩
theorem own_room {w : World} {base n cap g : Nat} {xs : List Value} (h : w.ownsRow base 35 4 (.slice (some ⟨g, 0, none⟩) n cap) n xs) : ∃ m, Room w g m ∧ n * 4 ≤ m := by
  rcases h.2 with ⟨h, _⟩ | ⟨g2, c2, cur, h, _, h3, h4, _, h6, _⟩
  · cases h
  · cases h
    exact ⟨_, ⟨cur, h3, rfl⟩, by omega⟩
theorem own_far {w : World} {base g e e' size n cap : Nat} {xs : List Value} {A : Option Addr} {cs : Array Value} (h : w.ownsRow base e size (.slice A n cap) n xs) (hg : Blk w g e' cs) (he : e ≠ e') : ∀ x, Value.ownBlock (.slice A n cap) = some x → x ≠ g := by
  intro x hx hxg
  subst hxg
  rcases h.2 with ⟨h, _⟩ | ⟨g2, c2, cur, h, _, h3, _⟩
  · rw [h] at hx; cases hx
  · rw [h] at hx
    cases hx
    have := h3.symm.trans hg
    simp at this
    exact he this.2
end Go.Proofs.Ytgdfjcmjhagmoaa
