/- Texts, words, and what is asked of a cursor, as arguments. -/
import Derived.Test.YtgdfjcmjhagmoaaLxu
import Derived.Test.YtgdfjcmjhagmoaaOpen
import Derived.Lib.SmallJoins
namespace Go.Proofs.Ytgdfjcmjhagmoaa
open Go.ChangeShapes Go.WideShapes Go.ChangeAt Go.RowKit Go.Deep Go.Joins
theorem texts_open {H : Type} {enc : TypeId × Value → H} {W : World} {fuel : Nat} {x : DataW H × List MemPlace} {a : Option Addr} {len cap : Nat}
    (h : DataW.trod enc Try.prog W 0 (fun _ => true) true fuel 39 [.slice a len cap] = some x) :
    len ≤ cap ∧ cap ≤ 9223372036854775807 ∧ ∃ ss : List ByteArray, ss.length = len ∧ Txts W a ss ∧ ∀ s ∈ ss, s.size ≤ 9223372036854775807 := by
  rcases open_strings Try.underlying39 Try.underlying9 (by kernel_rfl) h with ⟨h1, _⟩ | ⟨ad, l, c, ss, h1, _, hl, hm, hsl, _, hcl, hsz⟩
  · simp at h1
    obtain ⟨rfl, rfl, rfl⟩ := h1
    exact ⟨Nat.le_refl _, by omega, [], rfl, .inl rfl, fun s hs => by simp at hs⟩
  · simp at h1
    obtain ⟨rfl, rfl, rfl⟩ := h1
    have hlen : (ss.take len).length = len := by rw [List.length_take]; simp at hsl; omega
    refine ⟨hl, by unfold maxLen at hm; omega, ss.take len, hlen, ?_, fun s hs => by have := hsz s (List.mem_of_mem_take hs); unfold maxLen at this; omega⟩
    rcases Nat.eq_zero_or_pos len with h0 | h0
    · exact .inl (by subst h0; simp)
    · obtain ⟨b, off, spot⟩ := ad
      have hc := hcl 0 (by simp at hsl; omega)
      have hspot : spot = none := by simpa [Addr.add] using World.cell?_spot hc
      subst hspot
      refine .inr ⟨b, off, rfl, World.block_lt_of_cell? _ _ hc, fun i hi => ?_⟩
      have h1 := hcl i (by simp at hsl; omega)
      have h2 : (ss.take len).getD i default = ss.getD i ByteArray.empty := by
        simp only [List.getD, List.getElem?_take]; rw [if_pos (by omega)]; rfl
      rw [h2, ← addr_add]; exact h1
structure FitD (x : Wd) : Prop where
  kd : -9223372036854775808 ≤ x.kd ∧ x.kd ≤ 9223372036854775807
  tx : x.tx.size ≤ 9223372036854775807
  n : -9223372036854775808 ≤ x.n ∧ x.n ≤ 9223372036854775807
  at_ : -9223372036854775808 ≤ x.at_ ∧ x.at_ ≤ 9223372036854775807
set_option maxRecDepth 100000 in
theorem words_open {H : Type} {enc : TypeId × Value → H} {W : World} {fuel : Nat} {x : DataW H × List MemPlace} {a : Option Addr} {len cap : Nat}
    (h : DataW.trod enc Try.prog W 0 (fun _ => true) true fuel 27 [.slice a len cap] = some x) :
    len ≤ cap ∧ cap ≤ 9223372036854775807 ∧ ∃ ws : List Wd, ws.length = len ∧ Wds W a ws ∧ ∀ x ∈ ws, FitD x := by
  obtain ⟨h1, h2, h3, h4⟩ := open_elems (k := 4) Try.underlying27/-t-/ (by kernel_rfl) (by omega) h
  refine ⟨h1, h2, ?_⟩
  have key : ∀ i, i < len → ∃ v : Wd, At W a 4 i [.int .i64 v.kd, .string v.tx, .int .i64 v.n, .int .i64 v.at_] ∧ FitD v := by
    intro i hi
    obtain ⟨cs, n, y, hl, hat, ht⟩ := h4 i hi
    obtain ⟨y0, y1, y2, y3, k, _, _, g0, g1, g2, g3⟩ := trod_struct4 Try.underlying36/-t-/ ht
    match cs, hl, hat, g0, g1, g2, g3 with
    | [u, v, z, y], _, hat, g0, g1, g2, g3 =>
      have c3 : Try.prog.cellsOf 3 = 1 := by kernel_rfl
      have c2 : Try.prog.cellsOf 2 = 1 := by kernel_rfl
      have c9 : Try.prog.cellsOf 9 = 1 := by kernel_rfl
      have g0' : DataW.trod enc Try.prog W 0 (fun _ => true) true k 3 [u] = some y0 := by simpa [c3] using g0
      have g1' : DataW.trod enc Try.prog W 0 (fun _ => true) true k 9 [v] = some y1 := by simpa [c9] using g1
      have g2' : DataW.trod enc Try.prog W 0 (fun _ => true) true k 2 [z] = some y2 := by simpa [c2] using g2
      have g3' : DataW.trod enc Try.prog W 0 (fun _ => true) true k 3 [y] = some y3 := by simpa [c3] using g3
      obtain ⟨a0, e0, _, w0⟩ := DataW.trod_int Try.underlying3/-t-/ g0'
      obtain ⟨a1, e1, _, w1⟩ := DataW.trod_string Try.underlying9/-t-/ g1'
      obtain ⟨a2, e2, _, w2⟩ := DataW.trod_int Try.underlying2/-t-/ g2'
      obtain ⟨a3, e3, _, w3⟩ := DataW.trod_int Try.underlying3/-t-/ g3'
      simp only [List.cons.injEq, and_true] at e0 e1 e2 e3
      subst e0 e1 e2 e3
      exact ⟨⟨a0, a1, a2, a3⟩, hat, bounds_i64 w0, by unfold maxLen at w1; omega, bounds_i64 w2, bounds_i64 w3⟩
  obtain ⟨f, hf⟩ := choose_lt key
  refine ⟨(List.range len).map f, by simp, ?_, fun x hx => ?_⟩
  · rcases Nat.eq_zero_or_pos len with h0 | h0
    · exact .inl (by subst h0; rfl)
    · obtain ⟨b, off, rfl, hb, _⟩ := (hf 0 h0).1
      refine .inr ⟨b, off, rfl, hb, fun i hi => ?_⟩
      have hi2 : i < len := by simpa using hi
      have hg : ((List.range len).map f).getD i default = f i := by simp [List.getD, hi2]
      obtain ⟨b', off', e, _, hc⟩ := (hf i hi2).1
      cases Option.some.inj e
      rw [hg]
      exact ⟨hc 0 (by omega), hc 1 (by omega), hc 2 (by omega), hc 3 (by omega)⟩
  · obtain ⟨i, hi, rfl⟩ := List.mem_map.1 hx
    exact (hf i (by simpa using hi)).2
/-- Something that is asked. -/
structure LAct where
  k : Int
  n : Int
  A : Option Addr
  c : Nat
  ss : List ByteArray
instance : Inhabited LAct := ⟨⟨0, 0, none, 0, []⟩⟩
/-- Act i of the acts. -/
structure Elem (W : World) (a : Option Addr) (i : Nat) (q : LAct) : Prop where
  cells : At W a 3 i [.int .i64 q.k, .int .i64 q.n, .slice q.A q.ss.length q.c]
  txts : Txts W q.A q.ss
  cap : q.ss.length ≤ q.c ∧ q.c ≤ 9223372036854775807
  k : -9223372036854775808 ≤ q.k ∧ q.k ≤ 9223372036854775807
  n : -9223372036854775808 ≤ q.n ∧ q.n ≤ 9223372036854775807
set_option maxRecDepth 100000 in
theorem acts_open {H : Type} {enc : TypeId × Value → H} {W : World} {fuel : Nat} {x : DataW H × List MemPlace} {a : Option Addr} {len cap : Nat}
    (h : DataW.trod enc Try.prog W 0 (fun _ => true) true fuel 33 [.slice a len cap] = some x) :
    len ≤ 9223372036854775807 ∧ ∃ f : Nat → LAct, ∀ i, i < len → Elem W a i (f i) := by
  obtain ⟨h1, h2, h3, h4⟩ := open_elems (k := 3) Try.underlying33/-t-/ (by kernel_rfl) (by omega) h
  refine ⟨by omega, ?_⟩
  refine choose_lt fun i hi => ?_
  obtain ⟨cs, n, y, hl, hat, ht⟩ := h4 i hi
  obtain ⟨y0, y1, y2, k, _, _, g0, g1, g2⟩ := trod_struct3 Try.underlying41/-t-/ ht
  match cs, hl, hat, g0, g1, g2 with
  | [u, v, z], _, hat, g0, g1, g2 =>
    have c3 : Try.prog.cellsOf 3 = 1 := by kernel_rfl
    have c39 : Try.prog.cellsOf 39 = 1 := by kernel_rfl
    have g0' : DataW.trod enc Try.prog W 0 (fun _ => true) true k 3 [u] = some y0 := by simpa [c3] using g0
    have g1' : DataW.trod enc Try.prog W 0 (fun _ => true) true k 3 [v] = some y1 := by simpa [c3] using g1
    have g2' : DataW.trod enc Try.prog W 0 (fun _ => true) true k 39 [z] = some y2 := by simpa [c39] using g2
    obtain ⟨a0, e0, _, w0⟩ := DataW.trod_int Try.underlying3/-t-/ g0'
    obtain ⟨a1, e1, _, w1⟩ := DataW.trod_int Try.underlying3/-t-/ g1'
    have hsl : ∃ Ai li ci, z = .slice Ai li ci := by
      rcases open_strings Try.underlying39 Try.underlying9 (by kernel_rfl) g2' with ⟨h1, _⟩ | ⟨ad, l, c, ss, h1, _⟩
      · exact ⟨_, _, _, by simpa using h1⟩
      · exact ⟨_, _, _, by simpa using h1⟩
    obtain ⟨Ai, li, ci, rfl⟩ := hsl
    obtain ⟨q1, q2, ss, hsl, hT, _⟩ := texts_open g2'
    subst hsl
    simp only [List.cons.injEq, and_true] at e0 e1
    subst e0
    subst e1
    exact ⟨⟨a0, a1, Ai, ci, ss⟩, hat, hT, ⟨q1, q2⟩, bounds_i64 w0, bounds_i64 w1⟩
end Go.Proofs.Ytgdfjcmjhagmoaa
