/- QueuePlays: the acts, and what holds between them. -/
import Derived.Test.YtmmgicomidpmhaaRows
import Derived.Test.YtmmgicomidpmhaaLook
import Derived.Test.YtmmgicomidpmhaaOpen
import Derived.Deep.RegionHeld3
import Derived.Deep.RegionWith
import Derived.Deep.CutBlock
namespace Go.Proofs.Ytmmgicomidpmhaa.QueuePlays
open Go.ChangeShapes Go.WideShapes Go.ChangeAt Go.RowKit Go.Deep
set_option linter.unusedVariables false
/-- An act. -/
structure QAct where
  kind : Int
  n : Int
  A : Option Addr
  c : Nat
  xs : List Int
instance : Inhabited QAct := ⟨⟨0, 0, none, 0, []⟩⟩
/-- Act i of the acts. -/
structure Elem (W : World) (a : Option Addr) (i : Nat) (q : QAct) : Prop where
  cells : At W a 3 i [.int .i64 q.kind, .int .i64 q.n, .slice q.A q.xs.length q.c]
  ints : Ints W .i64 q.A q.xs
  cap : q.xs.length ≤ q.c ∧ q.c ≤ 9223372036854775807
  kind : -9223372036854775808 ≤ q.kind ∧ q.kind ≤ 9223372036854775807
  n : -9223372036854775808 ≤ q.n ∧ q.n ≤ 9223372036854775807
  fit : Fit64 q.xs
theorem acts_open {H : Type} {enc : TypeId × Value → H} {W : World} {fuel : Nat} {x : DataW H × List MemPlace} {a : Option Addr} {len cap : Nat}
    (h : DataW.trod enc Try.prog W 0 (fun _ => true) true fuel 22 [.slice a len cap] = some x) :
    len ≤ 9223372036854775807 ∧ ∃ f : Nat → QAct, ∀ i, i < len → Elem W a i (f i) := by
  obtain ⟨h1, h2, h3, h4⟩ := open_elems (k := 3) Try.underlying22 (by kernel_rfl) (by omega) h
  refine ⟨by omega, ?_⟩
  refine choose_lt fun i hi => ?_
  obtain ⟨cs, n, y, hl, hat, ht⟩ := h4 i hi
  obtain ⟨y0, y1, y2, k, _, _, g0, g1, g2⟩ := trod_struct3 Try.underlying30 ht
  match cs, hl, hat, g0, g1, g2 with
  | [u, v, z], _, hat, g0, g1, g2 =>
    have c3 : Try.prog.cellsOf 3 = 1 := by kernel_rfl
    have c26 : Try.prog.cellsOf 26 = 1 := by kernel_rfl
    have g0' : DataW.trod enc Try.prog W 0 (fun _ => true) true k 3 [u] = some y0 := by simpa [c3] using g0
    have g1' : DataW.trod enc Try.prog W 0 (fun _ => true) true k 3 [v] = some y1 := by simpa [c3] using g1
    have g2' : DataW.trod enc Try.prog W 0 (fun _ => true) true k 26 [z] = some y2 := by simpa [c26] using g2
    obtain ⟨a0, e0, _, w0⟩ := DataW.trod_int Try.underlying3 g0'
    obtain ⟨a1, e1, _, w1⟩ := DataW.trod_int Try.underlying3 g1'
    obtain ⟨A, c, xs, rfl, hI, hc1, hc2, hw⟩ := open_ints_in Try.underlying26 Try.underlying3 c3 g2'
    simp only [List.cons.injEq, and_true] at e0 e1
    subst e0
    subst e1
    exact ⟨⟨a0, a1, A, c, xs⟩, hat, hI, ⟨hc1, hc2⟩, bounds_i64 w0, bounds_i64 w1, fun x hx => bounds_i64 (hw x hx)⟩
theorem src_one (w : World) (x : Value) (t : TypeId) (h : x.oneCell' = true) : Src (w.alloc (.cells #[x] t)) (some ⟨w.heap.size, 0, none⟩) 1 1 [x] := by
  refine ⟨rfl, ?_, ?_, ?_⟩
  · intro h; simp at h
  · intro ad hA j u hu
    obtain rfl := Option.some.inj hA
    exact cell_one_new w x t j u hu
  · intro u hu
    simp at hu; subst hu; exact h
/-- The tally as the statement keeps it. -/
abbrev tCells (t : Tal) : Array Value := #[.int .i64 t.came, .int .i64 t.went, .int .i64 t.refused, .int .i64 t.most]
/-- What holds while what comes is laid behind what waits. -/
def GrowAt (room : Int) (l xs : List Int) (base : Nat) (u : Value) (W0 : World) (v : Value) (m : Nat) (wx : World) : Prop :=
  ∃ (A : Option Addr) (c : Nat), m ≤ l.length ∧ (xs.length + m : Int) ≤ room ∧ v = .slice A (xs.length + m) c ∧ Off (fun x => u.ownBlock = some x) W0 wx ∧ wx.ownsRow base 3 1 v (xs.length + m) ((xs ++ l.take m).map (Value.int .i64)) ∧ (v.ownBlock = u.ownBlock ∨ ∃ x, v.ownBlock = some x ∧ W0.heap.size ≤ x)
def Grow (room : Int) (l xs : List Int) (base : Nat) (u : Value) (W0 : World) (v j : Value) (wx : World) : Prop := ∃ m : Nat, j = .int .i64 m ∧ GrowAt room l xs base u W0 v m wx
theorem _root_.Go.Proofs.Ytmmgicomidpmhaa.Que.far {W : World} {g : Nat} {t : Tal} {room : Int} {v : Value} {xs : List Int} (h : Que W g t room v xs) (p : Addr) (u : Value) (h1 : p.block ≠ g) (h2 : v.ownBlock ≠ some p.block) : Que (W.setCell p u) g t room v xs :=
  ⟨h.blk.far (fun e => h1 e.symm) u, ((Off.refl (fun k => k = p.block) W).put (p := p) (fun _ => rfl) u).own h.own (fun x hx he => h2 (by rw [hx, he]))⟩
theorem _root_.Go.Proofs.Ytmmgicomidpmhaa.Que.drew {W : World} {g : Nat} {t : Tal} {room : Int} {v : Value} {xs : List Int} (h : Que W g t room v xs) : Que W.drew g t room v xs := ⟨h.blk, h.own⟩
/-- What holds at each round's head. -/
def Inv (g : Nat) (room : Int) (k : Nat) (v : Value) (wr : World) : Prop :=
  ∃ t vq xs, Que wr g t room vq xs ∧ Blk wr (g + 1) 28 (tCells t) ∧ wr.ownsRow (g + 2) 3 1 v xs.length (xs.map (Value.int .i64)) ∧ (∀ x, v.ownBlock = some x → vq.ownBlock ≠ some x) ∧ (∀ x, vq.ownBlock = some x → x ≠ g + 1) ∧
    (xs.length : Int) ≤ room ∧ t.came = t.went + xs.length ∧ 0 ≤ t.came ∧ t.came ≤ 100 * k ∧ 0 ≤ t.went ∧ 0 ≤ t.refused ∧ t.refused ≤ 100 * k ∧ 0 ≤ t.most ∧ t.most ≤ room
theorem put_off {wc W' : World} {g : Nat} {t : Tal} {room : Int} {v : Value} {xs ys : List Int} {tc : Array Value} (h : Que wc g t room v xs) (hO : Off (fun x => x = g + 1) wc W') (hv : ∀ x, v.ownBlock = some x → x ≠ g + 1) (hB : Blk W' (g + 1) 28 tc)
    (A : Option Addr) (m c : Nat) (w0 : World) (hA : Ints w0 .i64 A ys) (hw0 : Below w0.heap.size w0 wc) (hg : w0.heap.size ≤ g) (hm : ys.length = m) (hmc : m ≤ c) (hbig : m ≤ 1000000) (h1 : 1 ≤ room) (h2 : room ≤ 10000) (h3 : (xs.length : Int) ≤ room)
    (b1 : 0 ≤ t.came ∧ t.came ≤ 1000000000000) (b2 : 0 ≤ t.refused ∧ t.refused ≤ 1000000000000) (b3 : 0 ≤ t.most ∧ t.most ≤ 1000000000000) (k : Nat) (hk : k = min m (room - xs.length).toNat) :
    Calls Try.prog 8 #[.pointer (some ⟨g, 0, none⟩), .slice A m c] W' fun e w' => e = .returned (.tuple #[.int .i64 k, .int .i64 (if k < m then 18 else 0)]) ∧ ∃ v', Que w' g ⟨t.came + k, t.went, t.refused + (m - k), max t.most (xs.length + k)⟩ room v' (xs ++ ys.take k) ∧ Blk w' (g + 1) 28 tc ∧ Off (fun x => x = g + 1 ∨ QS g v x) wc w' ∧
      (∀ x, v'.ownBlock = some x → x ≠ g + 1) ∧ (v'.ownBlock = v.ownBlock ∨ ∃ b, v'.ownBlock = some b ∧ wc.heap.size ≤ b) := by
  refine (put_any ⟨hO.blk h.blk (by omega), hO.own h.own (fun x hx he => hv x hx he)⟩ A m c (hA.keep (hw0.trans (hO.below (fun x hx he => by omega) hw0.size))) hm hmc hbig h1 h2 h3 b1 b2 b3 k hk).mono ?_
  rintro e w' ⟨rfl, v', hq, hof, hbk⟩
  have hs := hO.size
  have hl := hB.lt
  refine ⟨rfl, v', hq, hof.blk hB ?_, (hO.more (T := fun x => x = g + 1 ∨ QS g v x) (fun _ _ h => Or.inl h)).trans hof (fun _ _ h => .inr h), ?_, ?_⟩
  · rintro (h | h)
    · omega
    · exact hv _ h rfl
  · intro x hx
    rcases hbk with h | ⟨b, h, hb⟩
    · exact hv x (h ▸ hx)
    · rw [h] at hx; have := Option.some.inj hx; omega
  · rcases hbk with h | ⟨b, h, hb⟩
    · exact .inl h
    · exact .inr ⟨b, h, by omega⟩
theorem take_any {w : World} {g : Nat} {t : Tal} {room : Int} {v : Value} {xs : List Int} (h : Que w g t room v xs) (n : Int) (k : Nat) (hk : min (max n 0) (xs.length : Int) = k) (hl : xs.length ≤ 1000000) (hlo : -9223372036854775808 ≤ n) (hhi : n ≤ 9223372036854775807) (b1 : 0 ≤ t.went ∧ t.went ≤ 1000000000000) :
    Calls Try.prog 10 #[.pointer (some ⟨g, 0, none⟩), .int .i64 n] w fun e w' => ∃ A2 c2 v', e = .returned (.slice A2 k c2) ∧ Ints w' .i64 A2 (xs.take k) ∧ Que w' g { t with went := t.went + k } room v' (xs.drop k) ∧ Off (QS g v) w w' ∧ v'.ownBlock = v.ownBlock := by
  by_cases hz : n < 1 ∨ xs = []
  · have hk0 : k = 0 := by
      rcases hz with hz | hz
      · omega
      · subst hz; simp at hk; omega
    subst hk0
    refine (take_zero h n hz hl hlo hhi).mono ?_
    rintro e w' ⟨rfl, rfl⟩
    exact ⟨none, 0, v, rfl, .inl rfl, by simpa using h, Off.refl _ _, rfl⟩
  · have hz' : ¬ n < 1 ∧ ¬ xs = [] := by constructor <;> (intro hh; exact hz (by simp [hh]))
    have hpos : 0 < xs.length := List.length_pos_iff.mpr hz'.2
    refine (take_some h n k (by omega) (by omega) hl b1).mono ?_
    rintro e w' ⟨v2, v', rfl, hr, hq, hof, hv⟩
    have hlen : (xs.take k).length = k := by simp; omega
    obtain ⟨A2, c2, rfl, hI, _⟩ := ints_of_own hr
    exact ⟨A2, c2, v', rfl, hI, hq, hof, hv⟩
/-- What holds behind a Take. -/
structure Took (wr w3 : World) (g : Nat) (t : Tal) (room : Int) (vq vq3 : Value) (A2 A8 : Option Addr) (c2 c8 : Nat) (xs : List Int) (k : Nat) : Prop where
  que : Que w3 g { t with went := t.went + k } room vq3 (xs.drop k)
  off : Off (QS g vq) wr w3
  hv : vq3.ownBlock = vq.ownBlock
  row : w3.ownsRow (g + 2) 3 1 (.slice A8 xs.length c8) xs.length (xs.map (Value.int .i64))
  same : ∀ m, Calls Try.prog 9 #[.slice A2 k c2, .slice A8 k c8] (w3.drewN m) fun e w' => e = .returned (.bool true) ∧ ∃ m', w' = (w3.drewN m).drewN m'
theorem take_took {wr : World} {g : Nat} {t : Tal} {room : Int} {vq : Value} {xs : List Int} {A8 : Option Addr} {c8 : Nat} (h : Que wr g t room vq xs) (hr : wr.ownsRow (g + 2) 3 1 (.slice A8 xs.length c8) xs.length (xs.map (Value.int .i64))) (hd : ∀ x, (Value.slice A8 xs.length c8).ownBlock = some x → vq.ownBlock ≠ some x)
    (n : Int) (k : Nat) (hk : min (max n 0) (xs.length : Int) = k) (hl : xs.length ≤ 1000000) (hlo : -9223372036854775808 ≤ n) (hhi : n ≤ 9223372036854775807) (b1 : 0 ≤ t.went ∧ t.went ≤ 1000000000000) (m : Nat) :
    Calls Try.prog 10 #[.pointer (some ⟨g, 0, none⟩), .int .i64 n] (wr.drewN m) fun e w3 => ∃ A2 c2 vq3, e = .returned (.slice A2 k c2) ∧ Took wr w3 g t room vq vq3 A2 A8 c2 c8 xs k := by
  refine (take_any (w := wr.drewN m) ⟨h.blk.drewN m, h.own⟩ n k hk hl hlo hhi b1).mono ?_
  rintro e w3 ⟨A2, c2, vq3, rfl, hI, hq, hof, hv⟩
  have hoo : Off (QS g vq) wr w3 := ((Off.refl (QS g vq) wr).drewN m).trans hof (fun _ _ h => h)
  have hrow := hoo.own hr (fun x hx hh => by
    have h1 := hr.lt x hx
    rcases hh with hh | hh
    · omega
    · exact hd x hx hh)
  refine ⟨A2, c2, vq3, rfl, hq, hoo, hv, hrow, fun m' => ?_⟩
  obtain ⟨A9, c9, e9, h9, _⟩ := ints_of_own hrow
  cases e9
  exact same_yes A2 A8 k c2 c8 (xs.take k) xs (w3.drewN m') hI h9 (by rw [List.length_take]; omega) (by omega) (by rw [List.take_take, Nat.min_self]) (by omega)
/-- A literal with no element is a row of one's own. -/
theorem own_empty (w : World) (base : Nat) (e : TypeId) (size : Nat) (hb : base ≤ w.heap.size) : (w.alloc (.cells #[] e)).ownsRow base e size (.slice (some ⟨w.heap.size, 0, none⟩) 0 0) 0 [] :=
  ⟨by simp, .inr ⟨w.heap.size, 0, #[], rfl, hb, heap_alloc_new w _, Nat.le_refl _, by unfold maxLen; omega, by simp, by simp⟩⟩
/-- What stands behind the first n of a row of one's own, as a source. -/
theorem src_drop {w W : World} {base : Nat} {g cap n : Nat} {xs : List Int} (h : w.ownsRow base 3 1 (.slice (some ⟨g, 0, none⟩) xs.length cap) xs.length (xs.map (Value.int .i64))) (hn : n ≤ xs.length) (hW : Below w.heap.size w W) :
    Src W (some ⟨g, n, none⟩) (xs.length - n) 1 ((xs.drop n).map (Value.int .i64)) := by
  obtain ⟨A, c, e, hI, _⟩ := ints_of_own h
  cases e
  refine ⟨by rw [List.length_map, List.length_drop, Nat.mul_one], (fun h => by cases h), fun ad hA j u hu => ?_, ints_oneCell .i64 _⟩
  obtain rfl := Option.some.inj hA
  rw [addr_add]
  rcases hI with h0 | ⟨g', off, h1, h2, h3⟩
  · subst h0; simp at hu
  · cases Option.some.inj h1
    rw [List.getElem?_map, List.getElem?_drop] at hu
    have hj : n + j < xs.length := by
      rcases Nat.lt_or_ge (n + j) xs.length with h | h
      · exact h
      · rw [List.getElem?_eq_none h] at hu; cases hu
    have := (hW.cell (p := ⟨g, n + j, none⟩) h2).trans (by simpa using h3 (n + j) hj)
    rw [this]
    rw [List.getElem?_eq_getElem hj] at hu
    rw [← hu]
    simp [List.getD, List.getElem?_eq_getElem hj]
/-- The same, at the address that a cut gives. -/
theorem src_cut {w W : World} {base : Nat} {A8 : Option Addr} {c8 n : Nat} {xs : List Int} (h : w.ownsRow base 3 1 (.slice A8 xs.length c8) xs.length (xs.map (Value.int .i64))) (hn : n ≤ xs.length) (hW : Below w.heap.size w W) :
    Src W (if c8 = n then A8 else Option.map (fun x => x.add n) A8) (xs.length - n) 1 ((xs.drop n).map (Value.int .i64)) := by
  have hz : ∀ A, (A = none → xs.length - n = 0) → xs.length - n = 0 → Src W A (xs.length - n) 1 ((xs.drop n).map (Value.int .i64)) := by
    intro A hA h0
    have hd : xs.drop n = [] := List.drop_eq_nil_of_le (by omega)
    rw [hd, h0]
    exact ⟨rfl, fun _ => rfl, (fun ad _ j u hu => by simp at hu), by simp⟩
  rcases h.2 with ⟨e, h0⟩ | ⟨g, cap, cur, e, _, _, hc, _⟩
  · exact hz _ (fun _ => by omega) (by omega)
  · cases e
    split
    · rename_i hcn
      exact hz _ (fun _ => by omega) (by omega)
    · have := src_drop h hn hW
      rwa [show Option.map (fun x => x.add n) (some (⟨g, 0, none⟩ : Addr)) = some ⟨g, n, none⟩ from by rw [Option.map_some, addr_add, Nat.zero_add]]
theorem took_next {wr w3 w5 : World} {g : Nat} {t : Tal} {room : Int} {vq vq3 : Value} {A2 A8 : Option Addr} {c2 c8 : Nat} {xs : List Int} {k : Nat} {tc : Array Value} (h : Took wr w3 g t room vq vq3 A2 A8 c2 c8 xs k) (hB : Blk wr (g + 1) 28 tc) (hfar : ∀ x, vq.ownBlock = some x → x ≠ g + 1) (m : Nat) {v' : Value}
    (hgr : ((w3.drewN m).alloc (.cells #[] 3)).grownBy w5 (Value.slice (some ⟨(w3.drewN m).heap.size, 0, none⟩) 0 0).ownBlock) (hnew : v'.ownBlock = (Value.slice (some ⟨(w3.drewN m).heap.size, 0, none⟩) 0 0).ownBlock ∨ v'.ownBlock = some ((w3.drewN m).alloc (.cells #[] 3)).heap.size) :
    Que w5 g { t with went := t.went + k } room vq3 (xs.drop k) ∧ Blk w5 (g + 1) 28 tc ∧ Off (QS g vq) wr w5 ∧ (∀ x, v'.ownBlock = some x → vq3.ownBlock ≠ some x) ∧ (∀ x, vq3.ownBlock = some x → x ≠ g + 1) := by
  have hs := h.off.size
  have hO : Off (fun _ => False) w3 w5 := (((Off.refl (fun _ => False) w3).drewN m).alloc _).grown hgr (fun k hk hl => by
    have := Option.some.inj hk
    subst this
    exact absurd hl (Nat.lt_irrefl _))
  have hO2 := h.off.trans hO (fun _ _ h => h.elim)
  refine ⟨⟨hO.blk h.que.blk (fun h => h), hO.own h.que.own (fun _ _ h => h)⟩, hO2.blk hB ?_, hO2, ?_, fun x hx => hfar x (h.hv ▸ hx)⟩
  · rintro (e | e)
    · omega
    · exact hfar _ e rfl
  · intro x hx hq
    have hl := (h.que.own.lt x hq).2
    rcases hnew with e | e
    · rw [e] at hx
      have h1 : w3.heap.size = x := Option.some.inj hx
      omega
    · rw [e] at hx
      have h1 : ((w3.drewN m).alloc (.cells #[] 3)).heap.size = x := Option.some.inj hx
      have h2 : ((w3.drewN m).alloc (.cells #[] 3)).heap.size = w3.heap.size + 1 := by simp
      omega
/-- What holds behind a Remove that found. -/
structure Gone (w wr w3 : World) (g : Nat) (t : Tal) (room : Int) (vq vq3 : Value) (A8 : Option Addr) (c8 : Nat) (xs : List Int) (k : Nat) : Prop where
  que : Que w3 g { t with went := t.went + 1 } room vq3 (xs.take k ++ xs.drop (k + 1))
  off : Off (QS g vq) wr w3
  hv : vq3.ownBlock = vq.ownBlock
  row : w3.ownsRow (g + 2) 3 1 (.slice A8 xs.length c8) xs.length (xs.map (Value.int .i64))
  ints : Ints w3 .i64 A8 xs
  below : Below w.heap.size w w3
theorem remove_gone {w wr : World} {g : Nat} {t : Tal} {room : Int} {vq : Value} {xs : List Int} {A8 : Option Addr} {c8 : Nat} (h : Que wr g t room vq xs) (hw : Below w.heap.size w wr) (hg : w.heap.size ≤ g) (hr : wr.ownsRow (g + 2) 3 1 (.slice A8 xs.length c8) xs.length (xs.map (Value.int .i64))) (hd : ∀ x, (Value.slice A8 xs.length c8).ownBlock = some x → vq.ownBlock ≠ some x)
    (k : Nat) (hk : k < xs.length) (hl : xs.length ≤ 1000000) (b1 : 0 ≤ t.went ∧ t.went ≤ 1000000000000) (m : Nat) :
    Calls Try.prog 11 #[.pointer (some ⟨g, 0, none⟩), .int .i64 k] (wr.drewN m) fun e w3 => ∃ vq3, e = .returned (.tuple #[.int .i64 (xs.getD k 0), .bool true]) ∧ Gone w wr w3 g t room vq vq3 A8 c8 xs k := by
  refine (remove_in (w := wr.drewN m) ⟨h.blk.drewN m, h.own⟩ k hk hl b1).mono ?_
  rintro e w3 ⟨vq3, rfl, hq, hof, hv⟩
  have hoo : Off (QS g vq) wr w3 := ((Off.refl (QS g vq) wr).drewN m).trans hof (fun _ _ h => h)
  have hrow := hoo.own hr (fun x hx hh => by
    have h1 := hr.lt x hx
    rcases hh with hh | hh
    · omega
    · exact hd x hx hh)
  obtain ⟨A9, c9, e9, h9, _⟩ := ints_of_own hrow
  cases e9
  exact ⟨vq3, rfl, hq, hoo, hv, hrow, h9, hw.trans (hoo.below (fun x hx hh => by
    rcases hh with hh | hh
    · omega
    · have := (h.own.lt x hh).1; omega) hw.size)⟩
theorem gone_next {w wr w3 W w5 w6 : World} {g : Nat} {t : Tal} {room : Int} {vq vq3 : Value} {A8 : Option Addr} {c8 : Nat} {xs : List Int} {k : Nat} {tc : Array Value} (h : Gone w wr w3 g t room vq vq3 A8 c8 xs k) (hB : Blk wr (g + 1) 28 tc) (hfar : ∀ x, vq.ownBlock = some x → x ≠ g + 1) {u v5 v6 : Value}
    (hW : Off (fun _ => False) w3 W) (hu : u.ownBlock = some w3.heap.size) (hgr5 : W.grownBy w5 u.ownBlock) (hn5 : v5.ownBlock = u.ownBlock ∨ v5.ownBlock = some W.heap.size) (hgr6 : w5.grownBy w6 v5.ownBlock) (hn6 : v6.ownBlock = v5.ownBlock ∨ v6.ownBlock = some w5.heap.size) :
    Que w6 g { t with went := t.went + 1 } room vq3 (xs.take k ++ xs.drop (k + 1)) ∧ Blk w6 (g + 1) 28 tc ∧ Off (QS g vq) wr w6 ∧ (∀ x, v6.ownBlock = some x → vq3.ownBlock ≠ some x) ∧ (∀ x, vq3.ownBlock = some x → x ≠ g + 1) := by
  have hs := h.off.size
  have hO5 : Off (fun _ => False) w3 w5 := hW.grown hgr5 (fun k hk hl => by rw [hu] at hk; have := Option.some.inj hk; omega)
  have hW2 := hW.size
  have h5 := hO5.size
  have hv5 : ∀ x, v5.ownBlock = some x → w3.heap.size ≤ x := by
    intro x hx
    rcases hn5 with e | e
    · rw [e, hu] at hx; have := Option.some.inj hx; omega
    · rw [e] at hx; have := Option.some.inj hx; omega
  have hO : Off (fun _ => False) w3 w6 := hO5.grown hgr6 (fun k hk hl => by have := hv5 k hk; omega)
  have hO2 := h.off.trans hO (fun _ _ h => h.elim)
  refine ⟨⟨hO.blk h.que.blk (fun h => h), hO.own h.que.own (fun _ _ h => h)⟩, hO2.blk hB ?_, hO2, ?_, fun x hx => hfar x (h.hv ▸ hx)⟩
  · rintro (e | e)
    · omega
    · exact hfar _ e rfl
  · intro x hx hq
    have hl := (h.que.own.lt x hq).2
    rcases hn6 with e | e
    · rw [e] at hx; have := hv5 x hx; omega
    · rw [e] at hx; have := Option.some.inj hx; omega
theorem below_app {w3 W w5 : World} {u : Value} (h : W.grownBy w5 u.ownBlock) (hu : u.ownBlock = some w3.heap.size) (hW : Off (fun _ => False) w3 W) : Below w3.heap.size w3 w5 :=
  (hW.grown h (fun k hk hl => by rw [hu] at hk; have := Option.some.inj hk; omega)).below (fun _ _ h => h) (Nat.le_refl _)
end Go.Proofs.Ytmmgicomidpmhaa.QueuePlays
