/- A file's bytes grow: appending, laying, and what stays. -/
import Derived.Test.YtlhfamdandpkgaaDsg
import Derived.WalkSpells
namespace Go.Proofs.Ytlhfamdandpkgaa
open Go.ChangeShapes Go.WideShapes Go.ChangeAt Go.RowKit Go.Maps
section
variable {P : Program} (w : World)
theorem run_append_str_at (base : Nat) (t u ty e : TypeId) (i : TypeInfo) (ht : P.underlying t = some (.slice e)) (hu : P.underlying u = some .string) (hi : P.info? e = some i) (hz : i.zero = some (.int .u8 0))
    (hsize : i.size = 1) (hby : i.bytes = 1) (v : Value) (n : Nat) (xs : List Value) (hown : w.ownsRow base e 1 v n xs) (s : ByteArray)
    (h63 : n + s.size ≤ maxLen) (hbytes : n + s.size ≤ 140737488355328) (hbase : base ≤ w.heap.size) :
    ∃ v' w', (Builtin.append_ #[t, u] ty #[v, .string s]).run P w = .ok v' w' ∧ w'.ownsRow base e 1 v' (n + s.size) (xs ++ Lib.strCells s) ∧ w.grownBy w' v.ownBlock ∧
      (∀ j, v'.ownBlock = some j → v.ownBlock = some j ∨ w.heap.size ≤ j) := by
  obtain ⟨v', w', hr, h2, h3, _⟩ := Lib.run_append_own_string (P := P) w base t u ty e i ht hu hi hz hsize hby v n xs hown s h63 hbytes hbase
  refine ⟨v', w', hr, h2, h3, fun j hj => ?_⟩
  have hxl : xs.length = n := by simpa using hown.1
  rcases hown.2 with ⟨rfl, rfl⟩ | ⟨g, cap, cur, rfl, hbg, hg, hnc, hcm, hcs, htake⟩
  · obtain ⟨v2, w2, hr2, h22, _⟩ := Lib.run_append_own_string (P := P) w w.heap.size t u ty e i ht hu hi hz hsize hby (.slice none 0 0) 0 xs ⟨hown.1, .inl ⟨rfl, rfl⟩⟩ s h63 hbytes (Nat.le_refl _)
    rw [hr2] at hr
    obtain ⟨rfl, rfl⟩ := (by simpa using hr : v2 = v' ∧ w2 = w')
    exact .inr (World.ownsRow.lt h22 j hj).1
  · by_cases hroom : n + s.size ≤ cap
    · have hcs' : cur.size = cap := by simpa using hcs
      rw [Lib.run_append_room_string (P := P) w t u ty e i ht hu hi hsize g n cap cur hg s hroom (by omega)] at hr
      obtain ⟨rfl, rfl⟩ := (by simpa using hr)
      exact .inl hj
    · have holds : ∀ j u, xs[j]? = some u → w.cell? ((⟨g, 0, none⟩ : Addr).add j) = some u := hown.cells (g := g) rfl
      have hsmall : n + s.size ≤ 9223372036854775807 := by simp only [maxLen] at h63; omega
      rw [Lib.run_append_grow_string (P := P) w t u ty e i (.int .u8 0) ht hu hi hz ⟨g, 0, none⟩ n cap xs (by rw [hsize]; simpa using hxl) holds s (by omega) (by omega) (by rw [hby]; exact growslice_fits (by omega) (by omega))] at hr
      obtain ⟨rfl, rfl⟩ := (by simpa using hr)
      exact .inr (by simp [Value.ownBlock] at hj; omega)
theorem wpList_append_str {ops : Array Oper} {rest : List Oper} {o : Oper} {a : Act} {Q : Exit → Act → World → Prop} (hgd : o.guard = none) (sl x : Operand) (t u : TypeId)
    (ho : o.op = .call { callee := .builtin .append, args := #[sl, x], argTypes := #[t, u] })
    (base : Nat) (e : TypeId) (i : TypeInfo) (ht : P.underlying t = some (.slice e)) (hu : P.underlying u = some .string) (hi : P.info? e = some i) (hz : i.zero = some (.int .u8 0))
    (hsize : i.size = 1) (hby : i.bytes = 1) (v : Value) (n : Nat) (xs : List Value) (hs : a.eval sl = v) (hown : w.ownsRow base e 1 v n xs) (s : ByteArray) (hx : a.eval x = .string s)
    (h63 : n + s.size ≤ maxLen) (hbytes : n + s.size ≤ 140737488355328) (hbase : base ≤ w.heap.size)
    (h : ∀ v' w', w'.ownsRow base e 1 v' (n + s.size) (xs ++ Lib.strCells s) → w.grownBy w' v.ownBlock → (∀ j, v'.ownBlock = some j → v.ownBlock = some j ∨ w.heap.size ≤ j) → wpList P ops Q rest (a.put o.dst v') w') : wpList P ops Q (o :: rest) a w := by
  refine wpList_plain hgd fun K hK => ?_
  obtain ⟨v', w', hr, h2, h3, h4⟩ := run_append_str_at (P := P) w base t u o.type e i ht hu hi hz hsize hby v n xs hown s h63 hbytes hbase
  unfold Oper.wp execOp
  simp only [ho, resolve, invoke, builtin, Sem.run_bind, Sem.run_pure, Result.andThen_ok, List.map_toArray, List.map_cons, List.map_nil, hs, hx, hr]
  exact hK _ _ (h v' w' h2 h3 h4)
end
/-- Old memory, and blocks that are no disk's, behind a turn of a disk's blocks. -/
theorem Fra.off {base : Nat} {S : Nat → Prop} {w w' : World} (ho : Off S w w') (hs : base ≤ w.heap.size) (hS : ∀ i, S i → base ≤ i ∧ ∀ cs t fr, w.heap[i]? = some (Obj.cells cs t fr) → dty t = true) : Fra base w w' :=
  ⟨ho.below (fun k hk e => by have := (hS k e).1; omega) hs, fun i cs2 t fr hi ht => (ho.block i (by
    rcases Nat.lt_or_ge i w.heap.size with h | h
    · exact h
    · rw [Array.getElem?_eq_none h] at hi; cases hi) (fun e => by
    rw [(hS i e).2 cs2 t fr hi] at ht
    cases ht)).trans hi⟩
theorem Fra.size {base : Nat} {w w' : World} (h : Fra base w w') : w.heap.size ≤ w'.heap.size := h.below.size
theorem Fra.map {base b : Nat} {w w' : World} {es : Array MapEntry} {c : Nat} (hg : w.grownBy w' (some b)) (hb : w.heap[b]? = some (.map es c)) (hs : base ≤ w.heap.size) (hbb : base ≤ b) : Fra base w w' :=
  Fra.off (S := fun i => i = b) ((Off.refl (fun i => i = b) w).grown hg (fun k hk _ => (Option.some.inj hk).symm)) hs (fun i hi => ⟨by omega, fun cs t fr h => by rw [hi, hb] at h; cases h⟩)
/-- A slice of texts that lies in no block of a disk's. -/
def StrT (w : World) (A : Option Addr) (ss : List ByteArray) : Prop :=
  ss = [] ∨ ∃ b off, A = some ⟨b, off, none⟩ ∧ (∃ cs t fr, w.heap[b]? = some (Obj.cells cs t fr) ∧ dty t = false) ∧ ∀ i (_ : i < ss.length), w.cell? ⟨b, off + i, none⟩ = some (.string (ss.getD i ⟨#[]⟩))
theorem StrT.fra {base : Nat} {w w' : World} {A : Option Addr} {ss : List ByteArray} (h : StrT w A ss) (hf : Fra base w w') : StrT w' A ss := by
  rcases h with h | ⟨b, off, h1, ⟨cs, t, fr, h2, h3⟩, h4⟩
  · exact .inl h
  · have hh := hf.stay b cs t fr h2 h3
    exact .inr ⟨b, off, h1, ⟨cs, t, fr, hh, h3⟩, fun i hi => (World.cell?_of_block (a := ⟨b, off + i, none⟩) (hh.trans h2.symm)).trans (h4 i hi)⟩
theorem StrT.strs {w : World} {A : Option Addr} {ss : List ByteArray} (h : StrT w A ss) : Strs w A ss := by
  rcases h with h | ⟨b, off, h1, ⟨cs, t, fr, h2, h3⟩, h4⟩
  · exact .inl h
  · refine .inr ⟨b, off, h1, ?_, h4⟩
    rcases Nat.lt_or_ge b w.heap.size with h | h
    · exact h
    · rw [Array.getElem?_eq_none h] at h2; cases h2
theorem StrT.ne {w : World} {A : Option Addr} {ss : List ByteArray} (h : StrT w A ss) {d t : Nat} {cs : Array Value} (hd : Blk w d t cs) (ht : dty t = true) : ∀ b off, A = some ⟨b, off, none⟩ → ss ≠ [] → b ≠ d := by
  rintro b off rfl hne rfl
  rcases h with h | ⟨b2, off2, h1, ⟨cs2, t2, fr, h2, h3⟩, h4⟩
  · exact hne h
  · cases h1
    unfold Blk at hd
    rw [hd] at h2
    simp at h2
    obtain ⟨_, rfl, _⟩ := h2
    rw [ht] at h3; cases h3
theorem StrT.one (W : World) (N : Nat) (s : ByteArray) (e : W.heap.size = N) : StrT (W.alloc (.cells #[.string s] 9)) (some ⟨N, 0, none⟩) [s] := by
  subst e
  refine .inr ⟨W.heap.size, 0, rfl, ⟨_, _, _, Blk.new W 9 #[.string s], by decide⟩, fun i hi => ?_⟩
  have : i = 0 := by simp at hi; omega
  subst this; rw [(Blk.new W 9 #[.string s]).cell]; rfl
theorem setF_self {fl : List FRec} (hn : (fl.map FRec.nm).Nodup) {nm : List UInt8} {f : FRec} (hf : fget fl nm = some f) : setF fl f = fl := by
  have h := fget_some hf
  unfold setF
  refine (List.map_congr_left fun x hx => ?_).trans (List.map_id fl)
  by_cases e : x.nm = f.nm
  · rw [if_pos e]
    have := fget_mem hn x hx
    rw [e, h.2, hf] at this
    exact Option.some.inj this
  · rw [if_neg e]; rfl
theorem setF_setF (fl : List FRec) {a c : FRec} (h : a.nm = c.nm) : setF (setF fl a) c = setF fl c := by
  unfold setF
  rw [List.map_map]
  apply List.map_congr_left
  intro x _
  by_cases e : x.nm = c.nm
  · simp [e, h]
  · simp [e, h]
set_option maxRecDepth 100000 in
set_option maxHeartbeats 4000000 in
theorem lay_any (d b g : Nat) (D : DataW Unit) (p : Pw) (s : ByteArray) (w : World) (hB : Blk w d 67 (p.cells b)) (hown : w.ownsMap Try.prog 9 Rp b (Maps.size D) D) (hn : Maps.size D < maxLen) (hs : s.size ≤ maxLen) :
    Calls Try.prog 44/-f-/ #[.pointer (some ⟨d, 0, none⟩), .string s, .pointer (some ⟨g, 0, none⟩)] w fun e w' => e = .returned (.tuple #[]) ∧ w'.ownsMap Try.prog 9 Rp b (Maps.size D + 1) (D.put (.string s.data.toList) (.lit (.int .i64 g))) ∧ w.grownBy w' (some b) := by
  obtain ⟨c0, c1, c2, c3, c4, c5, hf, hlt⟩ := blk6 hB
  clear hB hf c0 c1 c2 c3 c4
  have hen := run_eql_map_nil w 63 9 72 (some b) Try.underlying63
  go_enter Try.func44, Try.ntmps44
  go_wp2_with (first
    | (at_mapUpdate; refine wpList_mapUpdate_own _ rfl _ _ _ 63 rfl 9 72 (string_keyed Try.underlying9) Try.underlying63 Rp b (Maps.size D) D rfl hown hn _ _ (.string s.data.toList) rfl rfl (key_str Try.underlying9 s hs) (.lit (.int .i64 g)) [] rfl ?_; intro w1 hown1 hg1)
    | go_in)
  go_end0
  exact ⟨rfl, hown1, hg1⟩
end Go.Proofs.Ytlhfamdandpkgaa
