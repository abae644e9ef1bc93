/- A disk with one file: what each use does. -/
import Derived.Test.YtlhfamdandpkgaaDsk
namespace Go.Proofs.Ytlhfamdandpkgaa
open Go.ChangeShapes Go.WideShapes Go.ChangeAt Go.RowKit Go.Maps
/-- The power is on, and unarmed. -/
def Pok (p : Pw) (room u : Int) : Prop := p.off = false ∧ p.armed = false ∧ p.room = room ∧ p.uses = u
theorem Pok.use {p : Pw} {room u : Int} (h : Pok p room u) (h0 : 0 ≤ u) (h1 : u ≤ 1000000) : (useP p).1 = true ∧ Pok (useP p).2 room (u + 1) := by
  obtain ⟨a, b, c, e⟩ := h
  have e2 : useP p = (true, { p with uses := wrap64 (p.uses + 1) }) := by unfold useP; simp [a, b]
  rw [e2]
  refine ⟨rfl, a, b, c, ?_⟩
  show wrap64 (p.uses + 1) = u + 1
  rw [e]
  exact IntWalk.wrap64_in _ (by omega)
theorem Pok.begin {p : Pw} {room u : Int} (h : Pok p room u) (h0 : 0 ≤ u) (h1 : u ≤ 1000000) {ss : List ByteArray} (hm : mayB ss = true) : beginE p ss = 0 := by
  unfold beginE
  rw [if_neg (by rw [(h.use h0 h1).1]; simp), if_pos hm]
theorem Pok.roo {p : Pw} {room u : Int} (h : Pok p room u) (h0 : 0 ≤ room) (h1 : room ≤ 16777216) : Roo p := by unfold Roo; rw [h.2.2.1]; exact ⟨h0, h1⟩
theorem mayB_one {s : ByteArray} (h0 : 0 < s.size) (h1 : s.size ≤ 20) : mayB [s] = true := by simp [mayB, h0, h1]
theorem fget_one (nm dat : List UInt8) (k : Nat) : fget [⟨nm, dat, k⟩] nm = some ⟨nm, dat, k⟩ := by unfold fget; simp
theorem setF_one (nm dat dat' : List UInt8) (k k' : Nat) : setF [⟨nm, dat, k⟩] ⟨nm, dat', k'⟩ = [⟨nm, dat', k'⟩] := by simp [setF]
theorem insF_nil (f : FRec) : insF [] f = [f] := by simp [insF]
theorem usedF_one (f : FRec) : usedF [f] = f.dat.length := by simp [usedF]
theorem fit_ok {p : Pw} {fl : List FRec} {nm : List UInt8} {size more : Int} (h1 : size ≤ 1048576) (h2 : fl.length < 100) (h3 : more ≤ p.room - usedF fl) : fitE p fl nm size more = 0 := by
  unfold fitE
  rw [if_neg (by rintro (h | ⟨_, h⟩) <;> omega), if_neg (by omega)]
theorem app_new {p : Pw} {room u : Int} (h : Pok p room u) (h0 : 0 ≤ u) (h1 : u ≤ 1000000) {s : ByteArray} (s0 : 0 < s.size) (s1 : s.size ≤ 20) {ss : List ByteArray} (hl : (catL ss).length ≤ 1048576) (hr : ((catL ss).length : Int) ≤ room) :
    appE p [] s ss = 0 ∧ appF p [] s ss = [⟨s.data.toList, catL ss, 0⟩] := by
  have hd : datL [] s.data.toList = 0 := rfl
  have e : appE p [] s ss = 0 := by
    unfold appE
    rw [if_pos (h.begin h0 h1 (mayB_one s0 s1)), hd]
    refine fit_ok (by omega) (by simp) ?_
    rw [(h.use h0 h1).2.2.2.1]
    simpa [usedF] using hr
  refine ⟨e, ?_⟩
  unfold appF
  rw [e, if_pos rfl]
  have e2 : hasF [] s.data.toList = [⟨s.data.toList, [], 0⟩] := by unfold hasF; rw [if_pos (show fget [] s.data.toList = none from rfl), insF_nil]
  rw [e2, setF_one]
  rfl
theorem app_one {p : Pw} {room u : Int} (h : Pok p room u) (h0 : 0 ≤ u) (h1 : u ≤ 1000000) {s : ByteArray} (s0 : 0 < s.size) (s1 : s.size ≤ 20) {dat : List UInt8} {k : Nat} {ss : List ByteArray} (hl : dat.length + (catL ss).length ≤ 1048576) (hr : ((dat.length + (catL ss).length : Nat) : Int) ≤ room) :
    appE p [⟨s.data.toList, dat, k⟩] s ss = 0 ∧ appF p [⟨s.data.toList, dat, k⟩] s ss = [⟨s.data.toList, dat ++ catL ss, k⟩] := by
  have hg := fget_one s.data.toList dat k
  have hd : datL [⟨s.data.toList, dat, k⟩] s.data.toList = dat.length := by simp [datL, hg]
  have e : appE p [⟨s.data.toList, dat, k⟩] s ss = 0 := by
    unfold appE
    rw [if_pos (h.begin h0 h1 (mayB_one s0 s1)), hd]
    refine fit_ok (by omega) (by simp) ?_
    rw [(h.use h0 h1).2.2.2.1, usedF_one]
    simp only; omega
  refine ⟨e, ?_⟩
  unfold appF
  rw [e, if_pos rfl]
  have e2 : hasF [⟨s.data.toList, dat, k⟩] s.data.toList = [⟨s.data.toList, dat, k⟩] := by unfold hasF; rw [hg]; rfl
  rw [e2, setF_one]
  simp [datF, keptL, hg]
theorem sync_one {p : Pw} {room u : Int} (h : Pok p room u) (h0 : 0 ≤ u) (h1 : u ≤ 1000000) {s : ByteArray} (s0 : 0 < s.size) (s1 : s.size ≤ 20) {dat : List UInt8} {k : Nat} :
    syncE p [⟨s.data.toList, dat, k⟩] [s] = 0 ∧ syncF p [⟨s.data.toList, dat, k⟩] [s] = [⟨s.data.toList, dat, dat.length⟩] := by
  have hg := fget_one s.data.toList dat k
  have e : syncE p [⟨s.data.toList, dat, k⟩] [s] = 0 := by
    unfold syncE
    rw [if_pos (h.begin h0 h1 (mayB_one s0 s1)), if_pos (by simp [allF, hg])]
  refine ⟨e, ?_⟩
  unfold syncF
  rw [e, if_pos rfl]
  show keepF _ _ = _
  unfold keepF
  rw [hg]
  exact setF_one _ _ _ _ _
theorem StrT.two (W : World) (N : Nat) (s t : ByteArray) (e : W.heap.size = N) : StrT (W.alloc (.cells #[.string s, .string t] 9)) (some ⟨N, 0, none⟩) [s, t] := by
  subst e
  refine .inr ⟨W.heap.size, 0, rfl, ⟨_, _, _, Blk.new W 9 #[.string s, .string t], by decide⟩, fun i hi => ?_⟩
  have : i = 0 ∨ i = 1 := by simp at hi; omega
  rcases this with rfl | rfl <;> (rw [(Blk.new W 9 #[.string s, .string t]).cell]; rfl)
theorem Fra.al {base : Nat} (w : World) (o : Obj) (h : base ≤ w.heap.size) : Fra base w (w.alloc o) := Fra.of h (below_al w o)
/-- A disk of one file, at work. -/
def One (w0 w : World) (d : Nat) (room u : Int) (fl : List FRec) : Prop := ∃ p, Pok p room u ∧ Dsk w w0.heap.size d p fl ∧ Fra w0.heap.size w0 w
theorem One.size {w0 w : World} {d : Nat} {room u : Int} {fl : List FRec} (h : One w0 w d room u fl) : w0.heap.size ≤ w.heap.size := by
  obtain ⟨p, _, _, hf⟩ := h; exact hf.size
theorem One.step {w0 w w' : World} {d : Nat} {room u : Int} {fl : List FRec} (h : One w0 w d room u fl) (hb : Below w.heap.size w w') : One w0 w' d room u fl := by
  obtain ⟨p, h1, h2, h3⟩ := h
  exact ⟨p, h1, h2.below hb, h3.trans (Fra.of h3.size hb)⟩
theorem One.append {w0 w : World} {d : Nat} {room u : Int} (h : One w0 w d room u []) (h0 : 0 ≤ u) (h1 : u ≤ 1000) (r0 : 0 ≤ room) (r1 : room ≤ 1000000) (s : ByteArray) (s0 : 0 < s.size) (s1 : s.size ≤ 20) (A : Option Addr) (n c : Nat) (ss : List ByteArray) (hn : ss.length = n) (hl : n ≤ 1000) (hA : StrT w A ss) (hr : ((catL ss).length : Int) ≤ room) :
    Calls Try.prog 20/-f-/ #[.pointer (some ⟨d, 0, none⟩), .string s, .slice A n c] w fun e w' => e = .returned (.int .i64 0) ∧ One w0 w' d room (u + 1) [⟨s.data.toList, catL ss, 0⟩] := by
  subst hn
  obtain ⟨p, hp, hD, hf⟩ := h
  have ha := app_new hp h0 (by omega) s0 s1 (ss := ss) (by omega) hr
  refine (append_any w0.heap.size d p [] s A c ss w hD (hp.roo r0 (by omega)) hA (by unfold maxLen; omega) (by omega) (by omega)).mono ?_
  rintro e w' ⟨rfl, hD', hf'⟩
  rw [ha.1]
  rw [ha.2] at hD'
  exact ⟨rfl, _, (hp.use h0 (by omega)).2, hD', hf.trans hf'⟩
theorem One.more {w0 w : World} {d : Nat} {room u : Int} {s : ByteArray} {dat : List UInt8} {k : Nat} (h : One w0 w d room u [⟨s.data.toList, dat, k⟩]) (h0 : 0 ≤ u) (h1 : u ≤ 1000) (r0 : 0 ≤ room) (r1 : room ≤ 1000000) (s0 : 0 < s.size) (s1 : s.size ≤ 20) (A : Option Addr) (n c : Nat) (ss : List ByteArray) (hn : ss.length = n) (hl : n ≤ 1000) (hA : StrT w A ss) (hr : ((dat.length + (catL ss).length : Nat) : Int) ≤ room) :
    Calls Try.prog 20/-f-/ #[.pointer (some ⟨d, 0, none⟩), .string s, .slice A n c] w fun e w' => e = .returned (.int .i64 0) ∧ One w0 w' d room (u + 1) [⟨s.data.toList, dat ++ catL ss, k⟩] := by
  subst hn
  obtain ⟨p, hp, hD, hf⟩ := h
  have ha := app_one hp h0 (by omega) s0 s1 (dat := dat) (k := k) (ss := ss) (by omega) hr
  refine (append_any w0.heap.size d p _ s A c ss w hD (hp.roo r0 (by omega)) hA (by unfold maxLen; omega) (by omega) (by omega)).mono ?_
  rintro e w' ⟨rfl, hD', hf'⟩
  rw [ha.1]
  rw [ha.2] at hD'
  exact ⟨rfl, _, (hp.use h0 (by omega)).2, hD', hf.trans hf'⟩
theorem One.sync {w0 w : World} {d : Nat} {room u : Int} {s : ByteArray} {dat : List UInt8} {k : Nat} (h : One w0 w d room u [⟨s.data.toList, dat, k⟩]) (h0 : 0 ≤ u) (h1 : u ≤ 1000) (s0 : 0 < s.size) (s1 : s.size ≤ 20) (A : Option Addr) (c : Nat) (hA : StrT w A [s]) :
    Calls Try.prog 23/-f-/ #[.pointer (some ⟨d, 0, none⟩), .slice A 1 c] w fun e w' => e = .returned (.int .i64 0) ∧ One w0 w' d room (u + 1) [⟨s.data.toList, dat, dat.length⟩] := by
  obtain ⟨p, hp, hD, hf⟩ := h
  have ha := sync_one hp h0 (by omega) s0 s1 (dat := dat) (k := k)
  refine (sync_any w0.heap.size d p _ A c [s] w hD hA (by simp) (fun x hx => by obtain rfl := List.mem_singleton.1 hx; unfold maxLen; omega)).mono ?_
  rintro e w' ⟨rfl, hD', hf'⟩
  rw [ha.1]
  rw [ha.2] at hD'
  exact ⟨rfl, _, (hp.use h0 (by omega)).2, hD', hf.trans hf'⟩
theorem One.crash {w0 w : World} {d : Nat} {room u : Int} {f : FRec} (h : One w0 w d room u [f]) (A : Option Addr) (c : Nat) (x : Int) (hA : IntT w A [x]) :
    Calls Try.prog 24/-f-/ #[.pointer (some ⟨d, 0, none⟩), .slice A 1 c] w fun e w' => e = .returned (.tuple #[]) ∧ One w0 w' d room u [stayF f x] := by
  obtain ⟨p, hp, hD, hf⟩ := h
  refine (crash_any w0.heap.size d p [f] A c [x] w hD hA (by simp)).mono ?_
  rintro e w' ⟨rfl, hD', hf'⟩
  rw [show crashF [f] [x] = [stayF f x] from by simp [crashF]] at hD'
  exact ⟨rfl, { p with off := false, armed := false }, ⟨rfl, rfl, hp.2.2.1, hp.2.2.2⟩, hD', hf.trans hf'⟩
theorem One.read {w0 w : World} {d : Nat} {room u : Int} {s : ByteArray} {dat : List UInt8} {k : Nat} (h : One w0 w d room u [⟨s.data.toList, dat, k⟩]) (hs : s.size ≤ 20) :
    Calls Try.prog 25/-f-/ #[.pointer (some ⟨d, 0, none⟩), .string s] w fun e w' => e = .returned (.tuple #[.string ⟨dat.toArray⟩, .int .i64 0]) ∧ w' = w := by
  obtain ⟨p, hp, hD, hf⟩ := h
  refine (read_any w0.heap.size d p _ s w hD (by unfold maxLen; omega)).mono ?_
  rintro e w' ⟨rfl, rfl⟩
  refine ⟨ret_si ?_ ?_, rfl⟩
  · rw [show readT p [⟨s.data.toList, dat, k⟩] s.data.toList = dat from by unfold readT; rw [hp.1, fget_one]; rfl]
  · unfold readE; rw [hp.1, fget_one]; rfl
theorem One.kept {w0 w : World} {d : Nat} {room u : Int} {s : ByteArray} {dat : List UInt8} {k : Nat} (h : One w0 w d room u [⟨s.data.toList, dat, k⟩]) (hs : s.size ≤ 20) :
    Calls Try.prog 32/-f-/ #[.pointer (some ⟨d, 0, none⟩), .string s] w fun e w' => e = .returned (.int .i64 k) ∧ w' = w := by
  obtain ⟨p, hp, hD, hf⟩ := h
  refine (kept_any w0.heap.size d p _ s w hD (by unfold maxLen; omega)).mono ?_
  rintro e w' ⟨rfl, rfl⟩
  exact ⟨ret_int (by unfold keptL; rw [fget_one]; rfl), rfl⟩
theorem One.free {w0 w : World} {d : Nat} {room u : Int} {fl : List FRec} (h : One w0 w d room u fl) (r0 : 0 ≤ room) (r1 : room ≤ 1000000) :
    Calls Try.prog 31/-f-/ #[.pointer (some ⟨d, 0, none⟩)] w fun e w' => e = .returned (.int .i64 (room - usedF fl)) ∧ One w0 w' d room u fl := by
  obtain ⟨p, hp, hD, hf⟩ := h
  refine (free_any w0.heap.size d p fl w hD (hp.roo r0 (by omega))).mono ?_
  rintro e w' ⟨rfl, hb⟩
  exact ⟨ret_int (by rw [hp.2.2.1]), p, hp, hD.below hb, hf.trans (Fra.of hf.size hb)⟩
theorem One.used {w0 w : World} {d : Nat} {room u : Int} {fl : List FRec} (h : One w0 w d room u fl) :
    Calls Try.prog 26/-f-/ #[.pointer (some ⟨d, 0, none⟩)] w fun e w' => e = .returned (.int .i64 (usedF fl)) ∧ One w0 w' d room u fl := by
  obtain ⟨p, hp, hD, hf⟩ := h
  refine (used_any w0.heap.size d p fl w hD).mono ?_
  rintro e w' ⟨rfl, hb⟩
  exact ⟨rfl, p, hp, hD.below hb, hf.trans (Fra.of hf.size hb)⟩
theorem One.uses {w0 w : World} {d : Nat} {room u : Int} {fl : List FRec} (h : One w0 w d room u fl) :
    Calls Try.prog 30/-f-/ #[.pointer (some ⟨d, 0, none⟩)] w fun e w' => e = .returned (.int .i64 u) ∧ w' = w := by
  obtain ⟨p, hp, hD, hf⟩ := h
  refine (uses_any w0.heap.size d p fl w hD).mono ?_
  rintro e w' ⟨rfl, rfl⟩
  exact ⟨ret_int hp.2.2.2, rfl⟩
theorem one_made (w : World) (room : Int) (h0 : 0 ≤ room) (h1 : room ≤ 1000000) :
    Calls Try.prog 10/-f-/ #[.int .i64 room] w fun e w' => ∃ d, e = .returned (.pointer (some ⟨d, 0, none⟩)) ∧ One w w' d room 0 [] := by
  refine (new_any w.heap.size room w (Nat.le_refl _) h0 (by omega)).mono ?_
  rintro e w' ⟨d, rfl, _, hD, hb⟩
  exact ⟨d, rfl, _, ⟨rfl, rfl, rfl, rfl⟩, hD, Fra.of (Nat.le_refl _) hb⟩
theorem below_of {w0 w : World} {d : Nat} {room u : Int} {fl : List FRec} (h : One w0 w d room u fl) : Below w0.heap.size w0 w := by
  obtain ⟨p, _, _, hf⟩ := h; exact hf.below
set_option maxRecDepth 100000 in
set_option maxHeartbeats 16000000 in
theorem awake_any (w : World) : Calls Try.prog 9/-f-/ #[] w fun e w' => e = .returned (.bool true) ∧ Below w.heap.size w w' := by
  have NW := Lib.hid (one_made w 100 (by decide) (by decide))
  go_enter Try.func9, Try.ntmps9
  go_upto_region 2 with (go_at_call 10/-f-/; (with_reducible refine NW.out.mono ?_); rintro e w1 ⟨d, rfl, h⟩; have H := Lib.hid h; clear h)
  go_upto_region 3 with (first
    | (go_at_call 23/-f-/; (with_reducible refine ((H.out.step (below_al _ _)).sync (by decide) (by decide) (by decide) (by decide) _ _ (StrT.one _ _ _ rfl)).mono ?_); rintro e w3 ⟨rfl, h⟩; have H2 := Lib.hid h; clear h)
    | (go_at_call 20/-f-/; (with_reducible refine ((H2.out.step (below_al _ _)).more (by decide) (by decide) (by decide) (by decide) (by decide) (by decide) _ 1 1 [⟨#[122, 119]⟩] rfl (by decide) (StrT.one _ _ _ rfl) (by decide)).mono ?_); rintro e w4 ⟨rfl, h⟩; have H3 := Lib.hid h; clear h)
    | (go_at_call 20/-f-/; (with_reducible refine ((H.out.step (below_al _ _)).append (by decide) (by decide) (by decide) (by decide) ⟨#[97]⟩ (by decide) (by decide) _ 2 2 [⟨#[120]⟩, ⟨#[121]⟩] rfl (by decide) (StrT.two _ _ _ _ rfl) (by decide)).mono ?_); rintro e w2 ⟨rfl, h⟩; clear H; have H := Lib.hid h; clear h))
  go_upto_region 5 with (first
    | (go_at_call 24/-f-/; (with_reducible refine ((H3.out.step (below_al _ _)).crash _ _ 1 (IntT.one _ _ _ rfl)).mono ?_); rintro e w5 ⟨rfl, h⟩; have H4 := Lib.hid (show One w w5 d 100 3 [⟨(⟨#[97]⟩ : ByteArray).data.toList, [120, 121, 122], 3⟩] from h); clear h)
    | (go_at_call 25/-f-/; (with_reducible refine (H4.out.read (by decide)).mono ?_); rintro e w6 ⟨rfl, rfl⟩))
  go_wp2_with (first
    | (go_at_call 32/-f-/; (with_reducible refine (H4.out.kept (by decide)).mono ?_); rintro e w7 ⟨rfl, rfl⟩)
    | (go_at_call 31/-f-/; (with_reducible refine (H4.out.free (by decide) (by decide)).mono ?_); rintro e w8 ⟨rfl, h⟩; have H5 := Lib.hid h; clear h)
    | (go_at_call 30/-f-/; (with_reducible refine (H5.out.uses).mono ?_); rintro e w9 ⟨rfl, rfl⟩))
  go_ret
  exact ⟨rfl, below_of H5.out⟩
end Go.Proofs.Ytlhfamdandpkgaa
