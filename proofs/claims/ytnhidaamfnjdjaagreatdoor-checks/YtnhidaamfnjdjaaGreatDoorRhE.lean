import Derived.Test.YtnhidaamfnjdjaaGreatDoorRhA
namespace Go.Proofs.YtnhidaamfnjdjaaGreatDoor
open Go.RowKit Go.Maps

/-- of all that was there the blocks b, nb and x alone may have turned -/
structure FrY (b nb : Nat) (x : Option Nat) (w w' : World) : Prop where
  os : w'.os = w.os
  tape : w'.tape = w.tape
  output : w'.output = w.output
  size : w.heap.size ≤ w'.heap.size
  block : ∀ k, k < w.heap.size → k ≠ b → k ≠ nb → x ≠ some k → w'.heap[k]? = w.heap[k]?
theorem FrY.refl (b nb : Nat) (x : Option Nat) (w : World) : FrY b nb x w w := ⟨rfl, rfl, rfl, Nat.le_refl _, fun _ _ _ _ _ => rfl⟩
theorem FrY.trans {b nb : Nat} {x x' : Option Nat} {w w1 w2 : World} (h : FrY b nb x w w1) (k : FrY b nb x' w1 w2) (hx : x' = x ∨ ∃ g, x' = some g ∧ w.heap.size ≤ g) : FrY b nb x w w2 where
  os := k.os.trans h.os
  tape := k.tape.trans h.tape
  output := k.output.trans h.output
  size := Nat.le_trans h.size k.size
  block i hi hb hn hxi := by
    rw [k.block i (Nat.lt_of_lt_of_le hi h.size) hb hn ?_, h.block i hi hb hn hxi]
    rcases hx with rfl | ⟨g, rfl, hg⟩
    · exact hxi
    · intro e
      injection e with e
      omega
theorem FrX.y {b nb : Nat} {x : Option Nat} {w w' : World} (h : FrX b x w w') : FrY b nb x w w' := ⟨h.os, h.tape, h.output, h.size, fun k hk hb _ hx => h.block k hk hb hx⟩
theorem FrY.drewN {b nb : Nat} {x : Option Nat} {a w : World} (h : FrY b nb x a w) (n : Nat) : FrY b nb x a (w.drewN n) := ⟨h.os, h.tape, h.output, h.size, h.block⟩
theorem FrY.drew {b nb : Nat} {x : Option Nat} {a w : World} (h : FrY b nb x a w) : FrY b nb x a w.drew := ⟨h.os, h.tape, h.output, h.size, h.block⟩
theorem FrY.setB {b nb : Nat} {x : Option Nat} {a w : World} (h : FrY b nb x a w) (i : Nat) (v : Value) : FrY b nb x a (w.setCell ⟨b, i, none⟩ v) :=
  ⟨h.os, h.tape, h.output, by simpa [World.setCell] using h.size, fun k hk hb hn hx => by
    rw [Below.heap_setCell _ _ _ _ (by simpa using hb)]; exact h.block k hk hb hn hx⟩
theorem FrY.setN {b nb : Nat} {x : Option Nat} {a w : World} (h : FrY b nb x a w) (i : Nat) (v : Value) : FrY b nb x a (w.setCell ⟨nb, i, none⟩ v) :=
  ⟨h.os, h.tape, h.output, by simpa [World.setCell] using h.size, fun k hk hb hn hx => by
    rw [Below.heap_setCell _ _ _ _ (by simpa using hn)]; exact h.block k hk hb hn hx⟩

def nodeC (k : Bs) (no : Int) (d : Nat) (nm ov : Bs) (e : Int) (kv : Value) : Array Value := #[.string ⟨k.toArray⟩, .int .i64 no, .int .i64 d, .string ⟨nm.toArray⟩, .string ⟨ov.toArray⟩, .int .i64 e, kv]
def exI : Option Nat → Int
  | none => -1
  | some k => (k : Int)
/-- the text, and a line that is being read -/
structure RNAt (w : World) (b nb : Nat) (s : XR) (vn vx vt : Value) (line : Int) (k : Bs) (no : Int) (d : Nat) (nm ov : Bs) (e : Int) : Prop where
  rd : RdAt w b s vn vx vt line
  nd : w.heap[nb]? = some (.cells (nodeC k no d nm ov e (.slice none 0 0)) 145)
  ne : nb ≠ b
  nx : vx.ownBlock ≠ some nb
  nt : vt.ownBlock ≠ some nb
section
variable {w w1 : World} {b nb : Nat} {s s1 : XR} {vn vx vx1 vt : Value} {line : Int} {k : Bs} {no : Int} {d : Nat} {nm ov : Bs} {e : Int}
theorem RNAt.call (h : RNAt w b nb s vn vx vt line k no d nm ov e) (r : RdAt w1 b s1 vn vx1 vt line) (f : FrX b vx.ownBlock w w1) (n : vx1.ownBlock = vx.ownBlock ∨ ∃ g, vx1.ownBlock = some g ∧ w.heap.size ≤ g) : RNAt w1 b nb s1 vn vx1 vt line k no d nm ov e := by
  refine ⟨r, f.at h.nd h.ne h.nx, h.ne, ?_, h.nt⟩
  rcases n with n | ⟨g, n, hg⟩
  · rw [n]; exact h.nx
  · rw [n]
    intro x
    injection x with x
    have := lt_of_at h.nd
    omega
theorem RNAt.turn (h : RNAt w b nb s vn vx vt line k no d nm ov e) (r : RdAt w1 b s1 vn vx vt line) (f : FrX b none w w1) : RNAt w1 b nb s1 vn vx vt line k no d nm ov e := h.call r f.weak (.inl rfl)
theorem RNAt.drewN (h : RNAt w b nb s vn vx vt line k no d nm ov e) (n : Nat) : RNAt (w.drewN n) b nb s vn vx vt line k no d nm ov e := h.turn (h.rd.drewN n) ((FrX.refl _ _ _).drewN n)
theorem RdAt.other (h : RdAt w b s vn vx vt line) (ne : nb ≠ b) (nx : vx.ownBlock ≠ some nb) (nt : vt.ownBlock ≠ some nb) (i : Nat) (v : Value) : RdAt (w.setCell ⟨nb, i, none⟩ v) b s vn vx vt line where
  blk := at_setCell_other h.blk ne.symm _ _
  toks := ownsRow_frame h.toks (fun g hg => Below.heap_setCell _ _ _ _ (fun e => nt (by rw [hg]; exact congrArg some e)))
  xs := ownsRow_frame h.xs (fun g hg => Below.heap_setCell _ _ _ _ (fun e => nx (by rw [hg]; exact congrArg some e)))
  tb := h.tb
  xb := h.xb
  xt := h.xt
theorem RNAt.step (h : RNAt w b nb s vn vx vt line k no d nm ov e) : RNAt (w.setCell ⟨b, 3, none⟩ (.int .i64 (((s.at_ + 1 : Nat)) : Int))) b nb s.step vn vx vt line k no d nm ov e := h.turn h.rd.step ((FrX.refl _ _ _).set _ _)
theorem RNAt.setK (h : RNAt w b nb s vn vx vt line k no d nm ov e) (x : Bs) : RNAt (w.setCell ⟨nb, 0, none⟩ (.string ⟨x.toArray⟩)) b nb s vn vx vt line x no d nm ov e := ⟨h.rd.other h.ne h.nx h.nt _ _, at_setCell h.nd _ _, h.ne, h.nx, h.nt⟩
theorem RNAt.setM (h : RNAt w b nb s vn vx vt line k no d nm ov e) (x : Bs) : RNAt (w.setCell ⟨nb, 3, none⟩ (.string ⟨x.toArray⟩)) b nb s vn vx vt line k no d x ov e := ⟨h.rd.other h.ne h.nx h.nt _ _, at_setCell h.nd _ _, h.ne, h.nx, h.nt⟩
theorem RNAt.setO (h : RNAt w b nb s vn vx vt line k no d nm ov e) (x : Bs) : RNAt (w.setCell ⟨nb, 4, none⟩ (.string ⟨x.toArray⟩)) b nb s vn vx vt line k no d nm x e := ⟨h.rd.other h.ne h.nx h.nt _ _, at_setCell h.nd _ _, h.ne, h.nx, h.nt⟩
theorem RNAt.setE (h : RNAt w b nb s vn vx vt line k no d nm ov e) (x : Int) : RNAt (w.setCell ⟨nb, 5, none⟩ (.int .i64 x)) b nb s vn vx vt line k no d nm ov x := ⟨h.rd.other h.ne h.nx h.nt _ _, at_setCell h.nd _ _, h.ne, h.nx, h.nt⟩
theorem RNAt.n0 (h : RNAt w b nb s vn vx vt line k no d nm ov e) : w.cell? ⟨nb, 0, none⟩ = some (.string ⟨k.toArray⟩) := cell_at h.nd 0
theorem RNAt.n3 (h : RNAt w b nb s vn vx vt line k no d nm ov e) : w.cell? ⟨nb, 3, none⟩ = some (.string ⟨nm.toArray⟩) := cell_at h.nd 3
theorem RNAt.n4 (h : RNAt w b nb s vn vx vt line k no d nm ov e) : w.cell? ⟨nb, 4, none⟩ = some (.string ⟨ov.toArray⟩) := cell_at h.nd 4
theorem RNAt.n5 (h : RNAt w b nb s vn vx vt line k no d nm ov e) : w.cell? ⟨nb, 5, none⟩ = some (.int .i64 e) := cell_at h.nd 5
theorem RNAt.nz (h : RNAt w b nb s vn vx vt line k no d nm ov e) (o : Nat) : w.frozen? ⟨nb, o, none⟩ = false := frozen_at h.nd o
end
/-- behind a line's own reader -/
def RNPost (b nb : Nat) (vn vt : Value) (line no : Int) (d : Nat) (w : World) (vx : Value) (n : RN) (s : XR) (w' : World) : Prop :=
  ∃ vx', RNAt w' b nb s vn vx' vt line n.kind no d n.name n.over (exI n.ex) ∧ FrY b nb vx.ownBlock w w' ∧ (vx'.ownBlock = vx.ownBlock ∨ ∃ g, vx'.ownBlock = some g ∧ w.heap.size ≤ g)
theorem RNPost.trans {w w1 w2 : World} {b nb : Nat} {s2 : XR} {vn vx vx1 vt : Value} {line no : Int} {d : Nat} {n : RN} (hf : FrY b nb vx.ownBlock w w1) (hn : vx1.ownBlock = vx.ownBlock ∨ ∃ g, vx1.ownBlock = some g ∧ w.heap.size ≤ g) (h : RNPost b nb vn vt line no d w1 vx1 n s2 w2) : RNPost b nb vn vt line no d w vx n s2 w2 := by
  obtain ⟨vx2, h1, h2, h3⟩ := h
  refine ⟨vx2, h1, hf.trans h2 hn, ?_⟩
  rcases new_le h3 hf.size with h3 | h3
  · rw [h3]; exact hn
  · exact .inr h3

/-- the third token -/
theorem third {w : World} {b : Nat} {s : XR} {vn vx vt : Value} {line : Int} (h : RdAt w b s vn vx vt line) (h3 : 3 ≤ s.toks.length) : ∃ g cap, vt = .slice (some ⟨g, 0, none⟩) s.toks.length cap ∧ s.toks.length ≤ cap ∧ cap ≤ maxLen ∧ w.cell? ⟨g, 2, none⟩ = some (.string ⟨(s.toks.getD 2 []).toArray⟩) := by
  obtain ⟨g, cap, cur, rfl, hg, hn, hc, hsz, hxs⟩ := ownsRow_shape h.toks (by omega)
  refine ⟨g, cap, rfl, hn, hc, ownsRow_cell hg hxs ?_⟩
  rw [getD_lt _ _ _ (by omega)]
  simp [wstrs, List.getElem?_eq_getElem (show 2 < s.toks.length by omega)]

set_option maxRecDepth 20000 in
set_option maxHeartbeats 4000000 in
theorem over_pi (b nb : Nat) (s : XR) (vn vx vt : Value) (line no : Int) (d : Nat) (w : World) (h : RNAt w b nb s vn vx vt line wOn no d [] [] (-1)) (hl : Lim s 10) (hq : s.toks.getD 2 [] = [63]) (hin : s.now = wIn) :
    Calls Tryz.prog 188 #[.pointer (some ⟨b, 0, none⟩), .pointer (some ⟨nb, 0, none⟩)] w fun e w' => e = .returned (.tuple #[]) ∧ RNPost b nb vn vt line no d w vx (rread none s).1 (rread none s).2 w' := by
  have c2 := h.rd.c2
  have h3 : 3 ≤ s.toks.length := by
    rcases Nat.lt_or_ge s.toks.length 3 with x | x
    · rw [getD_ge _ _ _ (by omega)] at hq; cases hq
    · exact x
  have ht := hl.toks
  have ha := hl.at_
  obtain ⟨g, cap, rfl, hn, hc, hcell⟩ := third h.rd h3
  rw [hq] at hcell
  have er : rread none s = (⟨wOn, (s.step.must [63]).name.1, wIn, none⟩, (s.step.must [63]).name.2) := by unfold rread rsource; dsimp only; rw [if_pos hin]
  rw [er]
  have L0 := hide (hl.gr (k := 0) (Gr.refl _) (by omega)); have L1 := hide (hl.gr (k := 1) (gr_step s) (by omega)); have L2 := hide (hl.gr (k := 1) ((gr_step s).trans (gr_must s.step [63])) (by omega))
  have n4 := h.n4; have nz := h.nz; have hne := h.ne; have hne' := h.ne.symm
  have H := hide h; have Hin := hide hin
  clear h hl hq er hin
  simp only [wIn] at Hin
  generalize s.toks.length = n at *
  go_enter Tryz.func188, Tryz.ntmps188
  go_wp2_with (first | (go_at_call 127; refine (now_any _ _ _ _ _ _ _ H.out.rd L0.out).mono ?_; rw [Hin.out]; rintro e wx ⟨rfl, nd, rfl⟩; have r2 := (H.out.drewN nd).setO [105, 110]; have c3 := r2.rd.c3; have fz := r2.rd.fz; have R2 := hide r2; clear r2) | (go_at_call 213; refine (must_any _ _ _ _ _ _ _ _ R2.out.step.rd L1.out).mono ?_; rintro e w3 ⟨rfl, h3', f3⟩; have r3 := R2.out.step.turn h3' f3; have R3 := hide r3; have F3 := hide f3; clear h3' r3 f3) | (go_at_call 187; refine (rname_any _ _ _ _ _ _ _ R3.out.rd L2.out).mono ?_; rintro e w4 ⟨rfl, h4', f4⟩; have r4 := R3.out.turn h4' f4; have n34 := r4.n3; have nz4 := r4.nz; have R4 := hide r4; have F4 := hide f4; clear h4' r4 f4))
  go_end0
  exact ⟨rfl, vx, R4.out.setM _, ((((((FrY.refl _ _ _ _).drewN nd).setN 4 _).setB 3 _).trans F3.out.weak.y (.inl rfl)).trans F4.out.weak.y (.inl rfl)).setN 3 _, .inl rfl⟩

set_option maxRecDepth 20000 in
set_option maxHeartbeats 4000000 in
theorem over_pn (b nb : Nat) (s : XR) (vn vx vt : Value) (line no : Int) (d : Nat) (w : World) (h : RNAt w b nb s vn vx vt line wOn no d [] [] (-1)) (hl : Lim s 300) (_hs0 : s.nest = 0) (hq : s.toks.getD 2 [] = [63]) (hin : s.now ≠ wIn) :
    Calls Tryz.prog 188 #[.pointer (some ⟨b, 0, none⟩), .pointer (some ⟨nb, 0, none⟩)] w fun e w' => e = .returned (.tuple #[]) ∧ RNPost b nb vn vt line no d w vx (rread none s).1 (rread none s).2 w' := by
  have c2 := h.rd.c2
  have ht := hl.toks
  have h3 : 3 ≤ s.toks.length := by
    rcases Nat.lt_or_ge s.toks.length 3 with x | x
    · rw [getD_ge _ _ _ (by omega)] at hq; cases hq
    · exact x
  obtain ⟨g, cap, rfl, hn, hc, hcell⟩ := third h.rd h3
  rw [hq] at hcell
  have lm := hl.gr (k := 113) (Gr.refl _) (by omega)
  have er : rread none s = (⟨wOn, (s.name.2.must [63]).name.1, s.name.1, none⟩, (s.name.2.must [63]).name.2) := by unfold rread rsource; dsimp only; rw [if_neg hin]
  rw [er]
  have ha := lm.at_
  have L0 := hide (lm.gr (k := 0) (Gr.refl _) (by omega))
  have LN := hide (lm.gr (k := 1) (Gr.refl s) (by omega)); have L1 := hide (lm.gr (k := 1) (gr_name s) (by omega)); have L2 := hide (lm.gr (k := 1) ((gr_name s).trans (gr_must s.name.2 [63])) (by omega))
  have enow : (s.now == [105, 110]) = false := by rw [beq_eq_false_iff_ne]; exact hin
  have n4 := h.n4; have nz := h.nz
  have hne := h.ne; have hne' := h.ne.symm
  have H := hide h
  clear h hl hq er hin lm _hs0
  generalize s.toks.length = n at *
  go_enter Tryz.func188, Tryz.ntmps188
  go_wp2_with (first | (go_at_call 127; refine (now_any _ _ _ _ _ _ _ H.out.rd L0.out).mono ?_; rintro e wx ⟨rfl, nd, rfl⟩; have r2 := (H.out.drewN nd).setO s.now; have R2 := hide r2; clear r2) | (go_at_call 187; refine (rname_any _ _ _ _ _ _ _ R2.out.rd LN.out).mono ?_; rintro e wn ⟨rfl, hn', fn⟩; have rn := R2.out.turn hn' fn; have n4n := rn.n4; have nzn := rn.nz; have RN2 := hide (rn.setO s.name.1); have FN := hide fn; clear hn' rn fn LN) | (go_at_call 213; refine (must_any _ _ _ _ _ _ _ _ RN2.out.rd L1.out).mono ?_; rintro e w3 ⟨rfl, h3', f3⟩; have r3 := RN2.out.turn h3' f3; have R3 := hide r3; have F3 := hide f3; clear h3' r3 f3) | (go_at_call 187; refine (rname_any _ _ _ _ _ _ _ R3.out.rd L2.out).mono ?_; rintro e w4 ⟨rfl, h4', f4⟩; have r4 := R3.out.turn h4' f4; have n34 := r4.n3; have nz4 := r4.nz; have R4 := hide r4; have F4 := hide f4; clear h4' r4 f4))
  go_end0
  exact ⟨rfl, vx, R4.out.setM _, (((((((FrY.refl _ _ _ _).drewN nd).setN 4 _).trans FN.out.weak.y (.inl rfl)).setN 4 _).trans F3.out.weak.y (.inl rfl)).trans F4.out.weak.y (.inl rfl)).setN 3 _, .inl rfl⟩

set_option maxRecDepth 20000 in
set_option maxHeartbeats 4000000 in
theorem over_gis (b nb : Nat) (s : XR) (vn vx vt : Value) (line no : Int) (d : Nat) (w : World) (h : RNAt w b nb s vn vx vt line wOn no d [] [] (-1)) (hl : Lim s 300) (hs0 : s.nest = 0) (_hq : s.toks.getD 2 [] ≠ [63]) (h3 : s.toks.length < 3) (hin : ((rexpr 4 s).2.must [38]).now = wIn) :
    Calls Tryz.prog 188 #[.pointer (some ⟨b, 0, none⟩), .pointer (some ⟨nb, 0, none⟩)] w fun e w' => e = .returned (.tuple #[]) ∧ RNPost b nb vn vt line no d w vx (rread (some (rexpr 4 s).1) ((rexpr 4 s).2.must [38])).1 (rread (some (rexpr 4 s).1) ((rexpr 4 s).2.must [38])).2 w' := by
  have c2 := h.rd.c2
  have ht := hl.toks
  obtain ⟨va, vc, rfl⟩ := ownsRow_len h.rd.toks
  have le := hl.gr (k := 114) (gr_expr 4 s) (by decide)
  have lm := le.gr (k := 113) (gr_must (rexpr 4 s).2 [38]) (by decide)
  have C := hide (fun w h => rexpr_any b s vn vx (.slice va s.toks.length vc) line w h (hl.gr (Gr.refl _) (by omega)) hs0)
  have LE := hide (le.gr (k := 1) (Gr.refl _) (by omega))
  generalize rexpr 4 s = q at *
  have er : rread (some q.1) (q.2.must [38]) = (⟨wOn, ((q.2.must [38]).step.must [63]).name.1, wIn, (some q.1)⟩, ((q.2.must [38]).step.must [63]).name.2) := by unfold rread rsource; dsimp only; rw [if_pos hin]
  rw [er]
  generalize hs1 : q.2.must [38] = s1 at *
  have Hs1 := hide hs1
  clear hs1
  have ha := lm.at_
  have L0 := hide (lm.gr (k := 0) (Gr.refl _) (by omega))
  have L1 := hide (lm.gr (k := 1) (gr_step s1) (by omega)); have L2 := hide (lm.gr (k := 1) ((gr_step s1).trans (gr_must s1.step [63])) (by omega))
  have hne := h.ne; have hne' := h.ne.symm
  have H := hide h
  have Hin := hide hin
  simp only [wIn] at Hin
  clear h hl _hq er hin lm hs0
  clear le
  generalize s.toks.length = n at *
  go_enter Tryz.func188, Tryz.ntmps188
  go_wp2_with (first | (go_at_call 186; refine (C.out _ H.out.rd).mono ?_; rintro e w1 ⟨rfl, vx1, r1, f1, n1⟩; have q1 := H.out.call r1 f1 n1; have n51 := q1.n5; have nz1 := q1.nz; have Q1 := hide q1; have F1 := hide f1; have N1 := hide n1; clear r1 f1 n1 q1) | (go_at_call 213; refine (must_any _ _ _ _ _ _ _ _ (Q1.out.setE _).rd LE.out).mono ?_; rw [Hs1.out]; rintro e wm ⟨rfl, hm', fm⟩; have rb := (Q1.out.setE q.1).turn hm' fm; have n4 := rb.n4; have nz := rb.nz; have RB := hide rb; have FM := hide fm; clear hm' fm rb LE n51 nz1) | (go_at_call 127; refine (now_any _ _ _ _ _ _ _ RB.out.rd L0.out).mono ?_; rw [Hin.out]; rintro e wx ⟨rfl, nd, rfl⟩; have r2 := (RB.out.drewN nd).setO [105, 110]; have c3 := r2.rd.c3; have fz := r2.rd.fz; have R2 := hide r2; clear r2) | (go_at_call 213; refine (must_any _ _ _ _ _ _ _ _ R2.out.step.rd L1.out).mono ?_; rintro e w3 ⟨rfl, h3', f3⟩; have r3 := R2.out.step.turn h3' f3; have R3 := hide r3; have F3 := hide f3; clear h3' r3 f3) | (go_at_call 187; refine (rname_any _ _ _ _ _ _ _ R3.out.rd L2.out).mono ?_; rintro e w4 ⟨rfl, h4', f4⟩; have r4 := R3.out.turn h4' f4; have n34 := r4.n3; have nz4 := r4.nz; have R4 := hide r4; have F4 := hide f4; clear h4' r4 f4))
  go_end0
  exact ⟨rfl, vx1, R4.out.setM _, (((((((F1.out.y.setN 5 _).trans FM.out.weak.y (.inl rfl)).drewN nd).setN 4 _).setB 3 _).trans F3.out.weak.y (.inl rfl)).trans F4.out.weak.y (.inl rfl)).setN 3 _, N1.out⟩

set_option maxRecDepth 20000 in
set_option maxHeartbeats 4000000 in
theorem over_gns (b nb : Nat) (s : XR) (vn vx vt : Value) (line no : Int) (d : Nat) (w : World) (h : RNAt w b nb s vn vx vt line wOn no d [] [] (-1)) (hl : Lim s 300) (hs0 : s.nest = 0) (_hq : s.toks.getD 2 [] ≠ [63]) (h3 : s.toks.length < 3) (hin : ((rexpr 4 s).2.must [38]).now ≠ wIn) :
    Calls Tryz.prog 188 #[.pointer (some ⟨b, 0, none⟩), .pointer (some ⟨nb, 0, none⟩)] w fun e w' => e = .returned (.tuple #[]) ∧ RNPost b nb vn vt line no d w vx (rread (some (rexpr 4 s).1) ((rexpr 4 s).2.must [38])).1 (rread (some (rexpr 4 s).1) ((rexpr 4 s).2.must [38])).2 w' := by
  have c2 := h.rd.c2
  have ht := hl.toks
  obtain ⟨va, vc, rfl⟩ := ownsRow_len h.rd.toks
  have le := hl.gr (k := 114) (gr_expr 4 s) (by decide)
  have lm := le.gr (k := 113) (gr_must (rexpr 4 s).2 [38]) (by decide)
  have C := hide (fun w h => rexpr_any b s vn vx (.slice va s.toks.length vc) line w h (hl.gr (Gr.refl _) (by omega)) hs0)
  have LE := hide (le.gr (k := 1) (Gr.refl _) (by omega))
  generalize rexpr 4 s = q at *
  have er : rread (some q.1) (q.2.must [38]) = (⟨wOn, ((q.2.must [38]).name.2.must [63]).name.1, (q.2.must [38]).name.1, (some q.1)⟩, ((q.2.must [38]).name.2.must [63]).name.2) := by unfold rread rsource; dsimp only; rw [if_neg hin]
  rw [er]
  generalize hs1 : q.2.must [38] = s1 at *
  have Hs1 := hide hs1
  clear hs1
  have ha := lm.at_
  have L0 := hide (lm.gr (k := 0) (Gr.refl _) (by omega))
  have LN := hide (lm.gr (k := 1) (Gr.refl s1) (by omega)); have L1 := hide (lm.gr (k := 1) (gr_name s1) (by omega)); have L2 := hide (lm.gr (k := 1) ((gr_name s1).trans (gr_must s1.name.2 [63])) (by omega))
  have enow : (s1.now == [105, 110]) = false := by rw [beq_eq_false_iff_ne]; exact hin
  have hne := h.ne; have hne' := h.ne.symm
  have H := hide h
  clear h hl _hq er hin lm hs0
  clear le
  generalize s.toks.length = n at *
  go_enter Tryz.func188, Tryz.ntmps188
  go_wp2_with (first | (go_at_call 186; refine (C.out _ H.out.rd).mono ?_; rintro e w1 ⟨rfl, vx1, r1, f1, n1⟩; have q1 := H.out.call r1 f1 n1; have n51 := q1.n5; have nz1 := q1.nz; have Q1 := hide q1; have F1 := hide f1; have N1 := hide n1; clear r1 f1 n1 q1) | (go_at_call 213; refine (must_any _ _ _ _ _ _ _ _ (Q1.out.setE _).rd LE.out).mono ?_; rw [Hs1.out]; rintro e wm ⟨rfl, hm', fm⟩; have rb := (Q1.out.setE q.1).turn hm' fm; have n4 := rb.n4; have nz := rb.nz; have RB := hide rb; have FM := hide fm; clear hm' fm rb LE n51 nz1) | (go_at_call 127; refine (now_any _ _ _ _ _ _ _ RB.out.rd L0.out).mono ?_; rintro e wx ⟨rfl, nd, rfl⟩; have r2 := (RB.out.drewN nd).setO s1.now; have R2 := hide r2; clear r2) | (go_at_call 187; refine (rname_any _ _ _ _ _ _ _ R2.out.rd LN.out).mono ?_; rintro e wn ⟨rfl, hn', fn⟩; have rn := R2.out.turn hn' fn; have n4n := rn.n4; have nzn := rn.nz; have RN2 := hide (rn.setO s1.name.1); have FN := hide fn; clear hn' rn fn LN) | (go_at_call 213; refine (must_any _ _ _ _ _ _ _ _ RN2.out.rd L1.out).mono ?_; rintro e w3 ⟨rfl, h3', f3⟩; have r3 := RN2.out.turn h3' f3; have R3 := hide r3; have F3 := hide f3; clear h3' r3 f3) | (go_at_call 187; refine (rname_any _ _ _ _ _ _ _ R3.out.rd L2.out).mono ?_; rintro e w4 ⟨rfl, h4', f4⟩; have r4 := R3.out.turn h4' f4; have n34 := r4.n3; have nz4 := r4.nz; have R4 := hide r4; have F4 := hide f4; clear h4' r4 f4))
  go_end0
  exact ⟨rfl, vx1, R4.out.setM _, ((((((((F1.out.y.setN 5 _).trans FM.out.weak.y (.inl rfl)).drewN nd).setN 4 _).trans FN.out.weak.y (.inl rfl)).setN 4 _).trans F3.out.weak.y (.inl rfl)).trans F4.out.weak.y (.inl rfl)).setN 3 _, N1.out⟩

set_option maxRecDepth 20000 in
set_option maxHeartbeats 4000000 in
theorem over_gio (b nb : Nat) (s : XR) (vn vx vt : Value) (line no : Int) (d : Nat) (w : World) (h : RNAt w b nb s vn vx vt line wOn no d [] [] (-1)) (hl : Lim s 300) (hs0 : s.nest = 0) (hq : s.toks.getD 2 [] ≠ [63]) (h3 : 3 ≤ s.toks.length) (hin : ((rexpr 4 s).2.must [38]).now = wIn) :
    Calls Tryz.prog 188 #[.pointer (some ⟨b, 0, none⟩), .pointer (some ⟨nb, 0, none⟩)] w fun e w' => e = .returned (.tuple #[]) ∧ RNPost b nb vn vt line no d w vx (rread (some (rexpr 4 s).1) ((rexpr 4 s).2.must [38])).1 (rread (some (rexpr 4 s).1) ((rexpr 4 s).2.must [38])).2 w' := by
  have c2 := h.rd.c2
  have ht := hl.toks
  obtain ⟨g, cap, rfl, hn, hc, hcell⟩ := third h.rd h3
  have eq3 : (!s.toks.getD 2 [] == [63]) = true := by simpa using hq
  generalize s.toks.getD 2 [] = T2 at *
  have le := hl.gr (k := 114) (gr_expr 4 s) (by decide)
  have lm := le.gr (k := 113) (gr_must (rexpr 4 s).2 [38]) (by decide)
  have C := hide (fun w h => rexpr_any b s vn vx (.slice (some ⟨g, 0, none⟩) s.toks.length cap) line w h (hl.gr (Gr.refl _) (by omega)) hs0)
  have LE := hide (le.gr (k := 1) (Gr.refl _) (by omega))
  generalize rexpr 4 s = q at *
  have er : rread (some q.1) (q.2.must [38]) = (⟨wOn, ((q.2.must [38]).step.must [63]).name.1, wIn, (some q.1)⟩, ((q.2.must [38]).step.must [63]).name.2) := by unfold rread rsource; dsimp only; rw [if_pos hin]
  rw [er]
  generalize hs1 : q.2.must [38] = s1 at *
  have Hs1 := hide hs1
  clear hs1
  have ha := lm.at_
  have L0 := hide (lm.gr (k := 0) (Gr.refl _) (by omega))
  have L1 := hide (lm.gr (k := 1) (gr_step s1) (by omega)); have L2 := hide (lm.gr (k := 1) ((gr_step s1).trans (gr_must s1.step [63])) (by omega))
  have hne := h.ne; have hne' := h.ne.symm
  have H := hide h
  have Hin := hide hin
  simp only [wIn] at Hin
  clear h hl hq er hin lm hs0
  clear le
  generalize s.toks.length = n at *
  go_enter Tryz.func188, Tryz.ntmps188
  go_wp2_with (first | (go_at_call 186; refine (C.out _ H.out.rd).mono ?_; rintro e w1 ⟨rfl, vx1, r1, f1, n1⟩; have q1 := H.out.call r1 f1 n1; have n51 := q1.n5; have nz1 := q1.nz; have Q1 := hide q1; have F1 := hide f1; have N1 := hide n1; clear r1 f1 n1 q1) | (go_at_call 213; refine (must_any _ _ _ _ _ _ _ _ (Q1.out.setE _).rd LE.out).mono ?_; rw [Hs1.out]; rintro e wm ⟨rfl, hm', fm⟩; have rb := (Q1.out.setE q.1).turn hm' fm; have n4 := rb.n4; have nz := rb.nz; have RB := hide rb; have FM := hide fm; clear hm' fm rb LE n51 nz1) | (go_at_call 127; refine (now_any _ _ _ _ _ _ _ RB.out.rd L0.out).mono ?_; rw [Hin.out]; rintro e wx ⟨rfl, nd, rfl⟩; have r2 := (RB.out.drewN nd).setO [105, 110]; have c3 := r2.rd.c3; have fz := r2.rd.fz; have R2 := hide r2; clear r2) | (go_at_call 213; refine (must_any _ _ _ _ _ _ _ _ R2.out.step.rd L1.out).mono ?_; rintro e w3 ⟨rfl, h3', f3⟩; have r3 := R2.out.step.turn h3' f3; have R3 := hide r3; have F3 := hide f3; clear h3' r3 f3) | (go_at_call 187; refine (rname_any _ _ _ _ _ _ _ R3.out.rd L2.out).mono ?_; rintro e w4 ⟨rfl, h4', f4⟩; have r4 := R3.out.turn h4' f4; have n34 := r4.n3; have nz4 := r4.nz; have R4 := hide r4; have F4 := hide f4; clear h4' r4 f4))
  go_end0
  exact ⟨rfl, vx1, R4.out.setM _, (((((((F1.out.y.setN 5 _).trans FM.out.weak.y (.inl rfl)).drewN nd).setN 4 _).setB 3 _).trans F3.out.weak.y (.inl rfl)).trans F4.out.weak.y (.inl rfl)).setN 3 _, N1.out⟩

set_option maxRecDepth 20000 in
set_option maxHeartbeats 4000000 in
theorem over_gno (b nb : Nat) (s : XR) (vn vx vt : Value) (line no : Int) (d : Nat) (w : World) (h : RNAt w b nb s vn vx vt line wOn no d [] [] (-1)) (hl : Lim s 300) (hs0 : s.nest = 0) (hq : s.toks.getD 2 [] ≠ [63]) (h3 : 3 ≤ s.toks.length) (hin : ((rexpr 4 s).2.must [38]).now ≠ wIn) :
    Calls Tryz.prog 188 #[.pointer (some ⟨b, 0, none⟩), .pointer (some ⟨nb, 0, none⟩)] w fun e w' => e = .returned (.tuple #[]) ∧ RNPost b nb vn vt line no d w vx (rread (some (rexpr 4 s).1) ((rexpr 4 s).2.must [38])).1 (rread (some (rexpr 4 s).1) ((rexpr 4 s).2.must [38])).2 w' := by
  have c2 := h.rd.c2
  have ht := hl.toks
  obtain ⟨g, cap, rfl, hn, hc, hcell⟩ := third h.rd h3
  have eq3 : (!s.toks.getD 2 [] == [63]) = true := by simpa using hq
  generalize s.toks.getD 2 [] = T2 at *
  have le := hl.gr (k := 114) (gr_expr 4 s) (by decide)
  have lm := le.gr (k := 113) (gr_must (rexpr 4 s).2 [38]) (by decide)
  have C := hide (fun w h => rexpr_any b s vn vx (.slice (some ⟨g, 0, none⟩) s.toks.length cap) line w h (hl.gr (Gr.refl _) (by omega)) hs0)
  have LE := hide (le.gr (k := 1) (Gr.refl _) (by omega))
  generalize rexpr 4 s = q at *
  have er : rread (some q.1) (q.2.must [38]) = (⟨wOn, ((q.2.must [38]).name.2.must [63]).name.1, (q.2.must [38]).name.1, (some q.1)⟩, ((q.2.must [38]).name.2.must [63]).name.2) := by unfold rread rsource; dsimp only; rw [if_neg hin]
  rw [er]
  generalize hs1 : q.2.must [38] = s1 at *
  have Hs1 := hide hs1
  clear hs1
  have ha := lm.at_
  have L0 := hide (lm.gr (k := 0) (Gr.refl _) (by omega))
  have LN := hide (lm.gr (k := 1) (Gr.refl s1) (by omega)); have L1 := hide (lm.gr (k := 1) (gr_name s1) (by omega)); have L2 := hide (lm.gr (k := 1) ((gr_name s1).trans (gr_must s1.name.2 [63])) (by omega))
  have enow : (s1.now == [105, 110]) = false := by rw [beq_eq_false_iff_ne]; exact hin
  have hne := h.ne; have hne' := h.ne.symm
  have H := hide h
  clear h hl hq er hin lm hs0
  clear le
  generalize s.toks.length = n at *
  go_enter Tryz.func188, Tryz.ntmps188
  go_wp2_with (first | (go_at_call 186; refine (C.out _ H.out.rd).mono ?_; rintro e w1 ⟨rfl, vx1, r1, f1, n1⟩; have q1 := H.out.call r1 f1 n1; have n51 := q1.n5; have nz1 := q1.nz; have Q1 := hide q1; have F1 := hide f1; have N1 := hide n1; clear r1 f1 n1 q1) | (go_at_call 213; refine (must_any _ _ _ _ _ _ _ _ (Q1.out.setE _).rd LE.out).mono ?_; rw [Hs1.out]; rintro e wm ⟨rfl, hm', fm⟩; have rb := (Q1.out.setE q.1).turn hm' fm; have n4 := rb.n4; have nz := rb.nz; have RB := hide rb; have FM := hide fm; clear hm' fm rb LE n51 nz1) | (go_at_call 127; refine (now_any _ _ _ _ _ _ _ RB.out.rd L0.out).mono ?_; rintro e wx ⟨rfl, nd, rfl⟩; have r2 := (RB.out.drewN nd).setO s1.now; have R2 := hide r2; clear r2) | (go_at_call 187; refine (rname_any _ _ _ _ _ _ _ R2.out.rd LN.out).mono ?_; rintro e wn ⟨rfl, hn', fn⟩; have rn := R2.out.turn hn' fn; have n4n := rn.n4; have nzn := rn.nz; have RN2 := hide (rn.setO s1.name.1); have FN := hide fn; clear hn' rn fn LN) | (go_at_call 213; refine (must_any _ _ _ _ _ _ _ _ RN2.out.rd L1.out).mono ?_; rintro e w3 ⟨rfl, h3', f3⟩; have r3 := RN2.out.turn h3' f3; have R3 := hide r3; have F3 := hide f3; clear h3' r3 f3) | (go_at_call 187; refine (rname_any _ _ _ _ _ _ _ R3.out.rd L2.out).mono ?_; rintro e w4 ⟨rfl, h4', f4⟩; have r4 := R3.out.turn h4' f4; have n34 := r4.n3; have nz4 := r4.nz; have R4 := hide r4; have F4 := hide f4; clear h4' r4 f4))
  go_end0
  exact ⟨rfl, vx1, R4.out.setM _, ((((((((F1.out.y.setN 5 _).trans FM.out.weak.y (.inl rfl)).drewN nd).setN 4 _).trans FN.out.weak.y (.inl rfl)).setN 4 _).trans F3.out.weak.y (.inl rfl)).trans F4.out.weak.y (.inl rfl)).setN 3 _, N1.out⟩

theorem over_any (b nb : Nat) (s : XR) (vn vx vt : Value) (line no : Int) (d : Nat) (w : World) (h : RNAt w b nb s vn vx vt line wOn no d [] [] (-1)) (hl : Lim s 300) (hs0 : s.nest = 0) :
    Calls Tryz.prog 188 #[.pointer (some ⟨b, 0, none⟩), .pointer (some ⟨nb, 0, none⟩)] w fun e w' => e = .returned (.tuple #[]) ∧ RNPost b nb vn vt line no d w vx (rover s).1 (rover s).2 w' := by
  unfold rover
  by_cases hq : s.toks.getD 2 [] = [63]
  · rw [if_pos hq]
    by_cases hin : s.now = wIn
    · exact over_pi b nb s vn vx vt line no d w h (hl.gr (Gr.refl _) (by omega)) hq hin
    · exact over_pn b nb s vn vx vt line no d w h hl hs0 hq hin
  · rw [if_neg hq]
    rcases Nat.lt_or_ge s.toks.length 3 with h3 | h3
    · by_cases hin : ((rexpr 4 s).2.must [38]).now = wIn
      · exact over_gis b nb s vn vx vt line no d w h hl hs0 hq h3 hin
      · exact over_gns b nb s vn vx vt line no d w h hl hs0 hq h3 hin
    · by_cases hin : ((rexpr 4 s).2.must [38]).now = wIn
      · exact over_gio b nb s vn vx vt line no d w h hl hs0 hq h3 hin
      · exact over_gno b nb s vn vx vt line no d w h hl hs0 hq h3 hin
end Go.Proofs.YtnhidaamfnjdjaaGreatDoor
