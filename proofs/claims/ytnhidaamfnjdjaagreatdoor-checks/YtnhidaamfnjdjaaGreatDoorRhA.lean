import Derived.Test.YtnhidaamfnjdjaaGreatDoorRefX
import Derived.Test.YtnhidaamfnjdjaaGreatDoorHeapT
/- THE REFERENCE's TEXT in memory: its block, the row of expressions, the tokens; what a reader turns. -/
namespace Go.Proofs.YtnhidaamfnjdjaaGreatDoor
open Go.RowKit Go.Maps

def textCells (s : XR) (vn vx vt : Value) (line : Int) : Array Value := #[vn, vx, vt, .int .i64 s.at_, .int .i64 s.nest, .int .i64 s.e, .int .i64 line]
def exprV (x : RX) : List Value := [.int .u8 x.op.toNat, .string ⟨x.name.toArray⟩, .int .i64 x.n, .int .i64 x.a, .int .i64 x.b]
def exprsV (xs : List RX) : List Value := (xs.map exprV).flatten

/-- of all that was there the block b and the block x alone may have turned -/
structure FrX (b : Nat) (x : Option Nat) (w w' : World) : Prop where
  os : w'.os = w.os
  tape : w'.tape = w.tape
  output : w'.output = w.output
  size : w.heap.size ≤ w'.heap.size
  block : ∀ k, k < w.heap.size → k ≠ b → x ≠ some k → w'.heap[k]? = w.heap[k]?
theorem FrX.refl (b : Nat) (x : Option Nat) (w : World) : FrX b x w w := ⟨rfl, rfl, rfl, Nat.le_refl _, fun _ _ _ _ => rfl⟩
theorem FrX.trans {b : Nat} {x x' : Option Nat} {w w1 w2 : World} (h : FrX b x w w1) (k : FrX b x' w1 w2) (hx : x' = x ∨ ∃ g, x' = some g ∧ w.heap.size ≤ g) : FrX b x w w2 where
  os := k.os.trans h.os
  tape := k.tape.trans h.tape
  output := k.output.trans h.output
  size := Nat.le_trans h.size k.size
  block i hi hb hxi := by
    rw [k.block i (Nat.lt_of_lt_of_le hi h.size) hb ?_, h.block i hi hb hxi]
    rcases hx with rfl | ⟨g, rfl, hg⟩
    · exact hxi
    · intro e
      injection e with e
      omega
theorem FrX.drew {b : Nat} {x : Option Nat} {a w : World} (h : FrX b x a w) : FrX b x a w.drew := ⟨h.os, h.tape, h.output, h.size, h.block⟩
theorem FrX.drewN {b : Nat} {x : Option Nat} {a w : World} (h : FrX b x a w) (n : Nat) : FrX b x a (w.drewN n) := ⟨h.os, h.tape, h.output, h.size, h.block⟩
theorem FrX.set {b : Nat} {x : Option Nat} {a w : World} (h : FrX b x a w) (i : Nat) (v : Value) : FrX b x a (w.setCell ⟨b, i, none⟩ v) :=
  ⟨h.os, h.tape, h.output, by simpa [World.setCell] using h.size, fun k hk hb hx => by
    rw [Below.heap_setCell _ _ _ _ (by simpa using hb)]; exact h.block k hk hb hx⟩
theorem FrX.setNew {b : Nat} {x : Option Nat} {a w : World} (h : FrX b x a w) {c : Nat} (hc : a.heap.size ≤ c) (i : Nat) (v : Value) : FrX b x a (w.setCell ⟨c, i, none⟩ v) :=
  ⟨h.os, h.tape, h.output, by simpa [World.setCell] using h.size, fun k hk hb hx => by
    rw [Below.heap_setCell _ _ _ _ (by simp; omega)]; exact h.block k hk hb hx⟩
theorem FrX.alloc {b : Nat} {x : Option Nat} {a w : World} (h : FrX b x a w) (o : Obj) : FrX b x a (w.alloc o) :=
  ⟨h.os, h.tape, h.output, by have := h.size; simp; omega, fun k hk hb hx => by
    rw [Below.heap_alloc _ _ _ (Nat.lt_of_lt_of_le hk h.size)]; exact h.block k hk hb hx⟩
theorem FrX.below {b : Nat} {x : Option Nat} {w w' : World} (h : Below w.heap.size w w') : FrX b x w w' := ⟨h.os, h.tape, h.output, h.size, fun k hk _ _ => h.block k hk⟩
theorem FrX.grown {b : Nat} {x x' : Option Nat} {a w w' : World} (h : FrX b x a w) (g : w.grownBy w' x') (hx : x' = x ∨ x' = none ∨ ∃ g, x' = some g ∧ a.heap.size ≤ g) : FrX b x a w' where
  os := g.os.trans h.os
  tape := g.tape.trans h.tape
  output := g.output.trans h.output
  size := Nat.le_trans h.size g.size
  block k hk hb hxk := by
    rw [g.block k (Nat.lt_of_lt_of_le hk h.size) ?_, h.block k hk hb hxk]
    rcases hx with rfl | rfl | ⟨g', rfl, hg⟩
    · exact fun e => hxk e.symm
    · simp
    · intro e
      injection e with e
      omega
theorem FrX.at {b : Nat} {x : Option Nat} {w w' : World} (h : FrX b x w w') {c : Nat} {o : Obj} (hc : w.heap[c]? = some o) (hb : c ≠ b) (hx : x ≠ some c) : w'.heap[c]? = some o := by
  rw [h.block c (lt_of_at hc) hb hx]; exact hc
theorem ownsRow_lt {w : World} {base : Nat} {e : TypeId} {size : Nat} {v : Value} {n : Nat} {xs : List Value} (h : w.ownsRow base e size v n xs) {g : Nat} (hg : v.ownBlock = some g) : g < w.heap.size := by
  rcases h.2 with ⟨rfl, _⟩ | ⟨g', cap, cur, rfl, _, hb, _⟩
  · simp [Value.ownBlock] at hg
  · simp [Value.ownBlock] at hg
    subst hg
    exact lt_of_at hb
theorem FrX.own {b : Nat} {x : Option Nat} {w w' : World} (h : FrX b x w w') {base : Nat} {e : TypeId} {size : Nat} {v : Value} {n : Nat} {xs : List Value} (ho : w.ownsRow base e size v n xs) (hb : v.ownBlock ≠ some b) (hx : ∀ g, v.ownBlock = some g → x ≠ some g) : w'.ownsRow base e size v n xs :=
  ownsRow_frame ho fun g hg => h.block g (ownsRow_lt ho hg) (fun e => hb (by rw [hg, e])) (hx g hg)

/-- what of a text a reader uses -/
structure RdAt (w : World) (b : Nat) (s : XR) (vn vx vt : Value) (line : Int) : Prop where
  blk : w.heap[b]? = some (.cells (textCells s vn vx vt line) 138)
  toks : w.ownsRow 0 9 1 vt s.toks.length (wstrs s.toks)
  xs : w.ownsRow 0 182 5 vx s.xs.length (exprsV s.xs)
  tb : vt.ownBlock ≠ some b
  xb : vx.ownBlock ≠ some b
  xt : ∀ g, vx.ownBlock = some g → vt.ownBlock ≠ some g
theorem RdAt.c0 {w : World} {b : Nat} {s : XR} {vn vx vt : Value} {line : Int} (h : RdAt w b s vn vx vt line) : w.cell? ⟨b, 0, none⟩ = some vn := cell_at h.blk 0
theorem RdAt.c1 {w : World} {b : Nat} {s : XR} {vn vx vt : Value} {line : Int} (h : RdAt w b s vn vx vt line) : w.cell? ⟨b, 1, none⟩ = some vx := cell_at h.blk 1
theorem RdAt.c2 {w : World} {b : Nat} {s : XR} {vn vx vt : Value} {line : Int} (h : RdAt w b s vn vx vt line) : w.cell? ⟨b, 2, none⟩ = some vt := cell_at h.blk 2
theorem RdAt.c3 {w : World} {b : Nat} {s : XR} {vn vx vt : Value} {line : Int} (h : RdAt w b s vn vx vt line) : w.cell? ⟨b, 3, none⟩ = some (.int .i64 s.at_) := cell_at h.blk 3
theorem RdAt.c4 {w : World} {b : Nat} {s : XR} {vn vx vt : Value} {line : Int} (h : RdAt w b s vn vx vt line) : w.cell? ⟨b, 4, none⟩ = some (.int .i64 s.nest) := cell_at h.blk 4
theorem RdAt.c5 {w : World} {b : Nat} {s : XR} {vn vx vt : Value} {line : Int} (h : RdAt w b s vn vx vt line) : w.cell? ⟨b, 5, none⟩ = some (.int .i64 s.e) := cell_at h.blk 5
theorem RdAt.c6 {w : World} {b : Nat} {s : XR} {vn vx vt : Value} {line : Int} (h : RdAt w b s vn vx vt line) : w.cell? ⟨b, 6, none⟩ = some (.int .i64 line) := cell_at h.blk 6
theorem RdAt.fz {w : World} {b : Nat} {s : XR} {vn vx vt : Value} {line : Int} (h : RdAt w b s vn vx vt line) (o : Nat) : w.frozen? ⟨b, o, none⟩ = false := frozen_at h.blk o
/-- the block alone has turned -/
theorem RdAt.turn {w w' : World} {b : Nat} {s s' : XR} {vn vx vt : Value} {line : Int} (h : RdAt w b s vn vx vt line) (hf : FrX b none w w') (hb : w'.heap[b]? = some (.cells (textCells s' vn vx vt line) 138)) (ht : s'.toks = s.toks) (hx : s'.xs = s.xs) : RdAt w' b s' vn vx vt line where
  blk := hb
  toks := by rw [ht]; exact hf.own h.toks h.tb (fun _ _ => by simp)
  xs := by rw [hx]; exact hf.own h.xs h.xb (fun _ _ => by simp)
  tb := h.tb
  xb := h.xb
  xt := h.xt
theorem RdAt.drew {w : World} {b : Nat} {s : XR} {vn vx vt : Value} {line : Int} (h : RdAt w b s vn vx vt line) : RdAt w.drew b s vn vx vt line := h.turn (FrX.refl _ _ _).drew h.blk rfl rfl
theorem RdAt.drewN {w : World} {b : Nat} {s : XR} {vn vx vt : Value} {line : Int} (h : RdAt w b s vn vx vt line) (n : Nat) : RdAt (w.drewN n) b s vn vx vt line := h.turn ((FrX.refl _ _ _).drewN n) h.blk rfl rfl
theorem FrX.weak {b : Nat} {x : Option Nat} {w w' : World} (h : FrX b none w w') : FrX b x w w' := ⟨h.os, h.tape, h.output, h.size, fun k hk hb _ => h.block k hk hb (by simp)⟩

/-- behind a reader's call -/
def RPost (b : Nat) (vn vt : Value) (line : Int) (w : World) (vx : Value) (s' : XR) (w' : World) : Prop :=
  ∃ vx', RdAt w' b s' vn vx' vt line ∧ FrX b vx.ownBlock w w' ∧ (vx'.ownBlock = vx.ownBlock ∨ ∃ g, vx'.ownBlock = some g ∧ w.heap.size ≤ g)
theorem new_le {o x : Option Nat} {a b : Nat} (h : o = x ∨ ∃ g, o = some g ∧ b ≤ g) (hab : a ≤ b) : o = x ∨ ∃ g, o = some g ∧ a ≤ g := by
  rcases h with h | ⟨g, h, hg⟩
  · exact .inl h
  · exact .inr ⟨g, h, by omega⟩
theorem RPost.same {w : World} {b : Nat} {s : XR} {vn vx vt : Value} {line : Int} (h : RdAt w b s vn vx vt line) : RPost b vn vt line w vx s w := ⟨vx, h, FrX.refl _ _ _, .inl rfl⟩
theorem RPost.turn {w w' : World} {b : Nat} {s' : XR} {vn vx vt : Value} {line : Int} (h : RdAt w' b s' vn vx vt line) (hf : FrX b none w w') : RPost b vn vt line w vx s' w' := ⟨vx, h, hf.weak, .inl rfl⟩
theorem RPost.trans {w w1 w2 : World} {b : Nat} {s2 : XR} {vn vx vx1 vt : Value} {line : Int} (hf : FrX b vx.ownBlock w w1) (hn : vx1.ownBlock = vx.ownBlock ∨ ∃ g, vx1.ownBlock = some g ∧ w.heap.size ≤ g) (h : RPost b vn vt line w1 vx1 s2 w2) : RPost b vn vt line w vx s2 w2 := by
  obtain ⟨vx2, h1, h2, h3⟩ := h
  refine ⟨vx2, h1, hf.trans h2 hn, ?_⟩
  rcases new_le h3 hf.size with h3 | h3
  · rw [h3]; exact hn
  · exact .inr h3

/- how far a reader goes, and how many expressions it makes, at most -/
structure Gr (c : Nat) (s s' : XR) : Prop where
  at_ : s'.at_ ≤ s.at_ + c
  xs : s'.xs.length ≤ s.xs.length + c
  toks : s'.toks = s.toks
  nest : s'.nest = s.nest
theorem Gr.refl (s : XR) : Gr 0 s s := ⟨Nat.le_refl _, Nat.le_refl _, rfl, rfl⟩
theorem Gr.trans {c d : Nat} {s s1 s2 : XR} (h : Gr c s s1) (k : Gr d s1 s2) : Gr (c + d) s s2 := ⟨by have := h.at_; have := k.at_; omega, by have := h.xs; have := k.xs; omega, k.toks.trans h.toks, k.nest.trans h.nest⟩
theorem Gr.le {c d : Nat} {s s' : XR} (h : Gr c s s') (hd : c ≤ d) : Gr d s s' := ⟨by have := h.at_; omega, by have := h.xs; omega, h.toks, h.nest⟩
theorem gr_wrong (s : XR) (c : Int) : Gr 0 s (s.wrong c) := by
  unfold XR.wrong
  split
  · exact ⟨Nat.le_refl _, Nat.le_refl _, rfl, rfl⟩
  · exact Gr.refl s
theorem gr_step (s : XR) : Gr 1 s s.step := ⟨Nat.le_refl _, by show s.xs.length ≤ _; omega, rfl, rfl⟩
theorem gr_must (s : XR) (t : Bs) : Gr 1 s (s.must t) := by
  unfold XR.must
  split
  · exact gr_step s
  · have := (gr_wrong s 2).trans (gr_step (s.wrong 2))
    exact this.le (by omega)
theorem gr_name (s : XR) : Gr 1 s s.name.2 := by
  show Gr 1 s (if rnameB s.now then s else s.wrong 2).step
  split
  · exact gr_step s
  · have := (gr_wrong s 2).trans (gr_step (s.wrong 2))
    exact this.le (by omega)
theorem gr_put (s : XR) (x : RX) : Gr 1 s (s.put x).2 := ⟨by show s.at_ ≤ _; omega, by show (s.xs ++ [x]).length ≤ _; simp, rfl, rfl⟩
def cN : Nat → Nat
  | 0 => 2
  | n + 1 => 2 * cN n + 4
theorem gr_leaf (s : XR) : Gr 2 s (rleaf s).2 := by
  unfold rleaf
  split
  · exact (gr_step s).trans (gr_put _ _)
  · exact (gr_name s).trans (gr_put _ _)
theorem gr_tail {f : XR → Nat × XR} {c : Nat} (hf : ∀ s, Gr c s (f s).2) (p : Nat × XR) : Gr (c + 2) p.2 (rtail f p).2 := by
  unfold rtail
  split
  · split
    · exact (Gr.refl _).le (by omega)
    · exact (((gr_step p.2).trans (hf _)).trans (gr_put _ _)).le (by omega)
  · exact (Gr.refl _).le (by omega)
theorem gr_inner {f : XR → Nat × XR} {c : Nat} (hf : ∀ s, Gr c s (f s).2) (s : XR) : Gr (2 * c + 4) s (rinner f s).2 := by
  have h1 := hf { s.step with nest := s.nest + 1 }
  have h2 := gr_tail hf (f { s.step with nest := s.nest + 1 })
  have h := h1.trans h2
  generalize hq : rtail f (f { s.step with nest := s.nest + 1 }) = q at h
  have e : (rinner f s).2 = ({ q.2 with nest := q.2.nest - 1 } : XR).must [41] := by unfold rinner; dsimp only; rw [hq]
  rw [e]
  have hm := gr_must ({ q.2 with nest := q.2.nest - 1 } : XR) [41]
  have a1 : q.2.at_ ≤ s.at_ + 1 + (c + (c + 2)) := h.at_
  have a2 : q.2.xs.length ≤ s.xs.length + (c + (c + 2)) := h.xs
  have a3 : q.2.toks = s.toks := h.toks
  have a4 : q.2.nest = s.nest + 1 := h.nest
  refine ⟨?_, ?_, hm.toks.trans a3, ?_⟩
  · have : _ ≤ q.2.at_ + 1 := hm.at_
    omega
  · have : _ ≤ q.2.xs.length + 1 := hm.xs
    omega
  · rw [hm.nest]
    show q.2.nest - 1 = s.nest
    omega
theorem gr_operand : ∀ (n : Nat) (s : XR), Gr (cN n) s (roperand n s).2
  | 0, s => by
    unfold roperand
    split
    · exact (Gr.refl _).le (by unfold cN; omega)
    · split
      · exact (gr_wrong _ _).le (by unfold cN; omega)
      · exact gr_leaf s
  | n + 1, s => by
    unfold roperand
    split
    · exact (Gr.refl _).le (by unfold cN; omega)
    · split
      · exact gr_inner (gr_operand n) s
      · exact (gr_leaf s).le (by unfold cN; omega)
theorem gr_expr (n : Nat) (s : XR) : Gr (2 * cN n + 2) s (rexpr n s).2 := ((gr_operand n s).trans (gr_tail (gr_operand n) _)).le (by omega)
/-- there is room for so many more -/
structure Lim (s : XR) (k : Nat) : Prop where
  at_ : s.at_ + k ≤ 1000000
  xs : s.xs.length + k ≤ 500000
  toks : s.toks.length ≤ 1000
  short : ∀ t ∈ s.toks, t.length ≤ 1000
  dig : ∀ t ∈ s.toks, isDigitB (t.headD 0).toNat = true → ∀ c ∈ t, isDigitB c.toNat = true
theorem Lim.gr {s s' : XR} {c k m : Nat} (h : Lim s m) (g : Gr c s s') (hm : c + k ≤ m) : Lim s' k := ⟨by have := h.at_; have := g.at_; omega, by have := h.xs; have := g.xs; omega, by rw [g.toks]; exact h.toks, by rw [g.toks]; exact h.short, by rw [g.toks]; exact h.dig⟩
theorem Lim.now {s : XR} {k : Nat} (h : Lim s k) : s.now.length ≤ 1000 := by
  unfold XR.now
  rcases Nat.lt_or_ge s.at_ s.toks.length with x | x
  · rw [getD_lt _ _ _ x]; exact h.short _ (List.getElem_mem x)
  · rw [getD_ge _ _ _ x]; simp
theorem Lim.digits {s : XR} {k : Nat} (h : Lim s k) (hd : isDigitB (s.now.headD 0).toNat = true) : ∀ c ∈ s.now, isDigitB c.toNat = true := by
  unfold XR.now at hd ⊢
  rcases Nat.lt_or_ge s.at_ s.toks.length with x | x
  · rw [getD_lt _ _ _ x] at hd ⊢; exact h.dig _ (List.getElem_mem x) hd
  · rw [getD_ge _ _ _ x]; simp
end Go.Proofs.YtnhidaamfnjdjaaGreatDoor
namespace Go.Proofs.YtnhidaamfnjdjaaGreatDoor
open Go.RowKit Go.Maps

set_option maxRecDepth 20000 in
set_option maxHeartbeats 1000000 in
theorem now_any (b : Nat) (s : XR) (vn vx vt : Value) (line : Int) (w : World) (h : RdAt w b s vn vx vt line) (hl : Lim s 0) :
    Calls Tryz.prog 127 #[.pointer (some ⟨b, 0, none⟩)] w fun e w' => e = .returned (.string ⟨s.now.toArray⟩) ∧ ∃ n, w' = w.drewN n := by
  have c2 := h.c2; have c3 := h.c3
  have ha := hl.at_; have ht := hl.toks
  by_cases hx : s.at_ < s.toks.length
  · obtain ⟨g, cap, cur, rfl, hg, hn, hc, hsz, hxs⟩ := ownsRow_shape h.toks (by omega)
    have hcell : w.cell? ⟨g, s.at_, none⟩ = some (.string ⟨s.now.toArray⟩) := ownsRow_cell hg hxs (by simp [wstrs, XR.now, List.getD, hx])
    clear h hl hg hxs hsz
    generalize s.now = x at *
    generalize s.at_ = k at *
    generalize s.toks.length = n at *
    go_enter Tryz.func127, Tryz.ntmps127
    go_wp2_with fail
    go_region
    go_wp2_with fail
    go_region
    go_wp2_with fail
    go_ret
    exact ⟨rfl, 2, rfl⟩
  · obtain ⟨va, vc, rfl⟩ := ownsRow_len h.toks
    have hq : s.now = [] := by unfold XR.now; exact getD_ge _ _ _ (by omega)
    rw [hq]
    clear h hl hq
    generalize s.at_ = k at *
    generalize s.toks.length = n at *
    go_enter Tryz.func127, Tryz.ntmps127
    go_wp2_with fail
    go_region
    go_wp2_with fail
    go_ret
    exact ⟨rfl, 1, rfl⟩

set_option maxHeartbeats 1000000 in
theorem wrong_any (b : Nat) (s : XR) (vn vx vt : Value) (line : Int) (c : Int) (w : World) (h : RdAt w b s vn vx vt line) :
    Calls Tryz.prog 125 #[.pointer (some ⟨b, 0, none⟩), .int .i64 c] w fun e w' => e = .returned (.tuple #[]) ∧ RdAt w' b (s.wrong c) vn vx vt line ∧ FrX b none w w' := by
  have c5 := h.c5; have fz := h.fz
  have H := hide h
  clear h
  by_cases he : s.e = 0
  · have he' : (s.e == 0) = true := by simp [he]
    have hq : Hid (s.wrong c = { s with e := c }) := by apply hide; unfold XR.wrong; rw [if_pos he]
    clear he
    go_enter Tryz.func125, Tryz.ntmps125
    go_wp2
    go_end0
    rw [hq.out]
    exact ⟨rfl, H.out.turn ((FrX.refl _ _ _).set _ _) (at_setCell H.out.blk _ _) rfl rfl, (FrX.refl _ _ _).set _ _⟩
  · have he' : (s.e == 0) = false := by simp [he]
    have hq : Hid (s.wrong c = s) := by apply hide; unfold XR.wrong; rw [if_neg he]
    clear he
    go_enter Tryz.func125, Tryz.ntmps125
    go_wp2
    go_end0
    rw [hq.out]
    exact ⟨rfl, H.out, FrX.refl _ _ _⟩

/-- one token farther, in memory -/
theorem RdAt.step {w : World} {b : Nat} {s : XR} {vn vx vt : Value} {line : Int} (h : RdAt w b s vn vx vt line) : RdAt (w.setCell ⟨b, 3, none⟩ (.int .i64 (((s.at_ + 1 : Nat)) : Int))) b s.step vn vx vt line :=
  h.turn ((FrX.refl _ _ _).set _ _) (at_setCell h.blk _ _) rfl rfl

set_option maxHeartbeats 1000000 in
theorem must_any (b : Nat) (s : XR) (vn vx vt : Value) (line : Int) (t : Bs) (w : World) (h : RdAt w b s vn vx vt line) (hl : Lim s 1) :
    Calls Tryz.prog 213 #[.pointer (some ⟨b, 0, none⟩), .string ⟨t.toArray⟩] w fun e w' => e = .returned (.tuple #[]) ∧ RdAt w' b (s.must t) vn vx vt line ∧ FrX b none w w' := by
  have H := hide h
  have HL := hide hl
  have ha := hl.at_
  clear h hl
  by_cases he : s.now = t
  · have he' : (!s.now == t) = false := by simp [he]
    have hq : Hid (s.must t = s.step) := by apply hide; unfold XR.must; rw [if_pos he]
    have c3 := H.out.c3; have fz := H.out.fz
    clear he
    go_enter Tryz.func213, Tryz.ntmps213
    go_wp2_with (go_at_call 127; refine (now_any _ _ _ _ _ _ _ H.out (HL.out.gr (Gr.refl _) (by omega))).mono ?_; rintro e wx ⟨rfl, nd, rfl⟩)
    go_end0
    rw [hq.out]
    exact ⟨rfl, (H.out.drewN nd).step, ((FrX.refl _ _ _).drewN nd).set _ _⟩
  · have he' : (!s.now == t) = true := by simp [he]
    have hq : Hid (s.must t = (s.wrong 2).step) := by apply hide; unfold XR.must; rw [if_neg he]
    have hat : (s.wrong 2).at_ = s.at_ := by unfold XR.wrong; split <;> rfl
    have Hat := hide hat
    clear he hat
    go_enter Tryz.func213, Tryz.ntmps213
    go_wp2_with (first | (go_at_call 127; refine (now_any _ _ _ _ _ _ _ H.out (HL.out.gr (Gr.refl _) (by omega))).mono ?_; rintro e wx ⟨rfl, nd, rfl⟩) | (go_at_call 125; refine (wrong_any _ _ _ _ _ _ _ _ (H.out.drewN nd)).mono ?_; rintro e w1 ⟨rfl, h1, f1⟩; have c3 := h1.c3; rw [Hat.out] at c3; have fz := h1.fz; have H1 := hide h1; have F1 := hide f1; clear h1 f1))
    go_end0
    rw [hq.out]
    have := H1.out.step
    rw [Hat.out] at this
    exact ⟨rfl, this, (((FrX.refl _ _ _).drewN nd).trans F1.out (.inl rfl)).set _ _⟩

set_option maxHeartbeats 1000000 in
theorem rname_any (b : Nat) (s : XR) (vn vx vt : Value) (line : Int) (w : World) (h : RdAt w b s vn vx vt line) (hl : Lim s 1) :
    Calls Tryz.prog 187 #[.pointer (some ⟨b, 0, none⟩)] w fun e w' => e = .returned (.string ⟨s.name.1.toArray⟩) ∧ RdAt w' b s.name.2 vn vx vt line ∧ FrX b none w w' := by
  have H := hide h
  have HL := hide hl
  have ha := hl.at_
  have Hnow := hide hl.now
  clear h hl
  cases he : rnameB s.now with
  | true =>
    have hq : Hid (s.name = (s.now, s.step)) := by apply hide; unfold XR.name; rw [he]; rfl
    have c3 := H.out.c3; have fz := H.out.fz
    have He := hide he
    clear he
    go_enter Tryz.func187, Tryz.ntmps187
    go_wp2_with (first | (go_at_call 127; refine (now_any _ _ _ _ _ _ _ H.out (HL.out.gr (Gr.refl _) (by omega))).mono ?_; rintro e wx ⟨rfl, nd, rfl⟩) | (go_at_call 189; refine (rName_any _ _ Hnow.out).mono ?_; rw [He.out]; rintro e wx ⟨rfl, hw⟩; have hw := hw.symm; subst hw))
    go_ret
    rw [hq.out]
    exact ⟨rfl, (H.out.drewN nd).step, ((FrX.refl _ _ _).drewN nd).set _ _⟩
  | false =>
    have hq : Hid (s.name = (s.now, (s.wrong 2).step)) := by apply hide; unfold XR.name; rw [he]; rfl
    have hat : (s.wrong 2).at_ = s.at_ := by unfold XR.wrong; split <;> rfl
    have Hat := hide hat
    have He := hide he
    clear he hat
    go_enter Tryz.func187, Tryz.ntmps187
    go_wp2_with (first | (go_at_call 127; refine (now_any _ _ _ _ _ _ _ H.out (HL.out.gr (Gr.refl _) (by omega))).mono ?_; rintro e wx ⟨rfl, nd, rfl⟩) | (go_at_call 189; refine (rName_any _ _ Hnow.out).mono ?_; rw [He.out]; rintro e wx ⟨rfl, hw⟩; have hw := hw.symm; subst hw) | (go_at_call 125; refine (wrong_any _ _ _ _ _ _ _ _ (H.out.drewN nd)).mono ?_; rintro e w1 ⟨rfl, h1, f1⟩; have c3 := h1.c3; rw [Hat.out] at c3; have fz := h1.fz; have H1 := hide h1; have F1 := hide f1; clear h1 f1))
    go_ret
    rw [hq.out]
    have := H1.out.step
    rw [Hat.out] at this
    exact ⟨rfl, this, (((FrX.refl _ _ _).drewN nd).trans F1.out (.inl rfl)).set _ _⟩

/- an expression more -/
theorem exprInfo : (Tryz.prog.info? 182).map (fun i => (i.zero, i.size, i.bytes)) = some (some (.agg #[.int .u8 0, .string ⟨#[]⟩, .int .i64 0, .int .i64 0, .int .i64 0]), 5, 48) := by kernel_rfl
theorem exprV_one (x : RX) : ∀ u ∈ exprV x, u.oneCell' = true := by
  intro u hu; simp [exprV] at hu; rcases hu with rfl | rfl | rfl | rfl | rfl <;> rfl
theorem new_row (w : World) (n : Nat) (h : w.heap.size = n) (cs : List Value) (t : TypeId) : ∀ (j : Nat) (u : Value), cs[j]? = some u → (w.alloc (.cells cs.toArray t)).cell? ((⟨n, 0, none⟩ : Addr).add j) = some u := by
  subst h
  intro j u hj
  rw [add_at, cell_at (at_new w _)]
  simpa using hj
def RX.val (x : RX) : Value := .agg #[.int .u8 x.op.toNat, .string ⟨x.name.toArray⟩, .int .i64 x.n, .int .i64 x.a, .int .i64 x.b]
theorem exprsV_append (xs : List RX) (x : RX) : exprsV (xs ++ [x]) = exprsV xs ++ exprV x := by simp [exprsV]

theorem put_final {w w1 w4 : World} {b : Nat} {s : XR} {vn vx vt : Value} {line : Int} {O : Obj} {v' : Value} {x : RX} (h : RdAt w b s vn vx vt line) (F1 : FrX b vx.ownBlock w w1) (G4 : (w1.alloc O).drew.grownBy w4 vx.ownBlock)
    (O4 : w4.ownsRow 0 182 5 v' (s.xs.length + 1) (exprsV s.xs ++ exprV x)) (B4 : v'.ownBlock = vx.ownBlock ∨ ∃ g, v'.ownBlock = some g ∧ (w1.alloc O).drew.heap.size ≤ g)
    (Hv4 : w4.heap[b]? = some (.cells (textCells s vn vx vt line) 138)) : RPost b vn vt line w vx (s.put x).2 (w4.setCell ⟨b, 1, none⟩ v') := by
  have f4 : FrX b vx.ownBlock w w4 := ((F1.alloc O).drew).grown G4 (.inl rfl)
  have f5 := f4.set 1 v'
  have hz : w.heap.size ≤ (w1.alloc O).drew.heap.size := ((F1.alloc O).drew).size
  have B5 := new_le B4 hz
  have hbw := lt_of_at h.blk
  have hvb : v'.ownBlock ≠ some b := by
    rcases B5 with e | ⟨g, e, hg⟩
    · rw [e]; exact h.xb
    · rw [e]; intro x; injection x with x; omega
  refine ⟨v', ⟨at_setCell Hv4 1 v', f5.own h.toks h.tb (fun g hg e => h.xt g e hg), ?_, h.tb, hvb, ?_⟩, f5, B5⟩
  · show (w4.setCell ⟨b, 1, none⟩ v').ownsRow 0 182 5 v' (s.xs ++ [x]).length (exprsV (s.xs ++ [x]))
    rw [exprsV_append, List.length_append, List.length_singleton]
    exact ownsRow_frame O4 (fun g hg => Below.heap_setCell _ _ _ _ (fun e => hvb (by rw [hg]; exact congrArg some e)))
  · intro g hg hgt
    rcases B5 with e | ⟨g', e, hge⟩
    · exact h.xt g (by rw [← e]; exact hg) hgt
    · rw [e] at hg
      injection hg with hg
      have := ownsRow_lt h.toks hgt
      omega

set_option maxRecDepth 20000 in
set_option maxHeartbeats 1000000 in
theorem put_any (b : Nat) (s : XR) (vn vx vt : Value) (line : Int) (x : RX) (w : World) (h : RdAt w b s vn vx vt line) (hl : Lim s 1) :
    Calls Tryz.prog 212 #[.pointer (some ⟨b, 0, none⟩), x.val] w fun e w' => e = .returned (.int .i64 (s.put x).1) ∧ RPost b vn vt line w vx (s.put x).2 w' := by
  have c1 := h.c1; have fz := h.fz
  have hx := hl.xs
  obtain ⟨va, vc, rfl⟩ := ownsRow_len h.xs
  have H := hide h
  clear h hl
  have hn : s.xs.length + 1 ≤ 1000000 := by omega
  unfold RX.val
  go_enter Tryz.func212, Tryz.ntmps212
  go_wp2_with fail
  have h1 : (w.alloc (.cells #[.int .u8 x.op.toNat, .string ⟨x.name.toArray⟩, .int .i64 x.n, .int .i64 x.a, .int .i64 x.b] 182)).heap[b]? = some (.cells (textCells s vn (.slice va s.xs.length vc) vt line) 138) := at_alloc H.out.blk _
  have hp1 := at_new w (.cells #[.int .u8 x.op.toNat, .string ⟨x.name.toArray⟩, .int .i64 x.n, .int .i64 x.a, .int .i64 x.b] 182)
  have hz1 : (w.alloc (.cells #[.int .u8 x.op.toNat, .string ⟨x.name.toArray⟩, .int .i64 x.n, .int .i64 x.a, .int .i64 x.b] 182)).heap.size = w.heap.size + 1 := by simp
  have own1 : (w.alloc (.cells #[.int .u8 x.op.toNat, .string ⟨x.name.toArray⟩, .int .i64 x.n, .int .i64 x.a, .int .i64 x.b] 182)).ownsRow 0 182 5 (.slice va s.xs.length vc) s.xs.length (exprsV s.xs) := H.out.xs.alloc _
  have f1 : FrX b (Value.slice va s.xs.length vc).ownBlock w (w.alloc (.cells #[.int .u8 x.op.toNat, .string ⟨x.name.toArray⟩, .int .i64 x.n, .int .i64 x.a, .int .i64 x.b] 182)) := (FrX.refl _ _ _).alloc _
  generalize (w.alloc (.cells #[.int .u8 x.op.toNat, .string ⟨x.name.toArray⟩, .int .i64 x.n, .int .i64 x.a, .int .i64 x.b] 182)) = w1 at h1 hp1 hz1 own1 f1 ⊢
  have d1 : w1.cell? ⟨b, 1, none⟩ = some (.slice va s.xs.length vc) := cell_at h1 1
  have e0 : w1.cell? ⟨w.heap.size, 0, none⟩ = some (.int .u8 x.op.toNat) := cell_at hp1 0
  have e1 : w1.cell? ⟨w.heap.size, 1, none⟩ = some (.string ⟨x.name.toArray⟩) := cell_at hp1 1
  have e2 : w1.cell? ⟨w.heap.size, 2, none⟩ = some (.int .i64 x.n) := cell_at hp1 2
  have e3 : w1.cell? ⟨w.heap.size, 3, none⟩ = some (.int .i64 x.a) := cell_at hp1 3
  have e4 : w1.cell? ⟨w.heap.size, 4, none⟩ = some (.int .i64 x.b) := cell_at hp1 4
  have hlb := lt_of_at h1
  have Hz1 := hide hz1; have H1 := hide h1; have Own1 := hide own1; have F1 := hide f1
  clear h1 hp1 hz1 own1 f1 c1 fz
  have law : ∀ (W : World), W.heap = w1.heap → ∀ (w4 : World), (W.alloc (.cells #[.int .u8 x.op.toNat, .string ⟨x.name.toArray⟩, .int .i64 x.n, .int .i64 x.a, .int .i64 x.b] 182)).drew.grownBy w4 (Value.slice va s.xs.length vc).ownBlock →
      w4.heap[b]? = some (.cells (textCells s vn (.slice va s.xs.length vc) vt line) 138) := by
    intro W hW w4 g4
    rw [g4.block b (by show b < (W.alloc _).heap.size; simp [hW]; omega) (fun e => H.out.xb e.symm)]
    show (W.alloc _).heap[b]? = _
    rw [Below.heap_alloc _ _ _ (by rw [hW]; exact hlb), hW]
    exact H1.out
  have Law := hide law
  clear law
  go_region_law (refine step_appendM (by decide) Tryz.underlying136 exprInfo rfl (by decide) rfl _ _ rfl (.slice va s.xs.length vc) s.xs.length (exprsV s.xs) (by simp [Act.eval]) (by exact (ownsRow_frame Own1.out (fun _ _ => rfl)).alloc _) ⟨w1.heap.size, 0, none⟩ 1 1 (exprV x) (by simp [Act.eval]) rfl (by exact new_row _ _ rfl _ _) (exprV_one x) hn ?_; intro v' w4 o4 g4 b4; obtain ⟨va', vc', rfl⟩ := ownsRow_len o4; have hv4 := Law.out _ rfl _ g4; have f4 : w4.cell? ⟨b, 1, none⟩ = some (.slice va s.xs.length vc) := cell_at hv4 1; have z4 : ∀ i, w4.frozen? ⟨b, i, none⟩ = false := (fun i => frozen_at hv4 i); have O4 := hide o4; have G4 := hide g4; have B4 := hide b4; have Hv4 := hide hv4; clear o4 g4 b4 hv4)
  all_goals
    go_wp2
    go_ret
    exact ⟨rfl, put_final H.out F1.out G4.out O4.out B4.out Hv4.out⟩
end Go.Proofs.YtnhidaamfnjdjaaGreatDoor
namespace Go.Proofs.YtnhidaamfnjdjaaGreatDoor
open Go.RowKit Go.Maps

def OpSaid (n : Nat) : Prop := ∀ (b : Nat) (s : XR) (vn vx vt : Value) (line : Int) (w : World), RdAt w b s vn vx vt line → Lim s (cN n) → s.nest = 4 - (n : Int) →
  Calls Tryz.prog 211 #[.pointer (some ⟨b, 0, none⟩)] w fun e w' => e = .returned (.int .i64 (roperand n s).1) ∧ RPost b vn vt line w vx (roperand n s).2 w'
def ExSaid (n : Nat) : Prop := ∀ (b : Nat) (s : XR) (vn vx vt : Value) (line : Int) (w : World), RdAt w b s vn vx vt line → Lim s (2 * cN n + 2) → s.nest = 4 - (n : Int) →
  Calls Tryz.prog 186 #[.pointer (some ⟨b, 0, none⟩)] w fun e w' => e = .returned (.int .i64 (rexpr n s).1) ∧ RPost b vn vt line w vx (rexpr n s).2 w'

theorem rop_mem {t : Bs} (h : ropB t = true) : ∃ c, c ∈ opersB ∧ t = [c] := by
  unfold ropB at h
  rw [List.any_eq_true] at h
  obtain ⟨c, hc, h⟩ := h
  exact ⟨c, hc, by simpa using h⟩
theorem rop_not {t : Bs} (h : ropB t = false) : ∀ c ∈ opersB, (t == [c]) = false := by
  unfold ropB at h
  rw [List.any_eq_false] at h
  intro c hc
  simpa using h c hc

set_option maxRecDepth 20000 in
set_option maxHeartbeats 4000000 in
theorem rexpr_no (n : Nat) (ih : OpSaid n) (b : Nat) (s : XR) (vn vx vt : Value) (line : Int) (w : World) (h : RdAt w b s vn vx vt line) (hl : Lim s (2 * cN n + 2)) (hn : s.nest = 4 - (n : Int)) (hop : ropB (roperand n s).2.now = false) :
    Calls Tryz.prog 186 #[.pointer (some ⟨b, 0, none⟩)] w fun e w' => e = .returned (.int .i64 (roperand n s).1) ∧ RPost b vn vt line w vx (roperand n s).2 w' := by
  have C := hide (ih b s vn vx vt line w h (hl.gr (Gr.refl _) (by omega)) hn)
  have L1 := hide (hl.gr (k := 0) (gr_operand n s) (by omega))
  have hno := rop_not hop
  have h0 := hno 43 (by decide); have h1 := hno 45 (by decide); have h2 := hno 42 (by decide); have h3 := hno 47 (by decide); have h4 := hno 37 (by decide); have h5 := hno 61 (by decide); have h6 := hno 60 (by decide); have h7 := hno 62 (by decide)
  clear hno hop hl h hn
  generalize roperand n s = p at *
  go_enter Tryz.func186, Tryz.ntmps186
  go_wp2_with (first | (go_at_call 211; refine C.out.mono ?_; rintro e w1 ⟨rfl, vx1, r1, f1, n1⟩; have R1 := hide r1; have F1 := hide f1; have N1 := hide n1; clear r1 f1 n1) | (go_at_call 127; refine (now_any _ _ _ _ _ _ _ R1.out L1.out).mono ?_; rintro e wx ⟨rfl, nd, rfl⟩))
  go_ret
  exact ⟨rfl, vx1, R1.out.drewN nd, F1.out.drewN nd, N1.out⟩

set_option maxRecDepth 20000 in
set_option maxHeartbeats 8000000 in
theorem rexpr_bad (n : Nat) (ih : OpSaid n) (b : Nat) (s : XR) (vn vx vt : Value) (line : Int) (w : World) (h : RdAt w b s vn vx vt line) (hl : Lim s (2 * cN n + 2)) (hn : s.nest = 4 - (n : Int)) (hop : ropB (roperand n s).2.now = true) (he : (roperand n s).2.e ≠ 0) :
    Calls Tryz.prog 186 #[.pointer (some ⟨b, 0, none⟩)] w fun e w' => e = .returned (.int .i64 (roperand n s).1) ∧ RPost b vn vt line w vx (roperand n s).2 w' := by
  have C := hide (ih b s vn vx vt line w h (hl.gr (Gr.refl _) (by omega)) hn)
  have L1 := hide (hl.gr (k := 0) (gr_operand n s) (by omega))
  obtain ⟨c, hc, hnow⟩ := rop_mem hop
  have Hnow := hide hnow
  clear hop hl h hn hnow
  generalize roperand n s = p at *
  have e0 : (p.2.e != 0) = true := by simpa using he
  clear he
  simp only [opersB, List.mem_cons, List.not_mem_nil, or_false] at hc
  rcases hc with rfl | rfl | rfl | rfl | rfl | rfl | rfl | rfl
  all_goals
    go_enter Tryz.func186, Tryz.ntmps186
    go_wp2_with (first | (go_at_call 211; refine C.out.mono ?_; rintro e w1 ⟨rfl, vx1, r1, f1, n1⟩; have c5 := r1.c5; have R1 := hide r1; have F1 := hide f1; have N1 := hide n1; clear r1 f1 n1) | (go_at_call 127; refine (now_any _ _ _ _ _ _ _ R1.out L1.out).mono ?_; rw [Hnow.out]; rintro e wx ⟨rfl, nd, rfl⟩))
    go_ret
    exact ⟨rfl, vx1, R1.out.drewN nd, F1.out.drewN nd, N1.out⟩

set_option maxRecDepth 20000 in
set_option maxHeartbeats 8000000 in
theorem rexpr_yes (n : Nat) (ih : OpSaid n) (b : Nat) (s : XR) (vn vx vt : Value) (line : Int) (w : World) (h : RdAt w b s vn vx vt line) (hl : Lim s (2 * cN n + 2)) (hn : s.nest = 4 - (n : Int)) (hop : ropB (roperand n s).2.now = true) (he : (roperand n s).2.e = 0) :
    Calls Tryz.prog 186 #[.pointer (some ⟨b, 0, none⟩)] w fun e w' => e = .returned (.int .i64 ((roperand n (roperand n s).2.step).2.put ⟨(roperand n s).2.now.headD 0, [], 0, (roperand n s).1, (roperand n (roperand n s).2.step).1⟩).1) ∧
      RPost b vn vt line w vx ((roperand n (roperand n s).2.step).2.put ⟨(roperand n s).2.now.headD 0, [], 0, (roperand n s).1, (roperand n (roperand n s).2.step).1⟩).2 w' := by
  have C := hide (ih b s vn vx vt line w h (hl.gr (Gr.refl _) (by omega)) hn)
  have g1 := gr_operand n s
  have l1 := hl.gr (k := cN n + 2) g1 (by omega)
  have l2 := l1.gr (k := cN n + 1) (gr_step _) (by omega)
  have l3 := l2.gr (k := 1) (gr_operand n _) (by omega)
  have n2 : (roperand n s).2.step.nest = 4 - (n : Int) := by show (roperand n s).2.nest = _; rw [g1.nest]; exact hn
  have ha := l1.at_
  have L1 := hide (l1.gr (k := 0) (Gr.refl _) (by omega)); have L2 := hide (l2.gr (k := cN n) (Gr.refl _) (by omega)); have L3 := hide l3; have Hn2 := hide n2
  obtain ⟨c, hc, hnow⟩ := rop_mem hop
  have Hnow := hide hnow
  rw [hnow]
  clear hop hl h hn hnow g1 l1 l2 l3 n2
  generalize roperand n s = p at *
  have e0 : (p.2.e != 0) = false := by simpa using he
  clear he
  simp only [opersB, List.mem_cons, List.not_mem_nil, or_false] at hc
  rcases hc with rfl | rfl | rfl | rfl | rfl | rfl | rfl | rfl
  all_goals
    go_enter Tryz.func186, Tryz.ntmps186
    go_wp2_with (first | (go_at_call 211; refine C.out.mono ?_; rintro e w1 ⟨rfl, vx1, r1, f1, n1⟩; have c5 := r1.c5; have c3 := r1.c3; have fz := r1.fz; have R1 := hide r1; have F1 := hide f1; have N1 := hide n1; clear r1 f1 n1 C) | (go_at_call 127; refine (now_any _ _ _ _ _ _ _ R1.out L1.out).mono ?_; rw [Hnow.out]; rintro e wx ⟨rfl, nd, rfl⟩) | (go_at_call 211; refine (ih _ _ _ _ _ _ _ (R1.out.drewN nd).step L2.out Hn2.out).mono ?_; rintro e w3 ⟨rfl, vx3, r3, f3, n3⟩; have R3 := hide r3; have F3 := hide f3; have N3 := hide n3; clear r3 f3 n3) | (go_at_call 212; refine (put_any _ _ _ _ _ _ ⟨_, [], 0, p.1, (roperand n p.2.step).1⟩ _ R3.out L3.out).mono ?_; rintro e w4 ⟨rfl, p4⟩; have P4 := hide p4; clear p4))
    go_ret
    exact ⟨rfl, RPost.trans (F1.out.trans (((FrX.refl _ _ _).drewN nd).set 3 _) (.inl rfl)) N1.out (RPost.trans F3.out N3.out P4.out)⟩

theorem expr_said (n : Nat) (ih : OpSaid n) : ExSaid n := by
  intro b s vn vx vt line w h hl hn
  unfold rexpr rtail
  cases hop : ropB (roperand n s).2.now with
  | false =>
    rw [if_neg (by simp)]
    exact rexpr_no n ih b s vn vx vt line w h hl hn hop
  | true =>
    rw [if_pos rfl]
    by_cases he : (roperand n s).2.e = 0
    · rw [if_neg (by simpa using he)]
      exact rexpr_yes n ih b s vn vx vt line w h hl hn hop he
    · rw [if_pos he]
      exact rexpr_bad n ih b s vn vx vt line w h hl hn hop he
end Go.Proofs.YtnhidaamfnjdjaaGreatDoor
namespace Go.Proofs.YtnhidaamfnjdjaaGreatDoor
open Go.RowKit Go.Maps

set_option maxRecDepth 20000 in
set_option maxHeartbeats 4000000 in
theorem oper_err (b : Nat) (s : XR) (vn vx vt : Value) (line : Int) (w : World) (h : RdAt w b s vn vx vt line) (hl : Lim s 0) (he : s.e ≠ 0) :
    Calls Tryz.prog 211 #[.pointer (some ⟨b, 0, none⟩)] w fun e w' => e = .returned (.int .i64 ((0 : Nat) : Int)) ∧ RPost b vn vt line w vx s w' := by
  have c5 := h.c5
  have H := hide h; have HL := hide hl
  clear h hl
  have e0 : (s.e != 0) = true := by simpa using he
  clear he
  go_enter Tryz.func211, Tryz.ntmps211
  go_wp2_with (go_at_call 127; refine (now_any _ _ _ _ _ _ _ H.out HL.out).mono ?_; rintro e wx ⟨rfl, nd, rfl⟩)
  go_ret
  exact ⟨rfl, RPost.turn (H.out.drewN nd) ((FrX.refl _ _ _).drewN nd)⟩

set_option maxRecDepth 20000 in
set_option maxHeartbeats 4000000 in
theorem oper_deep (b : Nat) (s : XR) (vn vx vt : Value) (line : Int) (w : World) (h : RdAt w b s vn vx vt line) (hl : Lim s 0) (he : s.e = 0) (ht : s.now = [40]) (hn : s.nest = 4) :
    Calls Tryz.prog 211 #[.pointer (some ⟨b, 0, none⟩)] w fun e w' => e = .returned (.int .i64 ((0 : Nat) : Int)) ∧ RPost b vn vt line w vx (s.wrong 3) w' := by
  have c5 := h.c5; have c4 := h.c4
  rw [he] at c5; rw [hn] at c4
  have H := hide h; have HL := hide hl; have Ht := hide ht
  clear h hl he ht hn
  go_enter Tryz.func211, Tryz.ntmps211
  go_wp2_with (first | (go_at_call 127; refine (now_any _ _ _ _ _ _ _ H.out HL.out).mono ?_; rw [Ht.out]; rintro e wx ⟨rfl, nd, rfl⟩) | (go_at_call 125; refine (wrong_any _ _ _ _ _ _ _ _ (H.out.drewN nd)).mono ?_; rintro e w1 ⟨rfl, h1, f1⟩; have H1 := hide h1; have F1 := hide f1; clear h1 f1))
  go_ret
  exact ⟨rfl, RPost.turn H1.out (((FrX.refl _ _ _).drewN nd).trans F1.out (.inl rfl))⟩

set_option maxRecDepth 20000 in
set_option maxHeartbeats 4000000 in
theorem oper_inner (n : Nat) (ih : ExSaid n) (b : Nat) (s : XR) (vn vx vt : Value) (line : Int) (w : World) (h : RdAt w b s vn vx vt line) (hl : Lim s (cN (n + 1))) (he : s.e = 0) (ht : s.now = [40]) (hn : s.nest = 4 - ((n + 1 : Nat) : Int)) (hb : -1000 ≤ s.nest) :
    Calls Tryz.prog 211 #[.pointer (some ⟨b, 0, none⟩)] w fun e w' => e = .returned (.int .i64 (rinner (roperand n) s).1) ∧ RPost b vn vt line w vx (rinner (roperand n) s).2 w' := by
  have c5 := h.c5; have c4 := h.c4; have c3 := h.c3; have fz := h.fz
  have ha := hl.at_
  rw [he] at c5
  have hcn : cN (n + 1) = 2 * cN n + 4 := rfl
  rw [hcn] at hl ha
  have hL0 := hl.gr (k := 0) (Gr.refl _) (by omega)
  have hL1 : Lim ({ s.step with nest := s.nest + 1 } : XR) (2 * cN n + 3) := ⟨by have := hl.at_; show s.at_ + 1 + _ ≤ _; omega, by have := hl.xs; show s.xs.length + _ ≤ _; omega, hl.toks, hl.short, hl.dig⟩
  have hn1 : ({ s.step with nest := s.nest + 1 } : XR).nest = 4 - (n : Int) := by show s.nest + 1 = _; omega
  have hr1 : ∀ nd, RdAt (((w.drewN nd).setCell ⟨b, 3, none⟩ (.int .i64 ((s.at_ : Int) + 1))).setCell ⟨b, 4, none⟩ (.int .i64 (s.nest + 1))) b { s.step with nest := s.nest + 1 } vn vx vt line := fun nd =>
    (h.drewN nd).turn (((FrX.refl _ _ _).set _ _).set _ _) (at_setCell (at_setCell h.blk _ _) _ _) rfl rfl
  have hg := gr_expr n ({ s.step with nest := s.nest + 1 } : XR)
  have hL2 := hL1.gr (k := 1) hg (by omega)
  have en : (s.nest == 4) = false := by rw [beq_eq_false_iff_ne]; omega
  have b2 : s.nest ≤ 4 := by omega
  have e1 : rinner (roperand n) s = ((rexpr n { s.step with nest := s.nest + 1 }).1, ({ (rexpr n { s.step with nest := s.nest + 1 }).2 with nest := (rexpr n { s.step with nest := s.nest + 1 }).2.nest - 1 } : XR).must [41]) := rfl
  have hqn : (rexpr n { s.step with nest := s.nest + 1 }).2.nest = s.nest + 1 := hg.nest
  rw [e1]
  have C := hide (fun w h => ih b ({ s.step with nest := s.nest + 1 } : XR) vn vx vt line w h (hL1.gr (k := 2 * cN n + 2) (Gr.refl _) (by omega)) hn1)
  have fz1 : ∀ o v, (w.setCell ⟨b, 3, none⟩ v).frozen? ⟨b, o, none⟩ = false := fun o v => frozen_at (at_setCell h.blk _ _) o
  have c41 : ∀ v, (w.setCell ⟨b, 3, none⟩ v).cell? ⟨b, 4, none⟩ = some (.int .i64 s.nest) := fun v => cell_at (at_setCell h.blk _ _) 4
  have H := hide h; have HL := hide hL0; have Ht := hide ht; have HL2 := hide hL2; have R1 := hide hr1
  clear h hl hL0 ht hL1 hL2 hr1 hg he hn hn1 e1 ih hcn
  generalize rexpr n { s.step with nest := s.nest + 1 } = q at *
  have hq1 : q.2.nest - 1 = s.nest := by omega
  go_enter Tryz.func211, Tryz.ntmps211
  go_wp2_with (first | (go_at_call 127; refine (now_any _ _ _ _ _ _ _ H.out HL.out).mono ?_; rw [Ht.out]; rintro e wx ⟨rfl, nd, rfl⟩) | (go_at_call 186; refine (C.out _ (R1.out nd)).mono ?_; rintro e w1 ⟨rfl, vx1, h1, f1, n1⟩; have d4 := h1.c4; rw [hqn] at d4; have dz := h1.fz; have H1 := hide h1; have F1 := hide f1; have N1 := hide n1; clear h1 f1 n1 fz fz1 c4 c41 c3) | (go_at_call 213; (refine (must_any b ({ q.2 with nest := q.2.nest - 1 } : XR) vn vx1 vt line _ _ (H1.out.turn ((FrX.refl _ _ _).set 4 _) (by rw [hq1]; exact at_setCell H1.out.blk 4 _) rfl rfl) ⟨HL2.out.at_, HL2.out.xs, HL2.out.toks, HL2.out.short, HL2.out.dig⟩).mono ?_; rintro e w2 ⟨rfl, h2, f2⟩; have H2 := hide h2; have F2 := hide f2; clear h2 f2)))
  go_ret
  refine ⟨rfl, RPost.trans (vx1 := vx) ((((FrX.refl _ _ _).drewN nd).set _ _).set _ _) (.inl rfl) (RPost.trans F1.out N1.out (RPost.turn H2.out (((FrX.refl _ _ _).set 4 _).trans F2.out (.inl rfl))))⟩

/-- one digit more -/
theorem digits_snoc (t : Bs) (k : Nat) (hk : k < t.length) : digitsV (t.take (k + 1)) = wrap64 (wrap64 (10 * digitsV (t.take k)) + ((t[k].toNat : Int) - 48)) := by
  unfold digitsV
  rw [List.take_add_one, List.getElem?_eq_getElem hk, List.foldl_append]
  rfl

set_option maxRecDepth 20000 in
set_option maxHeartbeats 4000000 in
theorem oper_num (b : Nat) (s : XR) (vn vx vt : Value) (line : Int) (w : World) (h : RdAt w b s vn vx vt line) (hl : Lim s 2) (he : s.e = 0) (h0 : s.now ≠ []) (hd : classF (s.now.headD 0) = 49) :
    Calls Tryz.prog 211 #[.pointer (some ⟨b, 0, none⟩)] w fun e w' => e = .returned (.int .i64 (s.step.put ⟨0, [], digitsV s.now, 0, 0⟩).1) ∧ RPost b vn vt line w vx (s.step.put ⟨0, [], digitsV s.now, 0, 0⟩).2 w' := by
  have c5 := h.c5; have c3 := h.c3; have fz := h.fz
  rw [he] at c5
  have ha := hl.at_
  have hlen := hl.now
  have hdig := hl.digits ((class_digit _).1 hd)
  have hpos : 0 < s.now.length := List.length_pos_iff.2 h0
  have h40 : s.now ≠ [40] := by
    intro e
    rw [e] at hd
    exact absurd hd (by decide)
  have L0 := hide (hl.gr (k := 0) (Gr.refl _) (by omega)); have L1 := hide (hl.gr (k := 1) (gr_step s) (by omega))
  generalize hT : s.now = T at *
  have e40 := beq_eq_false_iff_ne.2 h40
  have e00 := beq_eq_false_iff_ne.2 h0
  have hc : ∀ hq, (⟨T.toArray⟩ : ByteArray)[0]'hq = T.headD 0 := by
    intro _
    cases T with
    | nil => exact absurd rfl h0
    | cons c u => rfl
  have C0 := hide (fun (hq : 0 < (⟨T.toArray⟩ : ByteArray).size) w => class_at ((⟨T.toArray⟩ : ByteArray)[0]'hq) (((⟨T.toArray⟩ : ByteArray)[0]'hq).toNat : Int) 49 rfl (by rw [hc, hd]; rfl) w)
  have hci : ∀ k (hq : k < (⟨T.toArray⟩ : ByteArray).size) (h2 : k < T.length), (⟨T.toArray⟩ : ByteArray)[k]'hq = T[k] := fun _ _ _ => rfl
  have Hci := hide hci
  have hdk : ∀ k (h1 : k < T.length), 48 ≤ T[k].toNat ∧ T[k].toNat ≤ 57 := by
    intro k h1
    have := hdig T[k] (List.getElem_mem h1)
    simp [isDigitB] at this
    omega
  have Hdk := hide hdk
  have H := hide h; have HT := hide hT
  clear h hl he h0 hd hdig h40 hdk hT hc hci
  go_enter Tryz.func211, Tryz.ntmps211
  go_wp2_with (first | (go_at_call 127; refine (now_any _ _ _ _ _ _ _ H.out L0.out).mono ?_; rw [HT.out]; rintro e wx ⟨rfl, nd, rfl⟩) | (go_at_call 184; refine (C0.out _ _).mono ?_; rintro e wx ⟨rfl, hw⟩; have hw := hw.symm; subst hw))
  go_loop [5, 6] (fun n i => ∃ k : Nat, k ≤ T.length ∧ i = .int .i64 k ∧ n = .int .i64 (digitsV (T.take k))) (fun _ i => T.length - (intOf i).toNat)
  case atStart => exact ⟨0, Nat.zero_le _, rfl, rfl⟩
  case round =>
    obtain ⟨k, hk, rfl, rfl⟩ := hrel
    by_cases hlt : k < T.length
    · have Hsn := hide (digits_snoc T k hlt)
      have hdk := Hdk.out k hlt
      have hcb : (⟨T.toArray⟩ : ByteArray)[k]'(by simpa [ByteArray.size] using hlt) = T[k] := rfl
      generalize digitsV (T.take k) = d at *
      generalize hz : (⟨T.toArray⟩ : ByteArray)[k]'(by simpa [ByteArray.size] using hlt) = c at *
      go_wp2_with fail
      exact ⟨⟨k + 1, by omega, by go_num, by rw [Hsn.out]⟩, by simp [intOf]; omega⟩
    · have hke : k = T.length := by omega
      have hte : T.take k = T := by rw [hke]; exact List.take_length
      rw [hte]
      go_wp2_with (go_at_call 212; refine (put_any _ _ _ _ _ _ ⟨0, [], digitsV T, 0, 0⟩ _ (H.out.drewN nd).step L1.out).mono ?_; rintro e w4 ⟨rfl, p4⟩; have P4 := hide p4; clear p4)
      go_ret
      exact ⟨rfl, RPost.trans (vx1 := vx) (((FrX.refl _ _ _).drewN nd).set 3 _) (.inl rfl) P4.out⟩

set_option maxRecDepth 20000 in
set_option maxHeartbeats 4000000 in
theorem oper_name (b : Nat) (s : XR) (vn vx vt : Value) (line : Int) (w : World) (h : RdAt w b s vn vx vt line) (hl : Lim s 2) (he : s.e = 0) (h40 : s.now ≠ [40]) (h0 : s.now = [] ∨ classF (s.now.headD 0) ≠ 49) :
    Calls Tryz.prog 211 #[.pointer (some ⟨b, 0, none⟩)] w fun e w' => e = .returned (.int .i64 (s.name.2.put ⟨0, s.name.1, 0, 0, 0⟩).1) ∧ RPost b vn vt line w vx (s.name.2.put ⟨0, s.name.1, 0, 0, 0⟩).2 w' := by
  have c5 := h.c5
  rw [he] at c5
  have L0 := hide (hl.gr (k := 0) (Gr.refl _) (by omega)); have L1 := hide (hl.gr (k := 1) (Gr.refl _) (by omega)); have L2 := hide (hl.gr (k := 1) (gr_name s) (by omega))
  have hnm : s.name.1 = s.now := rfl
  have Hnm := hide hnm
  have H := hide h
  clear h hl he hnm
  by_cases hz : s.now = []
  · have Hz := hide hz
    clear hz h0 h40
    go_enter Tryz.func211, Tryz.ntmps211
    go_wp2_with (first | (go_at_call 127; refine (now_any _ _ _ _ _ _ _ H.out L0.out).mono ?_; rw [Hz.out]; rintro e wx ⟨rfl, nd, rfl⟩) | (go_at_call 187; refine (rname_any _ _ _ _ _ _ _ (H.out.drewN nd) L1.out).mono ?_; rintro e w1 ⟨rfl, h1, f1⟩; have H1 := hide h1; have F1 := hide f1; clear h1 f1) | (go_at_call 212; refine (put_any _ _ _ _ _ _ ⟨0, s.name.1, 0, 0, 0⟩ _ H1.out L2.out).mono ?_; rintro e w4 ⟨rfl, p4⟩; have P4 := hide p4; clear p4))
    go_ret
    exact ⟨rfl, RPost.trans (vx1 := vx) (((FrX.refl _ _ _).drewN nd).trans F1.out.weak (.inl rfl)) (.inl rfl) P4.out⟩
  · have hd : classF (s.now.headD 0) ≠ 49 := by
      rcases h0 with x | x
      · exact absurd x hz
      · exact x
    have hpos : 0 < s.now.length := List.length_pos_iff.2 hz
    have e40 := beq_eq_false_iff_ne.2 h40
    have e00 := beq_eq_false_iff_ne.2 hz
    generalize hT : s.now = T at *
    have hc : ∀ hq, (⟨T.toArray⟩ : ByteArray)[0]'hq = T.headD 0 := by
      intro _
      cases T with
      | nil => exact absurd rfl hz
      | cons c u => rfl
    have C0 := hide (fun (hq : 0 < (⟨T.toArray⟩ : ByteArray).size) w => class_at ((⟨T.toArray⟩ : ByteArray)[0]'hq) (((⟨T.toArray⟩ : ByteArray)[0]'hq).toNat : Int) (classF (T.headD 0) : Nat) rfl (by rw [hc]) w)
    have ecl : (((classF (T.headD 0) : Nat) : Int) == 49) = false := by rw [beq_eq_false_iff_ne]; omega
    have HT := hide hT
    clear hT hc hd h0 h40 hz
    generalize ((classF (T.headD 0) : Nat) : Int) = z at *
    go_enter Tryz.func211, Tryz.ntmps211
    go_wp2_with (first | (go_at_call 127; refine (now_any _ _ _ _ _ _ _ H.out L0.out).mono ?_; rw [HT.out]; rintro e wx ⟨rfl, nd, rfl⟩) | (go_at_call 184; refine (C0.out _ _).mono ?_; rintro e wx ⟨rfl, hw⟩; have hw := hw.symm; subst hw) | (go_at_call 187; refine (rname_any _ _ _ _ _ _ _ (H.out.drewN nd) L1.out).mono ?_; rintro e w1 ⟨rfl, h1, f1⟩; have H1 := hide h1; have F1 := hide f1; clear h1 f1) | (go_at_call 212; refine (put_any _ _ _ _ _ _ ⟨0, s.name.1, 0, 0, 0⟩ _ H1.out L2.out).mono ?_; rintro e w4 ⟨rfl, p4⟩; have P4 := hide p4; clear p4))
    go_ret
    exact ⟨rfl, RPost.trans (vx1 := vx) (((FrX.refl _ _ _).drewN nd).trans F1.out.weak (.inl rfl)) (.inl rfl) P4.out⟩

theorem oper_leaf (b : Nat) (s : XR) (vn vx vt : Value) (line : Int) (w : World) (h : RdAt w b s vn vx vt line) (hl : Lim s 2) (he : s.e = 0) (h40 : s.now ≠ [40]) :
    Calls Tryz.prog 211 #[.pointer (some ⟨b, 0, none⟩)] w fun e w' => e = .returned (.int .i64 (rleaf s).1) ∧ RPost b vn vt line w vx (rleaf s).2 w' := by
  unfold rleaf
  by_cases hc : (!(s.now == []) && classF (s.now.headD 0) == 49) = true
  · rw [if_pos hc]
    rw [Bool.and_eq_true, Bool.not_eq_true', beq_eq_false_iff_ne, beq_iff_eq] at hc
    exact oper_num b s vn vx vt line w h hl he hc.1 hc.2
  · rw [if_neg hc]
    refine oper_name b s vn vx vt line w h hl he h40 ?_
    rw [Bool.and_eq_true, Bool.not_eq_true', beq_eq_false_iff_ne, beq_iff_eq] at hc
    by_cases hz : s.now = []
    · exact .inl hz
    · exact .inr (fun x => hc ⟨hz, x⟩)

theorem oper_said : ∀ n, n ≤ 4 → OpSaid n
  | 0, _ => by
    intro b s vn vx vt line w h hl hn
    unfold roperand
    by_cases he : s.e = 0
    · rw [if_neg (by simpa using he)]
      by_cases ht : s.now = [40]
      · rw [if_pos ht]
        exact oper_deep b s vn vx vt line w h (hl.gr (Gr.refl _) (by omega)) he ht (by omega)
      · rw [if_neg ht]
        exact oper_leaf b s vn vx vt line w h hl he ht
    · rw [if_pos he]
      exact oper_err b s vn vx vt line w h (hl.gr (Gr.refl _) (by omega)) he
  | n + 1, hle => by
    intro b s vn vx vt line w h hl hn
    unfold roperand
    by_cases he : s.e = 0
    · rw [if_neg (by simpa using he)]
      by_cases ht : s.now = [40]
      · rw [if_pos ht]
        exact oper_inner n (expr_said n (oper_said n (by omega))) b s vn vx vt line w h hl he ht hn (by omega)
      · rw [if_neg ht]
        exact oper_leaf b s vn vx vt line w h (hl.gr (Gr.refl _) (by unfold cN; omega)) he ht
    · rw [if_pos he]
      exact oper_err b s vn vx vt line w h (hl.gr (Gr.refl _) (by omega)) he
/-- an expression, where no bracket is open -/
theorem rexpr_any (b : Nat) (s : XR) (vn vx vt : Value) (line : Int) (w : World) (h : RdAt w b s vn vx vt line) (hl : Lim s 200) (hn : s.nest = 0) :
    Calls Tryz.prog 186 #[.pointer (some ⟨b, 0, none⟩)] w fun e w' => e = .returned (.int .i64 (rexpr 4 s).1) ∧ RPost b vn vt line w vx (rexpr 4 s).2 w' :=
  expr_said 4 (oper_said 4 (Nat.le_refl _)) b s vn vx vt line w h (hl.gr (Gr.refl _) (by decide)) (by rw [hn]; rfl)
end Go.Proofs.YtnhidaamfnjdjaaGreatDoor
