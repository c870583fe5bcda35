import Derived.Test.YtnhidaamfnjdjaaGreatDoorMakE
namespace Go.Proofs.YtnhidaamfnjdjaaGreatDoor
open Go.RowKit Go.Maps

theorem croom_final {w : World} {lo b : Nat} {s : CM} {vc vb : Value} (h : MkAt w lo b s vc vb) (r : Int) : MkAt (w.setCell ⟨b, 2, none⟩ (.int .i64 r)) lo b { s with room := r } vc vb ∧ MkFr b vc vb vc vb w (w.setCell ⟨b, 2, none⟩ (.int .i64 r)) :=
  ⟨⟨at_setCell h.blk 2 _, ownsRow_frame h.code (fun g hg => Below.heap_setCell _ _ _ _ (fun e => h.cb (by rw [hg]; exact congrArg some e))), ownsRow_frame h.br (fun g hg => Below.heap_setCell _ _ _ _ (fun e => h.bb (by rw [hg]; exact congrArg some e))), h.cb, h.bb, h.cbr, h.lb, h.lc, h.lbr⟩, rfl, rfl, rfl, by simp, fun g _ hb _ _ => Below.heap_setCell _ _ _ _ (fun e => hb e), .inl rfl, .inl rfl⟩

section
variable {T : List PNode} {ms : List NM} {lo b f i : Nat}

set_option maxRecDepth 20000 in
set_option maxHeartbeats 4000000 in
theorem cdecl_any (P : ProcC T ms lo b f) (hkid : ∀ k ∈ (T.getD i default).kids, i < k ∧ k < T.length) (hi : i < T.length) (hf : T.length ≤ i + 1 + f) (hk : (T.getD i default).kids.length ≤ 1000000) (hkd : (T.getD i default).kind = 15 ∨ (T.getD i default).kind = 16) (hnd : 0 ≤ (T.getD i default).nd ∧ (T.getD i default).nd ≤ 100000)
    (w : World) (s s1 s2 : CM) (vc vb : Value) (hs1 : s1 = { s with room := max s.room ((T.getD i default).nd + 1) }) (hs2 : s2 = if (T.getD i default).kind = 15 then s1.add 11 (T.getD i default).nd else s1) (ht : TrAt w lo T ms) (h : MkAt w lo b s vc vb) (hc : (belowF T f i s2).code.length ≤ 800000) (hb : (belowF T f i s2).br.length ≤ 800000) :
    Calls Tryz.prog 149 #[.pointer (some ⟨b, 0, none⟩), ptrTo ms i] w fun e w' => e = .returned (.tuple #[]) ∧ MkPost lo b vc vb w (belowF T f i s2) w' := by
  have nd := ht.nd i hi
  have hl1 : s1.code.length + 1 ≤ 1000000 := by
    have h1 := (belowF_le (T := T) f i s2).1
    have h2 : s1.code.length ≤ s2.code.length := by
      rw [hs2]
      split
      · exact (add_le' _ _ _).1
      · exact Nat.le_refl _
    omega
  have B : Hid (∀ w vc vb, TrAt w lo T ms → MkAt w lo b s2 vc vb → Calls Tryz.prog 148 #[.pointer (some ⟨b, 0, none⟩), ptrTo ms i] w fun e w' => e = .returned (.tuple #[]) ∧ MkPost lo b vc vb w (belowF T f i s2) w') := hide (fun w vc vb ht h => cbelow_any P hkid hi hf w s2 vc vb ht h hc hb hk)
  clear P hkid hf hc hb hk
  generalize belowF T f i s2 = sf at *
  generalize T.getD i default = n at *
  have d0 : w.cell? ⟨blkOf ms i, 0, none⟩ = some (.int .i64 n.kind) := cell_at nd.cells 0
  have d3 : w.cell? ⟨blkOf ms i, 3, none⟩ = some (.int .i64 n.nd) := cell_at nd.cells 3
  have c2 := h.c2
  have z2 : ∀ k, w.frozen? ⟨b, k, none⟩ = false := fun k => frozen_at h.blk k
  have Fin := croom_final h (max s.room (n.nd + 1))
  rw [← hs1] at Fin
  have hbl := Fin.2.low h
  have nd2 := nd.low hbl
  have q0 : (w.setCell ⟨b, 2, none⟩ (.int .i64 (max s.room (n.nd + 1)))).cell? ⟨blkOf ms i, 0, none⟩ = some (.int .i64 n.kind) := cell_at nd2.cells 0
  have q3 : (w.setCell ⟨b, 2, none⟩ (.int .i64 (max s.room (n.nd + 1)))).cell? ⟨blkOf ms i, 3, none⟩ = some (.int .i64 n.nd) := cell_at nd2.cells 3
  unfold ptrTo at B
  unfold ptrTo
  have H := hide h; have Ht := hide ht; have FF := hide Fin; have Ht2 := hide (ht.low hbl)
  clear h ht Fin nd nd2 hbl
  generalize blkOf ms i = nb at *
  go_enter Tryz.func149, Tryz.ntmps149
  go_wp2_with fail
  go_region
  have K2 := hide FF.out.1.drew; have F2 := hide FF.out.2.drew
  have Ht3 : Hid (TrAt (w.setCell ⟨b, 2, none⟩ (.int .i64 (max s.room (n.nd + 1)))).drew lo T ms) := Ht2.out.low ⟨rfl, rfl, rfl, Nat.le_refl _, fun _ _ => rfl⟩
  have p0 : (w.setCell ⟨b, 2, none⟩ (.int .i64 (max s.room (n.nd + 1)))).drew.cell? ⟨nb, 0, none⟩ = some (.int .i64 n.kind) := q0
  have p3 : (w.setCell ⟨b, 2, none⟩ (.int .i64 (max s.room (n.nd + 1)))).drew.cell? ⟨nb, 3, none⟩ = some (.int .i64 n.nd) := q3
  clear q0 q3 d0 d3 c2 z2 FF Ht2
  generalize (w.setCell ⟨b, 2, none⟩ (.int .i64 (max s.room (n.nd + 1)))).drew = w2 at *
  rcases hkd with hkd | hkd
  · rw [if_pos hkd] at hs2
    rw [hkd] at p0
    have Hs2 := hide hs2
    clear hkd hs1 hs2
    go_wp2_with (first
      | (go_at_call 82; refine (cadd_any 11 n.nd _ K2.out hl1).mono ?_; rw [← Hs2.out]; rintro e w5 ⟨rfl, p5⟩; obtain ⟨vc5, vb5, k5, f5⟩ := p5; have K5 := hide k5; have T5 := hide (Ht3.out.low (f5.low K2.out)); have F5 := hide (F2.out.trans f5); clear k5 f5)
      | (go_at_call 148; refine (B.out _ _ _ T5.out K5.out).mono ?_; rintro e w6 ⟨rfl, p6⟩; obtain ⟨vc6, vb6, k6, f6⟩ := p6; have K6 := hide k6; have F6 := hide (F5.out.trans f6); clear k6 f6))
    go_end0
    exact ⟨rfl, _, _, K6.out, F6.out⟩
  · rw [if_neg (by omega)] at hs2
    rw [hkd] at p0
    rw [← hs2] at K2
    clear hkd hs1 hs2
    go_wp2_with (go_at_call 148; refine (B.out _ _ _ Ht3.out K2.out).mono ?_; rintro e w6 ⟨rfl, p6⟩; obtain ⟨vc6, vb6, k6, f6⟩ := p6; have K6 := hide k6; have F6 := hide (F2.out.trans f6); clear k6 f6)
    go_end0
    exact ⟨rfl, _, _, K6.out, F6.out⟩

end
end Go.Proofs.YtnhidaamfnjdjaaGreatDoor
namespace Go.Proofs.YtnhidaamfnjdjaaGreatDoor
open Go.RowKit Go.Maps

section
variable {T : List PNode} {ms : List NM} {lo b f i : Nat}

set_option maxRecDepth 20000 in
set_option maxHeartbeats 4000000 in
theorem cwhile_any (P : ProcC T ms lo b f) (hkid : ∀ k ∈ (T.getD i default).kids, i < k ∧ k < T.length) (hi : i < T.length) (hf : T.length ≤ i + 1 + f) (hk : (T.getD i default).kids.length ≤ 1000000) (hfu : fullE (T.getD i default).expr = true)
    (w : World) (s : CM) (vc vb : Value) (ht : TrAt w lo T ms) (h : MkAt w lo b s vc vb) (hc : (belowF T f i ((exprM (T.getD i default).expr (s.add 0 0)).add 18 0)).code.length + 1 ≤ 800000) (hb : (belowF T f i ((exprM (T.getD i default).expr (s.add 0 0)).add 18 0)).br.length ≤ 800000) :
    Calls Tryz.prog 150 #[.pointer (some ⟨b, 0, none⟩), ptrTo ms i] w fun e w' => e = .returned (.tuple #[]) ∧ MkPost lo b vc vb w (((belowF T f i ((exprM (T.getD i default).expr (s.add 0 0)).add 18 0)).add 19 (s.code.length : Int)).aim (exprM (T.getD i default).expr (s.add 0 0)).code.length) w' := by
  have nd := ht.nd i hi
  have h1 := add_le' s 0 0
  have h2 := exprM_len (T.getD i default).expr (s.add 0 0)
  have h3 := add_le' (exprM (T.getD i default).expr (s.add 0 0)) 18 0
  have h4 := belowF_le (T := T) f i ((exprM (T.getD i default).expr (s.add 0 0)).add 18 0)
  have h5 := add_le' (belowF T f i ((exprM (T.getD i default).expr (s.add 0 0)).add 18 0)) 19 (s.code.length : Int)
  have e3 : ((exprM (T.getD i default).expr (s.add 0 0)).add 18 0).code.length = (exprM (T.getD i default).expr (s.add 0 0)).code.length + 1 := by simp [CM.add]
  have e5 : ((belowF T f i ((exprM (T.getD i default).expr (s.add 0 0)).add 18 0)).add 19 (s.code.length : Int)).code.length = (belowF T f i ((exprM (T.getD i default).expr (s.add 0 0)).add 18 0)).code.length + 1 := by simp [CM.add]
  have B : Hid (∀ w vc vb, TrAt w lo T ms → MkAt w lo b ((exprM (T.getD i default).expr (s.add 0 0)).add 18 0) vc vb → Calls Tryz.prog 148 #[.pointer (some ⟨b, 0, none⟩), ptrTo ms i] w fun e w' => e = .returned (.tuple #[]) ∧ MkPost lo b vc vb w (belowF T f i ((exprM (T.getD i default).expr (s.add 0 0)).add 18 0)) w') := hide (fun w vc vb ht h => cbelow_any P hkid hi hf w _ vc vb ht h (by omega) hb hk)
  obtain ⟨c, hve, hcl⟩ := nd.expr.some_of hfu
  have L1 : s.code.length + 1 ≤ 1000000 := by have := h1.1; have := h3.1; have := h4.1; omega
  have L2 : (s.add 0 0).code.length + sizeE (T.getD i default).expr ≤ 900000 := by have := h3.1; have := h4.1; omega
  have L3 : (exprM (T.getD i default).expr (s.add 0 0)).code.length + 1 ≤ 1000000 := by have := h3.1; have := h4.1; omega
  have L5 : (belowF T f i ((exprM (T.getD i default).expr (s.add 0 0)).add 18 0)).code.length + 1 ≤ 1000000 := by omega
  have L6 : (exprM (T.getD i default).expr (s.add 0 0)).code.length < ((belowF T f i ((exprM (T.getD i default).expr (s.add 0 0)).add 18 0)).add 19 (s.code.length : Int)).code.length := by have := h4.1; omega
  have L7 : ((belowF T f i ((exprM (T.getD i default).expr (s.add 0 0)).add 18 0)).add 19 (s.code.length : Int)).code.length ≤ 1000000 := by omega
  clear P hkid hf hc hb hk h1 h2 h3 h4 h5 e3 e5
  generalize belowF T f i ((exprM (T.getD i default).expr (s.add 0 0)).add 18 0) = sf at *
  generalize T.getD i default = n at *
  generalize ms.getD i default = m at *
  generalize hs1 : s.add 0 0 = s1 at *
  generalize hs2 : exprM n.expr s1 = s2 at *
  unfold ptrTo at B
  unfold ptrTo
  have H := hide h; have H0 := hide h; have Ht := hide ht; have Nd := hide nd; have Hfu := hide hfu; have Hve := hide hve; have Hs1 := hide hs1; have Hs2 := hide hs2
  clear h ht nd hfu hve hs1 hs2
  generalize blkOf ms i = nb at *
  go_enter Tryz.func150, Tryz.ntmps150
  go_wp2_with (first
    | (go_at_call 82; refine (cadd_any 0 0 _ H0.out L1).mono ?_; rw [Hs1.out]; rintro e w5 ⟨rfl, p5⟩; obtain ⟨vc5, vb5, k5, f5⟩ := p5; have bl5 := f5.low H.out; have nd5 := Nd.out.low bl5; have q6 : w5.cell? ⟨nb, 6, none⟩ = some (.pointer (some ⟨c, 0, none⟩)) := (cell_at nd5.cells 6).trans (by rw [← Hve.out]; rfl); have Nd5 := hide nd5; have K5 := hide k5; have F5 := hide f5; clear nd5 k5 f5 bl5 Nd H0)
    | (go_at_call 190; rw [← Hve.out]; refine (cexpr_any n.expr m.elo m.ehi m.ve _ s1 _ _ Nd5.out.expr Nd5.out.ehi Hfu.out K5.out L2).mono ?_; rw [Hs2.out]; rintro e w6 ⟨rfl, p6⟩; obtain ⟨vc6, vb6, k6, f6⟩ := p6; have K6 := hide k6; have F6 := hide (F5.out.trans f6); clear k6 f6)
    | (go_at_call 82; refine (cadd_any 18 0 _ K6.out L3).mono ?_; rintro e w7 ⟨rfl, p7⟩; obtain ⟨vc7, vb7, k7, f7⟩ := p7; have K7 := hide k7; have F7 := hide (F6.out.trans f7); clear k7 f7 K6)
    | (go_at_call 148; refine (B.out _ _ _ (Ht.out.low (F7.out.low H.out)) K7.out).mono ?_; rintro e w8 ⟨rfl, p8⟩; obtain ⟨vc8, vb8, k8, f8⟩ := p8; have K8 := hide k8; have F8 := hide (F7.out.trans f8); clear k8 f8)
    | (go_at_call 82; refine (cadd_any 19 s.code.length _ K8.out L5).mono ?_; rintro e w9 ⟨rfl, p9⟩; obtain ⟨vc9, vb9, k9, f9⟩ := p9; have K9 := hide k9; have F9 := hide (F8.out.trans f9); clear k9 f9 K8)
    | (go_at_call 191; refine (caim_at _ K9.out s2.code.length L6 L7).mono ?_; rintro e w10 ⟨rfl, p10⟩; obtain ⟨vc10, vb10, k10, f10⟩ := p10; have K10 := hide k10; have F10 := hide (F9.out.trans f10); clear k10 f10))
  go_end0
  exact ⟨rfl, _, _, K10.out, F10.out⟩
end
end Go.Proofs.YtnhidaamfnjdjaaGreatDoor
/- A LIST OF PLACES beside a maker; choice. -/
namespace Go.Proofs.YtnhidaamfnjdjaaGreatDoor
open Go.RowKit Go.Maps

theorem MkFr.grow {b : Nat} {vc vb vc1 vb1 : Value} {w w1 w2 : World} {r : Option Nat} (h : MkFr b vc vb vc1 vb1 w w1) (g : w1.grownBy w2 r) (hr : ∀ k, r = some k → w.heap.size ≤ k) : MkFr b vc vb vc1 vb1 w w2 :=
  ⟨g.os.trans h.os, g.tape.trans h.tape, g.output.trans h.output, Nat.le_trans h.size g.size, fun k hk h1 h2 h3 => (g.block k (Nat.lt_of_lt_of_le hk h.size) (fun e => by have := hr k e.symm; omega)).trans (h.block k hk h1 h2 h3), h.nc, h.nb⟩
theorem MkAt.grow {w1 w2 : World} {lo b : Nat} {s : CM} {vc vb : Value} {r : Option Nat} (h : MkAt w1 lo b s vc vb) (g : w1.grownBy w2 r) (hr : ∀ k, r = some k → Held w1 b vc vb k) : MkAt w2 lo b s vc vb :=
  ⟨by rw [g.block b (lt_of_at h.blk) (fun e => (hr b e.symm).nb rfl)]; exact h.blk, ownsRow_frame h.code (fun k hk => g.block k (own_lt h.code hk) (fun e => (hr k e.symm).nc hk)), ownsRow_frame h.br (fun k hk => g.block k (own_lt h.br hk) (fun e => (hr k e.symm).nr hk)), h.cb, h.bb, h.cbr, h.lb, h.lc, h.lbr⟩


/-- a list of places, made since memory was of size z -/
structure LvAt (z : Nat) (w : World) (b : Nat) (vc vb lv : Value) (l : List Nat) : Prop where
  own : w.ownsRow 0 3 1 lv l.length (natsV l)
  new : ∀ g, lv.ownBlock = some g → z ≤ g ∧ Held w b vc vb g
theorem LvAt.nil (z : Nat) (w : World) (b : Nat) (vc vb : Value) : LvAt z w b vc vb (.slice none 0 0) [] := ⟨World.ownsRow_nil _ _ _ _, fun g e => by simp [Value.ownBlock] at e⟩
theorem LvAt.next {z : Nat} {w w' : World} {b : Nat} {vc vb vc' vb' lv : Value} {l : List Nat} (h : LvAt z w b vc vb lv l) (k : MkFr b vc vb vc' vb' w w') : LvAt z w' b vc' vb' lv l :=
  ⟨ownsRow_frame h.own (fun g hg => ((h.new g hg).2.next k).2), fun g hg => ⟨(h.new g hg).1, ((h.new g hg).2.next k).1⟩⟩
/-- one place more -/
theorem LvAt.more {z : Nat} {w w1 w4 : World} {lo b : Nat} {s : CM} {vc vb vc1 vb1 lv v' : Value} {l : List Nat} {i : Nat} {O : Obj} (h : LvAt w.heap.size w1 b vc1 vb1 lv l) (m : MkAt w1 lo b s vc1 vb1) (fr : MkFr b vc vb vc1 vb1 w w1) (g4 : (w1.alloc O).grownBy w4 lv.ownBlock) (o4 : w4.ownsRow 0 3 1 v' (l.length + 1) (natsV l ++ [.int .i64 i])) (b4 : v'.ownBlock = lv.ownBlock ∨ ∃ g, v'.ownBlock = some g ∧ (w1.alloc O).heap.size ≤ g) (hz : z = w.heap.size) :
    LvAt z w4 b vc1 vb1 v' (l ++ [i]) ∧ MkAt w4 lo b s vc1 vb1 ∧ MkFr b vc vb vc1 vb1 w w4 := by
  subst hz
  have hb1 := m.grown (bel_alloc w1 O)
  have h1 := h.next hb1.2
  have f1 := fr.trans hb1.2
  have hsz : (w1.alloc O).heap.size = w1.heap.size + 1 := by simp
  have hlb := lt_of_at m.blk
  refine ⟨⟨?_, fun g hg => ?_⟩, hb1.1.grow g4 (fun k e => (h1.new k e).2), f1.grow g4 (fun k e => (h1.new k e).1)⟩
  · have e : natsV (l ++ [i]) = natsV l ++ [.int .i64 i] := by simp [natsV]
    rw [e, List.length_append, List.length_singleton]
    exact o4
  · have hs := g4.size
    rcases b4 with e | ⟨g', e, hge⟩
    · rw [e] at hg
      have := h1.new g hg
      exact ⟨this.1, by have := this.2.lt; omega, this.2.nb, this.2.nc, this.2.nr⟩
    · rw [e] at hg
      injection hg with hg
      subst hg
      have := own_lt o4 e
      exact ⟨by have := fr.size; omega, this, by omega, fun x => by have := own_lt m.code x; omega, fun x => by have := own_lt m.br x; omega⟩

section
variable {T : List PNode}
/-- places lie in the code -/
def PlIn (p : CM × List Nat) : Prop := ∀ x ∈ p.2, x < p.1.code.length
theorem PlIn.snoc {p : CM × List Nat} {s2 : CM} {y : Nat} (h : PlIn p) (hle : Le p.1 s2) (hy : y < s2.code.length) : PlIn (s2, p.2 ++ [y]) := by
  intro x hx
  simp only [List.mem_append, List.mem_singleton] at hx
  show x < s2.code.length
  rcases hx with hx | rfl
  · have h1 := h x hx
    have h2 := hle.1
    omega
  · exact hy
theorem whenM_in {below : Nat → CM → CM} (hb : ∀ i s, Le s (below i s)) (p : CM × List Nat) (k : Nat) (h : PlIn p) : PlIn (whenM T below p k) := by
  refine PlIn.snoc h (whenM_le (T := T) hb p k) ?_
  show _ < ((_ : CM).aim _).code.length
  simp [CM.aim, CM.add]
theorem foldl_in {β : Type} (g : CM × List Nat → β → CM × List Nat) (hg : ∀ p x, PlIn p → PlIn (g p x)) : ∀ (l : List β) (p : CM × List Nat), PlIn p → PlIn (l.foldl g p)
  | [], _, h => h
  | x :: l, p, h => foldl_in g hg l (g p x) (hg p x h)
theorem foldl_cnt {β : Type} (g : CM × List Nat → β → CM × List Nat) (hg : ∀ p x, (g p x).2.length = p.2.length + 1) : ∀ (l : List β) (p : CM × List Nat), (l.foldl g p).2.length = p.2.length + l.length
  | [], _ => rfl
  | x :: l, p => by
    rw [List.foldl_cons, foldl_cnt g hg l, hg, List.length_cons]
    omega
end
end Go.Proofs.YtnhidaamfnjdjaaGreatDoor
namespace Go.Proofs.YtnhidaamfnjdjaaGreatDoor
open Go.RowKit Go.Maps

section
variable {T : List PNode} {ms : List NM} {lo b f i : Nat}

/-- what the branches of an if are read for -/
structure KidsOk (T : List PNode) (i : Nat) : Prop where
  up : ∀ k ∈ (T.getD i default).kids, i < k ∧ k < T.length
  few : (T.getD i default).kids.length ≤ 100000

set_option maxRecDepth 20000 in
set_option maxHeartbeats 8000000 in
theorem cchoice_any (P : ProcC T ms lo b f) (hkid : KidsOk T i) (hkk : ∀ k ∈ (T.getD i default).kids, KidsOk T k ∧ fullE (T.getD k default).expr = true) (hi : i < T.length) (hf : T.length ≤ i + 1 + f)
    (w : World) (s : CM) (vc vb : Value) (p : CM × List Nat) (hp : p = (T.getD i default).kids.foldl (whenM T (belowF T f)) (s.add 0 0, [])) (ht : TrAt w lo T ms) (h : MkAt w lo b s vc vb) (hc : p.1.code.length + 1 ≤ 800000) (hb : p.1.br.length ≤ 800000) :
    Calls Tryz.prog 151 #[.pointer (some ⟨b, 0, none⟩), ptrTo ms i] w fun e w' => e = .returned (.tuple #[]) ∧ MkPost lo b vc vb w ((p.1.add 20 0).aims p.2) w' := by
  have nd := ht.nd i hi
  have d7 : w.cell? ⟨blkOf ms i, 7, none⟩ = some (ms.getD i default).sl := cell_at nd.cells 7
  have hrow := ht.kids i hi
  have hklt := ht.klt i hi
  obtain ⟨ka, kc, hsl⟩ := ownsRow_len hrow
  have hmono : ∀ j, Le (((T.getD i default).kids.take j).foldl (whenM T (belowF T f)) (s.add 0 0, [])).1 p.1 := fun j => by rw [hp]; exact foldl_take_le (fun p : CM × List Nat => p.1) _ (whenM_le (fun i s => belowF_le f i s)) _ _ j
  have hstep := foldl_take_step (whenM T (belowF T f)) (T.getD i default).kids (s.add 0 0, [])
  have hin : ∀ j, PlIn (((T.getD i default).kids.take j).foldl (whenM T (belowF T f)) (s.add 0 0, [])) := fun j => foldl_in _ (whenM_in (fun i s => belowF_le f i s)) _ _ (fun x hx => by simp at hx)
  have hcnt : ∀ j, j ≤ (T.getD i default).kids.length → (((T.getD i default).kids.take j).foldl (whenM T (belowF T f)) (s.add 0 0, [])).2.length ≤ 100000 := fun j hj => by
    rw [foldl_cnt _ (fun p x => by simp [whenM])]
    have := hkid.few
    simp
    omega
  have hup := hkid.up
  have hfew := hkid.few
  generalize (T.getD i default).kids = kids at *
  rw [hsl] at d7 hrow hklt
  unfold ptrTo
  have L1 : s.code.length + 1 ≤ 1000000 := by
    have h1 := (hmono 0).1
    have h2 : (s.add 0 0).code.length = s.code.length + 1 := by simp [CM.add]
    simp only [List.take_zero, List.foldl_nil] at h1
    omega
  have H := hide h; have H0 := hide h; have Ht := hide ht; have Hrow := hide hrow; have Hklt := hide hklt; have Hm := hide hmono; have Hs := hide hstep; have Hin := hide hin; have Hcnt := hide hcnt; have Hp := hide hp; have PP := hide P; have Hup := hide hup; have Hkk := hide hkk; have Nd := hide nd
  clear h ht hrow hklt hmono hstep hin hcnt hp P hup hkk hsl nd hkid
  generalize hnb : blkOf ms i = nb at *
  have Hnb := hide hnb
  clear hnb
  go_enter Tryz.func151, Tryz.ntmps151
  go_wp2_with (go_at_call 82; refine (cadd_any 0 0 _ H0.out L1).mono ?_; rintro e w1 ⟨rfl, p1⟩; obtain ⟨vc1, vb1, k1, f1⟩ := p1; have q7 : w1.cell? ⟨nb, 7, none⟩ = some (.slice ka kids.length kc) := (by rw [← d7]; exact (cell_at (Nd.out.low (f1.low H.out)).cells 7).trans (cell_at Nd.out.cells 7).symm); have K1 := hide k1; have F1 := hide f1; clear k1 f1 H0)
  go_loopw [4, 6, 7, 15] (fun lv _ _ x wr => ∃ (j : Nat) (vcj vbj : Value), j ≤ kids.length ∧ x = .int .i64 j ∧ MkAt wr lo b ((kids.take j).foldl (whenM T (belowF T f)) (s.add 0 0, [])).1 vcj vbj ∧ MkFr b vc vb vcj vbj w wr ∧ LvAt w.heap.size wr b vcj vbj lv ((kids.take j).foldl (whenM T (belowF T f)) (s.add 0 0, [])).2) (fun _ _ _ x _ => kids.length - (intOf x).toNat)
  case atStart => exact ⟨0, _, _, Nat.zero_le _, rfl, K1.out, F1.out, LvAt.nil _ _ _ _ _⟩
  case round =>
    obtain ⟨j, vcj, vbj, hj, rfl, k2, f2, l2⟩ := hrel
    have hbl := f2.low H.out
    obtain ⟨la, lc, hlv⟩ := ownsRow_len l2.own
    subst hlv
    by_cases hlt : j < kids.length
    · have hrow1 : wr.ownsRow 0 54 1 (.slice ka kids.length kc) kids.length (kids.map (ptrTo ms)) := ownsRow_frame Hrow.out (fun g hg => hbl.block g (Hklt.out g hg))
      obtain ⟨g, cap, cur, e1, hg, hn, hcc, hsz, hxs⟩ := row_pos hrow1 (by omega)
      have hcell : wr.cell? ⟨g, j, none⟩ = some (ptrTo ms kids[j]) := ownsRow_cell (n := kids.length * 1) hg hxs (by simp [List.getElem?_eq_getElem hlt])
      have hm1 := Hm.out (j + 1)
      have hs1 := Hs.out j hlt
      have hkj := Hup.out kids[j] (List.getElem_mem hlt)
      obtain ⟨hko, hfu⟩ := Hkk.out kids[j] (List.getElem_mem hlt)
      have hcn := Hcnt.out j hj
      rw [hs1] at hm1
      have tr2 := Ht.out.low hbl
      have nd2 := tr2.nd kids[j] hkj.2
      obtain ⟨c, hve, hcl⟩ := nd2.expr.some_of hfu
      have hle1 := exprM_len (T.getD kids[j] default).expr ((kids.take j).foldl (whenM T (belowF T f)) (s.add 0 0, [])).1
      have hle2 := belowF_le (T := T) f kids[j] ((exprM (T.getD kids[j] default).expr ((kids.take j).foldl (whenM T (belowF T f)) (s.add 0 0, [])).1).add 18 0)
      have hw1 : (whenM T (belowF T f) ((kids.take j).foldl (whenM T (belowF T f)) (s.add 0 0, [])) kids[j]).1.code.length = (belowF T f kids[j] ((exprM (T.getD kids[j] default).expr ((kids.take j).foldl (whenM T (belowF T f)) (s.add 0 0, [])).1).add 18 0)).code.length + 1 := by simp [whenM, CM.add, CM.aim]
      have hw2 : (whenM T (belowF T f) ((kids.take j).foldl (whenM T (belowF T f)) (s.add 0 0, [])) kids[j]).1.br.length = (belowF T f kids[j] ((exprM (T.getD kids[j] default).expr ((kids.take j).foldl (whenM T (belowF T f)) (s.add 0 0, [])).1).add 18 0)).br.length := by simp [whenM, CM.add, CM.aim]
      have B : Hid (∀ w vc vb, TrAt w lo T ms → MkAt w lo b ((exprM (T.getD kids[j] default).expr ((kids.take j).foldl (whenM T (belowF T f)) (s.add 0 0, [])).1).add 18 0) vc vb → Calls Tryz.prog 148 #[.pointer (some ⟨b, 0, none⟩), ptrTo ms kids[j]] w fun e w' => e = .returned (.tuple #[]) ∧ MkPost lo b vc vb w (belowF T f kids[j] ((exprM (T.getD kids[j] default).expr ((kids.take j).foldl (whenM T (belowF T f)) (s.add 0 0, [])).1).add 18 0)) w') := hide (fun w vc vb ht h => cbelow_any PP.out hko.up hkj.2 (by omega) w _ vc vb ht h (by have := hm1.1; omega) (by have := hm1.2; omega) (by have := hko.few; omega))
      have hwd : whenM T (belowF T f) ((kids.take j).foldl (whenM T (belowF T f)) (s.add 0 0, [])) kids[j] = (((belowF T f kids[j] ((exprM (T.getD kids[j] default).expr ((kids.take j).foldl (whenM T (belowF T f)) (s.add 0 0, [])).1).add 18 0)).add 19 0).aim (exprM (T.getD kids[j] default).expr ((kids.take j).foldl (whenM T (belowF T f)) (s.add 0 0, [])).1).code.length, ((kids.take j).foldl (whenM T (belowF T f)) (s.add 0 0, [])).2 ++ [(belowF T f kids[j] ((exprM (T.getD kids[j] default).expr ((kids.take j).foldl (whenM T (belowF T f)) (s.add 0 0, [])).1).add 18 0)).code.length]) := rfl
      have ea : ((exprM (T.getD kids[j] default).expr ((kids.take j).foldl (whenM T (belowF T f)) (s.add 0 0, [])).1).add 18 0).code.length = (exprM (T.getD kids[j] default).expr ((kids.take j).foldl (whenM T (belowF T f)) (s.add 0 0, [])).1).code.length + 1 := by simp [CM.add]
      rw [hwd] at hs1
      clear hwd
      generalize hS : (kids.take j).foldl (whenM T (belowF T f)) (s.add 0 0, []) = S at *
      generalize hs2 : exprM (T.getD kids[j] default).expr S.1 = s2 at *
      generalize hs3 : belowF T f kids[j] (s2.add 18 0) = s3 at *
      have M2 : S.1.code.length + sizeE (T.getD kids[j] default).expr ≤ 900000 := by have := hm1.1; have := hle2.1; omega
      have M3 : s2.code.length + 1 ≤ 1000000 := by have := hm1.1; have := hle2.1; omega
      have M4 : s3.code.length + 1 ≤ 1000000 := by have := hm1.1; omega
      have M5 : s2.code.length < (s3.add 19 0).code.length := by have := hle2.1; have e : (s3.add 19 0).code.length = s3.code.length + 1 := by simp [CM.add]
                                                                 omega
      have M6 : (s3.add 19 0).code.length ≤ 1000000 := by have e : (s3.add 19 0).code.length = s3.code.length + 1 := by simp [CM.add]
                                                          omega
      have q6 : wr.cell? ⟨blkOf ms kids[j], 6, none⟩ = some (.pointer (some ⟨c, 0, none⟩)) := (cell_at nd2.cells 6).trans (by rw [← hve]; rfl)
      have E : Hid (Calls Tryz.prog 190 #[.pointer (some ⟨b, 0, none⟩), .pointer (some ⟨c, 0, none⟩)] wr fun e w' => e = .returned (.tuple #[]) ∧ MkPost lo b vcj vbj wr s2 w') := by
        have := cexpr_any (T.getD kids[j] default).expr _ _ _ wr S.1 vcj vbj nd2.expr nd2.ehi hfu k2 M2
        rw [hve, hs2] at this
        exact this
      have Hs1 := hide hs1; have K2 := hide k2; have F2 := hide f2; have L2 := hide l2
      clear hrow1 hg hxs hsz k2 f2 l2 hbl hm1 hs1 hkj hko hfu tr2 nd2 hve hle1 hle2 hw1 hw2 ea hs2 hs3 hS
      simp only [Value.slice.injEq, true_and] at e1
      obtain ⟨rfl, rfl⟩ := e1
      unfold ptrTo at hcell B
      generalize T.getD kids[j] default = kn at *
      generalize kids[j] = kid at *
      generalize blkOf ms kid = kb at *
      obtain ⟨S1, S2⟩ := S
      simp only at *
      go_wp2_with (first
        | (go_at_call 190; refine E.out.mono ?_; rintro e w5 ⟨rfl, p5⟩; obtain ⟨vc5, vb5, k5, f5⟩ := p5; have K5 := hide k5; have F5 := hide (F2.out.trans f5); have V5 := hide (L2.out.next f5); clear k5 f5)
        | (go_at_call 82; refine (cadd_any 18 0 _ K5.out M3).mono ?_; rintro e w6 ⟨rfl, p6⟩; obtain ⟨vc6, vb6, k6, f6⟩ := p6; have K6 := hide k6; have F6 := hide (F5.out.trans f6); have V6 := hide (V5.out.next f6); clear k6 f6 K5)
        | (go_at_call 148; refine (B.out _ _ _ (Ht.out.low (F6.out.low H.out)) K6.out).mono ?_; rintro e w7 ⟨rfl, p7⟩; obtain ⟨vc7, vb7, k7, f7⟩ := p7; have K7 := hide k7; have F7 := hide (F6.out.trans f7); have V7 := hide (V6.out.next f7); clear k7 f7)
        | (go_at_call 82; refine (cadd_any 19 0 _ K7.out M4).mono ?_; rintro e w8 ⟨rfl, p8⟩; obtain ⟨vc8, vb8, k8, f8⟩ := p8; have K8 := hide k8; have F8 := hide (F7.out.trans f8); have V8 := hide (V7.out.next f8); clear k8 f8 K7)
        | (at_builtin; refine wpList_appendM (by decide) Tryz.underlying36 intInfo' rfl (by decide) rfl _ _ rfl (.slice la S2.length lc) S2.length (natsV S2) rfl (V8.out.own.alloc _) ⟨w8.heap.size, 0, none⟩ 1 1 [.int .i64 s3.code.length] rfl rfl (by exact row_new _ _ rfl _ _) (by intro u hu; simp at hu; subst hu; rfl) (by omega) ?_; intro v' w9 o9 g9 b9; obtain ⟨la', lc', rfl⟩ := ownsRow_len o9; have R9 := hide (LvAt.more V8.out K8.out F8.out g9 o9 b9 rfl); clear o9 g9 b9)
        | (go_at_call 191; refine (caim_at _ R9.out.2.1 s2.code.length M5 M6).mono ?_; rintro e w10 ⟨rfl, p10⟩; obtain ⟨vc10, vb10, k10, f10⟩ := p10; have K10 := hide k10; have F10 := hide (R9.out.2.2.trans f10); have V10 := hide (R9.out.1.next f10); clear k10 f10))
      go_roundw
      case rel => exact ⟨j + 1, _, _, by omega, by go_num, by rw [Hs1.out]; exact K10.out, F10.out, by rw [Hs1.out]; simpa using V10.out⟩
      case measure => simp [intOf]; omega
    · have e : kids.take j = kids := List.take_of_length_le (by omega)
      have hcn := Hcnt.out j hj
      have hin := Hin.out j
      rw [e, ← Hp.out] at k2 l2 hcn hin
      have el : ((kids.take j).foldl (whenM T (belowF T f)) (s.add 0 0, [])).2.length = p.2.length := by rw [e, ← Hp.out]
      rw [el]
      have K2 := hide k2; have F2 := hide f2; have V2 := hide l2
      have hin2 : PlIn (p.1.add 20 0, p.2) := fun x hx => by
        have h1 := hin x hx
        have h2 := (add_le' p.1 20 0).1
        show x < (p.1.add 20 0).code.length
        omega
      have M7 : (p.1.add 20 0).code.length ≤ 1000000 := by have e : (p.1.add 20 0).code.length = p.1.code.length + 1 := by simp [CM.add]
                                                           omega
      have Hin2 := hide hin2
      clear k2 f2 l2 hin hin2 e el
      go_wp2_with (first
        | (go_at_call 82; refine (cadd_any 20 0 _ K2.out (by omega)).mono ?_; rintro e w5 ⟨rfl, p5⟩; obtain ⟨vc5, vb5, k5, f5⟩ := p5; have K5 := hide k5; have F5 := hide (F2.out.trans f5); have V5 := hide (V2.out.next f5); clear k5 f5 K2)
        | (go_at_call 191; refine (caim_any _ K5.out p.2 la lc V5.out.own (fun g hg => (V5.out.new g hg).2) Hin2.out M7 (by omega)).mono ?_; rintro e w6 ⟨rfl, p6⟩; obtain ⟨vc6, vb6, k6, f6⟩ := p6; have K6 := hide k6; have F6 := hide (F5.out.trans f6); clear k6 f6))
      go_end0
      exact ⟨rfl, _, _, K6.out, F6.out⟩
end
end Go.Proofs.YtnhidaamfnjdjaaGreatDoor
