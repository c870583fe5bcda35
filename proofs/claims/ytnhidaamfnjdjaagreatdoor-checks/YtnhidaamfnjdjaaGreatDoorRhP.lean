import Derived.Test.YtnhidaamfnjdjaaGreatDoorRhL
namespace Go.Proofs.YtnhidaamfnjdjaaGreatDoor
open Go.RowKit Go.Maps

section
variable {w0 w3 w5 : World} {lo b : Nat} {ρ : Nat → Ro} {M : List (RNd × Value)} {S : RP} {body : Bs} {vn vx vx5 vt pv : Value} {no : Int} {cl : List Nat}
/-- a line that is to be read -/
theorem rn_new (m : Mid w0 w3 lo b ρ M S body vn vx vt pv no cl) {F : Bs} (hF : (startX body S.xs).now = F) (d : Nat) (dz : Int) (hd : dz = (d : Int)) :
    RNAt (w3.alloc (.cells #[.string ⟨F.toArray⟩, .int .i64 no, .int .i64 dz, .string ⟨#[]⟩, .string ⟨#[]⟩, .int .i64 (-1), .slice none 0 0] 145)) b w3.heap.size (startX body S.xs) vn vx vt no (startX body S.xs).now no d [] [] (-1) := by
  subst hF; subst hd
  have hb := lt_of_at m.tx.rd.blk
  refine ⟨(m.tx.below (below_alloc _ _)).rd, at_new _ _, by omega, fun e => ?_, fun e => ?_⟩
  · have := ownsRow_lt m.tx.rd.xs e; omega
  · have := ownsRow_lt m.tx.rd.toks e; omega
/-- behind its reader -/
theorem aft_of (m : Mid w0 w3 lo b ρ M S body vn vx vt pv no cl) {O : Obj} {r : XR} {kd nm ov : Bs} {d : Nat} {ez : Int} (r5 : RNAt w5 b w3.heap.size r vn vx5 vt no kd no d nm ov ez) (f5 : FrY b w3.heap.size vx.ownBlock (w3.alloc O) w5) (n5 : vx5.ownBlock = vx.ownBlock ∨ ∃ g, vx5.ownBlock = some g ∧ (w3.alloc O).heap.size ≤ g) :
    ∃ ρ', TxAt w5 lo b ρ' M r vn vx5 vt no ∧ w5.ownsRow 0 3 1 pv cl.length (intsV cl) ∧ (∀ g, pv.ownBlock = some g → lo ≤ g ∧ ρ' g = .pil) ∧ Bel lo b w0 w5 ∧ lo ≤ w5.heap.size := by
  have hz : (w3.alloc O).heap.size = w3.heap.size + 1 := by simp
  have t1 : TxAt w3 lo b (fun g => if g = w3.heap.size then .other else ρ g) M (startX body S.xs) vn vx vt no := m.tx.role (fun g hg => if_neg (by omega))
  have t2 := t1.below (below_alloc w3 O)
  have t3 := t2.rest r5 (.inr (if_pos rfl)) f5 n5 (by have := m.lo'; omega)
  refine ⟨_, t3, ?_, fun g hg => ?_, ?_, by have := f5.size; have := m.lo'; omega⟩
  · refine ownsRow_frame m.pile (fun g hg => ?_)
    have hl := ownsRow_lt m.pile hg
    have hr := (m.rp g hg).2
    rw [f5.block g (by omega) ?_ (by omega) ?_, Below.heap_alloc _ _ _ hl]
    · intro x
      rw [x, m.tx.rb.2] at hr
      cases hr
    · intro x
      have := (m.tx.rx g x).2
      rw [hr] at this
      cases this
  · have hl := ownsRow_lt m.pile hg
    have hr := m.rp g hg
    exact ⟨hr.1, by rw [if_neg (by omega), if_neg (by omega)]; exact hr.2⟩
  · refine bel_trans (bel_trans m.bel (bel_of (below_alloc w3 O) m.lo')) ⟨f5.os, f5.tape, f5.output, f5.size, fun k hk hkb => f5.block k (by have := m.lo'; omega) hkb (by have := m.lo'; omega) (fun x => ?_)⟩
    have := (m.tx.rx k x).1
    omega
end
theorem nodeInfo : (Tryz.prog.info? 145).map (fun i => (i.zero, i.size, i.bytes)) = some (some (.agg #[.string ⟨#[]⟩, .int .i64 0, .int .i64 0, .string ⟨#[]⟩, .string ⟨#[]⟩, .int .i64 0, .slice none 0 0]), 7, 96) := by kernel_rfl
end Go.Proofs.YtnhidaamfnjdjaaGreatDoor
namespace Go.Proofs.YtnhidaamfnjdjaaGreatDoor
open Go.RowKit Go.Maps

/-- the text, and the pile of what is open -/
structure Pil (w0 w : World) (lo b : Nat) (ρ : Nat → Ro) (M : List (RNd × Value)) (r : XR) (vn vx vt pv : Value) (no : Int) (cl : List Nat) : Prop where
  tx : TxAt w lo b ρ M r vn vx vt no
  pile : w.ownsRow 0 3 1 pv cl.length (intsV cl)
  rp : ∀ g, pv.ownBlock = some g → lo ≤ g ∧ ρ g = .pil
  bel : Bel lo b w0 w
  lo' : lo ≤ w.heap.size
section
variable {w0 w w4 : World} {lo b : Nat} {ρ : Nat → Ro} {M : List (RNd × Value)} {r : XR} {vn vn' vx vt pv : Value} {no : Int} {cl : List Nat}
theorem nodeL_one (n : RNd) : ∀ u ∈ nodeL n (.slice none 0 0), u.oneCell' = true := by
  intro u hu; simp [nodeL] at hu; rcases hu with rfl | rfl | rfl | rfl | rfl | rfl | rfl <;> rfl
/-- a row of another role, behind a row that grew and a store into a third block -/
theorem row_keep {e : TypeId} {n : Nat} {xs : List Value} {O : Obj} {x : Option Nat} {c i : Nat} {v u : Value} (ho : w.ownsRow 0 e 1 v n xs) (G : (w.alloc O).drew.grownBy w4 x) (hx : ∀ g, v.ownBlock = some g → x ≠ some g) (hc : v.ownBlock ≠ some c) : (w4.setCell ⟨c, i, none⟩ u).ownsRow 0 e 1 v n xs := by
  have hz : (w.alloc O).drew.heap.size = w.heap.size + 1 := by show (w.alloc O).heap.size = _; simp
  refine ownsRow_frame ho (fun g hg => ?_)
  have hlt := ownsRow_lt ho hg
  rw [Below.heap_setCell _ _ _ _ (fun e => hc (by rw [hg]; exact congrArg some e)), G.block g (by omega) (Ne.symm (hx g hg))]
  exact Below.heap_alloc _ _ _ hlt
theorem bel_keep {O : Obj} {x : Option Nat} {c i : Nat} {u : Value} (hb : Bel lo b w0 w) (hlo : lo ≤ w.heap.size) (G : (w.alloc O).drew.grownBy w4 x) (hx : ∀ g, x = some g → lo ≤ g) (hc : c = b ∨ lo ≤ c) : Bel lo b w0 (w4.setCell ⟨c, i, none⟩ u) := by
  have hz : (w.alloc O).drew.heap.size = w.heap.size + 1 := by show (w.alloc O).heap.size = _; simp
  refine bel_trans hb ⟨G.os, G.tape, G.output, by have := G.size; simp [World.setCell]; omega, fun k hk hkb => ?_⟩
  rw [Below.heap_setCell _ _ _ _ (by simp; omega), G.block k (by omega) (fun e => by have := hx k e.symm; omega)]
  exact Below.heap_alloc _ _ _ (by omega)
theorem Pil.node (h : Pil w0 w lo b ρ M r vn vx vt pv no cl) {O : Obj} {n : RNd} (hn0 : n.kids = []) (G4 : (w.alloc O).drew.grownBy w4 vn.ownBlock) (O4 : w4.ownsRow 0 145 7 vn' (M.length + 1) (nodesV M ++ nodeL n (.slice none 0 0)))
    (B4 : vn'.ownBlock = vn.ownBlock ∨ ∃ g, vn'.ownBlock = some g ∧ (w.alloc O).drew.heap.size ≤ g) (Hv4 : w4.heap[b]? = some (.cells (textCells r vn vx vt no) 138)) :
    ∃ ρ', Pil w0 (w4.setCell ⟨b, 0, none⟩ vn') lo b ρ' (M ++ [(n, .slice none 0 0)]) r vn' vx vt pv no cl := by
  have pb : pv.ownBlock ≠ some b := fun x => by
    have := (h.rp b x).2
    rw [h.tx.rb.2] at this
    cases this
  have px : ∀ g, pv.ownBlock = some g → vn.ownBlock ≠ some g := fun g hg x => by
    have a := (h.rp g hg).2
    rw [(h.tx.rn g x).2] at a
    cases a
  have t := h.tx.addNode hn0 G4 O4 B4 Hv4 h.lo'
  refine ⟨_, t, row_keep h.pile G4 px pb, fun g hg => ?_, bel_keep h.bel h.lo' G4 (fun g hg => (h.tx.rn g hg).1) (.inl rfl), ?_⟩
  · have := ownsRow_lt h.pile hg
    exact ⟨(h.rp g hg).1, by rw [if_neg (by omega)]; exact (h.rp g hg).2⟩
  · have hz : (w.alloc O).drew.heap.size = w.heap.size + 1 := by show (w.alloc O).heap.size = _; simp
    have := G4.size
    have := h.lo'
    simp [World.setCell]
    omega
theorem Pil.kid (h : Pil w0 w lo b ρ M r vn vx vt pv no cl) {O : Obj} {kv' : Value} {p k gn capn : Nat} {n : RNd} {kv : Value} (hp : M[p]? = some (n, kv)) (hvn : vn = .slice (some ⟨gn, 0, none⟩) M.length capn) (G4 : (w.alloc O).drew.grownBy w4 kv.ownBlock) (O4 : w4.ownsRow 0 3 1 kv' (n.kids.length + 1) (intsV n.kids ++ [.int .i64 k]))
    (B4 : kv'.ownBlock = kv.ownBlock ∨ ∃ g, kv'.ownBlock = some g ∧ (w.alloc O).drew.heap.size ≤ g) :
    ∃ ρ', Pil w0 (w4.setCell ⟨gn, p * 7 + 6, none⟩ kv') lo b ρ' (M.set p ({ n with kids := n.kids ++ [k] }, kv')) r vn vx vt pv no cl := by
  have hgo : vn.ownBlock = some gn := by rw [hvn]; rfl
  have pb : pv.ownBlock ≠ some gn := fun x => by
    have a := (h.rp gn x).2
    rw [(h.tx.rn gn hgo).2] at a
    cases a
  have px : ∀ g, pv.ownBlock = some g → kv.ownBlock ≠ some g := fun g hg x => by
    have a := (h.rp g hg).2
    rw [(h.tx.rk p n kv hp g x).2] at a
    cases a
  have t := h.tx.addKid hp hvn G4 O4 B4 h.lo'
  refine ⟨_, t, row_keep h.pile G4 px pb, fun g hg => ?_, bel_keep h.bel h.lo' G4 (fun g hg => (h.tx.rk p n kv hp g hg).1) (.inr (h.tx.rn gn hgo).1), ?_⟩
  · have := ownsRow_lt h.pile hg
    exact ⟨(h.rp g hg).1, by rw [if_neg (by omega)]; exact (h.rp g hg).2⟩
  · have hz : (w.alloc O).drew.heap.size = w.heap.size + 1 := by show (w.alloc O).heap.size = _; simp
    have := G4.size
    have := h.lo'
    simp [World.setCell]
    omega
/-- one more on the pile: the line is done -/
theorem Pil.done (h : Pil w0 w lo b ρ M r vn vx vt pv no cl) {O : Obj} {pv' : Value} {k : Nat} (O4 : w4.ownsRow 0 3 1 pv' (cl.length + 1) (intsV cl ++ [.int .i64 k])) (G4 : (w.alloc O).grownBy w4 pv.ownBlock) (B4 : pv'.ownBlock = pv.ownBlock ∨ ∃ g, pv'.ownBlock = some g ∧ (w.alloc O).heap.size ≤ g)
    {S' : RP} (he : r.e = 0) (hx : r.xs = S'.xs) (hn : M.map Prod.fst = S'.nodes) (hp : S'.pile = cl ++ [k]) : ∃ ρ', LnAt w4 lo b ρ' M S' r vn vx vt pv' no ∧ Bel lo b w0 w4 := by
  have hz : (w.alloc O).heap.size = w.heap.size + 1 := by simp
  have hr : ∀ g, g < w.heap.size → (fun g => if w.heap.size ≤ g then Ro.pil else ρ g) g = ρ g := fun g hg => if_neg (by omega)
  have t1 := h.tx.role hr
  have keep : ∀ g, g < w.heap.size → pv.ownBlock ≠ some g → w4.heap[g]? = w.heap[g]? := by
    intro g hl hne
    rw [G4.block g (by omega) (Ne.symm hne)]
    exact Below.heap_alloc _ _ _ hl
  have fr : ∀ {q : Ro} {base : Nat} {e : TypeId} {size : Nat} {v : Value} {m : Nat} {xs : List Value}, w.ownsRow base e size v m xs → (∀ g, v.ownBlock = some g → ρ g = q) → q ≠ .pil → w4.ownsRow base e size v m xs := by
    intro q base e size v m xs ho hq h3
    refine ownsRow_frame ho (fun g hg => keep g (ownsRow_lt ho hg) (fun x => h3 ?_))
    rw [← hq g hg]; exact (h.rp g x).2
  have hb4 : w4.heap[b]? = some (.cells (textCells r vn vx vt no) 138) := by
    rw [keep b (lt_of_at h.tx.rd.blk) (fun x => by have := (h.rp b x).2; rw [h.tx.rb.2] at this; cases this)]
    exact h.tx.rd.blk
  have hs4 := G4.size
  have hlo := h.lo'
  refine ⟨fun g => if w.heap.size ≤ g then Ro.pil else ρ g, ⟨⟨⟨hb4, fr (q := .tks) h.tx.rd.toks (fun g hg => (h.tx.rt g hg).2) (by simp), fr (q := .exs) h.tx.rd.xs (fun g hg => (h.tx.rx g hg).2) (by simp), h.tx.rd.tb, h.tx.rd.xb, h.tx.rd.xt⟩, fr (q := .nds) h.tx.nodes (fun g hg => (h.tx.rn g hg).2) (by simp), fun i n kv hi => fr (q := .kid i) (h.tx.kids i n kv hi) (fun g hg => (h.tx.rk i n kv hi g hg).2) (by simp), t1.rb, t1.rn, t1.rx, t1.rt, t1.rk⟩, he, hx, hn, ?_, ?_, by omega⟩, ?_⟩
  · rw [hp]
    simpa [intsV] using O4
  · intro g hg
    rcases B4 with x | ⟨g', x, hg'⟩
    · have hg2 : pv.ownBlock = some g := by rw [← x]; exact hg
      have := ownsRow_lt h.pile hg2
      exact ⟨(h.rp g hg2).1, by rw [if_neg (by omega)]; exact (h.rp g hg2).2⟩
    · rw [x] at hg
      injection hg with hg
      subst hg
      exact ⟨by omega, if_pos (by omega)⟩
  · exact bel_trans h.bel ⟨G4.os, G4.tape, G4.output, by omega, fun k hk _ => keep k (by omega) (fun x => by have := (h.rp k x).1; omega)⟩
end
theorem intInfo : (Tryz.prog.info? 3).map (fun i => (i.zero, i.size, i.bytes)) = some (some (.int .i64 0), 1, 8) := by kernel_rfl
theorem node_fz {w : World} {e : TypeId} {size g n cap : Nat} {xs : List Value} (h : w.ownsRow 0 e size (.slice (some ⟨g, 0, none⟩) n cap) n xs) : (∀ j, w.frozen? ⟨g, j, none⟩ = false) ∧ ∀ (w' : World), w'.heap[g]? = w.heap[g]? → (∀ j, w'.frozen? ⟨g, j, none⟩ = false) ∧ ∀ j, w'.cell? ⟨g, j, none⟩ = w.cell? ⟨g, j, none⟩ := by
  rcases h.2 with ⟨x, _⟩ | ⟨g', cap', cur, x, _, hg, _⟩
  · simp at x
  · simp only [Value.slice.injEq, Option.some.injEq, Addr.mk.injEq, and_true, true_and] at x
    obtain ⟨rfl, rfl⟩ := x
    refine ⟨fun j => frozen_at hg j, fun w' e => ?_⟩
    rw [hg] at e
    exact ⟨fun j => frozen_at e j, fun j => by rw [cell_at e, cell_at hg]⟩
theorem shape_pos {w : World} {e : TypeId} {size n : Nat} {v : Value} {xs : List Value} (h : w.ownsRow 0 e size v n xs) (hn : 0 < n) : ∃ g cap, v = .slice (some ⟨g, 0, none⟩) n cap := by
  rcases h.2 with ⟨_, x⟩ | ⟨g, cap, cur, x, _⟩
  · omega
  · exact ⟨g, cap, x⟩
theorem node_at2 {w : World} {g cap : Nat} {M : List (RNd × Value)} (h : w.ownsRow 0 145 7 (.slice (some ⟨g, 0, none⟩) M.length cap) M.length (nodesV M)) {i : Nat} {n : RNd} {kv : Value} (hi : M[i]? = some (n, kv)) :
    (M.length ≤ cap ∧ cap ≤ maxLen) ∧ ∀ (j : Nat) (v : Value), (nodeL n kv)[j]? = some v → w.cell? ⟨g, i * 7 + j, none⟩ = some v := by
  obtain ⟨g', cap', e, h1, h2, h3⟩ := node_at h hi
  simp only [Value.slice.injEq, Option.some.injEq, Addr.mk.injEq, and_true, true_and] at e
  obtain ⟨rfl, rfl⟩ := e
  exact ⟨⟨h1, h2⟩, h3⟩
theorem put_nodes {S : RP} {M : List (RNd × Value)} {cp : List Nat} {t : Nat} (hM : M.map Prod.fst = S.nodes) (ht : t < M.length) (hl : cp.getLast? = some t) (d : Nat) (n : RN) (no : Int) (xs : List RX) (u v : Value) :
    ((M ++ [((⟨n.kind, no, d, n.name, n.over, n.ex, []⟩ : RNd), u)]).set t ({ S.at t with kids := (S.at t).kids ++ [M.length] }, v)).map Prod.fst = (S.put cp d n no xs).nodes := by
  have hlen : S.nodes.length = M.length := by rw [← hM, List.length_map]
  unfold RP.put
  dsimp only
  rw [hl, List.set_append_left _ _ ht, List.map_append, List.map_set, hM, hlen]
  rfl
def LGood (lo b : Nat) (S' : RP) (no : Int) (w : World) (e : Ending) (w' : World) : Prop := ∃ ρ M s vn vx vt pv, e = .returned pv ∧ LnAt w' lo b ρ M S' s vn vx vt pv no ∧ Bel lo b w w'
theorem rend_xs (s : XR) : (rend s).xs = s.xs := by
  unfold rend
  split
  · unfold XR.wrong; split <;> rfl
  · rfl
end Go.Proofs.YtnhidaamfnjdjaaGreatDoor
