import Derived.Test.YtnhidaamfnjdjaaGreatDoorMacO
/- A WAY IS OPENED. -/
namespace Go.Proofs.YtnhidaamfnjdjaaGreatDoor
open Go.RowKit Go.Maps

section
variable {mb : Nat} {ρ : Nat → MR} {C : CM} {V : MV} {s : MS}

theorem mopn_app {w w4 : World} {O : Obj} (h : MsAt w mb ρ C V s) {p : Nat} {x : PPr} {v' : Value} {br : Int × Int × Int} (hp : s.procs[p]? = some x)
    (g4 : (w.alloc O).drew.grownBy w4 (V.ov.getD p (.slice none 0 0)).ownBlock) (o4 : w4.ownsRow 0 207 3 v' (x.opn.length + 1) (waysV x.opn ++ wayV br)) (b4 : v'.ownBlock = (V.ov.getD p (.slice none 0 0)).ownBlock ∨ ∃ g, v'.ownBlock = some g ∧ (w.alloc O).drew.heap.size ≤ g) :
    MsAt (w4.setCell ⟨V.pb.getD p 0, 4, none⟩ v') mb (newR w.heap.size ρ v' (.opn p)) C { V with ov := V.ov.set p v' } (s.setPr p { x with opn := x.opn ++ [br] }) ∧ MsGo V { V with ov := V.ov.set p v' } ρ (newR w.heap.size ρ v' (.opn p)) w (w4.setCell ⟨V.pb.getD p 0, 4, none⟩ v') := by
  have q := h.proc p x hp (fun x => x)
  have o := h.opn p x hp (fun x => x)
  have hpl := lt_of_at q.1
  have hsz : (w.alloc O).drew.heap.size = w.heap.size + 1 := by show (w.alloc O).heap.size = _; simp
  have fr : MsFr (fun r => r = .proc p ∨ r = .opn p) ρ (newR w.heap.size ρ v' (.opn p)) w (w4.setCell ⟨V.pb.getD p 0, 4, none⟩ v') := by
    refine ⟨g4.os, g4.tape, g4.output, ?_, fun k hk hA => ⟨?_, newR_old hk⟩⟩
    · have := g4.size
      have h2 : (w4.setCell ⟨V.pb.getD p 0, 4, none⟩ v').heap.size = w4.heap.size := by simp
      omega
    · rw [Below.heap_setCell _ _ _ _ (fun e => hA (.inl (by have : k = V.pb.getD p 0 := e; rw [this]; exact q.2))), g4.block k (by omega) (fun e => hA (.inr (o.2 k e.symm)))]
      exact Below.heap_alloc w O k hk
  refine ⟨mopn_put h hp fr (by rw [newR_old h.rb.2]; exact h.rb.1) ?_ (by rw [newR_old hpl]; exact q.2) ?_ ?_, fr.weak (fun r hr e => by rcases hr with hr | hr <;> (rw [hr] at e; cases e)), List.prefix_rfl⟩
  · rw [g4.block _ (by omega) (fun e => by have := o.2 _ e.symm; rw [q.2] at this; cases this)]
    exact Below.heap_alloc w O _ hpl
  · rw [waysV_append, List.length_append, List.length_singleton]
    exact o4
  · intro g hg
    rcases b4 with e | ⟨g', e, hge⟩
    · have hol : g < w.heap.size := own_lt o.1 (by rw [← e]; exact hg)
      rw [newR_old hol]
      exact o.2 g (by rw [← e]; exact hg)
    · rw [e] at hg
      injection hg with hg
      subst hg
      unfold newR
      rw [if_neg (by omega), if_pos e]

set_option maxRecDepth 20000 in
set_option maxHeartbeats 4000000 in
theorem mopen_any {p i : Nat} {x : PPr} (hc : s.cur = some p) (hp : s.procs[p]? = some x) (hi : i < C.br.length) (hbl : C.br.length ≤ 1000000) (w : World) (h : MsAt w mb ρ C V s) (hol : x.opn.length + 1 ≤ 1000000) :
    Calls Tryz.prog 98 #[.pointer (some ⟨mb, 0, none⟩), .int .i64 i] w fun e w' => e = .returned (.tuple #[]) ∧ MsPost mb C ρ V w (s.setPr p { x with opn := x.opn ++ [C.br.getD i (0, 0, 0)] }) w' := by
  have q := h.proc p x hp (fun x => x)
  have o := h.opn p x hp (fun x => x)
  obtain ⟨oa, oc, hov⟩ := ownsRow_len o.1
  have c5 : w.cell? ⟨mb, 5, none⟩ = some (V.ptrO s.cur) := cell_at (h.blk (fun x => x)) 5
  rw [hc] at c5
  unfold MV.ptrO at c5
  simp only [Option.map_some] at c5
  have d4 : w.cell? ⟨V.pb.getD p 0, 4, none⟩ = some (.slice oa x.opn.length oc) := by rw [← hov]; exact cell_at q.1 4
  have c1 : w.cell? ⟨mb, 1, none⟩ = some V.br := cell_at (h.blk (fun x => x)) 1
  have qb := (h.brs (fun x => x)).1
  obtain ⟨gb, capb, curb, hvb, hgb, hb1, hb2, hb3, hb4⟩ := row_pos qb (by omega)
  have hw := waysV_at C.br i hi
  have a0 : w.cell? ⟨gb, i * 3, none⟩ = some (.int .i64 (C.br.getD i (0, 0, 0)).1) := ownsRow_cell hgb hb4 hw.1
  have a1 : w.cell? ⟨gb, i * 3 + 1, none⟩ = some (.int .i64 (C.br.getD i (0, 0, 0)).2.1) := ownsRow_cell hgb hb4 hw.2.1
  have a2 : w.cell? ⟨gb, i * 3 + 2, none⟩ = some (.int .i64 (C.br.getD i (0, 0, 0)).2.2) := ownsRow_cell hgb hb4 hw.2.2
  rw [hvb] at c1
  have hpl := lt_of_at q.1
  have hop : (V.ov.getD p (.slice none 0 0)).ownBlock ≠ some (V.pb.getD p 0) := fun e => by have := o.2 _ e; rw [q.2] at this; cases this
  have hom : (V.ov.getD p (.slice none 0 0)).ownBlock ≠ some mb := fun e => by have := o.2 _ e; rw [h.rb.1] at this; cases this
  generalize C.br.getD i (0, 0, 0) = br at *
  have law : ∀ (w4 : World), (w.alloc (.cells #[.int .i64 br.1, .int .i64 br.2.1, .int .i64 br.2.2] 207)).drew.grownBy w4 (V.ov.getD p (.slice none 0 0)).ownBlock → w4.cell? ⟨mb, 5, none⟩ = some (.pointer (some ⟨V.pb.getD p 0, 0, none⟩)) ∧ w4.heap[V.pb.getD p 0]? = some (.cells (V.proc mb p x) 108) := by
    intro w4 g4
    have hsz : (w.alloc (.cells #[.int .i64 br.1, .int .i64 br.2.1, .int .i64 br.2.2] 207)).drew.heap.size = w.heap.size + 1 := by show (w.alloc _).heap.size = _; simp
    refine ⟨?_, ?_⟩
    · have hmb := h.rb.2
      have e : w4.heap[mb]? = some (.cells (V.mach s) 102) := by
        rw [g4.block _ (by omega) (fun e => hom e.symm)]
        show (w.alloc _).heap[mb]? = _
        rw [Below.heap_alloc _ _ _ hmb]
        exact h.blk (fun x => x)
      rw [← c5, cell_at e, cell_at (h.blk (fun x => x))]
    rw [g4.block _ (by omega) (fun e => hop e.symm)]
    show (w.alloc _).heap[V.pb.getD p 0]? = _
    rw [Below.heap_alloc _ _ _ hpl]
    exact q.1
  have fin : ∀ (v' : Value) (w4 : World), (w.alloc (.cells #[.int .i64 br.1, .int .i64 br.2.1, .int .i64 br.2.2] 207)).drew.grownBy w4 (V.ov.getD p (.slice none 0 0)).ownBlock → w4.ownsRow 0 207 3 v' (x.opn.length + 1) (waysV x.opn ++ wayV br) → (v'.ownBlock = (V.ov.getD p (.slice none 0 0)).ownBlock ∨ ∃ g, v'.ownBlock = some g ∧ (w.alloc (.cells #[.int .i64 br.1, .int .i64 br.2.1, .int .i64 br.2.2] 207)).drew.heap.size ≤ g) → MsPost mb C ρ V w (s.setPr p { x with opn := x.opn ++ [br] }) (w4.setCell ⟨V.pb.getD p 0, 4, none⟩ v') := fun v' w4 g4 o4 b4 => ⟨_, _, mopn_app h hp g4 o4 b4⟩
  have pc : ∀ (w4 : World), w4.heap[V.pb.getD p 0]? = some (.cells (V.proc mb p x) 108) → w4.cell? ⟨V.pb.getD p 0, 4, none⟩ = some (V.ov.getD p (.slice none 0 0)) := fun w4 hw4 => cell_at hw4 4
  rw [hov] at law fin pc
  have o1 := o.1
  rw [hov] at o1
  have b5 : (w.alloc (.cells #[.int .i64 br.1, .int .i64 br.2.1, .int .i64 br.2.2] 207)).cell? ⟨mb, 5, none⟩ = some (.pointer (some ⟨V.pb.getD p 0, 0, none⟩)) := by rw [← c5, cell_at (at_alloc (h.blk (fun x => x)) _), cell_at (h.blk (fun x => x))]
  have e4 : (w.alloc (.cells #[.int .i64 br.1, .int .i64 br.2.1, .int .i64 br.2.2] 207)).cell? ⟨V.pb.getD p 0, 4, none⟩ = some (.slice oa x.opn.length oc) := by rw [← d4, cell_at (at_alloc q.1 _), cell_at q.1]
  have Law := hide law; have Fin := hide fin; have Pc := hide pc; have O1 := hide o1
  clear h q o qb hgb hb3 hb4 hw hov hvb hop hom law fin pc o1 hc hp
  generalize s.setPr p { x with opn := x.opn ++ [br] } = s2 at *
  generalize hcs : V.proc mb p x = pcs at *
  clear hcs
  generalize V.pb.getD p 0 = pb at *
  generalize x.opn = ol at *
  generalize C.br.length = nb at *
  go_enter Tryz.func98, Tryz.ntmps98
  go_wp2_with fail
  go_region_law (refine step_appendM (by decide) Tryz.underlying87 wayInfo rfl (by decide) rfl _ _ rfl (.slice oa ol.length oc) ol.length (waysV ol) (by simp [Act.eval]) (by exact (ownsRow_frame O1.out (fun _ _ => rfl)).alloc _) ⟨w.heap.size, 0, none⟩ 1 1 (wayV br) (by simp [Act.eval]) rfl (by exact row_new _ _ rfl _ _) (wayV_one br) hol ?_; intro v' w4 o4 g4 b4; obtain ⟨va', vc', hv'⟩ := ownsRow_len o4; subst hv'; have hv5 := (Law.out _ g4).1; have hv4 := (Law.out _ g4).2; have f4 := Pc.out _ hv4; have z4 : ∀ i, w4.frozen? ⟨pb, i, none⟩ = false := (fun i => frozen_at hv4 i); have R := hide (Fin.out _ _ g4 o4 b4); clear o4 g4 b4 hv4)
  all_goals
    go_wp2_with fail
    go_end0
    exact ⟨rfl, R.out⟩
end
end Go.Proofs.YtnhidaamfnjdjaaGreatDoor
