import Derived.Test.YtijcgaebpplngaaGreatDoorParsB
namespace Go.Proofs.YtijcgaebpplngaaGreatDoor
open Go.RowKit

/-- behind the first append: what lay below -/
theorem mid_old {w w1 w4 : World} {b : Nat} {number : Value} {O4 : Obj} {slb : Option Nat} (h1 : Below w.heap.size w w1) (hb : w.heap.size ≤ b)
    (g4 : ((w1.setCell ⟨b, 1, none⟩ number).alloc O4).grownBy w4 slb) : ∀ k, k < w.heap.size → some k ≠ slb → w4.heap[k]? = w.heap[k]? := by
  intro k hk hne
  have hz := h1.size
  rw [g4.block k (by simp [World.setCell]; omega) hne, Below.heap_alloc _ _ _ (by simp [World.setCell]; omega), Below.heap_setCell _ _ _ _ (by simp; omega)]
  exact h1.block k hk

theorem add_final {w w1 w4 w7 : World} {ρ : Nat → Role} {s : PS} {ms : List NM} (ok : s.Ok) (ht : TreeAt w ρ s.nodes ms) {pb : Nat} {cv : Value} (hp : ParserAt w ρ pb s.chain ms cv)
    {d : Nat} (hd : d < s.chain.length) {mA : NM} (hmA : ms[s.above d]? = some mA) (r : LP) (number : Int) {b mid : Nat} {ve : Option Addr} {v' cv' : Value} {g : Nat} (hcg : cv.ownBlock = some g)
    (h1 : Below w.heap.size w w1) (l1 : w.heap.size ≤ mid) (l2 : mid ≤ b) (l3 : b < w1.heap.size)
    (hbc : w1.heap[b]? = some (.cells #[.int .i64 r.kind, .int .i64 0, .string ⟨r.name.toArray⟩, .int .i64 0, .string ⟨r.chan.toArray⟩, .int .i64 0, .pointer ve, .slice none 0 0] 109))
    (re : RepE w1 r.expr w.heap.size mid ve) {O4 O7 : Obj}
    (g4 : ((w1.setCell ⟨b, 1, none⟩ (.int .i64 number)).alloc O4).grownBy w4 mA.sl.ownBlock)
    (o4 : w4.ownsRow 0 52 1 v' ((s.at (s.above d)).kids.length + 1) ((s.at (s.above d)).kids.map (ptrTo ms) ++ [.pointer (some ⟨b, 0, none⟩)]))
    (b4 : v'.ownBlock = mA.sl.ownBlock ∨ ∃ g, v'.ownBlock = some g ∧ w1.heap.size + 1 ≤ g)
    (g7 : ((w4.setCell ⟨mA.blk, 7, none⟩ v').alloc O7).grownBy w7 (some g))
    (o7 : w7.ownsRow 0 52 1 cv' (d + 2) ((s.chain.take (d + 1)).map (ptrTo ms) ++ [.pointer (some ⟨b, 0, none⟩)]))
    (b7 : cv'.ownBlock = some g ∨ ∃ g', cv'.ownBlock = some g' ∧ w4.heap.size + 1 ≤ g')
    (base q : Nat) (hbase : base ≤ w.heap.size) (hq : q < w.heap.size) (hj : ∀ k, (k < base ∨ k = q) → ρ k = .junk) (hb0 : blkOf ms 0 = base) :
    StateAt base q (w7.setCell ⟨pb, 0, none⟩ cv') pb (s.put d r number) ∧ Below base w (w7.setCell ⟨pb, 0, none⟩ cv') ∧ (w7.setCell ⟨pb, 0, none⟩ cv').heap[q]? = w.heap[q]? := by
  have hA := ok.above hd
  have hnA : s.nodes[s.above d]? = some (s.at (s.above d)) := by unfold PS.at; rw [getD_lt _ _ _ hA]; simp [hA]
  have hNA := ht.at' _ _ _ hnA hmA
  have hlA := lt_of_at hNA.cells
  have hlp := lt_of_at hp.cells
  have hlg := (hp.own.lt g hcg).2
  have hrg := hp.carole g hcg
  have z1 := h1.size
  have z4 : w1.heap.size + 1 ≤ w4.heap.size := by have := g4.size; simpa [World.setCell] using this
  have z7 : w4.heap.size + 1 ≤ w7.heap.size := by have := g7.size; simpa [World.setCell] using this
  have old4 := mid_old h1 (Nat.le_trans l1 l2) g4
  -- a block of the line that was read
  have line4 : ∀ k, w.heap.size ≤ k → k < w1.heap.size → w4.heap[k]? = (w1.setCell ⟨b, 1, none⟩ (.int .i64 number)).heap[k]? := by
    intro k hk hk1
    rw [g4.block k (by simp [World.setCell]; omega) (by
      intro e
      have := (hNA.own.lt k e.symm).2
      omega), Below.heap_alloc _ _ _ (by simp [World.setCell]; omega)]
  -- from the fourth world to the last
  have to7 : ∀ k, k < w4.heap.size → k ≠ mA.blk → k ≠ g → k ≠ pb → (w7.setCell ⟨pb, 0, none⟩ cv').heap[k]? = w4.heap[k]? := by
    intro k hk h1 h2 h3
    rw [Below.heap_setCell _ _ _ _ (by simpa using h3), g7.block k (by simp [World.setCell]; omega) (by simpa using h2), Below.heap_alloc _ _ _ (by simp [World.setCell]; omega), Below.heap_setCell _ _ _ _ (by simpa using h1)]
  have neA : mA.blk ≠ g := by intro e; have := hNA.role; rw [e, hrg] at this; cases this
  have neP : mA.blk ≠ pb := by intro e; have := hNA.role; rw [e, hp.role] at this; cases this
  have nePg : pb ≠ g := by intro e; have := hp.role; rw [e, hrg] at this; cases this
  have sA : some mA.blk ≠ mA.sl.ownBlock := by intro e; have := hNA.arrole _ e.symm; rw [hNA.role] at this; cases this
  have sP : some pb ≠ mA.sl.ownBlock := by intro e; have := hNA.arrole _ e.symm; rw [hp.role] at this; cases this
  have sG : some g ≠ mA.sl.ownBlock := by intro e; have := hNA.arrole _ e.symm; rw [hrg] at this; cases this
  have hF1 : ∀ k, k < w.heap.size → ρ k ≠ .node (s.above d) → ρ k ≠ .arr (s.above d) → ρ k ≠ .pars → ρ k ≠ .carr → (w7.setCell ⟨pb, 0, none⟩ cv').heap[k]? = w.heap[k]? := by
    intro k hk r1 r2 r3 r4
    rw [to7 k (by omega) (by rintro rfl; exact r1 hNA.role) (by rintro rfl; exact r4 hrg) (by rintro rfl; exact r3 hp.role)]
    exact old4 k hk (by intro e; exact r2 (hNA.arrole k e.symm))
  have v'blk : ∀ k, v'.ownBlock = some k → k < w4.heap.size ∧ k ≠ mA.blk ∧ k ≠ g ∧ k ≠ pb := by
    intro k hk
    refine ⟨(o4.lt k hk).2, ?_, ?_, ?_⟩
    all_goals
      rintro rfl
      rcases b4 with e | ⟨k', e, hl⟩
      · rw [e] at hk; first | exact sA hk.symm | exact sG hk.symm | exact sP hk.symm
      · rw [e] at hk; injection hk with hk; omega
  have hz : w1.heap.size ≤ (w7.setCell ⟨pb, 0, none⟩ cv').heap.size := by simp [World.setCell]; omega
  obtain ⟨ρ', ms', t1, p1, j1, k1⟩ := put_tree (wf := w7.setCell ⟨pb, 0, none⟩ cv') ok ht hp hd hmA r number b mid w1.heap.size ve v' cv' l1 l2 l3 hz hF1
    (by
      rw [Below.heap_setCell _ _ _ _ (by simpa using neP), g7.block _ (by simp [World.setCell]; omega) (by simpa using neA), Below.heap_alloc _ _ _ (by simp [World.setCell]; omega)]
      have := old4 mA.blk hlA sA
      rw [hNA.cells] at this
      exact at_setCell this 7 v')
    (by
      intro k hk hr
      exact hF1 k hk (by rw [hr]; simp) (by rw [hr]; simp) (by rw [hr]; simp) (by rw [hr]; simp))
    (ownsRow_frame o4 (fun k hk => by obtain ⟨a1, a2, a3, a4⟩ := v'blk k hk; exact to7 k a1 a2 a3 a4))
    (by
      rcases b4 with e | ⟨k, e, hl⟩
      · exact .inl e
      · exact .inr ⟨k, e, by omega⟩)
    (by
      rw [to7 b (by omega) (by omega) (by omega) (by omega), line4 b (by omega) l3]
      exact at_setCell hbc 1 _)
    (re.frame (fun k a c => by
      rw [to7 k (by omega) (by omega) (by omega) (by omega), line4 k a (by omega), Below.heap_setCell _ _ _ _ (by simp; omega)]))
    (by
      have h4 := old4 pb hlp sP
      rw [hp.cells] at h4
      have h7 : w7.heap[pb]? = some (.cells #[cv] 112) := by
        rw [g7.block pb (by simp [World.setCell]; omega) (by simpa using nePg), Below.heap_alloc _ _ _ (by simp [World.setCell]; omega), Below.heap_setCell _ _ _ _ (by simpa using neP.symm)]
        exact h4
      exact at_setCell h7 0 cv')
    (ownsRow_frame o7 (fun k hk => by
      refine Below.heap_setCell _ _ _ _ ?_
      rcases b7 with e | ⟨k', e, hl⟩
      · rw [e] at hk; injection hk with hk; subst hk; simpa using nePg.symm
      · rw [e] at hk; injection hk with hk; subst hk; simp; omega))
    (by
      rcases b7 with e | ⟨k', e, hl⟩
      · exact .inl (e.trans hcg.symm)
      · refine .inr ⟨k', e, by omega, ?_⟩
        intro e2
        have := (o4.lt k' e2).2
        omega)
    (fun k => k < base ∨ k = q) (fun k hk => by rcases hk with h | h <;> omega) hj
  refine ⟨⟨ρ', ms', cv', t1, p1, j1, by omega, by omega, by rw [k1 0 (by omega)]; exact hb0⟩, ⟨?_, ?_, ?_, ?_, ?_⟩, ?_⟩
  · show w7.os = w.os
    rw [g7.os]; show w4.os = _; rw [g4.os]; exact h1.os
  · show w7.tape = w.tape
    rw [g7.tape]; show w4.tape = _; rw [g4.tape]; exact h1.tape
  · show w7.output = w.output
    rw [g7.output]; show w4.output = _; rw [g4.output]; exact h1.output
  · simp [World.setCell]; omega
  · intro k hk
    have := hj k (.inl hk)
    exact hF1 k (by omega) (by rw [this]; simp) (by rw [this]; simp) (by rw [this]; simp) (by rw [this]; simp)
  · have := hj q (.inr rfl)
    exact hF1 q hq (by rw [this]; simp) (by rw [this]; simp) (by rw [this]; simp) (by rw [this]; simp)
end Go.Proofs.YtijcgaebpplngaaGreatDoor
