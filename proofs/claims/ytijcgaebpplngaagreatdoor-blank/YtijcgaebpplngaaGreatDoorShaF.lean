import Derived.Test.YtijcgaebpplngaaGreatDoorShaE
import Derived.Test.YtijcgaebpplngaaGreatDoorPure
namespace Go.Proofs.YtijcgaebpplngaaGreatDoor
open Go.RowKit Go.Maps

set_option maxRecDepth 20000 in
set_option maxHeartbeats 1000000 in
theorem found_any (w : World) (sb : Nat) (s line : Int) (h : w.heap[sb]? = some (.cells #[.int .i64 s] 125)) :
    Calls Tryz.prog 111 #[.pointer (some ⟨sb, 0, none⟩), .int .i64 line] w fun e w' => e = .returned (.tuple #[]) ∧ w'.heap[sb]? = some (.cells #[.int .i64 (foundF s line)] 125) ∧ w.grownBy w' (some sb) := by
  have c0 : w.cell? ⟨sb, 0, none⟩ = some (.int .i64 s) := cell_at h 0
  have fz := frozen_at h 0
  have gs : Hid (w.grownBy (w.setCell ⟨sb, 0, none⟩ (.int .i64 line)) (some sb)) := ⟨rfl, rfl, rfl, by simp [World.setCell], fun k hk hne => Below.heap_setCell _ _ _ _ (by simpa using hne)⟩
  have hs : Hid ((w.setCell ⟨sb, 0, none⟩ (.int .i64 line)).heap[sb]? = some (.cells #[.int .i64 line] 125)) := at_setCell h 0 _
  have H := hide h
  clear h
  by_cases hz : s = 0 ∨ line < s
  · have hF : foundF s line = line := by unfold foundF; rw [if_pos hz]
    rw [hF]
    clear hF
    by_cases h0 : s = 0
    · subst h0
      go_enter Tryz.func111, Tryz.ntmps111
      go_wp2
      go_end0
      exact ⟨rfl, hs.out, gs.out⟩
    · have hl : line < s := by omega
      go_enter Tryz.func111, Tryz.ntmps111
      go_wp2
      all_goals go_end0
      all_goals exact ⟨rfl, hs.out, gs.out⟩
  · have hF : foundF s line = s := by unfold foundF; rw [if_neg hz]
    rw [hF]
    clear hF
    have h0 : ¬ s = 0 := by omega
    have hl : ¬ line < s := by omega
    go_enter Tryz.func111, Tryz.ntmps111
    go_wp2
    all_goals go_end0
    all_goals exact ⟨rfl, H.out, World.grownBy.refl _ _⟩
end Go.Proofs.YtijcgaebpplngaaGreatDoor
namespace Go.Proofs.YtijcgaebpplngaaGreatDoor
open Go.RowKit Go.Maps

def mapV (b : Nat) : Value := .map (some b)

set_option maxRecDepth 20000 in
set_option maxHeartbeats 2000000 in
theorem anyTwo_any (w : World) (sv : Value) (us : List (List (Int × Nat))) (bs : List Nat) (hl : bs.length = us.length) (ho : w.ownsRow 0 127 1 sv us.length (bs.map mapV)) (hm : ∀ i, i < us.length → MapIs w (bs.getD i 0) (us.getD i [])) (hk : ∀ u ∈ us, UseOk u) :
    Calls Tryz.prog 110 #[sv] w fun e w' => e = .returned (.bool (anyTwo us)) ∧ w.grownBy w' none := by
  obtain ⟨sa, cap, rfl⟩ := ownsRow_len ho
  have hun : us.length ≤ 9223372036854775807 := by
    rcases ho.2 with ⟨_, h0⟩ | ⟨g, cap, cur, _, _, _, h1, h2, _⟩
    · omega
    · exact Nat.le_trans h1 h2
  have shape : us.length > 0 → ∃ g, sa = some ⟨g, 0, none⟩ ∧ us.length ≤ cap ∧ (∀ i, i < us.length → w.cell? ⟨g, i, none⟩ = some (.map (some (bs.getD i 0)))) := by
    intro hp
    obtain ⟨g, cap', cur, e, hg, h1, h2, h3, h4⟩ := ownsRow_shape ho hp
    injection e with e1 _ e3
    subst e3
    refine ⟨g, e1, h1, ?_⟩
    intro i hi
    refine ownsRow_cell hg h4 ?_
    rw [getD_lt _ _ _ (by omega)]
    simp [hl, hi, mapV]
  have hk' : ∀ i, UseOk (us.getD i []) := by
    intro i
    rcases Nat.lt_or_ge i us.length with h | h
    · rw [getD_lt _ _ _ h]; exact hk _ (List.getElem_mem h)
    · rw [getD_ge _ _ _ h]; intro p hp; cases hp
  have Hs := hide shape; have Hm := hide hm; have Hk := hide hk'
  clear shape hm hk hk' ho hl
  generalize hA : anyTwo us = A
  have HA := hide hA
  clear hA
  go_enter Tryz.func110, Tryz.ntmps110
  go_wp2_with fail
  go_loopw [3, 4, 6, 9] (fun _ _ _ x wr => ∃ i : Nat, i ≤ us.length ∧ x = .int .i64 i ∧ (∀ i', i' < i → ∀ j, j < i' → clashL (us.getD i' []) (us.getD j []) = false) ∧ w.grownBy wr none) (fun _ _ _ x _ => us.length - (intOf x).toNat)
  case atStart => exact ⟨0, Nat.zero_le _, rfl, fun i' h => by omega, World.grownBy.refl _ _⟩
  case round =>
    obtain ⟨i, hi, rfl, hno, hg⟩ := hrel
    have Hno := hide hno; have Hg := hide hg
    clear hno hg
    by_cases hin : i < us.length
    · obtain ⟨g, rfl, hcap, hc⟩ := Hs.out (by omega)
      have ci := cell_grown (hc i hin) Hg.out (by simp)
      have hii : (i : Int) < (us.length : Int) := by omega
      have hic : i ≤ cap := by omega
      have Hc := hide hc
      clear hc
      go_wp2_with fail
      go_loopw [6, 18] (fun _ y wr' => ∃ j : Nat, j ≤ i ∧ y = .int .i64 j ∧ (∀ j', j' < j → clashL (us.getD i []) (us.getD j' []) = false) ∧ w.grownBy wr' none) (fun _ y _ => i - (intOf y).toNat)
      case atStart => exact ⟨0, Nat.zero_le _, rfl, fun i' h => by omega, Hg.out⟩
      case round =>
        obtain ⟨j, hj, rfl, hnj, hg2⟩ := hrel
        have Hnj := hide hnj; have Hg2 := hide hg2
        clear hnj hg2
        by_cases hji : j < i
        · have cj := cell_grown (Hc.out j (by omega)) Hg2.out (by simp)
          have m1 := MapIs.kept (Hm.out i hin) Hg2.out (by simp)
          have m2 := MapIs.kept (Hm.out j (by omega)) Hg2.out (by simp)
          have M1 := hide m1; have M2 := hide m2
          clear m1 m2
          have hjj : (j : Int) < (i : Int) := by omega
          cases hcl : clashL (us.getD i []) (us.getD j []) with
          | true =>
            go_wp2_with (go_at_call 163; refine (usesClash_any _ _ _ _ _ M1.out M2.out (Hk.out i) (Hk.out j)).mono ?_; rw [hcl]; rintro e w3 ⟨rfl, k3⟩; have K3 := hide k3; clear k3)
            go_ret
            have := HA.out
            rw [anyTwo_true us i j hin hji hcl] at this
            subst this
            exact ⟨rfl, Hg2.out.andThen K3.out (fun j hj => by cases hj)⟩
          | false =>
            go_wp2_with (go_at_call 163; refine (usesClash_any _ _ _ _ _ M1.out M2.out (Hk.out i) (Hk.out j)).mono ?_; rw [hcl]; rintro e w3 ⟨rfl, k3⟩; have K3 := hide k3; clear k3)
            go_roundw
            case rel =>
              refine ⟨j + 1, by omega, by go_num, ?_, Hg2.out.andThen K3.out (fun j hj => by cases hj)⟩
              intro j' hj'
              by_cases e : j' = j
              · subst e; exact hcl
              · exact Hnj.out j' (by omega)
            case measure => simp [intOf]; omega
        · have hje : j = i := by omega
          subst hje
          go_wp2_with fail
          go_roundw
          case rel =>
            refine ⟨j + 1, by omega, by go_num, ?_, Hg2.out⟩
            intro i' hi'
            by_cases e : i' = j
            · subst e; exact Hnj.out
            · exact Hno.out i' (by omega)
          case measure => simp [intOf]; omega
    · have hie : i = us.length := by omega
      subst hie
      go_wp2_with fail
      go_ret
      have := HA.out
      rw [anyTwo_false us Hno.out] at this
      subst this
      exact ⟨rfl, Hg.out⟩
end Go.Proofs.YtijcgaebpplngaaGreatDoor
namespace Go.Proofs.YtijcgaebpplngaaGreatDoor
open Go.RowKit Go.Maps

theorem TreeAt.grown {w w' : World} {ρ : Nat → Role} {ns : List PNode} {ms : List NM} (h : TreeAt w ρ ns ms) {row : Option Nat} (hg : w.grownBy w' row) (hr : ∀ j, row = some j → ρ j = .junk) : TreeAt w' ρ ns ms :=
  h.frame hg.size (fun b i hb hrole => ⟨hg.block b hb (by intro e; have := hr b e.symm; rcases hrole with h | h | h <;> rw [this] at h <;> cases h), rfl⟩)

def ShareSaid (ρ : Nat → Role) (sb : Nat) (ns : List PNode) (ms : List NM) (f : Nat) : Prop := ∀ (w : World) (s : Int) (i : Nat) (m : NM), TreeAt w ρ ns ms → i < ns.length → ms[i]? = some m → ns.length - i ≤ f → w.heap[sb]? = some (.cells #[.int .i64 s] 125) →
  Calls Tryz.prog 58 #[.pointer (some ⟨sb, 0, none⟩), .pointer (some ⟨m.blk, 0, none⟩)] w fun e w' => ∃ b, e = .returned (.map (some b)) ∧ w.heap.size ≤ b ∧ MapIs w' b (shareF ns f s i).1 ∧ w'.heap[sb]? = some (.cells #[.int .i64 (shareF ns f s i).2] 125) ∧ w.grownBy w' (some sb)

/-- in the loop over what is below: what each one uses, and all together -/
structure LoopS (w : World) (sb : Nat) (n : PNode) (q : List (List (Int × Nat)) × Int) (b0 : Nat) (sv : Value) (bs : List Nat) (wr : World) : Prop where
  len : bs.length = q.1.length
  own : wr.ownsRow 0 127 1 sv q.1.length (bs.map mapV)
  ownge : ∀ g, sv.ownBlock = some g → w.heap.size ≤ g ∧ g ≠ b0 ∧ g ∉ bs
  maps : ∀ i, i < q.1.length → MapIs wr (bs.getD i 0) (q.1.getD i [])
  bsge : ∀ b ∈ bs, w.heap.size ≤ b ∧ b ≠ b0
  all : MapIs wr b0 (ownU n ++ q.1.flatten)
  b0ge : w.heap.size ≤ b0
  cell : wr.heap[sb]? = some (.cells #[.int .i64 q.2] 125)
  grown : w.grownBy wr (some sb)

theorem LoopS.mid {w : World} {sb : Nat} {n : PNode} {q : List (List (Int × Nat)) × Int} {b0 : Nat} {sv : Value} {bs : List Nat} {wr w2 w4 : World} (L : LoopS w sb n q b0 sv bs wr) (hlt : sb < w.heap.size) {b : Nat} {u : List (Int × Nat)} (hb : wr.heap.size ≤ b)
    (m2 : MapIs w2 b u) (g2 : wr.grownBy w2 (some sb)) {o : Obj} (g4 : (w2.alloc o).grownBy w4 sv.ownBlock) : MapIs w4 b0 (ownU n ++ q.1.flatten) ∧ MapIs w4 b u ∧ b0 ≠ b := by
  have h0 := L.all.lt
  have h1 := L.b0ge
  refine ⟨MapIs.kept (MapIs.kept (MapIs.kept L.all g2 (by simp; omega)) (World.grownBy_alloc w2 o none) (by simp)) g4 ?_, MapIs.kept (MapIs.kept m2 (World.grownBy_alloc w2 o none) (by simp)) g4 ?_, by omega⟩
  · intro e; exact (L.ownge b0 e.symm).2.1 rfl
  · intro e
    have := (L.own.lt b e.symm).2
    omega

theorem LoopS.step {w : World} {sb : Nat} {n : PNode} {q : List (List (Int × Nat)) × Int} {b0 : Nat} {sv v' : Value} {bs : List Nat} {wr w2 w4 w5 : World} (L : LoopS w sb n q b0 sv bs wr) (hlt : sb < w.heap.size) {b : Nat} {u : List (Int × Nat)} {s' : Int} (hb : wr.heap.size ≤ b)
    (m2 : MapIs w2 b u) (c2 : w2.heap[sb]? = some (.cells #[.int .i64 s'] 125)) (g2 : wr.grownBy w2 (some sb)) {o : Obj}
    (own4 : w4.ownsRow 0 127 1 v' (q.1.length + 1) (bs.map mapV ++ [mapV b])) (g4 : (w2.alloc o).grownBy w4 sv.ownBlock) (b4 : v'.ownBlock = sv.ownBlock ∨ ∃ g, v'.ownBlock = some g ∧ (w2.alloc o).heap.size ≤ g)
    (m5 : MapIs w5 b0 ((ownU n ++ q.1.flatten) ++ u)) (g5 : w4.grownBy w5 (some b0)) : LoopS w sb n (q.1 ++ [u], s') b0 v' (bs ++ [b]) w5 := by
  obtain ⟨mm1, mm2, mm3⟩ := L.mid hlt hb m2 g2 g4
  have h0 := L.all.lt
  have h1 := L.b0ge
  have hz2 := g2.size
  have hbl := m2.lt
  have vge : ∀ g, v'.ownBlock = some g → w.heap.size ≤ g ∧ g ≠ b0 ∧ g ∉ bs ∧ g ≠ b := by
    intro g hg
    rcases b4 with e | ⟨g', e, hl⟩
    · rw [e] at hg
      have h3 := L.ownge g hg
      have h4 := (L.own.lt g hg).2
      exact ⟨h3.1, h3.2.1, h3.2.2, by omega⟩
    · rw [e] at hg; injection hg with hg; subst hg
      simp only [World.size_alloc] at hl
      have hz := L.grown.size
      refine ⟨by omega, by omega, ?_, by omega⟩
      intro hm
      obtain ⟨i, hi, e⟩ := List.getElem_of_mem hm
      have := (L.maps i (by rw [← L.len]; exact hi)).lt
      rw [getD_lt _ _ _ hi, e] at this
      omega
  have old : ∀ b' ∈ bs, ∀ u', MapIs wr b' u' → MapIs w5 b' u' := by
    intro b' hb' u' hm
    have h3 := L.bsge b' hb'
    refine MapIs.kept (MapIs.kept (MapIs.kept (MapIs.kept hm g2 (by simp; omega)) (World.grownBy_alloc w2 o none) (by simp)) g4 ?_) g5 (by simpa using h3.2)
    intro e
    exact (L.ownge b' e.symm).2.2 hb'
  refine ⟨by simp [L.len], ?_, ?_, ?_, ?_, ?_, h1, ?_, ?_⟩
  · have : w5.ownsRow 0 127 1 v' (q.1.length + 1) (bs.map mapV ++ [mapV b]) := ownsRow_frame own4 (fun g hg => g5.block g (own4.lt g hg).2 (by simpa using (vge g hg).2.1))
    simpa using this
  · intro g hg
    have := vge g hg
    exact ⟨this.1, this.2.1, by simp [this.2.2.1, this.2.2.2]⟩
  · intro i hi
    simp only [List.length_append, List.length_singleton] at hi
    by_cases hl : i < q.1.length
    · have hl' : i < bs.length := by rw [L.len]; exact hl
      have hm := L.maps i hl
      have e1 : (bs ++ [b]).getD i 0 = bs.getD i 0 := by rw [getD_lt _ _ _ (by simp; omega), getD_lt _ _ _ hl', List.getElem_append_left hl']
      have e2 : (q.1 ++ [u]).getD i [] = q.1.getD i [] := by rw [getD_lt _ _ _ (by simp; omega), getD_lt _ _ _ hl, List.getElem_append_left hl]
      rw [e1, e2]
      refine old _ ?_ _ hm
      rw [getD_lt _ _ _ hl']; exact List.getElem_mem hl'
    · have : i = q.1.length := by omega
      subst this
      have e1 : (bs ++ [b]).getD q.1.length 0 = b := by rw [← L.len]; simp
      have e2 : (q.1 ++ [u]).getD q.1.length [] = u := by simp
      rw [e1, e2]
      exact MapIs.kept mm2 g5 (by simpa using mm3.symm)
  · intro b' hb'
    simp only [List.mem_append, List.mem_singleton] at hb'
    rcases hb' with hb' | rfl
    · exact L.bsge b' hb'
    · have := L.grown.size
      exact ⟨by omega, mm3.symm⟩
  · have e : ownU n ++ (q.1 ++ [u]).flatten = (ownU n ++ q.1.flatten) ++ u := by simp
    show MapIs w5 b0 (ownU n ++ (q.1 ++ [u]).flatten)
    rw [e]; exact m5
  · have hs2 : sb < (w2.alloc o).heap.size := by have := L.grown.size; simp; omega
    rw [g5.block sb (Nat.lt_of_lt_of_le hs2 g4.size) (by simp; omega), g4.block sb hs2 (by
      intro e
      have := (L.ownge sb e.symm).1
      omega), Below.heap_alloc _ _ _ (by have := L.grown.size; omega)]
    exact c2
  · have ga : w.grownBy (w2.alloc o) (some sb) := (L.grown.andThen g2 (fun j hj => .inr hj)).andThen (World.grownBy_alloc w2 o none) (fun j hj => by cases hj)
    refine (ga.andThen g4 (fun j hj => .inl (L.ownge j hj).1)).andThen g5 (fun j hj => by injection hj with hj; subst hj; exact .inl h1)
end Go.Proofs.YtijcgaebpplngaaGreatDoor
