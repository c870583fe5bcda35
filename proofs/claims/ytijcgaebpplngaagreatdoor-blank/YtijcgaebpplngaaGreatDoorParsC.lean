import Derived.Test.YtijcgaebpplngaaGreatDoorHeapV
namespace Go.Proofs.YtijcgaebpplngaaGreatDoor
open Go.RowKit

theorem new_cell (w : World) (n : Nat) (h : w.heap.size = n) (x : Value) (t : TypeId) : (w.alloc (.cells #[x] t)).cell? ((⟨n, 0, none⟩ : Addr).add 0) = some x := by
  subst h
  have e : (⟨w.heap.size, 0, none⟩ : Addr).add 0 = ⟨w.heap.size, 0, none⟩ := by simp [Addr.add]
  rw [e]
  exact cell_at (at_new _ _) 0
theorem size_setCell (w : World) (a : Addr) (v : Value) : (w.setCell a v).heap.size = w.heap.size := by simp [World.setCell]

set_option maxHeartbeats 1000000 in
/-- as far as the reading of the line -/
theorem add_read (w : World) (ρ : Nat → Role) (pb : Nat) (s : PS) (ms : List NM) (cv : Value) (hp : ParserAt w ρ pb s.chain ms cv) (ht : TreeAt w ρ s.nodes ms) (ok : s.Ok) (m : Int) (hm : w.cell? ⟨0, 0, none⟩ = some (.int .i64 m)) (base q : Nat) (hbase : base ≤ w.heap.size) (hq : q < w.heap.size) (hj : ∀ k, (k < base ∨ k = q) → ρ k = .junk) (hb0 : blkOf ms 0 = base)
    (line : Bs) (number : Int) (hl : line.length ≤ 800) (h1 : trimB line ≠ []) (d : Nat) (hdd : (line.length - (trimB line).length) / 2 = d) (h2 : d ≤ 10) (h3 : (line.length - (trimB line).length) % 2 = 0) (h4 : s.fits d = true) (hKn : (s.at (s.above d)).kids.length ≤ 100000)
    (r : LP × Int) (hr : readLineF (trimB line) (s.at (s.above d)).kind = r) :
    Calls Tryz.prog 55 #[.pointer (some ⟨pb, 0, none⟩), .string ⟨line.toArray⟩, .int .i64 number] w fun e w' =>
      (r.2 ≠ 0 → e = .returned (.int .i64 r.2) ∧ Below w.heap.size w w') ∧
      (r.2 = 0 → e = .returned (.int .i64 0) ∧ StateAt base q w' pb (s.put d r.1 number) ∧ Below base w w' ∧ w'.heap[q]? = w.heap[q]?) := by
  have hle := trimB_le line
  have hd := PS.fits_lt h4
  have hA := ok.above hd
  obtain ⟨mA, hmA, hNA, hblk⟩ := ht.get hA
  obtain ⟨sa, sc, hsl⟩ := ownsRow_len hNA.own
  have hpos : 0 < s.chain.length := List.length_pos_iff.2 ok.pos
  obtain ⟨g, cap, cur, hcv, hg, hc1, hc2, hc3, hc4⟩ := ownsRow_shape hp.own hpos
  have hsh := ok.short
  have cp : w.cell? ⟨pb, 0, none⟩ = some cv := cell_at hp.cells 0
  rw [hcv] at cp
  have ci : w.cell? ⟨g, d, none⟩ = some (.pointer (some ⟨mA.blk, 0, none⟩)) := by
    have : w.cell? ⟨g, d, none⟩ = some (ptrTo ms (s.above d)) := by
      refine ownsRow_cell hg hc4 ?_
      simp [hd, PS.above]
    rw [this]; unfold ptrTo; rw [hblk]
  have cA0 : w.cell? ⟨mA.blk, 0, none⟩ = some (.int .i64 (s.at (s.above d)).kind) := cell_at hNA.cells 0
  generalize hb : trimB line = body at h1 h3 hle hr hdd
  have hbl : body.length ≤ 800 := by omega
  have h1' : body.isEmpty = false := by cases body with
    | nil => exact absurd rfl h1
    | cons a l => rfl
  have hcast : ((line.length : Int) - (body.length : Int)) / 2 = (d : Int) := by omega
  have h2' : ¬ (10 : Int) < (d : Int) := by omega
  have h3' : ((((line.length : Int) - (body.length : Int)) % 2) != 0) = false := by simp; omega
  have hdc : (d : Int) < (s.chain.length : Int) := by omega
  have Hb : Hid (Lib.trimLeftB line 32 = body) := hb
  have Hp := hide hp; have Ht := hide ht; have Hok := hide ok; have Hm := hide hm; have H4 := hide h4; have Hr := hide hr; have HNA := hide hNA
  have Hg := hide hg; have Hc4 := hide hc4; have Hcv := hide hcv; have Hsl := hide hsl; have HmA := hide hmA; have Hj := hide hj; have Hb0 := hide hb0
  clear h1 hb h3 hp ht ok hm h4 hr hNA hg hc4 hcv hsl hblk hmA hj hdd hb0
  go_enter Tryz.func55, Tryz.ntmps55
  go_wp2_with (first | (go_at_call 99; refine (Tryz.strings_TrimLeft_one _ _ (by decide) _).mono ?_; dsimp only; rw [Hb.out]; rintro e w' ⟨rfl, hw⟩; have hw := hw.symm; subst hw) | (go_at_call 100; refine (fits_any _ ρ pb s ms cv Hp.out Ht.out Hok.out d h2).mono ?_; rw [H4.out]; rintro e w' ⟨rfl, hw⟩; have hw := hw.symm; subst hw))
  refine (readLine_any body m _ w hbl Hm.out).mono ?_
  rw [Hr.out]
  rintro e w1 ⟨b, rfl, rp, hb1⟩
  by_cases he : r.2 = 0
  · have he' : (r.2 != 0) = false := by simp [he]
    obtain ⟨mid, ve, l1, l2, l3, hbc, re⟩ := rp
    have hbA : mA.blk < w.heap.size := lt_of_at HNA.out.cells
    have hbP : pb < w.heap.size := lt_of_at Hp.out.cells
    have fb := fun i => cell_at hbc i
    have gb := fun i => frozen_at hbc i
    have hA1 := Below.at hb1 HNA.out.cells hbA
    have hP1 := Below.at hb1 Hp.out.cells hbP
    have hA2 : ∀ v, (w1.setCell ⟨b, 1, none⟩ v).heap[mA.blk]? = some (.cells (nodeCells (s.at (s.above d)) mA) 109) := fun v => at_setCell_other hA1 (by omega) _ _
    have hP2 : ∀ v, (w1.setCell ⟨b, 1, none⟩ v).heap[pb]? = some (.cells #[cv] 112) := fun v => at_setCell_other hP1 (by omega) _ _
    have fA : ∀ v, (w1.setCell ⟨b, 1, none⟩ v).cell? ⟨mA.blk, 7, none⟩ = some (.slice sa (s.at (s.above d)).kids.length sc) := by
      intro v; rw [cell_at (hA2 v) 7]; show some mA.sl = _; rw [Hsl.out]; rfl
    have own2 : ∀ v, (w1.setCell ⟨b, 1, none⟩ v).ownsRow 0 52 1 (.slice sa (s.at (s.above d)).kids.length sc) (s.at (s.above d)).kids.length ((s.at (s.above d)).kids.map (ptrTo ms)) := by
      intro v
      have h5 := HNA.out.own
      have h6 : mA.sl = .slice sa (s.at (s.above d)).kids.length sc := Hsl.out
      rw [h6] at h5
      refine ownsRow_frame h5 (fun k hk => ?_)
      have hlt := (h5.lt k hk).2
      rw [Below.heap_setCell _ _ _ _ (by simp; omega)]
      exact hb1.block k hlt
    have HA1 := hide hA1; have HP1 := hide hP1; have HA2 := hide hA2; have HP2 := hide hP2; have Own2 := hide own2; have Hbc := hide hbc; have Re := hide re; have Hb1 := hide hb1
    have He := hide he
    clear hA1 hP1 hA2 hP2 own2 hbc re hb1 he
    have hK : (s.at (s.above d)).kids.length ≤ 100000 := hKn
    have hz1 := Hb1.out.size
    have hlg := (Hp.out.own.lt g (by rw [Hcv.out]; rfl)).2
    have hrg := Hp.out.carole g (by rw [Hcv.out]; rfl)
    go_wp2_with (first
      | (at_builtin
         refine wpList_append1 Tryz.underlying107 (z := .pointer none) (bytes := 8) (by kernel_rfl) rfl (by decide) rfl _ _ rfl (.slice sa (s.at (s.above d)).kids.length sc) _ _ rfl ((Own2.out _).alloc _) ⟨w1.heap.size, 0, none⟩ 1 (.pointer (some ⟨b, 0, none⟩)) rfl (new_cell _ _ (size_setCell _ _ _) _ _) rfl hK ?_
         clear Own2 fA
         intro v' w4 o4 g4 b4
         obtain ⟨va, vc, rfl⟩ := ownsRow_len o4
         have slb : (Value.slice sa (s.at (s.above d)).kids.length sc).ownBlock = mA.sl.ownBlock := by rw [show mA.sl = .slice sa (s.at (s.above d)).kids.length sc from Hsl.out]
         rw [slb] at g4 b4
         have old4 := mid_old Hb1.out (Nat.le_trans l1 l2) g4
         have sA : some mA.blk ≠ mA.sl.ownBlock := by intro e; have := HNA.out.arrole _ e.symm; rw [HNA.out.role] at this; cases this
         have sP : some pb ≠ mA.sl.ownBlock := by intro e; have := HNA.out.arrole _ e.symm; rw [Hp.out.role] at this; cases this
         have sG : some g ≠ mA.sl.ownBlock := by intro e; have := HNA.out.arrole _ e.symm; rw [hrg] at this; cases this
         have hA4 := (old4 mA.blk hbA sA).trans HNA.out.cells
         have hP4 := (old4 pb hbP sP).trans Hp.out.cells
         have neP : pb ≠ mA.blk := by intro e; have := HNA.out.role; rw [← e, Hp.out.role] at this; cases this
         have neG : g ≠ mA.blk := by intro e; have := HNA.out.role; rw [← e, hrg] at this; cases this
         have fA4 : w4.cell? ⟨mA.blk, 7, none⟩ = some mA.sl := cell_at hA4 7
         have gA4 := fun i => frozen_at hA4 i
         have fP5 : ∀ v, (w4.setCell ⟨mA.blk, 7, none⟩ v).cell? ⟨pb, 0, none⟩ = some (.slice (some ⟨g, 0, none⟩) s.chain.length cap) := by
           intro v
           rw [cell_at (at_setCell_other hP4 neP 7 v) 0, ← Hcv.out]; rfl
         have own5 : ∀ v, (w4.setCell ⟨mA.blk, 7, none⟩ v).ownsRow 0 52 1 (.slice (some ⟨g, 0, none⟩) (d + 1) cap) (d + 1) ((s.chain.take (d + 1)).map (ptrTo ms)) := by
           intro v
           refine ⟨by simp; omega, .inr ⟨g, cap, cur, rfl, Nat.zero_le _, ?_, by omega, hc2, by omega, ?_⟩⟩
           · rw [Below.heap_setCell _ _ _ _ (by simpa using neG), old4 g hlg sG]; exact Hg.out
           · have := Hc4.out
             rw [List.map_take, ← this, List.take_take]
             congr 1
             omega
         have G4 := hide g4; have B4 := hide b4; have O4 := hide o4; have HA4 := hide hA4; have HP4 := hide hP4; have Own5 := hide own5; have Old4 := hide old4
         clear g4 b4 o4 hA4 hP4 own5 old4 slb)
      | (at_builtin
         refine wpList_append1 Tryz.underlying107 (z := .pointer none) (bytes := 8) (by kernel_rfl) rfl (by decide) rfl _ _ rfl (.slice (some ⟨g, 0, none⟩) (d + 1) cap) _ _ rfl ((Own5.out _).alloc _) ⟨w4.heap.size, 0, none⟩ 1 (.pointer (some ⟨b, 0, none⟩)) rfl (new_cell _ _ (size_setCell _ _ _) _ _) rfl (by omega) ?_
         clear Own5 fP5
         intro cv' w7 o7 g7 b7
         obtain ⟨ca, cc, rfl⟩ := ownsRow_len o7
         have nePg : pb ≠ g := by intro e; have := Hp.out.role; rw [e, hrg] at this; cases this
         have z4 : w1.heap.size + 1 ≤ w4.heap.size := by have := G4.out.size; simpa [World.setCell] using this
         have hP7 : w7.heap[pb]? = some (.cells #[cv] 112) := by
           rw [g7.block pb (by simp [World.setCell]; omega) (by simpa [Value.ownBlock] using nePg), Below.heap_alloc _ _ _ (by simp [World.setCell]; omega), Below.heap_setCell _ _ _ _ (by simpa using neP)]
           exact HP4.out
         have fP7 : w7.cell? ⟨pb, 0, none⟩ = some cv := cell_at hP7 0
         have gP7 := fun i => frozen_at hP7 i
         have G7 := hide g7; have B7 := hide b7; have O7 := hide o7; have HP7 := hide hP7
         clear g7 b7 o7 hP7))
    go_ret
    have fin := add_final Hok.out Ht.out Hp.out hd HmA.out r.1 number (by rw [Hcv.out]; rfl) Hb1.out l1 l2 l3 Hbc.out Re.out G4.out O4.out (by simpa [World.setCell] using B4.out) G7.out O7.out (by simpa [World.setCell, Value.ownBlock] using B7.out) base q hbase hq Hj.out Hb0.out
    exact ⟨fun h => absurd He.out h, fun _ => ⟨rfl, fin⟩⟩
  · have he' : (r.2 != 0) = true := by simp [he]
    have He : Hid (r.2 ≠ 0) := he
    clear he
    go_wp2
    go_ret
    exact ⟨fun _ => ⟨rfl, hb1⟩, fun h => absurd h He.out⟩
end Go.Proofs.YtijcgaebpplngaaGreatDoor
