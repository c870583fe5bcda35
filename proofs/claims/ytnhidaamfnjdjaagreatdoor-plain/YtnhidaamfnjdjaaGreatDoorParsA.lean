import Derived.Test.YtnhidaamfnjdjaaGreatDoorHeapT
import Derived.Test.YtnhidaamfnjdjaaGreatDoorReadF
namespace Go.Proofs.YtnhidaamfnjdjaaGreatDoor
open Go.RowKit

set_option maxHeartbeats 1000000 in
theorem room_any (k : Int) (w : World) :
    Calls Tryz.prog 115 #[.int .i64 k] w fun e w' => e = .returned (.tuple #[.int .i64 (roomL k), .int .i64 (roomM k)]) ∧ w' = w := by
  by_cases h : k = 7 ∨ k = 8 ∨ k = 11 ∨ k = 13 ∨ k = 9 ∨ k = 0 ∨ k = 10 ∨ k = 12 ∨ k = 14 ∨ k = 15 ∨ k = 16
  · rcases h with rfl | rfl | rfl | rfl | rfl | rfl | rfl | rfl | rfl | rfl | rfl
    all_goals
      go_enter Tryz.func115, Tryz.ntmps115
      go_wp2
      go_ret2
      exact ⟨rfl, rfl⟩
  · simp only [not_or] at h
    obtain ⟨h1, h2, h3, h4, h5, h6, h7, h8, h9, h10, h11⟩ := h
    have e1 : roomL k = 0 := by simp [roomL, *]
    have e2 : roomM k = 0 := by simp [roomM, *]
    rw [e1, e2]
    have h1 := beq_eq_false_iff_ne.2 h1
    have h2 := beq_eq_false_iff_ne.2 h2
    have h3 := beq_eq_false_iff_ne.2 h3
    have h4 := beq_eq_false_iff_ne.2 h4
    have h5 := beq_eq_false_iff_ne.2 h5
    have h6 := beq_eq_false_iff_ne.2 h6
    have h7 := beq_eq_false_iff_ne.2 h7
    have h8 := beq_eq_false_iff_ne.2 h8
    have h9 := beq_eq_false_iff_ne.2 h9
    have h10 := beq_eq_false_iff_ne.2 h10
    have h11 := beq_eq_false_iff_ne.2 h11
    clear e1 e2
    go_enter Tryz.func115, Tryz.ntmps115
    go_wp2
    go_ret2
    exact ⟨rfl, rfl⟩

theorem ownsRow_len {w : World} {base : Nat} {e : TypeId} {size : Nat} {v : Value} {n : Nat} {xs : List Value} (h : w.ownsRow base e size v n xs) : ∃ a c, v = .slice a n c := by
  rcases h.2 with ⟨rfl, rfl⟩ | ⟨g, cap, cur, rfl, _⟩
  · exact ⟨none, 0, rfl⟩
  · exact ⟨_, _, rfl⟩

theorem PS.complete_step (s : PS) (d i : Nat) (h : d + i < s.chain.length) (hf : s.full (s.above (d + i)) = false) : s.complete d = false := by
  unfold PS.complete
  rw [List.all_eq_false]
  refine ⟨s.chain[d + i], ?_, ?_⟩
  · rw [List.mem_drop_iff_getElem]
    exact ⟨i, by omega, by simp⟩
  · unfold PS.above at hf
    rw [getD_lt _ _ _ h] at hf
    simp [hf]
theorem PS.complete_end (s : PS) (d : Nat) (hi : ∀ j, d + j < s.chain.length → s.full (s.above (d + j)) = true) : s.complete d = true := by
  unfold PS.complete
  rw [List.all_eq_true]
  intro x hx
  rw [List.mem_drop_iff_getElem] at hx
  obtain ⟨j, hj, rfl⟩ := hx
  have := hi j (by omega)
  unfold PS.above at this
  rwa [getD_lt _ _ _ (by omega)] at this

set_option maxHeartbeats 1000000 in
theorem completeFrom_any (w : World) (ρ : Nat → Role) (pb : Nat) (s : PS) (ms : List NM) (cv : Value) (hp : ParserAt w ρ pb s.chain ms cv) (ht : TreeAt w ρ s.nodes ms) (ok : s.Ok) (d : Nat) (hd : d ≤ s.chain.length) :
    Calls Tryz.prog 62 #[.pointer (some ⟨pb, 0, none⟩), .int .i64 d] w fun e w' => e = .returned (.bool (s.complete d)) ∧ w' = w := by
  have c0 : w.cell? ⟨pb, 0, none⟩ = some cv := cell_at hp.cells 0
  have hpos : 0 < s.chain.length := List.length_pos_iff.2 ok.pos
  obtain ⟨g, cap, cur, rfl, hg, hc1, hc2, hc3, hc4⟩ := ownsRow_shape hp.own hpos
  have hsh := ok.short
  generalize hn : s.chain.length = n at hd hpos hc1 hc4 hsh c0
  have Hn := hide hn
  have hm : cap ≤ 9223372036854775807 := hc2
  have Hp := hide hp; have Ht := hide ht; have Hok := hide ok; have Hg := hide hg; have Hc4 := hide hc4
  clear hp ht ok hg hc4 hc2 hn
  generalize hB : s.complete d = B
  have HB := hide hB
  clear hB
  have hidx : ∀ j, j < n → w.cell? ⟨g, j, none⟩ = some (ptrTo ms (s.above j)) := by
    intro j hj
    refine ownsRow_cell Hg.out Hc4.out ?_
    have hj' : j < s.chain.length := by rw [Hn.out]; exact hj
    simp [hj', PS.above]
  have hnode : ∀ j, j < n → ∃ a c, w.cell? ⟨blkOf ms (s.above j), 0, none⟩ = some (.int .i64 (s.at (s.above j)).kind) ∧ w.cell? ⟨blkOf ms (s.above j), 7, none⟩ = some (.slice a (s.at (s.above j)).kids.length c) := by
    intro j hj
    have hj' : j < s.chain.length := by rw [Hn.out]; exact hj
    obtain ⟨m, hm1, hm2, hm3⟩ := Ht.out.get (Hok.out.above hj')
    obtain ⟨a, c, hac⟩ := ownsRow_len hm2.own
    refine ⟨a, c, ?_, ?_⟩
    · rw [hm3]; exact cell_at hm2.cells 0
    · rw [hm3, cell_at hm2.cells 7]
      show some m.sl = _
      rw [hac]; rfl
  have Hidx := hide hidx; have Hnode := hide hnode
  clear hidx hnode
  by_cases hdn : d = n
  · subst hdn
    have hB : B = true := by
      rw [← HB.out]
      exact PS.complete_end s d (fun j hj => by rw [Hn.out] at hj; omega)
    subst hB
    by_cases hcd : cap = d
    · subst hcd
      go_enter Tryz.func62, Tryz.ntmps62
      go_wp2_with fail
      refine wp_loop_rounds 1 ?_
      rw [rounds_succ]
      go_wp2
      go_ret
      exact ⟨rfl, rfl⟩
    · go_enter Tryz.func62, Tryz.ntmps62
      go_wp2_with fail
      refine wp_loop_rounds 1 ?_
      rw [rounds_succ]
      go_wp2
      go_ret
      exact ⟨rfl, rfl⟩
  · have hlt : d < n := by omega
    have hcd : ¬ cap = d := by omega
    go_enter Tryz.func62, Tryz.ntmps62
    go_wp2_with fail
    go_loop [6, 7, 8, 16] (fun _ _ _ i => ∃ k : Nat, k ≤ n - d ∧ i = .int .i64 k ∧ ∀ j, j < k → s.full (s.above (d + j)) = true) (fun _ _ _ i => n - d - (intOf i).toNat)
    case atStart => exact ⟨0, by omega, rfl, fun j hj => by omega⟩
    case round =>
      obtain ⟨k, hk, rfl, hall⟩ := hrel
      have Hall := hide hall
      clear hall
      by_cases hkn : k < n - d
      · have ci := Hidx.out (d + k) (by omega)
        obtain ⟨a, c, cn0, cn7⟩ := Hnode.out (d + k) (by omega)
        unfold ptrTo at ci
        by_cases hf : s.full (s.above (d + k)) = true
        · have hf' : ¬ ((s.at (s.above (d + k))).kids.length : Int) < roomL (s.at (s.above (d + k))).kind := by
            unfold PS.full at hf; simp at hf; omega
          go_wp2_with (go_at_call 115; refine (room_any _ _).mono ?_; rintro e w' ⟨rfl, rfl⟩)
          go_round
          case rel => exact ⟨k + 1, by omega, by go_num, fun j hj => by
            by_cases e : j = k
            · subst e; exact hf
            · exact Hall.out j (by omega)⟩
          case measure => simp [intOf]; omega
        · have hf' : ((s.at (s.above (d + k))).kids.length : Int) < roomL (s.at (s.above (d + k))).kind := by
            unfold PS.full at hf; simp at hf; omega
          have hB : B = false := by
            rw [← HB.out]
            exact PS.complete_step s d k (by rw [Hn.out]; omega) (by simpa using hf)
          subst hB
          go_wp2_with (go_at_call 115; refine (room_any _ _).mono ?_; rintro e w' ⟨rfl, rfl⟩)
          go_ret
          exact ⟨rfl, rfl⟩
      · have hB : B = true := by
          rw [← HB.out]
          exact PS.complete_end s d (fun j hj => Hall.out j (by rw [Hn.out] at hj; omega))
        subst hB
        go_wp2_with fail
        go_ret
        exact ⟨rfl, rfl⟩

set_option maxHeartbeats 1000000 in
theorem fits_any (w : World) (ρ : Nat → Role) (pb : Nat) (s : PS) (ms : List NM) (cv : Value) (hp : ParserAt w ρ pb s.chain ms cv) (ht : TreeAt w ρ s.nodes ms) (ok : s.Ok) (d : Nat) (hd : d ≤ 10) :
    Calls Tryz.prog 113 #[.pointer (some ⟨pb, 0, none⟩), .int .i64 d] w fun e w' => e = .returned (.bool (s.fits d)) ∧ w' = w := by
  have c0 : w.cell? ⟨pb, 0, none⟩ = some cv := cell_at hp.cells 0
  have hpos : 0 < s.chain.length := List.length_pos_iff.2 ok.pos
  obtain ⟨g, cap, cur, hcv, hg, hc1, hc2, hc3, hc4⟩ := ownsRow_shape hp.own hpos
  have hsh := ok.short
  rw [hcv] at c0
  have Hp := hide hp; have Ht := hide ht; have Hok := hide ok; have Hg := hide hg; have Hc4 := hide hc4
  clear hp ht ok hg hc4 hc2 hcv
  by_cases h1 : d < s.chain.length
  · have h1' : ¬ (s.chain.length : Int) ≤ (d : Int) := by omega
    have hb1 : decide ((s.chain.length : Int) ≤ (d : Int)) = false := by simpa using h1
    have ci : w.cell? ⟨g, d, none⟩ = some (ptrTo ms (s.above d)) := by
      refine ownsRow_cell Hg.out Hc4.out ?_
      simp [h1, PS.above]
    obtain ⟨m, hm1, hm2, hm3⟩ := Ht.out.get (Hok.out.above h1)
    obtain ⟨a, c, hac⟩ := ownsRow_len hm2.own
    have cn0 : w.cell? ⟨blkOf ms (s.above d), 0, none⟩ = some (.int .i64 (s.at (s.above d)).kind) := by rw [hm3]; exact cell_at hm2.cells 0
    have cn7 : w.cell? ⟨blkOf ms (s.above d), 7, none⟩ = some (.slice a (s.at (s.above d)).kids.length c) := by
      rw [hm3, cell_at hm2.cells 7]
      show some m.sl = _
      rw [hac]; rfl
    unfold ptrTo at ci
    clear hm1 hm2 hm3 hac
    cases h2 : s.complete (d + 1) with
    | true =>
      have e1 : Hid (s.fits d = decide (((s.at (s.above d)).kids.length : Int) < roomM (s.at (s.above d)).kind)) := by apply hide; simp [PS.fits, h1, h2]
      have H2 := hide h2
      clear h2
      go_enter Tryz.func113, Tryz.ntmps113
      go_wp2_with (first | (go_at_call 62; refine (completeFrom_any _ ρ pb s ms cv Hp.out Ht.out Hok.out (d + 1) h1).mono ?_; rw [H2.out]; rintro e wx ⟨rfl, hw⟩; have hw := hw.symm; subst hw) | (go_at_call 115; refine (room_any _ _).mono ?_; rintro e wx ⟨rfl, hw⟩; have hw := hw.symm; subst hw))
      go_ret
      exact ⟨by rw [e1.out]; rfl, rfl⟩
    | false =>
      have e1 : Hid (s.fits d = false) := by apply hide; simp [PS.fits, h2]
      have H2 := hide h2
      clear h2
      go_enter Tryz.func113, Tryz.ntmps113
      go_wp2_with (first | (go_at_call 62; refine (completeFrom_any _ ρ pb s ms cv Hp.out Ht.out Hok.out (d + 1) h1).mono ?_; rw [H2.out]; rintro e wx ⟨rfl, hw⟩; have hw := hw.symm; subst hw))
      go_ret
      exact ⟨by rw [e1.out]; rfl, rfl⟩
  · have e1 : Hid (s.fits d = false) := by apply hide; simp [PS.fits, h1]
    have h1' : (s.chain.length : Int) ≤ (d : Int) := by omega
    clear h1
    go_enter Tryz.func113, Tryz.ntmps113
    go_wp2_with fail
    go_ways
    go_ret
    exact ⟨by rw [e1.out]; rfl, rfl⟩
end Go.Proofs.YtnhidaamfnjdjaaGreatDoor
