import Derived.Test.YtijcgaebpplngaaGreatDoorAppN
import Derived.Test.YtijcgaebpplngaaGreatDoorParsE
import Derived.Test.YtijcgaebpplngaaGreatDoorPure
namespace Go.Proofs.YtijcgaebpplngaaGreatDoor
open Go.RowKit

def DC.cells (d : DC) : List Value := [.string ⟨d.text.toArray⟩, .int .i64 d.kind, .int .i64 d.num]
def flatD (l : List DC) : List Value := l.flatMap DC.cells

theorem flatD_len (l : List DC) : (flatD l).length = l.length * 3 := by
  induction l with
  | nil => rfl
  | cons a l ih => simp only [flatD, List.flatMap_cons, List.length_append, List.length_cons] at ih ⊢; rw [ih]; simp [DC.cells]; omega
theorem flatD_get (l : List DC) (k : Nat) (hk : k < l.length) : (flatD l)[k * 3]? = some (.string ⟨l[k].text.toArray⟩) ∧ (flatD l)[k * 3 + 1]? = some (.int .i64 l[k].kind) ∧ (flatD l)[k * 3 + 2]? = some (.int .i64 l[k].num) := by
  induction l generalizing k with
  | nil => simp at hk
  | cons a l ih =>
    cases k with
    | zero => simp [flatD, DC.cells]
    | succ k =>
      have := ih k (by simpa using hk)
      have e0 : (k + 1) * 3 = 3 + k * 3 := by omega
      have hc : (DC.cells a).length = 3 := rfl
      simp only [flatD, List.flatMap_cons, e0, Nat.add_assoc, List.getElem_cons_succ] at this ⊢
      refine ⟨?_, ?_, ?_⟩
      · rw [List.getElem?_append_right (by rw [hc]; omega), hc]; simpa using this.1
      · rw [List.getElem?_append_right (by rw [hc]; omega), hc, show 3 + (k * 3 + 1) - 3 = k * 3 + 1 by omega]; exact this.2.1
      · rw [List.getElem?_append_right (by rw [hc]; omega), hc, show 3 + (k * 3 + 2) - 3 = k * 3 + 2 by omega]; exact this.2.2

/-- the resolver in memory -/
structure RvAt (n0 : Nat) (w : World) (vb : Nat) (hv : Value) (r : RV) : Prop where
  cells : w.heap[vb]? = some (.cells #[hv, .int .i64 r.next, .int .i64 r.line] 121)
  own : w.ownsRow 0 118 3 hv r.hold.length (flatD r.hold)
  ge : n0 ≤ vb
  hge : ∀ g, hv.ownBlock = some g → n0 ≤ g ∧ g ≠ vb

theorem RvAt.frame {n0 : Nat} {w w' : World} {vb : Nat} {hv : Value} {r : RV} (h : RvAt n0 w vb hv r) (h1 : w'.heap[vb]? = w.heap[vb]?) (h2 : ∀ g, hv.ownBlock = some g → w'.heap[g]? = w.heap[g]?) : RvAt n0 w' vb hv r :=
  ⟨by rw [h1]; exact h.cells, ownsRow_frame h.own h2, h.ge, h.hge⟩

set_option maxHeartbeats 1000000 in
theorem nearest_any (n0 : Nat) (w : World) (vb : Nat) (hv : Value) (r : RV) (h : RvAt n0 w vb hv r) (t : Bs) (hpos : 0 < r.hold.length) (hlim : r.hold.length ≤ 100000) :
    Calls Tryz.prog 160 #[.pointer (some ⟨vb, 0, none⟩), .string ⟨t.toArray⟩] w fun e w' => e = .returned (.agg #[.string ⟨(nearestF r.hold t).text.toArray⟩, .int .i64 (nearestF r.hold t).kind, .int .i64 (nearestF r.hold t).num]) ∧ Below w.heap.size w w' := by
  have hlv := lt_of_at h.cells
  rcases h.own.2 with ⟨_, h0⟩ | ⟨g, cap, cur, rfl, _, hg, hc1, hc2, hc3, hc4⟩
  · omega
  have hlg := lt_of_at hg
  have hcell : ∀ k (hk : k < r.hold.length), w.cell? ⟨g, k * 3, none⟩ = some (.string ⟨r.hold[k].text.toArray⟩) ∧ w.cell? ⟨g, k * 3 + 1, none⟩ = some (.int .i64 r.hold[k].kind) ∧ w.cell? ⟨g, k * 3 + 2, none⟩ = some (.int .i64 r.hold[k].num) := by
    intro k hk
    have := flatD_get r.hold k hk
    exact ⟨ownsRow_cell hg hc4 this.1, ownsRow_cell hg hc4 this.2.1, ownsRow_cell hg hc4 this.2.2⟩
  have cv0 : ∀ o, (w.alloc o).cell? ⟨vb, 0, none⟩ = some (.slice (some ⟨g, 0, none⟩) r.hold.length cap) := fun o => cell_at (at_alloc h.cells o) 0
  have Hcell : Hid (∀ (o : Obj) k (hk : k < r.hold.length), (w.alloc o).cell? ⟨g, k * 3, none⟩ = some (.string ⟨r.hold[k].text.toArray⟩) ∧ (w.alloc o).cell? ⟨g, k * 3 + 1, none⟩ = some (.int .i64 r.hold[k].kind) ∧ (w.alloc o).cell? ⟨g, k * 3 + 2, none⟩ = some (.int .i64 r.hold[k].num)) := by
    intro o k hk
    have h1 : ∀ i, (w.alloc o).cell? ⟨g, i, none⟩ = w.cell? ⟨g, i, none⟩ := fun i => by rw [cell_at (at_alloc hg o), cell_at hg]
    rw [h1, h1, h1]; exact hcell k hk
  generalize hN : nearestF r.hold t = N
  have HN := hide hN
  clear h hg hc4 hcell hN
  go_enter Tryz.func160, Tryz.ntmps160
  go_wp2_with fail
  go_loop [5] (fun i => ∃ k : Nat, k ≤ r.hold.length ∧ i = .int .i64 ((k : Int) - 1) ∧ ∀ j, k ≤ j → (hj : j < r.hold.length) → (r.hold[j].text == t) = false) (fun i => (intOf i + 1).toNat)
  case atStart => exact ⟨r.hold.length, Nat.le_refl _, rfl, fun j h1 h2 => by omega⟩
  case round =>
    obtain ⟨k, hk, rfl, hall⟩ := hrel
    have Hall := hide hall
    clear hall
    cases k with
    | zero =>
      have e1 : N = ⟨[], 0, 0⟩ := by rw [← HN.out]; exact nearest_none _ _ (fun j hj => Hall.out j (Nat.zero_le _) hj)
      go_wp2_with fail
      subst e1
      refine bodyPost_ret (v := .agg #[.string ⟨#[]⟩, .int .i64 0, .int .i64 0]) (by simp [results, Tryz.results160, go_sem]) rfl ⟨rfl, (Below.refl _ _).alloc (Nat.le_refl _) _⟩
    | succ k =>
      have hk1 : k < r.hold.length := by omega
      have e2 : ((k + 1 : Nat) : Int) - 1 = (k : Int) := by omega
      rw [e2]
      have hkl : (k : Int) < (r.hold.length : Int) := by omega
      obtain ⟨d0, d1, d2⟩ := Hcell.out (.cells #[.string ⟨#[]⟩, .int .i64 0, .int .i64 0] 118) k hk1
      by_cases hf : (r.hold[k].text == t) = true
      · have e1 : N = r.hold[k] := by rw [← HN.out]; exact nearest_take _ _ k hk1 hf (fun j h1 h2 => Hall.out j (by omega) h2)
        subst e1
        go_wp2_with fail
        refine bodyPost_ret (v := .agg #[.string ⟨r.hold[k].text.toArray⟩, .int .i64 r.hold[k].kind, .int .i64 r.hold[k].num]) (by simp [results, Tryz.results160, go_sem]) rfl ⟨rfl, ?_⟩
        exact (Below.refl _ _).alloc (Nat.le_refl _) _
      · have hf' : (r.hold[k].text == t) = false := by simpa using hf
        go_wp2_with fail
        go_round
        case rel =>
          refine ⟨k, by omega, rfl, fun j h1 h2 => ?_⟩
          by_cases e : j = k
          · subst e; exact hf'
          · exact Hall.out j (by omega) h2
        case measure => simp [intOf]
end Go.Proofs.YtijcgaebpplngaaGreatDoor
