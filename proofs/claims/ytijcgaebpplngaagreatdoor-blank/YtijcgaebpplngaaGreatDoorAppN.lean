import Derived.Test.YtijcgaebpplngaaGreatDoorHeapT
namespace Go.Proofs.YtijcgaebpplngaaGreatDoor
open Go.RowKit

theorem add_at (g j : Nat) : (⟨g, 0, none⟩ : Addr).add j = ⟨g, j, none⟩ := by cases j <;> simp [Addr.add]

/-- one element of several cells appended to a row of one's own: in place, or into a new block -/
theorem run_appendN {P : Program} {t e : TypeId} {z : Value} {size bytes : Nat} (hsz : 0 < size) (ht : P.underlying t = some (.slice e)) (hi : (P.info? e).map (fun i => (i.zero, i.size, i.bytes)) = some (some z, size, bytes)) (hzs : z.cells.size = size) (hby : bytes ≤ 64)
    (w : World) (ty : TypeId) (v : Value) (n : Nat) (xs : List Value) (hown : w.ownsRow 0 e size v n xs) (a : Addr) (c : Nat) (news : List Value) (hl : news.length = size) (hnews : ∀ (j : Nat) (u : Value), news[j]? = some u → w.cell? (a.add j) = some u) (hone : ∀ u ∈ news, u.oneCell' = true) (hn : n ≤ 100000) :
    ∃ v' w', (Builtin.append_ #[t, t] ty #[v, .slice (some a) 1 c]).run P w = .ok v' w' ∧ w'.ownsRow 0 e size v' (n + 1) (xs ++ news) ∧ w.grownBy w' v.ownBlock ∧ (v'.ownBlock = v.ownBlock ∨ ∃ g, v'.ownBlock = some g ∧ w.heap.size ≤ g) := by
  obtain ⟨i, hi1, hz, hisz, hb⟩ := info_of hi
  have hm : n + 1 ≤ maxLen := by unfold maxLen; omega
  have hbb : ((n + 1) + (n + 1) / 4 + 192) * bytes ≤ 281474976710656 := by
    have h2 : ((n + 1) + (n + 1) / 4 + 192) * bytes ≤ 200000 * 64 := Nat.mul_le_mul (by omega) hby
    omega
  obtain ⟨v', w', hr, h2, h3, _⟩ := run_append_own_wide (P := P) w 0 t ty e i z size bytes ht hi1 hz hisz hb hzs hsz v n xs hown a 1 c news (by omega) hnews hone hm hbb (Nat.zero_le _)
  refine ⟨v', w', hr, h2, h3, ?_⟩
  have hs : Src P i.size t (.slice (some a) 1 c) 1 news w := Src.ofSlice w ht a 1 c news (by rw [hisz]; omega) hnews hone
  rcases hown.2 with ⟨rfl, rfl⟩ | ⟨g, cap, cur, rfl, _, hg, hc1, hc2, hc3, hc4⟩
  · have := run_append_grow_src (P := P) w t t ty e i z ht hi1 hz none 0 0 [] (run_firstCells_none w.drew i.size 0 0 0) (.slice (some a) 1 c) 1 news hs (by omega) (by omega) (by rw [hb]; exact growslice_fits_wide (by omega) (by simpa using hbb))
    rw [hr] at this
    injection this with h4 _
    right
    exact ⟨w.heap.size, by rw [h4]; rfl, Nat.le_refl _⟩
  · by_cases hroom : n + 1 ≤ cap
    · have hin : (n + 1) * size ≤ cap * size := Nat.mul_le_mul_right _ hroom
      have := run_append_room_src (P := P) w t t ty e i ht hi1 g 0 n cap (.slice (some a) 1 c) 1 news hs hroom (by
        intro j hj
        rw [cell_at hg, hisz]
        have : 0 + n * size + j < cur.size := by rw [hc3]; rw [Nat.add_mul] at hin; omega
        rw [Array.getElem?_eq_getElem this]; rfl) (by
        intro j hj
        exact frozen_at hg _)
      rw [hr] at this
      injection this with h4 _
      left; rw [h4]; rfl
    · have hold : (Builtin.firstCells i.size n (.slice (some ⟨g, 0, none⟩) n cap)).run P w.drew = .ok xs.toArray w.drew := by
        refine run_firstCells_some w.drew i.size n ⟨g, 0, none⟩ n cap xs (by rw [hisz]; exact hown.1) ?_
        intro j u hu
        have := ownsRow_cell (n := n * size) hg hc4 hu
        rw [add_at]
        exact this
      have := run_append_grow_src (P := P) w t t ty e i z ht hi1 hz (some ⟨g, 0, none⟩) n cap xs hold (.slice (some a) 1 c) 1 news hs (by omega) (by omega) (by rw [hb]; exact growslice_fits_wide (by omega) hbb)
      rw [hr] at this
      injection this with h4 _
      right
      exact ⟨w.heap.size, by rw [h4]; rfl, Nat.le_refl _⟩
end Go.Proofs.YtijcgaebpplngaaGreatDoor
