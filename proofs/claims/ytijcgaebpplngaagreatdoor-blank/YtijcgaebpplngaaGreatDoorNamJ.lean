import Derived.Test.YtijcgaebpplngaaGreatDoorNamI
namespace Go.Proofs.YtijcgaebpplngaaGreatDoor
open Go.RowKit

/-- what nobody owns stays -/
structure JunkKept (ρ : Nat → Role) (w w' : World) : Prop where
  os : w'.os = w.os
  tape : w'.tape = w.tape
  output : w'.output = w.output
  size : w.heap.size ≤ w'.heap.size
  block : ∀ k, k < w.heap.size → ρ k = .junk → w'.heap[k]? = w.heap[k]?

set_option maxHeartbeats 1000000 in
theorem Names_any (w : World) (ρ : Nat → Role) (ns : List PNode) (ms : List NM) (i : Nat) (m : NM) (h : TreeAt w ρ ns ms) (hi : i < ns.length) (hm : ms[i]? = some m) (hup : Up ns) (hN : ns.length ≤ 1000) :
    Calls Tryz.prog 38 #[.pointer (some ⟨m.blk, 0, none⟩)] w fun e w' => e = .returned (.int .i64 (nameF ns.length (startR, ns) i).1.line) ∧ TreeAt w' ρ (nameF ns.length (startR, ns) i).2 ms ∧ JunkKept ρ w w' := by
  have bA : Below w.heap.size w ((w.alloc (.cells #[.string ⟨#[105, 110]⟩, .int .i64 16, .int .i64 1, .string ⟨#[111, 117, 116]⟩, .int .i64 16, .int .i64 2] 118)).alloc (.cells #[.slice (some ⟨w.heap.size, 0, none⟩) 2 2, .int .i64 3, .int .i64 0] 121)) := ((Below.refl _ _).alloc (Nat.le_refl _) _).alloc (by simp) _
  have a1 := at_alloc (at_new w (.cells #[.string ⟨#[105, 110]⟩, .int .i64 16, .int .i64 1, .string ⟨#[111, 117, 116]⟩, .int .i64 16, .int .i64 2] 118)) (.cells #[.slice (some ⟨w.heap.size, 0, none⟩) 2 2, .int .i64 3, .int .i64 0] 121)
  have a2 := at_new (w.alloc (.cells #[.string ⟨#[105, 110]⟩, .int .i64 16, .int .i64 1, .string ⟨#[111, 117, 116]⟩, .int .i64 16, .int .i64 2] 118)) (.cells #[.slice (some ⟨w.heap.size, 0, none⟩) 2 2, .int .i64 3, .int .i64 0] 121)
  simp only [World.size_alloc] at a2
  have hA : NmAt w.heap.size ((w.alloc (.cells #[.string ⟨#[105, 110]⟩, .int .i64 16, .int .i64 1, .string ⟨#[111, 117, 116]⟩, .int .i64 16, .int .i64 2] 118)).alloc (.cells #[.slice (some ⟨w.heap.size, 0, none⟩) 2 2, .int .i64 3, .int .i64 0] 121)) ρ (w.heap.size + 1) (.slice (some ⟨w.heap.size, 0, none⟩) 2 2) startR ns ms := by
    refine ⟨h.frame bA.size (fun b _ hlt _ => ⟨bA.block b hlt, rfl⟩), ⟨a2, ?_, by omega, ?_⟩, ?_⟩
    · exact ⟨rfl, .inr ⟨w.heap.size, 2, _, rfl, Nat.zero_le _, a1, by decide, by decide, rfl, rfl⟩⟩
    · intro g hg
      simp [Value.ownBlock] at hg
      omega
    · intro j mj hj
      have hjl : j < ns.length := by
        rw [← h.len]
        rcases Nat.lt_or_ge j ms.length with h' | h'
        · exact h'
        · simp [List.getElem?_eq_none h'] at hj
      have hNj := h.at' j ns[j] mj (by simp [hjl]) hj
      exact ⟨lt_of_at hNj.cells, hNj.exlt, fun g hg => (hNj.own.lt g hg).2⟩
  have HA := hide hA; have Ba := hide bA; have Hup := hide hup
  clear hA bA a1 a2 h hup
  generalize hq : nameF ns.length (startR, ns) i = q
  have Hq := hide hq
  clear hq
  go_enter Tryz.func38, Tryz.ntmps38
  go_wp2_with fail
  refine (names_all ns.length w.heap.size _ ρ (w.heap.size + 1) _ startR ns ms i m HA.out hi hm Hup.out (by omega) (by decide) (by simp [startR]; omega)).mono ?_
  rw [Hq.out]
  rintro e w2 ⟨rfl, hv2, n2, rl2, f2⟩
  have c2 : w2.cell? ⟨w.heap.size + 1, 2, none⟩ = some (.int .i64 q.1.line) := cell_at n2.rv.cells 2
  have N2 := hide n2; have F2 := hide f2
  clear n2 f2 rl2
  go_wp2
  go_ret
  refine ⟨rfl, N2.out.tree, ⟨F2.out.os, F2.out.tape, F2.out.output, Nat.le_trans Ba.out.size F2.out.size, ?_⟩⟩
  intro k hk hj
  rw [F2.out.block k (by have := Ba.out.size; omega) (fun _ => hj) (by omega) (by simp [Value.ownBlock]; omega)]
  exact Ba.out.block k hk
end Go.Proofs.YtijcgaebpplngaaGreatDoor
