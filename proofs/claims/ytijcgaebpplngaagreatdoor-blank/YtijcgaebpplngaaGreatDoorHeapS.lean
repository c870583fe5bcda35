import Derived.Test.YtijcgaebpplngaaGreatDoorPure
import Derived.Test.YtijcgaebpplngaaGreatDoorNamJ
namespace Go.Proofs.YtijcgaebpplngaaGreatDoor
open Go.RowKit Go.Maps

theorem law3 : Keyed Tryz.prog 3 := int_keyed Tryz.underlying3
theorem zeroUse (w : World) : (zeroValue 223).run Tryz.prog w = .ok (.int .i64 0) w := by kernel_rfl

theorem ownsMap_shrink {w : World} {R : Value → Option (DataW Unit × List MemPlace)} {b n K : Nat} {D : DataW Unit} (h : w.ownsMap Tryz.prog 3 R b n D) (hk : ∀ k, has D k = true → ∃ a : Int, k = .int .i64 a ∧ 0 ≤ a ∧ a < (K : Int)) : w.ownsMap Tryz.prog 3 R b K D := by
  obtain ⟨ds, e1, e2, e3⟩ := h.entries law3
  obtain ⟨es, clock, h1, h2, h3, h4⟩ := h
  refine ⟨es, clock, h1, h2, ?_, h4⟩
  have hl : es.size = ds.length := by
    rw [e1] at h4
    injection h4 with h4
    rw [h4, length_sorted]; simp
  rw [hl]
  subst e1
  let f : Lit × DataW Unit → Int := fun p => match p.1 with | .int _ a => a | _ => 0
  have hf : ∀ p ∈ ds, p.1 = .int .i64 (f p) ∧ 0 ≤ f p ∧ f p < (K : Int) := by
    intro p hp
    obtain ⟨a, ha, hb⟩ := hk p.1 (by
      rw [has_eq, List.any_eq_true]
      refine ⟨p, hp, ?_⟩
      have := e3 p hp
      cases hq : p.1 <;> simp_all [WideAt.IsKeyLit, Lit.sameKey])
    have : f p = a := by simp only [f]; rw [ha]
    rw [this]; exact ⟨ha, hb⟩
  have := few_below K (ds.map f) (by
    rw [List.pairwise_map]
    refine List.Pairwise.imp_of_mem ?_ e2
    intro p q hp hq hne e
    apply hne
    rw [(hf p hp).1, (hf q hq).1, e]) (by
    intro x hx
    obtain ⟨p, hp, rfl⟩ := List.mem_map.1 hx
    exact (hf p hp).2)
  simpa using this

/-- the map in block b: what is used, and how -/
def MapFn (w : World) (b : Nat) (U : Int → Nat) : Prop :=
  ∃ D : DataW Unit, w.ownsMap Tryz.prog 3 (plainElem Tryz.prog 223) b 2000 D ∧ (∀ k, D.atKey (.int .i64 k) (.lit (.int .i64 0)) = .lit (.int .i64 (U k))) ∧ (∀ k, has D k = true → ∃ a : Int, k = .int .i64 a ∧ 0 ≤ a ∧ a < 2000)
def MapIs (w : World) (b : Nat) (l : List (Int × Nat)) : Prop := MapFn w b (useAt l)

theorem MapIs.lt {w : World} {b : Nat} {l : List (Int × Nat)} (h : MapIs w b l) : b < w.heap.size := by
  obtain ⟨D, h, _⟩ := h; exact h.lt
theorem MapIs.frame {w w' : World} {b : Nat} {l : List (Int × Nat)} (h : MapIs w b l) (hf : w'.heap[b]? = w.heap[b]?) : MapIs w' b l := by
  obtain ⟨D, ⟨es, clock, h1, h2⟩, h3⟩ := h
  exact ⟨D, ⟨es, clock, by rw [hf]; exact h1, h2⟩, h3⟩
theorem MapIs.made (w : World) : MapIs (w.alloc (.map #[] 0)) w.heap.size [] :=
  ⟨.map [], (World.ownsMap_made w _ _ _).mono (Nat.zero_le _), fun _ => rfl, fun k h => by simp [has] at h⟩

theorem use_wf {a : Nat} (h : a < 16) : (Lit.int .i64 (a : Int)).wf = true := by
  simp [Lit.wf, IntKind.min, IntKind.max, IntKind.bits, IntKind.signed]; omega
theorem key_wf {a : Int} (h : 0 ≤ a ∧ a < 2000) : (Lit.int .i64 a).wf = true := by
  simp [Lit.wf, IntKind.min, IntKind.max, IntKind.bits, IntKind.signed]; omega

/-- one store -/
theorem mapFn_put {w' : World} {b n : Nat} {U U' : Int → Nat} {D : DataW Unit} {d : Int} {v : Nat} (hm : IsMap D) (hD : ∀ k, D.atKey (.int .i64 k) (.lit (.int .i64 0)) = .lit (.int .i64 (U k)))
    (hh : ∀ k, has D k = true → ∃ a : Int, k = .int .i64 a ∧ 0 ≤ a ∧ a < 2000) (hd : 0 ≤ d ∧ d < 2000) (hU : ∀ k, U' k = if d = k then v else U k) (h : w'.ownsMap Tryz.prog 3 (plainElem Tryz.prog 223) b n (D.put (.int .i64 d) (.lit (.int .i64 (v : Int))))) : MapFn w' b U' := by
  have hk : ∀ k, has (D.put (.int .i64 d) (.lit (.int .i64 (v : Int)))) k = true → ∃ a : Int, k = .int .i64 a ∧ 0 ≤ a ∧ a < 2000 := by
    intro k hk
    by_cases e : k = .int .i64 d
    · subst e; exact ⟨d, rfl, hd⟩
    · rw [has_put_other e] at hk; exact hh k hk
  refine ⟨_, ownsMap_shrink h hk, ?_, hk⟩
  intro k
  rw [hU k]
  by_cases e : d = k
  · subst e; rw [atKey_put_same hm (show WideAt.IsKeyLit (.int .i64 d) from trivial), if_pos rfl]
  · rw [atKey_put_other (by intro h; injection h with _ h; exact e h.symm), hD, if_neg e]
theorem mapFn_isMap {w : World} {b n : Nat} {D : DataW Unit} {R : Value → Option (DataW Unit × List MemPlace)} (h : w.ownsMap Tryz.prog 3 R b n D) : IsMap D := by
  obtain ⟨ds, e, _⟩ := h.canon law3; exact ⟨ds, e⟩
end Go.Proofs.YtijcgaebpplngaaGreatDoor
