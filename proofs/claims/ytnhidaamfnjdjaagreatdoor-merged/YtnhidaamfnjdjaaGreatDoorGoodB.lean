import Derived.Test.YtnhidaamfnjdjaaGreatDoorShaF
import Derived.Test.YtnhidaamfnjdjaaGreatDoorGoodA
/- EVERY TEXT IS GOOD: so that Check's contract asks nothing. -/
namespace Go.Proofs.YtnhidaamfnjdjaaGreatDoor
open Go.RowKit Go.Maps

theorem parseF_done_iff (text : Bs) (ls : List Bs) (s : PS) (h : (parseF text ls).1 = some s) : text.length ≤ 800 ∧ s = upTo ls ls.length ∧ s.complete 0 = true := by
  unfold parseF at h
  split at h
  · cases h
  · rename_i h1
    split at h
    · cases h
    · split at h
      · rename_i h2
        injection h with h
        subst h
        exact ⟨by omega, rfl, h2⟩
      · cases h

theorem Walked.up {s : PS} {E par : Nat → Nat} (h : Walked s E par) : Up s.nodes := by
  intro i k hk
  rcases Nat.lt_or_ge i s.nodes.length with x | x
  · have h1 := (h.row i x).mem k hk
    have h2 := h.top i x
    omega
  · rw [getD_ge _ _ _ x] at hk; simp [default] at hk

theorem root_in {s : PS} {E par : Nat → Nat} (h : Walked s E par) (hp : 0 < (s.at 0).kids.length) : 0 < rootOf s ∧ rootOf s < s.nodes.length := by
  have hm : rootOf s ∈ (s.at 0).kids := by
    unfold rootOf; rw [getD_lt _ _ _ hp]; exact List.getElem_mem hp
  exact h.up 0 _ hm

theorem Good_any (text : Bs) : Good text := by
  intro s hs
  obtain ⟨hl, rfl, hc⟩ := parseF_done_iff _ _ _ hs
  have hlen : (upTo (linesF text) (linesF text).length).nodes.length ≤ 802 := by
    have h1 := upTo_len (linesF text) (linesF text).length
    have h2 := linesF_len text
    omega
  have hr := (root_lt _ _ hc).1
  have hok := upTo_ok (linesF text) (linesF text).length
  have hin := upTo_in (linesF text) (linesF text).length
  obtain ⟨E, par, hw⟩ := upTo_walked (linesF text) (linesF text).length
  generalize upTo (linesF text) (linesF text).length = s at *
  have hroot := root_in hw hr
  refine ⟨hw.up, hroot.2, by omega, ?_, ?_⟩
  · intro i
    rcases Nat.lt_or_ge i s.nodes.length with x | x
    · rw [getD_lt _ _ _ x]
      have := hok.few _ (List.getElem_mem x)
      omega
    · rw [getD_ge _ _ _ x]; simp [default]
  · intro i
    have hE := hw.top _ hroot.2
    have hn : ∀ i, NIn (s.nodes.getD i default) := by
      intro i
      rcases Nat.lt_or_ge i s.nodes.length with x | x
      · rw [getD_lt _ _ _ x]; exact hin _ (List.getElem_mem x)
      · rw [getD_ge _ _ _ x]; exact NIn.dflt
    have g := nameF_in s.nodes E hw.row hw.top s.nodes.length (startR, s.nodes) (rootOf s) (SameShape.refl _) hroot.2 ⟨hn, by
      intro d hd
      simp only [startR, List.mem_cons, List.not_mem_nil, or_false] at hd
      rcases hd with rfl | rfl
      · exact ⟨by decide, by decide⟩
      · exact ⟨by decide, by decide⟩, by show (0 : Int) ≤ 3; decide⟩ (by show (3 : Int) + _ ≤ 2000; omega)
    exact ownU_in _ (g.1.nodes i)

theorem Check_all (text : Bs) (w : World) (hs : text.length ≤ 9223372036854775807) (m : Int) (hm : w.cell? ⟨0, 0, none⟩ = some (.int .i64 m)) :
    Calls Tryz.prog 13 #[.string ⟨text.toArray⟩] w fun e w' => e = .returned (.tuple #[.int .i64 (checkF text).1, .int .i64 (checkF text).2]) ∧ Below w.heap.size w w' := Check_any text w hs m hm (Good_any text)
end Go.Proofs.YtnhidaamfnjdjaaGreatDoor
