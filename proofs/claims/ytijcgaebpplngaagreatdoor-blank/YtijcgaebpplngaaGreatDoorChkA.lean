import Derived.Test.YtijcgaebpplngaaGreatDoorShaI
namespace Go.Proofs.YtijcgaebpplngaaGreatDoor
open Go.RowKit Go.Maps

def namedF (s : PS) : RV × List PNode := nameF s.nodes.length (startR, s.nodes) (rootOf s)

/-- the program's Check -/
def checkF (text : Bs) : Int × Int :=
  match parseF text (linesF text) with
  | (some s, _, _) =>
    if (namedF s).1.line ≠ 0 then (4, (namedF s).1.line)
    else if (shareF (namedF s).2 (namedF s).2.length 0 (rootOf s)).2 ≠ 0 then (5, (shareF (namedF s).2 (namedF s).2.length 0 (rootOf s)).2)
    else (0, 0)
  | (none, e, l) => (e, l)

/-- what the table of a text keeps to -/
structure GoodP (s : PS) : Prop where
  up : Up s.nodes
  root : rootOf s < s.nodes.length
  few : s.nodes.length ≤ 1000
  kids : ∀ i, (s.nodes.getD i default).kids.length ≤ 1000
  uses : ∀ i, UseOk (ownU ((namedF s).2.getD i default))
def Good (text : Bs) : Prop := ∀ s, (parseF text (linesF text)).1 = some s → GoodP s

theorem parseF_code (text : Bs) (ls : List Bs) (h : (parseF text ls).1 = none) : (parseF text ls).2.1 ≠ 0 := by
  have key : ∀ n k j e, firstErr ls n k = some (j, e) → e ≠ 0 := by
    intro n
    induction n with
    | zero => intro k j e h; simp [firstErr] at h
    | succ n ih =>
      intro k j e h
      unfold firstErr at h
      split at h
      · rename_i h1; injection h with h; injection h with _ h; subst h; exact h1
      · exact ih _ _ _ h
  unfold parseF at h ⊢
  split
  · decide
  · rename_i h1
    rw [if_neg h1] at h
    split
    · rename_i k e hk; exact key _ _ _ _ hk
    · rename_i hk
      rw [hk] at h
      simp only at h
      split
      · rename_i h2; rw [if_pos h2] at h; cases h
      · show (2 : Int) ≠ 0
        decide

theorem parseF_some (text : Bs) (ls : List Bs) (s : PS) (h : (parseF text ls).1 = some s) : parseF text ls = (some s, 0, 0) := by
  unfold parseF at h ⊢
  split
  · rename_i h1; rw [if_pos h1] at h; cases h
  · rename_i h1
    rw [if_neg h1] at h
    split
    · rename_i hk; rw [hk] at h; cases h
    · rename_i hk
      rw [hk] at h
      simp only at h
      split
      · rename_i h2; rw [if_pos h2] at h; injection h with h; subst h; rfl
      · rename_i h2; rw [if_neg h2] at h; cases h

theorem text_any (text : Bs) (w : World) (hs : text.length ≤ 9223372036854775807) (m : Int) (hm : w.cell? ⟨0, 0, none⟩ = some (.int .i64 m)) : Calls Tryz.prog 37 #[.string ⟨text.toArray⟩] w (TextPost w text) := by
  by_cases h : text.length ≤ 800
  · exact text_short text w h m hm
  · exact text_long text w hs (by omega)

theorem below_of {ρ : Nat → Role} {w w1 w2 : World} (b : Below w.heap.size w w1) (j : JunkKept ρ w1 w2) (hj : ∀ k, k < w.heap.size → ρ k = .junk) : Below w.heap.size w w2 :=
  ⟨j.os.trans b.os, j.tape.trans b.tape, j.output.trans b.output, Nat.le_trans b.size j.size, fun k hk => (j.block k (Nat.lt_of_lt_of_le hk b.size) (hj k hk)).trans (b.block k hk)⟩
theorem below_grown {w w1 w2 : World} (b : Below w.heap.size w w1) (g : w1.grownBy w2 none) : Below w.heap.size w w2 :=
  ⟨g.os.trans b.os, g.tape.trans b.tape, g.output.trans b.output, Nat.le_trans b.size g.size, fun k hk => (g.block k (Nat.lt_of_lt_of_le hk b.size) (by simp)).trans (b.block k hk)⟩

set_option maxHeartbeats 2000000 in
theorem sread_any (text : Bs) (w : World) (hs : text.length ≤ 9223372036854775807) (m : Int) (hm : w.cell? ⟨0, 0, none⟩ = some (.int .i64 m)) (hg : Good text) :
    Calls Tryz.prog 25 #[.string ⟨text.toArray⟩] w fun e w' => ∃ v, e = .returned (.tuple #[v, .int .i64 (checkF text).1, .int .i64 (checkF text).2]) ∧ Below w.heap.size w w' := by
  have ht := text_any text w hs m hm
  unfold TextPost at ht
  generalize hC : checkF text = C
  unfold checkF at hC
  cases hp : (parseF text (linesF text)).1 with
  | none =>
    have hcode := parseF_code text (linesF text) hp
    generalize hP : parseF text (linesF text) = P at *
    obtain ⟨p, e, l⟩ := P
    simp only at hp hcode
    subst hp
    simp only at hC
    have Ht := hide ht
    clear ht hg hP
    go_enter Tryz.func25, Tryz.ntmps25
    go_wp2_with fail
    refine Ht.out.mono ?_
    rintro x w1 ⟨v, rfl, b1, _⟩
    have B1 := hide b1
    clear b1
    go_wp2
    go_ret3
    subst hC
    exact ⟨_, rfl, B1.out⟩
  | some s =>
    have hgd := hg s hp
    have hP := parseF_some text (linesF text) s hp
    rw [hP] at ht hC
    simp only at hC
    have hsh := nameF_keep s.nodes.length (startR, s.nodes) (rootOf s)
    have Ht := hide ht; have Hgd := hide hgd; have HC := hide hC; have Hsh := hide hsh.1
    clear ht hg hP hp hgd hC hsh
    go_enter Tryz.func25, Tryz.ntmps25
    go_wp2_with fail
    refine Ht.out.mono ?_
    rintro x w1 ⟨v, rfl, b1, h1⟩
    obtain ⟨ρ, ms, t1, j1, rfl⟩ := h1 s rfl
    obtain ⟨mr, hmr, _, hbr⟩ := t1.get Hgd.out.root
    rw [hbr]
    have hN := Names_any w1 ρ s.nodes ms (rootOf s) mr t1 Hgd.out.root hmr Hgd.out.up Hgd.out.few
    have HN := hide hN; have B1 := hide b1; have J1 := hide j1; have Hmr := hide hmr
    clear hN b1 j1 t1 h1 hmr hbr
    go_wp2_with fail
    refine HN.out.mono ?_
    rintro x w2 ⟨rfl, t2, j2⟩
    have hS := Share_any w2 ρ (namedF s).2 ms (rootOf s) mr t2 (by have := Hsh.out.len; unfold namedF; rw [this]; exact Hgd.out.root) Hmr.out (Hgd.out.up.shape Hsh.out) Hgd.out.uses (fun i => by
      have := Hsh.out.kids i
      unfold namedF; rw [this]; have := Hgd.out.kids i; omega)
    have B2 := hide (below_of B1.out j2 J1.out)
    have HS := hide hS
    clear hS t2 j2
    have e1 : nameF s.nodes.length (startR, s.nodes) (rootOf s) = namedF s := rfl
    rw [e1]
    clear e1
    generalize hl1 : (namedF s).1.line = l1 at *
    generalize hl2 : (shareF (namedF s).2 (namedF s).2.length 0 (rootOf s)).2 = l2 at *
    by_cases h1 : l1 = 0
    · subst h1
      by_cases h2 : l2 = 0
      · subst h2
        go_wp2_with (go_at_call 39; refine HS.out.mono ?_; rintro x w3 ⟨rfl, g3⟩; have B3 := hide (below_grown B2.out g3); clear g3)
        go_ret3
        have := HC.out
        simp at this
        subst this
        exact ⟨_, rfl, B3.out⟩
      · go_wp2_with (go_at_call 39; refine HS.out.mono ?_; rintro x w3 ⟨rfl, g3⟩; have B3 := hide (below_grown B2.out g3); clear g3)
        go_ret3
        have := HC.out
        simp [h2] at this
        subst this
        exact ⟨_, rfl, B3.out⟩
    · go_wp2_with fail
      go_ret3
      have := HC.out
      simp [h1] at this
      subst this
      exact ⟨_, rfl, B2.out⟩

theorem Check_any (text : Bs) (w : World) (hs : text.length ≤ 9223372036854775807) (m : Int) (hm : w.cell? ⟨0, 0, none⟩ = some (.int .i64 m)) (hg : Good text) :
    Calls Tryz.prog 9 #[.string ⟨text.toArray⟩] w fun e w' => e = .returned (.tuple #[.int .i64 (checkF text).1, .int .i64 (checkF text).2]) ∧ Below w.heap.size w w' := by
  have Hr := hide (sread_any text w hs m hm hg)
  clear hs hm hg
  go_enter Tryz.func9, Tryz.ntmps9
  go_wp2_with fail
  refine Hr.out.mono ?_
  rintro x w1 ⟨v, rfl, b1⟩
  have B1 := hide b1
  clear b1
  go_wp2
  go_ret2
  exact ⟨rfl, B1.out⟩
end Go.Proofs.YtijcgaebpplngaaGreatDoor
