import Derived.Test.YtnhidaamfnjdjaaGreatDoorRowK
import Derived.Test.YtnhidaamfnjdjaaGreatDoorBlnB
namespace Go.Proofs.YtnhidaamfnjdjaaGreatDoor
open Go.ChangeShapes Go.WideShapes Go.ChangeAt Go.WideMaps Go.WideElems Go.RowKit

theorem laidOut : laidOutB Tryz.prog = true := by kernel_rfl

set_option maxRecDepth 100000 in
theorem blank_lifted (os : Os) (started : os.Started) (H : Type) (enc : TypeId × Value → H) :
    ReturnsInHanded {} Tryz.checked os 7 .any (fun w args => (Rows.blankSpec.pre enc Tryz.prog Tryz.f7 [] false w args ∧ laidMetH Tryz.prog Rows.blankRow.laid w) ∧ sizedMet enc Tryz.prog Tryz.f7 (OpenSpec.ofChange Rows.blankSpec) false w args)
      (Rows.blankSpec.post enc Tryz.prog Tryz.f7 false true false false) := by
  refine handed_shaped (C := Tryz.checked) (X := fun w _ => laidMetH Tryz.prog Rows.blankRow.laid w) own started (by kernel_rfl) Tryz.func7
    (ChangeSpec.witness_shaped (enc := enc) (C := Tryz.checked) (os := os) (X := fun w _ => laidMetH Tryz.prog Rows.blankRow.laid w) false (World.laidAll Tryz.prog os Rows.blankRow.laid) #[.slice none 0 0, .int .i64 0, .int .i64 0, .int .i64 0] 8 (World.laidAll_os _ _ _)
      (World.shaped_of_ZipB (by kernel_rfl) (by kernel_rfl)) (by kernel_rfl) (by kernel_rfl) (by kernel_rfl)
      (by rw [MakeChecks.laidMetH_plain _ _ _ (by kernel_rfl)]; exact laidMet_laidAll _ (by kernel_rfl) (by kernel_rfl))) ?_
  intro W base args ds gs before hval0 hW hsh0
  have hsh : W.ShapedOpen Tryz.prog := hsh0
  have hval : ∀ (j : Nat) t v, Tryz.f7.params[j]? = some t → args[j]? = some v → Value.okWide Tryz.prog W .any base t v := hval0
  have hW' := hW
  obtain ⟨p, q, hA0, hV, rfl, hfz, hnd⟩ := hW
  have hA : DataW.TrodAll enc Tryz.prog W 0 (fun _ => true) true Tryz.f7.params.toList args.toList ds p := hA0
  rw [Tryz.params7] at hA hval
  obtain ⟨v0, vs0, d0, ds0, p0, q0, hargs, rfl, rfl, h0, r0⟩ := trodAll_cons hA
  obtain ⟨v1, vs1, d1, ds1, p1, q1, rfl, rfl, rfl, h1, r1⟩ := trodAll_cons r0
  obtain ⟨v2, vs2, d2, ds2, p2, q2, rfl, rfl, rfl, h2, r2⟩ := trodAll_cons r1
  obtain ⟨v3, vs3, d3, ds3, p3, q3, rfl, rfl, rfl, h3, r3⟩ := trodAll_cons r2
  obtain ⟨rfl, rfl, rfl⟩ := trodAll_nil r3
  obtain rfl : args = #[v0, v1, v2, v3] := by cases args; simp_all
  obtain ⟨rfl, rfl⟩ := trodVars_none hV
  obtain ⟨x1, rfl, rfl, rfl, w1⟩ := open_int Tryz.underlying3 (hval 1 3 v1 rfl rfl) h1
  obtain ⟨x2, rfl, rfl, rfl, w2⟩ := open_int Tryz.underlying3 (hval 2 3 v2 rfl rfl) h2
  obtain ⟨x3, rfl, rfl, rfl, w3⟩ := open_int Tryz.underlying3 (hval 3 3 v3 rfl rfl) h3
  clear hA0 hval0
  simp only [List.append_nil] at hW'
  obtain ⟨m, hm⟩ := maxLen_cell hsh
  obtain ⟨a0, len, cap, rfl⟩ := okWide_slice Tryz.underlying36 (hval 0 36 v0 rfl rfl)
  have h0k := h0
  obtain ⟨fuel, hf⟩ := h0
  have hlt : ∀ x ∈ p0, x.block < W.heap.size := fun x hx => by simpa using hW'.lt x hx
  have c3 : Tryz.prog.cellsOf 3 = 1 := by kernel_rfl
  have fin : ∀ (zs : List Int) (b off : Nat), zs.length = len → len ≤ 9223372036854775807 → (0 < zs.length → a0 = some ⟨b, off, none⟩) → (∀ j, j < zs.length → W.cell? ⟨b, off + j, none⟩ = some (.int .i64 (zs.getD j 0))) → (∀ z ∈ zs, (Lit.int .i64 z).wf = true) →
      Calls Tryz.checked.prog 7 #[.slice a0 len cap, .int .i64 x1, .int .i64 x2, .int .i64 x3] W fun e W' => ∃ v, e = Ending.returned v ∧ Rows.blankSpec.post enc Tryz.checked.prog Tryz.f7 false true false false W #[.slice a0 len cap, .int .i64 x1, .int .i64 x2, .int .i64 x3] v W' := by
    intro zs b off hzl hle hoa hce hwz
    subst hzl
    have hbag := bag_any W a0 b off cap zs hle hoa hce (fun z hz => wf_i64 (hwz z hz))
    refine (Blank_any W (.slice a0 zs.length cap) zs (textI (bagI (rsOf zs))) rfl _ rfl hbag x1 x2 x3 (wf_i64 w1) (wf_i64 w2) (wf_i64 w3) m hm).mono fun e W' ⟨he, hb⟩ => ?_
    subst he
    refine ⟨_, rfl, _, _, _, [], p0 ++ ([] ++ ([] ++ ([] ++ []))), [], hW', trodAll_mk1 (shut_bool Tryz.underlying4 _), ?_, rfl, hb.frame _, fun h => by cases h⟩
    exact trodAll_cons_mk (Below.trod laidOut (by kernel_rfl) (of_decide_eq_true (by kernel_rfl)) h0k hb hlt) (trodAll_cons_mk (shut_int Tryz.underlying3 w1) (trodAll_cons_mk (shut_int Tryz.underlying3 w2) (trodAll_mk1 (shut_int Tryz.underlying3 w3))))
  rcases open_ints Tryz.underlying36 Tryz.underlying3 c3 hf with ⟨hcs, hx⟩ | ⟨a, len', cap', zs, hcs, _, hl, hmx, hz, hx, hcell, hwz⟩
  · simp [Value.cells] at hcs
    obtain ⟨rfl, rfl, rfl⟩ := hcs
    exact fin [] 0 0 rfl (by decide) (fun h => by simp at h) (fun j hj => by simp at hj) (fun z hz => by simp at hz)
  · simp [Value.cells] at hcs
    obtain ⟨rfl, rfl, rfl⟩ := hcs
    simp only [if_true] at hz
    have hmx' : cap ≤ 9223372036854775807 := by unfold maxLen at hmx; omega
    by_cases hl0 : len = 0
    · subst hl0
      exact fin [] 0 0 rfl (by omega) (fun h => by simp at h) (fun j hj => by simp at hj) (fun z hz => by simp at hz)
    · obtain ⟨b, off, rfl, hc2⟩ := ints_at hcell (by omega)
      refine fin (zs.take len) b off (by rw [List.length_take]; omega) (by omega) (fun _ => rfl) ?_ (fun z hz' => hwz z (List.mem_of_mem_take hz'))
      intro j hj
      rw [List.length_take] at hj
      rw [hc2 j (by omega)]
      congr 2
      simp [List.getD, List.getElem?_take]
      rw [if_pos (by omega)]

theorem blank_holds : Rows.BlankSaid :=
  OpenClaim.holds_of_wide 7 Tryz.f7 rfl rfl rfl rfl rfl rfl rfl ⟨rfl, rfl, rfl, rfl, rfl⟩ rfl rfl rfl rfl rfl (by kernel_rfl) Tryz.func7 (by kernel_rfl)
    (of_decide_eq_true (by kernel_rfl)) (by unfold Func.isWrapper; first | (rw [if_pos (by decide +kernel)]; kernel_rfl) | (rw [if_neg (by decide +kernel)]; exact ⟨rfl, rfl⟩))
    (fun os started H enc _ => blank_lifted os started H enc)
end Go.Proofs.YtnhidaamfnjdjaaGreatDoor
