import Derived.Test.YtnhidaamfnjdjaaGreatDoorMadH
import Derived.Test.YtnhidaamfnjdjaaGreatDoorMerB0
import Derived.Test.YtnhidaamfnjdjaaGreatDoorMerB1
import Derived.Test.YtnhidaamfnjdjaaGreatDoorMerB2
import Derived.Test.YtnhidaamfnjdjaaGreatDoorMerB3
import Derived.Test.YtnhidaamfnjdjaaGreatDoorMerB4
import Derived.Test.YtnhidaamfnjdjaaGreatDoorMerB5
/- MERGED: what told tells of each text. Written by wip/genmer.py. -/
namespace Go.Proofs.YtnhidaamfnjdjaaGreatDoor
open Go.RowKit Go.Maps

theorem four {a b c d : Bool} (h : (a && b && c && d) = true) : a = true ∧ b = true ∧ c = true ∧ d = true := by
  simp only [Bool.and_eq_true] at h
  exact ⟨h.1.1.1, h.1.1.2, h.1.2, h.2⟩
theorem me_all (p q g : Nat) (hp : p < 12) (hq : q < 12) (hg : g < 4) : meB p q g = true := by
  have key : meB p q 0 = true ∧ meB p q 1 = true ∧ meB p q 2 = true ∧ meB p q 3 = true := by
    have cp : p = 0 ∨ p = 1 ∨ p = 2 ∨ p = 3 ∨ p = 4 ∨ p = 5 ∨ p = 6 ∨ p = 7 ∨ p = 8 ∨ p = 9 ∨ p = 10 ∨ p = 11 := by omega
    have cq : q = 0 ∨ q = 1 ∨ q = 2 ∨ q = 3 ∨ q = 4 ∨ q = 5 ∨ q = 6 ∨ q = 7 ∨ q = 8 ∨ q = 9 ∨ q = 10 ∨ q = 11 := by omega
    rcases cp with rfl | rfl | rfl | rfl | rfl | rfl | rfl | rfl | rfl | rfl | rfl | rfl
    · rcases cq with rfl | rfl | rfl | rfl | rfl | rfl | rfl | rfl | rfl | rfl | rfl | rfl
      · exact four me_0_0
      · exact four me_0_1
      · exact four me_0_2
      · exact four me_0_3
      · exact four me_0_4
      · exact four me_0_5
      · exact four me_0_6
      · exact four me_0_7
      · exact four me_0_8
      · exact four me_0_9
      · exact four me_0_10
      · exact four me_0_11
    · rcases cq with rfl | rfl | rfl | rfl | rfl | rfl | rfl | rfl | rfl | rfl | rfl | rfl
      · exact four me_1_0
      · exact four me_1_1
      · exact four me_1_2
      · exact four me_1_3
      · exact four me_1_4
      · exact four me_1_5
      · exact four me_1_6
      · exact four me_1_7
      · exact four me_1_8
      · exact four me_1_9
      · exact four me_1_10
      · exact four me_1_11
    · rcases cq with rfl | rfl | rfl | rfl | rfl | rfl | rfl | rfl | rfl | rfl | rfl | rfl
      · exact four me_2_0
      · exact four me_2_1
      · exact four me_2_2
      · exact four me_2_3
      · exact four me_2_4
      · exact four me_2_5
      · exact four me_2_6
      · exact four me_2_7
      · exact four me_2_8
      · exact four me_2_9
      · exact four me_2_10
      · exact four me_2_11
    · rcases cq with rfl | rfl | rfl | rfl | rfl | rfl | rfl | rfl | rfl | rfl | rfl | rfl
      · exact four me_3_0
      · exact four me_3_1
      · exact four me_3_2
      · exact four me_3_3
      · exact four me_3_4
      · exact four me_3_5
      · exact four me_3_6
      · exact four me_3_7
      · exact four me_3_8
      · exact four me_3_9
      · exact four me_3_10
      · exact four me_3_11
    · rcases cq with rfl | rfl | rfl | rfl | rfl | rfl | rfl | rfl | rfl | rfl | rfl | rfl
      · exact four me_4_0
      · exact four me_4_1
      · exact four me_4_2
      · exact four me_4_3
      · exact four me_4_4
      · exact four me_4_5
      · exact four me_4_6
      · exact four me_4_7
      · exact four me_4_8
      · exact four me_4_9
      · exact four me_4_10
      · exact four me_4_11
    · rcases cq with rfl | rfl | rfl | rfl | rfl | rfl | rfl | rfl | rfl | rfl | rfl | rfl
      · exact four me_5_0
      · exact four me_5_1
      · exact four me_5_2
      · exact four me_5_3
      · exact four me_5_4
      · exact four me_5_5
      · exact four me_5_6
      · exact four me_5_7
      · exact four me_5_8
      · exact four me_5_9
      · exact four me_5_10
      · exact four me_5_11
    · rcases cq with rfl | rfl | rfl | rfl | rfl | rfl | rfl | rfl | rfl | rfl | rfl | rfl
      · exact four me_6_0
      · exact four me_6_1
      · exact four me_6_2
      · exact four me_6_3
      · exact four me_6_4
      · exact four me_6_5
      · exact four me_6_6
      · exact four me_6_7
      · exact four me_6_8
      · exact four me_6_9
      · exact four me_6_10
      · exact four me_6_11
    · rcases cq with rfl | rfl | rfl | rfl | rfl | rfl | rfl | rfl | rfl | rfl | rfl | rfl
      · exact four me_7_0
      · exact four me_7_1
      · exact four me_7_2
      · exact four me_7_3
      · exact four me_7_4
      · exact four me_7_5
      · exact four me_7_6
      · exact four me_7_7
      · exact four me_7_8
      · exact four me_7_9
      · exact four me_7_10
      · exact four me_7_11
    · rcases cq with rfl | rfl | rfl | rfl | rfl | rfl | rfl | rfl | rfl | rfl | rfl | rfl
      · exact four me_8_0
      · exact four me_8_1
      · exact four me_8_2
      · exact four me_8_3
      · exact four me_8_4
      · exact four me_8_5
      · exact four me_8_6
      · exact four me_8_7
      · exact four me_8_8
      · exact four me_8_9
      · exact four me_8_10
      · exact four me_8_11
    · rcases cq with rfl | rfl | rfl | rfl | rfl | rfl | rfl | rfl | rfl | rfl | rfl | rfl
      · exact four me_9_0
      · exact four me_9_1
      · exact four me_9_2
      · exact four me_9_3
      · exact four me_9_4
      · exact four me_9_5
      · exact four me_9_6
      · exact four me_9_7
      · exact four me_9_8
      · exact four me_9_9
      · exact four me_9_10
      · exact four me_9_11
    · rcases cq with rfl | rfl | rfl | rfl | rfl | rfl | rfl | rfl | rfl | rfl | rfl | rfl
      · exact four me_10_0
      · exact four me_10_1
      · exact four me_10_2
      · exact four me_10_3
      · exact four me_10_4
      · exact four me_10_5
      · exact four me_10_6
      · exact four me_10_7
      · exact four me_10_8
      · exact four me_10_9
      · exact four me_10_10
      · exact four me_10_11
    · rcases cq with rfl | rfl | rfl | rfl | rfl | rfl | rfl | rfl | rfl | rfl | rfl | rfl
      · exact four me_11_0
      · exact four me_11_1
      · exact four me_11_2
      · exact four me_11_3
      · exact four me_11_4
      · exact four me_11_5
      · exact four me_11_6
      · exact four me_11_7
      · exact four me_11_8
      · exact four me_11_9
      · exact four me_11_10
      · exact four me_11_11
  have cg : g = 0 ∨ g = 1 ∨ g = 2 ∨ g = 3 := by omega
  rcases cg with rfl | rfl | rfl | rfl
  · exact key.1
  · exact key.2.1
  · exact key.2.2.1
  · exact key.2.2.2
theorem meItems_ok (p q g : Nat) (hp : p < 12) (hq : q < 12) (hg : g < 4) : ∀ x ∈ meItems p q g, x.ok = true := by
  have whi : ∀ k, k < 12 → (meW1 k).ok = true := by decide +kernel
  have whk : ∀ k, k < 24 → (meW2 k).ok = true := by decide +kernel
  have one : ∀ g, g < 4 → ((⟨8, meOne g, meOneP g⟩ : Itm).ok && (⟨8, meTwo g, meTwoP g⟩ : Itm).ok) = true := by decide +kernel
  have o := one g hg
  rw [Bool.and_eq_true] at o
  intro x hx
  unfold meItems at hx
  simp only [List.mem_cons, List.not_mem_nil, or_false] at hx
  rcases hx with rfl | rfl | rfl | rfl | rfl | rfl | rfl | rfl | rfl | rfl | rfl | rfl | rfl | rfl | rfl | rfl | rfl | rfl | rfl | rfl | rfl | rfl | rfl
  · decide +kernel
  · decide +kernel
  · decide +kernel
  · decide +kernel
  · exact whi p hp
  · decide +kernel
  · decide +kernel
  · decide +kernel
  · decide +kernel
  · exact whi q hq
  · decide +kernel
  · decide +kernel
  · decide +kernel
  · decide +kernel
  · decide +kernel
  · exact whk (p + q) (by omega)
  · decide +kernel
  · decide +kernel
  · exact o.1
  · decide +kernel
  · exact o.2
  · decide +kernel
  · decide +kernel
theorem code_out {l : List (Nat × LP)} {C : CM} (h : codeI l = some C) : ∃ s, runI startP 0 l = some s ∧ s.complete 0 = true ∧ (namedF s).1.line = 0 ∧ (shareF (namedF s).2 (namedF s).2.length 0 (rootOf s)).2 = 0 ∧ C = makeF (namedF s).2 (rootOf s) := by
  unfold codeI at h
  cases hr : runI startP 0 l with
  | none => rw [hr] at h; cases h
  | some s =>
    rw [hr] at h
    dsimp only at h
    split at h
    · rename_i hc
      rw [Bool.and_eq_true, Bool.and_eq_true, beq_iff_eq, beq_iff_eq] at hc
      injection h with h
      exact ⟨s, rfl, hc.1.1, hc.1.2, hc.2, h.symm⟩
    · cases h
theorem check_of {text : Bs} {s : PS} (hp : parseF text (linesF text) = (some s, 0, 0)) (h1 : (namedF s).1.line = 0) (h2 : (shareF (namedF s).2 (namedF s).2.length 0 (rootOf s)).2 = 0) : checkF text = (0, 0) := by
  unfold checkF
  rw [hp]
  dsimp only
  rw [if_neg (by rw [h1]; decide), if_neg (by rw [h2]; decide)]
theorem runsC_out {ns : Bool} {C : CM} {steps : Int} {fuel : Nat} {f : MS → Bool} (h : runsC ns C steps fuel f = true) : ∃ r xr, runC ns C.code C.br steps fuel 0 (newF C) = some r ∧ r.2.stands = 2 ∧ okLens r.2 = true ∧ r.2.chans[1]? = some xr ∧ f r.2 = true := by
  unfold runsC at h
  cases hr : runC ns C.code C.br steps fuel 0 (newF C) with
  | none => rw [hr] at h; cases h
  | some r =>
    rw [hr] at h
    dsimp only at h
    rw [Bool.and_eq_true, Bool.and_eq_true, Bool.and_eq_true, beq_iff_eq, Nat.blt_eq] at h
    exact ⟨r, r.2.chans[1]'h.1.2, rfl, h.1.1.1, h.1.1.2, List.getElem?_eq_getElem h.1.2, h.2⟩
/-- what Merged asks of a text -/
theorem meTold (p q g : Nat) (hp : p < 12) (hq : q < 12) (hg : g < 4) (w : World) (m : Int) (hm : w.cell? ⟨0, 0, none⟩ = some (.int .i64 m)) (b : ByteArray) (hb : b = ⟨(itText (meItems p q g)).toArray⟩) :
    Calls Tryz.prog 22 #[.string b, .int .i64 400] w fun e w' => ∃ (out : List Int) (va : Option Addr) (cc : Nat), e = .returned (.tuple #[.slice va out.length cc, .bool true]) ∧ QAt w' 3 (.slice va out.length cc) (out.map intV) ∧ Below w.heap.size w w' ∧ meCount out 0 0 = some ((p : Int), (q : Int)) ∧ out.length < 1000 := by
  subst hb
  have h := me_all p q g hp hq hg
  unfold meB at h
  rw [Bool.and_eq_true, decide_eq_true_eq] at h
  obtain ⟨hl, h⟩ := h
  cases hC : codeI (meShape p q g) with
  | none => rw [hC] at h; cases h
  | some C =>
    rw [hC] at h
    obtain ⟨s, hr, hc, h1, h2, rfl⟩ := code_out hC
    obtain ⟨r, xr, hrun, hst, hok, hch, hf⟩ := runsC_out h
    rw [Bool.and_eq_true, beq_iff_eq, Nat.blt_eq] at hf
    have hps := parse_items (meItems p q g) (meItems_ok p q g hp hq hg) s hr hc hl
    refine (told_ok (ns := true) (itText (meItems p q g)) w (by omega) m hm s (by rw [hps]) (check_of hps h1 h2) hrun (by decide) hch hok (fun _ h => by cases h) (fun _ h => by cases h)).mono ?_
    rintro e w' ⟨va, cc, rfl, hq, hb⟩
    rw [hst]
    exact ⟨_, va, cc, rfl, hq, hb, hf.1, hf.2⟩
theorem meCount_at : ∀ (l : List Int) (a b p q : Int), meCount l a b = some (p, q) → a ≤ p ∧ b ≤ q
  | [], a, b, p, q, h => by
    have h : some (a, b) = some (p, q) := h
    injection h with h
    injection h with h1 h2
    omega
  | x :: l, a, b, p, q, h => by
    unfold meCount at h
    split at h
    · have := meCount_at l _ _ _ _ h; omega
    · split at h
      · have := meCount_at l _ _ _ _ h; omega
      · cases h
theorem meCount_drop (l : List Int) (k : Nat) (hk : k < l.length) (a b : Int) (r : Int × Int) (h : meCount (l.drop k) a b = some r) : (l.getD k 0 = a ∧ meCount (l.drop (k + 1)) (a + 1) b = some r) ∨ (l.getD k 0 ≠ a ∧ l.getD k 0 = b + 100 ∧ meCount (l.drop (k + 1)) a (b + 1) = some r) := by
  rw [List.drop_eq_getElem_cons hk] at h
  rw [getD_lt _ _ _ hk]
  unfold meCount at h
  split at h
  · rename_i e; exact .inl ⟨e, h⟩
  · rename_i e
    split at h
    · rename_i e2; exact .inr ⟨e, e2, h⟩
    · cases h
/-- the numbers that came are looked at -/
def meEnd (out : List Int) (va : Option Addr) (w1 : World) : Prop := ∀ k, k < out.length → ∃ g off, va = some ⟨g, off, none⟩ ∧ w1.cell? ⟨g, off + k, none⟩ = some (.int .i64 (out.getD k 0))
theorem meEnd_of {out : List Int} {va : Option Addr} {cc : Nat} {w1 : World} (h : QAt w1 3 (.slice va out.length cc) (out.map intV)) : meEnd out va w1 := by
  intro k hk
  obtain ⟨g, off, cap, hv, _, _, hc, _, _⟩ := h.shape (by rw [List.length_map]; omega)
  rw [Value.slice.injEq] at hv
  refine ⟨g, off, hv.1, hc k _ ?_⟩
  rw [List.getElem?_map, List.getElem?_eq_getElem hk, getD_lt _ _ _ hk]
  rfl
theorem cat_at {A : ByteArray} {T : Bs} (h : A = ⟨T.toArray⟩) (d : Nat) (s : Bs) : A ++ lnS d s = ⟨(T ++ kL d s).toArray⟩ := by rw [h]; unfold lnS; exact ba_append _ _
theorem cat_size {A : ByteArray} {d : Nat} {s : Bs} {n k : Nat} (h : A.size ≤ n) (hk : (lnS d s).size ≤ k) : (A ++ lnS d s).size ≤ n + k := by rw [ByteArray.size_append]; omega
end Go.Proofs.YtnhidaamfnjdjaaGreatDoor
/- MERGED: the law, walked, guards 0. Written by wip/genmer.py. -/
namespace Go.Proofs.YtnhidaamfnjdjaaGreatDoor
open Go.RowKit Go.Maps

set_option maxRecDepth 20000 in
set_option maxHeartbeats 8000000 in
theorem Merged_0 (x1 x2 x3 : Int) (r1 : -9223372036854775808 ≤ x1 ∧ x1 ≤ 9223372036854775807) (r2 : -9223372036854775808 ≤ x2 ∧ x2 ≤ 9223372036854775807) (r3 : -9223372036854775808 ≤ x3 ∧ x3 ≤ 9223372036854775807) (e3 : pickN x3 4 = 0) (w : World) (m : Int) (hm : w.cell? ⟨0, 0, none⟩ = some (.int .i64 m)) :
    Calls Tryz.prog 12 #[.int .i64 x1, .int .i64 x2, .int .i64 x3] w fun e w' => e = .returned (.bool true) ∧ Below w.heap.size w w' := by
  have hp := pickN_lt x1 12 (by decide)
  have hq := pickN_lt x2 12 (by decide)
  generalize e1 : pickN x1 12 = p at *
  generalize e2 : pickN x2 12 = q at *
  have P1 := hide (pickN_at x1 r1.1 r1.2 12 (by decide) (by decide) 12 rfl p e1)
  have P2 := hide (pickN_at x2 r2.1 r2.2 12 (by decide) (by decide) 12 rfl q e2)
  have P3 := hide (pickN_at x3 r3.1 r3.2 4 (by decide) (by decide) 4 rfl 0 e3)
  have T := hide (fun b hb => meTold p q 0 hp hq (by decide) w m hm b hb)
  have y1 := digK_size p
  have y2 := digK_size q
  have y3 := digK_size (p + q)
  have D1 := digK_len p
  have D2 := digK_len q
  have D3 := digK_len (p + q)
  clear e1 e2 e3 hm r1 r2 r3
  go_enter Tryz.func12, Tryz.ntmps12
  go_wp2_with fail
  refine (P1.out _).mono ?_
  rintro e wx ⟨rfl, hw⟩
  have hw := hw.symm
  subst hw
  go_wp2_with fail
  refine (P2.out _).mono ?_
  rintro e wx ⟨rfl, hw⟩
  have hw := hw.symm
  subst hw
  go_wp2_with fail
  refine (P3.out _).mono ?_
  rintro e wx ⟨rfl, hw⟩
  have hw := hw.symm
  subst hw
  go_wp2_with fail
  have z0 : (lnS 0 [99, 104, 97, 110, 32, 99]).size ≤ 60 := by rw [lnS_size]; decide
  refine (ln_at ⟨#[99, 104, 97, 110, 32, 99]⟩ [99, 104, 97, 110, 32, 99] rfl 0 0 rfl (by decide) (by decide) _).mono ?_
  rintro e wx ⟨rfl, hw⟩
  have hw := hw.symm
  subst hw
  go_wp2_with fail
  have E0 := hide (show lnS 0 [99, 104, 97, 110, 32, 99] = ⟨(kL 0 [99, 104, 97, 110, 32, 99]).toArray⟩ from rfl)
  generalize lnS 0 [99, 104, 97, 110, 32, 99] = A0 at *
  have z1 : (lnS 1 [99, 104, 97, 110, 32, 100]).size ≤ 60 := by rw [lnS_size]; decide
  refine (ln_at ⟨#[99, 104, 97, 110, 32, 100]⟩ [99, 104, 97, 110, 32, 100] rfl 1 1 rfl (by decide) (by decide) _).mono ?_
  rintro e wx ⟨rfl, hw⟩
  have hw := hw.symm
  subst hw
  go_wp2_with fail
  have E1 := hide (cat_at E0.out 1 [99, 104, 97, 110, 32, 100])
  have a1 := cat_size (n := 60) z0 z1
  generalize A0 ++ lnS 1 [99, 104, 97, 110, 32, 100] = A1 at *
  clear z1 E0
  have z2 : (lnS 2 [112, 97, 114]).size ≤ 60 := by rw [lnS_size]; decide
  refine (ln_at ⟨#[112, 97, 114]⟩ [112, 97, 114] rfl 2 2 rfl (by decide) (by decide) _).mono ?_
  rintro e wx ⟨rfl, hw⟩
  have hw := hw.symm
  subst hw
  go_wp2_with fail
  have E2 := hide (cat_at E1.out 2 [112, 97, 114])
  have a2 := cat_size (n := 120) a1 z2
  generalize A1 ++ lnS 2 [112, 97, 114] = A2 at *
  clear z2 E1 a1
  have z3 : (lnS 3 [118, 97, 114, 32, 105]).size ≤ 60 := by rw [lnS_size]; decide
  refine (ln_at ⟨#[118, 97, 114, 32, 105]⟩ [118, 97, 114, 32, 105] rfl 3 3 rfl (by decide) (by decide) _).mono ?_
  rintro e wx ⟨rfl, hw⟩
  have hw := hw.symm
  subst hw
  go_wp2_with fail
  have E3 := hide (cat_at E2.out 3 [118, 97, 114, 32, 105])
  have a3 := cat_size (n := 180) a2 z3
  generalize A2 ++ lnS 3 [118, 97, 114, 32, 105] = A3 at *
  clear z3 E2 a2
  refine (numK_any p (by omega) _).mono ?_
  rintro e wx ⟨rfl, hw⟩
  have hw := hw.symm
  subst hw
  go_wp2_with fail
  have z4 : (lnS 4 (119 :: 104 :: 105 :: 108 :: 101 :: 32 :: 105 :: 32 :: 60 :: 32 :: digK p)).size ≤ 60 := by rw [lnS_size]; simp; omega
  have hb4 : (⟨#[119, 104, 105, 108, 101, 32, 105, 32, 60, 32]⟩ ++ ⟨(digK p).toArray⟩ : ByteArray) = ⟨(119 :: 104 :: 105 :: 108 :: 101 :: 32 :: 105 :: 32 :: 60 :: 32 :: digK p).toArray⟩ := ba_append [119, 104, 105, 108, 101, 32, 105, 32, 60, 32] (digK p)
  have hl4 : (119 :: 104 :: 105 :: 108 :: 101 :: 32 :: 105 :: 32 :: 60 :: 32 :: digK p).length ≤ 1000 := by simp; omega
  have KK4 := hide (ln_at (⟨#[119, 104, 105, 108, 101, 32, 105, 32, 60, 32]⟩ ++ ⟨(digK p).toArray⟩) (119 :: 104 :: 105 :: 108 :: 101 :: 32 :: 105 :: 32 :: 60 :: 32 :: digK p) hb4 4 4 rfl (by decide) hl4)
  clear hb4 hl4
  refine (KK4.out _).mono ?_
  clear KK4
  rintro e wx ⟨rfl, hw⟩
  have hw := hw.symm
  subst hw
  go_wp2_with fail
  have E4 := hide (cat_at E3.out 4 (119 :: 104 :: 105 :: 108 :: 101 :: 32 :: 105 :: 32 :: 60 :: 32 :: digK p))
  have a4 := cat_size (n := 240) a3 z4
  generalize A3 ++ lnS 4 (119 :: 104 :: 105 :: 108 :: 101 :: 32 :: 105 :: 32 :: 60 :: 32 :: digK p) = A4 at *
  clear z4 E3 a3
  have z5 : (lnS 5 [115, 101, 113]).size ≤ 60 := by rw [lnS_size]; decide
  refine (ln_at ⟨#[115, 101, 113]⟩ [115, 101, 113] rfl 5 5 rfl (by decide) (by decide) _).mono ?_
  rintro e wx ⟨rfl, hw⟩
  have hw := hw.symm
  subst hw
  go_wp2_with fail
  have E5 := hide (cat_at E4.out 5 [115, 101, 113])
  have a5 := cat_size (n := 300) a4 z5
  generalize A4 ++ lnS 5 [115, 101, 113] = A5 at *
  clear z5 E4 a4
  have z6 : (lnS 6 [99, 32, 33, 32, 105]).size ≤ 60 := by rw [lnS_size]; decide
  refine (ln_at ⟨#[99, 32, 33, 32, 105]⟩ [99, 32, 33, 32, 105] rfl 6 6 rfl (by decide) (by decide) _).mono ?_
  rintro e wx ⟨rfl, hw⟩
  have hw := hw.symm
  subst hw
  go_wp2_with fail
  have E6 := hide (cat_at E5.out 6 [99, 32, 33, 32, 105])
  have a6 := cat_size (n := 360) a5 z6
  generalize A5 ++ lnS 6 [99, 32, 33, 32, 105] = A6 at *
  clear z6 E5 a5
  have z7 : (lnS 6 [105, 32, 58, 61, 32, 105, 32, 43, 32, 49]).size ≤ 60 := by rw [lnS_size]; decide
  refine (ln_at ⟨#[105, 32, 58, 61, 32, 105, 32, 43, 32, 49]⟩ [105, 32, 58, 61, 32, 105, 32, 43, 32, 49] rfl 6 6 rfl (by decide) (by decide) _).mono ?_
  rintro e wx ⟨rfl, hw⟩
  have hw := hw.symm
  subst hw
  go_wp2_with fail
  have E7 := hide (cat_at E6.out 6 [105, 32, 58, 61, 32, 105, 32, 43, 32, 49])
  have a7 := cat_size (n := 420) a6 z7
  generalize A6 ++ lnS 6 [105, 32, 58, 61, 32, 105, 32, 43, 32, 49] = A7 at *
  clear z7 E6 a6
  have z8 : (lnS 3 [118, 97, 114, 32, 105]).size ≤ 60 := by rw [lnS_size]; decide
  refine (ln_at ⟨#[118, 97, 114, 32, 105]⟩ [118, 97, 114, 32, 105] rfl 3 3 rfl (by decide) (by decide) _).mono ?_
  rintro e wx ⟨rfl, hw⟩
  have hw := hw.symm
  subst hw
  go_wp2_with fail
  have E8 := hide (cat_at E7.out 3 [118, 97, 114, 32, 105])
  have a8 := cat_size (n := 480) a7 z8
  generalize A7 ++ lnS 3 [118, 97, 114, 32, 105] = A8 at *
  clear z8 E7 a7
  refine (numK_any q (by omega) _).mono ?_
  rintro e wx ⟨rfl, hw⟩
  have hw := hw.symm
  subst hw
  go_wp2_with fail
  have z9 : (lnS 4 (119 :: 104 :: 105 :: 108 :: 101 :: 32 :: 105 :: 32 :: 60 :: 32 :: digK q)).size ≤ 60 := by rw [lnS_size]; simp; omega
  have hb9 : (⟨#[119, 104, 105, 108, 101, 32, 105, 32, 60, 32]⟩ ++ ⟨(digK q).toArray⟩ : ByteArray) = ⟨(119 :: 104 :: 105 :: 108 :: 101 :: 32 :: 105 :: 32 :: 60 :: 32 :: digK q).toArray⟩ := ba_append [119, 104, 105, 108, 101, 32, 105, 32, 60, 32] (digK q)
  have hl9 : (119 :: 104 :: 105 :: 108 :: 101 :: 32 :: 105 :: 32 :: 60 :: 32 :: digK q).length ≤ 1000 := by simp; omega
  have KK9 := hide (ln_at (⟨#[119, 104, 105, 108, 101, 32, 105, 32, 60, 32]⟩ ++ ⟨(digK q).toArray⟩) (119 :: 104 :: 105 :: 108 :: 101 :: 32 :: 105 :: 32 :: 60 :: 32 :: digK q) hb9 4 4 rfl (by decide) hl9)
  clear hb9 hl9
  refine (KK9.out _).mono ?_
  clear KK9
  rintro e wx ⟨rfl, hw⟩
  have hw := hw.symm
  subst hw
  go_wp2_with fail
  have E9 := hide (cat_at E8.out 4 (119 :: 104 :: 105 :: 108 :: 101 :: 32 :: 105 :: 32 :: 60 :: 32 :: digK q))
  have a9 := cat_size (n := 540) a8 z9
  generalize A8 ++ lnS 4 (119 :: 104 :: 105 :: 108 :: 101 :: 32 :: 105 :: 32 :: 60 :: 32 :: digK q) = A9 at *
  clear z9 E8 a8
  have z10 : (lnS 5 [115, 101, 113]).size ≤ 60 := by rw [lnS_size]; decide
  refine (ln_at ⟨#[115, 101, 113]⟩ [115, 101, 113] rfl 5 5 rfl (by decide) (by decide) _).mono ?_
  rintro e wx ⟨rfl, hw⟩
  have hw := hw.symm
  subst hw
  go_wp2_with fail
  have E10 := hide (cat_at E9.out 5 [115, 101, 113])
  have a10 := cat_size (n := 600) a9 z10
  generalize A9 ++ lnS 5 [115, 101, 113] = A10 at *
  clear z10 E9 a9
  have z11 : (lnS 6 [100, 32, 33, 32, 105, 32, 43, 32, 49, 48, 48]).size ≤ 60 := by rw [lnS_size]; decide
  refine (ln_at ⟨#[100, 32, 33, 32, 105, 32, 43, 32, 49, 48, 48]⟩ [100, 32, 33, 32, 105, 32, 43, 32, 49, 48, 48] rfl 6 6 rfl (by decide) (by decide) _).mono ?_
  rintro e wx ⟨rfl, hw⟩
  have hw := hw.symm
  subst hw
  go_wp2_with fail
  have E11 := hide (cat_at E10.out 6 [100, 32, 33, 32, 105, 32, 43, 32, 49, 48, 48])
  have a11 := cat_size (n := 660) a10 z11
  generalize A10 ++ lnS 6 [100, 32, 33, 32, 105, 32, 43, 32, 49, 48, 48] = A11 at *
  clear z11 E10 a10
  have z12 : (lnS 6 [105, 32, 58, 61, 32, 105, 32, 43, 32, 49]).size ≤ 60 := by rw [lnS_size]; decide
  refine (ln_at ⟨#[105, 32, 58, 61, 32, 105, 32, 43, 32, 49]⟩ [105, 32, 58, 61, 32, 105, 32, 43, 32, 49] rfl 6 6 rfl (by decide) (by decide) _).mono ?_
  rintro e wx ⟨rfl, hw⟩
  have hw := hw.symm
  subst hw
  go_wp2_with fail
  have E12 := hide (cat_at E11.out 6 [105, 32, 58, 61, 32, 105, 32, 43, 32, 49])
  have a12 := cat_size (n := 720) a11 z12
  generalize A11 ++ lnS 6 [105, 32, 58, 61, 32, 105, 32, 43, 32, 49] = A12 at *
  clear z12 E11 a11
  have z13 : (lnS 3 [118, 97, 114, 32, 120]).size ≤ 60 := by rw [lnS_size]; decide
  refine (ln_at ⟨#[118, 97, 114, 32, 120]⟩ [118, 97, 114, 32, 120] rfl 3 3 rfl (by decide) (by decide) _).mono ?_
  rintro e wx ⟨rfl, hw⟩
  have hw := hw.symm
  subst hw
  go_wp2_with fail
  have E13 := hide (cat_at E12.out 3 [118, 97, 114, 32, 120])
  have a13 := cat_size (n := 780) a12 z13
  generalize A12 ++ lnS 3 [118, 97, 114, 32, 120] = A13 at *
  clear z13 E12 a12
  have z14 : (lnS 4 [118, 97, 114, 32, 107]).size ≤ 60 := by rw [lnS_size]; decide
  refine (ln_at ⟨#[118, 97, 114, 32, 107]⟩ [118, 97, 114, 32, 107] rfl 4 4 rfl (by decide) (by decide) _).mono ?_
  rintro e wx ⟨rfl, hw⟩
  have hw := hw.symm
  subst hw
  go_wp2_with fail
  have E14 := hide (cat_at E13.out 4 [118, 97, 114, 32, 107])
  have a14 := cat_size (n := 840) a13 z14
  generalize A13 ++ lnS 4 [118, 97, 114, 32, 107] = A14 at *
  clear z14 E13 a13
  refine (numK_at (p + q) (by omega) ((p : Int) + (q : Int)) (by omega) _).mono ?_
  rintro e wx ⟨rfl, hw⟩
  have hw := hw.symm
  subst hw
  go_wp2_with fail
  have z15 : (lnS 5 (119 :: 104 :: 105 :: 108 :: 101 :: 32 :: 107 :: 32 :: 60 :: 32 :: digK (p + q))).size ≤ 60 := by rw [lnS_size]; simp; omega
  have hb15 : (⟨#[119, 104, 105, 108, 101, 32, 107, 32, 60, 32]⟩ ++ ⟨(digK (p + q)).toArray⟩ : ByteArray) = ⟨(119 :: 104 :: 105 :: 108 :: 101 :: 32 :: 107 :: 32 :: 60 :: 32 :: digK (p + q)).toArray⟩ := ba_append [119, 104, 105, 108, 101, 32, 107, 32, 60, 32] (digK (p + q))
  have hl15 : (119 :: 104 :: 105 :: 108 :: 101 :: 32 :: 107 :: 32 :: 60 :: 32 :: digK (p + q)).length ≤ 1000 := by simp; omega
  have KK15 := hide (ln_at (⟨#[119, 104, 105, 108, 101, 32, 107, 32, 60, 32]⟩ ++ ⟨(digK (p + q)).toArray⟩) (119 :: 104 :: 105 :: 108 :: 101 :: 32 :: 107 :: 32 :: 60 :: 32 :: digK (p + q)) hb15 5 5 rfl (by decide) hl15)
  clear hb15 hl15
  refine (KK15.out _).mono ?_
  clear KK15
  rintro e wx ⟨rfl, hw⟩
  have hw := hw.symm
  subst hw
  go_wp2_with fail
  have E15 := hide (cat_at E14.out 5 (119 :: 104 :: 105 :: 108 :: 101 :: 32 :: 107 :: 32 :: 60 :: 32 :: digK (p + q)))
  have a15 := cat_size (n := 900) a14 z15
  generalize A14 ++ lnS 5 (119 :: 104 :: 105 :: 108 :: 101 :: 32 :: 107 :: 32 :: 60 :: 32 :: digK (p + q)) = A15 at *
  clear z15 E14 a14
  have z16 : (lnS 6 [115, 101, 113]).size ≤ 60 := by rw [lnS_size]; decide
  refine (ln_at ⟨#[115, 101, 113]⟩ [115, 101, 113] rfl 6 6 rfl (by decide) (by decide) _).mono ?_
  rintro e wx ⟨rfl, hw⟩
  have hw := hw.symm
  subst hw
  go_wp2_with fail
  have E16 := hide (cat_at E15.out 6 [115, 101, 113])
  have a16 := cat_size (n := 960) a15 z16
  generalize A15 ++ lnS 6 [115, 101, 113] = A16 at *
  clear z16 E15 a15
  have z17 : (lnS 7 [97, 108, 116]).size ≤ 60 := by rw [lnS_size]; decide
  refine (ln_at ⟨#[97, 108, 116]⟩ [97, 108, 116] rfl 7 7 rfl (by decide) (by decide) _).mono ?_
  rintro e wx ⟨rfl, hw⟩
  have hw := hw.symm
  subst hw
  go_wp2_with fail
  have E17 := hide (cat_at E16.out 7 [97, 108, 116])
  have a17 := cat_size (n := 1020) a16 z17
  generalize A16 ++ lnS 7 [97, 108, 116] = A17 at *
  clear z17 E16 a16
  have z18 : (lnS 8 [111, 110, 32, 99, 32, 63, 32, 120]).size ≤ 60 := by rw [lnS_size]; decide
  refine (ln_at ⟨#[111, 110, 32, 99, 32, 63, 32, 120]⟩ [111, 110, 32, 99, 32, 63, 32, 120] rfl 8 8 rfl (by decide) (by decide) _).mono ?_
  rintro e wx ⟨rfl, hw⟩
  have hw := hw.symm
  subst hw
  go_wp2_with fail
  have E18 := hide (cat_at E17.out 8 [111, 110, 32, 99, 32, 63, 32, 120])
  have a18 := cat_size (n := 1080) a17 z18
  generalize A17 ++ lnS 8 [111, 110, 32, 99, 32, 63, 32, 120] = A18 at *
  clear z18 E17 a17
  have z19 : (lnS 9 [111, 117, 116, 32, 33, 32, 120]).size ≤ 60 := by rw [lnS_size]; decide
  refine (ln_at ⟨#[111, 117, 116, 32, 33, 32, 120]⟩ [111, 117, 116, 32, 33, 32, 120] rfl 9 9 rfl (by decide) (by decide) _).mono ?_
  rintro e wx ⟨rfl, hw⟩
  have hw := hw.symm
  subst hw
  go_wp2_with fail
  have E19 := hide (cat_at E18.out 9 [111, 117, 116, 32, 33, 32, 120])
  have a19 := cat_size (n := 1140) a18 z19
  generalize A18 ++ lnS 9 [111, 117, 116, 32, 33, 32, 120] = A19 at *
  clear z19 E18 a18
  have z20 : (lnS 8 [111, 110, 32, 100, 32, 63, 32, 120]).size ≤ 60 := by rw [lnS_size]; decide
  refine (ln_at ⟨#[111, 110, 32, 100, 32, 63, 32, 120]⟩ [111, 110, 32, 100, 32, 63, 32, 120] rfl 8 8 rfl (by decide) (by decide) _).mono ?_
  rintro e wx ⟨rfl, hw⟩
  have hw := hw.symm
  subst hw
  go_wp2_with fail
  have E20 := hide (cat_at E19.out 8 [111, 110, 32, 100, 32, 63, 32, 120])
  have a20 := cat_size (n := 1200) a19 z20
  generalize A19 ++ lnS 8 [111, 110, 32, 100, 32, 63, 32, 120] = A20 at *
  clear z20 E19 a19
  have z21 : (lnS 9 [111, 117, 116, 32, 33, 32, 120]).size ≤ 60 := by rw [lnS_size]; decide
  refine (ln_at ⟨#[111, 117, 116, 32, 33, 32, 120]⟩ [111, 117, 116, 32, 33, 32, 120] rfl 9 9 rfl (by decide) (by decide) _).mono ?_
  rintro e wx ⟨rfl, hw⟩
  have hw := hw.symm
  subst hw
  go_wp2_with fail
  have E21 := hide (cat_at E20.out 9 [111, 117, 116, 32, 33, 32, 120])
  have a21 := cat_size (n := 1260) a20 z21
  generalize A20 ++ lnS 9 [111, 117, 116, 32, 33, 32, 120] = A21 at *
  clear z21 E20 a20
  have z22 : (lnS 7 [107, 32, 58, 61, 32, 107, 32, 43, 32, 49]).size ≤ 60 := by rw [lnS_size]; decide
  refine (ln_at ⟨#[107, 32, 58, 61, 32, 107, 32, 43, 32, 49]⟩ [107, 32, 58, 61, 32, 107, 32, 43, 32, 49] rfl 7 7 rfl (by decide) (by decide) _).mono ?_
  rintro e wx ⟨rfl, hw⟩
  have hw := hw.symm
  subst hw
  go_wp2_with fail
  have E22 := hide (cat_at E21.out 7 [107, 32, 58, 61, 32, 107, 32, 43, 32, 49])
  have a22 := cat_size (n := 1320) a21 z22
  generalize A21 ++ lnS 7 [107, 32, 58, 61, 32, 107, 32, 43, 32, 49] = A22 at *
  clear z22 E21 a21
  refine (T.out A22 (by rw [E22.out]; simp only [itText, meItems, flatL, kL, Itm.line, List.map_cons, List.map_nil, List.flatMap_cons, List.flatMap_nil, List.append_assoc, List.append_nil]; rfl)).mono ?_
  rintro e w1 ⟨out, va, cc, rfl, q1, b1, c1, l1⟩
  have Q1 := hide (meEnd_of q1)
  have B1 := hide b1
  have C1 := hide c1
  clear q1 b1 c1 E22 T D1 D2 D3 P1 P2 P3
  go_wp2_with fail
  go_loop [15, 16, 17] (fun y z i => ∃ (k : Nat) (a b : Int), k ≤ out.length ∧ i = .int .i64 k ∧ y = .int .i64 a ∧ z = .int .i64 b ∧ 0 ≤ a ∧ 0 ≤ b ∧ meCount (out.drop k) a b = some ((p : Int), (q : Int))) (fun _ _ i => out.length - (intOf i).toNat)
  case atStart => exact ⟨0, 0, 0, Nat.zero_le _, rfl, rfl, rfl, by omega, by omega, C1.out⟩
  case round =>
    obtain ⟨k, a, b, hk, rfl, rfl, rfl, a0, b0, hc⟩ := hrel
    have hab := meCount_at _ _ _ _ _ hc
    by_cases hlt : k < out.length
    · obtain ⟨gb, off, hva, hcell⟩ := Q1.out k hlt
      subst hva
      rcases meCount_drop out k hlt a b _ hc with ⟨e1, h1⟩ | ⟨e1, e2, h1⟩
      · have H1 := hide h1
        have t1 : (out.getD k 0 == a) = true := by simpa using e1
        clear h1 hc C1 e1
        generalize out.getD k 0 = x at *
        go_wp2
        go_round
        case rel => exact ⟨k + 1, a + 1, b, by omega, by go_num, rfl, rfl, by omega, by omega, H1.out⟩
        case measure => simp [intOf]; omega
      · have H1 := hide h1
        have t1 : (out.getD k 0 == a) = false := by simpa using e1
        have t2 : (out.getD k 0 == b + 100) = true := by simpa using e2
        clear h1 hc C1 e1 e2
        generalize out.getD k 0 = x at *
        go_wp2
        go_round
        case rel => exact ⟨k + 1, a, b + 1, by omega, by go_num, rfl, rfl, by omega, by omega, H1.out⟩
        case measure => simp [intOf]; omega
    · have hz : out.drop k = [] := List.drop_eq_nil_of_le (by omega)
      rw [hz] at hc
      have hc : some (a, b) = some ((p : Int), (q : Int)) := hc
      injection hc with hc
      injection hc with hc1 hc2
      subst hc1
      subst hc2
      clear C1 hz
      go_wp2
      go_ret
      exact ⟨rfl, B1.out⟩
end Go.Proofs.YtnhidaamfnjdjaaGreatDoor
/- MERGED: the law, walked, guards 1. Written by wip/genmer.py. -/
namespace Go.Proofs.YtnhidaamfnjdjaaGreatDoor
open Go.RowKit Go.Maps

set_option maxRecDepth 20000 in
set_option maxHeartbeats 8000000 in
theorem Merged_1 (x1 x2 x3 : Int) (r1 : -9223372036854775808 ≤ x1 ∧ x1 ≤ 9223372036854775807) (r2 : -9223372036854775808 ≤ x2 ∧ x2 ≤ 9223372036854775807) (r3 : -9223372036854775808 ≤ x3 ∧ x3 ≤ 9223372036854775807) (e3 : pickN x3 4 = 1) (w : World) (m : Int) (hm : w.cell? ⟨0, 0, none⟩ = some (.int .i64 m)) :
    Calls Tryz.prog 12 #[.int .i64 x1, .int .i64 x2, .int .i64 x3] w fun e w' => e = .returned (.bool true) ∧ Below w.heap.size w w' := by
  have hp := pickN_lt x1 12 (by decide)
  have hq := pickN_lt x2 12 (by decide)
  generalize e1 : pickN x1 12 = p at *
  generalize e2 : pickN x2 12 = q at *
  have P1 := hide (pickN_at x1 r1.1 r1.2 12 (by decide) (by decide) 12 rfl p e1)
  have P2 := hide (pickN_at x2 r2.1 r2.2 12 (by decide) (by decide) 12 rfl q e2)
  have P3 := hide (pickN_at x3 r3.1 r3.2 4 (by decide) (by decide) 4 rfl 1 e3)
  have T := hide (fun b hb => meTold p q 1 hp hq (by decide) w m hm b hb)
  have y1 := digK_size p
  have y2 := digK_size q
  have y3 := digK_size (p + q)
  have D1 := digK_len p
  have D2 := digK_len q
  have D3 := digK_len (p + q)
  clear e1 e2 e3 hm r1 r2 r3
  go_enter Tryz.func12, Tryz.ntmps12
  go_wp2_with fail
  refine (P1.out _).mono ?_
  rintro e wx ⟨rfl, hw⟩
  have hw := hw.symm
  subst hw
  go_wp2_with fail
  refine (P2.out _).mono ?_
  rintro e wx ⟨rfl, hw⟩
  have hw := hw.symm
  subst hw
  go_wp2_with fail
  refine (P3.out _).mono ?_
  rintro e wx ⟨rfl, hw⟩
  have hw := hw.symm
  subst hw
  go_wp2_with fail
  have z0 : (lnS 0 [99, 104, 97, 110, 32, 99]).size ≤ 60 := by rw [lnS_size]; decide
  refine (ln_at ⟨#[99, 104, 97, 110, 32, 99]⟩ [99, 104, 97, 110, 32, 99] rfl 0 0 rfl (by decide) (by decide) _).mono ?_
  rintro e wx ⟨rfl, hw⟩
  have hw := hw.symm
  subst hw
  go_wp2_with fail
  have E0 := hide (show lnS 0 [99, 104, 97, 110, 32, 99] = ⟨(kL 0 [99, 104, 97, 110, 32, 99]).toArray⟩ from rfl)
  generalize lnS 0 [99, 104, 97, 110, 32, 99] = A0 at *
  have z1 : (lnS 1 [99, 104, 97, 110, 32, 100]).size ≤ 60 := by rw [lnS_size]; decide
  refine (ln_at ⟨#[99, 104, 97, 110, 32, 100]⟩ [99, 104, 97, 110, 32, 100] rfl 1 1 rfl (by decide) (by decide) _).mono ?_
  rintro e wx ⟨rfl, hw⟩
  have hw := hw.symm
  subst hw
  go_wp2_with fail
  have E1 := hide (cat_at E0.out 1 [99, 104, 97, 110, 32, 100])
  have a1 := cat_size (n := 60) z0 z1
  generalize A0 ++ lnS 1 [99, 104, 97, 110, 32, 100] = A1 at *
  clear z1 E0
  have z2 : (lnS 2 [112, 97, 114]).size ≤ 60 := by rw [lnS_size]; decide
  refine (ln_at ⟨#[112, 97, 114]⟩ [112, 97, 114] rfl 2 2 rfl (by decide) (by decide) _).mono ?_
  rintro e wx ⟨rfl, hw⟩
  have hw := hw.symm
  subst hw
  go_wp2_with fail
  have E2 := hide (cat_at E1.out 2 [112, 97, 114])
  have a2 := cat_size (n := 120) a1 z2
  generalize A1 ++ lnS 2 [112, 97, 114] = A2 at *
  clear z2 E1 a1
  have z3 : (lnS 3 [118, 97, 114, 32, 105]).size ≤ 60 := by rw [lnS_size]; decide
  refine (ln_at ⟨#[118, 97, 114, 32, 105]⟩ [118, 97, 114, 32, 105] rfl 3 3 rfl (by decide) (by decide) _).mono ?_
  rintro e wx ⟨rfl, hw⟩
  have hw := hw.symm
  subst hw
  go_wp2_with fail
  have E3 := hide (cat_at E2.out 3 [118, 97, 114, 32, 105])
  have a3 := cat_size (n := 180) a2 z3
  generalize A2 ++ lnS 3 [118, 97, 114, 32, 105] = A3 at *
  clear z3 E2 a2
  refine (numK_any p (by omega) _).mono ?_
  rintro e wx ⟨rfl, hw⟩
  have hw := hw.symm
  subst hw
  go_wp2_with fail
  have z4 : (lnS 4 (119 :: 104 :: 105 :: 108 :: 101 :: 32 :: 105 :: 32 :: 60 :: 32 :: digK p)).size ≤ 60 := by rw [lnS_size]; simp; omega
  have hb4 : (⟨#[119, 104, 105, 108, 101, 32, 105, 32, 60, 32]⟩ ++ ⟨(digK p).toArray⟩ : ByteArray) = ⟨(119 :: 104 :: 105 :: 108 :: 101 :: 32 :: 105 :: 32 :: 60 :: 32 :: digK p).toArray⟩ := ba_append [119, 104, 105, 108, 101, 32, 105, 32, 60, 32] (digK p)
  have hl4 : (119 :: 104 :: 105 :: 108 :: 101 :: 32 :: 105 :: 32 :: 60 :: 32 :: digK p).length ≤ 1000 := by simp; omega
  have KK4 := hide (ln_at (⟨#[119, 104, 105, 108, 101, 32, 105, 32, 60, 32]⟩ ++ ⟨(digK p).toArray⟩) (119 :: 104 :: 105 :: 108 :: 101 :: 32 :: 105 :: 32 :: 60 :: 32 :: digK p) hb4 4 4 rfl (by decide) hl4)
  clear hb4 hl4
  refine (KK4.out _).mono ?_
  clear KK4
  rintro e wx ⟨rfl, hw⟩
  have hw := hw.symm
  subst hw
  go_wp2_with fail
  have E4 := hide (cat_at E3.out 4 (119 :: 104 :: 105 :: 108 :: 101 :: 32 :: 105 :: 32 :: 60 :: 32 :: digK p))
  have a4 := cat_size (n := 240) a3 z4
  generalize A3 ++ lnS 4 (119 :: 104 :: 105 :: 108 :: 101 :: 32 :: 105 :: 32 :: 60 :: 32 :: digK p) = A4 at *
  clear z4 E3 a3
  have z5 : (lnS 5 [115, 101, 113]).size ≤ 60 := by rw [lnS_size]; decide
  refine (ln_at ⟨#[115, 101, 113]⟩ [115, 101, 113] rfl 5 5 rfl (by decide) (by decide) _).mono ?_
  rintro e wx ⟨rfl, hw⟩
  have hw := hw.symm
  subst hw
  go_wp2_with fail
  have E5 := hide (cat_at E4.out 5 [115, 101, 113])
  have a5 := cat_size (n := 300) a4 z5
  generalize A4 ++ lnS 5 [115, 101, 113] = A5 at *
  clear z5 E4 a4
  have z6 : (lnS 6 [99, 32, 33, 32, 105]).size ≤ 60 := by rw [lnS_size]; decide
  refine (ln_at ⟨#[99, 32, 33, 32, 105]⟩ [99, 32, 33, 32, 105] rfl 6 6 rfl (by decide) (by decide) _).mono ?_
  rintro e wx ⟨rfl, hw⟩
  have hw := hw.symm
  subst hw
  go_wp2_with fail
  have E6 := hide (cat_at E5.out 6 [99, 32, 33, 32, 105])
  have a6 := cat_size (n := 360) a5 z6
  generalize A5 ++ lnS 6 [99, 32, 33, 32, 105] = A6 at *
  clear z6 E5 a5
  have z7 : (lnS 6 [105, 32, 58, 61, 32, 105, 32, 43, 32, 49]).size ≤ 60 := by rw [lnS_size]; decide
  refine (ln_at ⟨#[105, 32, 58, 61, 32, 105, 32, 43, 32, 49]⟩ [105, 32, 58, 61, 32, 105, 32, 43, 32, 49] rfl 6 6 rfl (by decide) (by decide) _).mono ?_
  rintro e wx ⟨rfl, hw⟩
  have hw := hw.symm
  subst hw
  go_wp2_with fail
  have E7 := hide (cat_at E6.out 6 [105, 32, 58, 61, 32, 105, 32, 43, 32, 49])
  have a7 := cat_size (n := 420) a6 z7
  generalize A6 ++ lnS 6 [105, 32, 58, 61, 32, 105, 32, 43, 32, 49] = A7 at *
  clear z7 E6 a6
  have z8 : (lnS 3 [118, 97, 114, 32, 105]).size ≤ 60 := by rw [lnS_size]; decide
  refine (ln_at ⟨#[118, 97, 114, 32, 105]⟩ [118, 97, 114, 32, 105] rfl 3 3 rfl (by decide) (by decide) _).mono ?_
  rintro e wx ⟨rfl, hw⟩
  have hw := hw.symm
  subst hw
  go_wp2_with fail
  have E8 := hide (cat_at E7.out 3 [118, 97, 114, 32, 105])
  have a8 := cat_size (n := 480) a7 z8
  generalize A7 ++ lnS 3 [118, 97, 114, 32, 105] = A8 at *
  clear z8 E7 a7
  refine (numK_any q (by omega) _).mono ?_
  rintro e wx ⟨rfl, hw⟩
  have hw := hw.symm
  subst hw
  go_wp2_with fail
  have z9 : (lnS 4 (119 :: 104 :: 105 :: 108 :: 101 :: 32 :: 105 :: 32 :: 60 :: 32 :: digK q)).size ≤ 60 := by rw [lnS_size]; simp; omega
  have hb9 : (⟨#[119, 104, 105, 108, 101, 32, 105, 32, 60, 32]⟩ ++ ⟨(digK q).toArray⟩ : ByteArray) = ⟨(119 :: 104 :: 105 :: 108 :: 101 :: 32 :: 105 :: 32 :: 60 :: 32 :: digK q).toArray⟩ := ba_append [119, 104, 105, 108, 101, 32, 105, 32, 60, 32] (digK q)
  have hl9 : (119 :: 104 :: 105 :: 108 :: 101 :: 32 :: 105 :: 32 :: 60 :: 32 :: digK q).length ≤ 1000 := by simp; omega
  have KK9 := hide (ln_at (⟨#[119, 104, 105, 108, 101, 32, 105, 32, 60, 32]⟩ ++ ⟨(digK q).toArray⟩) (119 :: 104 :: 105 :: 108 :: 101 :: 32 :: 105 :: 32 :: 60 :: 32 :: digK q) hb9 4 4 rfl (by decide) hl9)
  clear hb9 hl9
  refine (KK9.out _).mono ?_
  clear KK9
  rintro e wx ⟨rfl, hw⟩
  have hw := hw.symm
  subst hw
  go_wp2_with fail
  have E9 := hide (cat_at E8.out 4 (119 :: 104 :: 105 :: 108 :: 101 :: 32 :: 105 :: 32 :: 60 :: 32 :: digK q))
  have a9 := cat_size (n := 540) a8 z9
  generalize A8 ++ lnS 4 (119 :: 104 :: 105 :: 108 :: 101 :: 32 :: 105 :: 32 :: 60 :: 32 :: digK q) = A9 at *
  clear z9 E8 a8
  have z10 : (lnS 5 [115, 101, 113]).size ≤ 60 := by rw [lnS_size]; decide
  refine (ln_at ⟨#[115, 101, 113]⟩ [115, 101, 113] rfl 5 5 rfl (by decide) (by decide) _).mono ?_
  rintro e wx ⟨rfl, hw⟩
  have hw := hw.symm
  subst hw
  go_wp2_with fail
  have E10 := hide (cat_at E9.out 5 [115, 101, 113])
  have a10 := cat_size (n := 600) a9 z10
  generalize A9 ++ lnS 5 [115, 101, 113] = A10 at *
  clear z10 E9 a9
  have z11 : (lnS 6 [100, 32, 33, 32, 105, 32, 43, 32, 49, 48, 48]).size ≤ 60 := by rw [lnS_size]; decide
  refine (ln_at ⟨#[100, 32, 33, 32, 105, 32, 43, 32, 49, 48, 48]⟩ [100, 32, 33, 32, 105, 32, 43, 32, 49, 48, 48] rfl 6 6 rfl (by decide) (by decide) _).mono ?_
  rintro e wx ⟨rfl, hw⟩
  have hw := hw.symm
  subst hw
  go_wp2_with fail
  have E11 := hide (cat_at E10.out 6 [100, 32, 33, 32, 105, 32, 43, 32, 49, 48, 48])
  have a11 := cat_size (n := 660) a10 z11
  generalize A10 ++ lnS 6 [100, 32, 33, 32, 105, 32, 43, 32, 49, 48, 48] = A11 at *
  clear z11 E10 a10
  have z12 : (lnS 6 [105, 32, 58, 61, 32, 105, 32, 43, 32, 49]).size ≤ 60 := by rw [lnS_size]; decide
  refine (ln_at ⟨#[105, 32, 58, 61, 32, 105, 32, 43, 32, 49]⟩ [105, 32, 58, 61, 32, 105, 32, 43, 32, 49] rfl 6 6 rfl (by decide) (by decide) _).mono ?_
  rintro e wx ⟨rfl, hw⟩
  have hw := hw.symm
  subst hw
  go_wp2_with fail
  have E12 := hide (cat_at E11.out 6 [105, 32, 58, 61, 32, 105, 32, 43, 32, 49])
  have a12 := cat_size (n := 720) a11 z12
  generalize A11 ++ lnS 6 [105, 32, 58, 61, 32, 105, 32, 43, 32, 49] = A12 at *
  clear z12 E11 a11
  have z13 : (lnS 3 [118, 97, 114, 32, 120]).size ≤ 60 := by rw [lnS_size]; decide
  refine (ln_at ⟨#[118, 97, 114, 32, 120]⟩ [118, 97, 114, 32, 120] rfl 3 3 rfl (by decide) (by decide) _).mono ?_
  rintro e wx ⟨rfl, hw⟩
  have hw := hw.symm
  subst hw
  go_wp2_with fail
  have E13 := hide (cat_at E12.out 3 [118, 97, 114, 32, 120])
  have a13 := cat_size (n := 780) a12 z13
  generalize A12 ++ lnS 3 [118, 97, 114, 32, 120] = A13 at *
  clear z13 E12 a12
  have z14 : (lnS 4 [118, 97, 114, 32, 107]).size ≤ 60 := by rw [lnS_size]; decide
  refine (ln_at ⟨#[118, 97, 114, 32, 107]⟩ [118, 97, 114, 32, 107] rfl 4 4 rfl (by decide) (by decide) _).mono ?_
  rintro e wx ⟨rfl, hw⟩
  have hw := hw.symm
  subst hw
  go_wp2_with fail
  have E14 := hide (cat_at E13.out 4 [118, 97, 114, 32, 107])
  have a14 := cat_size (n := 840) a13 z14
  generalize A13 ++ lnS 4 [118, 97, 114, 32, 107] = A14 at *
  clear z14 E13 a13
  refine (numK_at (p + q) (by omega) ((p : Int) + (q : Int)) (by omega) _).mono ?_
  rintro e wx ⟨rfl, hw⟩
  have hw := hw.symm
  subst hw
  go_wp2_with fail
  have z15 : (lnS 5 (119 :: 104 :: 105 :: 108 :: 101 :: 32 :: 107 :: 32 :: 60 :: 32 :: digK (p + q))).size ≤ 60 := by rw [lnS_size]; simp; omega
  have hb15 : (⟨#[119, 104, 105, 108, 101, 32, 107, 32, 60, 32]⟩ ++ ⟨(digK (p + q)).toArray⟩ : ByteArray) = ⟨(119 :: 104 :: 105 :: 108 :: 101 :: 32 :: 107 :: 32 :: 60 :: 32 :: digK (p + q)).toArray⟩ := ba_append [119, 104, 105, 108, 101, 32, 107, 32, 60, 32] (digK (p + q))
  have hl15 : (119 :: 104 :: 105 :: 108 :: 101 :: 32 :: 107 :: 32 :: 60 :: 32 :: digK (p + q)).length ≤ 1000 := by simp; omega
  have KK15 := hide (ln_at (⟨#[119, 104, 105, 108, 101, 32, 107, 32, 60, 32]⟩ ++ ⟨(digK (p + q)).toArray⟩) (119 :: 104 :: 105 :: 108 :: 101 :: 32 :: 107 :: 32 :: 60 :: 32 :: digK (p + q)) hb15 5 5 rfl (by decide) hl15)
  clear hb15 hl15
  refine (KK15.out _).mono ?_
  clear KK15
  rintro e wx ⟨rfl, hw⟩
  have hw := hw.symm
  subst hw
  go_wp2_with fail
  have E15 := hide (cat_at E14.out 5 (119 :: 104 :: 105 :: 108 :: 101 :: 32 :: 107 :: 32 :: 60 :: 32 :: digK (p + q)))
  have a15 := cat_size (n := 900) a14 z15
  generalize A14 ++ lnS 5 (119 :: 104 :: 105 :: 108 :: 101 :: 32 :: 107 :: 32 :: 60 :: 32 :: digK (p + q)) = A15 at *
  clear z15 E14 a14
  have z16 : (lnS 6 [115, 101, 113]).size ≤ 60 := by rw [lnS_size]; decide
  refine (ln_at ⟨#[115, 101, 113]⟩ [115, 101, 113] rfl 6 6 rfl (by decide) (by decide) _).mono ?_
  rintro e wx ⟨rfl, hw⟩
  have hw := hw.symm
  subst hw
  go_wp2_with fail
  have E16 := hide (cat_at E15.out 6 [115, 101, 113])
  have a16 := cat_size (n := 960) a15 z16
  generalize A15 ++ lnS 6 [115, 101, 113] = A16 at *
  clear z16 E15 a15
  have z17 : (lnS 7 [97, 108, 116]).size ≤ 60 := by rw [lnS_size]; decide
  refine (ln_at ⟨#[97, 108, 116]⟩ [97, 108, 116] rfl 7 7 rfl (by decide) (by decide) _).mono ?_
  rintro e wx ⟨rfl, hw⟩
  have hw := hw.symm
  subst hw
  go_wp2_with fail
  have E17 := hide (cat_at E16.out 7 [97, 108, 116])
  have a17 := cat_size (n := 1020) a16 z17
  generalize A16 ++ lnS 7 [97, 108, 116] = A17 at *
  clear z17 E16 a16
  have z18 : (lnS 8 [111, 110, 32, 40, 107, 32, 60, 32, 57, 57, 41, 32, 38, 32, 99, 32, 63, 32, 120]).size ≤ 60 := by rw [lnS_size]; decide
  refine (ln_at ⟨#[111, 110, 32, 40, 107, 32, 60, 32, 57, 57, 41, 32, 38, 32, 99, 32, 63, 32, 120]⟩ [111, 110, 32, 40, 107, 32, 60, 32, 57, 57, 41, 32, 38, 32, 99, 32, 63, 32, 120] rfl 8 8 rfl (by decide) (by decide) _).mono ?_
  rintro e wx ⟨rfl, hw⟩
  have hw := hw.symm
  subst hw
  go_wp2_with fail
  have E18 := hide (cat_at E17.out 8 [111, 110, 32, 40, 107, 32, 60, 32, 57, 57, 41, 32, 38, 32, 99, 32, 63, 32, 120])
  have a18 := cat_size (n := 1080) a17 z18
  generalize A17 ++ lnS 8 [111, 110, 32, 40, 107, 32, 60, 32, 57, 57, 41, 32, 38, 32, 99, 32, 63, 32, 120] = A18 at *
  clear z18 E17 a17
  have z19 : (lnS 9 [111, 117, 116, 32, 33, 32, 120]).size ≤ 60 := by rw [lnS_size]; decide
  refine (ln_at ⟨#[111, 117, 116, 32, 33, 32, 120]⟩ [111, 117, 116, 32, 33, 32, 120] rfl 9 9 rfl (by decide) (by decide) _).mono ?_
  rintro e wx ⟨rfl, hw⟩
  have hw := hw.symm
  subst hw
  go_wp2_with fail
  have E19 := hide (cat_at E18.out 9 [111, 117, 116, 32, 33, 32, 120])
  have a19 := cat_size (n := 1140) a18 z19
  generalize A18 ++ lnS 9 [111, 117, 116, 32, 33, 32, 120] = A19 at *
  clear z19 E18 a18
  have z20 : (lnS 8 [111, 110, 32, 100, 32, 63, 32, 120]).size ≤ 60 := by rw [lnS_size]; decide
  refine (ln_at ⟨#[111, 110, 32, 100, 32, 63, 32, 120]⟩ [111, 110, 32, 100, 32, 63, 32, 120] rfl 8 8 rfl (by decide) (by decide) _).mono ?_
  rintro e wx ⟨rfl, hw⟩
  have hw := hw.symm
  subst hw
  go_wp2_with fail
  have E20 := hide (cat_at E19.out 8 [111, 110, 32, 100, 32, 63, 32, 120])
  have a20 := cat_size (n := 1200) a19 z20
  generalize A19 ++ lnS 8 [111, 110, 32, 100, 32, 63, 32, 120] = A20 at *
  clear z20 E19 a19
  have z21 : (lnS 9 [111, 117, 116, 32, 33, 32, 120]).size ≤ 60 := by rw [lnS_size]; decide
  refine (ln_at ⟨#[111, 117, 116, 32, 33, 32, 120]⟩ [111, 117, 116, 32, 33, 32, 120] rfl 9 9 rfl (by decide) (by decide) _).mono ?_
  rintro e wx ⟨rfl, hw⟩
  have hw := hw.symm
  subst hw
  go_wp2_with fail
  have E21 := hide (cat_at E20.out 9 [111, 117, 116, 32, 33, 32, 120])
  have a21 := cat_size (n := 1260) a20 z21
  generalize A20 ++ lnS 9 [111, 117, 116, 32, 33, 32, 120] = A21 at *
  clear z21 E20 a20
  have z22 : (lnS 7 [107, 32, 58, 61, 32, 107, 32, 43, 32, 49]).size ≤ 60 := by rw [lnS_size]; decide
  refine (ln_at ⟨#[107, 32, 58, 61, 32, 107, 32, 43, 32, 49]⟩ [107, 32, 58, 61, 32, 107, 32, 43, 32, 49] rfl 7 7 rfl (by decide) (by decide) _).mono ?_
  rintro e wx ⟨rfl, hw⟩
  have hw := hw.symm
  subst hw
  go_wp2_with fail
  have E22 := hide (cat_at E21.out 7 [107, 32, 58, 61, 32, 107, 32, 43, 32, 49])
  have a22 := cat_size (n := 1320) a21 z22
  generalize A21 ++ lnS 7 [107, 32, 58, 61, 32, 107, 32, 43, 32, 49] = A22 at *
  clear z22 E21 a21
  refine (T.out A22 (by rw [E22.out]; simp only [itText, meItems, flatL, kL, Itm.line, List.map_cons, List.map_nil, List.flatMap_cons, List.flatMap_nil, List.append_assoc, List.append_nil]; rfl)).mono ?_
  rintro e w1 ⟨out, va, cc, rfl, q1, b1, c1, l1⟩
  have Q1 := hide (meEnd_of q1)
  have B1 := hide b1
  have C1 := hide c1
  clear q1 b1 c1 E22 T D1 D2 D3 P1 P2 P3
  go_wp2_with fail
  go_loop [15, 16, 17] (fun y z i => ∃ (k : Nat) (a b : Int), k ≤ out.length ∧ i = .int .i64 k ∧ y = .int .i64 a ∧ z = .int .i64 b ∧ 0 ≤ a ∧ 0 ≤ b ∧ meCount (out.drop k) a b = some ((p : Int), (q : Int))) (fun _ _ i => out.length - (intOf i).toNat)
  case atStart => exact ⟨0, 0, 0, Nat.zero_le _, rfl, rfl, rfl, by omega, by omega, C1.out⟩
  case round =>
    obtain ⟨k, a, b, hk, rfl, rfl, rfl, a0, b0, hc⟩ := hrel
    have hab := meCount_at _ _ _ _ _ hc
    by_cases hlt : k < out.length
    · obtain ⟨gb, off, hva, hcell⟩ := Q1.out k hlt
      subst hva
      rcases meCount_drop out k hlt a b _ hc with ⟨e1, h1⟩ | ⟨e1, e2, h1⟩
      · have H1 := hide h1
        have t1 : (out.getD k 0 == a) = true := by simpa using e1
        clear h1 hc C1 e1
        generalize out.getD k 0 = x at *
        go_wp2
        go_round
        case rel => exact ⟨k + 1, a + 1, b, by omega, by go_num, rfl, rfl, by omega, by omega, H1.out⟩
        case measure => simp [intOf]; omega
      · have H1 := hide h1
        have t1 : (out.getD k 0 == a) = false := by simpa using e1
        have t2 : (out.getD k 0 == b + 100) = true := by simpa using e2
        clear h1 hc C1 e1 e2
        generalize out.getD k 0 = x at *
        go_wp2
        go_round
        case rel => exact ⟨k + 1, a, b + 1, by omega, by go_num, rfl, rfl, by omega, by omega, H1.out⟩
        case measure => simp [intOf]; omega
    · have hz : out.drop k = [] := List.drop_eq_nil_of_le (by omega)
      rw [hz] at hc
      have hc : some (a, b) = some ((p : Int), (q : Int)) := hc
      injection hc with hc
      injection hc with hc1 hc2
      subst hc1
      subst hc2
      clear C1 hz
      go_wp2
      go_ret
      exact ⟨rfl, B1.out⟩
end Go.Proofs.YtnhidaamfnjdjaaGreatDoor
/- MERGED: the law, walked, guards 2. Written by wip/genmer.py. -/
namespace Go.Proofs.YtnhidaamfnjdjaaGreatDoor
open Go.RowKit Go.Maps

set_option maxRecDepth 20000 in
set_option maxHeartbeats 8000000 in
theorem Merged_2 (x1 x2 x3 : Int) (r1 : -9223372036854775808 ≤ x1 ∧ x1 ≤ 9223372036854775807) (r2 : -9223372036854775808 ≤ x2 ∧ x2 ≤ 9223372036854775807) (r3 : -9223372036854775808 ≤ x3 ∧ x3 ≤ 9223372036854775807) (e3 : pickN x3 4 = 2) (w : World) (m : Int) (hm : w.cell? ⟨0, 0, none⟩ = some (.int .i64 m)) :
    Calls Tryz.prog 12 #[.int .i64 x1, .int .i64 x2, .int .i64 x3] w fun e w' => e = .returned (.bool true) ∧ Below w.heap.size w w' := by
  have hp := pickN_lt x1 12 (by decide)
  have hq := pickN_lt x2 12 (by decide)
  generalize e1 : pickN x1 12 = p at *
  generalize e2 : pickN x2 12 = q at *
  have P1 := hide (pickN_at x1 r1.1 r1.2 12 (by decide) (by decide) 12 rfl p e1)
  have P2 := hide (pickN_at x2 r2.1 r2.2 12 (by decide) (by decide) 12 rfl q e2)
  have P3 := hide (pickN_at x3 r3.1 r3.2 4 (by decide) (by decide) 4 rfl 2 e3)
  have T := hide (fun b hb => meTold p q 2 hp hq (by decide) w m hm b hb)
  have y1 := digK_size p
  have y2 := digK_size q
  have y3 := digK_size (p + q)
  have D1 := digK_len p
  have D2 := digK_len q
  have D3 := digK_len (p + q)
  clear e1 e2 e3 hm r1 r2 r3
  go_enter Tryz.func12, Tryz.ntmps12
  go_wp2_with fail
  refine (P1.out _).mono ?_
  rintro e wx ⟨rfl, hw⟩
  have hw := hw.symm
  subst hw
  go_wp2_with fail
  refine (P2.out _).mono ?_
  rintro e wx ⟨rfl, hw⟩
  have hw := hw.symm
  subst hw
  go_wp2_with fail
  refine (P3.out _).mono ?_
  rintro e wx ⟨rfl, hw⟩
  have hw := hw.symm
  subst hw
  go_wp2_with fail
  have z0 : (lnS 0 [99, 104, 97, 110, 32, 99]).size ≤ 60 := by rw [lnS_size]; decide
  refine (ln_at ⟨#[99, 104, 97, 110, 32, 99]⟩ [99, 104, 97, 110, 32, 99] rfl 0 0 rfl (by decide) (by decide) _).mono ?_
  rintro e wx ⟨rfl, hw⟩
  have hw := hw.symm
  subst hw
  go_wp2_with fail
  have E0 := hide (show lnS 0 [99, 104, 97, 110, 32, 99] = ⟨(kL 0 [99, 104, 97, 110, 32, 99]).toArray⟩ from rfl)
  generalize lnS 0 [99, 104, 97, 110, 32, 99] = A0 at *
  have z1 : (lnS 1 [99, 104, 97, 110, 32, 100]).size ≤ 60 := by rw [lnS_size]; decide
  refine (ln_at ⟨#[99, 104, 97, 110, 32, 100]⟩ [99, 104, 97, 110, 32, 100] rfl 1 1 rfl (by decide) (by decide) _).mono ?_
  rintro e wx ⟨rfl, hw⟩
  have hw := hw.symm
  subst hw
  go_wp2_with fail
  have E1 := hide (cat_at E0.out 1 [99, 104, 97, 110, 32, 100])
  have a1 := cat_size (n := 60) z0 z1
  generalize A0 ++ lnS 1 [99, 104, 97, 110, 32, 100] = A1 at *
  clear z1 E0
  have z2 : (lnS 2 [112, 97, 114]).size ≤ 60 := by rw [lnS_size]; decide
  refine (ln_at ⟨#[112, 97, 114]⟩ [112, 97, 114] rfl 2 2 rfl (by decide) (by decide) _).mono ?_
  rintro e wx ⟨rfl, hw⟩
  have hw := hw.symm
  subst hw
  go_wp2_with fail
  have E2 := hide (cat_at E1.out 2 [112, 97, 114])
  have a2 := cat_size (n := 120) a1 z2
  generalize A1 ++ lnS 2 [112, 97, 114] = A2 at *
  clear z2 E1 a1
  have z3 : (lnS 3 [118, 97, 114, 32, 105]).size ≤ 60 := by rw [lnS_size]; decide
  refine (ln_at ⟨#[118, 97, 114, 32, 105]⟩ [118, 97, 114, 32, 105] rfl 3 3 rfl (by decide) (by decide) _).mono ?_
  rintro e wx ⟨rfl, hw⟩
  have hw := hw.symm
  subst hw
  go_wp2_with fail
  have E3 := hide (cat_at E2.out 3 [118, 97, 114, 32, 105])
  have a3 := cat_size (n := 180) a2 z3
  generalize A2 ++ lnS 3 [118, 97, 114, 32, 105] = A3 at *
  clear z3 E2 a2
  refine (numK_any p (by omega) _).mono ?_
  rintro e wx ⟨rfl, hw⟩
  have hw := hw.symm
  subst hw
  go_wp2_with fail
  have z4 : (lnS 4 (119 :: 104 :: 105 :: 108 :: 101 :: 32 :: 105 :: 32 :: 60 :: 32 :: digK p)).size ≤ 60 := by rw [lnS_size]; simp; omega
  have hb4 : (⟨#[119, 104, 105, 108, 101, 32, 105, 32, 60, 32]⟩ ++ ⟨(digK p).toArray⟩ : ByteArray) = ⟨(119 :: 104 :: 105 :: 108 :: 101 :: 32 :: 105 :: 32 :: 60 :: 32 :: digK p).toArray⟩ := ba_append [119, 104, 105, 108, 101, 32, 105, 32, 60, 32] (digK p)
  have hl4 : (119 :: 104 :: 105 :: 108 :: 101 :: 32 :: 105 :: 32 :: 60 :: 32 :: digK p).length ≤ 1000 := by simp; omega
  have KK4 := hide (ln_at (⟨#[119, 104, 105, 108, 101, 32, 105, 32, 60, 32]⟩ ++ ⟨(digK p).toArray⟩) (119 :: 104 :: 105 :: 108 :: 101 :: 32 :: 105 :: 32 :: 60 :: 32 :: digK p) hb4 4 4 rfl (by decide) hl4)
  clear hb4 hl4
  refine (KK4.out _).mono ?_
  clear KK4
  rintro e wx ⟨rfl, hw⟩
  have hw := hw.symm
  subst hw
  go_wp2_with fail
  have E4 := hide (cat_at E3.out 4 (119 :: 104 :: 105 :: 108 :: 101 :: 32 :: 105 :: 32 :: 60 :: 32 :: digK p))
  have a4 := cat_size (n := 240) a3 z4
  generalize A3 ++ lnS 4 (119 :: 104 :: 105 :: 108 :: 101 :: 32 :: 105 :: 32 :: 60 :: 32 :: digK p) = A4 at *
  clear z4 E3 a3
  have z5 : (lnS 5 [115, 101, 113]).size ≤ 60 := by rw [lnS_size]; decide
  refine (ln_at ⟨#[115, 101, 113]⟩ [115, 101, 113] rfl 5 5 rfl (by decide) (by decide) _).mono ?_
  rintro e wx ⟨rfl, hw⟩
  have hw := hw.symm
  subst hw
  go_wp2_with fail
  have E5 := hide (cat_at E4.out 5 [115, 101, 113])
  have a5 := cat_size (n := 300) a4 z5
  generalize A4 ++ lnS 5 [115, 101, 113] = A5 at *
  clear z5 E4 a4
  have z6 : (lnS 6 [99, 32, 33, 32, 105]).size ≤ 60 := by rw [lnS_size]; decide
  refine (ln_at ⟨#[99, 32, 33, 32, 105]⟩ [99, 32, 33, 32, 105] rfl 6 6 rfl (by decide) (by decide) _).mono ?_
  rintro e wx ⟨rfl, hw⟩
  have hw := hw.symm
  subst hw
  go_wp2_with fail
  have E6 := hide (cat_at E5.out 6 [99, 32, 33, 32, 105])
  have a6 := cat_size (n := 360) a5 z6
  generalize A5 ++ lnS 6 [99, 32, 33, 32, 105] = A6 at *
  clear z6 E5 a5
  have z7 : (lnS 6 [105, 32, 58, 61, 32, 105, 32, 43, 32, 49]).size ≤ 60 := by rw [lnS_size]; decide
  refine (ln_at ⟨#[105, 32, 58, 61, 32, 105, 32, 43, 32, 49]⟩ [105, 32, 58, 61, 32, 105, 32, 43, 32, 49] rfl 6 6 rfl (by decide) (by decide) _).mono ?_
  rintro e wx ⟨rfl, hw⟩
  have hw := hw.symm
  subst hw
  go_wp2_with fail
  have E7 := hide (cat_at E6.out 6 [105, 32, 58, 61, 32, 105, 32, 43, 32, 49])
  have a7 := cat_size (n := 420) a6 z7
  generalize A6 ++ lnS 6 [105, 32, 58, 61, 32, 105, 32, 43, 32, 49] = A7 at *
  clear z7 E6 a6
  have z8 : (lnS 3 [118, 97, 114, 32, 105]).size ≤ 60 := by rw [lnS_size]; decide
  refine (ln_at ⟨#[118, 97, 114, 32, 105]⟩ [118, 97, 114, 32, 105] rfl 3 3 rfl (by decide) (by decide) _).mono ?_
  rintro e wx ⟨rfl, hw⟩
  have hw := hw.symm
  subst hw
  go_wp2_with fail
  have E8 := hide (cat_at E7.out 3 [118, 97, 114, 32, 105])
  have a8 := cat_size (n := 480) a7 z8
  generalize A7 ++ lnS 3 [118, 97, 114, 32, 105] = A8 at *
  clear z8 E7 a7
  refine (numK_any q (by omega) _).mono ?_
  rintro e wx ⟨rfl, hw⟩
  have hw := hw.symm
  subst hw
  go_wp2_with fail
  have z9 : (lnS 4 (119 :: 104 :: 105 :: 108 :: 101 :: 32 :: 105 :: 32 :: 60 :: 32 :: digK q)).size ≤ 60 := by rw [lnS_size]; simp; omega
  have hb9 : (⟨#[119, 104, 105, 108, 101, 32, 105, 32, 60, 32]⟩ ++ ⟨(digK q).toArray⟩ : ByteArray) = ⟨(119 :: 104 :: 105 :: 108 :: 101 :: 32 :: 105 :: 32 :: 60 :: 32 :: digK q).toArray⟩ := ba_append [119, 104, 105, 108, 101, 32, 105, 32, 60, 32] (digK q)
  have hl9 : (119 :: 104 :: 105 :: 108 :: 101 :: 32 :: 105 :: 32 :: 60 :: 32 :: digK q).length ≤ 1000 := by simp; omega
  have KK9 := hide (ln_at (⟨#[119, 104, 105, 108, 101, 32, 105, 32, 60, 32]⟩ ++ ⟨(digK q).toArray⟩) (119 :: 104 :: 105 :: 108 :: 101 :: 32 :: 105 :: 32 :: 60 :: 32 :: digK q) hb9 4 4 rfl (by decide) hl9)
  clear hb9 hl9
  refine (KK9.out _).mono ?_
  clear KK9
  rintro e wx ⟨rfl, hw⟩
  have hw := hw.symm
  subst hw
  go_wp2_with fail
  have E9 := hide (cat_at E8.out 4 (119 :: 104 :: 105 :: 108 :: 101 :: 32 :: 105 :: 32 :: 60 :: 32 :: digK q))
  have a9 := cat_size (n := 540) a8 z9
  generalize A8 ++ lnS 4 (119 :: 104 :: 105 :: 108 :: 101 :: 32 :: 105 :: 32 :: 60 :: 32 :: digK q) = A9 at *
  clear z9 E8 a8
  have z10 : (lnS 5 [115, 101, 113]).size ≤ 60 := by rw [lnS_size]; decide
  refine (ln_at ⟨#[115, 101, 113]⟩ [115, 101, 113] rfl 5 5 rfl (by decide) (by decide) _).mono ?_
  rintro e wx ⟨rfl, hw⟩
  have hw := hw.symm
  subst hw
  go_wp2_with fail
  have E10 := hide (cat_at E9.out 5 [115, 101, 113])
  have a10 := cat_size (n := 600) a9 z10
  generalize A9 ++ lnS 5 [115, 101, 113] = A10 at *
  clear z10 E9 a9
  have z11 : (lnS 6 [100, 32, 33, 32, 105, 32, 43, 32, 49, 48, 48]).size ≤ 60 := by rw [lnS_size]; decide
  refine (ln_at ⟨#[100, 32, 33, 32, 105, 32, 43, 32, 49, 48, 48]⟩ [100, 32, 33, 32, 105, 32, 43, 32, 49, 48, 48] rfl 6 6 rfl (by decide) (by decide) _).mono ?_
  rintro e wx ⟨rfl, hw⟩
  have hw := hw.symm
  subst hw
  go_wp2_with fail
  have E11 := hide (cat_at E10.out 6 [100, 32, 33, 32, 105, 32, 43, 32, 49, 48, 48])
  have a11 := cat_size (n := 660) a10 z11
  generalize A10 ++ lnS 6 [100, 32, 33, 32, 105, 32, 43, 32, 49, 48, 48] = A11 at *
  clear z11 E10 a10
  have z12 : (lnS 6 [105, 32, 58, 61, 32, 105, 32, 43, 32, 49]).size ≤ 60 := by rw [lnS_size]; decide
  refine (ln_at ⟨#[105, 32, 58, 61, 32, 105, 32, 43, 32, 49]⟩ [105, 32, 58, 61, 32, 105, 32, 43, 32, 49] rfl 6 6 rfl (by decide) (by decide) _).mono ?_
  rintro e wx ⟨rfl, hw⟩
  have hw := hw.symm
  subst hw
  go_wp2_with fail
  have E12 := hide (cat_at E11.out 6 [105, 32, 58, 61, 32, 105, 32, 43, 32, 49])
  have a12 := cat_size (n := 720) a11 z12
  generalize A11 ++ lnS 6 [105, 32, 58, 61, 32, 105, 32, 43, 32, 49] = A12 at *
  clear z12 E11 a11
  have z13 : (lnS 3 [118, 97, 114, 32, 120]).size ≤ 60 := by rw [lnS_size]; decide
  refine (ln_at ⟨#[118, 97, 114, 32, 120]⟩ [118, 97, 114, 32, 120] rfl 3 3 rfl (by decide) (by decide) _).mono ?_
  rintro e wx ⟨rfl, hw⟩
  have hw := hw.symm
  subst hw
  go_wp2_with fail
  have E13 := hide (cat_at E12.out 3 [118, 97, 114, 32, 120])
  have a13 := cat_size (n := 780) a12 z13
  generalize A12 ++ lnS 3 [118, 97, 114, 32, 120] = A13 at *
  clear z13 E12 a12
  have z14 : (lnS 4 [118, 97, 114, 32, 107]).size ≤ 60 := by rw [lnS_size]; decide
  refine (ln_at ⟨#[118, 97, 114, 32, 107]⟩ [118, 97, 114, 32, 107] rfl 4 4 rfl (by decide) (by decide) _).mono ?_
  rintro e wx ⟨rfl, hw⟩
  have hw := hw.symm
  subst hw
  go_wp2_with fail
  have E14 := hide (cat_at E13.out 4 [118, 97, 114, 32, 107])
  have a14 := cat_size (n := 840) a13 z14
  generalize A13 ++ lnS 4 [118, 97, 114, 32, 107] = A14 at *
  clear z14 E13 a13
  refine (numK_at (p + q) (by omega) ((p : Int) + (q : Int)) (by omega) _).mono ?_
  rintro e wx ⟨rfl, hw⟩
  have hw := hw.symm
  subst hw
  go_wp2_with fail
  have z15 : (lnS 5 (119 :: 104 :: 105 :: 108 :: 101 :: 32 :: 107 :: 32 :: 60 :: 32 :: digK (p + q))).size ≤ 60 := by rw [lnS_size]; simp; omega
  have hb15 : (⟨#[119, 104, 105, 108, 101, 32, 107, 32, 60, 32]⟩ ++ ⟨(digK (p + q)).toArray⟩ : ByteArray) = ⟨(119 :: 104 :: 105 :: 108 :: 101 :: 32 :: 107 :: 32 :: 60 :: 32 :: digK (p + q)).toArray⟩ := ba_append [119, 104, 105, 108, 101, 32, 107, 32, 60, 32] (digK (p + q))
  have hl15 : (119 :: 104 :: 105 :: 108 :: 101 :: 32 :: 107 :: 32 :: 60 :: 32 :: digK (p + q)).length ≤ 1000 := by simp; omega
  have KK15 := hide (ln_at (⟨#[119, 104, 105, 108, 101, 32, 107, 32, 60, 32]⟩ ++ ⟨(digK (p + q)).toArray⟩) (119 :: 104 :: 105 :: 108 :: 101 :: 32 :: 107 :: 32 :: 60 :: 32 :: digK (p + q)) hb15 5 5 rfl (by decide) hl15)
  clear hb15 hl15
  refine (KK15.out _).mono ?_
  clear KK15
  rintro e wx ⟨rfl, hw⟩
  have hw := hw.symm
  subst hw
  go_wp2_with fail
  have E15 := hide (cat_at E14.out 5 (119 :: 104 :: 105 :: 108 :: 101 :: 32 :: 107 :: 32 :: 60 :: 32 :: digK (p + q)))
  have a15 := cat_size (n := 900) a14 z15
  generalize A14 ++ lnS 5 (119 :: 104 :: 105 :: 108 :: 101 :: 32 :: 107 :: 32 :: 60 :: 32 :: digK (p + q)) = A15 at *
  clear z15 E14 a14
  have z16 : (lnS 6 [115, 101, 113]).size ≤ 60 := by rw [lnS_size]; decide
  refine (ln_at ⟨#[115, 101, 113]⟩ [115, 101, 113] rfl 6 6 rfl (by decide) (by decide) _).mono ?_
  rintro e wx ⟨rfl, hw⟩
  have hw := hw.symm
  subst hw
  go_wp2_with fail
  have E16 := hide (cat_at E15.out 6 [115, 101, 113])
  have a16 := cat_size (n := 960) a15 z16
  generalize A15 ++ lnS 6 [115, 101, 113] = A16 at *
  clear z16 E15 a15
  have z17 : (lnS 7 [97, 108, 116]).size ≤ 60 := by rw [lnS_size]; decide
  refine (ln_at ⟨#[97, 108, 116]⟩ [97, 108, 116] rfl 7 7 rfl (by decide) (by decide) _).mono ?_
  rintro e wx ⟨rfl, hw⟩
  have hw := hw.symm
  subst hw
  go_wp2_with fail
  have E17 := hide (cat_at E16.out 7 [97, 108, 116])
  have a17 := cat_size (n := 1020) a16 z17
  generalize A16 ++ lnS 7 [97, 108, 116] = A17 at *
  clear z17 E16 a16
  have z18 : (lnS 8 [111, 110, 32, 99, 32, 63, 32, 120]).size ≤ 60 := by rw [lnS_size]; decide
  refine (ln_at ⟨#[111, 110, 32, 99, 32, 63, 32, 120]⟩ [111, 110, 32, 99, 32, 63, 32, 120] rfl 8 8 rfl (by decide) (by decide) _).mono ?_
  rintro e wx ⟨rfl, hw⟩
  have hw := hw.symm
  subst hw
  go_wp2_with fail
  have E18 := hide (cat_at E17.out 8 [111, 110, 32, 99, 32, 63, 32, 120])
  have a18 := cat_size (n := 1080) a17 z18
  generalize A17 ++ lnS 8 [111, 110, 32, 99, 32, 63, 32, 120] = A18 at *
  clear z18 E17 a17
  have z19 : (lnS 9 [111, 117, 116, 32, 33, 32, 120]).size ≤ 60 := by rw [lnS_size]; decide
  refine (ln_at ⟨#[111, 117, 116, 32, 33, 32, 120]⟩ [111, 117, 116, 32, 33, 32, 120] rfl 9 9 rfl (by decide) (by decide) _).mono ?_
  rintro e wx ⟨rfl, hw⟩
  have hw := hw.symm
  subst hw
  go_wp2_with fail
  have E19 := hide (cat_at E18.out 9 [111, 117, 116, 32, 33, 32, 120])
  have a19 := cat_size (n := 1140) a18 z19
  generalize A18 ++ lnS 9 [111, 117, 116, 32, 33, 32, 120] = A19 at *
  clear z19 E18 a18
  have z20 : (lnS 8 [111, 110, 32, 49, 32, 38, 32, 100, 32, 63, 32, 120]).size ≤ 60 := by rw [lnS_size]; decide
  refine (ln_at ⟨#[111, 110, 32, 49, 32, 38, 32, 100, 32, 63, 32, 120]⟩ [111, 110, 32, 49, 32, 38, 32, 100, 32, 63, 32, 120] rfl 8 8 rfl (by decide) (by decide) _).mono ?_
  rintro e wx ⟨rfl, hw⟩
  have hw := hw.symm
  subst hw
  go_wp2_with fail
  have E20 := hide (cat_at E19.out 8 [111, 110, 32, 49, 32, 38, 32, 100, 32, 63, 32, 120])
  have a20 := cat_size (n := 1200) a19 z20
  generalize A19 ++ lnS 8 [111, 110, 32, 49, 32, 38, 32, 100, 32, 63, 32, 120] = A20 at *
  clear z20 E19 a19
  have z21 : (lnS 9 [111, 117, 116, 32, 33, 32, 120]).size ≤ 60 := by rw [lnS_size]; decide
  refine (ln_at ⟨#[111, 117, 116, 32, 33, 32, 120]⟩ [111, 117, 116, 32, 33, 32, 120] rfl 9 9 rfl (by decide) (by decide) _).mono ?_
  rintro e wx ⟨rfl, hw⟩
  have hw := hw.symm
  subst hw
  go_wp2_with fail
  have E21 := hide (cat_at E20.out 9 [111, 117, 116, 32, 33, 32, 120])
  have a21 := cat_size (n := 1260) a20 z21
  generalize A20 ++ lnS 9 [111, 117, 116, 32, 33, 32, 120] = A21 at *
  clear z21 E20 a20
  have z22 : (lnS 7 [107, 32, 58, 61, 32, 107, 32, 43, 32, 49]).size ≤ 60 := by rw [lnS_size]; decide
  refine (ln_at ⟨#[107, 32, 58, 61, 32, 107, 32, 43, 32, 49]⟩ [107, 32, 58, 61, 32, 107, 32, 43, 32, 49] rfl 7 7 rfl (by decide) (by decide) _).mono ?_
  rintro e wx ⟨rfl, hw⟩
  have hw := hw.symm
  subst hw
  go_wp2_with fail
  have E22 := hide (cat_at E21.out 7 [107, 32, 58, 61, 32, 107, 32, 43, 32, 49])
  have a22 := cat_size (n := 1320) a21 z22
  generalize A21 ++ lnS 7 [107, 32, 58, 61, 32, 107, 32, 43, 32, 49] = A22 at *
  clear z22 E21 a21
  refine (T.out A22 (by rw [E22.out]; simp only [itText, meItems, flatL, kL, Itm.line, List.map_cons, List.map_nil, List.flatMap_cons, List.flatMap_nil, List.append_assoc, List.append_nil]; rfl)).mono ?_
  rintro e w1 ⟨out, va, cc, rfl, q1, b1, c1, l1⟩
  have Q1 := hide (meEnd_of q1)
  have B1 := hide b1
  have C1 := hide c1
  clear q1 b1 c1 E22 T D1 D2 D3 P1 P2 P3
  go_wp2_with fail
  go_loop [15, 16, 17] (fun y z i => ∃ (k : Nat) (a b : Int), k ≤ out.length ∧ i = .int .i64 k ∧ y = .int .i64 a ∧ z = .int .i64 b ∧ 0 ≤ a ∧ 0 ≤ b ∧ meCount (out.drop k) a b = some ((p : Int), (q : Int))) (fun _ _ i => out.length - (intOf i).toNat)
  case atStart => exact ⟨0, 0, 0, Nat.zero_le _, rfl, rfl, rfl, by omega, by omega, C1.out⟩
  case round =>
    obtain ⟨k, a, b, hk, rfl, rfl, rfl, a0, b0, hc⟩ := hrel
    have hab := meCount_at _ _ _ _ _ hc
    by_cases hlt : k < out.length
    · obtain ⟨gb, off, hva, hcell⟩ := Q1.out k hlt
      subst hva
      rcases meCount_drop out k hlt a b _ hc with ⟨e1, h1⟩ | ⟨e1, e2, h1⟩
      · have H1 := hide h1
        have t1 : (out.getD k 0 == a) = true := by simpa using e1
        clear h1 hc C1 e1
        generalize out.getD k 0 = x at *
        go_wp2
        go_round
        case rel => exact ⟨k + 1, a + 1, b, by omega, by go_num, rfl, rfl, by omega, by omega, H1.out⟩
        case measure => simp [intOf]; omega
      · have H1 := hide h1
        have t1 : (out.getD k 0 == a) = false := by simpa using e1
        have t2 : (out.getD k 0 == b + 100) = true := by simpa using e2
        clear h1 hc C1 e1 e2
        generalize out.getD k 0 = x at *
        go_wp2
        go_round
        case rel => exact ⟨k + 1, a, b + 1, by omega, by go_num, rfl, rfl, by omega, by omega, H1.out⟩
        case measure => simp [intOf]; omega
    · have hz : out.drop k = [] := List.drop_eq_nil_of_le (by omega)
      rw [hz] at hc
      have hc : some (a, b) = some ((p : Int), (q : Int)) := hc
      injection hc with hc
      injection hc with hc1 hc2
      subst hc1
      subst hc2
      clear C1 hz
      go_wp2
      go_ret
      exact ⟨rfl, B1.out⟩
end Go.Proofs.YtnhidaamfnjdjaaGreatDoor
/- MERGED: the law, walked, guards 3. Written by wip/genmer.py. -/
namespace Go.Proofs.YtnhidaamfnjdjaaGreatDoor
open Go.RowKit Go.Maps

set_option maxRecDepth 20000 in
set_option maxHeartbeats 8000000 in
theorem Merged_3 (x1 x2 x3 : Int) (r1 : -9223372036854775808 ≤ x1 ∧ x1 ≤ 9223372036854775807) (r2 : -9223372036854775808 ≤ x2 ∧ x2 ≤ 9223372036854775807) (r3 : -9223372036854775808 ≤ x3 ∧ x3 ≤ 9223372036854775807) (e3 : pickN x3 4 = 3) (w : World) (m : Int) (hm : w.cell? ⟨0, 0, none⟩ = some (.int .i64 m)) :
    Calls Tryz.prog 12 #[.int .i64 x1, .int .i64 x2, .int .i64 x3] w fun e w' => e = .returned (.bool true) ∧ Below w.heap.size w w' := by
  have hp := pickN_lt x1 12 (by decide)
  have hq := pickN_lt x2 12 (by decide)
  generalize e1 : pickN x1 12 = p at *
  generalize e2 : pickN x2 12 = q at *
  have P1 := hide (pickN_at x1 r1.1 r1.2 12 (by decide) (by decide) 12 rfl p e1)
  have P2 := hide (pickN_at x2 r2.1 r2.2 12 (by decide) (by decide) 12 rfl q e2)
  have P3 := hide (pickN_at x3 r3.1 r3.2 4 (by decide) (by decide) 4 rfl 3 e3)
  have T := hide (fun b hb => meTold p q 3 hp hq (by decide) w m hm b hb)
  have y1 := digK_size p
  have y2 := digK_size q
  have y3 := digK_size (p + q)
  have D1 := digK_len p
  have D2 := digK_len q
  have D3 := digK_len (p + q)
  clear e1 e2 e3 hm r1 r2 r3
  go_enter Tryz.func12, Tryz.ntmps12
  go_wp2_with fail
  refine (P1.out _).mono ?_
  rintro e wx ⟨rfl, hw⟩
  have hw := hw.symm
  subst hw
  go_wp2_with fail
  refine (P2.out _).mono ?_
  rintro e wx ⟨rfl, hw⟩
  have hw := hw.symm
  subst hw
  go_wp2_with fail
  refine (P3.out _).mono ?_
  rintro e wx ⟨rfl, hw⟩
  have hw := hw.symm
  subst hw
  go_wp2_with fail
  have z0 : (lnS 0 [99, 104, 97, 110, 32, 99]).size ≤ 60 := by rw [lnS_size]; decide
  refine (ln_at ⟨#[99, 104, 97, 110, 32, 99]⟩ [99, 104, 97, 110, 32, 99] rfl 0 0 rfl (by decide) (by decide) _).mono ?_
  rintro e wx ⟨rfl, hw⟩
  have hw := hw.symm
  subst hw
  go_wp2_with fail
  have E0 := hide (show lnS 0 [99, 104, 97, 110, 32, 99] = ⟨(kL 0 [99, 104, 97, 110, 32, 99]).toArray⟩ from rfl)
  generalize lnS 0 [99, 104, 97, 110, 32, 99] = A0 at *
  have z1 : (lnS 1 [99, 104, 97, 110, 32, 100]).size ≤ 60 := by rw [lnS_size]; decide
  refine (ln_at ⟨#[99, 104, 97, 110, 32, 100]⟩ [99, 104, 97, 110, 32, 100] rfl 1 1 rfl (by decide) (by decide) _).mono ?_
  rintro e wx ⟨rfl, hw⟩
  have hw := hw.symm
  subst hw
  go_wp2_with fail
  have E1 := hide (cat_at E0.out 1 [99, 104, 97, 110, 32, 100])
  have a1 := cat_size (n := 60) z0 z1
  generalize A0 ++ lnS 1 [99, 104, 97, 110, 32, 100] = A1 at *
  clear z1 E0
  have z2 : (lnS 2 [112, 97, 114]).size ≤ 60 := by rw [lnS_size]; decide
  refine (ln_at ⟨#[112, 97, 114]⟩ [112, 97, 114] rfl 2 2 rfl (by decide) (by decide) _).mono ?_
  rintro e wx ⟨rfl, hw⟩
  have hw := hw.symm
  subst hw
  go_wp2_with fail
  have E2 := hide (cat_at E1.out 2 [112, 97, 114])
  have a2 := cat_size (n := 120) a1 z2
  generalize A1 ++ lnS 2 [112, 97, 114] = A2 at *
  clear z2 E1 a1
  have z3 : (lnS 3 [118, 97, 114, 32, 105]).size ≤ 60 := by rw [lnS_size]; decide
  refine (ln_at ⟨#[118, 97, 114, 32, 105]⟩ [118, 97, 114, 32, 105] rfl 3 3 rfl (by decide) (by decide) _).mono ?_
  rintro e wx ⟨rfl, hw⟩
  have hw := hw.symm
  subst hw
  go_wp2_with fail
  have E3 := hide (cat_at E2.out 3 [118, 97, 114, 32, 105])
  have a3 := cat_size (n := 180) a2 z3
  generalize A2 ++ lnS 3 [118, 97, 114, 32, 105] = A3 at *
  clear z3 E2 a2
  refine (numK_any p (by omega) _).mono ?_
  rintro e wx ⟨rfl, hw⟩
  have hw := hw.symm
  subst hw
  go_wp2_with fail
  have z4 : (lnS 4 (119 :: 104 :: 105 :: 108 :: 101 :: 32 :: 105 :: 32 :: 60 :: 32 :: digK p)).size ≤ 60 := by rw [lnS_size]; simp; omega
  have hb4 : (⟨#[119, 104, 105, 108, 101, 32, 105, 32, 60, 32]⟩ ++ ⟨(digK p).toArray⟩ : ByteArray) = ⟨(119 :: 104 :: 105 :: 108 :: 101 :: 32 :: 105 :: 32 :: 60 :: 32 :: digK p).toArray⟩ := ba_append [119, 104, 105, 108, 101, 32, 105, 32, 60, 32] (digK p)
  have hl4 : (119 :: 104 :: 105 :: 108 :: 101 :: 32 :: 105 :: 32 :: 60 :: 32 :: digK p).length ≤ 1000 := by simp; omega
  have KK4 := hide (ln_at (⟨#[119, 104, 105, 108, 101, 32, 105, 32, 60, 32]⟩ ++ ⟨(digK p).toArray⟩) (119 :: 104 :: 105 :: 108 :: 101 :: 32 :: 105 :: 32 :: 60 :: 32 :: digK p) hb4 4 4 rfl (by decide) hl4)
  clear hb4 hl4
  refine (KK4.out _).mono ?_
  clear KK4
  rintro e wx ⟨rfl, hw⟩
  have hw := hw.symm
  subst hw
  go_wp2_with fail
  have E4 := hide (cat_at E3.out 4 (119 :: 104 :: 105 :: 108 :: 101 :: 32 :: 105 :: 32 :: 60 :: 32 :: digK p))
  have a4 := cat_size (n := 240) a3 z4
  generalize A3 ++ lnS 4 (119 :: 104 :: 105 :: 108 :: 101 :: 32 :: 105 :: 32 :: 60 :: 32 :: digK p) = A4 at *
  clear z4 E3 a3
  have z5 : (lnS 5 [115, 101, 113]).size ≤ 60 := by rw [lnS_size]; decide
  refine (ln_at ⟨#[115, 101, 113]⟩ [115, 101, 113] rfl 5 5 rfl (by decide) (by decide) _).mono ?_
  rintro e wx ⟨rfl, hw⟩
  have hw := hw.symm
  subst hw
  go_wp2_with fail
  have E5 := hide (cat_at E4.out 5 [115, 101, 113])
  have a5 := cat_size (n := 300) a4 z5
  generalize A4 ++ lnS 5 [115, 101, 113] = A5 at *
  clear z5 E4 a4
  have z6 : (lnS 6 [99, 32, 33, 32, 105]).size ≤ 60 := by rw [lnS_size]; decide
  refine (ln_at ⟨#[99, 32, 33, 32, 105]⟩ [99, 32, 33, 32, 105] rfl 6 6 rfl (by decide) (by decide) _).mono ?_
  rintro e wx ⟨rfl, hw⟩
  have hw := hw.symm
  subst hw
  go_wp2_with fail
  have E6 := hide (cat_at E5.out 6 [99, 32, 33, 32, 105])
  have a6 := cat_size (n := 360) a5 z6
  generalize A5 ++ lnS 6 [99, 32, 33, 32, 105] = A6 at *
  clear z6 E5 a5
  have z7 : (lnS 6 [105, 32, 58, 61, 32, 105, 32, 43, 32, 49]).size ≤ 60 := by rw [lnS_size]; decide
  refine (ln_at ⟨#[105, 32, 58, 61, 32, 105, 32, 43, 32, 49]⟩ [105, 32, 58, 61, 32, 105, 32, 43, 32, 49] rfl 6 6 rfl (by decide) (by decide) _).mono ?_
  rintro e wx ⟨rfl, hw⟩
  have hw := hw.symm
  subst hw
  go_wp2_with fail
  have E7 := hide (cat_at E6.out 6 [105, 32, 58, 61, 32, 105, 32, 43, 32, 49])
  have a7 := cat_size (n := 420) a6 z7
  generalize A6 ++ lnS 6 [105, 32, 58, 61, 32, 105, 32, 43, 32, 49] = A7 at *
  clear z7 E6 a6
  have z8 : (lnS 3 [118, 97, 114, 32, 105]).size ≤ 60 := by rw [lnS_size]; decide
  refine (ln_at ⟨#[118, 97, 114, 32, 105]⟩ [118, 97, 114, 32, 105] rfl 3 3 rfl (by decide) (by decide) _).mono ?_
  rintro e wx ⟨rfl, hw⟩
  have hw := hw.symm
  subst hw
  go_wp2_with fail
  have E8 := hide (cat_at E7.out 3 [118, 97, 114, 32, 105])
  have a8 := cat_size (n := 480) a7 z8
  generalize A7 ++ lnS 3 [118, 97, 114, 32, 105] = A8 at *
  clear z8 E7 a7
  refine (numK_any q (by omega) _).mono ?_
  rintro e wx ⟨rfl, hw⟩
  have hw := hw.symm
  subst hw
  go_wp2_with fail
  have z9 : (lnS 4 (119 :: 104 :: 105 :: 108 :: 101 :: 32 :: 105 :: 32 :: 60 :: 32 :: digK q)).size ≤ 60 := by rw [lnS_size]; simp; omega
  have hb9 : (⟨#[119, 104, 105, 108, 101, 32, 105, 32, 60, 32]⟩ ++ ⟨(digK q).toArray⟩ : ByteArray) = ⟨(119 :: 104 :: 105 :: 108 :: 101 :: 32 :: 105 :: 32 :: 60 :: 32 :: digK q).toArray⟩ := ba_append [119, 104, 105, 108, 101, 32, 105, 32, 60, 32] (digK q)
  have hl9 : (119 :: 104 :: 105 :: 108 :: 101 :: 32 :: 105 :: 32 :: 60 :: 32 :: digK q).length ≤ 1000 := by simp; omega
  have KK9 := hide (ln_at (⟨#[119, 104, 105, 108, 101, 32, 105, 32, 60, 32]⟩ ++ ⟨(digK q).toArray⟩) (119 :: 104 :: 105 :: 108 :: 101 :: 32 :: 105 :: 32 :: 60 :: 32 :: digK q) hb9 4 4 rfl (by decide) hl9)
  clear hb9 hl9
  refine (KK9.out _).mono ?_
  clear KK9
  rintro e wx ⟨rfl, hw⟩
  have hw := hw.symm
  subst hw
  go_wp2_with fail
  have E9 := hide (cat_at E8.out 4 (119 :: 104 :: 105 :: 108 :: 101 :: 32 :: 105 :: 32 :: 60 :: 32 :: digK q))
  have a9 := cat_size (n := 540) a8 z9
  generalize A8 ++ lnS 4 (119 :: 104 :: 105 :: 108 :: 101 :: 32 :: 105 :: 32 :: 60 :: 32 :: digK q) = A9 at *
  clear z9 E8 a8
  have z10 : (lnS 5 [115, 101, 113]).size ≤ 60 := by rw [lnS_size]; decide
  refine (ln_at ⟨#[115, 101, 113]⟩ [115, 101, 113] rfl 5 5 rfl (by decide) (by decide) _).mono ?_
  rintro e wx ⟨rfl, hw⟩
  have hw := hw.symm
  subst hw
  go_wp2_with fail
  have E10 := hide (cat_at E9.out 5 [115, 101, 113])
  have a10 := cat_size (n := 600) a9 z10
  generalize A9 ++ lnS 5 [115, 101, 113] = A10 at *
  clear z10 E9 a9
  have z11 : (lnS 6 [100, 32, 33, 32, 105, 32, 43, 32, 49, 48, 48]).size ≤ 60 := by rw [lnS_size]; decide
  refine (ln_at ⟨#[100, 32, 33, 32, 105, 32, 43, 32, 49, 48, 48]⟩ [100, 32, 33, 32, 105, 32, 43, 32, 49, 48, 48] rfl 6 6 rfl (by decide) (by decide) _).mono ?_
  rintro e wx ⟨rfl, hw⟩
  have hw := hw.symm
  subst hw
  go_wp2_with fail
  have E11 := hide (cat_at E10.out 6 [100, 32, 33, 32, 105, 32, 43, 32, 49, 48, 48])
  have a11 := cat_size (n := 660) a10 z11
  generalize A10 ++ lnS 6 [100, 32, 33, 32, 105, 32, 43, 32, 49, 48, 48] = A11 at *
  clear z11 E10 a10
  have z12 : (lnS 6 [105, 32, 58, 61, 32, 105, 32, 43, 32, 49]).size ≤ 60 := by rw [lnS_size]; decide
  refine (ln_at ⟨#[105, 32, 58, 61, 32, 105, 32, 43, 32, 49]⟩ [105, 32, 58, 61, 32, 105, 32, 43, 32, 49] rfl 6 6 rfl (by decide) (by decide) _).mono ?_
  rintro e wx ⟨rfl, hw⟩
  have hw := hw.symm
  subst hw
  go_wp2_with fail
  have E12 := hide (cat_at E11.out 6 [105, 32, 58, 61, 32, 105, 32, 43, 32, 49])
  have a12 := cat_size (n := 720) a11 z12
  generalize A11 ++ lnS 6 [105, 32, 58, 61, 32, 105, 32, 43, 32, 49] = A12 at *
  clear z12 E11 a11
  have z13 : (lnS 3 [118, 97, 114, 32, 120]).size ≤ 60 := by rw [lnS_size]; decide
  refine (ln_at ⟨#[118, 97, 114, 32, 120]⟩ [118, 97, 114, 32, 120] rfl 3 3 rfl (by decide) (by decide) _).mono ?_
  rintro e wx ⟨rfl, hw⟩
  have hw := hw.symm
  subst hw
  go_wp2_with fail
  have E13 := hide (cat_at E12.out 3 [118, 97, 114, 32, 120])
  have a13 := cat_size (n := 780) a12 z13
  generalize A12 ++ lnS 3 [118, 97, 114, 32, 120] = A13 at *
  clear z13 E12 a12
  have z14 : (lnS 4 [118, 97, 114, 32, 107]).size ≤ 60 := by rw [lnS_size]; decide
  refine (ln_at ⟨#[118, 97, 114, 32, 107]⟩ [118, 97, 114, 32, 107] rfl 4 4 rfl (by decide) (by decide) _).mono ?_
  rintro e wx ⟨rfl, hw⟩
  have hw := hw.symm
  subst hw
  go_wp2_with fail
  have E14 := hide (cat_at E13.out 4 [118, 97, 114, 32, 107])
  have a14 := cat_size (n := 840) a13 z14
  generalize A13 ++ lnS 4 [118, 97, 114, 32, 107] = A14 at *
  clear z14 E13 a13
  refine (numK_at (p + q) (by omega) ((p : Int) + (q : Int)) (by omega) _).mono ?_
  rintro e wx ⟨rfl, hw⟩
  have hw := hw.symm
  subst hw
  go_wp2_with fail
  have z15 : (lnS 5 (119 :: 104 :: 105 :: 108 :: 101 :: 32 :: 107 :: 32 :: 60 :: 32 :: digK (p + q))).size ≤ 60 := by rw [lnS_size]; simp; omega
  have hb15 : (⟨#[119, 104, 105, 108, 101, 32, 107, 32, 60, 32]⟩ ++ ⟨(digK (p + q)).toArray⟩ : ByteArray) = ⟨(119 :: 104 :: 105 :: 108 :: 101 :: 32 :: 107 :: 32 :: 60 :: 32 :: digK (p + q)).toArray⟩ := ba_append [119, 104, 105, 108, 101, 32, 107, 32, 60, 32] (digK (p + q))
  have hl15 : (119 :: 104 :: 105 :: 108 :: 101 :: 32 :: 107 :: 32 :: 60 :: 32 :: digK (p + q)).length ≤ 1000 := by simp; omega
  have KK15 := hide (ln_at (⟨#[119, 104, 105, 108, 101, 32, 107, 32, 60, 32]⟩ ++ ⟨(digK (p + q)).toArray⟩) (119 :: 104 :: 105 :: 108 :: 101 :: 32 :: 107 :: 32 :: 60 :: 32 :: digK (p + q)) hb15 5 5 rfl (by decide) hl15)
  clear hb15 hl15
  refine (KK15.out _).mono ?_
  clear KK15
  rintro e wx ⟨rfl, hw⟩
  have hw := hw.symm
  subst hw
  go_wp2_with fail
  have E15 := hide (cat_at E14.out 5 (119 :: 104 :: 105 :: 108 :: 101 :: 32 :: 107 :: 32 :: 60 :: 32 :: digK (p + q)))
  have a15 := cat_size (n := 900) a14 z15
  generalize A14 ++ lnS 5 (119 :: 104 :: 105 :: 108 :: 101 :: 32 :: 107 :: 32 :: 60 :: 32 :: digK (p + q)) = A15 at *
  clear z15 E14 a14
  have z16 : (lnS 6 [115, 101, 113]).size ≤ 60 := by rw [lnS_size]; decide
  refine (ln_at ⟨#[115, 101, 113]⟩ [115, 101, 113] rfl 6 6 rfl (by decide) (by decide) _).mono ?_
  rintro e wx ⟨rfl, hw⟩
  have hw := hw.symm
  subst hw
  go_wp2_with fail
  have E16 := hide (cat_at E15.out 6 [115, 101, 113])
  have a16 := cat_size (n := 960) a15 z16
  generalize A15 ++ lnS 6 [115, 101, 113] = A16 at *
  clear z16 E15 a15
  have z17 : (lnS 7 [97, 108, 116]).size ≤ 60 := by rw [lnS_size]; decide
  refine (ln_at ⟨#[97, 108, 116]⟩ [97, 108, 116] rfl 7 7 rfl (by decide) (by decide) _).mono ?_
  rintro e wx ⟨rfl, hw⟩
  have hw := hw.symm
  subst hw
  go_wp2_with fail
  have E17 := hide (cat_at E16.out 7 [97, 108, 116])
  have a17 := cat_size (n := 1020) a16 z17
  generalize A16 ++ lnS 7 [97, 108, 116] = A17 at *
  clear z17 E16 a16
  have z18 : (lnS 8 [111, 110, 32, 40, 107, 32, 60, 32, 57, 57, 41, 32, 38, 32, 99, 32, 63, 32, 120]).size ≤ 60 := by rw [lnS_size]; decide
  refine (ln_at ⟨#[111, 110, 32, 40, 107, 32, 60, 32, 57, 57, 41, 32, 38, 32, 99, 32, 63, 32, 120]⟩ [111, 110, 32, 40, 107, 32, 60, 32, 57, 57, 41, 32, 38, 32, 99, 32, 63, 32, 120] rfl 8 8 rfl (by decide) (by decide) _).mono ?_
  rintro e wx ⟨rfl, hw⟩
  have hw := hw.symm
  subst hw
  go_wp2_with fail
  have E18 := hide (cat_at E17.out 8 [111, 110, 32, 40, 107, 32, 60, 32, 57, 57, 41, 32, 38, 32, 99, 32, 63, 32, 120])
  have a18 := cat_size (n := 1080) a17 z18
  generalize A17 ++ lnS 8 [111, 110, 32, 40, 107, 32, 60, 32, 57, 57, 41, 32, 38, 32, 99, 32, 63, 32, 120] = A18 at *
  clear z18 E17 a17
  have z19 : (lnS 9 [111, 117, 116, 32, 33, 32, 120]).size ≤ 60 := by rw [lnS_size]; decide
  refine (ln_at ⟨#[111, 117, 116, 32, 33, 32, 120]⟩ [111, 117, 116, 32, 33, 32, 120] rfl 9 9 rfl (by decide) (by decide) _).mono ?_
  rintro e wx ⟨rfl, hw⟩
  have hw := hw.symm
  subst hw
  go_wp2_with fail
  have E19 := hide (cat_at E18.out 9 [111, 117, 116, 32, 33, 32, 120])
  have a19 := cat_size (n := 1140) a18 z19
  generalize A18 ++ lnS 9 [111, 117, 116, 32, 33, 32, 120] = A19 at *
  clear z19 E18 a18
  have z20 : (lnS 8 [111, 110, 32, 49, 32, 38, 32, 100, 32, 63, 32, 120]).size ≤ 60 := by rw [lnS_size]; decide
  refine (ln_at ⟨#[111, 110, 32, 49, 32, 38, 32, 100, 32, 63, 32, 120]⟩ [111, 110, 32, 49, 32, 38, 32, 100, 32, 63, 32, 120] rfl 8 8 rfl (by decide) (by decide) _).mono ?_
  rintro e wx ⟨rfl, hw⟩
  have hw := hw.symm
  subst hw
  go_wp2_with fail
  have E20 := hide (cat_at E19.out 8 [111, 110, 32, 49, 32, 38, 32, 100, 32, 63, 32, 120])
  have a20 := cat_size (n := 1200) a19 z20
  generalize A19 ++ lnS 8 [111, 110, 32, 49, 32, 38, 32, 100, 32, 63, 32, 120] = A20 at *
  clear z20 E19 a19
  have z21 : (lnS 9 [111, 117, 116, 32, 33, 32, 120]).size ≤ 60 := by rw [lnS_size]; decide
  refine (ln_at ⟨#[111, 117, 116, 32, 33, 32, 120]⟩ [111, 117, 116, 32, 33, 32, 120] rfl 9 9 rfl (by decide) (by decide) _).mono ?_
  rintro e wx ⟨rfl, hw⟩
  have hw := hw.symm
  subst hw
  go_wp2_with fail
  have E21 := hide (cat_at E20.out 9 [111, 117, 116, 32, 33, 32, 120])
  have a21 := cat_size (n := 1260) a20 z21
  generalize A20 ++ lnS 9 [111, 117, 116, 32, 33, 32, 120] = A21 at *
  clear z21 E20 a20
  have z22 : (lnS 7 [107, 32, 58, 61, 32, 107, 32, 43, 32, 49]).size ≤ 60 := by rw [lnS_size]; decide
  refine (ln_at ⟨#[107, 32, 58, 61, 32, 107, 32, 43, 32, 49]⟩ [107, 32, 58, 61, 32, 107, 32, 43, 32, 49] rfl 7 7 rfl (by decide) (by decide) _).mono ?_
  rintro e wx ⟨rfl, hw⟩
  have hw := hw.symm
  subst hw
  go_wp2_with fail
  have E22 := hide (cat_at E21.out 7 [107, 32, 58, 61, 32, 107, 32, 43, 32, 49])
  have a22 := cat_size (n := 1320) a21 z22
  generalize A21 ++ lnS 7 [107, 32, 58, 61, 32, 107, 32, 43, 32, 49] = A22 at *
  clear z22 E21 a21
  refine (T.out A22 (by rw [E22.out]; simp only [itText, meItems, flatL, kL, Itm.line, List.map_cons, List.map_nil, List.flatMap_cons, List.flatMap_nil, List.append_assoc, List.append_nil]; rfl)).mono ?_
  rintro e w1 ⟨out, va, cc, rfl, q1, b1, c1, l1⟩
  have Q1 := hide (meEnd_of q1)
  have B1 := hide b1
  have C1 := hide c1
  clear q1 b1 c1 E22 T D1 D2 D3 P1 P2 P3
  go_wp2_with fail
  go_loop [15, 16, 17] (fun y z i => ∃ (k : Nat) (a b : Int), k ≤ out.length ∧ i = .int .i64 k ∧ y = .int .i64 a ∧ z = .int .i64 b ∧ 0 ≤ a ∧ 0 ≤ b ∧ meCount (out.drop k) a b = some ((p : Int), (q : Int))) (fun _ _ i => out.length - (intOf i).toNat)
  case atStart => exact ⟨0, 0, 0, Nat.zero_le _, rfl, rfl, rfl, by omega, by omega, C1.out⟩
  case round =>
    obtain ⟨k, a, b, hk, rfl, rfl, rfl, a0, b0, hc⟩ := hrel
    have hab := meCount_at _ _ _ _ _ hc
    by_cases hlt : k < out.length
    · obtain ⟨gb, off, hva, hcell⟩ := Q1.out k hlt
      subst hva
      rcases meCount_drop out k hlt a b _ hc with ⟨e1, h1⟩ | ⟨e1, e2, h1⟩
      · have H1 := hide h1
        have t1 : (out.getD k 0 == a) = true := by simpa using e1
        clear h1 hc C1 e1
        generalize out.getD k 0 = x at *
        go_wp2
        go_round
        case rel => exact ⟨k + 1, a + 1, b, by omega, by go_num, rfl, rfl, by omega, by omega, H1.out⟩
        case measure => simp [intOf]; omega
      · have H1 := hide h1
        have t1 : (out.getD k 0 == a) = false := by simpa using e1
        have t2 : (out.getD k 0 == b + 100) = true := by simpa using e2
        clear h1 hc C1 e1 e2
        generalize out.getD k 0 = x at *
        go_wp2
        go_round
        case rel => exact ⟨k + 1, a, b + 1, by omega, by go_num, rfl, rfl, by omega, by omega, H1.out⟩
        case measure => simp [intOf]; omega
    · have hz : out.drop k = [] := List.drop_eq_nil_of_le (by omega)
      rw [hz] at hc
      have hc : some (a, b) = some ((p : Int), (q : Int)) := hc
      injection hc with hc
      injection hc with hc1 hc2
      subst hc1
      subst hc2
      clear C1 hz
      go_wp2
      go_ret
      exact ⟨rfl, B1.out⟩
end Go.Proofs.YtnhidaamfnjdjaaGreatDoor
