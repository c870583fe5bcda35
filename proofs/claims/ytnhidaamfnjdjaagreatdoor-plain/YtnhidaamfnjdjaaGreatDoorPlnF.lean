import Derived.Test.YtnhidaamfnjdjaaGreatDoorPlnD
import Derived.Test.YtnhidaamfnjdjaaGreatDoorPlnE
/- PLAIN: what the calls of the law tell. -/
namespace Go.Proofs.YtnhidaamfnjdjaaGreatDoor
open Go.RowKit Go.Maps

theorem told_at {C : CM} {l : List Itm} {steps : Int} {fuel : Nat} {r : Int × MS} {xr : PCh} (hC : codeI (shapeI l) = some C) (hl : ∀ i ∈ l, i.ok = true) (hlen : (itText l).length ≤ 800) (hrun : runC true C.code C.br steps fuel 0 (newF C) = some r) (hst : steps ≤ 1000000000000) (hch : r.2.chans[1]? = some xr) (hok : okLens r.2 = true) (hend : r.2.stands = 2)
    (b : ByteArray) (hb : b = ⟨(itText l).toArray⟩) (w : World) (m : Int) (hm : w.cell? ⟨0, 0, none⟩ = some (.int .i64 m)) (n : Nat) (hn : r.2.out.length = n) (A : List Int) (hA : r.2.out = A) :
    Calls Tryz.prog 22 #[.string b, .int .i64 steps] w fun e w' => ∃ (va : Option Addr) (cc : Nat), e = .returned (.tuple #[.slice va n cc, .bool true]) ∧ QAt w' 3 (.slice va n cc) (A.map intV) ∧ Below w.heap.size w w' := by
  subst hb; subst hn; subst hA
  obtain ⟨s, hr, hc, h1, h2, rfl⟩ := code_out hC
  have hps := parse_items l hl s hr hc hlen
  refine (told_ok (ns := true) (itText l) w (by omega) m hm s (by rw [hps]) (check_of hps h1 h2) hrun hst hch hok (fun _ h => by cases h) (fun _ h => by cases h)).mono ?_
  rintro e w' ⟨va, cc, rfl, hq, hb⟩
  rw [hend]
  exact ⟨va, cc, rfl, hq, hb⟩
theorem load_at {C : CM} {l : List Itm} (hC : codeI (shapeI l) = some C) (hl : ∀ i ∈ l, i.ok = true) (hlen : (itText l).length ≤ 800) (b : ByteArray) (hb : b = ⟨(itText l).toArray⟩) (w : World) (m : Int) (hm : w.cell? ⟨0, 0, none⟩ = some (.int .i64 m)) :
    Calls Tryz.prog 24 #[.string b] w fun e w' => ∃ lb mb ρ V, e = .returned (.pointer (some ⟨lb, 0, none⟩)) ∧ Shut w' lb mb ρ C V (newF C) ∧ Below w.heap.size w w' ∧ ∀ g, g < w.heap.size → ρ g = .junk := by
  subst hb
  obtain ⟨s, hr, hc, h1, h2, rfl⟩ := code_out hC
  have hps := parse_items l hl s hr hc hlen
  refine (loaded_ok (itText l) w (by omega) m hm s (by rw [hps]) (check_of hps h1 h2)).mono ?_
  rintro e w' ⟨lb, mb, ρ, V, rfl, _, k, hb, hz⟩
  exact ⟨lb, mb, ρ, V, rfl, k, hb, hz⟩
theorem rowI_new (w : World) (A : List Int) : RowI (w.alloc (.cells (A.map intV).toArray 3)) (some ⟨w.heap.size, 0, none⟩) A := by
  intro k hk
  refine ⟨_, _, rfl, ?_⟩
  rw [cell_at (at_new w _)]
  show ((A.map intV).toArray)[0 + k]? = _
  rw [Nat.zero_add, List.getElem?_toArray, List.getElem?_map, List.getElem?_eq_getElem hk, getD_lt _ _ _ hk]
  rfl
theorem rowI_alloc {w : World} {va : Option Addr} {A : List Int} {n cc : Nat} (h : QAt w 3 (.slice va n cc) (A.map intV)) (hn : A.length = n) (c : Obj) : RowI (w.alloc c) va A := by
  subst hn
  refine RowI.of (cc := cc) (h.frame (fun g hg => ?_))
  rcases h with ⟨h, _⟩ | ⟨g', off, cap, cur, h, hg', _⟩
  · rw [h] at hg; cases hg
  · rw [h] at hg
    have hg : some g' = some g := hg
    injection hg with hg
    subst hg
    rw [at_alloc hg' c, hg']
theorem mul_in (x y : Nat) (hx : x < 10000000) (hy : y < 10000000) : wrap64 ((x : Int) * (y : Int)) = (x : Int) * y := by
  have hmul : (x : Int) * y ≤ 100000000000000 := by
    have : x * y ≤ 10000000 * 10000000 := Nat.mul_le_mul (by omega) (by omega)
    have h2 : ((x * y : Nat) : Int) ≤ ((10000000 * 10000000 : Nat) : Int) := by exact_mod_cast this
    rw [Int.natCast_mul] at h2
    exact h2
  have hmul0 : 0 ≤ (x : Int) * y := Int.mul_nonneg (by omega) (by omega)
  exact IntWalk.wrap64_in _ (by omega)
theorem below_alloc {B : Nat} {w w1 : World} (h : Below B w w1) (hs : B ≤ w1.heap.size) (c : Obj) (j : Nat) : Below B w ((w1.alloc c).drewN j) := by
  have g := World.grownBy_alloc w1 c none
  exact ⟨g.os.trans h.os, g.tape.trans h.tape, g.output.trans h.output, Nat.le_trans h.size g.size, fun k hk => (g.block k (Nat.lt_of_lt_of_le hk hs) (by simp)).trans (h.block k hk)⟩
theorem below_go {B : Nat} {w w2 w3 w5 : World} {V V' : MV} {ρ ρ' : Nat → MR} (h : Below B w w2) (hs : B ≤ w2.heap.size) (b : Below w2.heap.size w2 w3) (g : MsGo V V' ρ ρ' w3 w5) (j : ∀ g, g < w2.heap.size → ρ g = .junk) : Below B w w5 :=
  ⟨g.fr.os.trans (b.os.trans h.os), g.fr.tape.trans (b.tape.trans h.tape), g.fr.output.trans (b.output.trans h.output), Nat.le_trans h.size (Nat.le_trans b.size g.fr.size), fun k hk => by
    have hk2 := Nat.lt_of_lt_of_le hk hs
    exact ((g.fr.block k (Nat.lt_of_lt_of_le hk2 b.size) (by rw [j k hk2]; simp)).1).trans ((b.block k hk2).trans (h.block k hk))⟩
theorem cat3 (a b c d : Bs) : ((⟨a.toArray⟩ ++ ⟨b.toArray⟩ ++ ⟨c.toArray⟩ ++ ⟨d.toArray⟩ : ByteArray)) = ⟨(a ++ (b ++ (c ++ d))).toArray⟩ := by
  rw [ba_append, ba_append, ba_append]
  simp
theorem cat4 (a b c d e : Bs) : ((⟨a.toArray⟩ ++ ⟨b.toArray⟩ ++ ⟨c.toArray⟩ ++ ⟨d.toArray⟩ ++ ⟨e.toArray⟩ : ByteArray)) = ⟨(a ++ (b ++ (c ++ (d ++ e)))).toArray⟩ := by
  rw [ba_append, ba_append, ba_append, ba_append]
  simp
theorem opLine_at (o : UInt8) (D E : Bs) : ((⟨#[111, 117, 116, 32, 33, 32]⟩ ++ ⟨D.toArray⟩ ++ ⟨#[32, o, 32]⟩ ++ ⟨E.toArray⟩ : ByteArray)) = ⟨(opLine o D E).toArray⟩ := cat3 [111, 117, 116, 32, 33, 32] D [32, o, 32] E
theorem subLine_at (D E : Bs) : ((⟨#[111, 117, 116, 33]⟩ ++ ⟨D.toArray⟩ ++ ⟨#[45]⟩ ++ ⟨E.toArray⟩ : ByteArray)) = ⟨(subLine D E).toArray⟩ := cat3 [111, 117, 116, 33] D [45] E
theorem mulLine_at (D E : Bs) : ((⟨#[111, 117, 116, 32, 33, 32, 40]⟩ ++ ⟨D.toArray⟩ ++ ⟨#[41, 32, 42, 32, 40, 40]⟩ ++ ⟨E.toArray⟩ ++ ⟨#[41, 41]⟩ : ByteArray)) = ⟨(mulLine D E).toArray⟩ := cat4 [111, 117, 116, 32, 33, 32, 40] D [41, 32, 42, 32, 40, 40] E [41, 41]
theorem modLine_at (D E : Bs) : ((⟨#[111, 117, 116, 32, 33, 32, 40, 48, 32, 45, 32]⟩ ++ ⟨D.toArray⟩ ++ ⟨#[41, 32, 37, 32]⟩ ++ ⟨E.toArray⟩ : ByteArray)) = ⟨(modLine D E).toArray⟩ := cat3 [111, 117, 116, 32, 33, 32, 40, 48, 32, 45, 32] D [41, 32, 37, 32] E
theorem digX_len (k : Nat) : (digX k).length ≤ 7 := digD_len 7 k
theorem opLine_len (o : UInt8) (x y : Nat) : (opLine o (digX x) (digX y)).length ≤ 40 := by
  have := digX_len x; have := digX_len y
  simp [opLine]; omega
theorem subLine_len (x y : Nat) : (subLine (digX x) (digX y)).length ≤ 40 := by
  have := digX_len x; have := digX_len y
  simp [subLine]; omega
theorem mulLine_len (x y : Nat) : (mulLine (digX x) (digX y)).length ≤ 40 := by
  have := digX_len x; have := digX_len y
  simp [mulLine]; omega
theorem modLine_len (x y : Nat) : (modLine (digX x) (digX y)).length ≤ 40 := by
  have := digX_len x; have := digX_len y
  simp [modLine]; omega
theorem plA_len (x y : Nat) : (itText (plA x y)).length ≤ 800 := by
  have h1 := opLine_len 43 x y; have h2 := subLine_len x y; have h3 := mulLine_len x y; have h4 := opLine_len 61 x y; have h5 := opLine_len 60 x y; have h6 := opLine_len 62 x y
  simp only [itText, plA, flatL, Itm.line, List.map_cons, List.map_nil, List.flatMap_cons, List.flatMap_nil, List.length_append, List.length_replicate, List.length_cons, List.length_nil]
  omega
theorem plB_len (x y : Nat) : (itText (plB x y)).length ≤ 800 := by
  have h1 := opLine_len 47 x y; have h2 := modLine_len x y
  simp only [itText, plB, flatL, Itm.line, List.map_cons, List.map_nil, List.flatMap_cons, List.flatMap_nil, List.length_append, List.length_replicate, List.length_cons, List.length_nil]
  omega
theorem plOutA_is (x y : Nat) (hx : x < 10000000) (hy : y < 10000000) : plOutA x y = [(x : Int) + y, (x : Int) - y, (x : Int) * y, (if x = y then 1 else 0), (if x < y then 1 else 0), (if y < x then 1 else 0)] := by
  have hmul : (x : Int) * y ≤ 100000000000000 := by
    have : x * y ≤ 10000000 * 10000000 := Nat.mul_le_mul (by omega) (by omega)
    have h2 : ((x * y : Nat) : Int) ≤ ((10000000 * 10000000 : Nat) : Int) := by exact_mod_cast this
    rw [Int.natCast_mul] at h2
    exact h2
  have hmul0 : 0 ≤ (x : Int) * y := Int.mul_nonneg (by omega) (by omega)
  unfold plOutA w64
  rw [IntWalk.wrap64_in _ (by omega), IntWalk.wrap64_in _ (by omega), IntWalk.wrap64_in _ (by omega)]
  have e1 : ((x : Int) = y) = (x = y) := propext ⟨fun h => by omega, fun h => by omega⟩
  have e2 : ((x : Int) < y) = (x < y) := propext ⟨fun h => by omega, fun h => by omega⟩
  have e3 : ((x : Int) > y) = (y < x) := propext ⟨fun h => by omega, fun h => by omega⟩
  simp only [e1, e2, e3]
theorem quo_in (x k : Nat) (hx : x < 10000000) : wrap64 ((x : Int) / ((k : Int) + 1)) = (x : Int) / ((k : Int) + 1) := by
  have h1 : 0 ≤ (x : Int) / ((k : Int) + 1) := Int.ediv_nonneg (by omega) (by omega)
  have h2 : (x : Int) / ((k : Int) + 1) ≤ x := Int.ediv_le_self _ (by omega)
  exact IntWalk.wrap64_in _ (by omega)
theorem quo_in2 (x k : Nat) (hx : x < 10000000) : IntKind.i64.wrap ((x : Int) / ((k : Int) + 1)) = (x : Int) / ((k : Int) + 1) := by
  have h1 : 0 ≤ (x : Int) / ((k : Int) + 1) := Int.ediv_nonneg (by omega) (by omega)
  have h2 : (x : Int) / ((k : Int) + 1) ≤ x := Int.ediv_le_self _ (by omega)
  exact IntWalk.i64_in _ (by omega)
theorem cnt_step (j : Nat) : cntS (j + 1) = if (j + 1) % 2 = 0 then cntS j + ((j : Int) + 1) else cntS j - 1 := rfl
theorem plOutB_is (x k : Nat) (hx : x < 10000000) : plOutB x ((k + 1 : Nat) : Int) = [(x : Int) / ((k : Int) + 1), -((x : Int).tmod ((k : Int) + 1))] := by
  unfold plOutB w64
  rw [IntWalk.wrap64_in (0 - (x : Int)) (by omega), Int.tdiv_eq_ediv_of_nonneg (by omega), Int.zero_sub, Int.neg_tmod, show ((k + 1 : Nat) : Int) = (k : Int) + 1 by omega, quo_in x k hx]
theorem below_dalloc {B : Nat} {w w1 w2 : World} {c : Obj} (h : Below B w w1) (hs : B ≤ w1.heap.size) (h2 : ∃ j, w2 = (w1.alloc c).drew.drewN j) : Below B w w2 := by
  obtain ⟨j, rfl⟩ := h2
  have b := below_alloc h hs c 0
  exact ⟨b.os, b.tape, b.output, b.size, b.block⟩
end Go.Proofs.YtnhidaamfnjdjaaGreatDoor
