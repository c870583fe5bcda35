import Derived.Test.YtnhidaamfnjdjaaGreatDoorBlkD0
import Derived.Test.YtnhidaamfnjdjaaGreatDoorBlkD1
import Derived.Test.YtnhidaamfnjdjaaGreatDoorBlkD2
import Derived.Test.YtnhidaamfnjdjaaGreatDoorBlkD3
namespace Go.Proofs.YtnhidaamfnjdjaaGreatDoor
open Go.RowKit

theorem allS_mem : ∀ (n : Nat) (pre cs : List Nat), allS n pre = true → cs.length ≤ n → (∀ c ∈ cs, c < 4) → okShape (pre ++ cs) = true
  | 0, pre, cs, h, hl, _ => by
    cases cs with
    | nil => rw [List.append_nil]; exact h
    | cons c cs => simp at hl
  | n + 1, pre, cs, h, hl, hc => by
    simp only [allS, Bool.and_eq_true] at h
    obtain ⟨⟨⟨⟨h0, h1⟩, h2⟩, h3⟩, h4⟩ := h
    cases cs with
    | nil => rw [List.append_nil]; exact h0
    | cons c cs =>
      have e : pre ++ c :: cs = (pre ++ [c]) ++ cs := by simp
      rw [e]
      have hl' : cs.length ≤ n := by simp at hl; omega
      have hc' : ∀ x ∈ cs, x < 4 := fun x hx => hc x (by simp [hx])
      have hcc := hc c (by simp)
      have : c = 0 ∨ c = 1 ∨ c = 2 ∨ c = 3 := by omega
      rcases this with rfl | rfl | rfl | rfl
      · exact allS_mem n _ cs h1 hl' hc'
      · exact allS_mem n _ cs h2 hl' hc'
      · exact allS_mem n _ cs h3 hl' hc'
      · exact allS_mem n _ cs h4 hl' hc'
theorem okShape_nil : okShape [] = true := by decide +kernel
theorem allS4_of (c : Nat) (h : okShape [c] = true) (h0 : allS 3 [c, 0] = true) (h1 : allS 3 [c, 1] = true) (h2 : allS 3 [c, 2] = true) (h3 : allS 3 [c, 3] = true) : allS 4 [c] = true := by
  show (okShape [c] && allS 3 [c, 0] && allS 3 [c, 1] && allS 3 [c, 2] && allS 3 [c, 3]) = true
  rw [h, h0, h1, h2, h3]
  rfl
theorem shape_ok (cs : List Nat) (hl : cs.length ≤ 5) (hc : ∀ c ∈ cs, c < 4) : okShape cs = true := by
  cases cs with
  | nil => exact okShape_nil
  | cons c cs =>
    have hl' : cs.length ≤ 4 := by simp at hl; omega
    have hc' : ∀ x ∈ cs, x < 4 := fun x hx => hc x (by simp [hx])
    have hcc := hc c (by simp)
    have : c = 0 ∨ c = 1 ∨ c = 2 ∨ c = 3 := by omega
    rcases this with rfl | rfl | rfl | rfl
    · exact allS_mem 4 [0] cs (allS4_of 0 okS_0 allS_00 allS_01 allS_02 allS_03) hl' hc'
    · exact allS_mem 4 [1] cs (allS4_of 1 okS_1 allS_10 allS_11 allS_12 allS_13) hl' hc'
    · exact allS_mem 4 [2] cs (allS4_of 2 okS_2 allS_20 allS_21 allS_22 allS_23) hl' hc'
    · exact allS_mem 4 [3] cs (allS4_of 3 okS_3 allS_30 allS_31 allS_32 allS_33) hl' hc'

theorem bit_shape (c k : Nat) : shE (bitI c k) = shE (bitI c 0) := by
  unfold bitI
  split
  · rfl
  · split
    · rfl
    · split <;> rfl
theorem bag_shape (rs : List (Nat × Nat)) : shE (bagI rs) = shE headI ++ (rs.map (·.1)).flatMap (fun c => shE (bitI c 0)) ++ shE tailI := by
  have : ∀ rs : List (Nat × Nat), shE (rs.flatMap fun r => bitI r.1 r.2) = (rs.map (·.1)).flatMap (fun c => shE (bitI c 0)) := by
    intro rs
    induction rs with
    | nil => rfl
    | cons r rs ih =>
      rw [List.flatMap_cons, List.map_cons, List.flatMap_cons, ← ih, ← bit_shape r.1 r.2]
      exact List.map_append
  rw [← this]
  unfold bagI shE
  rw [List.map_append, List.map_append]

structure RsOk (rs : List (Nat × Nat)) : Prop where
  len : rs.length ≤ 5
  each : ∀ r ∈ rs, r.1 < 4 ∧ r.2 < 50

theorem bag_items (rs : List (Nat × Nat)) (h : RsOk rs) : ∀ x ∈ bagI rs, x.Ok := by
  intro x hx
  have hf := List.all_eq_true.1 fixed_ok
  unfold bagI at hx
  rw [List.mem_append, List.mem_append] at hx
  rcases hx with (hx | hx) | hx
  · exact okI_ok x (hf x (List.mem_append_left _ hx))
  · obtain ⟨r, hr, hxr⟩ := List.mem_flatMap.1 hx
    have := h.each r hr
    exact okI_ok x (List.all_eq_true.1 (bits_ok r.1 this.1 r.2 this.2) x hxr)
  · exact okI_ok x (hf x (List.mem_append_right _ hx))

theorem bag_check (rs : List (Nat × Nat)) (h : RsOk rs) (bad put b : Nat) (hlen : (flatL (lay bad put b 0 (bagI rs))).length ≤ 800) :
    checkF (flatL (lay bad put b 0 (bagI rs))) = if bad < (bagI rs).length then (2, (bad : Int) + 1 + (if put ≤ bad then 1 else 0)) else (0, 0) := by
  have hs := shape_ok (rs.map (·.1)) (by rw [List.length_map]; exact h.len) (by
    intro c hc
    obtain ⟨r, hr, rfl⟩ := List.mem_map.1 hc
    exact (h.each r hr).1)
  unfold okShape at hs
  rw [← bag_shape rs] at hs
  cases hr : runE startP.er (shE (bagI rs)) with
  | none => rw [hr] at hs; cases hs
  | some t =>
    rw [hr] at hs
    simp only [Bool.and_eq_true] at hs
    exact lay_check (bagI rs) (bag_items rs h) t hr hs.1 hs.2 bad put b hlen
end Go.Proofs.YtnhidaamfnjdjaaGreatDoor
