import Derived.Test.YtnhidaamfnjdjaaGreatDoorPlnC
import Derived.Test.YtnhidaamfnjdjaaGreatDoorMadH
import Derived.Deep.QuietTactic
import Derived.BigQuiet
/- number and same, walked. -/
namespace Go.Proofs.YtnhidaamfnjdjaaGreatDoor
open Go.RowKit Go.Maps

set_option maxHeartbeats 1000000 in
theorem numD_any : ∀ (f k : Nat), 0 < f → f ≤ 7 → k < 10 ^ f → ∀ w : World, Calls Tryz.prog 21 #[.int .i64 (k : Int)] w fun e w' => e = .returned (.string ⟨(digD f k).toArray⟩) ∧ w' = w
  | 0, _, h, _, _, _ => by omega
  | f + 1, k, _, h7, hk, w => by
    by_cases h : k < 10
    · have e : digD (f + 1) k = digK k := by
        unfold digD digK
        rw [if_pos h, if_pos h]
      rw [e]
      exact numK_lo k h w
    · have hf : 0 < f := by
        rcases Nat.eq_zero_or_pos f with rfl | hf
        · simp at hk; omega
        · exact hf
      have hq : (k : Int) / 10 = ((k / 10 : Nat) : Int) := by omega
      have hc := numD_any f (k / 10) hf (by omega) (by rw [Nat.pow_succ] at hk; omega) w
      rw [← hq] at hc
      have HC := hide hc
      clear hc hq
      have hsz : (⟨#[48, 49, 50, 51, 52, 53, 54, 55, 56, 57]⟩ : ByteArray).extract (k % 10) (k % 10 + 1) = ⟨[UInt8.ofNat (48 + k % 10)].toArray⟩ := tenK_at _ (by omega)
      have hs2 : ((⟨#[48, 49, 50, 51, 52, 53, 54, 55, 56, 57]⟩ : ByteArray).extract (k % 10) (k % 10 + 1)).size = 1 := by rw [hsz]; rfl
      have hs1 : (⟨(digD f (k / 10)).toArray⟩ : ByteArray).size ≤ 7 := by
        rw [bsz]
        have := digD_len f (k / 10)
        omega
      have HZ := hide hsz
      have hkb : k < 10000000 := Nat.lt_of_lt_of_le hk (Nat.pow_le_pow_right (n := 10) (by decide) h7)
      clear hsz hk
      go_enter Tryz.func21, Tryz.ntmps21
      go_wp2_with fail
      refine HC.out.mono ?_
      rintro e w1 ⟨rfl, hw⟩
      subst hw
      go_wp2
      go_ret
      refine ⟨congrArg (fun z => Ending.returned (Value.string z)) ?_, rfl⟩
      show (⟨(digD f (k / 10)).toArray⟩ : ByteArray) ++ (⟨#[48, 49, 50, 51, 52, 53, 54, 55, 56, 57]⟩ : ByteArray).extract (k % 10) (k % 10 + 1) = _
      rw [HZ.out, ba_append]
      conv => rhs; unfold digD
      rw [if_neg h]
theorem numX_at (k : Nat) (hk : k < 10000000) (z : Int) (hz : z = (k : Int)) (w : World) : Calls Tryz.prog 21 #[.int .i64 z] w fun e w' => e = .returned (.string ⟨(digX k).toArray⟩) ∧ w' = w := by
  subst hz
  exact numD_any 7 k (by decide) (by decide) hk w
/-- two lists of the same numbers -/
def RowI (w : World) (va : Option Addr) (A : List Int) : Prop := ∀ k, k < A.length → ∃ g off, va = some ⟨g, off, none⟩ ∧ w.cell? ⟨g, off + k, none⟩ = some (.int .i64 (A.getD k 0))
theorem RowI.of {w : World} {va : Option Addr} {A : List Int} {cc : Nat} (h : QAt w 3 (.slice va A.length cc) (A.map intV)) : RowI w va A := by
  intro k hk
  obtain ⟨g, off, cap, hv, _, _, hc, _, _⟩ := h.shape (by rw [List.length_map]; omega)
  rw [Value.slice.injEq] at hv
  refine ⟨g, off, hv.1, hc k _ ?_⟩
  rw [List.getElem?_map, List.getElem?_eq_getElem hk, getD_lt _ _ _ hk]
  rfl
theorem drewN_add (w : World) (a b : Nat) : (w.drewN a).drewN b = w.drewN (a + b) := by
  induction b with
  | zero => rfl
  | succ b ih => exact congrArg World.drew ih
set_option maxHeartbeats 1000000 in
theorem same_true (w : World) (va vb : Option Addr) (ca cb : Nat) (A : List Int) (hl : A.length ≤ 1000000000000) (h1 : RowI w va A) (h2 : RowI w vb A) (n : Nat) (hn : A.length = n) : Calls Tryz.prog 23 #[.slice va n ca, .slice vb n cb] w fun e w' => e = .returned (.bool true) ∧ ∃ j, w' = w.drewN j := by
  subst hn
  have H1 := hide h1
  have H2 := hide h2
  clear h1 h2
  go_enter Tryz.func23, Tryz.ntmps23
  go_wp2
  go_loopw [5] (fun i wr => ∃ k : Nat, k ≤ A.length ∧ i = .int .i64 k ∧ RowI wr va A ∧ RowI wr vb A ∧ ∃ j, wr = w.drewN j) (fun i _ => A.length - (intOf i).toNat)
  case atStart => exact ⟨0, Nat.zero_le _, rfl, H1.out, H2.out, 0, rfl⟩
  case round =>
    obtain ⟨k, hk, rfl, r1, r2, hj⟩ := hrel
    have HJ := hide hj
    have R1 := hide r1
    have R2 := hide r2
    by_cases hlt : k < A.length
    · obtain ⟨g1, o1, rfl, c1⟩ := r1 k hlt
      obtain ⟨g2, o2, rfl, c2⟩ := r2 k hlt
      have hki : (k : Int) < A.length := by omega
      clear hj r1 r2 H1 H2
      generalize A.getD k 0 = x at *
      have hxx : (x == x) = true := by simp
      go_wp2
      go_big_quiet (fail)
      go_wp2
      go_roundw
      case rel =>
        obtain ⟨j, hj⟩ := HJ.out
        refine ⟨k + 1, by omega, by go_num, R1.out, R2.out, j + nq, ?_⟩
        rw [hj]
        exact drewN_add w j nq
      case measure => simp [intOf]; omega
    · obtain rfl : k = A.length := by omega
      clear hj r1 r2 H1 H2 R1 R2
      go_wp2
      go_ret
      exact ⟨rfl, HJ.out⟩
end Go.Proofs.YtnhidaamfnjdjaaGreatDoor
