import Derived.Test.YtnhidaamfnjdjaaGreatDoorLawB
import Derived.Deep.QuietTactic
import Derived.BigQuiet
namespace Go.Proofs.YtnhidaamfnjdjaaGreatDoor
open Go.RowKit Go.Maps

theorem Check_at (b : ByteArray) (text : Bs) (hb : b = ⟨text.toArray⟩) (C : Int × Int) (hC : checkF text = C ∧ goodB text = true) (hl : text.length ≤ 800) (w : World) (m : Int) (hm : w.cell? ⟨0, 0, none⟩ = some (.int .i64 m)) :
    Calls Tryz.prog 13 #[.string b] w fun e w' => e = .returned (.tuple #[.int .i64 C.1, .int .i64 C.2]) ∧ Below w.heap.size w w' := by
  subst hb
  rw [← hC.1]
  exact Check_any text w (by omega) m hm (goodB_good text hC.2)

theorem cell_below {w w' : World} {B b i : Nat} {v : Value} (h : w.cell? ⟨b, i, none⟩ = some v) (hb : Below B w w') (hlt : b < B) : w'.cell? ⟨b, i, none⟩ = some v := cell_of_block h (hb.block b hlt)

set_option maxHeartbeats 1000000 in
theorem awake_any (w : World) (m : Int) (hm : w.cell? ⟨0, 0, none⟩ = some (.int .i64 m)) :
    Calls Tryz.prog 19 #[] w fun e w' => e = .returned (.bool true) ∧ Below w.heap.size w w' := by
  have h0 := cell_lt hm
  have c1 := Check_at _ [118, 97, 114, 32, 120] rfl _ two1 (by decide) w m hm
  have C1 := hide c1; have Hm := hide hm
  clear c1 hm
  go_enter Tryz.func19, Tryz.ntmps19
  go_wp2_with fail
  refine C1.out.mono ?_
  rintro e w1 ⟨rfl, b1⟩
  have c2 := Check_at _ [118, 97, 114, 32, 120, 10, 32, 32, 105, 110, 32, 63, 32, 120] rfl _ two2 (by decide) w1 m (cell_below Hm.out b1 h0)
  have C2 := hide c2; have B1 := hide b1
  clear c2 b1
  go_wp2_with fail
  refine C2.out.mono ?_
  rintro e w2 ⟨rfl, b2⟩
  have B2 := hide b2
  clear b2
  go_wp2
  go_ret
  refine ⟨rfl, B1.out.trans ⟨B2.out.os, B2.out.tape, B2.out.output, B2.out.size, fun k hk => B2.out.block k (Nat.lt_of_lt_of_le hk B1.out.size)⟩⟩

def lineS (d : Nat) (s : Bs) : ByteArray := ⟨(kl d s).toArray⟩
theorem kline_at (b : ByteArray) (s : Bs) (hb : b = ⟨s.toArray⟩) (d : Nat) (z : Int) (hz : z = (d : Int)) (hd : d ≤ 100) (hs : s.length ≤ 1000) (w : World) : Calls Tryz.prog 18 #[.int .i64 z, .string b] w fun e w' => e = .returned (.string (lineS d s)) ∧ w' = w := by
  subst hb; subst hz
  exact kline_any d hd s hs w

theorem lineS_size (d : Nat) (s : Bs) : (lineS d s).size = 2 * d + s.length + 1 := by
  simp [lineS, kl, ByteArray.size]; omega

abbrev shW0 (w : World) : World := w.alloc (.cells #[.string ⟨#[112, 97, 114]⟩, .string ⟨#[112, 114, 105]⟩, .string ⟨#[115, 101, 113]⟩] 9)
abbrev shW (w : World) : World := ((((shW0 w).alloc (.cells #[.string ⟨#[120, 32, 58, 61, 32, 49]⟩, .string ⟨#[121, 32, 58, 61, 32, 120]⟩, .string ⟨#[115, 107, 105, 112]⟩] 9)).alloc (.cells #[.string ⟨#[120, 32, 58, 61, 32, 50]⟩, .string ⟨#[122, 32, 58, 61, 32, 120]⟩, .string ⟨#[115, 107, 105, 112]⟩] 9)).alloc (.cells #[.string ⟨#[107, 32, 33, 32, 49]⟩, .string ⟨#[107, 32, 63, 32, 121]⟩, .string ⟨#[115, 107, 105, 112]⟩] 9)).alloc (.cells #[.string ⟨#[107, 32, 33, 32, 50]⟩, .string ⟨#[107, 32, 63, 32, 122]⟩, .string ⟨#[115, 107, 105, 112]⟩] 9)

theorem opt_len (o : List Bs) (k : Nat) (h : ∀ s ∈ o, s.length ≤ 10) : (o.getD k []).length ≤ 10 := by
  rcases Nat.lt_or_ge k o.length with hk | hk
  · rw [getD_lt _ _ _ hk]; exact h _ (List.getElem_mem hk)
  · rw [getD_ge _ _ _ hk]; simp

theorem shW_cells (w : World) (x y u v h : Nat) (hx : x < 3) (hy : y < 3) (hu : u < 3) (hv : v < 3) (hh : h < 3) :
    (shW0 w).cell? ⟨w.heap.size, h, none⟩ = some (.string ⟨(optW.getD h []).toArray⟩) ∧ (shW w).cell? ⟨w.heap.size + 1, x, none⟩ = some (.string ⟨(optA.getD x []).toArray⟩) ∧ (shW w).cell? ⟨w.heap.size + 1 + 1, y, none⟩ = some (.string ⟨(optB.getD y []).toArray⟩) ∧
    (shW w).cell? ⟨w.heap.size + 1 + 1 + 1, u, none⟩ = some (.string ⟨(optC.getD u []).toArray⟩) ∧ (shW w).cell? ⟨w.heap.size + 1 + 1 + 1 + 1, v, none⟩ = some (.string ⟨(optD.getD v []).toArray⟩) ∧ w.grownBy (shW w) none ∧ (shW w).heap.size = w.heap.size + 5 := by
  have t3 : ∀ k : Nat, k < 3 → k = 0 ∨ k = 1 ∨ k = 2 := fun k hk => by omega
  refine ⟨?_, ?_, ?_, ?_, ?_, ?_, by simp⟩
  · rw [cell_at (at_new _ _) h]
    rcases t3 h hh with rfl | rfl | rfl <;> rfl
  · have := at_alloc (at_alloc (at_alloc (at_new (shW0 w) (.cells #[.string ⟨#[120, 32, 58, 61, 32, 49]⟩, .string ⟨#[121, 32, 58, 61, 32, 120]⟩, .string ⟨#[115, 107, 105, 112]⟩] 9)) (.cells #[.string ⟨#[120, 32, 58, 61, 32, 50]⟩, .string ⟨#[122, 32, 58, 61, 32, 120]⟩, .string ⟨#[115, 107, 105, 112]⟩] 9)) (.cells #[.string ⟨#[107, 32, 33, 32, 49]⟩, .string ⟨#[107, 32, 63, 32, 121]⟩, .string ⟨#[115, 107, 105, 112]⟩] 9)) (.cells #[.string ⟨#[107, 32, 33, 32, 50]⟩, .string ⟨#[107, 32, 63, 32, 122]⟩, .string ⟨#[115, 107, 105, 112]⟩] 9)
    simp only [World.size_alloc] at this
    rw [cell_at this x]
    rcases t3 x hx with rfl | rfl | rfl <;> rfl
  · have := at_alloc (at_alloc (at_new ((shW0 w).alloc (.cells #[.string ⟨#[120, 32, 58, 61, 32, 49]⟩, .string ⟨#[121, 32, 58, 61, 32, 120]⟩, .string ⟨#[115, 107, 105, 112]⟩] 9)) (.cells #[.string ⟨#[120, 32, 58, 61, 32, 50]⟩, .string ⟨#[122, 32, 58, 61, 32, 120]⟩, .string ⟨#[115, 107, 105, 112]⟩] 9)) (.cells #[.string ⟨#[107, 32, 33, 32, 49]⟩, .string ⟨#[107, 32, 63, 32, 121]⟩, .string ⟨#[115, 107, 105, 112]⟩] 9)) (.cells #[.string ⟨#[107, 32, 33, 32, 50]⟩, .string ⟨#[107, 32, 63, 32, 122]⟩, .string ⟨#[115, 107, 105, 112]⟩] 9)
    simp only [World.size_alloc] at this
    rw [cell_at this y]
    rcases t3 y hy with rfl | rfl | rfl <;> rfl
  · have := at_alloc (at_new (((shW0 w).alloc (.cells #[.string ⟨#[120, 32, 58, 61, 32, 49]⟩, .string ⟨#[121, 32, 58, 61, 32, 120]⟩, .string ⟨#[115, 107, 105, 112]⟩] 9)).alloc (.cells #[.string ⟨#[120, 32, 58, 61, 32, 50]⟩, .string ⟨#[122, 32, 58, 61, 32, 120]⟩, .string ⟨#[115, 107, 105, 112]⟩] 9)) (.cells #[.string ⟨#[107, 32, 33, 32, 49]⟩, .string ⟨#[107, 32, 63, 32, 121]⟩, .string ⟨#[115, 107, 105, 112]⟩] 9)) (.cells #[.string ⟨#[107, 32, 33, 32, 50]⟩, .string ⟨#[107, 32, 63, 32, 122]⟩, .string ⟨#[115, 107, 105, 112]⟩] 9)
    simp only [World.size_alloc] at this
    rw [cell_at this u]
    rcases t3 u hu with rfl | rfl | rfl <;> rfl
  · have := at_new ((((shW0 w).alloc (.cells #[.string ⟨#[120, 32, 58, 61, 32, 49]⟩, .string ⟨#[121, 32, 58, 61, 32, 120]⟩, .string ⟨#[115, 107, 105, 112]⟩] 9)).alloc (.cells #[.string ⟨#[120, 32, 58, 61, 32, 50]⟩, .string ⟨#[122, 32, 58, 61, 32, 120]⟩, .string ⟨#[115, 107, 105, 112]⟩] 9)).alloc (.cells #[.string ⟨#[107, 32, 33, 32, 49]⟩, .string ⟨#[107, 32, 63, 32, 121]⟩, .string ⟨#[115, 107, 105, 112]⟩] 9)) (.cells #[.string ⟨#[107, 32, 33, 32, 50]⟩, .string ⟨#[107, 32, 63, 32, 122]⟩, .string ⟨#[115, 107, 105, 112]⟩] 9)
    simp only [World.size_alloc] at this
    rw [cell_at this v]
    rcases t3 v hv with rfl | rfl | rfl <;> rfl
  · exact ((((World.grownBy_alloc w _ none).andThen (World.grownBy_alloc _ _ none) (fun j hj => by cases hj)).andThen (World.grownBy_alloc _ _ none) (fun j hj => by cases hj)).andThen (World.grownBy_alloc _ _ none) (fun j hj => by cases hj)).andThen (World.grownBy_alloc _ _ none) (fun j hj => by cases hj)
end Go.Proofs.YtnhidaamfnjdjaaGreatDoor
