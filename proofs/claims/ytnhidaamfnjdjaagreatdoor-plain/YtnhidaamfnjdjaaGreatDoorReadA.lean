import Derived.Test.YtnhidaamfnjdjaaGreatDoorScan
import Derived.Test.YtnhidaamfnjdjaaGreatDoorHeap
import Derived.Test.YtnhidaamfnjdjaaGreatDoorPure
namespace Go.Proofs.YtnhidaamfnjdjaaGreatDoor
open Go.RowKit

set_option maxHeartbeats 400000 in
theorem rnext_any (rb : Nat) (σ : RS) (w : World) (h : AtR w rb σ) (hs : σ.rest.length ≤ maxLen) :
    Calls Tryz.prog 177 #[.pointer (some ⟨rb, 0, none⟩)] w fun e w' => e = .returned (.tuple #[]) ∧ AtR w' rb σ.next ∧ Kept rb w w' := by
  have H := hide h
  have c2 := h.c2
  clear h
  go_enter Tryz.func177, Tryz.ntmps177
  go_wp2_with (go_at_call 205; refine (next_any _ _ hs).mono ?_; rintro e w' ⟨rfl, hb⟩; have h1 : AtR w' rb σ := Below.at hb H.out (lt_of_at H.out); have d0 := h1.c0; have d1 := h1.c1; have d2 := h1.c2; have fz := h1.fz; have H1 := hide h1; clear h1; unfold Tk.val)
  go_end0
  refine ⟨rfl, at_setCell (at_setCell (at_setCell H1.out _ _) _ _) _ _, (((Kept.below hb).setCell _ _).setCell _ _).setCell _ _⟩

set_option maxHeartbeats 400000 in
theorem fail_any (rb : Nat) (σ : RS) (e0 : Int) (w : World) (h : AtR w rb σ) :
    Calls Tryz.prog 179 #[.pointer (some ⟨rb, 0, none⟩), .int .i64 e0] w fun e w' => e = .returned (.tuple #[]) ∧ AtR w' rb (σ.fail e0) ∧ Kept rb w w' := by
  have H := hide h
  have c0 := h.c0; have c1 := h.c1; have c2 := h.c2; have c4 := h.c4; have fz := h.fz
  clear h
  by_cases he : σ.errno = 0
  · have he' : (σ.errno == 0) = true := by simp [he]
    have hq : Hid (σ.fail e0 = { σ with kind := 1, text := [], rest := [], errno := e0 }) := by apply hide; unfold RS.fail; rw [if_pos he]
    clear he
    go_enter Tryz.func179, Tryz.ntmps179
    go_wp2
    go_end0
    rw [hq.out]
    refine ⟨rfl, at_setCell (at_setCell (at_setCell (at_setCell H.out _ _) _ _) _ _) _ _, ((((Kept.refl _ _).setCell _ _).setCell _ _).setCell _ _).setCell _ _⟩
  · have he' : (σ.errno == 0) = false := by simp [he]
    have hq : Hid (σ.fail e0 = { σ with kind := 1, text := [], rest := [] }) := by apply hide; unfold RS.fail; rw [if_neg he]
    clear he
    go_enter Tryz.func179, Tryz.ntmps179
    go_wp2
    go_end0
    rw [hq.out]
    refine ⟨rfl, at_setCell (at_setCell (at_setCell H.out _ _) _ _) _ _, (((Kept.refl _ _).setCell _ _).setCell _ _).setCell _ _⟩

set_option maxHeartbeats 400000 in
theorem take_yes (rb : Nat) (σ : RS) (t : Bs) (w : World) (h : AtR w rb σ) (hs : σ.rest.length ≤ maxLen) (he : σ.text = t) :
    Calls Tryz.prog 229 #[.pointer (some ⟨rb, 0, none⟩), .string ⟨t.toArray⟩] w fun e w' => e = .returned (.bool true) ∧ AtR w' rb σ.next ∧ Kept rb w w' := by
  have H := hide h
  have c1 := h.c1
  clear h
  have hx : (!σ.text == t) = false := by simp [he]
  clear he
  go_enter Tryz.func229, Tryz.ntmps229
  go_wp2_with (go_at_call 177; refine (rnext_any _ _ _ H.out hs).mono ?_; rintro e w' ⟨rfl, h1, k1⟩; have H1 := hide h1; clear h1)
  go_ret
  exact ⟨rfl, H1.out, k1⟩

set_option maxHeartbeats 400000 in
theorem take_no (rb : Nat) (σ : RS) (t : Bs) (w : World) (h : AtR w rb σ) (he : σ.text ≠ t) :
    Calls Tryz.prog 229 #[.pointer (some ⟨rb, 0, none⟩), .string ⟨t.toArray⟩] w fun e w' => e = .returned (.bool false) ∧ w' = w := by
  have c1 := h.c1
  clear h
  have hx : (!σ.text == t) = true := by simp [he]
  clear he
  go_enter Tryz.func229, Tryz.ntmps229
  go_wp2_with fail
  go_ret
  exact ⟨rfl, rfl⟩

set_option maxHeartbeats 400000 in
theorem need_any (rb : Nat) (σ : RS) (t : Bs) (w : World) (h : AtR w rb σ) (hs : σ.rest.length ≤ maxLen) :
    Calls Tryz.prog 206 #[.pointer (some ⟨rb, 0, none⟩), .string ⟨t.toArray⟩] w fun e w' => e = .returned (.tuple #[]) ∧ AtR w' rb (σ.need t) ∧ Kept rb w w' := by
  have H := hide h
  clear h
  by_cases he : σ.text = t
  · have hq : Hid (σ.need t = σ.next) := by apply hide; unfold RS.need; rw [if_pos he]
    have He := hide he
    clear he
    go_enter Tryz.func206, Tryz.ntmps206
    go_wp2_with (go_at_call 229; refine (take_yes _ _ _ _ H.out hs He.out).mono ?_; rintro e w' ⟨rfl, h1, k1⟩; have H1 := hide h1; clear h1)
    go_end0
    rw [hq.out]
    exact ⟨rfl, H1.out, k1⟩
  · have hq : Hid (σ.need t = σ.fail 2) := by apply hide; unfold RS.need; rw [if_neg he]
    have He : Hid (σ.text ≠ t) := he
    clear he
    go_enter Tryz.func206, Tryz.ntmps206
    go_wp2_with (first | (go_at_call 229; refine (take_no _ _ _ _ H.out He.out).mono ?_; rintro e w' ⟨rfl, rfl⟩) | (go_at_call 179; refine (fail_any _ _ _ _ H.out).mono ?_; rintro e w' ⟨rfl, h1, k1⟩; have H1 := hide h1; clear h1))
    go_end0
    rw [hq.out]
    exact ⟨rfl, H1.out, k1⟩
end Go.Proofs.YtnhidaamfnjdjaaGreatDoor
namespace Go.Proofs.YtnhidaamfnjdjaaGreatDoor
open Go.RowKit

set_option maxHeartbeats 1000000 in
theorem reserved_yes (t : Bs) (w : World) (h : t ∈ wordsB) :
    Calls Tryz.prog 245 #[.string ⟨t.toArray⟩] w fun e w' => e = .returned (.bool true) ∧ w' = w := by
  simp only [wordsB, List.mem_cons, List.not_mem_nil, or_false] at h
  rcases h with rfl | rfl | rfl | rfl | rfl | rfl | rfl | rfl | rfl | rfl | rfl | rfl | rfl | rfl | rfl
  all_goals
    simp only [wSkip, wStop, wWait, wSeq, wPar, wPri, wWhile, wIf, wWhen, wAlt, wOn, wVar, wChan, wIn, wOut]
    go_enter Tryz.func245, Tryz.ntmps245
    go_wp2
    go_ret
    exact ⟨rfl, rfl⟩

set_option maxHeartbeats 1000000 in
theorem reserved_no (t : Bs) (w : World) (h : t ∉ wordsB) :
    Calls Tryz.prog 245 #[.string ⟨t.toArray⟩] w fun e w' => e = .returned (.bool false) ∧ w' = w := by
  simp only [wordsB, List.mem_cons, List.not_mem_nil, or_false, not_or, wSkip, wStop, wWait, wSeq, wPar, wPri, wWhile, wIf, wWhen, wAlt, wOn, wVar, wChan, wIn, wOut] at h
  obtain ⟨h1, h2, h3, h4, h5, h6, h7, h8, h9, h10, h11, h12, h13, h14, h15⟩ := h
  have h1 := beq_eq_false_iff_ne.2 h1
  have h2 := beq_eq_false_iff_ne.2 h2
  have h3 := beq_eq_false_iff_ne.2 h3
  have h4 := beq_eq_false_iff_ne.2 h4
  have h5 := beq_eq_false_iff_ne.2 h5
  have h6 := beq_eq_false_iff_ne.2 h6
  have h7 := beq_eq_false_iff_ne.2 h7
  have h8 := beq_eq_false_iff_ne.2 h8
  have h9 := beq_eq_false_iff_ne.2 h9
  have h10 := beq_eq_false_iff_ne.2 h10
  have h11 := beq_eq_false_iff_ne.2 h11
  have h12 := beq_eq_false_iff_ne.2 h12
  have h13 := beq_eq_false_iff_ne.2 h13
  have h14 := beq_eq_false_iff_ne.2 h14
  have h15 := beq_eq_false_iff_ne.2 h15
  go_enter Tryz.func245, Tryz.ntmps245
  go_wp2
  go_ret
  exact ⟨rfl, rfl⟩

theorem reserved_any (t : Bs) (w : World) :
    Calls Tryz.prog 245 #[.string ⟨t.toArray⟩] w fun e w' => e = .returned (.bool (reservedB t)) ∧ w' = w := by
  by_cases h : t ∈ wordsB
  · have : reservedB t = true := by simpa [reservedB] using h
    rw [this]; exact reserved_yes t w h
  · have : reservedB t = false := by simpa [reservedB] using h
    rw [this]; exact reserved_no t w h

set_option maxHeartbeats 400000 in
theorem atName_any (rb : Nat) (σ : RS) (w : World) (h : AtR w rb σ) :
    Calls Tryz.prog 233 #[.pointer (some ⟨rb, 0, none⟩)] w fun e w' => e = .returned (.bool σ.atName) ∧ w' = w := by
  have c0 := h.c0; have c1 := h.c1
  clear h
  by_cases hk : σ.kind = 2
  · have hk' : (σ.kind == 2) = true := by simp [hk]
    have hq : Hid (σ.atName = !(reservedB σ.text)) := by apply hide; simp [RS.atName, hk]
    clear hk
    go_enter Tryz.func233, Tryz.ntmps233
    go_wp2_with (go_at_call 245; refine (reserved_any _ _).mono ?_; rintro e w' ⟨rfl, rfl⟩)
    go_ret
    exact ⟨by rw [hq.out]; rfl, rfl⟩
  · have hk' : (σ.kind == 2) = false := by simp [hk]
    have hq : Hid (σ.atName = false) := by apply hide; simp [RS.atName, hk]
    clear hk
    go_enter Tryz.func233, Tryz.ntmps233
    go_wp2_with fail
    go_ret
    exact ⟨by rw [hq.out]; rfl, rfl⟩

set_option maxHeartbeats 400000 in
theorem name_any (rb : Nat) (σ : RS) (w : World) (h : AtR w rb σ) (hs : σ.rest.length ≤ maxLen) :
    Calls Tryz.prog 235 #[.pointer (some ⟨rb, 0, none⟩)] w fun e w' => e = .returned (.agg #[.string ⟨σ.name.1.toArray⟩, .int .i64 0]) ∧ AtR w' rb σ.name.2 ∧ Kept rb w w' := by
  have H := hide h
  have c1 := h.c1
  have hlt := lt_of_at h
  clear h
  cases hk : σ.atName with
  | true =>
    have hq : Hid (σ.name = (σ.text, σ.next)) := by apply hide; simp [RS.name, hk]
    have hk' : Hid (σ.atName = true) := hk
    clear hk
    go_enter Tryz.func235, Tryz.ntmps235
    go_wp2_with (first | (go_at_call 233; refine (atName_any _ σ _ (at_alloc H.out _)).mono ?_; rw [hk'.out]; rintro e w' ⟨rfl, rfl⟩) | (go_at_call 177; refine (rnext_any _ σ _ (at_alloc (at_alloc H.out _) _) hs).mono ?_; rintro e w' ⟨rfl, h1, k1⟩; have H1 := hide h1; clear h1; have e0 := k1.at (at_alloc (at_new _ _) _) (by omega); have e1 := k1.at (at_new _ _) (by simp; omega); simp only [World.size_alloc] at e1; have f0 := fun i => cell_at e0 i; have f1 := fun i => cell_at e1 i; have g0 := fun i => frozen_at e0 i; have E0 := hide e0; clear e0 e1))
    refine bodyPost_ret (v := .agg #[.string ⟨σ.text.toArray⟩, .int .i64 0]) (by simp [results, Tryz.results235, go_sem, f0]) rfl ⟨by rw [hq.out], ?_, ?_⟩
    · rw [hq.out]
      exact at_setCell_other (at_setCell_other H1.out (by omega) _ _) (by omega) _ _
    · exact ((((Kept.refl _ _).alloc _).alloc _).trans k1).setNew (by omega) _ _ |>.setNew (by omega) _ _
  | false =>
    have hq : Hid (σ.name = ([], σ.fail 2)) := by apply hide; simp [RS.name, hk]
    have hk' : Hid (σ.atName = false) := hk
    clear hk
    go_enter Tryz.func235, Tryz.ntmps235
    go_wp2_with (first | (go_at_call 233; refine (atName_any _ σ _ (at_alloc H.out _)).mono ?_; rw [hk'.out]; rintro e w' ⟨rfl, rfl⟩) | (go_at_call 179; refine (fail_any _ σ _ _ (at_alloc H.out _)).mono ?_; rintro e w' ⟨rfl, h1, k1⟩; have H1 := hide h1; clear h1; have e0 := k1.at (at_new _ _) (by omega); have f0 := fun i => cell_at e0 i; have g0 := fun i => frozen_at e0 i; have E0 := hide e0; clear e0))
    refine bodyPost_ret (v := .agg #[.string ⟨#[]⟩, .int .i64 0]) (by simp [results, Tryz.results235, go_sem, f0]) rfl ⟨by rw [hq.out], ?_, ?_⟩
    · rw [hq.out]
      exact at_setCell_other (at_setCell_other H1.out (by omega) _ _) (by omega) _ _
    · exact (((Kept.refl _ _).alloc _).trans k1).setNew (by omega) _ _ |>.setNew (by omega) _ _
end Go.Proofs.YtnhidaamfnjdjaaGreatDoor
namespace Go.Proofs.YtnhidaamfnjdjaaGreatDoor
open Go.RowKit

set_option maxHeartbeats 400000 in
theorem atOp_any (rb : Nat) (σ : RS) (m : Int) (w : World) (h : AtR w rb σ) (hm : w.cell? ⟨0, 0, none⟩ = some (.int .i64 m)) :
    Calls Tryz.prog 242 #[.pointer (some ⟨rb, 0, none⟩)] w fun e w' => e = .returned (.bool σ.atOp) ∧ w' = w := by
  have c0 := h.c0; have c1 := h.c1
  clear h
  have Hm := hide hm
  clear hm
  by_cases hk : σ.kind = 4
  · have hk' : (σ.kind == 4) = true := by simp [hk]
    have hq : Hid (σ.atOp = Lib.contains opersB σ.text) := by apply hide; simp [RS.atOp, hk]
    clear hk
    go_enter Tryz.func242, Tryz.ntmps242
    go_wp2_with (go_at_call 247; refine (Tryz.strings_Contains _ _ m _ (by decide) Hm.out).mono ?_; rintro e w' ⟨rfl, rfl⟩)
    go_ret
    exact ⟨by rw [hq.out]; rfl, rfl⟩
  · have hk' : (σ.kind == 4) = false := by simp [hk]
    have hq : Hid (σ.atOp = false) := by apply hide; simp [RS.atOp, hk]
    clear hk
    go_enter Tryz.func242, Tryz.ntmps242
    go_wp2_with fail
    go_ret
    exact ⟨by rw [hq.out]; rfl, rfl⟩

theorem Kept.bytesWorld {b : Nat} {a w : World} (h : Kept b a w) (e : TypeId) (t : ByteArray) : Kept b a (Lib.bytesWorld w e t) := by
  exact h.trans ⟨rfl, rfl, rfl, by rw [Lib.bytesWorld_size]; omega, fun k hk _ => Lib.bytesWorld_at_old w e t k hk⟩

set_option maxHeartbeats 400000 in
theorem number_any (rb : Nat) (σ : RS) (w : World) (h : AtR w rb σ) (ok : σ.Ok) (hk : σ.kind = 3) :
    Calls Tryz.prog 244 #[.pointer (some ⟨rb, 0, none⟩)] w fun e w' => ∃ v, e = .returned (.pointer v) ∧ RepE w' (.num ((Lib.atoi σ.text).getD 0)) w.heap.size w'.heap.size v ∧ AtR w' rb σ.next ∧ Kept rb w w' := by
  have H := hide h
  have c1 := h.c1
  have hs : σ.rest.length ≤ maxLen := Nat.le_trans ok.rest (by decide)
  obtain ⟨n, hn, hl⟩ := ok.num hk
  have Hn := hide hn
  clear h hn hk ok
  go_enter Tryz.func244, Tryz.ntmps244
  go_wp2_with fail
  refine (Tryz.strconv_Atoi _ n (by simpa [ByteArray.size] using hl) (by simpa using Hn.out) _).mono ?_
  rintro e w' ⟨rfl, t, rfl⟩
  have k0 : Kept rb w (Lib.bytesWorld w 5 t) := (Kept.refl _ _).bytesWorld _ _
  have h0 : AtR (Lib.bytesWorld w 5 t) rb σ := (Kept.bytesWorld (b := w.heap.size) (Kept.refl _ _) 5 t).at H.out (by have := lt_of_at H.out; omega)
  have K0 := hide k0; have H0 := hide h0
  clear k0 h0
  generalize Lib.bytesWorld w 5 t = w0 at K0 H0 ⊢
  go_wp2_with (go_at_call 177; refine (rnext_any _ σ _ H0.out hs).mono ?_; rintro e w' ⟨rfl, h1, k1⟩; have H1 := hide h1; clear h1)
  go_ret
  rw [Hn.out]
  refine ⟨_, rfl, ⟨w'.heap.size, ?_, ?_, rfl, at_new _ _⟩, at_alloc H1.out _, (K0.out.trans k1).alloc _⟩
  · have := (K0.out.trans k1).size; omega
  · simp
end Go.Proofs.YtnhidaamfnjdjaaGreatDoor
namespace Go.Proofs.YtnhidaamfnjdjaaGreatDoor
open Go.RowKit

def OperandSaid (n : Nat) : Prop := ∀ (rb : Nat) (σ : RS) (m : Int) (w : World), AtR w rb σ → σ.Ok → σ.opn = 4 - (n : Int) → w.cell? ⟨0, 0, none⟩ = some (.int .i64 m) → rb ≠ 0 →
  Calls Tryz.prog 231 #[.pointer (some ⟨rb, 0, none⟩)] w fun e w' => ∃ v, e = .returned (.pointer v) ∧ RepE w' (operandF n σ).1 w.heap.size w'.heap.size v ∧ AtR w' rb (operandF n σ).2 ∧ Kept rb w w'

def ExprSaid (n : Nat) : Prop := ∀ (rb : Nat) (σ : RS) (m : Int) (w : World), AtR w rb σ → σ.Ok → σ.opn = 4 - (n : Int) → w.cell? ⟨0, 0, none⟩ = some (.int .i64 m) → rb ≠ 0 →
  Calls Tryz.prog 207 #[.pointer (some ⟨rb, 0, none⟩)] w fun e w' => ∃ v, e = .returned (.pointer v) ∧ RepE w' (exprF n σ).1 w.heap.size w'.heap.size v ∧ AtR w' rb (exprF n σ).2 ∧ Kept rb w w'

set_option maxHeartbeats 400000 in
theorem exprFrom_no (rb : Nat) (σ : RS) (m : Int) (vl : Option Addr) (w : World) (h : AtR w rb σ) (hm : w.cell? ⟨0, 0, none⟩ = some (.int .i64 m)) (hop : σ.atOp = false) :
    Calls Tryz.prog 230 #[.pointer (some ⟨rb, 0, none⟩), .pointer vl] w fun e w' => e = .returned (.pointer vl) ∧ w' = w := by
  have H := hide h
  have Hm := hide hm
  have Ho := hide hop
  clear h hm hop
  go_enter Tryz.func230, Tryz.ntmps230
  go_wp2_with (go_at_call 242; refine (atOp_any _ σ m _ H.out Hm.out).mono ?_; rw [Ho.out]; rintro e w' ⟨rfl, rfl⟩)
  go_ret
  exact ⟨rfl, rfl⟩

set_option maxHeartbeats 400000 in
theorem exprFrom_any (n : Nat) (ih : OperandSaid n) (rb : Nat) (σ : RS) (m : Int) (left : PE) (lo : Nat) (vl : Option Addr) (w : World) (h : AtR w rb σ) (ok : σ.Ok) (ho : σ.opn = 4 - (n : Int))
    (hm : w.cell? ⟨0, 0, none⟩ = some (.int .i64 m)) (h0 : rb ≠ 0) (hl : RepE w left lo w.heap.size vl) (hlo : rb < lo) :
    Calls Tryz.prog 230 #[.pointer (some ⟨rb, 0, none⟩), .pointer vl] w fun e w' => ∃ v, e = .returned (.pointer v) ∧ RepE w' (fromF (operandF n) (left, σ)).1 lo w'.heap.size v ∧ AtR w' rb (fromF (operandF n) (left, σ)).2 ∧ Kept rb w w' := by
  cases hop : σ.atOp with
  | false =>
    refine (exprFrom_no rb σ m vl w h hm hop).mono ?_
    rintro e w' ⟨rfl, rfl⟩
    have e1 : fromF (operandF n) (left, σ) = (left, σ) := by simp [fromF, hop]
    rw [e1]
    exact ⟨vl, rfl, hl, h, Kept.refl _ _⟩
  | true =>
    have e1 : fromF (operandF n) (left, σ) = (.pair (σ.text.headD 0) left (operandF n σ.next).1, (operandF n σ.next).2) := by simp [fromF, hop]
    rw [e1]
    have hk : σ.kind = 4 := by
      unfold RS.atOp at hop
      simp at hop
      exact hop.1
    obtain ⟨c, r, hc⟩ : ∃ c r, σ.text = c :: r := by
      have := ok.sign hk
      cases ht : σ.text with
      | nil => exact absurd ht this
      | cons c r => exact ⟨c, r, rfl⟩
    have hd : σ.text.headD 0 = c := by rw [hc]; rfl
    rw [hd]
    have H := hide h
    have Hm := hide hm
    have Ho := hide hop
    have Hok := hide ok
    have Hopn := hide ho
    have Hl := hide hl
    have c1 := h.c1
    rw [hc] at c1
    have i0 : ∀ h, (⟨(c :: r).toArray⟩ : ByteArray)[0]'h = c := fun _ => rfl
    have hs : σ.rest.length ≤ maxLen := Nat.le_trans ok.rest (by decide)
    clear h hm hop ok ho hl hc hd hk e1
    go_enter Tryz.func230, Tryz.ntmps230
    go_wp2_with (first | (go_at_call 242; refine (atOp_any _ σ m _ H.out Hm.out).mono ?_; rw [Ho.out]; rintro e wx ⟨rfl, hw⟩; have hw := hw.symm; subst hw) | (go_at_call 177; refine (rnext_any _ σ _ H.out hs).mono ?_; rintro e w1 ⟨rfl, h1, k1⟩; have H1 := hide h1; have K1 := hide k1; clear h1 k1) | (go_at_call 231; refine (ih rb σ.next m _ H1.out Hok.out.next Hopn.out (K1.out.cell Hm.out (Ne.symm h0)) h0).mono ?_; rintro e w2 ⟨v2, rfl, r2, h2, k2⟩; have H2 := hide h2; have K2 := hide k2; have R2 := hide r2; clear h2 k2 r2))
    go_ret
    have hlt := lt_of_at H.out
    have s1 := K1.out.size
    have s2 := K2.out.size
    refine ⟨_, rfl, ⟨w2.heap.size, w.heap.size, w2.heap.size, vl, v2, ?_, ?_, ?_, ?_, rfl, at_new _ _, ?_, ?_⟩, at_alloc H2.out _, (K1.out.trans K2.out).alloc _⟩
    · exact Hl.out.le
    · omega
    · omega
    · simp
    · exact ((RepE.kept (K1.out.trans K2.out) Hl.out hlo (Nat.le_refl _))).frame (fun k a b => Below.heap_alloc _ _ _ (by omega))
    · exact (R2.out.widen s1 (Nat.le_refl _)).frame (fun k a b => Below.heap_alloc _ _ _ (by omega))

set_option maxHeartbeats 400000 in
theorem expr_of (n : Nat) (ih : OperandSaid n) : ExprSaid n := by
  intro rb σ m w h ok ho hm h0
  have H := hide h
  have Hm := hide hm
  have Hok := hide ok
  have Hopn := hide ho
  have hlt := lt_of_at h
  have Hq := hide (operandF_ok n σ ok)
  clear h ok ho hm
  go_enter Tryz.func207, Tryz.ntmps207
  go_wp2_with (first | (go_at_call 231; refine (ih rb σ m _ H.out Hok.out Hopn.out Hm.out h0).mono ?_; rintro e w2 ⟨v2, rfl, r2, h2, k2⟩; have H2 := hide h2; have K2 := hide k2; have R2 := hide r2; clear h2 k2 r2) | (go_at_call 230; refine (exprFrom_any n ih rb (operandF n σ).2 m (operandF n σ).1 w.heap.size v2 _ H2.out Hq.out.1 (Hq.out.2.trans Hopn.out) (K2.out.cell Hm.out (Ne.symm h0)) h0 R2.out hlt).mono ?_; rintro e w3 ⟨v3, rfl, r3, h3, k3⟩; have H3 := hide h3; have K3 := hide k3; have R3 := hide r3; clear h3 k3 r3))
  go_ret
  exact ⟨v3, rfl, R3.out, H3.out, K2.out.trans K3.out⟩

set_option maxHeartbeats 400000 in
theorem bracketed_zero (rb : Nat) (σ : RS) (w : World) (h : AtR w rb σ) (ho : σ.opn = 4) :
    Calls Tryz.prog 243 #[.pointer (some ⟨rb, 0, none⟩)] w fun e w' => e = .returned (.pointer none) ∧ AtR w' rb (σ.fail 3) ∧ Kept rb w w' := by
  have H := hide h
  have c3 := h.c3
  have ho' : (σ.opn == 4) = true := by simp [ho]
  clear h ho
  go_enter Tryz.func243, Tryz.ntmps243
  go_wp2_with (go_at_call 179; refine (fail_any _ σ _ _ H.out).mono ?_; rintro e w' ⟨rfl, h1, k1⟩; have H1 := hide h1; clear h1)
  go_ret
  exact ⟨rfl, H1.out, k1⟩

set_option maxHeartbeats 400000 in
theorem bracketed_succ (n : Nat) (ih : ExprSaid n) (rb : Nat) (σ : RS) (m : Int) (w : World) (h : AtR w rb σ) (ok : σ.Ok) (ho : σ.opn = 4 - ((n + 1 : Nat) : Int))
    (hn : n < 4) (hm : w.cell? ⟨0, 0, none⟩ = some (.int .i64 m)) (h0 : rb ≠ 0) :
    Calls Tryz.prog 243 #[.pointer (some ⟨rb, 0, none⟩)] w fun e w' => ∃ v, e = .returned (.pointer v) ∧ RepE w' (innerF (operandF n) σ).1 w.heap.size w'.heap.size v ∧ AtR w' rb (innerF (operandF n) σ).2 ∧ Kept rb w w' := by
  have ho' : (σ.opn == 4) = false := by rw [beq_eq_false_iff_ne]; omega
  have b1 : -1 ≤ σ.opn := by omega
  have b2 : σ.opn ≤ 4 := by omega
  generalize hσ1 : ({ σ with opn := σ.opn + 1 } : RS) = σ1
  have ok1 : σ1.Ok := by rw [← hσ1]; exact ok.opn _
  have o1 : σ1.opn = 4 - (n : Int) := by rw [← hσ1]; simp only []; omega
  have e1 : innerF (operandF n) σ = ((exprF n (σ1.need [40])).1, { (exprF n (σ1.need [40])).2.need [41] with opn := ((exprF n (σ1.need [40])).2.need [41]).opn - 1 }) := by
    unfold innerF exprF; rw [hσ1]
  rw [e1]
  have okn : (σ1.need [40]).Ok := ok1.need _
  have on : (σ1.need [40]).opn = 4 - (n : Int) := by rw [RS.need_opn]; exact o1
  have oke := exprF_ok n _ okn
  have hz : (exprF n (σ1.need [40])).2.rest.length ≤ maxLen := Nat.le_trans oke.1.rest (by decide)
  generalize hq : exprF n (σ1.need [40]) = q at hz oke ⊢
  have of : ((q.2.need [41]).opn) = 4 - (n : Int) := by rw [RS.need_opn, oke.2]; exact on
  have H := hide h
  have H1 : Hid (AtR (w.setCell ⟨rb, 3, none⟩ (.int .i64 (σ.opn + 1))) rb σ1) := by
    apply hide; rw [← hσ1]; exact at_setCell h _ _
  have Hm := hide hm
  have Hok1 := hide ok1
  have Hokn := hide okn
  have Hon := hide on
  have Hq := hide hq
  have Hoq := hide oke.1
  have Hof := hide of
  have c3 := h.c3
  have fz := h.fz
  have hs : σ1.rest.length ≤ maxLen := Nat.le_trans ok1.rest (by decide)
  have hlt := lt_of_at h
  clear h hm ok ho ok1 o1 e1 okn on hq oke of hσ1
  go_enter Tryz.func243, Tryz.ntmps243
  go_wp2_with fail
  refine (need_any rb σ1 [40] _ H1.out hs).mono ?_
  rintro e w2 ⟨rfl, h2, k2⟩
  have k2' : Kept rb w w2 := ((Kept.refl _ _).setCell _ _).trans k2
  have H2 := hide h2; have K2 := hide k2'
  clear h2 k2 k2'
  go_wp2_with fail
  refine (ih rb _ m _ H2.out Hokn.out Hon.out (K2.out.cell Hm.out (Ne.symm h0)) h0).mono ?_
  rw [Hq.out]
  rintro e w3 ⟨v3, rfl, r3, h3, k3⟩
  have H3 := hide h3; have K3 := hide k3; have R3 := hide r3
  clear h3 k3 r3
  go_wp2_with fail
  refine (need_any rb _ [41] _ H3.out hz).mono ?_
  rintro e w4 ⟨rfl, h4, k4⟩
  have d3 := h4.c3
  have fz4 := h4.fz
  rw [Hof.out] at d3
  have H4 := hide h4; have K4 := hide k4
  clear h4 k4
  go_wp2
  go_ret
  have s2 := K2.out.size
  have s3 := K3.out.size
  have s4 := K4.out.size
  refine ⟨v3, rfl, ?_, ?_, ((K2.out.trans K3.out).trans K4.out).setCell _ _⟩
  · refine ((RepE.kept K4.out R3.out (by omega) (Nat.le_refl _)).widen s2 s4).frame (fun k a b => ?_) |>.widen (Nat.le_refl _) (by simp [World.setCell])
    exact Below.heap_setCell _ _ _ _ (by simp; omega)
  · rw [Hof.out]
    have := at_setCell H4.out 3 (.int .i64 (4 - (n : Int) - 1))
    exact this
end Go.Proofs.YtnhidaamfnjdjaaGreatDoor
namespace Go.Proofs.YtnhidaamfnjdjaaGreatDoor
open Go.RowKit

/-- an operand that is no bracket -/
theorem operand_leaf (rb : Nat) (σ : RS) (w : World) (h : AtR w rb σ) (ok : σ.Ok) (ht : σ.text ≠ [40]) :
    Calls Tryz.prog 231 #[.pointer (some ⟨rb, 0, none⟩)] w fun e w' => ∃ v, e = .returned (.pointer v) ∧ RepE w' (leafF σ).1 w.heap.size w'.heap.size v ∧ AtR w' rb (leafF σ).2 ∧ Kept rb w w' := by
  have ht' : (σ.text == [40]) = false := beq_eq_false_iff_ne.2 ht
  have H := hide h
  have c0 := h.c0; have c1 := h.c1
  have Hok := hide ok
  have hs : σ.rest.length ≤ maxLen := Nat.le_trans ok.rest (by decide)
  clear h ok ht
  by_cases hk : σ.kind = 3
  · have hk' : (σ.kind == 3) = true := by simp [hk]
    have e1 : leafF σ = (.num ((Lib.atoi σ.text).getD 0), σ.next) := by simp [leafF, hk]
    rw [e1]
    have Hk := hide hk
    clear hk e1
    go_enter Tryz.func231, Tryz.ntmps231
    go_wp2_with (go_at_call 244; refine (number_any _ σ _ H.out Hok.out Hk.out).mono ?_; rintro e w2 ⟨v2, rfl, r2, h2, k2⟩; have H2 := hide h2; have K2 := hide k2; have R2 := hide r2; clear h2 k2 r2)
    go_ret
    exact ⟨v2, rfl, R2.out, H2.out, K2.out⟩
  · have hk' : (σ.kind == 3) = false := by simp [hk]
    have e1 : leafF σ = (.var σ.name.1 0, σ.name.2) := by simp [leafF, hk]
    rw [e1]
    clear hk e1
    go_enter Tryz.func231, Tryz.ntmps231
    go_wp2_with (go_at_call 235; refine (name_any _ σ _ H.out hs).mono ?_; rintro e w2 ⟨rfl, h2, k2⟩; have H2 := hide h2; have K2 := hide k2; clear h2 k2)
    go_ret
    have s2 := K2.out.size
    exact ⟨_, rfl, ⟨w2.heap.size, s2, by simp, rfl, at_new _ _⟩, at_alloc H2.out _, K2.out.alloc _⟩

set_option maxHeartbeats 400000 in
theorem operand_zero : OperandSaid 0 := by
  intro rb σ m w h ok ho hm h0
  by_cases ht : σ.text = [40]
  · have e1 : operandF 0 σ = (.nil, σ.fail 3) := by simp [operandF, ht]
    rw [e1]
    have ht' : (σ.text == [40]) = true := by simp [ht]
    have H := hide h
    have c0 := h.c0; have c1 := h.c1
    have Ho := hide ho
    clear h ok hm ht e1 ho
    go_enter Tryz.func231, Tryz.ntmps231
    go_wp2_with (go_at_call 243; refine (bracketed_zero _ σ _ H.out Ho.out).mono ?_; rintro e w2 ⟨rfl, h2, k2⟩; have H2 := hide h2; have K2 := hide k2; clear h2 k2)
    go_ret
    exact ⟨none, rfl, ⟨K2.out.size, rfl⟩, H2.out, K2.out⟩
  · have e1 : operandF 0 σ = leafF σ := by simp [operandF, ht]
    rw [e1]
    exact operand_leaf rb σ w h ok ht

set_option maxHeartbeats 400000 in
theorem operand_succ (n : Nat) (hn : n < 4) (ih : OperandSaid n) : OperandSaid (n + 1) := by
  intro rb σ m w h ok ho hm h0
  by_cases ht : σ.text = [40]
  · have e1 : operandF (n + 1) σ = innerF (operandF n) σ := by simp [operandF, ht]
    rw [e1]
    have ht' : (σ.text == [40]) = true := by simp [ht]
    have H := hide h
    have c0 := h.c0; have c1 := h.c1
    have Ho := hide ho
    have Hok := hide ok
    have Hm := hide hm
    clear h ok hm ht e1 ho
    go_enter Tryz.func231, Tryz.ntmps231
    go_wp2_with (go_at_call 243; refine (bracketed_succ n (expr_of n ih) _ σ m _ H.out Hok.out Ho.out hn Hm.out h0).mono ?_; rintro e w2 ⟨v2, rfl, r2, h2, k2⟩; have H2 := hide h2; have K2 := hide k2; have R2 := hide r2; clear h2 k2 r2)
    go_ret
    exact ⟨v2, rfl, R2.out, H2.out, K2.out⟩
  · have e1 : operandF (n + 1) σ = leafF σ := by simp [operandF, ht]
    rw [e1]
    exact operand_leaf rb σ w h ok ht

theorem operand_any : ∀ n : Nat, n ≤ 4 → OperandSaid n
  | 0, _ => operand_zero
  | n + 1, h => operand_succ n (by omega) (operand_any n (by omega))

theorem expr_any (rb : Nat) (σ : RS) (m : Int) (w : World) (h : AtR w rb σ) (ok : σ.Ok) (ho : σ.opn = 0) (hm : w.cell? ⟨0, 0, none⟩ = some (.int .i64 m)) (h0 : rb ≠ 0) :
    Calls Tryz.prog 207 #[.pointer (some ⟨rb, 0, none⟩)] w fun e w' => ∃ v, e = .returned (.pointer v) ∧ RepE w' (exprF 4 σ).1 w.heap.size w'.heap.size v ∧ AtR w' rb (exprF 4 σ).2 ∧ Kept rb w w' :=
  expr_of 4 (operand_any 4 (Nat.le_refl _)) rb σ m w h ok (by rw [ho]; decide) hm h0
theorem exprFrom_4 (rb : Nat) (σ : RS) (m : Int) (left : PE) (lo : Nat) (vl : Option Addr) (w : World) (h : AtR w rb σ) (ok : σ.Ok) (ho : σ.opn = 0)
    (hm : w.cell? ⟨0, 0, none⟩ = some (.int .i64 m)) (h0 : rb ≠ 0) (hl : RepE w left lo w.heap.size vl) (hlo : rb < lo) :
    Calls Tryz.prog 230 #[.pointer (some ⟨rb, 0, none⟩), .pointer vl] w fun e w' => ∃ v, e = .returned (.pointer v) ∧ RepE w' (fromF (operandF 4) (left, σ)).1 lo w'.heap.size v ∧ AtR w' rb (fromF (operandF 4) (left, σ)).2 ∧ Kept rb w w' :=
  exprFrom_any 4 (operand_any 4 (Nat.le_refl _)) rb σ m left lo vl w h ok (by rw [ho]; decide) hm h0 hl hlo
end Go.Proofs.YtnhidaamfnjdjaaGreatDoor
