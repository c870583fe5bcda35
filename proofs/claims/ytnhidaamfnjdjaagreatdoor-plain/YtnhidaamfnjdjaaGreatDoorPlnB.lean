import Derived.Test.YtnhidaamfnjdjaaGreatDoorPlnA
/- LINES THAT WRITE what comes of two numbers, plain. Nothing of the dump. -/
namespace Go.Proofs.YtnhidaamfnjdjaaGreatDoor

/-- a line that writes an expr -/
theorem out_line (b : Bs) (R : Bs) (e : PE) (h1 : startF b = ⟨2, wOut, R, 0, 0⟩) (h2 : nextT (trimB R) = ⟨4, [33], (nextS R).rest⟩) (h3 : exprF 4 ((⟨4, [33], (nextS R).rest, 0, 0⟩ : RS).next) = (e, ⟨0, [], [], 0, 0⟩)) : readLineF b 7 = (⟨4, [], wOut, e⟩, 0) := by
  have hn : (⟨2, wOut, R, 0, 0⟩ : RS).next = ⟨4, [33], (nextS R).rest, 0, 0⟩ := by
    unfold RS.next
    have : nextS R = ⟨4, [33], (nextS R).rest⟩ := h2
    rw [this]
  have hp : lineF 7 (startF b) = writeF wOut ⟨4, [33], (nextS R).rest, 0, 0⟩ := by
    rw [h1, ← hn]
    rfl
  have hw : writeF wOut ⟨4, [33], (nextS R).rest, 0, 0⟩ = (⟨4, [], wOut, e⟩, ⟨0, [], [], 0, 0⟩) := by
    unfold writeF RS.need
    rw [if_pos rfl, h3]
  unfold readLineF
  rw [hp, hw]
  rfl
theorem from_op (f : RS → PE × RS) (e : PE) (o : UInt8) (r : Bs) (p q : Int) (h : Lib.contains opersB [o] = true) : fromF f (e, ⟨4, [o], r, p, q⟩) = (.pair o e (f (⟨4, [o], r, p, q⟩ : RS).next).1, (f (⟨4, [o], r, p, q⟩ : RS).next).2) := by
  unfold fromF
  rw [if_pos (by unfold RS.atOp; rw [h]; rfl)]
  rfl
theorem from_no (f : RS → PE × RS) (e : PE) (σ : RS) (h : σ.atOp = false) : fromF f (e, σ) = (e, σ) := by
  unfold fromF
  rw [if_neg (by rw [h]; decide)]
/-- an expr in brackets -/
theorem operand_in (f : Nat) (r : Bs) (p q : Int) : operandF (f + 1) ⟨4, [40], r, p, q⟩ = innerF (operandF f) ⟨4, [40], r, p, q⟩ := by
  show (if (⟨4, [40], r, p, q⟩ : RS).text = [40] then _ else _) = _
  rw [if_pos rfl]
theorem inner_num {D : Bs} {n : Nat} (h : Dig D n) (f : Nat) (k : Int) (r r2 t2 : Bs) (p : Int) (h2 : nextS r = ⟨k, t2, r2⟩) : innerF (operandF f) ⟨4, [40], D ++ 41 :: r, p, 0⟩ = (.num (n : Int), ⟨k, t2, r2, p, 0⟩) := by
  have e1 : (({ (⟨4, [40], D ++ 41 :: r, p, 0⟩ : RS) with opn := p + 1 } : RS).need [40]) = ⟨3, D, 41 :: r, p + 1, 0⟩ := by
    unfold RS.need
    rw [if_pos rfl]
    exact next_dig h 4 [40] (41 :: r) (p + 1) 0 (fun c hc => by injection hc with hc; subst hc; decide)
  unfold innerF
  dsimp only
  rw [e1, operand_dig h, from_no _ _ _ rfl]
  dsimp only
  have e2 : (⟨3, D, 41 :: r, p + 1, 0⟩ : RS).next.need [41] = ⟨k, t2, r2, p + 1, 0⟩ := by
    show (if (⟨3, D, 41 :: r, p + 1, 0⟩ : RS).next.text = [41] then (⟨3, D, 41 :: r, p + 1, 0⟩ : RS).next.next else _) = _
    rw [if_pos (show (⟨3, D, 41 :: r, p + 1, 0⟩ : RS).next.text = [41] from rfl)]
    show (⟨(nextS r).kind, (nextS r).text, (nextS r).rest, p + 1, 0⟩ : RS) = _
    rw [h2]
  rw [e2]
  dsimp only
  congr 2
  omega
theorem two_read {D E : Bs} {n m : Nat} (hD : Dig D n) (hE : Dig E m) (o : UInt8) (ho : Lib.contains opersB [o] = true) (r1 r2 : Bs) (h1 : nextS r1 = ⟨4, [o], r2⟩) (h2 : nextS r2 = ⟨3, E, []⟩) : exprF 4 ⟨3, D, r1, 0, 0⟩ = (.pair o (.num (n : Int)) (.num (m : Int)), ⟨0, [], [], 0, 0⟩) := by
  have e1 : (⟨3, D, r1, 0, 0⟩ : RS).next = ⟨4, [o], r2, 0, 0⟩ := by unfold RS.next; rw [h1]
  have e2 : (⟨4, [o], r2, 0, 0⟩ : RS).next = ⟨3, E, [], 0, 0⟩ := by unfold RS.next; rw [h2]
  unfold exprF
  rw [operand_dig hD, e1, from_op _ _ _ _ _ _ ho, e2, operand_dig hE]
  rfl
/-- " + ": signs with blanks -/
def opLine (o : UInt8) (D E : Bs) : Bs := [111, 117, 116, 32, 33, 32] ++ (D ++ 32 :: o :: 32 :: E)
theorem dig_all {D : Bs} {n : Nat} (hD : Dig D n) : nextS D = ⟨3, D, []⟩ := by
  have := nextS_dig hD [] (fun c hc => by cases hc)
  rw [List.append_nil] at this
  exact this
theorem op_read {D E : Bs} {n m : Nat} (hD : Dig D n) (hE : Dig E m) (o : UInt8) (ho : Lib.contains opersB [o] = true) (hs : ∀ r : Bs, nextS (32 :: o :: r) = ⟨4, [o], r⟩) : readLineF (opLine o D E) 7 = (⟨4, [], wOut, .pair o (.num (n : Int)) (.num (m : Int))⟩, 0) := by
  refine out_line _ (32 :: 33 :: 32 :: (D ++ 32 :: o :: 32 :: E)) _ rfl rfl ?_
  show exprF 4 ((⟨4, [33], 32 :: (D ++ 32 :: o :: 32 :: E), 0, 0⟩ : RS).next) = _
  rw [next_bl, next_dig hD _ _ _ _ _ (fun c hc => by injection hc with hc; subst hc; decide)]
  exact two_read hD hE o ho _ _ (hs _) (by rw [nextS_bl]; exact dig_all hE)
/-- "out!..-..": without blanks -/
def subLine (D E : Bs) : Bs := [111, 117, 116, 33] ++ (D ++ 45 :: E)
theorem sub_read {D E : Bs} {n m : Nat} (hD : Dig D n) (hE : Dig E m) : readLineF (subLine D E) 7 = (⟨4, [], wOut, .pair 45 (.num (n : Int)) (.num (m : Int))⟩, 0) := by
  refine out_line _ (33 :: (D ++ 45 :: E)) _ rfl rfl ?_
  show exprF 4 ((⟨4, [33], (D ++ 45 :: E), 0, 0⟩ : RS).next) = _
  rw [next_dig hD _ _ _ _ _ (fun c hc => by injection hc with hc; subst hc; decide)]
  exact two_read hD hE 45 rfl _ _ rfl (dig_all hE)
/-- brackets, one and two -/
def mulLine (D E : Bs) : Bs := [111, 117, 116, 32, 33, 32, 40] ++ (D ++ 41 :: 32 :: 42 :: 32 :: 40 :: 40 :: (E ++ [41, 41]))
theorem mul_read {D E : Bs} {n m : Nat} (hD : Dig D n) (hE : Dig E m) : readLineF (mulLine D E) 7 = (⟨4, [], wOut, .pair 42 (.num (n : Int)) (.num (m : Int))⟩, 0) := by
  refine out_line _ (32 :: 33 :: 32 :: 40 :: (D ++ 41 :: 32 :: 42 :: 32 :: 40 :: 40 :: (E ++ [41, 41]))) _ rfl rfl ?_
  show exprF 4 ⟨4, [40], D ++ 41 :: 32 :: 42 :: 32 :: 40 :: 40 :: (E ++ [41, 41]), 0, 0⟩ = _
  have e2 : innerF (operandF 3) ⟨4, [40], 40 :: (E ++ [41, 41]), 0, 0⟩ = (.num (m : Int), ⟨0, [], [], 0, 0⟩) := by
    have e3 : (({ (⟨4, [40], 40 :: (E ++ [41, 41]), 0, 0⟩ : RS) with opn := (0 : Int) + 1 } : RS).need [40]) = ⟨4, [40], E ++ [41, 41], 1, 0⟩ := rfl
    unfold innerF
    dsimp only
    rw [e3, operand_in, inner_num hE 2 4 [41] [] [41] 1 rfl, from_no _ _ _ rfl]
    rfl
  unfold exprF
  rw [operand_in, inner_num hD 3 4 (32 :: 42 :: 32 :: 40 :: 40 :: (E ++ [41, 41])) (32 :: 40 :: 40 :: (E ++ [41, 41])) [42] 0 rfl, from_op _ _ _ _ _ _ rfl]
  show (PE.pair 42 (.num (n : Int)) (operandF 4 ⟨4, [40], 40 :: (E ++ [41, 41]), 0, 0⟩).1, (operandF 4 ⟨4, [40], 40 :: (E ++ [41, 41]), 0, 0⟩).2) = _
  rw [operand_in, e2]
/-- "(0 - ..) % .." -/
def modLine (D E : Bs) : Bs := [111, 117, 116, 32, 33, 32, 40, 48, 32, 45, 32] ++ (D ++ 41 :: 32 :: 37 :: 32 :: E)
theorem mod_read {D E : Bs} {n m : Nat} (hD : Dig D n) (hE : Dig E m) : readLineF (modLine D E) 7 = (⟨4, [], wOut, .pair 37 (.pair 45 (.num 0) (.num (n : Int))) (.num (m : Int))⟩, 0) := by
  refine out_line _ (32 :: 33 :: 32 :: 40 :: 48 :: 32 :: 45 :: 32 :: (D ++ 41 :: 32 :: 37 :: 32 :: E)) _ rfl rfl ?_
  show exprF 4 ⟨4, [40], 48 :: 32 :: 45 :: 32 :: (D ++ 41 :: 32 :: 37 :: 32 :: E), 0, 0⟩ = _
  have h0 : Dig [48] 0 := ⟨by simp, by simp, by decide, by decide⟩
  have e1 : innerF (operandF 3) ⟨4, [40], 48 :: 32 :: 45 :: 32 :: (D ++ 41 :: 32 :: 37 :: 32 :: E), 0, 0⟩ = (.pair 45 (.num 0) (.num (n : Int)), ⟨4, [37], 32 :: E, 0, 0⟩) := by
    have e3 : (({ (⟨4, [40], 48 :: 32 :: 45 :: 32 :: (D ++ 41 :: 32 :: 37 :: 32 :: E), 0, 0⟩ : RS) with opn := (0 : Int) + 1 } : RS).need [40]) = ⟨3, [48], 32 :: 45 :: 32 :: (D ++ 41 :: 32 :: 37 :: 32 :: E), 1, 0⟩ := rfl
    have e4 : (⟨3, [48], 32 :: 45 :: 32 :: (D ++ 41 :: 32 :: 37 :: 32 :: E), 1, 0⟩ : RS).next = ⟨4, [45], 32 :: (D ++ 41 :: 32 :: 37 :: 32 :: E), 1, 0⟩ := rfl
    unfold innerF
    dsimp only
    rw [e3, operand_dig h0, e4, from_op _ _ _ _ _ _ rfl, next_bl, next_dig hD _ _ _ _ _ (fun c hc => by injection hc with hc; subst hc; decide), operand_dig hD]
    rfl
  unfold exprF
  rw [operand_in, e1, from_op _ _ _ _ _ _ rfl, next_bl]
  have e5 : (⟨4, [37], E, 0, 0⟩ : RS).next = ⟨3, E, [], 0, 0⟩ := by unfold RS.next; rw [dig_all hE]
  rw [e5, operand_dig hE]
  rfl
end Go.Proofs.YtnhidaamfnjdjaaGreatDoor
