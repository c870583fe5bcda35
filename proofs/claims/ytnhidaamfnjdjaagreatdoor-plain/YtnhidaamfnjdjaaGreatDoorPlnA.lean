import Derived.Test.YtnhidaamfnjdjaaGreatDoorPure
/- NUMBERS IN DIGITS, plain; a line that bears two of them. Nothing of the dump. -/
namespace Go.Proofs.YtnhidaamfnjdjaaGreatDoor

def digD : Nat → Nat → Bs
  | 0, _ => []
  | f + 1, k => if k < 10 then [UInt8.ofNat (48 + k)] else digD f (k / 10) ++ [UInt8.ofNat (48 + k % 10)]
theorem digD_len : ∀ f k, (digD f k).length ≤ f
  | 0, _ => by simp [digD]
  | f + 1, k => by
    unfold digD
    split
    · simp
    · have := digD_len f (k / 10)
      simp; omega
theorem dig_nat (k : Nat) (h : k < 10) : (UInt8.ofNat (48 + k)).toNat = 48 + k := by
  simp [UInt8.toNat_ofNat']; omega
theorem dig_is (k : Nat) (h : k < 10) : isDigitB (UInt8.ofNat (48 + k)).toNat = true := by
  rw [dig_nat k h]
  unfold isDigitB
  rw [Bool.and_eq_true, decide_eq_true_eq, decide_eq_true_eq]
  omega
theorem digD_dig : ∀ f k, ∀ c ∈ digD f k, isDigitB c.toNat = true
  | 0, _, c, h => by simp [digD] at h
  | f + 1, k, c, h => by
    unfold digD at h
    split at h
    · rename_i hk
      rw [List.mem_singleton] at h
      subst h
      exact dig_is k hk
    · rcases List.mem_append.1 h with h | h
      · exact digD_dig f _ c h
      · rw [List.mem_singleton] at h
        subst h
        exact dig_is _ (Nat.mod_lt _ (by decide))
theorem digD_ne (f k : Nat) (hf : 0 < f) : digD f k ≠ [] := by
  cases f with
  | zero => omega
  | succ f =>
    unfold digD
    split <;> simp
theorem decFrom_snoc : ∀ (l : Bs) (a n d : Nat) (c : UInt8), Lib.decFrom a l = some n → Lib.digitVal c = some d → Lib.decFrom a (l ++ [c]) = some (n * 10 + d)
  | [], a, n, d, c, h, hc => by
    have h : some a = some n := h
    injection h with h
    subst h
    show (match Lib.digitVal c with | some d => Lib.decFrom (a * 10 + d) [] | none => none) = _
    rw [hc]
    rfl
  | x :: l, a, n, d, c, h, hc => by
    have h : (match Lib.digitVal x with | some d => Lib.decFrom (a * 10 + d) l | none => none) = some n := h
    show (match Lib.digitVal x with | some d => Lib.decFrom (a * 10 + d) (l ++ [c]) | none => none) = _
    cases hx : Lib.digitVal x with
    | none => rw [hx] at h; cases h
    | some y =>
      rw [hx] at h
      exact decFrom_snoc l _ n d c h hc
theorem digitVal_dig (k : Nat) (h : k < 10) : Lib.digitVal (UInt8.ofNat (48 + k)) = some k := by
  unfold Lib.digitVal
  rw [dig_nat k h, if_pos (by omega)]
  congr 1
  omega
theorem digD_dec : ∀ f k, k < 10 ^ f → 0 < f → Lib.decFrom 0 (digD f k) = some k
  | 0, _, _, h => by omega
  | f + 1, k, hk, _ => by
    unfold digD
    split
    · rename_i h
      show (match Lib.digitVal (UInt8.ofNat (48 + k)) with | some d => Lib.decFrom (0 * 10 + d) [] | none => none) = _
      rw [digitVal_dig k h]
      simp [Lib.decFrom]
    · rename_i h
      have hf : 0 < f := by
        rcases Nat.eq_zero_or_pos f with rfl | hf
        · simp at hk; omega
        · exact hf
      have ih := digD_dec f (k / 10) (by rw [Nat.pow_succ] at hk; omega) hf
      rw [decFrom_snoc _ _ _ _ _ ih (digitVal_dig (k % 10) (Nat.mod_lt _ (by decide)))]
      congr 1
      omega
/-- a row of digits, one at least -/
structure Dig (D : Bs) (n : Nat) : Prop where
  ne : D ≠ []
  len : D.length ≤ 7
  all : ∀ c ∈ D, isDigitB c.toNat = true
  dec : Lib.decFrom 0 D = some n
def digX (k : Nat) : Bs := digD 7 k
theorem digX_ok (k : Nat) (h : k < 10000000) : Dig (digX k) k := ⟨digD_ne 7 k (by decide), digD_len 7 k, digD_dig 7 k, digD_dec 7 k h (by decide)⟩
theorem Dig.atoi {D : Bs} {n : Nat} (h : Dig D n) : Lib.atoi D = some (n : Int) := by
  cases D with
  | nil => exact absurd rfl h.ne
  | cons c l =>
    have hc := h.all c (by simp)
    have h45 : (c == 45) = false := by
      rw [beq_eq_false_iff_ne]
      rintro rfl
      revert hc; decide
    have h43 : (c == 43) = false := by
      rw [beq_eq_false_iff_ne]
      rintro rfl
      revert hc; decide
    unfold Lib.atoi
    simp [h45, h43, Lib.decNat, h.dec]
theorem takeWhile_all {p : UInt8 → Bool} : ∀ (D r : Bs), (∀ c ∈ D, p c = true) → (∀ c, r.head? = some c → p c = false) → (D ++ r).takeWhile p = D
  | [], [], _, _ => rfl
  | [], c :: r, _, h => by simp [h c rfl]
  | x :: D, r, hD, h => by
    show List.takeWhile p (x :: (D ++ r)) = _
    rw [List.takeWhile_cons, if_pos (hD x (by simp)), takeWhile_all D r (fun c hc => hD c (by simp [hc])) h]
theorem spanN_dig {D : Bs} {n : Nat} (h : Dig D n) (r : Bs) (hr : ∀ c, r.head? = some c → isDigitB c.toNat = false) : spanN isDigitB (D ++ r) = D.length := by
  unfold spanN
  rw [takeWhile_all D r h.all hr]
theorem nextT_dig {D : Bs} {n : Nat} (h : Dig D n) (r : Bs) (hr : ∀ c, r.head? = some c → isDigitB c.toNat = false) : nextT (D ++ r) = ⟨3, D, r⟩ := by
  have hs := spanN_dig h r hr
  have hl := h.len
  cases D with
  | nil => exact absurd rfl h.ne
  | cons c l =>
    have hc := h.all c (by simp)
    have hlet : isLetterB c.toNat = false := by
      unfold isDigitB at hc
      unfold isLetterB
      rw [Bool.and_eq_true, decide_eq_true_eq, decide_eq_true_eq] at hc
      rw [Bool.and_eq_false_iff, decide_eq_false_iff_not]
      left; omega
    show (if isLetterB c.toNat then cutTok 2 6 isLetterB (c :: (l ++ r))
      else if isDigitB c.toNat then cutTok 3 7 isDigitB (c :: (l ++ r)) else _) = _
    rw [if_neg (by rw [hlet]; decide), if_pos hc]
    unfold cutTok
    have hs : spanN isDigitB (c :: (l ++ r)) = (c :: l).length := hs
    rw [hs, if_neg (by omega)]
    have e : c :: (l ++ r) = (c :: l) ++ r := rfl
    rw [e, List.take_left, List.drop_left]
theorem trimB_dig {D : Bs} {n : Nat} (h : Dig D n) (r : Bs) : trimB (D ++ r) = D ++ r := by
  cases D with
  | nil => exact absurd rfl h.ne
  | cons c l =>
    have hc := h.all c (by simp)
    have h32 : (c == 32) = false := by
      rw [beq_eq_false_iff_ne]
      rintro rfl
      revert hc; decide
    unfold trimB Lib.trimLeftB
    show List.dropWhile _ (c :: (l ++ r)) = _
    rw [List.dropWhile_cons, if_neg (by simpa using h32)]
    rfl
theorem nextS_dig {D : Bs} {n : Nat} (h : Dig D n) (r : Bs) (hr : ∀ c, r.head? = some c → isDigitB c.toNat = false) : nextS (D ++ r) = ⟨3, D, r⟩ := by
  unfold nextS
  rw [trimB_dig h, nextT_dig h r hr]
theorem nextS_bl (l : Bs) : nextS (32 :: l) = nextS l := rfl
theorem Dig.ne40 {D : Bs} {n : Nat} (h : Dig D n) : D ≠ [40] := by
  rintro rfl
  have := h.all 40 (by simp)
  revert this; decide
theorem Dig.no10 {D : Bs} {n : Nat} (h : Dig D n) : (10 : UInt8) ∉ D := fun hm => by
  have := h.all 10 hm
  revert this; decide
/-! ### An expr of two numbers -/
/-- a leaf that is a number -/
theorem operand_dig {D : Bs} {n : Nat} (h : Dig D n) (f : Nat) (rest : Bs) (o e : Int) : operandF f ⟨3, D, rest, o, e⟩ = (.num (n : Int), (⟨3, D, rest, o, e⟩ : RS).next) := by
  have ne : (⟨3, D, rest, o, e⟩ : RS).text ≠ [40] := h.ne40
  have lf : leafF ⟨3, D, rest, o, e⟩ = (.num (n : Int), (⟨3, D, rest, o, e⟩ : RS).next) := by
    unfold leafF
    rw [if_pos rfl]
    show (PE.num ((Lib.atoi D).getD 0), _) = _
    rw [h.atoi]
    rfl
  cases f with
  | zero => unfold operandF; rw [if_neg ne]; exact lf
  | succ f => unfold operandF; rw [if_neg ne]; exact lf
theorem next_dig {D : Bs} {n : Nat} (h : Dig D n) (k : Int) (t r : Bs) (o e : Int) (hr : ∀ c, r.head? = some c → isDigitB c.toNat = false) : (⟨k, t, D ++ r, o, e⟩ : RS).next = ⟨3, D, r, o, e⟩ := by
  unfold RS.next
  rw [nextS_dig h r hr]
theorem next_bl (k : Int) (t l : Bs) (o e : Int) : (⟨k, t, 32 :: l, o, e⟩ : RS).next = (⟨k, t, l, o, e⟩ : RS).next := rfl
theorem next_end (k : Int) (t : Bs) (o e : Int) : (⟨k, t, [], o, e⟩ : RS).next = ⟨0, [], [], o, e⟩ := rfl
end Go.Proofs.YtnhidaamfnjdjaaGreatDoor
