import Derived.Test.YtnhidaamfnjdjaaGreatDoorPure
import Derived.Test.YtnhidaamfnjdjaaGreatDoorGoodA
/- THE REFERENCE's TOKENS, plain: a line's tokens, all at once. Nothing of the dump. -/
namespace Go.Proofs.YtnhidaamfnjdjaaGreatDoor

def toksN : Nat → Bs → List Bs
  | 0, _ => []
  | f + 1, l => if (nextS l).kind = 0 then [] else if (nextS l).kind = 1 then [[120, 33]] else (nextS l).text :: toksN f (nextS l).rest
def toksF (l : Bs) : List Bs := toksN (l.length + 1) l

theorem spanN_pos (p : Int → Bool) (c : UInt8) (r : Bs) (h : p c.toNat = true) : 1 ≤ spanN p (c :: r) := by
  have := spanN_step p (c :: r) 0 (by simp) (Nat.zero_le _) (by simpa using h)
  omega
theorem cutTok_lt (k : Int) (m : Nat) (p : Int → Bool) (c : UInt8) (r : Bs) (h : p c.toNat = true) : (cutTok k m p (c :: r)).rest.length < (c :: r).length := by
  have := spanN_pos p c r h
  unfold cutTok
  split
  · simp
  · simp only [List.length_drop, List.length_cons]; omega
theorem nextT_lt (c : UInt8) (r : Bs) : (nextT (c :: r)).rest.length < (c :: r).length := by
  rw [nextT]
  split
  · rename_i h; exact cutTok_lt _ _ _ c r h
  · split
    · rename_i h; exact cutTok_lt _ _ _ c r h
    · split
      · simp; omega
      · split <;> simp
theorem nextT_kind (c : UInt8) (r : Bs) : (nextT (c :: r)).kind ≠ 0 := by
  rw [nextT]
  split
  · unfold cutTok; split <;> simp
  · split
    · unfold cutTok; split <;> simp
    · split
      · simp
      · split <;> simp
theorem trimB_blank (r : Bs) : trimB (32 :: r) = trimB r := by unfold trimB Lib.trimLeftB; simp
theorem trimB_other (c : UInt8) (r : Bs) (h : c ≠ 32) : trimB (c :: r) = c :: r := by unfold trimB Lib.trimLeftB; simp [h]
theorem nextS_rest : ∀ l : Bs, (nextS l).kind ≠ 0 → (nextS l).rest.length < l.length
  | [], h => by simp [nextS, trimB, Lib.trimLeftB, nextT] at h
  | c :: r, h => by
    by_cases e : c = 32
    · subst e
      have e2 : nextS (32 :: r) = nextS r := by unfold nextS; rw [trimB_blank]
      rw [e2] at h ⊢
      have := nextS_rest r h
      simp; omega
    · have e2 : nextS (c :: r) = nextT (c :: r) := by unfold nextS; rw [trimB_other c r e]
      rw [e2]; exact nextT_lt c r
theorem toksN_fuel : ∀ (f g : Nat) (l : Bs), l.length < f → l.length < g → toksN f l = toksN g l
  | 0, _, l, h, _ => by omega
  | f + 1, 0, l, _, h => by omega
  | f + 1, g + 1, l, h1, h2 => by
    unfold toksN
    split
    · rfl
    · rename_i h
      split
      · rfl
      · have := nextS_rest l h
        rw [toksN_fuel f g _ (by omega) (by omega)]
theorem toksF_nil : toksF [] = [] := rfl
theorem toksF_blank (r : Bs) : toksF (32 :: r) = toksF r := by
  have e2 : nextS (32 :: r) = nextS r := by unfold nextS; rw [trimB_blank]
  unfold toksF
  rw [toksN_fuel (r.length + 1) ((32 :: r).length + 1) r (by omega) (by simp; omega)]
  unfold toksN
  rw [e2]
theorem toksF_step (c : UInt8) (r : Bs) (h : c ≠ 32) : toksF (c :: r) = if (nextT (c :: r)).kind = 1 then [[120, 33]] else (nextT (c :: r)).text :: toksF (nextT (c :: r)).rest := by
  have e2 : nextS (c :: r) = nextT (c :: r) := by unfold nextS; rw [trimB_other c r h]
  have hlt := nextT_lt c r
  unfold toksF
  conv => lhs; unfold toksN
  rw [e2, if_neg (nextT_kind c r)]
  split
  · rfl
  · rw [toksN_fuel _ ((nextT (c :: r)).rest.length + 1) _ (by omega) (by omega)]
/-- a word or a number -/
theorem toksF_cut (k : Int) (m : Nat) (p : Int → Bool) (c : UInt8) (r : Bs) (h : c ≠ 32) (hk : k ≠ 1) (hn : nextT (c :: r) = cutTok k m p (c :: r)) :
    toksF (c :: r) = if m < spanN p (c :: r) then [[120, 33]] else (c :: r).take (spanN p (c :: r)) :: toksF ((c :: r).drop (spanN p (c :: r))) := by
  rw [toksF_step c r h, hn]
  unfold cutTok
  by_cases hm : m < spanN p (c :: r)
  · rw [if_pos hm, if_pos hm, if_pos rfl]
  · rw [if_neg hm, if_neg hm, if_neg hk]
theorem nextT_letter (c : UInt8) (r : Bs) (h : isLetterB c.toNat = true) : nextT (c :: r) = cutTok 2 6 isLetterB (c :: r) := by rw [nextT, if_pos h]
theorem nextT_digit (c : UInt8) (r : Bs) (h1 : isLetterB c.toNat = false) (h : isDigitB c.toNat = true) : nextT (c :: r) = cutTok 3 7 isDigitB (c :: r) := by rw [nextT, if_neg (by rw [h1]; simp), if_pos h]
theorem ne32 (c : UInt8) (h : c.toNat ≠ 32) : c ≠ 32 := fun e => h (by rw [e]; rfl)
theorem toksF_letter (c : UInt8) (r : Bs) (h : isLetterB c.toNat = true) : toksF (c :: r) = if 6 < spanN isLetterB (c :: r) then [[120, 33]] else (c :: r).take (spanN isLetterB (c :: r)) :: toksF ((c :: r).drop (spanN isLetterB (c :: r))) :=
  toksF_cut 2 6 isLetterB c r (ne32 c (by simp [isLetterB] at h; omega)) (by decide) (nextT_letter c r h)
theorem toksF_digit (c : UInt8) (r : Bs) (h : isDigitB c.toNat = true) : toksF (c :: r) = if 7 < spanN isDigitB (c :: r) then [[120, 33]] else (c :: r).take (spanN isDigitB (c :: r)) :: toksF ((c :: r).drop (spanN isDigitB (c :: r))) :=
  toksF_cut 3 7 isDigitB c r (ne32 c (by simp [isDigitB] at h; omega)) (by decide) (nextT_digit c r (by simp [isDigitB] at h; simp [isLetterB]; omega) h)
theorem index_ge0 (l : Bs) (c : UInt8) : 0 ≤ Lib.indexByte l c ↔ c ∈ l := by
  induction l with
  | nil => simp [Lib.indexByte]
  | cons a l ih =>
    unfold Lib.indexByte
    by_cases e : a = c
    · simp [e]
    · have e' : ¬ (a == c) = true := by simpa using e
      have h1 := Lib.indexByte_ge l c
      simp only [e', List.mem_cons]
      constructor
      · intro h
        by_cases h2 : Lib.indexByte l c = -1
        · simp [h2] at h
        · exact .inr (ih.1 (by omega))
      · intro h
        rcases h with h | h
        · exact absurd h.symm e
        · have := ih.2 h
          have h3 : ¬ (Lib.indexByte l c == -1) = true := by simp; omega
          simp [h3]
          omega
/-- neither a letter nor a digit nor a blank -/
theorem toksF_sign (c : UInt8) (r : Bs) (h0 : c ≠ 32) (h1 : isLetterB c.toNat = false) (h2 : isDigitB c.toNat = false) (h3 : c ∈ signsB) : toksF (c :: r) = [c] :: toksF r := by
  have hp : ¬ Lib.hasPrefix (c :: r) [58, 61] = true := by
    intro h
    unfold Lib.hasPrefix at h
    cases r with
    | nil => simp [List.isPrefixOf] at h
    | cons d r =>
      simp [List.isPrefixOf] at h
      rw [← h.1] at h3
      exact absurd h3 (by decide)
  have hn : nextT (c :: r) = ⟨4, [c], r⟩ := by
    rw [nextT, if_neg (by rw [h1]; simp), if_neg (by rw [h2]; simp), if_neg hp, if_pos ((index_ge0 _ _).2 h3)]
  rw [toksF_step c r h0, hn]
  rfl
theorem toksF_gets (r : Bs) : toksF (58 :: 61 :: r) = [58, 61] :: toksF r := by
  have hn : nextT (58 :: 61 :: r) = ⟨4, [58, 61], r⟩ := by
    rw [nextT, if_neg (by decide), if_neg (by decide), if_pos (by simp [Lib.hasPrefix, List.isPrefixOf])]
    rfl
  rw [toksF_step 58 _ (by decide), hn]
  rfl
theorem toksF_wrong (c : UInt8) (r : Bs) (h0 : c ≠ 32) (h1 : isLetterB c.toNat = false) (h2 : isDigitB c.toNat = false) (h3 : c ∉ signsB) (h4 : ¬ (c = 58 ∧ r.head? = some 61)) : toksF (c :: r) = [[120, 33]] := by
  have hp : ¬ Lib.hasPrefix (c :: r) [58, 61] = true := by
    intro h
    unfold Lib.hasPrefix at h
    cases r with
    | nil => simp [List.isPrefixOf] at h
    | cons d r =>
      simp [List.isPrefixOf] at h
      exact h4 ⟨h.1.symm, by simp [← h.2]⟩
  have hn : nextT (c :: r) = ⟨1, [], []⟩ := by
    rw [nextT, if_neg (by rw [h1]; simp), if_neg (by rw [h2]; simp), if_neg hp, if_neg (fun h => h3 ((index_ge0 _ _).1 h))]
  rw [toksF_step c r h0, hn]
  rfl
end Go.Proofs.YtnhidaamfnjdjaaGreatDoor
/- THE REFERENCE's SMALL FUNCTIONS ON BYTES AND WORDS. -/
namespace Go.Proofs.YtnhidaamfnjdjaaGreatDoor
open Go.RowKit Go.Maps

def classF (c : UInt8) : Nat := if signsB.contains c then 115 else if isLetterB c.toNat then 97 else if isDigitB c.toNat then 49 else if c = 32 then 98 else 120

set_option maxRecDepth 20000 in
set_option maxHeartbeats 1000000 in
theorem class_any (c : UInt8) (w : World) : Calls Tryz.prog 184 #[.int .u8 (c.toNat : Nat)] w fun e w' => e = .returned (.int .u8 (classF c : Nat)) ∧ w' = w := by
  have hc := c.toNat_lt
  go_enter Tryz.func184, Tryz.ntmps184
  go_wp2_with fail
  generalize hsg : (⟨#[33, 63, 43, 45, 42, 47, 37, 61, 60, 62, 40, 41, 38]⟩ : ByteArray) = SG
  have hsz : SG.size = 13 := by rw [← hsg]; rfl
  have hat : ∀ (k : Nat) (h : k < SG.size), SG[k] = signsB.getD k 0 := by
    subst hsg
    have : ∀ k, (h : k < 13) → (⟨#[33, 63, 43, 45, 42, 47, 37, 61, 60, 62, 40, 41, 38]⟩ : ByteArray)[k]'h = signsB.getD k 0 := by decide
    exact this
  have Hat := hide hat
  clear hat hsg
  go_loop [4] (fun i => ∃ k : Nat, k ≤ 13 ∧ i = .int .i64 k ∧ ∀ j, j < k → signsB.getD j 0 ≠ c) (fun i => 13 - (intOf i).toNat)
  case atStart => exact ⟨0, Nat.zero_le _, rfl, fun j hj => by omega⟩
  case round =>
    obtain ⟨k, hk, rfl, hno⟩ := hrel
    have Hno := hide hno
    clear hno
    by_cases hlt : k < 13
    · have hlt' : k < SG.size := by omega
      have HK2 := hide (Hat.out k hlt')
      by_cases he : SG[k].toNat = c.toNat
      · have e0 : ((SG[k].toNat : Int) == (c.toNat : Int)) = true := by rw [beq_iff_eq]; omega
        go_wp2_with fail
        go_ret
        have : signsB.contains c = true := by
          rw [List.contains_iff_mem]
          have e : c = signsB.getD k 0 := by rw [← HK2.out]; exact (UInt8.toNat_inj.1 he).symm
          rw [e, getD_lt _ _ _ hlt]
          exact List.getElem_mem hlt
        exact ⟨by unfold classF; rw [if_pos this]; rfl, rfl⟩
      · have e0 : ((SG[k].toNat : Int) == (c.toNat : Int)) = false := by rw [beq_eq_false_iff_ne]; omega
        go_wp2_with fail
        go_round
        case rel =>
          refine ⟨k + 1, by omega, by go_num, fun j hj => ?_⟩
          rcases Nat.lt_or_ge j k with x | x
          · exact Hno.out j x
          · have : j = k := by omega
            subst this
            rw [← HK2.out]
            exact fun e => he (by rw [e])
        case measure => simp [intOf]; omega
    · have hke : k = 13 := by omega
      subst hke
      have hns : signsB.contains c = false := by
        cases hh : signsB.contains c with
        | false => rfl
        | true =>
          rw [List.contains_iff_mem] at hh
          obtain ⟨j, hj, e⟩ := List.getElem_of_mem hh
          exact absurd (by rw [getD_lt _ _ _ hj]; exact e) (Hno.out j hj)
      have fin : ∀ r : Nat, classF c = r → Ending.returned (Value.int .u8 (r : Int)) = Ending.returned (Value.int .u8 (classF c : Nat)) := fun r h => by rw [h]
      have key : classF c = if isLetterB c.toNat then 97 else if isDigitB c.toNat then 49 else if c = 32 then 98 else 120 := by unfold classF; rw [hns]; rfl
      have Key := hide key
      have Fin := hide fin
      clear key fin hns Hno Hat
      by_cases h1 : 97 ≤ c.toNat ∧ c.toNat ≤ 122
      · go_wp2_with fail
        go_ret
        exact ⟨Fin.out 97 (by rw [Key.out, if_pos (by simp [isLetterB]; omega)]), rfl⟩
      · by_cases h2 : 48 ≤ c.toNat ∧ c.toNat ≤ 57
        · have e1 : ((97 : Int) ≤ (c.toNat : Int)) = False := by simp; omega
          go_wp2_with fail
          go_ret
          exact ⟨Fin.out 49 (by rw [Key.out, if_neg (by simp [isLetterB]; omega), if_pos (by simp [isDigitB]; omega)]), rfl⟩
        · by_cases h3 : c.toNat = 32
          · go_wp2_with fail
            go_ret
            exact ⟨Fin.out 98 (by rw [Key.out, if_neg (by simp [isLetterB]; omega), if_neg (by simp [isDigitB]; omega), if_pos (UInt8.toNat_inj.1 h3)]), rfl⟩
          · go_wp2_with fail
            all_goals
              go_ret
              exact ⟨Fin.out 120 (by rw [Key.out, if_neg (by simp [isLetterB]; omega), if_neg (by simp [isDigitB]; omega), if_neg (fun e => h3 (by rw [e]; rfl))]), rfl⟩

def blankB (c : Int) : Bool := c == 32
set_option maxHeartbeats 1000000 in
theorem rblanks_any (s : ByteArray) (hs : s.size ≤ 1000000) (w : World) : Calls Tryz.prog 66 #[.string s] w fun e w' => e = .returned (.int .i64 (spanN blankB s.data.toList : Nat)) ∧ w' = w := by
  have hle : spanN blankB s.data.toList ≤ s.size := by simpa using spanN_le blankB s.data.toList
  generalize hn : spanN blankB s.data.toList = n at hle ⊢
  have Hn : Hid (spanN blankB s.data.toList = n) := hn
  clear hn
  go_enter Tryz.func66, Tryz.ntmps66
  go_wp2_with fail
  go_loop [3] (fun i => ∃ k : Nat, k ≤ n ∧ i = .int .i64 k) (fun i => s.size - (intOf i).toNat)
  case atStart => exact ⟨0, Nat.zero_le _, rfl⟩
  case round =>
    obtain ⟨k, hk, rfl⟩ := hrel
    by_cases hlt : k < s.size
    · by_cases he : s[k].toNat = 32
      · have hk1 : k + 1 ≤ n := by
          have := spanN_step blankB s.data.toList k (by simpa using hlt) (by rw [Hn.out]; exact hk) (by
            show ((((s.data.toList)[k]'(by simpa using hlt)).toNat : Int) == 32) = true
            have e : (s.data.toList)[k]'(by simpa using hlt) = s[k] := rfl
            rw [e, he]; rfl)
          rwa [Hn.out] at this
        go_wp2_with fail
        go_round
        case rel => exact ⟨k + 1, hk1, by go_num⟩
        case measure => simp [intOf]; omega
      · have hkn : k = n := by
          have := spanN_stop blankB s.data.toList k (by simpa using hlt) (by rw [Hn.out]; exact hk) (by
            show ((((s.data.toList)[k]'(by simpa using hlt)).toNat : Int) == 32) = false
            have e : (s.data.toList)[k]'(by simpa using hlt) = s[k] := rfl
            rw [e, beq_eq_false_iff_ne]; omega)
          rw [Hn.out] at this; exact this.symm
        subst hkn
        go_wp2_with fail
        go_ret
        exact ⟨rfl, rfl⟩
    · have hkn : k = n := by omega
      subst hkn
      go_wp2_with fail
      go_ret
      exact ⟨rfl, rfl⟩
end Go.Proofs.YtnhidaamfnjdjaaGreatDoor
namespace Go.Proofs.YtnhidaamfnjdjaaGreatDoor
open Go.RowKit Go.Maps

def wstrs (ls : List Bs) : List Value := ls.map fun l => .string ⟨l.toArray⟩
theorem rs_get (T : Bs) (S : ByteArray) (h : S = ⟨T.toArray⟩) (k : Nat) (hk : k < S.size) (hk' : k < T.length) : S[k] = T[k] := by
  subst h; rfl
theorem rs_cut (T : Bs) (S : ByteArray) (h : S = ⟨T.toArray⟩) (a b : Nat) : S.extract a b = ⟨((T.take b).drop a).toArray⟩ := by
  subst h
  apply ByteArray.ext
  simp [ByteArray.data_extract, List.drop_take]
theorem rs_size (T : Bs) (S : ByteArray) (h : S = ⟨T.toArray⟩) : S.size = T.length := by subst h; simp [ByteArray.size]
theorem rbelow_grow {w w1 w2 w3 : World} {r : Option Nat} (b : Below w.heap.size w w1) (g1 : w1.grownBy w2 none) (g2 : w2.grownBy w3 r) (hr : ∀ g, r = some g → w.heap.size ≤ g) : Below w.heap.size w w3 :=
  ⟨(g2.os.trans g1.os).trans b.os, (g2.tape.trans g1.tape).trans b.tape, (g2.output.trans g1.output).trans b.output, Nat.le_trans b.size (Nat.le_trans g1.size g2.size), fun k hk => by
    have h1 : k < w1.heap.size := Nat.lt_of_lt_of_le hk b.size
    have h2 : k < w2.heap.size := Nat.lt_of_lt_of_le h1 g1.size
    rw [g2.block k h2 (fun e => by have := hr k e.symm; omega), g1.block k h1 (by simp), b.block k hk]⟩
theorem class_at (c : UInt8) (z r : Int) (hz : z = (c.toNat : Int)) (hr : (classF c : Int) = r) (w : World) : Calls Tryz.prog 184 #[.int .u8 z] w fun e w' => e = .returned (.int .u8 r) ∧ w' = w := by
  subst hz; subst hr; exact class_any c w
theorem class_sign : ∀ c : UInt8, signsB.contains c = true → isLetterB c.toNat = false ∧ isDigitB c.toNat = false ∧ c ≠ 32 := by
  intro c h
  rw [List.contains_iff_mem] at h
  simp only [signsB, List.mem_cons, List.not_mem_nil, or_false] at h
  rcases h with rfl | rfl | rfl | rfl | rfl | rfl | rfl | rfl | rfl | rfl | rfl | rfl | rfl <;> decide
theorem class_letter (c : UInt8) : classF c = 97 ↔ isLetterB c.toNat = true := by
  unfold classF
  by_cases h : signsB.contains c = true
  · rw [if_pos h, (class_sign c h).1]; simp
  · rw [if_neg h]
    by_cases h1 : isLetterB c.toNat = true
    · rw [if_pos h1]; simp [h1]
    · rw [if_neg h1]
      constructor
      · intro e; split at e
        · omega
        · split at e <;> omega
      · intro e; exact absurd e h1
theorem class_digit (c : UInt8) : classF c = 49 ↔ isDigitB c.toNat = true := by
  unfold classF
  by_cases h : signsB.contains c = true
  · rw [if_pos h, (class_sign c h).2.1]; simp
  · rw [if_neg h]
    by_cases h1 : isLetterB c.toNat = true
    · rw [if_pos h1]
      constructor
      · intro e; omega
      · intro e; simp [isLetterB] at h1; simp [isDigitB] at e; omega
    · rw [if_neg h1]
      by_cases h2 : isDigitB c.toNat = true
      · rw [if_pos h2]; simp [h2]
      · rw [if_neg h2]
        constructor
        · intro e; split at e <;> omega
        · intro e; exact absurd e h2

/-- a list of words in memory of one's own -/
structure WordsAt (w wr : World) (v : Value) (ls : List Bs) : Prop where
  own : wr.ownsRow 0 9 1 v ls.length (wstrs ls)
  bel : Below w.heap.size w wr
  new : ∀ g, v.ownBlock = some g → w.heap.size ≤ g
theorem WordsAt.next {w wr w4 : World} {v v' : Value} {ls : List Bs} {O : Obj} {x : Bs} (h : WordsAt w wr v ls) (o4 : w4.ownsRow 0 9 1 v' (ls.length + 1) (wstrs ls ++ [.string ⟨x.toArray⟩])) (g4 : (wr.alloc O).grownBy w4 v.ownBlock)
    (b4 : v'.ownBlock = v.ownBlock ∨ ∃ g, v'.ownBlock = some g ∧ (wr.alloc O).heap.size ≤ g) : WordsAt w w4 v' (ls ++ [x]) where
  own := by simpa [wstrs] using o4
  bel := rbelow_grow h.bel (World.grownBy_alloc wr _ none) g4 h.new
  new := by
    intro g hg
    rcases b4 with hb | ⟨g', hb, hle⟩
    · rw [hb] at hg; exact h.new g hg
    · rw [hb] at hg
      injection hg with hg
      have := h.bel.size
      simp at hle
      omega

set_option maxRecDepth 20000 in
set_option maxHeartbeats 8000000 in
theorem tokens_any (T : Bs) (S : ByteArray) (hS : S = ⟨T.toArray⟩) (hl : T.length ≤ 1000) (w : World) :
    Calls Tryz.prog 126 #[.string S] w fun e w' => ∃ v, e = .returned v ∧ WordsAt w w' v (toksF T) := by
  have hsl := rs_size T S hS
  have hss : S.size ≤ 1000 := by omega
  have HS := hide hS; have Hsl := hide hsl; have Hl := hide hl
  clear hS hsl hl
  go_enter Tryz.func126, Tryz.ntmps126
  go_wp2_with fail
  go_loopw [3, 4] (fun l i wr => ∃ (k : Nat) (ls : List Bs), k ≤ S.size ∧ ls.length ≤ k ∧ i = .int .i64 k ∧ ls ++ toksF (T.drop k) = toksF T ∧ WordsAt w wr l ls) (fun _ i _ => S.size - (intOf i).toNat)
  case atStart => exact ⟨0, [], Nat.zero_le _, Nat.zero_le _, rfl, rfl, World.ownsRow_nil _ _ _ _, Below.refl _ _, by simp [Value.ownBlock]⟩
  case round =>
    obtain ⟨k, ls, hk, hlk, rfl, htk, hw⟩ := hrel
    obtain ⟨va, vc, rfl⟩ := ownsRow_len hw.own
    have hn5 : ls.length ≤ 100000 := by omega
    have Htk := hide htk; have Hw := hide hw
    clear htk hw
    by_cases hlt : k < S.size
    · have hlt' : k < T.length := by have := Hsl.out; omega
      have hgk := rs_get T S HS.out k hlt hlt'
      have hdr : T.drop k = S[k] :: T.drop (k + 1) := by rw [hgk]; exact List.drop_eq_getElem_cons hlt'
      have Hdr := hide hdr
      clear hdr hgk
      have hcb := S[k].toNat_lt
      by_cases hcl : isLetterB S[k].toNat = true
      · -- isLetterB
        have C1 := hide (class_at S[k] S[k].toNat 97 rfl (by rw [(class_letter _).2 hcl]; rfl))
        have hsp := toksF_letter S[k] (T.drop (k + 1)) hcl
        rw [← Hdr.out] at hsp
        have hpos : 1 ≤ spanN isLetterB (T.drop k) := by rw [Hdr.out]; exact spanN_pos _ _ _ hcl
        have hle := spanN_le isLetterB (T.drop k)
        generalize hsg : spanN isLetterB (T.drop k) = sp at *
        have hsp2 : k + sp ≤ S.size := by have := Hsl.out; rw [List.length_drop] at hle; omega
        have Hsg := hide hsg; have Hsp := hide hsp
        clear hsg hsp hle
        go_wp2_with (go_at_call 184; refine (C1.out _).mono ?_; rintro e wx ⟨rfl, hw⟩; have hw := hw.symm; subst hw)
        go_loop [6] (fun n => ∃ j : Nat, k + 1 ≤ j ∧ j ≤ k + sp ∧ n = .int .i64 j) (fun n => S.size - (intOf n).toNat)
        case atStart => exact ⟨k + 1, Nat.le_refl _, by omega, by go_num⟩
        case round =>
          obtain ⟨j, hj1, hj2, rfl⟩ := hrel
          by_cases hjl : j < S.size
          · have hjl' : j < T.length := by have := Hsl.out; omega
            have hgj := rs_get T S HS.out j hjl hjl'
            have hdj : (T.drop k)[j - k]'(by rw [List.length_drop]; omega) = S[j] := by
              rw [hgj, List.getElem_drop]
              congr 1
              omega
            have Hdj := hide hdj
            clear hdj hgj
            have hcj := S[j].toNat_lt
            by_cases hp : isLetterB S[j].toNat = true
            · have C2 := hide (class_at S[j] S[j].toNat 97 rfl (by rw [(class_letter _).2 hp]; rfl))
              have hj3 : j + 1 ≤ k + sp := by
                have := spanN_step isLetterB (T.drop k) (j - k) (by rw [List.length_drop]; omega) (by rw [Hsg.out]; omega) (by rw [Hdj.out]; exact hp)
                rw [Hsg.out] at this
                omega
              go_wp2_with (go_at_call 184; refine (C2.out _).mono ?_; rintro e wx ⟨rfl, hw⟩; have hw := hw.symm; subst hw)
              go_round
              case rel => exact ⟨j + 1, by omega, hj3, by go_num⟩
              case measure => simp [intOf]; omega
            · have hne : ((classF S[j] : Nat) : Int) ≠ 97 := by
                intro e
                exact hp ((class_letter _).1 (by omega))
              have hje : j = k + sp := by
                have := spanN_stop isLetterB (T.drop k) (j - k) (by rw [List.length_drop]; omega) (by rw [Hsg.out]; omega) (by rw [Hdj.out]; simpa using hp)
                rw [Hsg.out] at this
                omega
              have C2 := hide (class_at S[j] S[j].toNat (classF S[j] : Nat) rfl rfl)
              generalize ((classF S[j] : Nat) : Int) = r at *
              have hr2 : (r == 97) = false := by rw [beq_eq_false_iff_ne]; exact hne
              subst hje
              by_cases hm : 6 < sp
              · have Hfin := hide (show ls ++ [[120, 33]] = toksF T by rw [← Htk.out, Hsp.out, if_pos hm])
                go_wp2_with (first | (go_at_call 184; refine (C2.out _).mono ?_; rintro e wx ⟨rfl, hw⟩; have hw := hw.symm; subst hw) | (at_builtin; refine wpList_append1 Tryz.underlying22 (z := .string ⟨#[]⟩) (bytes := 16) (by kernel_rfl) rfl (by decide) rfl _ _ rfl (.slice va ls.length vc) _ _ rfl (Hw.out.own.alloc _) ⟨wr.heap.size, 0, none⟩ 1 (.string ⟨#[120, 33]⟩) rfl (new_cell _ _ rfl _ _) rfl hn5 ?_; intro v' w4 o4 g4 b4; obtain ⟨va', vc', rfl⟩ := ownsRow_len o4; have O4 := hide o4; have G4 := hide g4; have B4 := hide b4; clear o4 g4 b4))
                go_ret
                refine ⟨_, rfl, ?_⟩
                rw [← Hfin.out]
                exact Hw.out.next (x := [120, 33]) O4.out G4.out B4.out
              · have Hfin := hide (show (ls ++ [(T.drop k).take sp]) ++ toksF (T.drop (k + sp)) = toksF T by
                  rw [← Htk.out, Hsp.out, if_neg hm, List.drop_drop]
                  simp)
                have hcut : S.extract k (k + sp) = ⟨((T.drop k).take sp).toArray⟩ := by
                  rw [rs_cut T S HS.out, List.drop_take]
                  congr 3
                  omega
                have Hcut := hide hcut
                clear hcut
                go_wp2_with (first | (go_at_call 184; refine (C2.out _).mono ?_; rintro e wx ⟨rfl, hw⟩; have hw := hw.symm; subst hw) | (at_builtin; refine wpList_append1 Tryz.underlying22 (z := .string ⟨#[]⟩) (bytes := 16) (by kernel_rfl) rfl (by decide) rfl _ _ rfl (.slice va ls.length vc) _ _ rfl (Hw.out.own.alloc _) ⟨wr.heap.size, 0, none⟩ 1 (.string (S.extract k (k + sp))) rfl (new_cell _ _ rfl _ _) rfl hn5 ?_; intro v' w4 o4 g4 b4; obtain ⟨va', vc', rfl⟩ := ownsRow_len o4; have O4 := hide o4; have G4 := hide g4; have B4 := hide b4; clear o4 g4 b4))
                go_roundw
                case rel =>
                  refine ⟨k + sp, ls ++ [(T.drop k).take sp], by omega, by simp; omega, by go_num, Hfin.out, ?_⟩
                  have := O4.out
                  rw [Hcut.out] at this
                  exact Hw.out.next this G4.out B4.out
                case measure => simp [intOf]; omega
          · have hje : j = k + sp := by omega
            subst hje
            by_cases hm : 6 < sp
            · have Hfin := hide (show ls ++ [[120, 33]] = toksF T by rw [← Htk.out, Hsp.out, if_pos hm])
              go_wp2_with (first | (at_builtin; refine wpList_append1 Tryz.underlying22 (z := .string ⟨#[]⟩) (bytes := 16) (by kernel_rfl) rfl (by decide) rfl _ _ rfl (.slice va ls.length vc) _ _ rfl (Hw.out.own.alloc _) ⟨wr.heap.size, 0, none⟩ 1 (.string ⟨#[120, 33]⟩) rfl (new_cell _ _ rfl _ _) rfl hn5 ?_; intro v' w4 o4 g4 b4; obtain ⟨va', vc', rfl⟩ := ownsRow_len o4; have O4 := hide o4; have G4 := hide g4; have B4 := hide b4; clear o4 g4 b4))
              go_ret
              refine ⟨_, rfl, ?_⟩
              rw [← Hfin.out]
              exact Hw.out.next (x := [120, 33]) O4.out G4.out B4.out
            · have Hfin := hide (show (ls ++ [(T.drop k).take sp]) ++ toksF (T.drop (k + sp)) = toksF T by
                rw [← Htk.out, Hsp.out, if_neg hm, List.drop_drop]
                simp)
              have hcut : S.extract k (k + sp) = ⟨((T.drop k).take sp).toArray⟩ := by
                rw [rs_cut T S HS.out, List.drop_take]
                congr 3
                omega
              have Hcut := hide hcut
              clear hcut
              go_wp2_with (first | (at_builtin; refine wpList_append1 Tryz.underlying22 (z := .string ⟨#[]⟩) (bytes := 16) (by kernel_rfl) rfl (by decide) rfl _ _ rfl (.slice va ls.length vc) _ _ rfl (Hw.out.own.alloc _) ⟨wr.heap.size, 0, none⟩ 1 (.string (S.extract k (k + sp))) rfl (new_cell _ _ rfl _ _) rfl hn5 ?_; intro v' w4 o4 g4 b4; obtain ⟨va', vc', rfl⟩ := ownsRow_len o4; have O4 := hide o4; have G4 := hide g4; have B4 := hide b4; clear o4 g4 b4))
              go_roundw
              case rel =>
                refine ⟨k + sp, ls ++ [(T.drop k).take sp], by omega, by simp; omega, by go_num, Hfin.out, ?_⟩
                have := O4.out
                rw [Hcut.out] at this
                exact Hw.out.next this G4.out B4.out
              case measure => simp [intOf]; omega
      · have hl1 : isLetterB S[k].toNat = false := by simpa using hcl
        clear hcl
        by_cases hcl : isDigitB S[k].toNat = true
        · -- isDigitB
          have C1 := hide (class_at S[k] S[k].toNat 49 rfl (by rw [(class_digit _).2 hcl]; rfl))
          have hsp := toksF_digit S[k] (T.drop (k + 1)) hcl
          rw [← Hdr.out] at hsp
          have hpos : 1 ≤ spanN isDigitB (T.drop k) := by rw [Hdr.out]; exact spanN_pos _ _ _ hcl
          have hle := spanN_le isDigitB (T.drop k)
          generalize hsg : spanN isDigitB (T.drop k) = sp at *
          have hsp2 : k + sp ≤ S.size := by have := Hsl.out; rw [List.length_drop] at hle; omega
          have Hsg := hide hsg; have Hsp := hide hsp
          clear hsg hsp hle
          go_wp2_with (go_at_call 184; refine (C1.out _).mono ?_; rintro e wx ⟨rfl, hw⟩; have hw := hw.symm; subst hw)
          go_loop [6] (fun n => ∃ j : Nat, k + 1 ≤ j ∧ j ≤ k + sp ∧ n = .int .i64 j) (fun n => S.size - (intOf n).toNat)
          case atStart => exact ⟨k + 1, Nat.le_refl _, by omega, by go_num⟩
          case round =>
            obtain ⟨j, hj1, hj2, rfl⟩ := hrel
            by_cases hjl : j < S.size
            · have hjl' : j < T.length := by have := Hsl.out; omega
              have hgj := rs_get T S HS.out j hjl hjl'
              have hdj : (T.drop k)[j - k]'(by rw [List.length_drop]; omega) = S[j] := by
                rw [hgj, List.getElem_drop]
                congr 1
                omega
              have Hdj := hide hdj
              clear hdj hgj
              have hcj := S[j].toNat_lt
              by_cases hp : isDigitB S[j].toNat = true
              · have C2 := hide (class_at S[j] S[j].toNat 49 rfl (by rw [(class_digit _).2 hp]; rfl))
                have hj3 : j + 1 ≤ k + sp := by
                  have := spanN_step isDigitB (T.drop k) (j - k) (by rw [List.length_drop]; omega) (by rw [Hsg.out]; omega) (by rw [Hdj.out]; exact hp)
                  rw [Hsg.out] at this
                  omega
                go_wp2_with (go_at_call 184; refine (C2.out _).mono ?_; rintro e wx ⟨rfl, hw⟩; have hw := hw.symm; subst hw)
                go_round
                case rel => exact ⟨j + 1, by omega, hj3, by go_num⟩
                case measure => simp [intOf]; omega
              · have hne : ((classF S[j] : Nat) : Int) ≠ 49 := by
                  intro e
                  exact hp ((class_digit _).1 (by omega))
                have hje : j = k + sp := by
                  have := spanN_stop isDigitB (T.drop k) (j - k) (by rw [List.length_drop]; omega) (by rw [Hsg.out]; omega) (by rw [Hdj.out]; simpa using hp)
                  rw [Hsg.out] at this
                  omega
                have C2 := hide (class_at S[j] S[j].toNat (classF S[j] : Nat) rfl rfl)
                generalize ((classF S[j] : Nat) : Int) = r at *
                have hr2 : (r == 49) = false := by rw [beq_eq_false_iff_ne]; exact hne
                subst hje
                by_cases hm : 7 < sp
                · have Hfin := hide (show ls ++ [[120, 33]] = toksF T by rw [← Htk.out, Hsp.out, if_pos hm])
                  go_wp2_with (first | (go_at_call 184; refine (C2.out _).mono ?_; rintro e wx ⟨rfl, hw⟩; have hw := hw.symm; subst hw) | (at_builtin; refine wpList_append1 Tryz.underlying22 (z := .string ⟨#[]⟩) (bytes := 16) (by kernel_rfl) rfl (by decide) rfl _ _ rfl (.slice va ls.length vc) _ _ rfl (Hw.out.own.alloc _) ⟨wr.heap.size, 0, none⟩ 1 (.string ⟨#[120, 33]⟩) rfl (new_cell _ _ rfl _ _) rfl hn5 ?_; intro v' w4 o4 g4 b4; obtain ⟨va', vc', rfl⟩ := ownsRow_len o4; have O4 := hide o4; have G4 := hide g4; have B4 := hide b4; clear o4 g4 b4))
                  go_ret
                  refine ⟨_, rfl, ?_⟩
                  rw [← Hfin.out]
                  exact Hw.out.next (x := [120, 33]) O4.out G4.out B4.out
                · have Hfin := hide (show (ls ++ [(T.drop k).take sp]) ++ toksF (T.drop (k + sp)) = toksF T by
                    rw [← Htk.out, Hsp.out, if_neg hm, List.drop_drop]
                    simp)
                  have hcut : S.extract k (k + sp) = ⟨((T.drop k).take sp).toArray⟩ := by
                    rw [rs_cut T S HS.out, List.drop_take]
                    congr 3
                    omega
                  have Hcut := hide hcut
                  clear hcut
                  go_wp2_with (first | (go_at_call 184; refine (C2.out _).mono ?_; rintro e wx ⟨rfl, hw⟩; have hw := hw.symm; subst hw) | (at_builtin; refine wpList_append1 Tryz.underlying22 (z := .string ⟨#[]⟩) (bytes := 16) (by kernel_rfl) rfl (by decide) rfl _ _ rfl (.slice va ls.length vc) _ _ rfl (Hw.out.own.alloc _) ⟨wr.heap.size, 0, none⟩ 1 (.string (S.extract k (k + sp))) rfl (new_cell _ _ rfl _ _) rfl hn5 ?_; intro v' w4 o4 g4 b4; obtain ⟨va', vc', rfl⟩ := ownsRow_len o4; have O4 := hide o4; have G4 := hide g4; have B4 := hide b4; clear o4 g4 b4))
                  go_roundw
                  case rel =>
                    refine ⟨k + sp, ls ++ [(T.drop k).take sp], by omega, by simp; omega, by go_num, Hfin.out, ?_⟩
                    have := O4.out
                    rw [Hcut.out] at this
                    exact Hw.out.next this G4.out B4.out
                  case measure => simp [intOf]; omega
            · have hje : j = k + sp := by omega
              subst hje
              by_cases hm : 7 < sp
              · have Hfin := hide (show ls ++ [[120, 33]] = toksF T by rw [← Htk.out, Hsp.out, if_pos hm])
                go_wp2_with (first | (at_builtin; refine wpList_append1 Tryz.underlying22 (z := .string ⟨#[]⟩) (bytes := 16) (by kernel_rfl) rfl (by decide) rfl _ _ rfl (.slice va ls.length vc) _ _ rfl (Hw.out.own.alloc _) ⟨wr.heap.size, 0, none⟩ 1 (.string ⟨#[120, 33]⟩) rfl (new_cell _ _ rfl _ _) rfl hn5 ?_; intro v' w4 o4 g4 b4; obtain ⟨va', vc', rfl⟩ := ownsRow_len o4; have O4 := hide o4; have G4 := hide g4; have B4 := hide b4; clear o4 g4 b4))
                go_ret
                refine ⟨_, rfl, ?_⟩
                rw [← Hfin.out]
                exact Hw.out.next (x := [120, 33]) O4.out G4.out B4.out
              · have Hfin := hide (show (ls ++ [(T.drop k).take sp]) ++ toksF (T.drop (k + sp)) = toksF T by
                  rw [← Htk.out, Hsp.out, if_neg hm, List.drop_drop]
                  simp)
                have hcut : S.extract k (k + sp) = ⟨((T.drop k).take sp).toArray⟩ := by
                  rw [rs_cut T S HS.out, List.drop_take]
                  congr 3
                  omega
                have Hcut := hide hcut
                clear hcut
                go_wp2_with (first | (at_builtin; refine wpList_append1 Tryz.underlying22 (z := .string ⟨#[]⟩) (bytes := 16) (by kernel_rfl) rfl (by decide) rfl _ _ rfl (.slice va ls.length vc) _ _ rfl (Hw.out.own.alloc _) ⟨wr.heap.size, 0, none⟩ 1 (.string (S.extract k (k + sp))) rfl (new_cell _ _ rfl _ _) rfl hn5 ?_; intro v' w4 o4 g4 b4; obtain ⟨va', vc', rfl⟩ := ownsRow_len o4; have O4 := hide o4; have G4 := hide g4; have B4 := hide b4; clear o4 g4 b4))
                go_roundw
                case rel =>
                  refine ⟨k + sp, ls ++ [(T.drop k).take sp], by omega, by simp; omega, by go_num, Hfin.out, ?_⟩
                  have := O4.out
                  rw [Hcut.out] at this
                  exact Hw.out.next this G4.out B4.out
                case measure => simp [intOf]; omega
        · have hd1 : isDigitB S[k].toNat = false := by simpa using hcl
          clear hcl
          by_cases h0 : S[k] = 32
          · -- a blank
            have Hfin := hide (show ls ++ toksF (T.drop (k + 1)) = toksF T by
              rw [← Htk.out, Hdr.out, h0, toksF_blank])
            have C1 := hide (class_at S[k] S[k].toNat 98 rfl (by rw [h0]; decide))
            clear h0 hl1 hd1
            go_wp2_with (go_at_call 184; refine (C1.out _).mono ?_; rintro e wx ⟨rfl, hw⟩; have hw := hw.symm; subst hw)
            go_roundw
            case rel => exact ⟨k + 1, ls, by omega, by omega, by go_num, Hfin.out, Hw.out⟩
            case measure => simp [intOf]; omega
          · by_cases hs1 : S[k] ∈ signsB
            · -- a sign
              have Hfin := hide (show (ls ++ [[S[k]]]) ++ toksF (T.drop (k + 1)) = toksF T by
                rw [← Htk.out, Hdr.out, toksF_sign _ _ h0 hl1 hd1 hs1]; simp)
              have hcut : S.extract k (k + 1) = ⟨[S[k]].toArray⟩ := by
                rw [rs_cut T S HS.out, List.drop_take, Hdr.out]
                have : k + 1 - k = 1 := by omega
                rw [this]; rfl
              have Hcut := hide hcut
              clear hcut
              have C1 := hide (class_at S[k] S[k].toNat 115 rfl (by unfold classF; rw [if_pos (List.contains_iff_mem.2 hs1)]; rfl))
              clear h0 hl1 hd1 hs1
              go_wp2_with (first | (go_at_call 184; refine (C1.out _).mono ?_; rintro e wx ⟨rfl, hw⟩; have hw := hw.symm; subst hw) | (at_builtin; refine wpList_append1 Tryz.underlying22 (z := .string ⟨#[]⟩) (bytes := 16) (by kernel_rfl) rfl (by decide) rfl _ _ rfl (.slice va ls.length vc) _ _ rfl (Hw.out.own.alloc _) ⟨wr.heap.size, 0, none⟩ 1 (.string (S.extract k (k + 1))) rfl (new_cell _ _ rfl _ _) rfl hn5 ?_; intro v' w4 o4 g4 b4; obtain ⟨va', vc', rfl⟩ := ownsRow_len o4; have O4 := hide o4; have G4 := hide g4; have B4 := hide b4; clear o4 g4 b4))
              go_roundw
              case rel =>
                refine ⟨k + 1, ls ++ [[S[k]]], by omega, by simp; omega, by go_num, Hfin.out, ?_⟩
                have := O4.out
                rw [Hcut.out] at this
                exact Hw.out.next this G4.out B4.out
              case measure => simp [intOf]; omega
            · by_cases h58 : S[k].toNat = 58
              · by_cases hn1 : k + 1 < S.size
                · have hc2 := S[k + 1].toNat_lt
                  by_cases h61 : S[k + 1].toNat = 61
                  · -- gets
                    have C1 := hide (class_at S[k] S[k].toNat 120 rfl (by unfold classF; rw [if_neg (fun h => hs1 (List.contains_iff_mem.1 h)), if_neg (by rw [hl1]; simp), if_neg (by rw [hd1]; simp), if_neg h0]; rfl))
                    have hd2 : T.drop (k + 1) = 61 :: T.drop (k + 2) := by
                      have h5 : k + 1 < T.length := by have := Hsl.out; omega
                      rw [List.drop_eq_getElem_cons h5, ← rs_get T S HS.out (k + 1) hn1 h5]
                      congr 1
                      exact UInt8.toNat_inj.1 h61
                    have Hfin := hide (show (ls ++ [[58, 61]]) ++ toksF (T.drop (k + 2)) = toksF T by
                      rw [← Htk.out, Hdr.out, hd2, UInt8.toNat_inj.1 (show S[k].toNat = (58 : UInt8).toNat from h58), toksF_gets]; simp)
                    have hcut : S.extract k (k + 2) = ⟨[58, 61].toArray⟩ := by
                      rw [rs_cut T S HS.out, List.drop_take, Hdr.out, hd2, UInt8.toNat_inj.1 (show S[k].toNat = (58 : UInt8).toNat from h58)]
                      have : k + 2 - k = 2 := by omega
                      rw [this]; rfl
                    have Hcut := hide hcut
                    clear hcut hd2 h0 hl1 hd1 hs1
                    have e58 : ((S[k].toNat : Int) == 58) = true := by rw [beq_iff_eq]; omega
                    have e61 : ((S[k + 1].toNat : Int) == 61) = true := by rw [beq_iff_eq]; omega
                    clear h58 h61
                    go_wp2_with (first | (go_at_call 184; refine (C1.out _).mono ?_; rintro e wx ⟨rfl, hw⟩; have hw := hw.symm; subst hw) | (at_builtin; refine wpList_append1 Tryz.underlying22 (z := .string ⟨#[]⟩) (bytes := 16) (by kernel_rfl) rfl (by decide) rfl _ _ rfl (.slice va ls.length vc) _ _ rfl (Hw.out.own.alloc _) ⟨wr.heap.size, 0, none⟩ 1 (.string (S.extract k (k + 2))) rfl (new_cell _ _ rfl _ _) rfl hn5 ?_; intro v' w4 o4 g4 b4; obtain ⟨va', vc', rfl⟩ := ownsRow_len o4; have O4 := hide o4; have G4 := hide g4; have B4 := hide b4; clear o4 g4 b4))
                    go_roundw
                    case rel =>
                      refine ⟨k + 2, ls ++ [[58, 61]], by omega, by simp; omega, by go_num, Hfin.out, ?_⟩
                      have := O4.out
                      rw [Hcut.out] at this
                      exact Hw.out.next this G4.out B4.out
                    case measure => simp [intOf]; omega
                  · have hg : ¬ (S[k] = 58 ∧ (T.drop (k + 1)).head? = some 61) := by
                      rintro ⟨_, h⟩
                      have h5 : k + 1 < T.length := by have := Hsl.out; omega
                      rw [List.drop_eq_getElem_cons h5, ← rs_get T S HS.out (k + 1) hn1 h5] at h
                      simp at h
                      exact h61 (by rw [h]; rfl)
                    have C1 := hide (class_at S[k] S[k].toNat 120 rfl (by unfold classF; rw [if_neg (fun h => hs1 (List.contains_iff_mem.1 h)), if_neg (by rw [hl1]; simp), if_neg (by rw [hd1]; simp), if_neg h0]; rfl))
                    have Hfin := hide (show ls ++ [[120, 33]] = toksF T by
                      rw [← Htk.out, Hdr.out, toksF_wrong _ _ h0 hl1 hd1 hs1 hg])
                    have e58 : ((S[k].toNat : Int) == 58) = true := by rw [beq_iff_eq]; omega
                    have e61 : ((S[k + 1].toNat : Int) == 61) = false := by rw [beq_eq_false_iff_ne]; omega
                    clear h58 h61
                    clear h0 hl1 hd1 hs1 hg
                    go_wp2_with (first | (go_at_call 184; refine (C1.out _).mono ?_; rintro e wx ⟨rfl, hw⟩; have hw := hw.symm; subst hw) | (at_builtin; refine wpList_append1 Tryz.underlying22 (z := .string ⟨#[]⟩) (bytes := 16) (by kernel_rfl) rfl (by decide) rfl _ _ rfl (.slice va ls.length vc) _ _ rfl (Hw.out.own.alloc _) ⟨wr.heap.size, 0, none⟩ 1 (.string ⟨#[120, 33]⟩) rfl (new_cell _ _ rfl _ _) rfl hn5 ?_; intro v' w4 o4 g4 b4; obtain ⟨va', vc', rfl⟩ := ownsRow_len o4; have O4 := hide o4; have G4 := hide g4; have B4 := hide b4; clear o4 g4 b4))
                    go_ret
                    refine ⟨_, rfl, ?_⟩
                    rw [← Hfin.out]
                    exact Hw.out.next (x := [120, 33]) O4.out G4.out B4.out
                · have hg : ¬ (S[k] = 58 ∧ (T.drop (k + 1)).head? = some 61) := by
                    rintro ⟨_, h⟩
                    rw [List.drop_eq_nil_of_le (by have := Hsl.out; omega)] at h
                    simp at h
                  have C1 := hide (class_at S[k] S[k].toNat 120 rfl (by unfold classF; rw [if_neg (fun h => hs1 (List.contains_iff_mem.1 h)), if_neg (by rw [hl1]; simp), if_neg (by rw [hd1]; simp), if_neg h0]; rfl))
                  have Hfin := hide (show ls ++ [[120, 33]] = toksF T by
                    rw [← Htk.out, Hdr.out, toksF_wrong _ _ h0 hl1 hd1 hs1 hg])
                  have e58 : ((S[k].toNat : Int) == 58) = true := by rw [beq_iff_eq]; omega
                  clear h58
                  clear h0 hl1 hd1 hs1 hg
                  go_wp2_with (first | (go_at_call 184; refine (C1.out _).mono ?_; rintro e wx ⟨rfl, hw⟩; have hw := hw.symm; subst hw) | (at_builtin; refine wpList_append1 Tryz.underlying22 (z := .string ⟨#[]⟩) (bytes := 16) (by kernel_rfl) rfl (by decide) rfl _ _ rfl (.slice va ls.length vc) _ _ rfl (Hw.out.own.alloc _) ⟨wr.heap.size, 0, none⟩ 1 (.string ⟨#[120, 33]⟩) rfl (new_cell _ _ rfl _ _) rfl hn5 ?_; intro v' w4 o4 g4 b4; obtain ⟨va', vc', rfl⟩ := ownsRow_len o4; have O4 := hide o4; have G4 := hide g4; have B4 := hide b4; clear o4 g4 b4))
                  go_ret
                  refine ⟨_, rfl, ?_⟩
                  rw [← Hfin.out]
                  exact Hw.out.next (x := [120, 33]) O4.out G4.out B4.out
              · have hg : ¬ (S[k] = 58 ∧ (T.drop (k + 1)).head? = some 61) := fun h => h58 (by rw [h.1]; rfl)
                have C1 := hide (class_at S[k] S[k].toNat 120 rfl (by unfold classF; rw [if_neg (fun h => hs1 (List.contains_iff_mem.1 h)), if_neg (by rw [hl1]; simp), if_neg (by rw [hd1]; simp), if_neg h0]; rfl))
                have Hfin := hide (show ls ++ [[120, 33]] = toksF T by
                  rw [← Htk.out, Hdr.out, toksF_wrong _ _ h0 hl1 hd1 hs1 hg])
                have e58 : ((S[k].toNat : Int) == 58) = false := by rw [beq_eq_false_iff_ne]; omega
                clear h58
                clear h0 hl1 hd1 hs1 hg
                go_wp2_with (first | (go_at_call 184; refine (C1.out _).mono ?_; rintro e wx ⟨rfl, hw⟩; have hw := hw.symm; subst hw) | (at_builtin; refine wpList_append1 Tryz.underlying22 (z := .string ⟨#[]⟩) (bytes := 16) (by kernel_rfl) rfl (by decide) rfl _ _ rfl (.slice va ls.length vc) _ _ rfl (Hw.out.own.alloc _) ⟨wr.heap.size, 0, none⟩ 1 (.string ⟨#[120, 33]⟩) rfl (new_cell _ _ rfl _ _) rfl hn5 ?_; intro v' w4 o4 g4 b4; obtain ⟨va', vc', rfl⟩ := ownsRow_len o4; have O4 := hide o4; have G4 := hide g4; have B4 := hide b4; clear o4 g4 b4))
                go_ret
                refine ⟨_, rfl, ?_⟩
                rw [← Hfin.out]
                exact Hw.out.next (x := [120, 33]) O4.out G4.out B4.out
    · have Hfin := hide (show ls = toksF T by
        rw [← Htk.out, List.drop_eq_nil_of_le (by have := Hsl.out; omega), toksF_nil, List.append_nil])
      go_wp2_with fail
      go_ret
      exact ⟨_, rfl, Hfin.out ▸ Hw.out⟩
end Go.Proofs.YtnhidaamfnjdjaaGreatDoor
