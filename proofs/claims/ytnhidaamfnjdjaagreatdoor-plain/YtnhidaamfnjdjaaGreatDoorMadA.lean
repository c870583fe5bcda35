import Derived.Test.YtnhidaamfnjdjaaGreatDoorMacZ
import Derived.Test.YtnhidaamfnjdjaaGreatDoorPureM
import Derived.Deep.WholeRow
/- WHAT EACH INSTRUCTION DOES: one contract for the table of actions. -/
namespace Go.Proofs.YtnhidaamfnjdjaaGreatDoor
open Go.RowKit Go.Maps

def fnOf (k : Int) : Nat :=
  if k = 0 then 83
  else if k = 1 then 84
  else if k = 2 then 85
  else if k = 3 then 86
  else if k = 4 then 87
  else if k = 5 then 88
  else if k = 6 then 89
  else if k = 7 then 90
  else if k = 8 then 91
  else if k = 9 then 92
  else if k = 10 then 93
  else if k = 11 then 94
  else if k = 12 then 95
  else if k = 13 then 96
  else if k = 14 then 97
  else if k = 15 then 98
  else if k = 16 then 99
  else if k = 17 then 100
  else if k = 18 then 101
  else if k = 19 then 102
  else if k = 20 then 103
  else if k = 21 then 104
  else if k = 22 then 105
  else if k = 23 then 106
  else 107

theorem inB_nat {a : Int} {n : Nat} (h : inB a n = true) : ∃ i : Nat, a = i ∧ i < n := by
  unfold inB at h
  simp only [Bool.and_eq_true, decide_eq_true_eq, Nat.blt_eq] at h
  exact ⟨a.toNat, by omega, h.2⟩
theorem okWays_at {s : MS} {o : List (Int × Int × Int)} (h : okWays s o = true) : ∀ br ∈ o, (∃ k : Nat, br.1 = k ∧ k < s.chans.length) ∧ ∃ i : Nat, br.2.1 = i ∧ i < s.vars.length := by
  intro br hbr
  unfold okWays at h
  have := List.all_eq_true.1 h br hbr
  rw [Bool.and_eq_true] at this
  exact ⟨inB_nat this.1, inB_nat this.2⟩
theorem okLens_at {s : MS} (h : okLens s = true) : s.urg.length < 900000000000 ∧ s.oth.length < 900000000000 ∧ s.stack.length < 900000000000 ∧ s.chans.length < 900000000000 ∧ s.vars.length < 900000000000 ∧ s.out.length < 900000000000 ∧ s.asleep.length < 900000000000 := by
  unfold okLens at h
  simp only [Bool.and_eq_true, Nat.blt_eq] at h
  obtain ⟨⟨⟨⟨⟨⟨h1, h2⟩, h3⟩, h4⟩, h5⟩, h6⟩, h7⟩ := h
  exact ⟨h1, h2, h3, h4, h5, h6, h7⟩
theorem okO_at {o : Option Nat} {n : Nat} (h : okO o n = true) : ∀ i, o = some i → i < n := by
  intro i hi
  subst hi
  have h : Nat.blt i n = true := h
  rwa [Nat.blt_eq] at h
theorem okInR_at {s : MS} (h : okInR s = true) : s.InR := by
  unfold okInR at h
  simp only [Bool.and_eq_true, List.all_eq_true, Nat.blt_eq] at h
  obtain ⟨⟨⟨⟨⟨h1, h2⟩, h3⟩, h4⟩, h5⟩, h6⟩ := h
  exact ⟨h1, h2, h3, fun x hx => okO_at (h4 x hx).1, fun x hx => okO_at (h4 x hx).2, okO_at h5, fun x hx => okO_at (h6 x hx)⟩
theorem okWoken_at {s : MS} {q : Nat} (h : okWoken s q = true) : ∃ y, s.procs[q]? = some y ∧ y.told = 1 := by
  unfold okWoken at h
  simp only [Bool.and_eq_true, Nat.blt_eq] at h
  have hq : s.procs[q]? = some s.procs[q] := List.getElem?_eq_getElem h.1
  exact ⟨_, hq, by rw [← pr_get hq]; exact Nat.eq_of_beq_eq_true h.2⟩
theorem st1 {s : MS} (h : 1 ≤ s.stack.length) : ∃ l n, s.stack = l ++ [n] ∧ s.top = n ∧ l.length + 1 = s.stack.length := by
  have hne : s.stack ≠ [] := by intro e; rw [e] at h; simp at h
  refine ⟨s.stack.dropLast, s.stack.getLast hne, (List.dropLast_concat_getLast hne).symm, ?_, ?_⟩
  · unfold MS.top
    rw [List.getLastD_eq_getLast?, List.getLast?_eq_some_getLast hne]
    rfl
  · rw [List.length_dropLast]; omega
theorem st2 {s : MS} (h : 2 ≤ s.stack.length) : ∃ l a b, s.stack = l ++ [a, b] ∧ s.top = b ∧ s.pop.top = a ∧ l.length + 2 = s.stack.length := by
  obtain ⟨l, b, h1, h2, h3⟩ := st1 (s := s) (by omega)
  have hp : s.pop.stack = l := by unfold MS.pop; rw [h1]; simp
  obtain ⟨l2, a, k1, k2, k3⟩ := st1 (s := s.pop) (by rw [hp]; omega)
  rw [hp] at k1 k3
  refine ⟨l2, a, b, ?_, h2, k2, by omega⟩
  rw [h1, k1]
  simp

section
variable {mb : Nat} {ρ : Nat → MR} {C : CM} {V : MV} {s : MS}

/-- what is asked of sleeping -/
def SleepH (mb : Nat) (C : CM) : Prop := ∀ (ρ : Nat → MR) (V : MV) (s : MS) (p : Nat) (x : PPr) (a : Int) (w : World), MsAt w mb ρ C V s → s.cur = some p → s.procs[p]? = some x → okX false C.br.length s p 17 a = true → Calls Tryz.prog 100 #[.pointer (some ⟨mb, 0, none⟩), .int .i64 a] w fun e w' => e = .returned (.tuple #[]) ∧ MsPost mb C ρ V w (s.exec C.br p 17 a) w'

theorem mexec_any {ns : Bool} {p : Nat} {x : PPr} (hc : s.cur = some p) (hp : s.procs[p]? = some x) (k a : Int) (hk0 : 0 ≤ k) (hk1 : k ≤ 24) (hok : okX ns C.br.length s p k a = true) (hbr : C.br.length ≤ 1000000) (SL : ns = false → SleepH mb C) (w : World) (h : MsAt w mb ρ C V s) :
    Calls Tryz.prog (fnOf k) #[.pointer (some ⟨mb, 0, none⟩), .int .i64 a] w fun e w' => e = .returned (.tuple #[]) ∧ MsPost mb C ρ V w (s.exec C.br p k a) w' := by
  have hpr := pr_get hp
  have hall := hok
  unfold okX at hok
  rw [Bool.and_eq_true, Bool.and_eq_true] at hok
  obtain ⟨⟨hl, _⟩, hok⟩ := hok
  obtain ⟨l1, l2, l3, l4, l5, l6, l7⟩ := okLens_at hl
  have cases : k = 0 ∨ k = 1 ∨ k = 2 ∨ k = 3 ∨ k = 4 ∨ k = 5 ∨ k = 6 ∨ k = 7 ∨ k = 8 ∨ k = 9 ∨ k = 10 ∨ k = 11 ∨ k = 12 ∨ k = 13 ∨ k = 14 ∨ k = 15 ∨ k = 16 ∨ k = 17 ∨ k = 18 ∨ k = 19 ∨ k = 20 ∨ k = 21 ∨ k = 22 ∨ k = 23 ∨ k = 24 := by omega
  rcases cases with rfl | rfl | rfl | rfl | rfl | rfl | rfl | rfl | rfl | rfl | rfl | rfl | rfl | rfl | rfl | rfl | rfl | rfl | rfl | rfl | rfl | rfl | rfl | rfl | rfl
  · exact mstep_any a w h
  · exact mput_any a w h (by omega)
  · obtain ⟨i, rfl, hi⟩ := inB_nat (a := a) (n := s.vars.length) hok
    exact mvariable_any i hi (by omega) w h (by omega)
  · obtain ⟨l, u, v, hs, h1, h2, h3⟩ := st2 (s := s) (Nat.le_of_ble_eq_true hok)
    have e : s.exec C.br p 3 a = s.two fun x y s => s.put (w64 (x + y)) := rfl
    unfold MS.two at e
    rw [h1, h2] at e
    rw [e]
    exact madd_any l u v hs a w h (by omega)
  · obtain ⟨l, u, v, hs, h1, h2, h3⟩ := st2 (s := s) (Nat.le_of_ble_eq_true hok)
    have e : s.exec C.br p 4 a = s.two fun x y s => s.put (w64 (x - y)) := rfl
    unfold MS.two at e
    rw [h1, h2] at e
    rw [e]
    exact msubtract_any l u v hs a w h (by omega)
  · obtain ⟨l, u, v, hs, h1, h2, h3⟩ := st2 (s := s) (Nat.le_of_ble_eq_true hok)
    have e : s.exec C.br p 5 a = s.two fun x y s => s.put (w64 (x * y)) := rfl
    unfold MS.two at e
    rw [h1, h2] at e
    rw [e]
    exact mmultiply_any l u v hs a w h (by omega)
  · obtain ⟨l, u, v, hs, h1, h2, h3⟩ := st2 (s := s) (Nat.le_of_ble_eq_true hok)
    have e : s.exec C.br p 6 a = s.two fun x y s => if y = 0 then s.fault else s.put (w64 (x.tdiv y)) := rfl
    unfold MS.two at e
    rw [h1, h2] at e
    rw [e]
    exact mdivide_any l u v hs a w h (by omega)
  · obtain ⟨l, u, v, hs, h1, h2, h3⟩ := st2 (s := s) (Nat.le_of_ble_eq_true hok)
    have e : s.exec C.br p 7 a = s.two fun x y s => if y = 0 then s.fault else s.put (x.tmod y) := rfl
    unfold MS.two at e
    rw [h1, h2] at e
    rw [e]
    exact mremainder_any l u v hs a w h (by omega)
  · obtain ⟨l, u, v, hs, h1, h2, h3⟩ := st2 (s := s) (Nat.le_of_ble_eq_true hok)
    have e : s.exec C.br p 8 a = s.two fun x y s => s.put (if x = y then 1 else 0) := rfl
    unfold MS.two at e
    rw [h1, h2] at e
    rw [e]
    exact mequal_any l u v hs a w h (by omega)
  · obtain ⟨l, u, v, hs, h1, h2, h3⟩ := st2 (s := s) (Nat.le_of_ble_eq_true hok)
    have e : s.exec C.br p 9 a = s.two fun x y s => s.put (if x < y then 1 else 0) := rfl
    unfold MS.two at e
    rw [h1, h2] at e
    rw [e]
    exact mless_any l u v hs a w h (by omega)
  · obtain ⟨l, u, v, hs, h1, h2, h3⟩ := st2 (s := s) (Nat.le_of_ble_eq_true hok)
    have e : s.exec C.br p 10 a = s.two fun x y s => s.put (if x > y then 1 else 0) := rfl
    unfold MS.two at e
    rw [h1, h2] at e
    rw [e]
    exact mmore_any l u v hs a w h (by omega)
  · obtain ⟨i, rfl, hi⟩ := inB_nat (a := a) (n := s.vars.length) hok
    exact mzero_any i hi (by omega) w h
  · have hok : (inB a s.vars.length && Nat.ble 1 s.stack.length) = true := hok
    rw [Bool.and_eq_true] at hok
    obtain ⟨i, rfl, hi⟩ := inB_nat hok.1
    obtain ⟨l, n, hs, h1, h2⟩ := st1 (s := s) (Nat.le_of_ble_eq_true hok.2)
    have e : s.exec C.br p 12 (i : Int) = { s.pop with vars := s.vars.set i s.top } := rfl
    rw [e, h1]
    exact mstore_any l n hs i hi (by omega) w h (by omega)
  · obtain ⟨l, n, hs, h1, h2⟩ := st1 (s := s) (Nat.le_of_ble_eq_true hok)
    have e : s.exec C.br p 13 a = { s.pop with out := s.out ++ [s.top] } := rfl
    rw [e, h1]
    exact mwriteOut_any l n hs a w h (by omega) (by omega)
  · have hok : (inB a s.chans.length && Nat.ble 1 s.stack.length && Nat.blt (s.ch a).nums.length 900000000000 && (match (s.ch a).rd with | none => true | some q => Nat.blt q s.procs.length && Nat.beq (s.pr q).told 2 && okWays s (s.pr q).opn && Nat.blt (s.pr q).opn.length 900000000000)) = true := hok
    rw [Bool.and_eq_true, Bool.and_eq_true, Bool.and_eq_true] at hok
    obtain ⟨⟨⟨hi, hst⟩, hnl⟩, hrd⟩ := hok
    obtain ⟨c, rfl, hcl⟩ := inB_nat hi
    obtain ⟨l, n, hs, h1, h2⟩ := st1 (s := s) (Nat.le_of_ble_eq_true hst)
    obtain ⟨y, hy⟩ : ∃ y, s.chans[c]? = some y := ⟨_, List.getElem?_eq_getElem hcl⟩
    rw [ch_get hy] at hnl hrd
    rw [Nat.blt_eq] at hnl
    have e : s.exec C.br p 14 (c : Int) = match s.pop.send c s.top with | (true, s1) => s1 | (false, s1) => (s1.setCh c { s1.ch c with wr := some p }).wait p 1 := rfl
    have hy1 : s.pop.chans[c]? = some y := hy
    rw [e, h1]
    cases hr : y.rd with
    | none =>
      have es := send_none hy1 hr n
      have := mwrite_wait hs (by omega) hy hr hc hp w h (by omega) (by omega)
      rw [es] at this ⊢
      exact this
    | some q =>
      rw [hr] at hrd
      dsimp only at hrd
      rw [Bool.and_eq_true, Bool.and_eq_true, Bool.and_eq_true, Nat.blt_eq, Nat.blt_eq] at hrd
      obtain ⟨⟨⟨hq, ht⟩, hw⟩, hol⟩ := hrd
      have hqe : s.procs[q]? = some s.procs[q] := List.getElem?_eq_getElem hq
      have ht := Nat.eq_of_beq_eq_true ht
      rw [pr_get hqe] at ht hw hol
      have es := send_some hy1 hr (s := s.pop) hqe ht n
      have := mwrite_read hs (by omega) hy hr hqe ht (okWays_at hw) w h (by omega) (by omega) (by omega) (by omega) (by omega)
      rw [es] at this ⊢
      exact this
  · have hok : (inB a C.br.length && Nat.blt (s.pr p).opn.length 900000) = true := hok
    rw [Bool.and_eq_true, hpr, Nat.blt_eq] at hok
    obtain ⟨i, rfl, hi⟩ := inB_nat hok.1
    have e : s.exec C.br p 15 (i : Int) = s.setPr p { s.pr p with opn := (s.pr p).opn ++ [C.br.getD i (0, 0, 0)] } := rfl
    rw [e, hpr]
    exact mopen_any hc hp hi hbr w h (by omega)
  · have hok : (okWays s (s.pr p).opn && Nat.blt (s.pr p).opn.length 900000000000 && s.chans.all (fun y => okWr s y.wr && Nat.blt y.nums.length 900000000000)) = true := hok
    rw [Bool.and_eq_true, Bool.and_eq_true, hpr, Nat.blt_eq, List.all_eq_true] at hok
    obtain ⟨⟨h1, h2⟩, h3⟩ := hok
    have e : s.exec C.br p 16 a = s.readF p := rfl
    rw [e]
    refine mread_any hc hp (okWays_at h1) (fun y hy q hq => ?_) (fun y hy => ?_) a w h (by omega) (by omega) (by omega) (by omega) (by omega)
    · have := h3 y hy
      rw [Bool.and_eq_true, hq] at this
      exact okWoken_at this.1
    · have := h3 y hy
      rw [Bool.and_eq_true, Nat.blt_eq] at this
      omega
  · cases ns with
    | true => have hok : (!true && Nat.ble 1 s.stack.length && okInR s && decide (0 ≤ s.time) && decide (s.time < 9000000000000000000) && decide (0 ≤ s.slept) && decide (s.slept < 1000000000000)) = true := hok
              simp at hok
    | false => exact SL rfl ρ V s p x a w h hc hp hall
  · obtain ⟨l, n, hs, h1, h2⟩ := st1 (s := s) (Nat.le_of_ble_eq_true hok)
    have e : s.exec C.br p 18 a = (if s.top = 0 then s.pop.jump p a else s.pop) := rfl
    rw [e, h1]
    exact munless_any hc hp l n hs a w h (by omega)
  · refine (mjump_any hc hp a w h).mono ?_
    rintro e w' ⟨he, k1, f1⟩
    exact ⟨he, _, _, k1, f1⟩
  · exact mhold_any a w h
  · have hok : (okInR s && okBelow s p) = true := hok
    rw [Bool.and_eq_true] at hok
    obtain ⟨h1, h2⟩ := hok
    unfold okBelow at h2
    rw [hpr, Bool.and_eq_true, decide_eq_true_eq, decide_eq_true_eq] at h2
    have e : s.exec C.br p 21 a = s.beginNew p a (s.pr p).urg := rfl
    rw [e, hpr]
    exact mbegin_any hc hp (okInR_at h1) a w h (by omega) h2.1 (by omega) (by omega)
  · have hok : (okInR s && okBelow s p) = true := hok
    rw [Bool.and_eq_true] at hok
    obtain ⟨h1, h2⟩ := hok
    unfold okBelow at h2
    rw [hpr, Bool.and_eq_true, decide_eq_true_eq, decide_eq_true_eq] at h2
    exact mbeginUrgent_any hc hp (okInR_at h1) a w h (by omega) h2.1 (by omega) (by omega)
  · have e : s.exec C.br p 23 a = (if (s.pr p).below > 0 then (s.jump p a).wait p 1 else s.jump p a) := rfl
    rw [e, hpr]
    exact mjoin_any hc hp a w h
  · have hok : (match (s.pr p).above with | none => true | some q => Nat.blt q s.procs.length && decide (0 < (s.pr q).below) && decide ((s.pr q).below < 900000000000) && (if (s.pr q).below = 1 then Nat.beq (s.pr q).told 1 else true)) = true := hok
    have e : s.exec C.br p 24 a = (match (s.pr p).above with
      | none => { s.leave with ended := true }
      | some q =>
        let s1 := s.leave.setPr q { s.pr q with below := (s.pr q).below - 1 }
        if (s1.pr q).below = 0 then s1.tell q 0 0 else s1) := rfl
    rw [e]
    rw [hpr] at hok ⊢
    cases ha : x.above with
    | none => exact mend_none hc hp ha a w h
    | some q =>
      rw [ha] at hok
      dsimp only at hok ⊢
      rw [Bool.and_eq_true, Bool.and_eq_true, Bool.and_eq_true, Nat.blt_eq, decide_eq_true_eq, decide_eq_true_eq] at hok
      obtain ⟨⟨⟨hq, h1⟩, h2⟩, h3⟩ := hok
      have hqe : s.procs[q]? = some s.procs[q] := List.getElem?_eq_getElem hq
      rw [pr_get hqe] at h1 h2 h3 ⊢
      have hq1 : (s.leave.setPr q { s.procs[q] with below := s.procs[q].below - 1 }).procs[q]? = some { s.procs[q] with below := s.procs[q].below - 1 } := by
        show (s.procs.set q _)[q]? = _
        rw [List.getElem?_set_self hq]
      have hyt : s.procs[q].below = 1 → s.procs[q].told = 1 := fun hb => by
        rw [if_pos hb] at h3
        exact Nat.eq_of_beq_eq_true h3
      have := mend_some hc hp ha hqe h1 (by omega) hyt a w h (by omega) (by omega)
      rw [pr_get hq1]
      by_cases hb : s.procs[q].below = 1
      · rw [if_pos hb] at this
        rw [if_pos (by show s.procs[q].below - 1 = 0; omega), tell_one hq1 (hyt hb)]
        exact this
      · rw [if_neg hb] at this
        rw [if_neg (by show ¬ s.procs[q].below - 1 = 0; omega)]
        exact this
end
end Go.Proofs.YtnhidaamfnjdjaaGreatDoor
/- RUN: the table, the loop. -/
namespace Go.Proofs.YtnhidaamfnjdjaaGreatDoor
open Go.RowKit Go.Maps

def tabV : Array Value := #[.func (.func 83) #[] #[], .func (.func 84) #[] #[], .func (.func 85) #[] #[], .func (.func 86) #[] #[], .func (.func 87) #[] #[], .func (.func 88) #[] #[], .func (.func 89) #[] #[], .func (.func 90) #[] #[], .func (.func 91) #[] #[], .func (.func 92) #[] #[], .func (.func 93) #[] #[], .func (.func 94) #[] #[], .func (.func 95) #[] #[], .func (.func 96) #[] #[], .func (.func 97) #[] #[], .func (.func 98) #[] #[], .func (.func 99) #[] #[], .func (.func 100) #[] #[], .func (.func 101) #[] #[], .func (.func 102) #[] #[], .func (.func 103) #[] #[], .func (.func 104) #[] #[], .func (.func 105) #[] #[], .func (.func 106) #[] #[], .func (.func 107) #[] #[]]
theorem tabInfo : (Tryz.prog.info? 93).map (·.size) = some tabV.size := by kernel_rfl
theorem tabOne : tabV.all (·.oneCell') = true := by kernel_rfl
theorem wpList_store_new {P : Program} {w : World} {ops : Array Oper} {rest : List Oper} {op : Oper} {a : Act} {Q : Exit → Act → World → Prop} {c c' : Array Value} (hgd : op.guard = none) (ty : TypeId) (x y : Operand) (ho : op.op = .store ty x y)
    (hx : a.eval x = .pointer (some ⟨w.heap.size, 0, none⟩)) (hy : a.eval y = .agg c') (hi : (P.info? ty).map (·.size) = some c'.size) (hs : c.size = c'.size) (h1 : c'.all (·.oneCell') = true)
    (h : wpList P ops Q rest (a.put op.dst undef) (w.alloc (.cells c' ty))) : wpList P ops Q (op :: rest) a (w.alloc (.cells c ty)) := by
  refine wpList_plain hgd fun K hK => ?_
  unfold Oper.wp execOp
  simp only [ho, hx, hy, Sem.run_bind, Sem.run_pure, Result.andThen_ok, run_storeAt_new w ty c c' hi hs h1]
  exact hK _ _ h
theorem results_cell {P : Program} {fn : Func} {tmps : Array Value} {w : World} {v : Value} {a : Nat} {t : TypeId} {ad : Addr} (h : fn.results = #[.cell a t]) (h1 : tmps[a]? = some (.pointer (some ad))) (h2 : (loadVar t ad).run P w = .ok v w) : (results fn tmps).run P w = .ok v w := by
  simp [results, h, h1, asAddr, h2]
set_option maxRecDepth 20000 in
set_option maxHeartbeats 4000000 in
theorem actions_any (w : World) : Calls Tryz.prog 56 #[] w fun e w' => e = .returned (.agg tabV) ∧ w' = w.alloc (.cells tabV 93) := by
  go_enter Tryz.func56, Tryz.ntmps56
  go_wp2_with (refine wpList_store_new (c' := tabV) rfl 93 (.tmp 0) (.tmp 1) rfl rfl rfl tabInfo rfl tabOne ?_)
  exact bodyPost_ret (v := .agg tabV) (results_cell Tryz.results56 rfl (run_loadVar_new w 93 tabV 25 92 Tryz.underlying93 tabInfo)) rfl ⟨rfl, rfl⟩
end Go.Proofs.YtnhidaamfnjdjaaGreatDoor
/- RUN's LOOP: what a turn asks, plainly; the least fuel; the table's cells. -/
namespace Go.Proofs.YtnhidaamfnjdjaaGreatDoor
open Go.RowKit Go.Maps

theorem tab_at (k : Nat) (h : k < 25) : tabV[k]? = some (.func (.func (fnOf k)) #[] #[]) := by
  have cases : k = 0 ∨ k = 1 ∨ k = 2 ∨ k = 3 ∨ k = 4 ∨ k = 5 ∨ k = 6 ∨ k = 7 ∨ k = 8 ∨ k = 9 ∨ k = 10 ∨ k = 11 ∨ k = 12 ∨ k = 13 ∨ k = 14 ∨ k = 15 ∨ k = 16 ∨ k = 17 ∨ k = 18 ∨ k = 19 ∨ k = 20 ∨ k = 21 ∨ k = 22 ∨ k = 23 ∨ k = 24 := by omega
  rcases cases with rfl | rfl | rfl | rfl | rfl | rfl | rfl | rfl | rfl | rfl | rfl | rfl | rfl | rfl | rfl | rfl | rfl | rfl | rfl | rfl | rfl | rfl | rfl | rfl | rfl <;> rfl

theorem exists_least {P : Nat → Prop} : ∀ n, P n → ∃ n, P n ∧ ∀ m, P m → n ≤ m := by
  intro n
  induction n using Nat.strongRecOn with
  | _ n ih =>
    intro hn
    by_cases h : ∃ m, P m ∧ m < n
    · obtain ⟨m, hm, hlt⟩ := h
      exact ih m hlt hm
    · refine ⟨n, hn, fun m hm => ?_⟩
      rcases Nat.lt_or_ge m n with z | z
      · exact absurd ⟨m, hm, z⟩ h
      · exact z
open Classical in
noncomputable def leastN (P : Nat → Prop) : Nat := if h : ∃ n, P n ∧ ∀ m, P m → n ≤ m then h.choose else 0
theorem leastN_spec {P : Nat → Prop} (h : ∃ n, P n) : P (leastN P) ∧ ∀ m, P m → leastN P ≤ m := by
  obtain ⟨n, hn⟩ := h
  have h := exists_least n hn
  unfold leastN
  rw [dif_pos h]
  exact h.choose_spec

section
variable {ns : Bool} {code : List (Int × Int)} {br : List (Int × Int × Int)} {steps d : Int} {s : MS} {f : Nat} {r : Int × MS}
theorem runC_none (h : runC ns code br steps f d s = some r) (hc : s.cur = none) :
    ∃ f', f = f' + 1 ∧ okLens s = true ∧ ((¬ d < steps ∧ r = (d, s)) ∨ (d < steps ∧ okMake ns s = true ∧ ((s.makeCurrent.cur = none ∧ r = (d, s.makeCurrent)) ∨ ∃ p, s.makeCurrent.cur = some p ∧ runC ns code br steps f' d s.makeCurrent = some r))) := by
  cases f with
  | zero => cases h
  | succ f' =>
    refine ⟨f', rfl, ?_⟩
    unfold runC turnC at h
    rw [hc] at h
    by_cases hl : okLens s = false
    · rw [if_pos hl] at h
      cases h
    · rw [if_neg hl] at h
      refine ⟨by simpa using hl, ?_⟩
      dsimp only at h
      by_cases hd : d < steps
      · rw [if_pos hd] at h
        refine .inr ⟨hd, ?_⟩
        by_cases hm : okMake ns s = true
        · rw [if_pos hm] at h
          refine ⟨hm, ?_⟩
          cases hc2 : s.makeCurrent.cur with
          | none =>
            rw [hc2] at h
            exact .inl ⟨rfl, (Option.some.inj h).symm⟩
          | some p =>
            rw [hc2] at h
            exact .inr ⟨p, rfl, h⟩
        · rw [if_neg hm] at h
          cases h
      · rw [if_neg hd] at h
        exact .inl ⟨hd, (Option.some.inj h).symm⟩
theorem runC_some {p : Nat} (h : runC ns code br steps f d s = some r) (hc : s.cur = some p) :
    ∃ (f' : Nat) (x : PPr) (a k : Nat) (i : Int), f = f' + 1 ∧ okLens s = true ∧ s.procs[p]? = some x ∧ x.at_ = a ∧ a < code.length ∧ (code.getD a (0, 0)).2 = i ∧
      (((code.getD a (0, 0)).1 = 0 ∧ steps ≤ d ∧ r = (d, s)) ∨
       ((code.getD a (0, 0)).1 = k ∧ ¬ (k = 0 ∧ steps ≤ d) ∧ k < 25 ∧ okX ns br.length (s.setPr p { x with at_ := x.at_ + 1 }) p k i = true ∧ runC ns code br steps f' (if k = 0 then d + 1 else d) ((s.setPr p { x with at_ := x.at_ + 1 }).exec br p k i) = some r)) := by
  cases f with
  | zero => cases h
  | succ f' =>
    unfold runC turnC at h
    rw [hc] at h
    by_cases hl : okLens s = false
    · rw [if_pos hl] at h
      cases h
    · rw [if_neg hl] at h
      dsimp only at h
      by_cases hb : inB (s.pr p).at_ code.length = true ∧ Nat.blt p s.procs.length = true
      · rw [if_pos hb] at h
        obtain ⟨a, ha, hal⟩ := inB_nat hb.1
        have hpl : p < s.procs.length := by have := hb.2; rwa [Nat.blt_eq] at this
        have hp : s.procs[p]? = some s.procs[p] := List.getElem?_eq_getElem hpl
        rw [pr_get hp] at h ha
        rw [ha, Int.toNat_natCast] at h
        by_cases hi : (code.getD a (0, 0)).1 = 0 ∧ steps ≤ d
        · rw [if_pos hi] at h
          exact ⟨f', _, a, 0, _, rfl, by simpa using hl, hp, ha, hal, rfl, .inl ⟨hi.1, hi.2, (Option.some.inj h).symm⟩⟩
        · rw [if_neg hi] at h
          split at h
          · rename_i q he
            split at he
            · rename_i hk
              injection he with he
              injection he with he
              subst he
              simp only [Bool.and_eq_true, decide_eq_true_eq] at hk
              obtain ⟨⟨h0, h24⟩, hok⟩ := hk
              have hkn : (code.getD a (0, 0)).1 = ((code.getD a (0, 0)).1.toNat : Int) := by omega
              refine ⟨f', _, a, (code.getD a (0, 0)).1.toNat, _, rfl, by simpa using hl, hp, ha, hal, rfl, .inr ⟨hkn, fun hh => hi ⟨by omega, hh.2⟩, by omega, ?_, ?_⟩⟩
              · rw [← hkn, ha]; exact hok
              · rw [← hkn, ha]
                have e : ((code.getD a (0, 0)).1.toNat = 0) ↔ ((code.getD a (0, 0)).1 = 0) := by omega
                simp only [e]
                exact h
            · cases he
          · rename_i q he
            split at he
            · cases he
            · cases he
          · cases h
      · rw [if_neg hb] at h
        cases h
end
end Go.Proofs.YtnhidaamfnjdjaaGreatDoor
/- makeCurrent, where it may be done. -/
namespace Go.Proofs.YtnhidaamfnjdjaaGreatDoor
open Go.RowKit Go.Maps

section
variable {mb : Nat} {ρ : Nat → MR} {C : CM} {V : MV} {s : MS}
theorem next_len (s : MS) : s.urg.length ≤ s.next.urg.length + 1 ∧ s.oth.length ≤ s.next.oth.length + 1 := by
  unfold MS.next
  cases hu : s.urg with
  | cons p l => exact ⟨Nat.le_refl _, Nat.le_succ _⟩
  | nil => cases ho : s.oth with
    | cons p l => exact ⟨by simp, Nat.le_refl _⟩
    | nil => exact ⟨by simp, by simp⟩
/-- what is asked of waking -/
def WakeH (mb : Nat) (C : CM) : Prop := ∀ (ρ : Nat → MR) (V : MV) (s : MS) (w : World), MsAt w mb ρ C V s → okLens s = true → okInR s = true → s.urg = [] → s.oth = [] → s.asleep.all (fun x => okWoken s x.2.2) = true → okOnce s.asleep = true → Calls Tryz.prog 109 #[.pointer (some ⟨mb, 0, none⟩)] w fun e w' => e = .returned (.tuple #[]) ∧ MsPost mb C ρ V w s.wakeNext w'

theorem mmake_ok {ns : Bool} (hc : s.cur = none) (hok : okMake ns s = true) (WK : ns = false → WakeH mb C) (w : World) (h : MsAt w mb ρ C V s) :
    Calls Tryz.prog 57 #[.pointer (some ⟨mb, 0, none⟩)] w fun e w' => e = .returned (.bool s.makeCurrent.cur.isSome) ∧ MsPost mb C ρ V w s.makeCurrent w' := by
  unfold okMake at hok
  rw [Bool.and_eq_true, Bool.and_eq_true, Bool.and_eq_true] at hok
  obtain ⟨⟨⟨hl, hr⟩, ha⟩, hl2⟩ := hok
  obtain ⟨l1, l2, l3, l4, l5, l6, l7⟩ := okLens_at hl
  rcases hf : s.faulty with _ | _
  · obtain ⟨m1, m2, m3, m4, m5, m6, m7⟩ := okLens_at hl2
    rw [makeCurrent_is s hf] at m1 m2
    refine mmake_any hc w h (fun hu ho => ?_) (by omega) (by omega) (fun hu ho => ?_) (fun hu ho => ?_)
    · cases hs : s.asleep with
      | nil => exact mwakeNext_none hs w h
      | cons x l =>
        rw [hs] at ha
        dsimp only at ha
        rw [Bool.and_eq_true, Bool.and_eq_true] at ha
        refine WK (by simpa using ha.1.1) ρ V s w h hl hr hu ho (by rw [hs]; exact ha.1.2) (by rw [hs]; exact ha.2)
    · rw [if_pos ⟨hu, ho⟩] at m1
      have := (next_len s.wakeNext).1
      omega
    · rw [if_pos ⟨hu, ho⟩] at m2
      have := (next_len s.wakeNext).2
      omega
  · exact mmake_faulty hf hc w h
end
end Go.Proofs.YtnhidaamfnjdjaaGreatDoor
/- RUN: what a turn finds. -/
namespace Go.Proofs.YtnhidaamfnjdjaaGreatDoor
open Go.RowKit Go.Maps

section
variable {mb : Nat} {ρ : Nat → MR} {C : CM} {V : MV} {s : MS}

theorem code_at (l : List (Int × Int)) : ∀ (a : Nat), a < l.length → (codeV l)[a * 2]? = some (.int .i64 (l.getD a (0, 0)).1) ∧ (codeV l)[a * 2 + 1]? = some (.int .i64 (l.getD a (0, 0)).2) := by
  induction l with
  | nil => intro a h; simp at h
  | cons p l ih =>
    intro a h
    have e : codeV (p :: l) = insV p ++ codeV l := rfl
    cases a with
    | zero => exact ⟨rfl, rfl⟩
    | succ a =>
      have := ih a (by simpa using h)
      rw [e]
      have hl : (insV p).length = 2 := rfl
      refine ⟨?_, ?_⟩
      · rw [List.getElem?_append_right (by omega), show (a + 1) * 2 - (insV p).length = a * 2 by omega]
        simpa using this.1
      · rw [List.getElem?_append_right (by omega), show (a + 1) * 2 + 1 - (insV p).length = a * 2 + 1 by omega]
        simpa using this.2

def nowW (W : World) (k i : Int) : World := W.alloc (.cells #[.int .i64 k, .int .i64 i] 105)
def nextW (W : World) (k i : Int) (pb : Nat) (a : Int) : World := (nowW W k i).setCell ⟨pb, 3, none⟩ (.int .i64 (a + 1))
/-- what stands where a turn begins -/
theorem body_heads {W : World} {p : Nat} {x : PPr} {a : Nat} (h : MsAt W mb ρ C V s) (hc : s.cur = some p) (hp : s.procs[p]? = some x) (ha : x.at_ = a) (hal : a < C.code.length) :
    ∃ gc cap, W.cell? ⟨mb, 5, none⟩ = some (.pointer (some ⟨V.pb.getD p 0, 0, none⟩)) ∧ W.cell? ⟨V.pb.getD p 0, 3, none⟩ = some (.int .i64 a) ∧ W.cell? ⟨mb, 0, none⟩ = some (.slice (some ⟨gc, 0, none⟩) C.code.length cap) ∧ C.code.length ≤ cap ∧ cap ≤ maxLen ∧ W.cell? ⟨gc, a * 2, none⟩ = some (.int .i64 (C.code.getD a (0, 0)).1) ∧ W.cell? ⟨gc, a * 2 + 1, none⟩ = some (.int .i64 (C.code.getD a (0, 0)).2) := by
  have q := h.proc p x hp (fun x => x)
  have c5 := mcur_cell h
  rw [hc] at c5
  have d3 : W.cell? ⟨V.pb.getD p 0, 3, none⟩ = some (.int .i64 x.at_) := cell_at q.1 3
  rw [ha] at d3
  obtain ⟨g, cap, cur, e1, hg, hn, hcc, hsz, hxs⟩ := row_pos (h.code (fun x => x)).1 (by omega)
  have c0 : W.cell? ⟨mb, 0, none⟩ = some V.co := cell_at (h.blk (fun x => x)) 0
  rw [e1] at c0
  have k := code_at C.code a hal
  exact ⟨g, cap, c5, d3, c0, hn, hcc, ownsRow_cell hg hxs k.1, ownsRow_cell hg hxs k.2⟩
/-- what stands where the action is called, and what the action does -/
theorem body_tails {ns : Bool} {W : World} {tb p k a : Nat} {x : PPr} {i : Int} (h : MsAt W mb ρ C V s) (hc : s.cur = some p) (hp : s.procs[p]? = some x) (ha : x.at_ = a) (hT : W.heap[tb]? = some (.cells tabV 93)) (hj : ρ tb = .junk) (hk : k < 25)
    (hok : okX ns C.br.length (s.setPr p { x with at_ := x.at_ + 1 }) p k i = true) (hbr : C.br.length ≤ 1000000) (SL : ns = false → SleepH mb C) :
    (∀ j, (nowW W k i).cell? ⟨mb, j, none⟩ = W.cell? ⟨mb, j, none⟩) ∧ (∀ j, (nowW W k i).cell? ⟨V.pb.getD p 0, j, none⟩ = W.cell? ⟨V.pb.getD p 0, j, none⟩) ∧ (∀ j, (nowW W k i).frozen? ⟨V.pb.getD p 0, j, none⟩ = false) ∧
    (nextW W k i (V.pb.getD p 0) a).drew.cell? ⟨W.heap.size, 0, none⟩ = some (.int .i64 k) ∧ (nextW W k i (V.pb.getD p 0) a).drew.cell? ⟨W.heap.size, 1, none⟩ = some (.int .i64 i) ∧
    (nextW W k i (V.pb.getD p 0) a).drew.cell? ⟨tb, k, none⟩ = some (.func (.func (fnOf k)) #[] #[]) ∧
    ∃ ρ', MsGo V V ρ ρ' W (nextW W k i (V.pb.getD p 0) a).drew.drew ∧ Calls Tryz.prog (fnOf k) #[.pointer (some ⟨mb, 0, none⟩), .int .i64 i] (nextW W k i (V.pb.getD p 0) a).drew.drew fun e w' => e = .returned (.tuple #[]) ∧ MsPost mb C ρ' V (nextW W k i (V.pb.getD p 0) a).drew.drew ((s.setPr p { x with at_ := x.at_ + 1 }).exec C.br p k i) w' ∧ w'.cell? ⟨W.heap.size, 0, none⟩ = some (.int .i64 k) ∧ w'.cell? ⟨W.heap.size, 1, none⟩ = some (.int .i64 i) ∧ w'.cell? ⟨tb, k, none⟩ = some (.func (.func (fnOf k)) #[] #[]) := by
  have kA : MsAt (nowW W k i) mb _ C V s ∧ MsGo V V ρ _ W (nowW W k i) := h.allocJ (.cells #[.int .i64 k, .int .i64 i] 105)
  have q := kA.1.proc p x hp (fun x => x)
  have q0 := h.proc p x hp (fun x => x)
  have hpl := lt_of_at q0.1
  have hnew : (nowW W k i).heap[W.heap.size]? = some (.cells #[.int .i64 k, .int .i64 i] 105) := at_new W _
  have ntp : tb ≠ V.pb.getD p 0 := fun e => by rw [e, q0.2] at hj; cases hj
  have hT2 : (nextW W k i (V.pb.getD p 0) a).heap[tb]? = some (.cells tabV 93) := by
    unfold nextW
    rw [Below.heap_setCell _ _ _ _ ntp]
    exact at_alloc (w := W) hT _
  have hN2 : (nextW W k i (V.pb.getD p 0) a).heap[W.heap.size]? = some (.cells #[.int .i64 k, .int .i64 i] 105) := by
    unfold nextW
    rw [Below.heap_setCell _ _ _ _ (by show W.heap.size ≠ V.pb.getD p 0; omega)]
    exact hnew
  have fin := mproc_set kA.1 hp 3 (.int .i64 ((a : Int) + 1)) (x' := { x with at_ := x.at_ + 1 }) (by rw [ha]; rfl) rfl
  have hb1 : (nowW W k i).heap[mb]? = some (.cells (V.mach s) 102) := kA.1.blk (fun x => x)
  have hlt : p < s.procs.length := (List.getElem?_eq_some_iff.1 hp).1
  have hp1 : (s.setPr p { x with at_ := x.at_ + 1 }).procs[p]? = some { x with at_ := x.at_ + 1 } := by
    show (s.procs.set p _)[p]? = _
    rw [List.getElem?_set_self hlt]
  refine ⟨fun j => ?_, fun j => ?_, fun j => frozen_at q.1 j, cell_at hN2 0, cell_at hN2 1, ?_, _, kA.2.trans fin.2.drew.drew, ?_⟩
  · rw [cell_at hb1, cell_at (h.blk (fun x => x))]
  · have e : (nowW W k i).cell? ⟨V.pb.getD p 0, j, none⟩ = _ := cell_at q.1 j
    rw [e, cell_at q0.1]
  · have e := cell_at hT2 k
    exact e.trans (tab_at k hk)
  · refine (mexec_any (s := s.setPr p { x with at_ := x.at_ + 1 }) hc hp1 k i (by omega) (by omega) hok hbr SL _ fin.1.drew.drew).mono ?_
    rintro e w' ⟨he, ρ2, V2, k2, g2⟩
    have htl := lt_of_at hT
    have htn : junkR ρ W.heap.size tb = .junk := by
      unfold junkR
      rw [if_neg (by omega)]
      exact hj
    have b1 := (g2.fr.block W.heap.size (lt_of_at hN2) (by rw [junkR_new]; simp)).1.trans hN2
    have b2 := (g2.fr.block tb (lt_of_at hT2) (by rw [htn]; simp)).1.trans hT2
    exact ⟨he, ⟨ρ2, V2, k2, g2⟩, cell_at b1 0, cell_at b1 1, (cell_at b2 k).trans (tab_at k hk)⟩
end
end Go.Proofs.YtnhidaamfnjdjaaGreatDoor
