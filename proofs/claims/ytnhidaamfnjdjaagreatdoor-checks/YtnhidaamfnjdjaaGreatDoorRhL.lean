import Derived.Test.YtnhidaamfnjdjaaGreatDoorRhI
import Derived.Test.YtnhidaamfnjdjaaGreatDoorRhF
namespace Go.Proofs.YtnhidaamfnjdjaaGreatDoor
open Go.RowKit Go.Maps

structure TokP (l : Bs) : Prop where
  few : (toksF l).length ≤ l.length
  short : ∀ t ∈ toksF l, t.length ≤ 1000
  dig : ∀ t ∈ toksF l, isDigitB (t.headD 0).toNat = true → ∀ c ∈ t, isDigitB c.toNat = true
theorem TokP.cons {l r : Bs} {t : Bs} (h : TokP r) (e : toksF l = t :: toksF r) (hr : r.length < l.length) (ht : t.length ≤ 1000) (hd : isDigitB (t.headD 0).toNat = true → ∀ c ∈ t, isDigitB c.toNat = true) : TokP l := by
  refine ⟨?_, ?_, ?_⟩
  · rw [e, List.length_cons]; have := h.few; omega
  · rw [e]; intro x hx
    simp only [List.mem_cons] at hx
    rcases hx with rfl | hx
    · exact ht
    · exact h.short x hx
  · rw [e]; intro x hx
    simp only [List.mem_cons] at hx
    rcases hx with rfl | hx
    · exact hd
    · exact h.dig x hx
theorem TokP.bad {l : Bs} (e : toksF l = [[120, 33]]) (hl : 0 < l.length) : TokP l := by
  refine ⟨by rw [e]; exact hl, ?_, ?_⟩
  · rw [e]; intro x hx; simp only [List.mem_singleton] at hx; subst hx; decide
  · rw [e]; intro x hx; simp only [List.mem_singleton] at hx; subst hx; intro h; exact absurd h (by decide)
theorem sign_digit : ∀ c ∈ signsB, isDigitB c.toNat = false := by decide
theorem toks_fine : ∀ (n : Nat) (l : Bs), l.length ≤ n → TokP l
  | _, [], _ => ⟨by simp [toksF_nil], by simp [toksF_nil], by simp [toksF_nil]⟩
  | 0, c :: r, h => by simp at h
  | n + 1, c :: r, h => by
    have hr : r.length ≤ n := by simpa using h
    by_cases h0 : c = 32
    · subst h0
      have := toks_fine n r hr
      exact ⟨by rw [toksF_blank]; have := this.few; simp; omega, by rw [toksF_blank]; exact this.short, by rw [toksF_blank]; exact this.dig⟩
    · by_cases h1 : isLetterB c.toNat = true
      · have e := toksF_letter c r h1
        have hp : 1 ≤ spanN isLetterB (c :: r) := spanN_pos _ _ _ h1
        split at e
        · exact .bad e (by simp)
        · refine TokP.cons (toks_fine n ((c :: r).drop (spanN isLetterB (c :: r))) (by rw [List.length_drop]; simp; omega)) e (by rw [List.length_drop]; simp; omega) (by rw [List.length_take]; omega) ?_
          rw [(take_span_cons isLetterB c r h1).1]
          intro hd
          exfalso
          simp [isLetterB] at h1
          simp [isDigitB] at hd
          omega
      · have h1' : isLetterB c.toNat = false := by simpa using h1
        by_cases h2 : isDigitB c.toNat = true
        · have e := toksF_digit c r h2
          have hp : 1 ≤ spanN isDigitB (c :: r) := spanN_pos _ _ _ h2
          split at e
          · exact .bad e (by simp)
          · exact TokP.cons (toks_fine n ((c :: r).drop (spanN isDigitB (c :: r))) (by rw [List.length_drop]; simp; omega)) e (by rw [List.length_drop]; simp; omega) (by rw [List.length_take]; omega) (fun _ => (take_span_cons isDigitB c r h2).2)
        · have h2' : isDigitB c.toNat = false := by simpa using h2
          by_cases h3 : c ∈ signsB
          · refine TokP.cons (toks_fine n r hr) (toksF_sign c r h0 h1' h2' h3) (by simp) (by simp) ?_
            intro hd
            have hd : isDigitB c.toNat = true := hd
            rw [h2'] at hd
            cases hd
          · by_cases h4 : c = 58 ∧ r.head? = some 61
            · obtain ⟨rfl, h4⟩ := h4
              cases r with
              | nil => cases h4
              | cons d r =>
                simp at h4
                subst h4
                exact TokP.cons (toks_fine n r (by simp at hr; omega)) (toksF_gets r) (by simp; omega) (by simp) (fun hd => absurd hd (by decide))
            · exact .bad (toksF_wrong c r h0 h1' h2' h3 h4) (by simp)

/- how much a text's tables hold, line by line -/
structure SOk (S : RP) (k : Nat) : Prop where
  nodes : S.nodes.length ≤ k
  xs : S.xs.length ≤ 600 * k
  pile : S.pile.length ≤ k
  pin : ∀ p ∈ S.pile, p < S.nodes.length
  kids : ∀ i, (S.at i).kids.length ≤ k
  inn : ∀ i, (S.at i).inn ≤ 10
theorem SOk.le {S : RP} {k m : Nat} (h : SOk S k) (hm : k ≤ m) : SOk S m := ⟨by have := h.nodes; omega, by have := h.xs; omega, by have := h.pile; omega, h.pin, fun i => by have := h.kids i; omega, h.inn⟩
theorem closedL_len (S : RP) (d : Nat) : ∀ q : List Nat, (S.closedL d q).1.length ≤ q.length ∧ ∀ x ∈ (S.closedL d q).1, x ∈ q
  | [] => ⟨Nat.le_refl _, fun _ h => h⟩
  | k :: r => by
    rw [closedL_cons]
    have ih := closedL_len S d r
    split
    · split
      · exact ⟨by simp; omega, fun x hx => by simp; exact .inr (ih.2 x hx)⟩
      · exact ⟨Nat.le_refl _, fun _ h => h⟩
    · exact ⟨Nat.le_refl _, fun _ h => h⟩
theorem closed_sub (S : RP) (d : Nat) : (S.closed d).1.length ≤ S.pile.length ∧ ∀ x ∈ (S.closed d).1, x ∈ S.pile := by
  have := closedL_len S d S.pile.reverse
  unfold RP.closed
  exact ⟨by simpa using this.1, fun x hx => by have := this.2 x (by simpa using hx); simpa using this⟩
theorem gr_switch (s : XR) : Gr 300 s (rswitch s).2 := by
  unfold rswitch
  dsimp only
  split
  · exact (gr_step s).le (by decide)
  · split
    · exact ((gr_step s).trans (gr_expr 4 _)).le (by decide)
    · split
      · exact ((gr_step s).trans (gr_name _)).le (by decide)
      · split
        · exact ((gr_step s).trans (gr_over _)).le (by decide)
        · split
          · exact (((gr_step s).trans (gr_step _)).trans (gr_expr 4 _)).le (by decide)
          · split
            · exact (((gr_step s).trans (gr_step _)).trans (gr_expr 4 _)).le (by decide)
            · split
              · exact (((gr_step s).trans (gr_step _)).trans (gr_name _)).le (by decide)
              · exact (((gr_step s).trans (gr_step _)).trans (gr_wrong _ _)).le (by decide)
theorem put_sok {S : RP} {k : Nat} (h : SOk S k) (pile : List Nat) (hp : pile.length ≤ S.pile.length ∧ ∀ x ∈ pile, x ∈ S.pile) (d : Nat) (hd : d ≤ 10) (n : RN) (no : Int) (xs : List RX) (hx : xs.length ≤ S.xs.length + 600) : SOk (S.put pile d n no xs) (k + 1) := by
  have hn : (S.put pile d n no xs).nodes.length = S.nodes.length + 1 := by
    unfold RP.put
    dsimp only
    cases pile.getLast? with
    | none => simp
    | some t => simp
  have hat : ∀ i, ((S.put pile d n no xs).at i).kids.length ≤ k + 1 ∧ ((S.put pile d n no xs).at i).inn ≤ 10 := by
    intro i
    unfold RP.put RP.at
    dsimp only
    have base : ∀ (ns : List RNd), ns.length = S.nodes.length → (∀ j, (ns.getD j default).kids.length ≤ k + 1 ∧ (ns.getD j default).inn ≤ 10) → ((ns ++ [(⟨n.kind, no, d, n.name, n.over, n.ex, []⟩ : RNd)]).getD i default).kids.length ≤ k + 1 ∧ ((ns ++ [(⟨n.kind, no, d, n.name, n.over, n.ex, []⟩ : RNd)]).getD i default).inn ≤ 10 := by
      intro ns hl hj
      rcases Nat.lt_trichotomy i ns.length with x | x | x
      · have : (ns ++ [(⟨n.kind, no, d, n.name, n.over, n.ex, []⟩ : RNd)]).getD i default = ns.getD i default := by simp [List.getD, List.getElem?_append_left x]
        rw [this]; exact hj i
      · subst x
        have : (ns ++ [(⟨n.kind, no, d, n.name, n.over, n.ex, []⟩ : RNd)]).getD ns.length default = ⟨n.kind, no, d, n.name, n.over, n.ex, []⟩ := by simp [List.getD]
        rw [this]
        exact ⟨Nat.zero_le _, hd⟩
      · rw [getD_ge _ _ _ (by simp; omega)]
        exact ⟨Nat.zero_le _, Nat.zero_le _⟩
    have old : ∀ j, (S.nodes.getD j default).kids.length ≤ k ∧ (S.nodes.getD j default).inn ≤ 10 := fun j => ⟨h.kids j, h.inn j⟩
    cases hl : pile.getLast? with
    | none => exact base S.nodes rfl (fun j => ⟨by have := (old j).1; omega, (old j).2⟩)
    | some t =>
      refine base (S.nodes.set t { S.nodes.getD t default with kids := (S.nodes.getD t default).kids ++ [S.nodes.length] }) (by simp) (fun j => ?_)
      have o1 := (old t).1
      have o2 := (old t).2
      by_cases e : t = j
      · subst e
        rcases Nat.lt_or_ge t S.nodes.length with x | x
        · rw [getD_lt _ _ _ (by simpa using x)]
          simp only [List.getElem_set_self]
          refine ⟨?_, o2⟩
          simp only [List.length_append, List.length_singleton]
          omega
        · rw [getD_ge _ _ _ (by simpa using x)]
          exact ⟨Nat.zero_le _, Nat.zero_le _⟩
      · have e2 : (S.nodes.set t { S.nodes.getD t default with kids := (S.nodes.getD t default).kids ++ [S.nodes.length] }).getD j default = S.nodes.getD j default := by
          simp only [List.getD, List.getElem?_set]
          rw [if_neg e]
        rw [e2]
        exact ⟨by have := (old j).1; omega, (old j).2⟩
  refine ⟨by rw [hn]; have := h.nodes; omega, by show xs.length ≤ _; have := h.xs; omega, by show (pile ++ [S.nodes.length]).length ≤ _; have := h.pile; simp; omega, ?_, fun i => (hat i).1, fun i => (hat i).2⟩
  intro p hpp
  rw [hn]
  have hpp : p ∈ pile ++ [S.nodes.length] := hpp
  simp only [List.mem_append, List.mem_singleton] at hpp
  rcases hpp with x | rfl
  · have := h.pin p (hp.2 p x); omega
  · omega
theorem line_sok {S : RP} {k : Nat} (h : SOk S k) (l : Bs) (no : Int) : SOk (S.line l no).1 (k + 1) := by
  unfold RP.line
  dsimp only
  split
  · exact h.le (by omega)
  · split
    · exact h.le (by omega)
    · split
      · exact h.le (by omega)
      · refine put_sok h _ (closed_sub S _) _ (by omega) _ _ _ ?_
        have := (gr_switch (startX (l.drop (spanN blankB l)) S.xs)).xs
        have e : (startX (l.drop (spanN blankB l)) S.xs).xs = S.xs := rfl
        rw [e] at this
        omega
end Go.Proofs.YtnhidaamfnjdjaaGreatDoor
namespace Go.Proofs.YtnhidaamfnjdjaaGreatDoor
open Go.RowKit Go.Maps

/-- of what lay below lo the block b alone may have turned -/
structure Bel (lo b : Nat) (w w' : World) : Prop where
  os : w'.os = w.os
  tape : w'.tape = w.tape
  output : w'.output = w.output
  size : w.heap.size ≤ w'.heap.size
  block : ∀ k, k < lo → k ≠ b → w'.heap[k]? = w.heap[k]?
theorem bel_trans {lo b : Nat} {x y z : World} (h : Bel lo b x y) (k : Bel lo b y z) : Bel lo b x z := ⟨k.os.trans h.os, k.tape.trans h.tape, k.output.trans h.output, Nat.le_trans h.size k.size, fun i hi hb => (k.block i hi hb).trans (h.block i hi hb)⟩
theorem bel_of {lo b n : Nat} {w w' : World} (h : Below n w w') (hlo : lo ≤ n) : Bel lo b w w' := ⟨h.os, h.tape, h.output, h.size, fun k hk _ => h.block k (by omega)⟩

structure LnAt (w : World) (lo b : Nat) (ρ : Nat → Ro) (M : List (RNd × Value)) (S : RP) (s : XR) (vn vx vt pv : Value) (line : Int) : Prop where
  tx : TxAt w lo b ρ M s vn vx vt line
  e0 : s.e = 0
  xs : s.xs = S.xs
  ns : M.map Prod.fst = S.nodes
  pile : w.ownsRow 0 3 1 pv S.pile.length (intsV S.pile)
  rp : ∀ g, pv.ownBlock = some g → lo ≤ g ∧ ρ g = .pil
  lo' : lo ≤ w.heap.size
structure Mid (w0 w : World) (lo b : Nat) (ρ : Nat → Ro) (M : List (RNd × Value)) (S : RP) (body : Bs) (vn vx vt pv : Value) (no : Int) (cl : List Nat) : Prop where
  tx : TxAt w lo b ρ M (startX body S.xs) vn vx vt no
  pile : w.ownsRow 0 3 1 pv cl.length (intsV cl)
  rp : ∀ g, pv.ownBlock = some g → lo ≤ g ∧ ρ g = .pil
  bel : Bel lo b w0 w
  lo' : lo ≤ w.heap.size

theorem now_park (b : Nat) (s : XR) (vn vx vt : Value) (line : Int) (w : World) (h : RdAt w b s vn vx vt line) (hl : Lim s 0) {R : World → Prop} (hR : ∀ n, R (w.drewN n)) :
    Calls Tryz.prog 127 #[.pointer (some ⟨b, 0, none⟩)] w fun e w' => e = .returned (.string ⟨s.now.toArray⟩) ∧ R w' := by
  refine (now_any b s vn vx vt line w h hl).mono ?_
  rintro e w' ⟨rfl, n, rfl⟩
  exact ⟨rfl, hR n⟩
theorem FrX.bel {b lo : Nat} {w w' : World} (h : FrX b none w w') (hlo : lo ≤ w.heap.size) : Bel lo b w w' := ⟨h.os, h.tape, h.output, h.size, fun k hk hb => h.block k (by omega) hb (by simp)⟩

theorem mid_of {w w1 w2 : World} {lo b : Nat} {ρ : Nat → Ro} {M : List (RNd × Value)} {S : RP} {s : XR} {vn vx vt pv pv1 vt2 : Value} {line no : Int} {body : Bs} {cl : List Nat} (h : LnAt w lo b ρ M S s vn vx vt pv line)
    (B1 : Below (w.setCell ⟨b, 6, none⟩ (.int .i64 no)).heap.size (w.setCell ⟨b, 6, none⟩ (.int .i64 no)) w1) (P1 : w1.ownsRow 0 3 1 pv1 cl.length (intsV cl)) (o1 : pv1.ownBlock = pv.ownBlock) (W2 : WordsAt w1 w2 vt2 (toksF body)) (n : Nat) :
    Mid w ((((w2.setCell ⟨b, 2, none⟩ vt2).setCell ⟨b, 3, none⟩ (.int .i64 0)).setCell ⟨b, 4, none⟩ (.int .i64 0)).drewN n) lo b (fun g => if w1.heap.size ≤ g then .tks else ρ g) M S body vn vx vt2 pv1 no cl := by
  have f0 : FrX b none w (w.setCell ⟨b, 6, none⟩ (.int .i64 no)) := (FrX.refl _ _ _).set _ _
  have t0 : TxAt (w.setCell ⟨b, 6, none⟩ (.int .i64 no)) lo b ρ M s vn vx vt no := h.tx.turn f0 (at_setCell h.tx.rd.blk 6 _) rfl rfl
  have t1 := t0.below B1
  have z0 : (w.setCell ⟨b, 6, none⟩ (.int .i64 no)).heap.size = w.heap.size := by simp [World.setCell]
  have hlo1 : lo ≤ w1.heap.size := by have := B1.size; have := h.lo'; omega
  have e : (⟨toksF body, 0, 0, s.e, s.xs⟩ : XR) = startX body S.xs := by rw [h.e0, h.xs]; rfl
  have tx := (t1.retok W2 hlo1).drewN n
  rw [e] at tx
  have hpb : pv1.ownBlock ≠ some b := by
    rw [o1]
    intro x
    have := (h.rp b x).2
    rw [h.tx.rb.2] at this
    cases this
  have f2 : FrX b none w2 ((((w2.setCell ⟨b, 2, none⟩ vt2).setCell ⟨b, 3, none⟩ (.int .i64 0)).setCell ⟨b, 4, none⟩ (.int .i64 0)).drewN n) := ((((FrX.refl _ _ _).set _ _).set _ _).set _ _).drewN n
  have z2 := W2.bel.size
  have b2 : Bel lo b w2 ((((w2.setCell ⟨b, 2, none⟩ vt2).setCell ⟨b, 3, none⟩ (.int .i64 0)).setCell ⟨b, 4, none⟩ (.int .i64 0)).drewN n) := f2.bel (by omega)
  have bl : Bel lo b w ((((w2.setCell ⟨b, 2, none⟩ vt2).setCell ⟨b, 3, none⟩ (.int .i64 0)).setCell ⟨b, 4, none⟩ (.int .i64 0)).drewN n) :=
    bel_trans (bel_trans (bel_trans (f0.bel h.lo') (bel_of B1 (by rw [z0]; exact h.lo'))) (bel_of W2.bel hlo1)) b2
  refine ⟨tx, f2.own (row_below W2.bel P1) hpb (fun _ _ => by simp), fun g hg => ?_, bl, by have := f2.size; omega⟩
  have hl := ownsRow_lt P1 hg
  have := h.rp g (by rw [← o1]; exact hg)
  exact ⟨this.1, by rw [if_neg (by omega)]; exact this.2⟩

theorem mid_rd {w w1 w2 : World} {lo b : Nat} {ρ : Nat → Ro} {M : List (RNd × Value)} {S : RP} {s : XR} {vn vx vt pv pv1 vt2 : Value} {line no : Int} {body : Bs} {cl : List Nat} (h : LnAt w lo b ρ M S s vn vx vt pv line)
    (B1 : Below (w.setCell ⟨b, 6, none⟩ (.int .i64 no)).heap.size (w.setCell ⟨b, 6, none⟩ (.int .i64 no)) w1) (P1 : w1.ownsRow 0 3 1 pv1 cl.length (intsV cl)) (o1 : pv1.ownBlock = pv.ownBlock) (W2 : WordsAt w1 w2 vt2 (toksF body)) :
    RdAt (((w2.setCell ⟨b, 2, none⟩ vt2).setCell ⟨b, 3, none⟩ (.int .i64 0)).setCell ⟨b, 4, none⟩ (.int .i64 0)) b (startX body S.xs) vn vx vt2 no := (mid_of h B1 P1 o1 W2 0).tx.rd

set_option maxRecDepth 20000 in
set_option maxHeartbeats 8000000 in
theorem rclosed_nil (w : World) (b : Nat) (d : Nat) :
    Calls Tryz.prog 68 #[.pointer (some ⟨b, 0, none⟩), .slice none 0 0, .int .i64 d] w fun e w' => e = .returned (.tuple #[.slice none 0 0, .bool true]) ∧ Below w.heap.size w w' := by
  go_enter Tryz.func68, Tryz.ntmps68
  go_wp2_with fail
  go_loopw [1] (fun v wr => v = .slice none 0 0 ∧ Below w.heap.size w wr) (fun v _ => sliceLen v)
  case atStart => exact ⟨rfl, Below.refl _ _⟩
  case round =>
    obtain ⟨rfl, hb⟩ := hrel
    go_wp2_with fail
    go_region
    go_wp2_with fail
    go_ret2
    exact ⟨rfl, hb.drew⟩
theorem rclosed_both (w : World) (lo b : Nat) (ρ : Nat → Ro) (M : List (RNd × Value)) (s : XR) (vn vx vt pv : Value) (line : Int) (S : RP) (k : Nat) (h : TxAt w lo b ρ M s vn vx vt line) (hS : M.map Prod.fst = S.nodes) (ok : SOk S k) (hk : k ≤ 900) (hp : w.ownsRow 0 3 1 pv S.pile.length (intsV S.pile)) (d : Nat) (hd : d ≤ 2000) :
    Calls Tryz.prog 68 #[.pointer (some ⟨b, 0, none⟩), pv, .int .i64 d] w fun e w' => ∃ pv', e = .returned (.tuple #[pv', .bool (S.closed d).2]) ∧ w'.ownsRow 0 3 1 pv' (S.closed d).1.length (intsV (S.closed d).1) ∧ pv'.ownBlock = pv.ownBlock ∧ Below w.heap.size w w' := by
  have hml : M.length = S.nodes.length := by rw [← hS, List.length_map]
  rcases hp.2 with ⟨rfl, h0⟩ | ⟨g, cap, cur, rfl, _⟩
  · have hn : S.pile = [] := List.length_eq_zero_iff.1 h0
    have ec : S.closed d = ([], true) := by unfold RP.closed; rw [hn]; rfl
    refine (rclosed_nil w b d).mono ?_
    rintro e w' ⟨rfl, hb⟩
    rw [ec]
    exact ⟨_, rfl, World.ownsRow_nil _ _ _ _, rfl, hb⟩
  · refine (rclosed_any w lo b ρ M s vn vx vt line h (by have := ok.nodes; omega) S hS (fun i => by have := ok.kids i; omega) (fun i => by have := ok.inn i; omega) S.pile (by have := ok.pile; omega) (fun x hx => by rw [hml]; exact ok.pin x hx) d hd g cap hp).mono ?_
    rintro e w' ⟨j, hj, hcl, rfl, hb⟩
    have e1 : (S.closed d).1 = S.pile.take j := by unfold RP.closed; rw [hcl]; simp
    have e2 : (S.closed d).2 = (S.closedL d S.pile.reverse).2 := rfl
    refine ⟨.slice (some ⟨g, 0, none⟩) j cap, by rw [e2], ?_, rfl, hb⟩
    have := row_take (row_below hb hp) j hj
    rw [e1]
    have hl : (S.pile.take j).length = j := by rw [List.length_take]; omega
    rw [hl]
    simpa [intsV, List.map_take] using this

def LFail (lo b : Nat) (no code : Int) (w : World) (e : Ending) (w' : World) : Prop := (∃ v, e = .returned v) ∧ Bel lo b w w' ∧ w'.cell? ⟨b, 5, none⟩ = some (.int .i64 code) ∧ w'.cell? ⟨b, 6, none⟩ = some (.int .i64 no)
theorem start_lim {body : Bs} {xs : List RX} (hb : body.length ≤ 1000) (hx : xs.length ≤ 490000) : Lim (startX body xs) 1000 := by
  have t := toks_fine body.length body (Nat.le_refl _)
  exact ⟨by show 0 + 1000 ≤ _; omega, by show xs.length + 1000 ≤ _; omega, by show (toksF body).length ≤ 1000; have := t.few; omega, t.short, t.dig⟩
theorem cut_rest (l : Bs) (j : Nat) : (⟨l.toArray⟩ : ByteArray).extract j l.length = ⟨(l.drop j).toArray⟩ := by
  rw [rs_cut l _ rfl, List.take_length]

theorem Mid.below {w0 w w' : World} {lo b : Nat} {ρ : Nat → Ro} {M : List (RNd × Value)} {S : RP} {body : Bs} {vn vx vt pv : Value} {no : Int} {cl : List Nat} (h : Mid w0 w lo b ρ M S body vn vx vt pv no cl) (hb : Below w.heap.size w w') : Mid w0 w' lo b ρ M S body vn vx vt pv no cl :=
  ⟨h.tx.below hb, row_below hb h.pile, h.rp, bel_trans h.bel (bel_of hb h.lo'), Nat.le_trans h.lo' hb.size⟩
theorem Mid.fail {w0 w w' : World} {lo b : Nat} {ρ : Nat → Ro} {M : List (RNd × Value)} {S : RP} {body : Bs} {vn vx vt pv : Value} {no : Int} {cl : List Nat} (h : Mid w0 w lo b ρ M S body vn vx vt pv no cl) {e : Ending} {v : Value} (he : e = .returned v) (r : RdAt w' b ((startX body S.xs).wrong 2) vn vx vt no) (f : FrX b none w w') : LFail lo b no 2 w0 e w' :=
  ⟨⟨v, he⟩, bel_trans h.bel (f.bel h.lo'), r.c5, r.c6⟩
theorem pile_top {w : World} {g m n cap : Nat} {cl : List Nat} (h : w.ownsRow 0 3 1 (.slice (some ⟨g, 0, none⟩) m cap) n (intsV cl)) {j : Nat} {t : Nat} (hj : cl[j]? = some t) : w.cell? ⟨g, j, none⟩ = some (.int .i64 t) := by
  rcases h.2 with ⟨x, _⟩ | ⟨g', cap', cur, x, _, hg, _, _, _, h4⟩
  · simp at x
  · simp only [Value.slice.injEq, Option.some.injEq, Addr.mk.injEq, and_true] at x
    obtain ⟨rfl, rfl, rfl⟩ := x
    refine ownsRow_cell hg h4 ?_
    simp [intsV, hj]
end Go.Proofs.YtnhidaamfnjdjaaGreatDoor
