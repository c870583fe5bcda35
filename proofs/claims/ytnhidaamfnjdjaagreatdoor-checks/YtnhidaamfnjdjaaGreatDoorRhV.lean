import Derived.Test.YtnhidaamfnjdjaaGreatDoorRhL
import Derived.Test.YtnhidaamfnjdjaaGreatDoorRfsA
/- WHAT NAMES MEAN, by the reference, walked. -/
namespace Go.Proofs.YtnhidaamfnjdjaaGreatDoor
open Go.RowKit Go.Maps

instance : Inhabited RDc := ⟨⟨[], false, 0⟩⟩
def declV (d : RDc) : List Value := [.string ⟨d.name.toArray⟩, .bool d.chan, .int .i64 d.by_]
def declsV (l : List RDc) : List Value := (l.map declV).flatten
theorem declsV_at (l : List RDc) : ∀ (i : Nat) (d : RDc), l[i]? = some d → ∀ j, j < 3 → (declsV l)[i * 3 + j]? = (declV d)[j]? := by
  induction l with
  | nil => intro i d h; simp at h
  | cons p l ih =>
    intro i d h j hj
    have e : declsV (p :: l) = declV p ++ declsV l := rfl
    have hl : (declV p).length = 3 := rfl
    rw [e]
    cases i with
    | zero =>
      simp at h
      subst h
      rw [List.getElem?_append_left (by rw [hl]; omega)]
      congr 1
      omega
    | succ i =>
      rw [List.getElem?_append_right (by rw [hl]; omega), hl]
      rw [← ih i d (by simpa using h) j hj]
      congr 1
      omega
theorem decl_at {w : World} {v : Value} {l : List RDc} (h : w.ownsRow 0 185 3 v l.length (declsV l)) {i : Nat} {d : RDc} (hi : l[i]? = some d) :
    ∃ g cap, v = .slice (some ⟨g, 0, none⟩) l.length cap ∧ l.length ≤ cap ∧ cap ≤ maxLen ∧ ∀ (j : Nat) (u : Value), (declV d)[j]? = some u → w.cell? ⟨g, i * 3 + j, none⟩ = some u := by
  have hlt : i < l.length := (List.getElem?_eq_some_iff.1 hi).1
  rcases h.2 with ⟨_, h0⟩ | ⟨g, cap, cur, rfl, _, hg, h1, h2, h3, h4⟩
  · omega
  · refine ⟨g, cap, rfl, h1, h2, fun j u hu => ?_⟩
    have hj : j < 3 := (List.getElem?_eq_some_iff.1 hu).1
    refine ownsRow_cell (n := l.length * 3) hg h4 ?_
    rw [declsV_at l i d hi j hj]
    exact hu
/-- the place of the last one of a name, of the first n -/
def nearI (l : List RDc) (t : Bs) : Nat → Int
  | 0 => -1
  | n + 1 => if (l.getD n default).name = t then (n : Int) else nearI l t n
theorem nearI_succ (l : List RDc) (t : Bs) (n : Nat) : nearI l t (n + 1) = if (l.getD n default).name = t then (n : Int) else nearI l t n := rfl
theorem rnear_snoc : ∀ (l : List RDc) (d : RDc) (t : Bs), rnear (l ++ [d]) t = if d.name = t then some d else rnear l t
  | [], d, t => by
    show (match rnear [] t with | some x => some x | none => if d.name = t then some d else none) = _
    rfl
  | a :: l, d, t => by
    have e : rnear (a :: l ++ [d]) t = match rnear (l ++ [d]) t with | some x => some x | none => if a.name = t then some a else none := rfl
    have e2 : rnear (a :: l) t = match rnear l t with | some x => some x | none => if a.name = t then some a else none := rfl
    rw [e, e2, rnear_snoc l d t]
    by_cases h : d.name = t
    · rw [if_pos h, if_pos h]
    · rw [if_neg h, if_neg h]
theorem near_I (l : List RDc) (t : Bs) : ∀ n, n ≤ l.length → (nearI l t n = -1 ∧ rnear (l.take n) t = none) ∨ ∃ j : Nat, j < n ∧ nearI l t n = (j : Int) ∧ rnear (l.take n) t = some (l.getD j default)
  | 0, _ => .inl ⟨rfl, rfl⟩
  | n + 1, h => by
    have hn : n < l.length := h
    have e : l.take (n + 1) = l.take n ++ [l.getD n default] := by
      rw [List.take_add_one, getD_lt _ _ _ hn, List.getElem?_eq_getElem hn]; rfl
    rw [e, rnear_snoc]
    unfold nearI
    by_cases hx : (l.getD n default).name = t
    · rw [if_pos hx, if_pos hx]
      exact .inr ⟨n, by omega, rfl, rfl⟩
    · rw [if_neg hx, if_neg hx]
      rcases near_I l t n (by omega) with y | ⟨j, y1, y2⟩
      · exact .inl y
      · exact .inr ⟨j, by omega, y2⟩

set_option maxRecDepth 20000 in
set_option maxHeartbeats 4000000 in
theorem rnearest_any (l : List RDc) (v : Value) (t : Bs) (w : World) (h : w.ownsRow 0 185 3 v l.length (declsV l)) (hl : l.length ≤ 2000) :
    Calls Tryz.prog 131 #[v, .string ⟨t.toArray⟩] w fun e w' => e = .returned (.int .i64 (nearI l t l.length)) ∧ ∃ n, w' = w.drewN n := by
  obtain ⟨va, vc, hv⟩ := ownsRow_len h
  have H := hide h
  clear h
  subst hv
  go_enter Tryz.func131, Tryz.ntmps131
  go_wp2_with fail
  go_loop [5] (fun i => ∃ j : Nat, j ≤ l.length ∧ i = .int .i64 ((j : Int) - 1) ∧ nearI l t j = nearI l t l.length) (fun i => (intOf i + 1).toNat)
  case atStart => exact ⟨l.length, Nat.le_refl _, by go_num, rfl⟩
  case round =>
    obtain ⟨j, hj, rfl, hn⟩ := hrel
    cases j with
    | zero =>
      have hn : (-1 : Int) = nearI l t l.length := hn
      have Hn := hide hn
      clear hn
      go_wp2_with fail
      go_ret
      exact ⟨by rw [← Hn.out]; rfl, 0, rfl⟩
    | succ j =>
      have hjl : j < l.length := hj
      obtain ⟨g, cap, e1, h1, h2, hc⟩ := decl_at H.out (List.getElem?_eq_getElem hjl)
      have d0 := hc 0 _ rfl
      rw [Nat.add_zero] at d0
      have hjz : (((j + 1 : Nat) : Int) - 1) = (j : Int) := by omega
      rw [hjz]
      have hd : l.getD j default = l[j] := getD_lt _ _ _ hjl
      rw [nearI_succ, hd] at hn
      have Hn := hide hn
      clear hn hc hd
      simp only [Value.slice.injEq, true_and] at e1
      obtain ⟨rfl, rfl⟩ := e1
      generalize l[j] = d at *
      by_cases hx : d.name = t
      · have ex : (d.name == t) = true := by simpa using hx
        have hr := Hn.out
        rw [if_pos hx] at hr
        have Hr := hide hr
        clear hx hr
        go_wp2_with fail
        go_ret
        exact ⟨by rw [← Hr.out]; rfl, 0, rfl⟩
      · have ex : (d.name == t) = false := by simpa using hx
        have hr := Hn.out
        rw [if_neg hx] at hr
        have Hr := hide hr
        clear hx hr
        go_wp2_with fail
        go_round
        case rel => exact ⟨j, by omega, by go_num, Hr.out⟩
        case measure => simp [intOf]

set_option maxRecDepth 20000 in
set_option maxHeartbeats 4000000 in
theorem rmeans_any (l : List RDc) (v : Value) (t : Bs) (ch : Bool) (w : World) (h : w.ownsRow 0 185 3 v l.length (declsV l)) (hl : l.length ≤ 2000) :
    Calls Tryz.prog 70 #[v, .string ⟨t.toArray⟩, .bool ch] w fun e w' => e = .returned (.int .i64 (rmeans l t ch)) ∧ ∃ n, w' = w.drewN n := by
  obtain ⟨va, vc, hv⟩ := ownsRow_len h
  have C := hide (rnearest_any l v t w h hl)
  have H := hide h
  clear h
  subst hv
  generalize hz : rmeans l t ch = z
  unfold rmeans at hz
  by_cases h1 : ch = true ∧ t = wIn
  · rw [if_pos h1] at hz
    subst hz
    obtain ⟨rfl, h1⟩ := h1
    have e1 : (t == [105, 110]) = true := by rw [beq_iff_eq]; exact h1
    clear h1
    go_enter Tryz.func70, Tryz.ntmps70
    go_wp2_with fail
    go_ret
    exact ⟨rfl, 0, rfl⟩
  · rw [if_neg h1] at hz
    by_cases h2 : ch = true ∧ t = wOut
    · rw [if_pos h2] at hz
      subst hz
      obtain ⟨rfl, h2⟩ := h2
      have e1 : (t == [105, 110]) = false := by rw [beq_eq_false_iff_ne]; intro x; exact h1 ⟨rfl, x⟩
      have e2 : (t == [111, 117, 116]) = true := by rw [beq_iff_eq]; exact h2
      clear h1 h2
      go_enter Tryz.func70, Tryz.ntmps70
      go_wp2_with fail
      go_ret
      exact ⟨rfl, 0, rfl⟩
    · rw [if_neg h2] at hz
      have hcase : ch = false ∨ ch = true ∧ (t == [105, 110]) = false ∧ (t == [111, 117, 116]) = false := by
        cases ch with
        | false => exact .inl rfl
        | true => exact .inr ⟨rfl, by rw [beq_eq_false_iff_ne]; intro x; exact h1 ⟨rfl, x⟩, by rw [beq_eq_false_iff_ne]; intro x; exact h2 ⟨rfl, x⟩⟩
      clear h1 h2
      have hnear := near_I l t l.length (Nat.le_refl _)
      rw [List.take_length] at hnear
      rcases hnear with ⟨n1, n2⟩ | ⟨j, hj, n1, n2⟩
      · rw [n2] at hz
        have hz : -1 = z := hz
        subst hz
        rw [n1] at C
        clear n1 n2
        rcases hcase with rfl | ⟨rfl, k1, k2⟩
        all_goals
          go_enter Tryz.func70, Tryz.ntmps70
          go_wp2_with (go_at_call 131; refine C.out.mono ?_; rintro e wx ⟨rfl, nd, rfl⟩)
          go_ret
          exact ⟨rfl, nd, rfl⟩
      · rw [n2] at hz
        rw [n1] at C
        obtain ⟨g, cap, e1, h3, h4, hc⟩ := decl_at H.out (List.getElem?_eq_getElem hj)
        have d1 := hc 1 _ rfl; have d2 := hc 2 _ rfl
        rw [getD_lt _ _ _ hj] at hz
        clear n1 n2 hc
        simp only [Value.slice.injEq, true_and] at e1
        obtain ⟨rfl, rfl⟩ := e1
        generalize l[j] = d at *
        dsimp only at hz
        by_cases hx : d.chan = ch
        · rw [if_pos hx] at hz
          subst hz
          have ex : (d.chan != ch) = false := by rw [bne_eq_false_iff_eq]; exact hx
          rcases hcase with rfl | ⟨rfl, k1, k2⟩
          all_goals
            rw [hx] at d1
            clear hx ex
            go_enter Tryz.func70, Tryz.ntmps70
            go_wp2_with (go_at_call 131; refine C.out.mono ?_; rintro e wx ⟨rfl, nd, rfl⟩)
            go_ret
            exact ⟨rfl, nd, rfl⟩
        · rw [if_neg hx] at hz
          subst hz
          rcases hcase with rfl | ⟨rfl, k1, k2⟩
          · have hx : d.chan = true := by simpa using hx
            rw [hx] at d1
            clear hx
            go_enter Tryz.func70, Tryz.ntmps70
            go_wp2_with (go_at_call 131; refine C.out.mono ?_; rintro e wx ⟨rfl, nd, rfl⟩)
            go_ret
            exact ⟨rfl, nd, rfl⟩
          · have hx : d.chan = false := by simpa using hx
            rw [hx] at d1
            clear hx
            go_enter Tryz.func70, Tryz.ntmps70
            go_wp2_with (go_at_call 131; refine C.out.mono ?_; rintro e wx ⟨rfl, nd, rfl⟩)
            go_ret
            exact ⟨rfl, nd, rfl⟩
end Go.Proofs.YtnhidaamfnjdjaaGreatDoor
namespace Go.Proofs.YtnhidaamfnjdjaaGreatDoor
open Go.RowKit Go.Maps

theorem exprsV_at (l : List RX) : ∀ (i : Nat) (x : RX), l[i]? = some x → ∀ j, j < 5 → (exprsV l)[i * 5 + j]? = (exprV x)[j]? := by
  induction l with
  | nil => intro i d h; simp at h
  | cons p l ih =>
    intro i d h j hj
    have e : exprsV (p :: l) = exprV p ++ exprsV l := rfl
    have hl : (exprV p).length = 5 := rfl
    rw [e]
    cases i with
    | zero =>
      simp at h
      subst h
      rw [List.getElem?_append_left (by rw [hl]; omega)]
      congr 1
      omega
    | succ i =>
      rw [List.getElem?_append_right (by rw [hl]; omega), hl]
      rw [← ih i d (by simpa using h) j hj]
      congr 1
      omega
theorem expr_at {w : World} {v : Value} {l : List RX} (h : w.ownsRow 0 182 5 v l.length (exprsV l)) {i : Nat} {x : RX} (hi : l[i]? = some x) :
    ∃ g cap, v = .slice (some ⟨g, 0, none⟩) l.length cap ∧ l.length ≤ cap ∧ cap ≤ maxLen ∧ ∀ (j : Nat) (u : Value), (exprV x)[j]? = some u → w.cell? ⟨g, i * 5 + j, none⟩ = some u := by
  have hlt : i < l.length := (List.getElem?_eq_some_iff.1 hi).1
  rcases h.2 with ⟨_, h0⟩ | ⟨g, cap, cur, rfl, _, hg, h1, h2, h3, h4⟩
  · omega
  · refine ⟨g, cap, rfl, h1, h2, fun j u hu => ?_⟩
    have hj : j < 5 := (List.getElem?_eq_some_iff.1 hu).1
    refine ownsRow_cell (n := l.length * 5) hg h4 ?_
    rw [exprsV_at l i x hi j hj]
    exact hu
/-- what the reference looks at: the text, and what is declared -/
structure See (w : World) (lo b : Nat) (ρ : Nat → Ro) (M : List (RNd × Value)) (s : XR) (vn vx vt : Value) (line : Int) (l : List RDc) (lv : Value) : Prop where
  tx : TxAt w lo b ρ M s vn vx vt line
  dl : w.ownsRow 0 185 3 lv l.length (declsV l)
  few : l.length ≤ 2000
theorem See.below {w w' : World} {lo b : Nat} {ρ : Nat → Ro} {M : List (RNd × Value)} {s : XR} {vn vx vt : Value} {line : Int} {l : List RDc} {lv : Value} (h : See w lo b ρ M s vn vx vt line l lv) (hb : Below w.heap.size w w') : See w' lo b ρ M s vn vx vt line l lv := ⟨h.tx.below hb, row_below hb h.dl, h.few⟩

set_option maxRecDepth 20000 in
set_option maxHeartbeats 4000000 in
theorem exprMeans_any {lo b : Nat} {ρ : Nat → Ro} {M : List (RNd × Value)} {s : XR} {vn vx vt : Value} {line : Int} {l : List RDc} {la : Option Addr} {lc : Nat} (_hx : s.xs.length ≤ 500000) {k : Nat} {pe : PE} (rep : RepX s.xs k pe) :
    ∀ (w : World), See w lo b ρ M s vn vx vt line l (.slice la l.length lc) → Calls Tryz.prog 69 #[.pointer (some ⟨b, 0, none⟩), .slice la l.length lc, .int .i64 k] w fun e w' => e = .returned (.bool (peOk l pe)) ∧ Below w.heap.size w w' := by
  induction rep with
  | num p x v h ho hn =>
    intro w see
    have hlt : p < s.xs.length := (List.getElem?_eq_some_iff.1 h).1
    have c1 := see.tx.rd.c1
    obtain ⟨g, cap, hv, h1, h2, hc⟩ := expr_at see.tx.rd.xs h
    have d0 := hc 0 _ rfl; rw [Nat.add_zero] at d0; have d1 := hc 1 _ rfl; have d2 := hc 2 _ rfl; have d3 := hc 3 _ rfl; have d4 := hc 4 _ rfl
    rw [ho] at d0; rw [hn] at d1; rw [hv] at c1
    clear hc hv h ho hn
    generalize s.xs.length = n at *
    go_enter Tryz.func69, Tryz.ntmps69
    go_wp2_with fail
    go_ret
    exact ⟨rfl, below_alloc _ _⟩
  | var p x h ho hn =>
    intro w see
    have hlt : p < s.xs.length := (List.getElem?_eq_some_iff.1 h).1
    have c1 := see.tx.rd.c1
    obtain ⟨g, cap, hv, h1, h2, hc⟩ := expr_at see.tx.rd.xs h
    have d0 := hc 0 _ rfl; rw [Nat.add_zero] at d0; have d1 := hc 1 _ rfl; have d2 := hc 2 _ rfl; have d3 := hc 3 _ rfl; have d4 := hc 4 _ rfl
    rw [ho] at d0; rw [hv] at c1
    have en : (x.name == []) = false := by rw [beq_eq_false_iff_ne]; exact hn
    have C := hide (fun w h => rmeans_any l (.slice la l.length lc) x.name false w h see.few)
    have Sd := hide see
    have er : peOk l (.var x.name 0) = decide (rmeans l x.name false ≠ -1) := rfl
    rw [er]
    clear hc hv h ho hn see er
    generalize rmeans l x.name false = z at *
    generalize s.xs.length = n at *
    by_cases hz : z = -1
    · subst hz
      rw [decide_eq_false (by simp)]
      go_enter Tryz.func69, Tryz.ntmps69
      go_wp2_with (go_at_call 70; refine (C.out _ (Sd.out.below (below_alloc _ _)).dl).mono ?_; rintro e wx ⟨rfl, nd, rfl⟩)
      go_ret
      exact ⟨rfl, below_drewN (below_alloc _ _) nd⟩
    · rw [decide_eq_true hz]
      have ez : (z != -1) = true := by rw [bne_iff_ne]; exact hz
      clear hz
      go_enter Tryz.func69, Tryz.ntmps69
      go_wp2_with (go_at_call 70; refine (C.out _ (Sd.out.below (below_alloc _ _)).dl).mono ?_; rintro e wx ⟨rfl, nd, rfl⟩)
      go_ret
      exact ⟨rfl, below_drewN (below_alloc _ _) nd⟩
  | pair p x a c h ho ha hb ra rb iha ihb =>
    intro w see
    have hlt : p < s.xs.length := (List.getElem?_eq_some_iff.1 h).1
    have c1 := see.tx.rd.c1
    obtain ⟨g, cap, hv, h1, h2, hc⟩ := expr_at see.tx.rd.xs h
    have d0 := hc 0 _ rfl; rw [Nat.add_zero] at d0; have d1 := hc 1 _ rfl; have d2 := hc 2 _ rfl; have d3 := hc 3 _ rfl; have d4 := hc 4 _ rfl
    rw [hv] at c1
    have eo : ((x.op.toNat : Int) != 0) = true := by
      rw [bne_iff_ne]
      intro e
      exact ho (UInt8.toNat_inj.1 (by simpa using e))
    have hob := x.op.toNat_lt
    have A := hide iha; have B := hide ihb; have Sd := hide see
    have er : peOk l (.pair x.op a c) = (peOk l a && peOk l c) := rfl
    rw [er]
    clear hc hv h ho see er iha ihb ra rb
    generalize s.xs.length = n at *
    generalize peOk l a = za at *
    generalize peOk l c = zc at *
    cases za <;> cases zc
    all_goals
      go_enter Tryz.func69, Tryz.ntmps69
      go_wp2_with (first | (go_at_call 69; refine (A.out _ (Sd.out.below (below_alloc _ _))).mono ?_; rintro e w1 ⟨rfl, b1⟩; have m3 := (Below.at b1 (at_new w _) (by simp)); have B1 := hide (below_trans (below_alloc w _) b1 (by simp)); have k3 := cell_at m3 3; have k4 := cell_at m3 4; clear m3 b1 A) | (go_at_call 69; refine (B.out _ (Sd.out.below B1.out)).mono ?_; rintro e w2 ⟨rfl, b2⟩; have B2 := hide (below_trans B1.out b2 B1.out.size); clear b2))
      go_ret
      exact ⟨rfl, B2.out⟩
end Go.Proofs.YtnhidaamfnjdjaaGreatDoor
namespace Go.Proofs.YtnhidaamfnjdjaaGreatDoor
open Go.RowKit Go.Maps

theorem declInfoR : (Tryz.prog.info? 185).map (fun i => (i.zero, i.size, i.bytes)) = some (some (.agg #[.string ⟨#[]⟩, .bool false, .int .i64 0]), 3, 32) := by kernel_rfl
theorem declV_one (d : RDc) : ∀ u ∈ declV d, u.oneCell' = true := by
  intro u hu; simp [declV] at hu; rcases hu with rfl | rfl | rfl <;> rfl
theorem declsV_one (l : List RDc) : ∀ u ∈ declsV l, u.oneCell' = true := by
  intro u hu
  obtain ⟨x, hx, hux⟩ := List.mem_flatten.1 hu
  obtain ⟨d, _, rfl⟩ := List.mem_map.1 hx
  exact declV_one d u hux
theorem declsV_len (l : List RDc) : (declsV l).length = l.length * 3 := by
  induction l with
  | nil => rfl
  | cons p l ih =>
    have e : declsV (p :: l) = declV p ++ declsV l := rfl
    have hl : (declV p).length = 3 := rfl
    rw [e, List.length_append, hl, ih, List.length_cons]
    omega
/-- a row's cells, as what is to be appended -/
theorem row_news {w : World} {e : TypeId} {size g n cap : Nat} {xs : List Value} (h : w.ownsRow 0 e size (.slice (some ⟨g, 0, none⟩) n cap) n xs) : ∀ (j : Nat) (u : Value), xs[j]? = some u → w.cell? ((⟨g, 0, none⟩ : Addr).add j) = some u := by
  intro j u hu
  rcases h.2 with ⟨x, _⟩ | ⟨g', cap', cur, x, _, hg, _, _, _, h4⟩
  · simp at x
  · simp only [Value.slice.injEq, Option.some.injEq, Addr.mk.injEq, and_true, true_and] at x
    obtain ⟨rfl, rfl⟩ := x
    rw [add_at]
    exact ownsRow_cell hg h4 hu

theorem bgrow {w w1 w2 : World} {r : Option Nat} (b : Below w.heap.size w w1) (g : w1.grownBy w2 r) (hr : ∀ g, r = some g → w.heap.size ≤ g) : Below w.heap.size w w2 :=
  ⟨g.os.trans b.os, g.tape.trans b.tape, g.output.trans b.output, Nat.le_trans b.size g.size, fun k hk => by
    rw [g.block k (Nat.lt_of_lt_of_le hk b.size) (fun e => by have := hr k e.symm; omega), b.block k hk]⟩

set_option maxRecDepth 20000 in
set_option maxHeartbeats 4000000 in
theorem declared_any {lo b : Nat} {ρ : Nat → Ro} {M : List (RNd × Value)} {s : XR} {vn vx vt : Value} {line : Int} {l : List RDc} {g lc : Nat} (w : World) (see : See w lo b ρ M s vn vx vt line l (.slice (some ⟨g, 0, none⟩) l.length lc)) {k : Nat} {n : RNd} {kv : Value} (hk : M[k]? = some (n, kv)) (_hm : M.length ≤ 2000) :
    Calls Tryz.prog 71 #[.pointer (some ⟨b, 0, none⟩), .slice (some ⟨g, 0, none⟩) l.length lc, .int .i64 k] w fun e w' => ∃ v, e = .returned v ∧ w'.ownsRow 0 185 3 v (l.length + 1) (declsV (l ++ [⟨n.name, decide (n.kind = wChan), k⟩])) ∧ Below w.heap.size w w' := by
  have c0 := see.tx.rd.c0
  obtain ⟨gn, capn, hvn, h1, h2, hc⟩ := node_at see.tx.nodes hk
  obtain ⟨ka, kc, hkv⟩ := ownsRow_len (see.tx.kids k n kv hk)
  have hlt : k < M.length := (List.getElem?_eq_some_iff.1 hk).1
  have d0 := hc 0 _ rfl; rw [Nat.add_zero] at d0; have d1 := hc 1 _ rfl; have d2 := hc 2 _ rfl; have d3 := hc 3 _ rfl; have d4 := hc 4 _ rfl; have d5 := hc 5 _ rfl; have d6 := hc 6 _ rfl
  rw [hvn] at c0
  have hfew := see.few
  subst hkv
  have Sd := hide see; have Rn := hide (row_news see.dl)
  clear see hc hk hvn
  generalize M.length = m at *
  have hkb : (n.kind == [99, 104, 97, 110]) = decide (n.kind = wChan) := by rw [Bool.eq_iff_iff, beq_iff_eq, decide_eq_true_iff]; exact Iff.rfl
  generalize decide (n.kind = wChan) = ch at *
  have hl1 : 0 + l.length ≤ 1000000 := by omega
  have hl2 : 0 + l.length + 1 ≤ 1000000 := by omega
  go_enter Tryz.func71, Tryz.ntmps71
  go_wp2_with (first | (at_builtin; refine wpList_appendM (by decide) Tryz.underlying143 declInfoR rfl (by decide) rfl _ _ rfl (.slice none 0 0) 0 [] rfl (World.ownsRow_nil _ _ _ _) ⟨g, 0, none⟩ l.length lc (declsV l) rfl (by rw [declsV_len]) (by exact row_news (Sd.out.below (below_alloc _ _)).dl) (declsV_one l) hl1 ?_; intro v1 w1 o1 g1 b1; have q1 := (g1.block w.heap.size (by simp) (by simp [Value.ownBlock])).trans (at_new w _); have k0 := cell_at q1 0; have k3 := cell_at q1 3; clear q1; have O1 := hide o1; have G1 := hide g1; have B1 := hide b1; clear o1 g1 b1 hl1) | (at_builtin; refine wpList_appendM (by decide) Tryz.underlying143 declInfoR rfl (by decide) rfl _ _ rfl v1 (0 + l.length) ([] ++ declsV l) rfl (O1.out.alloc _) ⟨w1.heap.size, 0, none⟩ 1 1 (declV ⟨n.name, ch, k⟩) rfl rfl (by exact new_row _ _ rfl _ _) (declV_one _) hl2 ?_; intro v2 w2 o2 g2 b2; have O2 := hide o2; have G2 := hide g2; have B2 := hide b2; clear o2 g2 b2))
  go_ret
  refine ⟨_, rfl, ?_, ?_⟩
  · have := O2.out
    have e : declsV (l ++ [⟨n.name, ch, k⟩]) = [] ++ declsV l ++ declV ⟨n.name, ch, k⟩ := by simp [declsV]
    rw [e]
    simpa using this
  · have hz : (w.alloc (.cells #[.string ⟨n.kind.toArray⟩, .int .i64 n.line, .int .i64 n.inn, .string ⟨n.name.toArray⟩, .string ⟨n.over.toArray⟩, .int .i64 (exI n.ex), .slice ka n.kids.length kc] 145)).heap.size = w.heap.size + 1 := by simp
    have s1 := G1.out.size
    have h1 := bgrow (below_alloc w _) G1.out (by intro g hg; simp [Value.ownBlock] at hg)
    refine bgrow (below_trans h1 (below_alloc w1 _) h1.size) G2.out ?_
    intro g hg
    rcases B1.out with x | ⟨g', x, hg'⟩
    · rw [x] at hg; simp [Value.ownBlock] at hg
    · rw [x] at hg
      injection hg with hg
      omega

set_option maxRecDepth 20000 in
set_option maxHeartbeats 4000000 in
theorem declared_nil {lo b : Nat} {ρ : Nat → Ro} {M : List (RNd × Value)} {s : XR} {vn vx vt : Value} {line : Int} (w : World) (see : See w lo b ρ M s vn vx vt line [] (.slice none 0 0)) {k : Nat} {n : RNd} {kv : Value} (hk : M[k]? = some (n, kv)) (_hm : M.length ≤ 2000) :
    Calls Tryz.prog 71 #[.pointer (some ⟨b, 0, none⟩), .slice none 0 0, .int .i64 k] w fun e w' => ∃ v, e = .returned v ∧ w'.ownsRow 0 185 3 v (0 + 1) (declsV [⟨n.name, decide (n.kind = wChan), k⟩]) ∧ Below w.heap.size w w' := by
  have c0 := see.tx.rd.c0
  obtain ⟨gn, capn, hvn, h1, h2, hc⟩ := node_at see.tx.nodes hk
  obtain ⟨ka, kc, hkv⟩ := ownsRow_len (see.tx.kids k n kv hk)
  have hlt : k < M.length := (List.getElem?_eq_some_iff.1 hk).1
  have d0 := hc 0 _ rfl; rw [Nat.add_zero] at d0; have d1 := hc 1 _ rfl; have d2 := hc 2 _ rfl; have d3 := hc 3 _ rfl; have d4 := hc 4 _ rfl; have d5 := hc 5 _ rfl; have d6 := hc 6 _ rfl
  rw [hvn] at c0
  subst hkv
  clear see hc hk hvn
  generalize M.length = m at *
  have hkb : (n.kind == [99, 104, 97, 110]) = decide (n.kind = wChan) := by rw [Bool.eq_iff_iff, beq_iff_eq, decide_eq_true_iff]; exact Iff.rfl
  generalize decide (n.kind = wChan) = ch at *
  have hl1 : 0 + 1 ≤ 1000000 := by omega
  go_enter Tryz.func71, Tryz.ntmps71
  go_wp2_with (first | (at_builtin; refine wpList_append0 Tryz.underlying143 declInfoR rfl _ _ rfl (.slice none 0 0) 0 [] rfl (World.ownsRow_nil _ _ _ _) rfl ?_) | (at_builtin; refine wpList_appendM (by decide) Tryz.underlying143 declInfoR rfl (by decide) rfl _ _ rfl (.slice none 0 0) 0 [] rfl (World.ownsRow_nil _ _ _ _) ⟨w.heap.size + 1, 0, none⟩ 1 1 (declV ⟨n.name, ch, k⟩) rfl rfl (by exact new_row _ _ (by simp) _ _) (declV_one _) hl1 ?_; intro v2 w2 o2 g2 b2; have O2 := hide o2; have G2 := hide g2; have B2 := hide b2; clear o2 g2 b2))
  go_ret
  refine ⟨_, rfl, ?_, ?_⟩
  · have := O2.out
    simpa [declsV] using this
  · exact bgrow (below_trans (below_alloc w _) (below_alloc _ _) (by simp)) G2.out (by intro g hg; simp [Value.ownBlock] at hg)
theorem declared_both {lo b : Nat} {ρ : Nat → Ro} {M : List (RNd × Value)} {s : XR} {vn vx vt : Value} {line : Int} {l : List RDc} {lv : Value} (w : World) (see : See w lo b ρ M s vn vx vt line l lv) {k : Nat} {n : RNd} {kv : Value} (hk : M[k]? = some (n, kv)) (hm : M.length ≤ 2000) :
    Calls Tryz.prog 71 #[.pointer (some ⟨b, 0, none⟩), lv, .int .i64 k] w fun e w' => ∃ v, e = .returned v ∧ w'.ownsRow 0 185 3 v (l.length + 1) (declsV (l ++ [⟨n.name, decide (n.kind = wChan), k⟩])) ∧ Below w.heap.size w w' := by
  rcases see.dl.2 with ⟨rfl, h0⟩ | ⟨g, cap, cur, rfl, _⟩
  · have : l = [] := List.length_eq_zero_iff.1 h0
    subst this
    exact declared_nil w see hk hm
  · exact declared_any w see hk hm
end Go.Proofs.YtnhidaamfnjdjaaGreatDoor
