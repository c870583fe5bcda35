import Derived.Test.YtnhidaamfnjdjaaGreatDoorRhE
/- THE REFERENCE's TEXT in memory, whole: its nodes too. -/
namespace Go.Proofs.YtnhidaamfnjdjaaGreatDoor
open Go.RowKit Go.Maps

inductive Ro where
  | txt | nds | exs | tks | pil | other
  | kid (i : Nat)
def nodeL (n : RNd) (kv : Value) : List Value := [.string ⟨n.kind.toArray⟩, .int .i64 n.line, .int .i64 n.inn, .string ⟨n.name.toArray⟩, .string ⟨n.over.toArray⟩, .int .i64 (exI n.ex), kv]
def nodesV (M : List (RNd × Value)) : List Value := (M.map fun p => nodeL p.1 p.2).flatten
def intsV (l : List Nat) : List Value := l.map fun (k : Nat) => Value.int .i64 (k : Int)

structure TxAt (w : World) (lo b : Nat) (ρ : Nat → Ro) (M : List (RNd × Value)) (s : XR) (vn vx vt : Value) (line : Int) : Prop where
  rd : RdAt w b s vn vx vt line
  nodes : w.ownsRow 0 145 7 vn M.length (nodesV M)
  kids : ∀ (i : Nat) (n : RNd) (kv : Value), M[i]? = some (n, kv) → w.ownsRow 0 3 1 kv n.kids.length (intsV n.kids)
  rb : True ∧ ρ b = .txt
  rn : ∀ g, vn.ownBlock = some g → lo ≤ g ∧ ρ g = .nds
  rx : ∀ g, vx.ownBlock = some g → lo ≤ g ∧ ρ g = .exs
  rt : ∀ g, vt.ownBlock = some g → lo ≤ g ∧ ρ g = .tks
  rk : ∀ (i : Nat) (n : RNd) (kv : Value), M[i]? = some (n, kv) → ∀ g, kv.ownBlock = some g → lo ≤ g ∧ ρ g = .kid i

theorem nodeL_len (n : RNd) (kv : Value) : (nodeL n kv).length = 7 := rfl
theorem nodesV_at (M : List (RNd × Value)) : ∀ (i : Nat) (n : RNd) (kv : Value), M[i]? = some (n, kv) → ∀ j, j < 7 → (nodesV M)[i * 7 + j]? = (nodeL n kv)[j]? := by
  induction M with
  | nil => intro i n kv h; simp at h
  | cons p M ih =>
    intro i n kv h j hj
    have e : nodesV (p :: M) = nodeL p.1 p.2 ++ nodesV M := rfl
    rw [e]
    cases i with
    | zero =>
      simp at h
      subst h
      rw [List.getElem?_append_left (by rw [nodeL_len]; omega)]
      congr 1
      omega
    | succ i =>
      rw [List.getElem?_append_right (by rw [nodeL_len]; omega), nodeL_len]
      have := ih i n kv (by simpa using h) j hj
      rw [← this]
      congr 1
      omega
/-- a node's cells -/
theorem node_at {w : World} {vn : Value} {M : List (RNd × Value)} (h : w.ownsRow 0 145 7 vn M.length (nodesV M)) {i : Nat} {n : RNd} {kv : Value} (hi : M[i]? = some (n, kv)) :
    ∃ g cap, vn = .slice (some ⟨g, 0, none⟩) M.length cap ∧ M.length ≤ cap ∧ cap ≤ maxLen ∧ ∀ (j : Nat) (v : Value), (nodeL n kv)[j]? = some v → w.cell? ⟨g, i * 7 + j, none⟩ = some v := by
  have hlt : i < M.length := (List.getElem?_eq_some_iff.1 hi).1
  rcases h.2 with ⟨_, h0⟩ | ⟨g, cap, cur, rfl, _, hg, h1, h2, h3, h4⟩
  · omega
  · refine ⟨g, cap, rfl, h1, h2, fun j v hv => ?_⟩
    have hj : j < 7 := by
      have := (List.getElem?_eq_some_iff.1 hv).1
      rwa [nodeL_len] at this
    refine ownsRow_cell (n := M.length * 7) hg h4 ?_
    rw [nodesV_at M i n kv hi j hj]
    exact hv

theorem below_alloc (w : World) (o : Obj) : Below w.heap.size w (w.alloc o) := ⟨rfl, rfl, rfl, by simp, fun k hk => Below.heap_alloc _ _ _ hk⟩
def fullB (n : RNd) : Bool := decide (rmostF n.kind < 0) || decide ((n.kids.length : Int) = rmostF n.kind)

set_option maxRecDepth 20000 in
set_option maxHeartbeats 4000000 in
theorem rfull_any (w : World) (lo b : Nat) (ρ : Nat → Ro) (M : List (RNd × Value)) (s : XR) (vn vx vt : Value) (line : Int) (h : TxAt w lo b ρ M s vn vx vt line) (k : Nat) (n : RNd) (kv : Value) (hk : M[k]? = some (n, kv)) (_hm : M.length ≤ 2000) (_hkl : n.kids.length ≤ 2000) :
    Calls Tryz.prog 130 #[.pointer (some ⟨b, 0, none⟩), .int .i64 k] w fun e w' => e = .returned (.bool (fullB n)) ∧ Below w.heap.size w w' := by
  have c0 := h.rd.c0
  obtain ⟨g, cap, rfl, h1, h2, hc⟩ := node_at h.nodes hk
  obtain ⟨ka, kc, rfl⟩ := ownsRow_len (h.kids k n kv hk)
  have hlt : k < M.length := (List.getElem?_eq_some_iff.1 hk).1
  have d0 := hc 0 _ rfl; rw [Nat.add_zero] at d0; have d1 := hc 1 _ rfl; have d2 := hc 2 _ rfl; have d3 := hc 3 _ rfl; have d4 := hc 4 _ rfl; have d5 := hc 5 _ rfl; have d6 := hc 6 _ rfl
  have C := hide (fun w => rmost_any n.kind w)
  unfold fullB
  clear h hc hk
  generalize rmostF n.kind = r at *
  generalize M.length = m at *
  generalize n.kids.length = q at *
  by_cases hr : r < 0
  · have er : (decide (r < 0) || decide ((q : Int) = r)) = true := by simp [hr]
    rw [er]
    clear er
    go_enter Tryz.func130, Tryz.ntmps130
    go_wp2_with (go_at_call 185; refine (C.out _).mono ?_; rintro e wx ⟨rfl, hw⟩; have hw := hw.symm; subst hw)
    go_ret
    exact ⟨rfl, below_alloc _ _⟩
  · by_cases hq : (q : Int) = r
    · have er : (decide (r < 0) || decide ((q : Int) = r)) = true := by simp [hq]
      rw [er]
      have eq2 : ((q : Int) == r) = true := by simpa using hq
      clear er hq
      go_enter Tryz.func130, Tryz.ntmps130
      go_wp2_with (go_at_call 185; refine (C.out _).mono ?_; rintro e wx ⟨rfl, hw⟩; have hw := hw.symm; subst hw)
      go_ret
      exact ⟨rfl, below_alloc _ _⟩
    · have er : (decide (r < 0) || decide ((q : Int) = r)) = false := by simp [hr, hq]
      rw [er]
      have eq2 : ((q : Int) == r) = false := by simpa using hq
      clear er hq
      go_enter Tryz.func130, Tryz.ntmps130
      go_wp2_with (go_at_call 185; refine (C.out _).mono ?_; rintro e wx ⟨rfl, hw⟩; have hw := hw.symm; subst hw)
      go_ret
      exact ⟨by simp [hr], below_alloc _ _⟩

def fitsB (n : RNd) (word : Bs) : Bool :=
  if 0 ≤ rmostF n.kind ∧ rmostF n.kind ≤ (n.kids.length : Int) then false
  else if n.kind = wIf then decide (word = wWhen)
  else if n.kind = wAlt then decide (word = wOn)
  else decide (word ≠ wWhen ∧ word ≠ wOn)

set_option maxRecDepth 20000 in
set_option maxHeartbeats 8000000 in
theorem rfits_any (w : World) (lo b : Nat) (ρ : Nat → Ro) (M : List (RNd × Value)) (s : XR) (vn vx vt : Value) (line : Int) (h : TxAt w lo b ρ M s vn vx vt line) (k : Nat) (n : RNd) (kv : Value) (hk : M[k]? = some (n, kv)) (_hm : M.length ≤ 2000) (_hkl : n.kids.length ≤ 2000) (word : Bs) :
    Calls Tryz.prog 128 #[.pointer (some ⟨b, 0, none⟩), .int .i64 k, .string ⟨word.toArray⟩] w fun e w' => e = .returned (.bool (fitsB n word)) ∧ Below w.heap.size w w' := by
  have c0 := h.rd.c0
  obtain ⟨g, cap, rfl, h1, h2, hc⟩ := node_at h.nodes hk
  obtain ⟨ka, kc, rfl⟩ := ownsRow_len (h.kids k n kv hk)
  have hlt : k < M.length := (List.getElem?_eq_some_iff.1 hk).1
  have d0 := hc 0 _ rfl; rw [Nat.add_zero] at d0; have d1 := hc 1 _ rfl; have d2 := hc 2 _ rfl; have d3 := hc 3 _ rfl; have d4 := hc 4 _ rfl; have d5 := hc 5 _ rfl; have d6 := hc 6 _ rfl
  have C := hide (fun w => rmost_any n.kind w)
  unfold fitsB
  clear h hc hk
  generalize rmostF n.kind = r at *
  generalize M.length = m at *
  generalize n.kids.length = q at *
  generalize hK : n.kind = K at *
  clear hK
  by_cases hA : 0 ≤ r ∧ r ≤ (q : Int)
  · rw [if_pos hA]
    obtain ⟨a1, a2⟩ := hA
    go_enter Tryz.func128, Tryz.ntmps128
    go_wp2_with (go_at_call 185; refine (C.out _).mono ?_; rintro e wx ⟨rfl, hw⟩; have hw := hw.symm; subst hw)
    go_ret
    exact ⟨rfl, below_alloc _ _⟩
  · rw [if_neg hA]
    have hA2 : r < 0 ∨ (0 ≤ r ∧ (q : Int) < r) := by omega
    clear hA
    generalize hz : (if K = wIf then decide (word = wWhen) else if K = wAlt then decide (word = wOn) else decide (word ≠ wWhen ∧ word ≠ wOn)) = z
    have hcase : (K == [105, 102]) = true ∧ (word == [119, 104, 101, 110]) = z ∨ (K == [105, 102]) = false ∧ (K == [97, 108, 116]) = true ∧ (word == [111, 110]) = z ∨ (K == [105, 102]) = false ∧ (K == [97, 108, 116]) = false ∧ ((word == [119, 104, 101, 110]) = true ∧ z = false ∨ (word == [119, 104, 101, 110]) = false ∧ (word == [111, 110]) = true ∧ z = false ∨ (word == [119, 104, 101, 110]) = false ∧ (word == [111, 110]) = false ∧ z = true) := by
      subst hz
      by_cases x1 : K = wIf
      · left
        rw [if_pos x1]
        exact ⟨by simpa [wIf] using x1, by rw [Bool.eq_iff_iff, beq_iff_eq, decide_eq_true_iff]; exact Iff.rfl⟩
      · right
        have y1 : (K == [105, 102]) = false := by rw [beq_eq_false_iff_ne]; exact x1
        rw [if_neg x1]
        by_cases x2 : K = wAlt
        · left
          rw [if_pos x2]
          exact ⟨y1, by simpa [wAlt] using x2, by rw [Bool.eq_iff_iff, beq_iff_eq, decide_eq_true_iff]; exact Iff.rfl⟩
        · right
          have y2 : (K == [97, 108, 116]) = false := by rw [beq_eq_false_iff_ne]; exact x2
          rw [if_neg x2]
          refine ⟨y1, y2, ?_⟩
          by_cases x3 : word = wWhen
          · left; exact ⟨by simpa [wWhen] using x3, by simp [x3]⟩
          · right
            have y3 : (word == [119, 104, 101, 110]) = false := by rw [beq_eq_false_iff_ne]; exact x3
            by_cases x4 : word = wOn
            · left; exact ⟨y3, by simpa [wOn] using x4, by simp [x4]⟩
            · right; exact ⟨y3, by rw [beq_eq_false_iff_ne]; exact x4, by simp [x3, x4]⟩
    clear hz
    rcases hA2 with a1 | ⟨a0, a1⟩
    all_goals
      rcases hcase with ⟨k1, k2⟩ | ⟨k1, k2, k3⟩ | ⟨k1, k2, ⟨k3, rfl⟩ | ⟨k3, k4, rfl⟩ | ⟨k3, k4, rfl⟩⟩
      all_goals
        go_enter Tryz.func128, Tryz.ntmps128
        go_wp2_with (go_at_call 185; refine (C.out _).mono ?_; rintro e wx ⟨rfl, hw⟩; have hw := hw.symm; subst hw)
        go_ret
        exact ⟨rfl, below_alloc _ _⟩
end Go.Proofs.YtnhidaamfnjdjaaGreatDoor
namespace Go.Proofs.YtnhidaamfnjdjaaGreatDoor
open Go.RowKit Go.Maps

def sliceLen : Value → Nat
  | .slice _ n _ => n
  | _ => 0
theorem TxAt.below {w w' : World} {lo b : Nat} {ρ : Nat → Ro} {M : List (RNd × Value)} {s : XR} {vn vx vt : Value} {line : Int} (h : TxAt w lo b ρ M s vn vx vt line) (hb : Below w.heap.size w w') : TxAt w' lo b ρ M s vn vx vt line := by
  have fr : ∀ {base : Nat} {e : TypeId} {size : Nat} {v : Value} {n : Nat} {xs : List Value}, w.ownsRow base e size v n xs → w'.ownsRow base e size v n xs := fun ho => ownsRow_frame ho (fun g hg => hb.block g (ownsRow_lt ho hg))
  exact ⟨⟨Below.at hb h.rd.blk (lt_of_at h.rd.blk), fr h.rd.toks, fr h.rd.xs, h.rd.tb, h.rd.xb, h.rd.xt⟩, fr h.nodes, fun i n kv hi => fr (h.kids i n kv hi), h.rb, h.rn, h.rx, h.rt, h.rk⟩
theorem row_below {w w' : World} (hb : Below w.heap.size w w') {base : Nat} {e : TypeId} {size : Nat} {v : Value} {n : Nat} {xs : List Value} (ho : w.ownsRow base e size v n xs) : w'.ownsRow base e size v n xs := ownsRow_frame ho (fun g hg => hb.block g (ownsRow_lt ho hg))
/-- the front of a row -/
theorem row_take {w : World} {e : TypeId} {g n cap : Nat} {xs : List Value} (h : w.ownsRow 0 e 1 (.slice (some ⟨g, 0, none⟩) n cap) n xs) (j : Nat) (hj : j ≤ n) : w.ownsRow 0 e 1 (.slice (some ⟨g, 0, none⟩) j cap) j (xs.take j) := by
  have hl := h.1
  rcases h.2 with ⟨h', _⟩ | ⟨g', cap', cur, h', hb, hg, h1, h2, h3, h4⟩
  · simp at h'
  · simp only [Value.slice.injEq, Option.some.injEq, Addr.mk.injEq, and_true, true_and] at h'
    obtain ⟨rfl, rfl⟩ := h'
    refine ⟨by rw [List.length_take]; omega, .inr ⟨g, cap, cur, rfl, hb, hg, by omega, h2, h3, ?_⟩⟩
    rw [← h4, List.take_take]
    congr 1
    omega
theorem below_trans {n m : Nat} {x y z : World} (h : Below n x y) (k : Below m y z) (hm : n ≤ m) : Below n x z := ⟨k.os.trans h.os, k.tape.trans h.tape, k.output.trans h.output, Nat.le_trans h.size k.size, fun i hi => (k.block i (by omega)).trans (h.block i hi)⟩
theorem below_drewN {n : Nat} {x y : World} (h : Below n x y) (m : Nat) : Below n x (y.drewN m) := ⟨h.os, h.tape, h.output, h.size, h.block⟩
theorem getM {M : List (RNd × Value)} {S : RP} (hS : M.map Prod.fst = S.nodes) {k : Nat} (hk : k < M.length) : ∃ kv, M[k]? = some (S.at k, kv) := by
  refine ⟨(M[k]).2, ?_⟩
  rw [List.getElem?_eq_getElem hk]
  have : S.at k = (M[k]).1 := by
    unfold RP.at
    rw [← hS, getD_lt _ _ _ (by simpa using hk)]
    simp
  rw [this]
theorem closedL_cons (S : RP) (d k : Nat) (r : List Nat) : S.closedL d (k :: r) = if d ≤ (S.at k).inn then (if S.full k then S.closedL d r else (k :: r, false)) else (k :: r, true) := rfl
theorem rev_take (l : List Nat) (j : Nat) (hj : j < l.length) : (l.take (j + 1)).reverse = l[j] :: (l.take j).reverse := by
  rw [List.take_add_one, List.getElem?_eq_getElem hj]
  simp

set_option maxRecDepth 20000 in
set_option maxHeartbeats 8000000 in
theorem rclosed_any (w : World) (lo b : Nat) (ρ : Nat → Ro) (M : List (RNd × Value)) (s : XR) (vn vx vt : Value) (line : Int) (h : TxAt w lo b ρ M s vn vx vt line) (hm : M.length ≤ 2000) (S : RP) (hS : M.map Prod.fst = S.nodes) (hkl : ∀ i, (S.at i).kids.length ≤ 2000) (hinn : ∀ i, (S.at i).inn ≤ 2000)
    (pile : List Nat) (hpl : pile.length ≤ 2000) (hin : ∀ k ∈ pile, k < M.length) (d : Nat) (_hd : d ≤ 2000) (g cap : Nat) (hp : w.ownsRow 0 3 1 (.slice (some ⟨g, 0, none⟩) pile.length cap) pile.length (intsV pile)) :
    Calls Tryz.prog 68 #[.pointer (some ⟨b, 0, none⟩), .slice (some ⟨g, 0, none⟩) pile.length cap, .int .i64 d] w fun e w' => ∃ j, j ≤ pile.length ∧ S.closedL d pile.reverse = ((pile.take j).reverse, (S.closedL d pile.reverse).2) ∧ e = .returned (.tuple #[.slice (some ⟨g, 0, none⟩) j cap, .bool (S.closedL d pile.reverse).2]) ∧ Below w.heap.size w w' := by
  have H := hide h; have HS := hide hS; have Hkl := hide hkl; have Hinn := hide hinn; have Hin := hide hin; have Hp := hide hp
  clear h hS hkl hinn hin hp
  go_enter Tryz.func68, Tryz.ntmps68
  go_wp2_with fail
  go_loopw [1] (fun v wr => ∃ j, j ≤ pile.length ∧ v = .slice (some ⟨g, 0, none⟩) j cap ∧ S.closedL d (pile.take j).reverse = S.closedL d pile.reverse ∧ Below w.heap.size w wr) (fun v _ => sliceLen v)
  case atStart => exact ⟨pile.length, Nat.le_refl _, rfl, by rw [List.take_length], Below.refl _ _⟩
  case round =>
    obtain ⟨j, hj, rfl, hcl, hb⟩ := hrel
    cases j with
    | zero =>
      have Hcl := hide hcl; have Hb := hide hb
      clear hcl hb
      go_wp2_with fail
      go_region
      go_wp2_with fail
      go_ret2
      refine ⟨0, Nat.zero_le _, ?_, ?_, Hb.out.drew⟩
      · rw [← Hcl.out]; rfl
      · rw [← Hcl.out]; rfl
    | succ j =>
      have hjl : j < pile.length := hj
      obtain ⟨kv, hkv⟩ := getM HS.out (Hin.out pile[j] (List.getElem_mem hjl))
      have t := H.out.below hb
      have c0 := t.rd.c0
      obtain ⟨gn, capn, hvn, h1, h2, hc⟩ := node_at t.nodes hkv
      have d2 := hc 2 _ rfl
      have hcell : wr.cell? ⟨g, j, none⟩ = some (.int .i64 (pile[j] : Nat)) := by
        rcases (row_below hb Hp.out).2 with ⟨x, _⟩ | ⟨g', cap', cur, x, _, hg, _, _, _, h4⟩
        · simp at x
        · simp only [Value.slice.injEq, Option.some.injEq, Addr.mk.injEq, and_true, true_and] at x
          obtain ⟨rfl, rfl⟩ := x
          refine ownsRow_cell hg h4 ?_
          simp [intsV, List.getElem?_eq_getElem hjl]
      have hcap : pile.length ≤ cap ∧ cap ≤ maxLen := by
        rcases Hp.out.2 with ⟨x, _⟩ | ⟨g', cap', cur, x, _, hg, h5, h6, _, h4⟩
        · simp at x
        · simp only [Value.slice.injEq, Option.some.injEq, Addr.mk.injEq, and_true, true_and] at x
          obtain ⟨rfl, rfl⟩ := x
          exact ⟨h5, h6⟩
      have hkm := Hin.out pile[j] (List.getElem_mem hjl)
      have hk2 := Hinn.out pile[j]
      rw [rev_take pile j hjl, closedL_cons] at hcl
      have C := hide (fun wx hbx => rfull_any wx lo b ρ M s vn vx vt line (H.out.below hbx) pile[j] (S.at pile[j]) kv hkv hm (Hkl.out _))
      have Hcl := hide hcl; have Hb := hide hb
      clear hcl hb hc hkv t
      rw [hvn] at c0
      obtain ⟨hcap1, hcap2⟩ := hcap
      have hrv := rev_take pile j hjl
      generalize pile[j] = k at *
      have Hk := hide hrv
      clear hrv
      by_cases hdi : d ≤ (S.at k).inn
      · have hcl2 := Hcl.out
        rw [if_pos hdi] at hcl2
        cases hf : S.full k with
        | true =>
          rw [hf, if_pos rfl] at hcl2
          have Hcl2 := hide hcl2
          have Hf := hide (show fullB (S.at k) = true from hf)
          clear hcl2 hf Hcl
          go_wp2_with fail
          go_region
          go_wp2_with (go_at_call 130; refine (C.out _ Hb.out.drew).mono ?_; rw [Hf.out]; rintro e w1 ⟨rfl, b1⟩; have B1 := hide b1; clear b1)
          go_roundw
          case rel => exact ⟨j, by omega, by go_num, Hcl2.out, below_trans Hb.out.drew B1.out Hb.out.drew.size⟩
          case measure => simp [sliceLen]
        | false =>
          rw [hf, if_neg (by simp)] at hcl2
          have Hcl2 := hide hcl2
          have Hf := hide (show fullB (S.at k) = false from hf)
          clear hcl2 hf Hcl
          go_wp2_with fail
          go_region
          go_wp2_with (go_at_call 130; refine (C.out _ Hb.out.drew).mono ?_; rw [Hf.out]; rintro e w1 ⟨rfl, b1⟩; have B1 := hide b1; clear b1)
          go_ret2
          refine ⟨j + 1, hj, ?_, ?_, below_trans Hb.out.drew B1.out Hb.out.drew.size⟩
          · rw [← Hcl2.out, Hk.out]
          · rw [← Hcl2.out]; rfl
      · have hcl2 := Hcl.out
        rw [if_neg hdi] at hcl2
        have Hcl2 := hide hcl2
        clear hcl2 Hcl
        go_wp2_with fail
        go_region
        go_wp2_with fail
        go_ret2
        refine ⟨j + 1, hj, ?_, ?_, Hb.out.drew⟩
        · rw [← Hcl2.out, Hk.out]
        · rw [← Hcl2.out]; rfl
end Go.Proofs.YtnhidaamfnjdjaaGreatDoor
/- HOW THE WHOLE TEXT IN MEMORY STAYS, step by step. -/
namespace Go.Proofs.YtnhidaamfnjdjaaGreatDoor
open Go.RowKit Go.Maps

section
variable {w w' w1 w2 : World} {lo b nb : Nat} {ρ ρ' : Nat → Ro} {M : List (RNd × Value)} {s s' : XR} {vn vx vx' vt vt' : Value} {line line' : Int}

theorem TxAt.nb' (h : TxAt w lo b ρ M s vn vx vt line) : vn.ownBlock ≠ some b := fun e => by
  have := (h.rn b e).2
  rw [h.rb.2] at this
  cases this
theorem TxAt.kb (h : TxAt w lo b ρ M s vn vx vt line) {i : Nat} {n : RNd} {kv : Value} (hi : M[i]? = some (n, kv)) : kv.ownBlock ≠ some b := fun e => by
  have := (h.rk i n kv hi b e).2
  rw [h.rb.2] at this
  cases this
theorem TxAt.role (h : TxAt w lo b ρ M s vn vx vt line) (hr : ∀ g, g < w.heap.size → ρ' g = ρ g) : TxAt w lo b ρ' M s vn vx vt line where
  rd := h.rd
  nodes := h.nodes
  kids := h.kids
  rb := ⟨h.rb.1, by rw [hr b (lt_of_at h.rd.blk)]; exact h.rb.2⟩
  rn g hg := ⟨(h.rn g hg).1, by rw [hr g (ownsRow_lt h.nodes hg)]; exact (h.rn g hg).2⟩
  rx g hg := ⟨(h.rx g hg).1, by rw [hr g (ownsRow_lt h.rd.xs hg)]; exact (h.rx g hg).2⟩
  rt g hg := ⟨(h.rt g hg).1, by rw [hr g (ownsRow_lt h.rd.toks hg)]; exact (h.rt g hg).2⟩
  rk i n kv hi g hg := ⟨(h.rk i n kv hi g hg).1, by rw [hr g (ownsRow_lt (h.kids i n kv hi) hg)]; exact (h.rk i n kv hi g hg).2⟩
/-- the text's own block alone has turned -/
theorem TxAt.turn (h : TxAt w lo b ρ M s vn vx vt line) (hf : FrX b none w w') (hb : w'.heap[b]? = some (.cells (textCells s' vn vx vt line') 138)) (ht : s'.toks = s.toks) (hx : s'.xs = s.xs) : TxAt w' lo b ρ M s' vn vx vt line' where
  rd := ⟨hb, by rw [ht]; exact hf.own h.rd.toks h.rd.tb (fun _ _ => by simp), by rw [hx]; exact hf.own h.rd.xs h.rd.xb (fun _ _ => by simp), h.rd.tb, h.rd.xb, h.rd.xt⟩
  nodes := hf.own h.nodes h.nb' (fun _ _ => by simp)
  kids i n kv hi := hf.own (h.kids i n kv hi) (h.kb hi) (fun _ _ => by simp)
  rb := h.rb
  rn := h.rn
  rx := h.rx
  rt := h.rt
  rk := h.rk
theorem TxAt.drewN (h : TxAt w lo b ρ M s vn vx vt line) (n : Nat) : TxAt (w.drewN n) lo b ρ M s vn vx vt line := h.turn ((FrX.refl _ _ _).drewN n) h.rd.blk rfl rfl
theorem TxAt.drew (h : TxAt w lo b ρ M s vn vx vt line) : TxAt w.drew lo b ρ M s vn vx vt line := h.turn (FrX.refl _ _ _).drew h.rd.blk rfl rfl
/-- other tokens -/
theorem TxAt.retok (h : TxAt w1 lo b ρ M s vn vx vt line) {toks : List Bs} (hw : WordsAt w1 w2 vt' toks) (hlo : lo ≤ w1.heap.size) :
    TxAt (((w2.setCell ⟨b, 2, none⟩ vt').setCell ⟨b, 3, none⟩ (.int .i64 0)).setCell ⟨b, 4, none⟩ (.int .i64 0)) lo b (fun g => if w1.heap.size ≤ g then .tks else ρ g) M ⟨toks, 0, 0, s.e, s.xs⟩ vn vx vt' line := by
  have hbl := lt_of_at h.rd.blk
  have hr : ∀ g, g < w1.heap.size → (fun g => if w1.heap.size ≤ g then Ro.tks else ρ g) g = ρ g := fun g hg => if_neg (by omega)
  have h1 := h.role hr
  have hb2 : w2.heap[b]? = some (.cells (textCells s vn vx vt line) 138) := Below.at hw.bel h.rd.blk hbl
  have hf : FrX b none w2 (((w2.setCell ⟨b, 2, none⟩ vt').setCell ⟨b, 3, none⟩ (.int .i64 0)).setCell ⟨b, 4, none⟩ (.int .i64 0)) := (((FrX.refl _ _ _).set _ _).set _ _).set _ _
  have fr : ∀ {base : Nat} {e : TypeId} {size : Nat} {v : Value} {n : Nat} {xs : List Value}, w1.ownsRow base e size v n xs → v.ownBlock ≠ some b → (((w2.setCell ⟨b, 2, none⟩ vt').setCell ⟨b, 3, none⟩ (.int .i64 0)).setCell ⟨b, 4, none⟩ (.int .i64 0)).ownsRow base e size v n xs := fun ho hvb => hf.own (row_below hw.bel ho) hvb (fun _ _ => by simp)
  have tn : ∀ g, vt'.ownBlock = some g → w1.heap.size ≤ g := hw.new
  refine ⟨⟨at_setCell (at_setCell (at_setCell hb2 _ _) _ _) _ _, hf.own hw.own (fun e => by have := tn b e; omega) (fun _ _ => by simp), fr h.rd.xs h.rd.xb, fun e => by have := tn b e; omega, h.rd.xb, fun g hg e => ?_⟩, fr h.nodes h.nb', fun i n kv hi => fr (h.kids i n kv hi) (h.kb hi), h1.rb, h1.rn, h1.rx, fun g hg => ⟨by have := tn g hg; omega, if_pos (tn g hg)⟩, h1.rk⟩
  have := tn g e
  have := ownsRow_lt h.rd.xs hg
  omega
/-- behind a line's reader -/
theorem TxAt.rest (h : TxAt w lo b ρ M s vn vx vt line) {k : Bs} {no : Int} {d : Nat} {nm ov : Bs} {e : Int} (r : RNAt w' b nb s' vn vx' vt line k no d nm ov e) (hnb : w.heap.size ≤ nb ∨ ρ nb = .other) (f : FrY b nb vx.ownBlock w w') (hn : vx'.ownBlock = vx.ownBlock ∨ ∃ g, vx'.ownBlock = some g ∧ w.heap.size ≤ g) (hlo : lo ≤ w.heap.size) :
    TxAt w' lo b (fun g => if w.heap.size ≤ g then .exs else ρ g) M s' vn vx' vt line := by
  have hr : ∀ g, g < w.heap.size → (fun g => if w.heap.size ≤ g then Ro.exs else ρ g) g = ρ g := fun g hg => if_neg (by omega)
  have h1 := h.role hr
  have ne : ∀ {q : Ro} {g : Nat}, g < w.heap.size → ρ g = q → q ≠ .other → g ≠ nb := by
    intro q g hg hq hqo e
    subst e
    rcases hnb with x | x
    · omega
    · rw [x] at hq; exact hqo hq.symm
  have fr : ∀ {q : Ro} {base : Nat} {e : TypeId} {size : Nat} {v : Value} {n : Nat} {xs : List Value}, w.ownsRow base e size v n xs → (∀ g, v.ownBlock = some g → ρ g = q) → q ≠ .other → q ≠ .txt → q ≠ .exs → w'.ownsRow base e size v n xs := by
    intro q base e size v n xs ho hq h1 h2 h3
    refine ownsRow_frame ho (fun g hg => f.block g (ownsRow_lt ho hg) ?_ (ne (ownsRow_lt ho hg) (hq g hg) h1) ?_)
    · intro x
      have := hq g hg
      rw [x, h.rb.2] at this
      exact h2 this.symm
    · intro x
      have := (h.rx g x).2
      rw [hq g hg] at this
      exact h3 this
  refine ⟨r.rd, fr (q := .nds) h.nodes (fun g hg => (h.rn g hg).2) (by simp) (by simp) (by simp), fun i n kv hi => fr (q := .kid i) (h.kids i n kv hi) (fun g hg => (h.rk i n kv hi g hg).2) (by simp) (by simp) (by simp), h1.rb, h1.rn, fun g hg => ?_, h1.rt, h1.rk⟩
  rcases hn with x | ⟨g', x, hg'⟩
  · exact h1.rx g (by rw [← x]; exact hg)
  · rw [x] at hg
    injection hg with hg
    subst hg
    exact ⟨by omega, if_pos hg'⟩

theorem nodesV_append (M : List (RNd × Value)) (n : RNd) (kv : Value) : nodesV (M ++ [(n, kv)]) = nodesV M ++ nodeL n kv := by simp [nodesV]
theorem nodesV_len (M : List (RNd × Value)) : (nodesV M).length = M.length * 7 := by
  induction M with
  | nil => rfl
  | cons p M ih =>
    have e : nodesV (p :: M) = nodeL p.1 p.2 ++ nodesV M := rfl
    rw [e, List.length_append, nodeL_len, ih, List.length_cons]
    omega
/-- a node more -/
theorem TxAt.addNode (h : TxAt w lo b ρ M s vn vx vt line) {O : Obj} {w4 : World} {vn' : Value} {n : RNd} (hn0 : n.kids = []) (G4 : (w.alloc O).drew.grownBy w4 vn.ownBlock) (O4 : w4.ownsRow 0 145 7 vn' (M.length + 1) (nodesV M ++ nodeL n (.slice none 0 0)))
    (B4 : vn'.ownBlock = vn.ownBlock ∨ ∃ g, vn'.ownBlock = some g ∧ (w.alloc O).drew.heap.size ≤ g) (Hv4 : w4.heap[b]? = some (.cells (textCells s vn vx vt line) 138)) (hlo : lo ≤ w.heap.size) :
    TxAt (w4.setCell ⟨b, 0, none⟩ vn') lo b (fun g => if w.heap.size ≤ g then .nds else ρ g) (M ++ [(n, .slice none 0 0)]) s vn' vx vt line := by
  have hr : ∀ g, g < w.heap.size → (fun g => if w.heap.size ≤ g then Ro.nds else ρ g) g = ρ g := fun g hg => if_neg (by omega)
  have h1 := h.role hr
  have hz : (w.alloc O).drew.heap.size = w.heap.size + 1 := by show (w.alloc O).heap.size = _; simp
  have hbl := lt_of_at h.rd.blk
  have vb : vn'.ownBlock ≠ some b := by
    rcases B4 with e | ⟨g, e, hg⟩
    · rw [e]; exact h.nb'
    · rw [e]; intro x; injection x with x; omega
  have fr : ∀ {q : Ro} {base : Nat} {e : TypeId} {size : Nat} {v : Value} {m : Nat} {xs : List Value}, w.ownsRow base e size v m xs → (∀ g, v.ownBlock = some g → ρ g = q) → q ≠ .txt → q ≠ .nds → (w4.setCell ⟨b, 0, none⟩ vn').ownsRow base e size v m xs := by
    intro q base e size v m xs ho hq h2 h3
    refine ownsRow_frame ho (fun g hg => ?_)
    have hlt := ownsRow_lt ho hg
    have hgb : g ≠ b := fun x => h2 (by rw [← hq g hg, x]; exact h.rb.2)
    have hgn : vn.ownBlock ≠ some g := fun x => h3 (by rw [← hq g hg]; exact (h.rn g x).2)
    rw [Below.heap_setCell _ _ _ _ (by simpa using hgb), G4.block g (by omega) (Ne.symm hgn)]
    exact Below.heap_alloc _ _ _ hlt
  have hkid : ∀ {P : Nat → RNd → Value → Prop}, (∀ i m kv, M[i]? = some (m, kv) → P i m kv) → P M.length n (.slice none 0 0) → ∀ i m kv, (M ++ [(n, .slice none 0 0)])[i]? = some (m, kv) → P i m kv := by
    intro P hP hl i m kv hi
    rcases Nat.lt_trichotomy i M.length with x | x | x
    · rw [List.getElem?_append_left x] at hi; exact hP i m kv hi
    · subst x
      simp at hi
      obtain ⟨rfl, rfl⟩ := hi
      exact hl
    · rw [List.getElem?_eq_none (by simp; omega)] at hi; cases hi
  refine ⟨⟨at_setCell Hv4 0 vn', fr (q := .tks) h.rd.toks (fun g hg => (h.rt g hg).2) (by simp) (by simp), fr (q := .exs) h.rd.xs (fun g hg => (h.rx g hg).2) (by simp) (by simp), h.rd.tb, h.rd.xb, h.rd.xt⟩, ?_, ?_, h1.rb, ?_, h1.rx, h1.rt, ?_⟩
  · rw [nodesV_append, List.length_append, List.length_singleton]
    exact ownsRow_frame O4 (fun g hg => Below.heap_setCell _ _ _ _ (fun e => vb (by rw [hg]; exact congrArg some e)))
  · refine hkid (fun i m kv hi => fr (q := .kid i) (h.kids i m kv hi) (fun g hg => (h.rk i m kv hi g hg).2) (by simp) (by simp)) ?_
    rw [hn0]
    exact World.ownsRow_nil _ _ _ _
  · intro g hg
    rcases B4 with e | ⟨g', e, hg'⟩
    · exact h1.rn g (by rw [← e]; exact hg)
    · rw [e] at hg
      injection hg with hg
      subst hg
      exact ⟨by omega, if_pos (by omega)⟩
  · exact hkid h1.rk (fun g hg => by simp [Value.ownBlock] at hg)

theorem ownsRow_set {e : TypeId} {size g n cap : Nat} {xs : List Value} (h : w.ownsRow 0 e size (.slice (some ⟨g, 0, none⟩) n cap) n xs) (j : Nat) (_hj : j < n * size) (v : Value) : (w.setCell ⟨g, j, none⟩ v).ownsRow 0 e size (.slice (some ⟨g, 0, none⟩) n cap) n (xs.set j v) := by
  refine ⟨by rw [List.length_set]; exact h.1, ?_⟩
  rcases h.2 with ⟨x, _⟩ | ⟨g', cap', cur, x, hb, hg, h1, h2, h3, h4⟩
  · simp at x
  · simp only [Value.slice.injEq, Option.some.injEq, Addr.mk.injEq, and_true, true_and] at x
    obtain ⟨rfl, rfl⟩ := x
    refine .inr ⟨g, cap, cur.setIfInBounds j v, rfl, hb, at_setCell hg _ _, h1, h2, by simpa using h3, ?_⟩
    rw [Array.toList_setIfInBounds, ← h4, List.take_set]
theorem nodesV_set (M : List (RNd × Value)) : ∀ (p : Nat) (n : RNd) (kv kv' : Value) (ks : List Nat), M[p]? = some (n, kv) → (nodesV M).set (p * 7 + 6) kv' = nodesV (M.set p ({ n with kids := ks }, kv')) := by
  induction M with
  | nil => intro p n kv kv' ks h; simp at h
  | cons q M ih =>
    intro p n kv kv' ks h
    have e : nodesV (q :: M) = nodeL q.1 q.2 ++ nodesV M := rfl
    cases p with
    | zero =>
      simp at h
      subst h
      rfl
    | succ p =>
      have e2 : nodesV ((q :: M).set (p + 1) ({ n with kids := ks }, kv')) = nodeL q.1 q.2 ++ nodesV (M.set p ({ n with kids := ks }, kv')) := rfl
      rw [e, e2, List.set_append_right _ _ (by rw [nodeL_len]; omega), nodeL_len, ← ih p n kv kv' ks (by simpa using h)]
      congr 2
      omega
/-- a kid more -/
theorem TxAt.addKid (h : TxAt w lo b ρ M s vn vx vt line) {O : Obj} {w4 : World} {kv' : Value} {p k gn capn : Nat} {n : RNd} {kv : Value} (hp : M[p]? = some (n, kv)) (hvn : vn = .slice (some ⟨gn, 0, none⟩) M.length capn) (G4 : (w.alloc O).drew.grownBy w4 kv.ownBlock) (O4 : w4.ownsRow 0 3 1 kv' (n.kids.length + 1) (intsV n.kids ++ [.int .i64 k]))
    (B4 : kv'.ownBlock = kv.ownBlock ∨ ∃ g, kv'.ownBlock = some g ∧ (w.alloc O).drew.heap.size ≤ g) (hlo : lo ≤ w.heap.size) :
    TxAt (w4.setCell ⟨gn, p * 7 + 6, none⟩ kv') lo b (fun g => if w.heap.size ≤ g then .kid p else ρ g) (M.set p ({ n with kids := n.kids ++ [k] }, kv')) s vn vx vt line := by
  have hr : ∀ g, g < w.heap.size → (fun g => if w.heap.size ≤ g then Ro.kid p else ρ g) g = ρ g := fun g hg => if_neg (by omega)
  have h1 := h.role hr
  have hz : (w.alloc O).drew.heap.size = w.heap.size + 1 := by show (w.alloc O).heap.size = _; simp
  have hpl : p < M.length := (List.getElem?_eq_some_iff.1 hp).1
  have hgo : vn.ownBlock = some gn := by rw [hvn]; rfl
  have hgn := (h.rn gn hgo).2
  have hgl := ownsRow_lt h.nodes hgo
  have to4 : ∀ {q : Ro} {g : Nat}, g < w.heap.size → ρ g = q → q ≠ .kid p → w4.heap[g]? = w.heap[g]? := by
    intro q g hlt hq h3
    rw [G4.block g (by omega) (fun e => h3 (by rw [← hq]; exact (h.rk p n kv hp g e.symm).2))]
    exact Below.heap_alloc _ _ _ hlt
  have fr : ∀ {q : Ro} {base : Nat} {e : TypeId} {size : Nat} {v : Value} {m : Nat} {xs : List Value}, w.ownsRow base e size v m xs → (∀ g, v.ownBlock = some g → ρ g = q) → q ≠ .kid p → q ≠ .nds → (w4.setCell ⟨gn, p * 7 + 6, none⟩ kv').ownsRow base e size v m xs := by
    intro q base e size v m xs ho hq h3 h4
    refine ownsRow_frame ho (fun g hg => ?_)
    have hlt := ownsRow_lt ho hg
    have hgb : g ≠ gn := fun x => h4 (by rw [← hq g hg, x]; exact hgn)
    rw [Below.heap_setCell _ _ _ _ (by simpa using hgb)]
    exact to4 hlt (hq g hg) h3
  have kvn : kv'.ownBlock ≠ some gn := by
    rcases B4 with e | ⟨g, e, hg⟩
    · rw [e]
      intro x
      have := (h.rk p n kv hp gn x).2
      rw [hgn] at this
      cases this
    · rw [e]; intro x; injection x with x; omega
  have hbl := lt_of_at h.rd.blk
  have hbn : b ≠ gn := fun x => by rw [← x, h.rb.2] at hgn; cases hgn
  refine ⟨⟨?_, fr (q := .tks) h.rd.toks (fun g hg => (h.rt g hg).2) (by simp) (by simp), fr (q := .exs) h.rd.xs (fun g hg => (h.rx g hg).2) (by simp) (by simp), h.rd.tb, h.rd.xb, h.rd.xt⟩, ?_, ?_, h1.rb, h1.rn, h1.rx, h1.rt, ?_⟩
  · refine at_setCell_other ?_ hbn _ _
    rw [to4 hbl h.rb.2 (by simp)]
    exact h.rd.blk
  · have hn4 : w4.ownsRow 0 145 7 vn M.length (nodesV M) := ownsRow_frame h.nodes (fun g hg => to4 (ownsRow_lt h.nodes hg) (h.rn g hg).2 (by simp))
    rw [hvn] at hn4 ⊢
    rw [List.length_set, ← nodesV_set M p n kv kv' _ hp]
    exact ownsRow_set hn4 _ (by omega) _
  · intro i m kx hi
    rw [List.getElem?_set] at hi
    split at hi
    · rename_i e
      simp only [Option.some.injEq, Prod.mk.injEq] at hi
      obtain ⟨rfl, rfl⟩ := hi
      have := ownsRow_frame (w' := w4.setCell ⟨gn, p * 7 + 6, none⟩ kv') O4 (fun g hg => Below.heap_setCell _ _ _ _ (fun e => kvn (by rw [hg]; exact congrArg some e)))
      simpa [intsV] using this
    · rename_i e
      refine fr (q := .kid i) (h.kids i m kx hi) (fun g hg => (h.rk i m kx hi g hg).2) (fun x => ?_) (by simp)
      injection x with x
      exact e x.symm
  · intro i m kx hi g hg
    rw [List.getElem?_set] at hi
    split at hi
    · rename_i e
      simp only [Option.some.injEq, Prod.mk.injEq] at hi
      obtain ⟨rfl, rfl⟩ := hi
      subst e
      rcases B4 with x | ⟨g', x, hg'⟩
      · exact h1.rk p n kv hp g (by rw [← x]; exact hg)
      · rw [x] at hg
        injection hg with hg
        subst hg
        exact ⟨by omega, if_pos (by omega)⟩
    · exact h1.rk i m kx hi g hg
end
end Go.Proofs.YtnhidaamfnjdjaaGreatDoor
