import Derived.Test.YtnhidaamfnjdjaaGreatDoorRhV
import Derived.Deep.RegionHeld3
namespace Go.Proofs.YtnhidaamfnjdjaaGreatDoor
open Go.RowKit Go.Maps

def howC (h : Nat) : Int := if h = 1 then 118 else if h = 2 then 115 else if h = 4 then 119 else 114
def useV (p : Int × Nat) : List Value := [.int .u8 (howC p.2), .int .i64 p.1]
def usesV (l : List (Int × Nat)) : List Value := (l.map useV).flatten
def WayOk (p : Int × Nat) : Prop := p.2 = 1 ∨ p.2 = 2 ∨ p.2 = 4 ∨ p.2 = 8

set_option maxRecDepth 20000 in
set_option maxHeartbeats 4000000 in
theorem clash_any (p q : Int × Nat) (hp : WayOk p) (hq : WayOk q) (w : World) :
    Calls Tryz.prog 133 #[.agg #[.int .u8 (howC p.2), .int .i64 p.1], .agg #[.int .u8 (howC q.2), .int .i64 q.1]] w fun e w' => e = .returned (.bool (rclashB p q)) ∧ Below w.heap.size w w' := by
  obtain ⟨a, h⟩ := p
  obtain ⟨c, g⟩ := q
  by_cases hac : a = c
  · subst hac
    have ea : (a != a) = false := by simp
    rcases hp with hp | hp | hp | hp <;> rcases hq with hq | hq | hq | hq
    all_goals
      simp only at hp hq
      subst hp; subst hq
      generalize hz : rclashB _ _ = z
      simp [rclashB] at hz
      subst hz
      simp only [howC]
      go_enter Tryz.func133, Tryz.ntmps133
      go_wp2
      go_ret
      exact ⟨rfl, by first | exact Below.refl _ _ | exact below_trans (below_alloc _ _) (below_alloc _ _) (by simp)⟩
  · have ea : (a != c) = true := by simpa using hac
    have hz : rclashB (a, h) (c, g) = false := by
      unfold rclashB
      rw [beq_eq_false_iff_ne.2 hac]; rfl
    rw [hz]
    clear hz
    simp only
    generalize howC h = x
    generalize howC g = y
    go_enter Tryz.func133, Tryz.ntmps133
    go_wp2
    go_ret
    exact ⟨rfl, by first | exact Below.refl _ _ | exact below_trans (below_alloc _ _) (below_alloc _ _) (by simp)⟩
end Go.Proofs.YtnhidaamfnjdjaaGreatDoor
namespace Go.Proofs.YtnhidaamfnjdjaaGreatDoor
open Go.RowKit Go.Maps

theorem usesV_at (l : List (Int × Nat)) : ∀ (i : Nat) (p : Int × Nat), l[i]? = some p → ∀ j, j < 2 → (usesV l)[i * 2 + j]? = (useV p)[j]? := by
  induction l with
  | nil => intro i d h; simp at h
  | cons p l ih =>
    intro i d h j hj
    have e : usesV (p :: l) = useV p ++ usesV l := rfl
    have hl : (useV p).length = 2 := rfl
    rw [e]
    cases i with
    | zero =>
      simp at h
      subst h
      rw [List.getElem?_append_left (by rw [hl]; omega)]
      congr 1
      omega
    | succ i =>
      rw [List.getElem?_append_right (by rw [hl]; omega), hl]
      rw [← ih i d (by simpa using h) j hj]
      congr 1
      omega
theorem use_at {w : World} {v : Value} {l : List (Int × Nat)} (h : w.ownsRow 0 187 2 v l.length (usesV l)) {i : Nat} {p : Int × Nat} (hi : l[i]? = some p) :
    ∃ g cap, v = .slice (some ⟨g, 0, none⟩) l.length cap ∧ l.length ≤ cap ∧ cap ≤ maxLen ∧ w.cell? ⟨g, i * 2, none⟩ = some (.int .u8 (howC p.2)) ∧ w.cell? ⟨g, i * 2 + 1, none⟩ = some (.int .i64 p.1) := by
  have hlt : i < l.length := (List.getElem?_eq_some_iff.1 hi).1
  rcases h.2 with ⟨_, h0⟩ | ⟨g, cap, cur, rfl, _, hg, h1, h2, h3, h4⟩
  · omega
  · refine ⟨g, cap, rfl, h1, h2, ?_, ?_⟩
    · have := usesV_at l i p hi 0 (by omega)
      rw [Nat.add_zero] at this
      exact ownsRow_cell (n := l.length * 2) hg h4 this
    · exact ownsRow_cell (n := l.length * 2) hg h4 (usesV_at l i p hi 1 (by omega))
theorem any_take {α : Type} (f : α → Bool) (l : List α) (j : Nat) (hj : j < l.length) : (l.take (j + 1)).any f = ((l.take j).any f || f l[j]) := by
  rw [List.take_add_one, List.getElem?_eq_getElem hj, List.any_append]
  simp
theorem any_of {α : Type} (f : α → Bool) (l : List α) (j : Nat) (hj : j < l.length) (h : f l[j] = true) : l.any f = true := List.any_eq_true.2 ⟨l[j], List.getElem_mem hj, h⟩

theorem below_cell {n : Nat} {w w' : World} (h : Below n w w') {g : Nat} (hg : g < n) (i : Nat) : w'.cell? ⟨g, i, none⟩ = w.cell? ⟨g, i, none⟩ := by
  simp only [World.cell?, h.block g hg]

set_option maxRecDepth 20000 in
set_option maxHeartbeats 8000000 in
theorem clashes_any (u v : List (Int × Nat)) (hu : ∀ p ∈ u, WayOk p) (hv : ∀ p ∈ v, WayOk p) (ua va : Option Addr) (uc vc : Nat) (w : World) (ru : w.ownsRow 0 187 2 (.slice ua u.length uc) u.length (usesV u)) (rv : w.ownsRow 0 187 2 (.slice va v.length vc) v.length (usesV v)) (lu : u.length ≤ 500000) (lv : v.length ≤ 500000) :
    Calls Tryz.prog 73 #[.slice ua u.length uc, .slice va v.length vc] w fun e w' => e = .returned (.bool (rclashL u v)) ∧ Below w.heap.size w w' := by
  have Ru := hide ru; have Rv := hide rv; have Hu := hide hu; have Hv := hide hv
  clear ru rv hu hv
  go_enter Tryz.func73, Tryz.ntmps73
  go_wp2_with fail
  go_loopw [5] (fun i wr => ∃ j : Nat, j ≤ u.length ∧ i = .int .i64 j ∧ rclashL (u.take j) v = false ∧ Below w.heap.size w wr) (fun i _ => u.length - (intOf i).toNat)
  case atStart => exact ⟨0, Nat.zero_le _, rfl, rfl, Below.refl _ _⟩
  case round =>
    obtain ⟨j, hj, rfl, hf, hb⟩ := hrel
    have Hf := hide hf; have Hb := hide hb
    by_cases hlt : j < u.length
    · have hup := Hu.out u[j] (List.getElem_mem hlt)
      have hstep : ∀ q : Bool, v.any (rclashB u[j]) = q → rclashL (u.take (j + 1)) v = q := by
        intro q hq
        unfold rclashL at hf ⊢
        rw [any_take _ u j hlt, hf, Bool.false_or]
        exact hq
      have hall : v.any (rclashB u[j]) = true → rclashL u v = true := fun hq => any_of (fun a => v.any fun b => rclashB a b) u j hlt hq
      have Hstep := hide hstep; have Hall := hide hall
      clear hf hb hstep hall
      go_wp2_with fail
      go_loopw [6] (fun i w2 => ∃ q : Nat, q ≤ v.length ∧ i = .int .i64 q ∧ (v.take q).any (rclashB u[j]) = false ∧ Below w.heap.size w w2) (fun i _ => v.length - (intOf i).toNat)
      case atStart => exact ⟨0, Nat.zero_le _, rfl, rfl, Hb.out⟩
      case round =>
        obtain ⟨q, hq, rfl, hf2, hb2⟩ := hrel
        have Hf2 := hide hf2; have Hb2 := hide hb2
        by_cases hlt2 : q < v.length
        · have hvp := Hv.out v[q] (List.getElem_mem hlt2)
          obtain ⟨gu, cu, e1, h1, h2, a0, a1⟩ := use_at (row_below hb2 Ru.out) (List.getElem?_eq_getElem hlt)
          obtain ⟨gv, cv, e2, h3, h4, c0, c1⟩ := use_at (row_below hb2 Rv.out) (List.getElem?_eq_getElem hlt2)
          have hgu : gu < wr.heap.size := ownsRow_lt (row_below hb2 Ru.out) (by rw [e1]; rfl)
          have hgv : gv < wr.heap.size := ownsRow_lt (row_below hb2 Rv.out) (by rw [e2]; rfl)
          simp only [Value.slice.injEq, true_and] at e1 e2
          obtain ⟨rfl, rfl⟩ := e1
          obtain ⟨rfl, rfl⟩ := e2
          have hst : (v.take (q + 1)).any (rclashB u[j]) = rclashB u[j] v[q] := by rw [any_take _ v q hlt2, hf2, Bool.false_or]
          have han : rclashB u[j] v[q] = true → v.any (rclashB u[j]) = true := fun hx => any_of _ v q hlt2 hx
          have C := hide (fun w => clash_any u[j] v[q] hup hvp w)
          have Hst := hide hst; have Han := hide han
          clear hf2 hb2 hst han hup hvp
          cases hc : rclashB u[j] v[q] with
          | true =>
            rw [hc] at C
            have Hfin := hide (Hall.out (Han.out hc))
            clear hc Hst Han Hstep Hall
            generalize u[j] = pu at *
            generalize v[q] = pv at *
            go_wp2_with fail
            go_region_held3 (fun w' => w'.cell? ⟨gu, j * 2, none⟩ = some (.int .u8 (howC pu.2)) ∧ w'.cell? ⟨gu, j * 2 + 1, none⟩ = some (.int .i64 pu.1) ∧ w'.cell? ⟨gv, q * 2, none⟩ = some (.int .u8 (howC pv.2)) ∧ w'.cell? ⟨gv, q * 2 + 1, none⟩ = some (.int .i64 pv.1)) (go_keep)
              (first | (go_at_call 133; refine (C.out _).mono ?_; rintro e w6 ⟨rfl, b6⟩; have p0 := (below_cell b6 hgu (j * 2)).trans a0; have p1 := (below_cell b6 hgu (j * 2 + 1)).trans a1; have p2 := (below_cell b6 hgv (q * 2)).trans c0; have p3 := (below_cell b6 hgv (q * 2 + 1)).trans c1; have B6 := hide b6; clear b6))
            go_wp2_with fail
            go_ret
            exact ⟨by rw [Hfin.out]; rfl, below_trans Hb2.out.drew B6.out Hb2.out.drew.size⟩
          | false =>
            rw [hc] at C
            have Hfin := hide (Hst.out.trans hc)
            clear hc Hst Han Hall
            generalize hpu : u[j] = pu at a0 a1 C ⊢
            generalize hpv : v[q] = pv at c0 c1 C ⊢
            go_wp2_with fail
            go_region_held3 (fun w' => w'.cell? ⟨gu, j * 2, none⟩ = some (.int .u8 (howC pu.2)) ∧ w'.cell? ⟨gu, j * 2 + 1, none⟩ = some (.int .i64 pu.1) ∧ w'.cell? ⟨gv, q * 2, none⟩ = some (.int .u8 (howC pv.2)) ∧ w'.cell? ⟨gv, q * 2 + 1, none⟩ = some (.int .i64 pv.1)) (go_keep)
              (first | (go_at_call 133; refine (C.out _).mono ?_; rintro e w6 ⟨rfl, b6⟩; have p0 := (below_cell b6 hgu (j * 2)).trans a0; have p1 := (below_cell b6 hgu (j * 2 + 1)).trans a1; have p2 := (below_cell b6 hgv (q * 2)).trans c0; have p3 := (below_cell b6 hgv (q * 2 + 1)).trans c1; have B6 := hide b6; clear b6))
            go_wp2_with fail
            go_roundw
            case rel => exact ⟨q + 1, by omega, by go_num, by rw [← hpu]; exact Hfin.out, below_trans Hb2.out.drew B6.out Hb2.out.drew.size⟩
            case measure => simp [intOf]; omega
        · have hqe : v.take q = v := List.take_of_length_le (by omega)
          rw [hqe] at Hf2
          have Hn := hide (Hstep.out false Hf2.out)
          clear hf2 hb2
          go_wp2_with fail
          go_roundw
          case rel => exact ⟨j + 1, by omega, by go_num, Hn.out, Hb2.out⟩
          case measure => simp [intOf]; omega
    · have hje : u.take j = u := List.take_of_length_le (by omega)
      rw [hje] at Hf
      clear hf hb
      go_wp2_with fail
      go_ret
      exact ⟨by rw [Hf.out]; rfl, Hb.out⟩
end Go.Proofs.YtnhidaamfnjdjaaGreatDoor
namespace Go.Proofs.YtnhidaamfnjdjaaGreatDoor
open Go.RowKit Go.Maps

theorem useInfo : (Tryz.prog.info? 187).map (fun i => (i.zero, i.size, i.bytes)) = some (some (.agg #[.int .u8 0, .int .i64 0]), 2, 16) := by kernel_rfl
theorem useV_one (p : Int × Nat) : ∀ u ∈ useV p, u.oneCell' = true := by
  intro u hu; simp [useV] at hu; rcases hu with rfl | rfl <;> rfl
theorem usesV_one (l : List (Int × Nat)) : ∀ u ∈ usesV l, u.oneCell' = true := by
  intro u hu
  obtain ⟨x, hx, hux⟩ := List.mem_flatten.1 hu
  obtain ⟨d, _, rfl⟩ := List.mem_map.1 hx
  exact useV_one d u hux
theorem usesV_len (l : List (Int × Nat)) : (usesV l).length = l.length * 2 := by
  induction l with
  | nil => rfl
  | cons p l ih =>
    have e : usesV (p :: l) = useV p ++ usesV l := rfl
    have hl : (useV p).length = 2 := rfl
    rw [e, List.length_append, hl, ih, List.length_cons]
    omega
theorem usesV_append (a c : List (Int × Nat)) : usesV (a ++ c) = usesV a ++ usesV c := by simp [usesV]
/-- a row appended to a row of one's own, nil or not -/
theorem wpList_appendV {P : Program} {t e : TypeId} {z : Value} {size bytes : Nat} (hsz : 0 < size) (ht : P.underlying t = some (.slice e)) (hi : (P.info? e).map (fun i => (i.zero, i.size, i.bytes)) = some (some z, size, bytes)) (hzs : z.cells.size = size) (hby : bytes ≤ 128)
    {w : World} {ops : Array Oper} {rest : List Oper} {o : Oper} {a : Act} {Q : Exit → Act → World → Prop} (hgd : o.guard = none) (s x : Operand)
    (ho : o.op = .call { callee := .builtin .append, args := #[s, x], argTypes := #[t, t] })
    (v : Value) (n : Nat) (xs : List Value) (hs : a.eval s = v) (hown : w.ownsRow 0 e size v n xs) (v2 : Value) (m : Nat) (ys : List Value) (hx : a.eval x = v2) (hown2 : w.ownsRow 0 e size v2 m ys) (hone : ∀ u ∈ ys, u.oneCell' = true) (hn : n + m ≤ 1000000)
    (h : ∀ v' w', w'.ownsRow 0 e size v' (n + m) (xs ++ ys) → w.grownBy w' v.ownBlock → (v'.ownBlock = v.ownBlock ∨ ∃ g, v'.ownBlock = some g ∧ w.heap.size ≤ g) → wpList P ops Q rest (a.put o.dst v') w') : wpList P ops Q (o :: rest) a w := by
  have hl := hown2.1
  rcases hown2.2 with ⟨rfl, rfl⟩ | ⟨g, cap, cur, rfl, _⟩
  · have hy : ys = [] := List.length_eq_zero_iff.1 (by simpa using hl)
    subst hy
    refine wpList_append0 ht hi hgd s x ho v n xs hs hown hx (h v w ?_ ⟨rfl, rfl, rfl, Nat.le_refl _, fun _ _ _ => rfl⟩ (.inl rfl))
    simpa using hown
  · exact wpList_appendM hsz ht hi hzs hby hgd s x ho v n xs hs hown ⟨g, 0, none⟩ m cap ys hx hl (row_news hown2) hone hn h
/-- a list of uses in new memory -/
structure UseAt (w w' : World) (v : Value) (u : List (Int × Nat)) : Prop where
  own : w'.ownsRow 0 187 2 v u.length (usesV u)
  new : ∀ g, v.ownBlock = some g → w.heap.size ≤ g
  bel : Below w.heap.size w w'
def leavesP : PE → Nat
  | .nil => 0
  | .num _ => 0
  | .var _ _ => 1
  | .pair _ a b => leavesP a + leavesP b
theorem rasks_len (l : List RDc) : ∀ e : PE, (rasks l e).length = leavesP e
  | .nil => rfl
  | .num _ => rfl
  | .var _ _ => rfl
  | .pair _ a b => by
    show (rasks l a ++ rasks l b).length = leavesP a + leavesP b
    rw [List.length_append, rasks_len l a, rasks_len l b]

set_option maxRecDepth 20000 in
set_option maxHeartbeats 4000000 in
theorem exprUses_any {lo b : Nat} {ρ : Nat → Ro} {M : List (RNd × Value)} {s : XR} {vn vx vt : Value} {line : Int} {l : List RDc} {la : Option Addr} {lc : Nat} {k : Nat} {pe : PE} (rep : RepX s.xs k pe) :
    ∀ (w : World), See w lo b ρ M s vn vx vt line l (.slice la l.length lc) → leavesP pe ≤ 100000 → Calls Tryz.prog 132 #[.pointer (some ⟨b, 0, none⟩), .slice la l.length lc, .int .i64 k] w fun e w' => ∃ v, e = .returned v ∧ UseAt w w' v (rasks l pe) := by
  induction rep with
  | num p x v h ho hn =>
    intro w see _
    have hlt : p < s.xs.length := (List.getElem?_eq_some_iff.1 h).1
    have c1 := see.tx.rd.c1
    obtain ⟨g, cap, hv, h1, h2, hc⟩ := expr_at see.tx.rd.xs h
    have d0 := hc 0 _ rfl; rw [Nat.add_zero] at d0; have d1 := hc 1 _ rfl; have d2 := hc 2 _ rfl; have d3 := hc 3 _ rfl; have d4 := hc 4 _ rfl
    rw [ho] at d0; rw [hn] at d1; rw [hv] at c1
    clear hc hv h ho hn
    generalize s.xs.length = n at *
    go_enter Tryz.func132, Tryz.ntmps132
    go_wp2_with fail
    go_ret
    exact ⟨_, rfl, World.ownsRow_nil _ _ _ _, fun g hg => by simp [Value.ownBlock] at hg, below_alloc _ _⟩
  | var p x h ho hn =>
    intro w see _
    have hlt : p < s.xs.length := (List.getElem?_eq_some_iff.1 h).1
    have c1 := see.tx.rd.c1
    obtain ⟨g, cap, hv, h1, h2, hc⟩ := expr_at see.tx.rd.xs h
    have d0 := hc 0 _ rfl; rw [Nat.add_zero] at d0; have d1 := hc 1 _ rfl; have d2 := hc 2 _ rfl; have d3 := hc 3 _ rfl; have d4 := hc 4 _ rfl
    rw [ho] at d0; rw [hv] at c1
    have en : (x.name == []) = false := by rw [beq_eq_false_iff_ne]; exact hn
    have C := hide (fun w h => rmeans_any l (.slice la l.length lc) x.name false w h see.few)
    have Sd := hide see
    clear hc hv h ho hn see
    have er : rasks l (.var x.name 0) = [(rmeans l x.name false, 2)] := rfl
    rw [er]
    clear er
    generalize rmeans l x.name false = z at *
    generalize s.xs.length = n at *
    go_enter Tryz.func132, Tryz.ntmps132
    go_wp2_with (go_at_call 70; refine (C.out _ (Sd.out.below (below_alloc _ _)).dl).mono ?_; rintro e wx ⟨rfl, nd, rfl⟩)
    go_ret
    refine ⟨_, rfl, ⟨rfl, .inr ⟨w.heap.size + 1, 1, _, by simp, Nat.zero_le _, by simpa using at_new ((w.alloc _).drewN nd) _, Nat.le_refl _, by decide, rfl, rfl⟩⟩, fun g hg => ?_, below_trans (below_drewN (below_alloc w _) nd) (below_alloc _ _) (by simp)⟩
    simp [Value.ownBlock] at hg
    omega
  | pair p x a c h ho ha hb ra rb iha ihb =>
    intro w see hlv
    have hlt : p < s.xs.length := (List.getElem?_eq_some_iff.1 h).1
    have c1 := see.tx.rd.c1
    obtain ⟨g, cap, hv, h1, h2, hc⟩ := expr_at see.tx.rd.xs h
    have d0 := hc 0 _ rfl; rw [Nat.add_zero] at d0; have d1 := hc 1 _ rfl; have d2 := hc 2 _ rfl; have d3 := hc 3 _ rfl; have d4 := hc 4 _ rfl
    rw [hv] at c1
    have eo : ((x.op.toNat : Int) != 0) = true := by
      rw [bne_iff_ne]
      intro e
      exact ho (UInt8.toNat_inj.1 (by simpa using e))
    have hob := x.op.toNat_lt
    have hlv : leavesP a + leavesP c ≤ 100000 := hlv
    have A := hide (fun w h => iha w h (by omega)); have B := hide (fun w h => ihb w h (by omega)); have Sd := hide see
    have er : rasks l (.pair x.op a c) = rasks l a ++ rasks l c := rfl
    rw [er]
    have la1 := rasks_len l a; have la2 := rasks_len l c
    clear hc hv h ho see er iha ihb ra rb
    generalize s.xs.length = n at *
    generalize rasks l a = ua at *
    generalize rasks l c = uc at *
    have hn : ua.length + uc.length ≤ 1000000 := by omega
    go_enter Tryz.func132, Tryz.ntmps132
    go_wp2_with (first | (go_at_call 132; refine (A.out _ (Sd.out.below (below_alloc _ _))).mono ?_; rintro e w1 ⟨v1, rfl, u1⟩; have m3 := (Below.at u1.bel (at_new w _) (by simp)); have B1 := hide (below_trans (below_alloc w _) u1.bel (by simp)); have k3 := cell_at m3 3; have k4 := cell_at m3 4; have U1 := hide u1; clear m3 u1 A) | (go_at_call 132; refine (B.out _ (Sd.out.below B1.out)).mono ?_; rintro e w2 ⟨v2, rfl, u2⟩; have U2 := hide u2; clear u2) | (at_builtin; refine wpList_appendV (by decide) Tryz.underlying149 useInfo rfl (by decide) rfl _ _ rfl v1 ua.length (usesV ua) rfl (row_below U2.out.bel U1.out.own) v2 uc.length (usesV uc) rfl U2.out.own (usesV_one _) hn ?_; intro v3 w3 o3 g3 b3; have O3 := hide o3; have G3 := hide g3; have B3 := hide b3; clear o3 g3 b3))
    go_ret
    have hz := U1.out.new
    have hz2 : w.heap.size ≤ (w.alloc (.cells #[.int .u8 x.op.toNat, .string ⟨x.name.toArray⟩, .int .i64 x.n, .int .i64 x.a, .int .i64 x.b] 182)).heap.size := by simp
    have hz3 := B1.out.size
    have hz4 := U2.out.bel.size
    refine ⟨v3, rfl, ?_, fun g hg => ?_, bgrow (below_trans B1.out U2.out.bel B1.out.size) G3.out (fun g hg => Nat.le_trans hz2 (hz g hg))⟩
    · rw [List.length_append, usesV_append]; exact O3.out
    · rcases B3.out with e | ⟨g', e, hg'⟩
      · exact Nat.le_trans hz2 (hz g (by rw [← e]; exact hg))
      · rw [e] at hg
        injection hg with hg
        omega
end Go.Proofs.YtnhidaamfnjdjaaGreatDoor
