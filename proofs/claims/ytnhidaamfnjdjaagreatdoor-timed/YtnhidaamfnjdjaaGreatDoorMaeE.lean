import Derived.Test.YtnhidaamfnjdjaaGreatDoorMaeB
import Derived.Test.YtnhidaamfnjdjaaGreatDoorMadG
/- THE HEAP OF THOSE THAT SLEEP: Pop; heap.Push, heap.Pop. -/
namespace Go.Proofs.YtnhidaamfnjdjaaGreatDoor
open Go.RowKit Go.Maps

theorem slps_take (V : MV) : ∀ (l : List (Int × Int × Nat)) (n : Nat), (V.slps l).take (n * 3) = V.slps (l.take n)
  | [], n => by simp [MV.slps]
  | x :: l, 0 => by simp [MV.slps]
  | x :: l, n + 1 => by
    rw [List.take_succ_cons, slps_cons, slps_cons, List.take_append]
    have e : (n + 1) * 3 - (slV V x).length = n * 3 := by show _ - 3 = _; omega
    rw [e, slps_take V l n, List.take_of_length_le (by show 3 ≤ _; omega)]
theorem row_cut {w : World} {e : TypeId} {size g n cap m : Nat} {xs : List Value} (h : w.ownsRow 0 e size (.slice (some ⟨g, 0, none⟩) n cap) n xs) (hm : m ≤ n) : w.ownsRow 0 e size (.slice (some ⟨g, 0, none⟩) m cap) m (xs.take (m * size)) := by
  have hms : m * size ≤ n * size := Nat.mul_le_mul_right _ hm
  refine ⟨by rw [List.length_take, h.1]; omega, ?_⟩
  rcases h.2 with ⟨hv, _⟩ | ⟨g', cap', cur, hv, h0, hg, h1, h2, h3, h4⟩
  · simp at hv
  · simp only [Value.slice.injEq, Option.some.injEq, Addr.mk.injEq, and_true, true_and] at hv
    obtain ⟨rfl, rfl⟩ := hv
    refine .inr ⟨g, cap, cur, rfl, h0, hg, by omega, h2, h3, ?_⟩
    rw [← h4, List.take_take, Nat.min_eq_left hms]
section
variable {mb : Nat} {ρ : Nat → MR} {C : CM} {V : MV} {s : MS}
set_option maxRecDepth 20000 in
set_option maxHeartbeats 4000000 in
theorem slPop_any (n : Nat) (hn : s.asleep.length = n + 1) (w : World) (h : MsAt w mb ρ C V s) (hl : s.asleep.length ≤ 1000000000000) :
    Calls Tryz.prog 294 #[.pointer (some ⟨mb, 8, none⟩)] w fun e w' => e = .returned (slIf V (s.asleep.getD n (0, 0, 0))) ∧ MsPost mb C ρ V w { s with asleep := s.asleep.take n } w' := by
  obtain ⟨g, cap, hv, h1, h2, hc, hz, hg, hgl⟩ := mslp_at h (i := n) (by omega)
  obtain ⟨i0, i1, i2⟩ := hc n (by omega)
  have c8 := mslp_cell h
  have z8 : ∀ i, w.frozen? ⟨mb, i, none⟩ = false := fun i => frozen_at (h.blk (fun x => x)) i
  rw [hv] at c8
  have hmb := h.rb.2
  have fin : ∀ O, MsPost mb C ρ V w { s with asleep := s.asleep.take n } ((w.setCell ⟨mb, 8, none⟩ (.slice (some ⟨g, 0, none⟩) n cap)).alloc O) := by
    intro O
    have hgm : g ≠ mb := fun e => by rw [e, h.rb.1] at hg; cases hg
    have fr : MsFr (Two .slp) ρ ρ w (w.setCell ⟨mb, 8, none⟩ (.slice (some ⟨g, 0, none⟩) n cap)) := by
      refine ⟨rfl, rfl, rfl, by simp, fun k hk hA => ⟨?_, rfl⟩⟩
      rw [Below.heap_setCell _ _ _ _ (fun e => hA (.inl (by have : k = mb := e; rw [this]; exact h.rb.1)))]
    have q := (h.slp (fun x => x)).1
    rw [hv, hn] at q
    have q2 := row_cut q (m := n) (by omega)
    rw [slps_take] at q2
    have r := mslp_new h fr h.rb.1 (at_setCell (h.blk (fun x => x)) 8 (.slice (some ⟨g, 0, none⟩) n cap)) (l' := s.asleep.take n) (by
      rw [List.length_take, hn, Nat.min_eq_left (by omega)]
      exact ownsRow_frame q2 (fun k hk => Below.heap_setCell _ _ _ _ (fun e => hgm (by have e1 : k = mb := e; have e2 : some g = some k := hk; injection e2 with e2; omega)))) (by
      intro k hk
      have e2 : some g = some k := hk
      injection e2 with e2
      rw [← e2]; exact hg)
    have r2 := r.1.low ((Below.refl _ _).alloc (Nat.le_refl _) O)
    exact ⟨_, _, r2.1, r.2.trans r2.2⟩
  have Fin := hide fin
  clear fin h hc hv hg
  rw [hn] at c8 h1 hl
  unfold slIf
  unfold MV.ptr ptrB intV
  unfold MV.ptr ptrB at i2
  clear hn
  generalize s.asleep.getD n (0, 0, 0) = x at *
  generalize V.pb.getD x.2.2 0 = pb at *
  generalize { s with asleep := s.asleep.take n } = s2 at *
  have hn1 : ((n + 1 : Nat) : Int) - 1 = (n : Int) := by omega
  have hn2 : (n : Int) < ((n + 1 : Nat) : Int) := by omega
  go_enter Tryz.func294, Tryz.ntmps294
  go_wp2_with fail
  go_ret
  exact ⟨rfl, Fin.out _⟩
set_option maxRecDepth 20000 in
set_option maxHeartbeats 4000000 in
theorem hPush_any (x : Int × Int × Nat) (w : World) (h : MsAt w mb ρ C V s) (hl : s.asleep.length + 1 ≤ 1000000000000) :
    Calls Tryz.prog 197 #[slI mb, slIf V x] w fun e w' => e = .returned (.tuple #[]) ∧ MsPost mb C ρ V w { s with asleep := pushF' x s.asleep } w' := by
  have P := hide (slPush_any x w h hl)
  have mp := mth_push mb
  have after : ∀ w2, MsPost mb C ρ V w { s with asleep := s.asleep ++ [x] } w2 → ∃ (a : Option Addr) (c : Nat), w2.cell? ⟨mb, 8, none⟩ = some (.slice a (s.asleep.length + 1) c) ∧ Calls Tryz.prog 217 #[slI mb, .int .i64 (s.asleep.length : Int)] w2 fun e w' => e = .returned (.tuple #[]) ∧ MsPost mb C ρ V w { s with asleep := pushF' x s.asleep } w' := by
    rintro w2 ⟨ρ2, V2, k2, g2⟩
    obtain ⟨a, c, hv⟩ := ownsRow_len (k2.slp (fun x => x)).1
    have hlen : (s.asleep ++ [x]).length = s.asleep.length + 1 := by simp
    refine ⟨a, c, ?_, (hup_any (s := { s with asleep := s.asleep ++ [x] }) s.asleep.length (by show _ < (s.asleep ++ [x]).length; omega) w2 k2 (by show (s.asleep ++ [x]).length ≤ _; omega)).mono ?_⟩
    · rw [mslp_cell k2, hv]
      show some (Value.slice a (s.asleep ++ [x]).length c) = _
      rw [hlen]
    · rintro e w' ⟨rfl, k3, g3⟩
      exact ⟨rfl, ρ2, V2, k3, g2.trans g3⟩
  have Af := hide after
  clear after h
  have Ml := hide (mth_len mb)
  unfold slI at *
  generalize s.asleep.length = n at *
  generalize { s with asleep := pushF' x s.asleep } = s3 at *
  generalize { s with asleep := s.asleep ++ [x] } = s2 at *
  generalize slIf V x = xv at *
  go_enter Tryz.func197, Tryz.ntmps197
  go_wp2_with (first
    | (go_at_call 295; refine P.out.mono ?_; rintro e w2 ⟨rfl, p2⟩; obtain ⟨a, c, c8, up⟩ := Af.out w2 p2; have ml := Ml.out _ w2 c8; have Up := hide up; clear up p2 P)
    | (go_at_call 291; refine (slLen_any _ _ _ _).mono ?_; rintro e w3 ⟨rfl, rfl⟩)
    | (go_at_call 217; refine Up.out.mono ?_; rintro e w4 ⟨rfl, p4⟩))
  go_end0
  exact ⟨rfl, p4⟩
set_option maxRecDepth 20000 in
set_option maxHeartbeats 4000000 in
theorem hPop_any (n : Nat) (hn : s.asleep.length = n + 1) (w : World) (h : MsAt w mb ρ C V s) (hl : s.asleep.length ≤ 1000000000000) :
    Calls Tryz.prog 169 #[slI mb] w fun e w' => e = .returned (slIf V (popF s.asleep).1) ∧ MsPost mb C ρ V w { s with asleep := (popF s.asleep).2 } w' := by
  obtain ⟨a, c, hv⟩ := ownsRow_len (h.slp (fun x => x)).1
  have c8 := mslp_cell h
  have S := slSwap_any w h 0 n (by omega) (by omega)
  rw [hv, hn] at c8 S
  have after : ∀ w2, MsAt w2 mb ρ C V { s with asleep := slSwap s.asleep 0 n } ∧ MsGo V V ρ ρ w w2 → Calls Tryz.prog 198 #[slI mb, .int .i64 0, .int .i64 n] w2 fun e w3 => IsB e ∧ Calls Tryz.prog 294 #[.pointer (some ⟨mb, 8, none⟩)] w3 fun e w' => e = .returned (slIf V (popF s.asleep).1) ∧ MsPost mb C ρ V w { s with asleep := (popF s.asleep).2 } w' := by
    rintro w2 ⟨k2, g2⟩
    have e1 : (slSwap s.asleep 0 n).length = n + 1 := by rw [swap_len, hn]
    refine (hdown_any (s := { s with asleep := slSwap s.asleep 0 n }) n (by show n ≤ (slSwap s.asleep 0 n).length; omega) w2 k2 (by show (slSwap s.asleep 0 n).length ≤ _; omega)).mono ?_
    rintro e w3 ⟨he, k3, g3⟩
    refine ⟨he, ?_⟩
    have e2 : (downF n 0 n (slSwap s.asleep 0 n)).length = n + 1 := by rw [downF_len, e1]
    have e3 : popF s.asleep = ((downF n 0 n (slSwap s.asleep 0 n)).getD n (0, 0, 0), (downF n 0 n (slSwap s.asleep 0 n)).take n) := by
      unfold popF
      rw [hn, Nat.add_sub_cancel, downF_fuel (n + 1) n 0 n _ (by omega) (by omega)]
    rw [e3]
    refine (slPop_any (s := { s with asleep := downF n 0 n (slSwap s.asleep 0 n) }) n e2 w3 k3 (by show (downF n 0 n (slSwap s.asleep 0 n)).length ≤ _; omega)).mono ?_
    rintro e w4 ⟨rfl, ρ4, V4, k4, g4⟩
    exact ⟨rfl, ρ4, V4, k4, (g2.trans g3).trans g4⟩
  have Af := hide after
  have S := hide S
  clear after h hv
  have ml := mth_len mb (.slice a (n + 1) c)
  have ms := mth_swap mb (.slice a (n + 1) c)
  have ml1 := ml w c8
  have ms1 := ms w c8
  have mp := mth_pop mb
  clear ml ms
  rw [hn] at hl
  clear hn
  unfold slI at *
  generalize { s with asleep := (popF s.asleep).2 } = s3 at *
  generalize slIf V (popF s.asleep).1 = xv at *
  have hn1 : ((n + 1 : Nat) : Int) - 1 = (n : Int) := by omega
  go_enter Tryz.func169, Tryz.ntmps169
  go_wp2_with (first
    | (go_at_call 291; refine (slLen_any _ _ _ _).mono ?_; rintro e w3 ⟨rfl, hw⟩; have hw := hw.symm; subst hw)
    | (go_at_call 293; refine S.out.mono ?_; rintro e w2 ⟨rfl, k2⟩; have D := hide (Af.out _ k2); clear k2)
    | (go_at_call 198; refine D.out.mono ?_; rintro e w3 ⟨⟨bb, rfl⟩, pp⟩; have Po := hide pp; clear pp)
    | (go_at_call 294; refine Po.out.mono ?_; rintro e w4 ⟨rfl, p4⟩; have P4 := hide p4; clear p4))
  go_ret
  exact ⟨rfl, P4.out⟩
end
end Go.Proofs.YtnhidaamfnjdjaaGreatDoor
/- THOSE THAT SLEEP: fallAsleep, sleep. -/
namespace Go.Proofs.YtnhidaamfnjdjaaGreatDoor
open Go.RowKit Go.Maps

section
variable {mb : Nat} {ρ : Nat → MR} {C : CM} {V : MV} {s : MS}
set_option maxRecDepth 20000 in
set_option maxHeartbeats 4000000 in
theorem mfall_any (p : Nat) (n : Int) (hn0 : 0 < n) (hn1 : n ≤ 1000000) (t0 : 0 ≤ s.time) (t1 : s.time < 9000000000000000000) (o0 : 0 ≤ s.slept) (o1 : s.slept < 1000000000000) (w : World) (h : MsAt w mb ρ C V s) (hl : s.asleep.length + 1 ≤ 1000000000000) :
    Calls Tryz.prog 166 #[.pointer (some ⟨mb, 0, none⟩), V.ptr p, .int .i64 n] w fun e w' => e = .returned (.tuple #[]) ∧ MsPost mb C ρ V w { s with asleep := pushF' (s.time + n, s.slept, p) s.asleep, slept := s.slept + 1 } w' := by
  have c9 : w.cell? ⟨mb, 9, none⟩ = some (.int .i64 s.slept) := cell_at (h.blk (fun x => x)) 9
  have c10 : w.cell? ⟨mb, 10, none⟩ = some (.int .i64 s.time) := cell_at (h.blk (fun x => x)) 10
  have P : Hid (∀ wx, Below w.heap.size w wx → Calls Tryz.prog 197 #[slI mb, slIf V (s.time + n, s.slept, p)] wx fun e w' => e = .returned (.tuple #[]) ∧ MsPost mb C ρ V w { s with asleep := pushF' (s.time + n, s.slept, p) s.asleep } w' ∧ w'.cell? ⟨mb, 10, none⟩ = some (.int .i64 s.time) ∧ w'.cell? ⟨mb, 9, none⟩ = some (.int .i64 s.slept) ∧ (∀ i, w'.frozen? ⟨mb, i, none⟩ = false)) := hide (by
    intro wx b
    obtain ⟨kx, gx⟩ := h.low b
    refine (hPush_any _ wx kx hl).mono ?_
    rintro e w' ⟨rfl, ρ', V', k', g'⟩
    exact ⟨rfl, ⟨ρ', V', k', gx.trans g'⟩, cell_at (k'.blk (fun x => x)) 10, cell_at (k'.blk (fun x => x)) 9, mfroz k'⟩)
  have Fin : Hid (∀ w1, MsPost mb C ρ V w { s with asleep := pushF' (s.time + n, s.slept, p) s.asleep } w1 → MsPost mb C ρ V w { s with asleep := pushF' (s.time + n, s.slept, p) s.asleep, slept := s.slept + 1 } (w1.setCell ⟨mb, 9, none⟩ (.int .i64 (s.slept + 1)))) := hide (by
    rintro w1 ⟨ρ1, V1, k1, g1⟩
    obtain ⟨k2, g2⟩ := mset (V' := V1) (s' := { s with asleep := pushF' (s.time + n, s.slept, p) s.asleep, slept := s.slept + 1 }) k1 9 (.int .i64 (s.slept + 1)) rfl ((MsIf.strip k1).scal rfl s.cur (s.slept + 1) s.time s.ended s.faulty)
    exact ⟨ρ1, V1, k2, g1.trans g2⟩)
  clear h
  unfold slI slIf intV at P
  unfold MV.ptr ptrB at *
  generalize { s with asleep := pushF' (s.time + n, s.slept, p) s.asleep } = s2 at *
  generalize { s with asleep := pushF' (s.time + n, s.slept, p) s.asleep, slept := s.slept + 1 } = s3 at *
  generalize V.pb.getD p 0 = pb at *
  generalize s.time = tm at *
  generalize s.slept = sl at *
  have P2 := hide (P.out w.drew ⟨rfl, rfl, rfl, Nat.le_refl _, fun _ _ => rfl⟩)
  dsimp only at P2
  clear P
  go_enter Tryz.func166, Tryz.ntmps166
  go_wp2_with fail
  have hw1 : IntKind.i64.wrap (tm + n) = tm + n := by rw [IntKind.wrap_i64]; omega
  go_region_held3 (fun w' => w'.cell? ⟨mb, 10, none⟩ = some (.int .i64 tm) ∧ w'.cell? ⟨mb, 9, none⟩ = some (.int .i64 sl)) (first | exact ⟨c10, c9⟩ | exact ⟨q10, q9⟩) ((go_at_call 197; with_reducible refine P2.out.mono ?_; rintro e w1 ⟨rfl, p1, q10, q9, zz⟩; have P1 := hide p1; clear p1))
  clear c9 c10
  go_wp2_with fail
  go_end0
  exact ⟨rfl, Fin.out _ P1.out⟩
end
end Go.Proofs.YtnhidaamfnjdjaaGreatDoor
/- THOSE THAT SLEEP: sleep. -/
namespace Go.Proofs.YtnhidaamfnjdjaaGreatDoor
open Go.RowKit Go.Maps

section
variable {mb : Nat} {ρ : Nat → MR} {C : CM} {V : MV} {s : MS}
set_option maxRecDepth 20000 in
set_option maxHeartbeats 4000000 in
theorem msleep_any {p : Nat} {x : PPr} (hc : s.cur = some p) (hp : s.procs[p]? = some x) (l : List Int) (n : Int) (hs : s.stack = l ++ [n]) (t0 : 0 ≤ s.time) (t1 : s.time < 9000000000000000000) (o0 : 0 ≤ s.slept) (o1 : s.slept < 1000000000000) (a : Int) (w : World) (h : MsAt w mb ρ C V s) (hn : l.length ≤ 1000000000000) (hl : s.asleep.length + 1 ≤ 1000000000000) :
    Calls Tryz.prog 100 #[.pointer (some ⟨mb, 0, none⟩), .int .i64 a] w fun e w' => e = .returned (.tuple #[]) ∧ MsPost mb C ρ V w (if n > 1000000 then s.pop.fault else if n > 0 then ({ s.pop with asleep := pushF' (s.time + n, s.slept, p) s.asleep, slept := s.slept + 1 } : MS).wait p 1 else s.pop) w' := by
  have T := hide (mtake_st l n hs w h hn)
  have Fl := hide (fun w V (h : MsAt w mb ρ C V s.pop) => mfault_any (s := s.pop) w h)
  have Cu := hide (fun w V (h : MsAt w mb ρ C V s.pop) => mcur_cell (s := s.pop) h)
  have Go := hide (fun (w1 : World) (V1 : MV) (h : MsAt w1 mb ρ C V1 s.pop) (f : MsGo V V1 ρ ρ w w1) (g0 : 0 < n) (g1 : n ≤ 1000000) => (mfall_any (s := s.pop) p n g0 g1 t0 t1 o0 o1 w1 h hl).mono (R' := fun e w' => e = .returned (.tuple #[]) ∧ ∃ pb, w'.cell? ⟨mb, 5, none⟩ = some (.pointer (some ⟨pb, 0, none⟩)) ∧ Calls Tryz.prog 160 #[.pointer (some ⟨mb, 0, none⟩), .func (.func 161) #[.pointer (some ⟨pb, 0, none⟩)] #[]] w' fun e w'' => e = .returned (.tuple #[]) ∧ MsPost mb C ρ V w (({ s.pop with asleep := pushF' (s.time + n, s.slept, p) s.asleep, slept := s.slept + 1 } : MS).wait p 1) w'') (by
    rintro e w2 ⟨rfl, ρ2, V2, k2, g2⟩
    refine ⟨rfl, V2.pb.getD p 0, ?_, ?_⟩
    · have := mcur_cell k2
      rw [show ({ s.pop with asleep := pushF' (s.pop.time + n, s.pop.slept, p) s.pop.asleep, slept := s.pop.slept + 1 } : MS).cur = some p from hc] at this
      exact this
    · refine (mwait_any (s := { s.pop with asleep := pushF' (s.pop.time + n, s.pop.slept, p) s.pop.asleep, slept := s.pop.slept + 1 }) hc hp 1 (.inl rfl) w2 k2).mono ?_
      rintro e w3 ⟨rfl, k3, g3⟩
      exact ⟨rfl, ρ2, V2, k3, (f.trans g2).trans g3⟩))
  have hcp : s.pop.cur = some p := hc
  have Pt := hide (fun V1 : MV => (rfl : V1.ptr p = .pointer (some ⟨V1.pb.getD p 0, 0, none⟩)))
  by_cases h1 : n > 1000000
  · rw [if_pos h1]
    clear h hs hc hp Go
    go_enter Tryz.func100, Tryz.ntmps100
    go_wp2_with (first | (go_at_call 159; refine T.out.mono ?_; rintro e w1 ⟨rfl, v1, k1, f1⟩; have K1 := hide k1; have F1 := hide f1; clear k1 f1) | (go_at_call 157; refine (Fl.out _ _ K1.out).mono ?_; rintro e w2 ⟨rfl, p2⟩; obtain ⟨ρ2, V2, k2, f2⟩ := p2; have K2 := hide k2; have F2 := hide (F1.out.trans f2); clear k2 f2))
    try simp only [Exit.inBlock, Exit.then]
    refine bodyPost_ret (results_none rfl _ _ _) rfl ?_
    exact ⟨rfl, _, _, K2.out, F2.out⟩
  · rw [if_neg h1]
    by_cases h2 : n > 0
    · rw [if_pos h2]
      have Cp : Hid (∀ (w1 : World) (V1 : MV), MsAt w1 mb ρ C V1 s.pop → w1.cell? ⟨mb, 5, none⟩ = some (.pointer (some ⟨V1.pb.getD p 0, 0, none⟩))) := hide (fun w1 V1 h => by
        have := mcur_cell h
        rw [hcp] at this
        exact this)
      clear h hs hc hp hcp Cu
      have h3 : n ≤ 1000000 := by omega
      generalize (({ s.pop with asleep := pushF' (s.time + n, s.slept, p) s.asleep, slept := s.slept + 1 } : MS).wait p 1) = s3 at *
      go_enter Tryz.func100, Tryz.ntmps100
      go_wp2_with (first
        | (go_at_call 159; refine T.out.mono ?_; rintro e w1 ⟨rfl, v1, k1, f1⟩; have c5 := Cp.out _ _ k1; have Gx := hide (Go.out _ _ k1 f1 h2 h3); clear k1 f1 Go)
        | (go_at_call 166; refine Gx.out.mono ?_; rintro e w2 ⟨rfl, pb, c6, wt⟩; have Wt := hide wt; clear wt Gx c5)
        | (go_at_call 160; refine Wt.out.mono ?_; rintro e w3 ⟨rfl, p3⟩; have P3 := hide p3; clear p3))
      go_end0
      exact ⟨rfl, P3.out⟩
    · rw [if_neg h2]
      clear h hs hc hp Go
      go_enter Tryz.func100, Tryz.ntmps100
      go_wp2_with (go_at_call 159; refine T.out.mono ?_; rintro e w1 ⟨rfl, v1, k1, f1⟩; have K1 := hide k1; have F1 := hide f1; clear k1 f1)
      go_end0
      exact ⟨rfl, _, _, K1.out, F1.out⟩
end
theorem exec17 (s : MS) (br : List (Int × Int × Int)) (p : Nat) (a : Int) : s.exec br p 17 a = (if s.top > 1000000 then s.pop.fault else if s.top > 0 then ({ s.pop with asleep := pushF' (w64 (s.time + s.top), s.slept, p) s.asleep, slept := s.slept + 1 } : MS).wait p 1 else s.pop) := by
  unfold MS.exec
  rw [if_neg (by decide), if_neg (by decide), if_neg (by decide), if_neg (by decide), if_neg (by decide), if_neg (by decide), if_neg (by decide), if_neg (by decide), if_neg (by decide), if_neg (by decide), if_neg (by decide), if_neg (by decide), if_neg (by decide), if_neg (by decide), if_neg (by decide), if_neg (by decide), if_neg (by decide), if_pos rfl]
theorem ok17 {nb : Nat} {s : MS} {p : Nat} {a : Int} (hok : okX false nb s p 17 a = true) : okLens s = true ∧ 1 ≤ s.stack.length ∧ 0 ≤ s.time ∧ s.time < 9000000000000000000 ∧ 0 ≤ s.slept ∧ s.slept < 1000000000000 := by
  unfold okX at hok
  rw [if_neg (by decide), if_neg (by decide), if_neg (by decide), if_neg (by decide), if_neg (by decide), if_neg (by decide), if_neg (by decide), if_neg (by decide), if_pos rfl] at hok
  simp only [Bool.and_eq_true, decide_eq_true_eq] at hok
  obtain ⟨⟨hl, _⟩, ⟨⟨⟨⟨⟨_, h1⟩, _⟩, t0⟩, t1⟩, o0⟩, o1⟩ := hok
  exact ⟨hl, Nat.le_of_ble_eq_true h1, t0, t1, o0, o1⟩
theorem w17 (t n : Int) (t0 : 0 ≤ t) (t1 : t < 9000000000000000000) (n0 : 0 < n) (n1 : n ≤ 1000000) : w64 (t + n) = t + n := by
  have h : IntKind.i64.wrap (t + n) = w64 (t + n) := Go.IntWalk.i64_left _
  rw [← h]
  exact Go.IntWalk.i64_in _ (by omega)
theorem sleepH (mb : Nat) (C : CM) : SleepH mb C := by
  intro ρ V s p x a w h hc hp hok
  obtain ⟨hl, h1, t0, t1, o0, o1⟩ := ok17 hok
  obtain ⟨_, _, l3, _, _, _, l7⟩ := okLens_at hl
  obtain ⟨l, n, hs, ht, hln⟩ := st1 (s := s) h1
  have e2 : ∀ (A D : MS) (f : Int → MS), (if n > 1000000 then A else if n > 0 then f (w64 (s.time + n)) else D) = (if n > 1000000 then A else if n > 0 then f (s.time + n) else D) := by
    intro A D f
    split
    · rfl
    · split
      · rw [w17 _ _ t0 t1 (by omega) (by omega)]
      · rfl
  have e3 := e2 s.pop.fault s.pop (fun t => ({ s.pop with asleep := pushF' (t, s.slept, p) s.asleep, slept := s.slept + 1 } : MS).wait p 1)
  rw [exec17, ht, e3]
  exact msleep_any hc hp l n hs t0 t1 o0 o1 a w h (by omega) (by omega)
end Go.Proofs.YtnhidaamfnjdjaaGreatDoor
