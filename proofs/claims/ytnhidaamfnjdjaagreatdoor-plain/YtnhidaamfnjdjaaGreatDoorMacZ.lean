import Derived.Test.YtnhidaamfnjdjaaGreatDoorMacS
import Derived.Test.YtnhidaamfnjdjaaGreatDoorMacR
/- READING: the first open way that can be read, or waiting at all of them. -/
namespace Go.Proofs.YtnhidaamfnjdjaaGreatDoor
open Go.RowKit Go.Maps

section
variable {mb : Nat} {ρ : Nat → MR} {C : CM} {V : MV} {s : MS}

theorem goOn_kept (p : Nat) (s : MS) : (s.goOn p).vars = s.vars ∧ (s.goOn p).procs.length = s.procs.length := by
  unfold MS.goOn MS.setPr
  dsimp only
  split <;> simp
theorem recv_kept {c : Nat} {x : PCh} {n : Int} {l : List Int} (hx : s.chans[c]? = some x) (hn : x.nums = n :: l) (hw : ∀ q, x.wr = some q → ∃ y, s.procs[q]? = some y ∧ y.told = 1) : (s.receive c).1 = n ∧ (s.receive c).2.vars = s.vars ∧ (s.receive c).2.procs.length = s.procs.length := by
  have hlt : c < s.chans.length := (List.getElem?_eq_some_iff.1 hx).1
  unfold MS.receive
  rw [ch_get hx, hn, setCh_nat]
  have e : ({ s with chans := s.chans.set c { x with nums := (n :: l).tail } } : MS).ch (c : Int) = { x with nums := l } := ch_get (by show (s.chans.set c _)[c]? = _; rw [List.getElem?_set_self hlt]; rfl)
  dsimp only
  rw [e]
  dsimp only
  cases hwr : x.wr with
  | none => exact ⟨rfl, rfl, rfl⟩
  | some q =>
    dsimp only
    obtain ⟨y, hy, hyt⟩ := hw q hwr
    have key : ∀ t : MS, t.procs = s.procs → t.vars = s.vars → (t.tell q 0 0).vars = s.vars ∧ (t.tell q 0 0).procs.length = s.procs.length := fun t h1 h2 => by
      rw [tell_one (s := t) (y := y) (by rw [h1]; exact hy) hyt, ← h1, ← h2]
      exact goOn_kept q t
    exact ⟨rfl, key _ rfl rfl⟩
theorem mreceive_any {c g cap : Nat} {x : PCh} {n : Int} {l : List Int} (hx : s.chans[c]? = some x) (hv : V.ch = .slice (some ⟨g, 0, none⟩) s.chans.length cap) (hn : x.nums = n :: l) (hw : ∀ q, x.wr = some q → ∃ y, s.procs[q]? = some y ∧ y.told = 1) (w : World) (h : MsAt w mb ρ C V s) (hl : l.length ≤ 1000000000000) (hu : s.urg.length + 1 ≤ 1000000000000) (ho : s.oth.length + 1 ≤ 1000000000000) :
    Calls Tryz.prog 164 #[.pointer (some ⟨g, c * 3, none⟩)] w fun e w' => e = .returned (.int .i64 n) ∧ MsPost mb C ρ V w (s.receive c).2 w' := by
  cases hwr : x.wr with
  | none => exact mreceive_none hx hv hn hwr w h hl
  | some q =>
    obtain ⟨y, hy, hyt⟩ := hw q hwr
    exact mreceive_some hx hv hn hwr hy hyt w h hl hu ho

theorem findR_at {l : List (Int × Int × Int)} {f : Int × Int × Int → Bool} {j : Nat} (hj : j < l.length) (hne : ∀ i, i < j → f (l.getD i (0, 0, 0)) = false) (he : f (l.getD j (0, 0, 0)) = true) : l.find? f = some (l.getD j (0, 0, 0)) := by
  rw [List.find?_eq_some_iff_getElem]
  refine ⟨he, j, hj, ?_, fun i hi => ?_⟩
  · rw [getD_lt _ _ _ hj]
  · have := hne i hi
    rw [getD_lt _ _ _ (by omega)] at this
    simpa using this
theorem findR_no {l : List (Int × Int × Int)} {f : Int × Int × Int → Bool} (hne : ∀ i, i < l.length → f (l.getD i (0, 0, 0)) = false) : l.find? f = none := by
  rw [List.find?_eq_none]
  intro a ha
  obtain ⟨i, hi, rfl⟩ := List.getElem_of_mem ha
  have := hne i hi
  rw [getD_lt _ _ _ hi] at this
  simpa using this

def junkR (ρ : Nat → MR) (b : Nat) : Nat → MR := fun g => if g = b then .junk else ρ g
theorem MsAt.allocJ {w : World} (h : MsAt w mb ρ C V s) (O : Obj) : MsAt (w.alloc O) mb (junkR ρ w.heap.size) C V s ∧ MsGo V V ρ (junkR ρ w.heap.size) w (w.alloc O) := by
  have fr : MsFr NoR ρ (junkR ρ w.heap.size) w (w.alloc O) := by
    refine ⟨rfl, rfl, rfl, by simp, fun g hg _ => ⟨Below.heap_alloc _ _ _ hg, ?_⟩⟩
    unfold junkR
    rw [if_neg (by omega)]
  refine ⟨MsIf.keep h fr ?_, fr.weak (fun r hr => hr.elim), List.prefix_rfl⟩
  have := h.rb.2
  unfold junkR
  rw [if_neg (by omega)]
  exact h.rb.1
theorem junkR_new (ρ : Nat → MR) (b : Nat) : junkR ρ b b = .junk := by unfold junkR; rw [if_pos rfl]

def MS.setRd (p : Nat) (s : MS) (b : Int × Int × Int) : MS := s.setCh b.1 { s.ch b.1 with rd := some p }
theorem setRd_chans (s : MS) (p k : Nat) (x : PCh) (hx : s.chans[k]? = some x) (br : Int × Int × Int) (hb : br.1 = k) : MS.setRd p s br = { s with chans := s.chans.set k { x with rd := some p } } := by
  unfold MS.setRd
  rw [hb, ch_get hx, setCh_nat]
theorem setRd_len (p : Nat) (br : Int × Int × Int) (s : MS) : (MS.setRd p s br).chans.length = s.chans.length ∧ (MS.setRd p s br).procs = s.procs ∧ (MS.setRd p s br).cur = s.cur := by
  unfold MS.setRd MS.setCh
  simp
theorem setRds_len (p : Nat) : ∀ (l : List (Int × Int × Int)) (s : MS), (l.foldl (MS.setRd p) s).chans.length = s.chans.length ∧ (l.foldl (MS.setRd p) s).procs = s.procs ∧ (l.foldl (MS.setRd p) s).cur = s.cur
  | [], _ => ⟨rfl, rfl, rfl⟩
  | b :: l, s => by
    have a := setRd_len p b s
    have c := setRds_len p l (MS.setRd p s b)
    simp only [List.foldl_cons]
    exact ⟨c.1.trans a.1, c.2.1.trans a.2.1, c.2.2.trans a.2.2⟩

def MS.readF (s : MS) (p : Nat) : MS :=
  match (s.pr p).opn.find? (fun b => !(s.ch b.1).nums.isEmpty) with
    | some b => (s.receive b.1).2.follow p b (s.receive b.1).1
    | none => ((s.pr p).opn.foldl (fun s b => s.setCh b.1 { s.ch b.1 with rd := some p }) s).wait p 2

set_option maxRecDepth 20000 in
set_option maxHeartbeats 4000000 in
theorem mread_any {p : Nat} {x : PPr} (hc : s.cur = some p) (hp : s.procs[p]? = some x) (hb : ∀ br ∈ x.opn, (∃ k : Nat, br.1 = k ∧ k < s.chans.length) ∧ ∃ i : Nat, br.2.1 = i ∧ i < s.vars.length) (hw : ∀ y ∈ s.chans, ∀ q, y.wr = some q → ∃ z, s.procs[q]? = some z ∧ z.told = 1) (hnl : ∀ y ∈ s.chans, y.nums.length ≤ 1000000000000) (a : Int) (w : World) (h : MsAt w mb ρ C V s) (hol : x.opn.length ≤ 1000000000000) (hcl0 : s.chans.length ≤ 1000000000000) (hvl : s.vars.length ≤ 1000000000000) (hu : s.urg.length + 1 ≤ 1000000000000) (ho : s.oth.length + 1 ≤ 1000000000000) :
    Calls Tryz.prog 99 #[.pointer (some ⟨mb, 0, none⟩), .int .i64 a] w fun e w' => e = .returned (.tuple #[]) ∧ MsPost mb C ρ V w (s.readF p) w' := by
  have q := h.proc p x hp (fun x => x)
  have o := h.opn p x hp (fun x => x)
  have c5 := mcur_cell h
  rw [hc] at c5
  unfold MV.ptrO at c5
  simp only [Option.map_some] at c5
  obtain ⟨oa, oc, hov⟩ := ownsRow_len o.1
  have d4 : w.cell? ⟨V.pb.getD p 0, 4, none⟩ = some (.slice oa x.opn.length oc) := by rw [← hov]; exact cell_at q.1 4
  have hlen := h.lens
  have hpl : p < s.procs.length := (List.getElem?_eq_some_iff.1 hp).1
  have H := hide h; have Hov := hide hov
  clear h q o hov
  generalize hpb : V.pb.getD p 0 = pb at *
  have Hpb := hide hpb
  clear hpb
  go_enter Tryz.func99, Tryz.ntmps99
  go_wp2_with fail
  go_loopw [6, 19] (fun _ y wr => ∃ (j : Nat) (ρ' : Nat → MR), j ≤ x.opn.length ∧ y = .int .i64 j ∧ MsAt wr mb ρ' C V s ∧ MsGo V V ρ ρ' w wr ∧ ∀ i, i < j → (!(s.ch (x.opn.getD i (0, 0, 0)).1).nums.isEmpty) = false) (fun _ y _ => x.opn.length - (intOf y).toNat)
  case atStart => exact ⟨0, ρ, Nat.zero_le _, rfl, H.out, MsGo.refl _ _ _, fun i hi => by omega⟩
  case round =>
    obtain ⟨j, ρ', hj, rfl, k1, f1, hne⟩ := hrel
    by_cases hlt : j < x.opn.length
    · have o1 := k1.opn p x hp (fun x => x)
      obtain ⟨g, cap, cur, e1, hg, hn, hcc, hsz, hxs⟩ := row_pos o1.1 (by omega)
      have hov2 := Hov.out
      rw [hov2] at e1
      simp only [Value.slice.injEq, true_and] at e1
      obtain ⟨rfl, rfl⟩ := e1
      have hww := waysV_at x.opn j hlt
      have a0 : wr.cell? ⟨g, j * 3, none⟩ = some (.int .i64 (x.opn.getD j (0, 0, 0)).1) := ownsRow_cell hg hxs hww.1
      have a1 : wr.cell? ⟨g, j * 3 + 1, none⟩ = some (.int .i64 (x.opn.getD j (0, 0, 0)).2.1) := ownsRow_cell hg hxs hww.2.1
      have a2 : wr.cell? ⟨g, j * 3 + 2, none⟩ = some (.int .i64 (x.opn.getD j (0, 0, 0)).2.2) := ownsRow_cell hg hxs hww.2.2
      obtain ⟨⟨k, hbk, hkl⟩, i, hbi, hil⟩ := hb (x.opn.getD j (0, 0, 0)) (by rw [getD_lt _ _ _ hlt]; exact List.getElem_mem hlt)
      obtain ⟨y, hy⟩ : ∃ y, s.chans[k]? = some y := ⟨_, List.getElem?_eq_getElem hkl⟩
      have hym : y ∈ s.chans := List.mem_of_getElem? hy
      have hch : s.ch (x.opn.getD j (0, 0, 0)).1 = y := by rw [hbk]; exact ch_get hy
      rw [hbk] at a0
      have kA := k1.allocJ (.cells #[.int .i64 (k : Int), .int .i64 (x.opn.getD j (0, 0, 0)).2.1, .int .i64 (x.opn.getD j (0, 0, 0)).2.2] 207)
      have hB := at_new wr (.cells #[.int .i64 (k : Int), .int .i64 (x.opn.getD j (0, 0, 0)).2.1, .int .i64 (x.opn.getD j (0, 0, 0)).2.2] 207)
      have b0 := cell_at hB 0
      have b1 := cell_at hB 1
      have b2 := cell_at hB 2
      have hB8 : ∀ (w8 : World) (ρ8 : Nat → MR) (V8 : MV), MsGo V V8 (junkR ρ' wr.heap.size) ρ8 (wr.alloc (.cells #[.int .i64 (k : Int), .int .i64 (x.opn.getD j (0, 0, 0)).2.1, .int .i64 (x.opn.getD j (0, 0, 0)).2.2] 207)) w8 → w8.cell? ⟨wr.heap.size, 0, none⟩ = some (.int .i64 (k : Int)) ∧ w8.cell? ⟨wr.heap.size, 1, none⟩ = some (.int .i64 (x.opn.getD j (0, 0, 0)).2.1) ∧ w8.cell? ⟨wr.heap.size, 2, none⟩ = some (.int .i64 (x.opn.getD j (0, 0, 0)).2.2) := by
        intro w8 ρ8 V8 g8
        have e := (g8.fr.block wr.heap.size (by simp) (by rw [junkR_new]; simp)).1
        rw [hB] at e
        exact ⟨cell_at e 0, cell_at e 1, cell_at e 2⟩
      obtain ⟨g2, cap2, hv2, h21, h22, c3, e0, e1, e2, fz2, ne2⟩ := mchan_at kA.1 hy
      have Cb := hide (fun w' h' => mcanBeRead_any (mb := mb) (ρ := junkR ρ' wr.heap.size) (C := C) hy hv2 w' h')
      have KA := hide kA.1
      have FA := hide (f1.trans kA.2)
      cases hnu : y.nums with
      | nil =>
        rw [hnu] at Cb
        have hd : decide (0 < ([] : List Int).length) = false := rfl
        rw [hd] at Cb
        have hnext : ∀ i, i < j + 1 → (!(s.ch (x.opn.getD i (0, 0, 0)).1).nums.isEmpty) = false := fun i hi => by
          rcases Nat.lt_or_ge i j with z | z
          · exact hne i z
          · have : i = j := by omega
            subst this
            rw [hch, hnu]
            rfl
        have Hnext := hide hnext
        clear k1 f1 hne o1 hg hxs hsz hww kA hB hB8 hnext hch hbk hbi hv2 e0 e1 e2 fz2 ne2
        generalize x.opn.getD j (0, 0, 0) = br at *
        generalize s.chans.length = ncl at *
        obtain ⟨br1, br2, br3⟩ := br
        simp only at *
        go_wp2_with fail
        go_region
        all_goals
          go_wp2_with (go_at_call 162; refine (Cb.out _ (by exact KA.out.drew)).mono ?_; rintro e w2 ⟨rfl, hw2⟩; have hw2 := hw2.symm; subst hw2)
          go_roundw
          case rel => exact ⟨j + 1, _, by omega, by go_num, KA.out.drew, FA.out.drew, Hnext.out⟩
          case measure => simp [intOf]; omega
      | cons n l =>
        rw [hnu] at Cb
        have hd : decide (0 < (n :: l).length) = true := by simp
        rw [hd] at Cb
        have hrk := recv_kept hy hnu (hw y hym)
        have hll : l.length ≤ 1000000000000 := by have := hnl y hym; rw [hnu] at this; simp at this; omega
        have hrd : s.readF p = (s.receive k).2.follow p (x.opn.getD j (0, 0, 0)) n := by
          unfold MS.readF
          rw [pr_get hp, findR_at hlt hne (by rw [hch, hnu]; rfl)]
          dsimp only
          rw [hbk, hrk.1]
        obtain ⟨x8, hx8⟩ : ∃ x8, (s.receive k).2.procs[p]? = some x8 := ⟨_, List.getElem?_eq_getElem (by rw [hrk.2.2]; exact hpl)⟩
        have Rc := hide (fun w' h' => mreceive_any (mb := mb) (ρ := junkR ρ' wr.heap.size) (C := C) hy hv2 hnu (hw y hym) w' h' hll hu ho)
        have fo : ∀ (w8 : World) (ρ8 : Nat → MR) (V8 : MV), MsAt w8 mb ρ8 C V8 (s.receive k).2 → MsGo V V8 (junkR ρ' wr.heap.size) ρ8 (wr.alloc (.cells #[.int .i64 (k : Int), .int .i64 (x.opn.getD j (0, 0, 0)).2.1, .int .i64 (x.opn.getD j (0, 0, 0)).2.2] 207)) w8 → Calls Tryz.prog 163 #[.pointer (some ⟨pb, 0, none⟩), .agg #[.int .i64 (k : Int), .int .i64 (x.opn.getD j (0, 0, 0)).2.1, .int .i64 (x.opn.getD j (0, 0, 0)).2.2], .int .i64 n] w8 fun e w' => e = .returned (.tuple #[]) ∧ MsPost mb C ρ V w (s.readF p) w' := by
          intro w8 ρ8 V8 k8 g8
          have e8 : V8.pb.getD p 0 = pb := by rw [g8.ptr (by rw [hlen.1]; exact hpl)]; exact Hpb.out
          have c8 := mfollow_any hx8 (x.opn.getD j (0, 0, 0)) i hbi (by rw [hrk.2.1]; exact hil) (by rw [hrk.2.1]; exact hvl) n w8 k8
          unfold MV.ptr ptrB at c8
          rw [e8, hbk] at c8
          refine c8.mono ?_
          rintro e w9 ⟨he, ρ9, V9, k9, g9⟩
          refine ⟨he, ρ9, V9, ?_, (FA.out.trans g8).trans g9⟩
          rw [hrd]
          exact k9
        have Fo := hide fo; have HB8 := hide hB8
        clear k1 f1 hne o1 hg hxs hsz hww kA hB hB8 hch hbi hv2 e0 e1 e2 fz2 ne2 fo hrd hrk hx8 hbk
        generalize x.opn.getD j (0, 0, 0) = br at *
        generalize s.chans.length = ncl at *
        generalize (s.receive k).2 = s8 at *
        obtain ⟨br1, br2, br3⟩ := br
        simp only at *
        go_wp2_with fail
        go_region
        all_goals
          go_wp2_with (go_at_call 162; refine (Cb.out _ (by exact KA.out.drew)).mono ?_; rintro e w2 ⟨rfl, hw2⟩; have hw2 := hw2.symm; subst hw2)
          go_region_with (first
            | (go_at_call 164; refine (Rc.out _ (by exact KA.out.drew.drew)).mono ?_; rintro e w8 ⟨rfl, ρ8, V8, k8, g8⟩; have g8' := (MsGo.refl V (junkR ρ' wr.heap.size) _).drew.drew.trans g8; obtain ⟨m0, m1, m2⟩ := HB8.out _ _ _ g8'; have Fo8 := hide (Fo.out _ _ _ k8 g8'); clear k8 g8 g8')
            | (go_at_call 163; refine Fo8.out.mono ?_; rintro e w9 ⟨rfl, p9⟩; have P9 := hide p9; clear p9))
          all_goals
            go_wp2_with fail
            refine bodyPost_ret (results_none rfl _ _ _) rfl ?_
            exact ⟨rfl, P9.out⟩
    · have hno : (s.pr p).opn.find? (fun b => !(s.ch b.1).nums.isEmpty) = none := by rw [pr_get hp]; exact findR_no (fun i hi => hne i (by omega))
      have hrd : s.readF p = (x.opn.foldl (MS.setRd p) s).wait p 2 := by
        unfold MS.readF
        rw [hno, pr_get hp]
        rfl
      have d4' : wr.cell? ⟨pb, 4, none⟩ = some (.slice oa x.opn.length oc) := by rw [← Hpb.out, ← Hov.out]; exact cell_at (k1.proc p x hp (fun x => x)).1 4
      have K1 := hide k1; have F1 := hide f1; have Hrd := hide hrd
      clear k1 f1 hne hno hrd
      go_wp2_with fail
      go_loopw [9, 43] (fun _ y wr => ∃ (j : Nat) (ρ' : Nat → MR), j ≤ x.opn.length ∧ y = .int .i64 j ∧ MsAt wr mb ρ' C V ((x.opn.take j).foldl (MS.setRd p) s) ∧ MsGo V V ρ ρ' w wr) (fun _ y _ => x.opn.length - (intOf y).toNat)
      case atStart => exact ⟨0, ρ', Nat.zero_le _, rfl, K1.out, F1.out⟩
      case round =>
        obtain ⟨j, ρ2, hj, rfl, k1, f1⟩ := hrel
        have hlenS := setRds_len p (x.opn.take j) s
        have hp1 : ((x.opn.take j).foldl (MS.setRd p) s).procs[p]? = some x := by rw [hlenS.2.1]; exact hp
        have o1 := k1.opn p x hp1 (fun x => x)
        by_cases hlt : j < x.opn.length
        · obtain ⟨g, cap, cur, e1, hg, hn, hcc, hsz, hxs⟩ := row_pos o1.1 (by omega)
          have hov2 := Hov.out
          rw [hov2] at e1
          simp only [Value.slice.injEq, true_and] at e1
          obtain ⟨rfl, rfl⟩ := e1
          have hww := waysV_at x.opn j hlt
          have a0 : wr.cell? ⟨g, j * 3, none⟩ = some (.int .i64 (x.opn.getD j (0, 0, 0)).1) := ownsRow_cell hg hxs hww.1
          have a1 : wr.cell? ⟨g, j * 3 + 1, none⟩ = some (.int .i64 (x.opn.getD j (0, 0, 0)).2.1) := ownsRow_cell hg hxs hww.2.1
          have a2 : wr.cell? ⟨g, j * 3 + 2, none⟩ = some (.int .i64 (x.opn.getD j (0, 0, 0)).2.2) := ownsRow_cell hg hxs hww.2.2
          obtain ⟨⟨k, hbk, hkl⟩, _⟩ := hb (x.opn.getD j (0, 0, 0)) (by rw [getD_lt _ _ _ hlt]; exact List.getElem_mem hlt)
          have hst : (x.opn.take (j + 1)).foldl (MS.setRd p) s = MS.setRd p ((x.opn.take j).foldl (MS.setRd p) s) (x.opn.getD j (0, 0, 0)) := by
            rw [List.take_add_one, List.getElem?_eq_getElem hlt, List.foldl_append, getD_lt _ _ _ hlt]
            rfl
          have hkl2 : k < ((x.opn.take j).foldl (MS.setRd p) s).chans.length := by rw [hlenS.1]; exact hkl
          obtain ⟨y, hy⟩ : ∃ y, ((x.opn.take j).foldl (MS.setRd p) s).chans[k]? = some y := ⟨_, List.getElem?_eq_getElem hkl2⟩
          rw [setRd_chans _ p k y hy _ hbk] at hst
          have hcl : ((x.opn.take j).foldl (MS.setRd p) s).chans.length ≤ 1000000000000 := by rw [hlenS.1]; exact hcl0
          rw [hbk] at a0
          generalize x.opn.getD j (0, 0, 0) = br at *
          generalize (x.opn.take j).foldl (MS.setRd p) s = S at *
          have kA := k1.alloc (.cells #[.int .i64 (k : Int), .int .i64 br.2.1, .int .i64 br.2.2] 207)
          have b0 : (wr.alloc (.cells #[.int .i64 (k : Int), .int .i64 br.2.1, .int .i64 br.2.2] 207)).cell? ⟨wr.heap.size, 0, none⟩ = some (.int .i64 (k : Int)) := cell_at (at_new wr _) 0
          obtain ⟨g2, cap2, hv2, h21, h22, c3, e0, e1, e2, fz2, ne2⟩ := mchan_at kA.1 hy
          have fin := mchan_set kA.1 hy hv2 1 (by omega) (.pointer (some ⟨pb, 0, none⟩)) (x' := { y with rd := some p }) (by unfold MV.chan MV.ptrO; rw [Option.map_some, Hpb.out]; rfl) rfl
          rw [← hst] at fin
          have Fin := hide fin.1.drew; have F2 := hide ((f1.trans kA.2).trans fin.2.drew)
          unfold MV.ptrO at e1
          clear k1 f1 o1 hg hxs hsz hww hst kA fin hbk hp1 hlenS hy e0 e2 hv2 ne2
          generalize y.rd.map (fun i => (⟨V.pb.getD i 0, 0, none⟩ : Addr)) = ra at *
          generalize S.chans.length = ncl at *
          generalize br.2.1 = q1 at *
          generalize br.2.2 = q2 at *
          go_wp2_with fail
          go_region
          all_goals
            go_wp2_with fail
            go_roundw
            case rel => exact ⟨j + 1, ρ2, by omega, by go_num, Fin.out, F2.out⟩
            case measure => simp [intOf]; omega
        · have e : x.opn.take j = x.opn := List.take_of_length_le (by omega)
          rw [e] at k1 hlenS hp1
          have Wt := mwait_any (by rw [hlenS.2.2]; exact hc) hp1 2 (.inr rfl) wr k1
          have Wt2 : Calls Tryz.prog 160 #[.pointer (some ⟨mb, 0, none⟩), toldV 2 (V.pb.getD p 0)] wr fun e w' => e = .returned (.tuple #[]) ∧ MsPost mb C ρ V w (s.readF p) w' := by
            refine Wt.mono ?_
            rintro e w9 ⟨he, k9, g9⟩
            refine ⟨he, _, _, ?_, f1.trans g9⟩
            rw [Hrd.out]
            exact k9
          rw [Hpb.out] at Wt2
          have et : toldV 2 pb = .func (.func 165) #[.pointer (some ⟨pb, 0, none⟩)] #[] := rfl
          rw [et] at Wt2
          have WT := hide Wt2
          clear k1 f1 o1 Wt Wt2 e et
          go_wp2_with (go_at_call 160; refine WT.out.mono ?_; rintro e w9 ⟨rfl, p9⟩; have P9 := hide p9; clear p9)
          go_end0
          exact ⟨rfl, P9.out⟩
end
end Go.Proofs.YtnhidaamfnjdjaaGreatDoor
