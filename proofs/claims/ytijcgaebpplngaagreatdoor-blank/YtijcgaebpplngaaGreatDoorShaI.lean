import Derived.Test.YtijcgaebpplngaaGreatDoorShaF
namespace Go.Proofs.YtijcgaebpplngaaGreatDoor
open Go.RowKit Go.Maps

set_option maxRecDepth 20000 in
set_option maxHeartbeats 4000000 in
theorem sproc_any (ρ : Nat → Role) (sb : Nat) (ns : List PNode) (ms : List NM) (hj : ρ sb = .junk) (hup : Up ns) (hok : ∀ i, UseOk (ownU (ns.getD i default))) (hfew : ∀ i, (ns.getD i default).kids.length ≤ 100000) (f : Nat) (ih : ShareSaid ρ sb ns ms f) : ShareSaid ρ sb ns ms (f + 1) := by
  intro w s i m ht hi hm hf hs
  rw [shareF_succ]
  generalize hn : ns.getD i default = n
  have hN := ht.at' i (ns.getD i default) m (by rw [getD_lt _ _ _ hi]; simp [hi]) hm
  rw [hn] at hN
  have hokn : UseOk (ownU n) := by rw [← hn]; exact hok i
  have hfn : n.kids.length ≤ 100000 := by rw [← hn]; exact hfew i
  have kin : ∀ j (hj : j < n.kids.length), i < n.kids[j] ∧ n.kids[j] < ns.length := fun j hj => hup i _ (by rw [hn]; exact List.getElem_mem hj)
  have hlt := lt_of_at hs
  have hnb : m.blk < w.heap.size := lt_of_at hN.cells
  have hne : m.blk ≠ sb := by intro e; have := hN.role; rw [e, hj] at this; cases this
  have own1 := own_any w m.blk n m hN.cells hN.expr hN.exlt hokn
  have okf := shareF_ok ns hok f
  have okq : ∀ j, ∀ u ∈ ((n.kids.take j).foldl (stepS ns f) ([], s)).1, UseOk u := fun j => stepS_ok ns f okf _ _ (by simp)
  have lenq : ∀ j, j ≤ n.kids.length → ((n.kids.take j).foldl (stepS ns f) ([], s)).1.length = j := fun j hj => by rw [stepS_len]; simp; omega
  obtain ⟨sa, sc, hsl⟩ := ownsRow_len hN.own
  have HN := hide hN; have Ht := hide ht; have Hs := hide hs; have Own1 := hide own1; have Ih := hide ih; have Kin := hide kin; have Okq := hide okq; have Okf := hide okf; have Lenq := hide lenq; have Hsl := hide hsl
  clear hN ht hs own1 ih kin okq okf lenq hsl hok hup hfew
  generalize hR : restS n (n.kids.foldl (stepS ns f) ([], s)) = R
  have HR := hide hR
  clear hR
  go_enter Tryz.func58, Tryz.ntmps58
  go_wp2_with fail
  refine Own1.out.mono ?_
  rintro e w1 ⟨rfl, mo1, g1⟩
  have c7 : w1.cell? ⟨m.blk, 7, none⟩ = some (.slice sa n.kids.length sc) := cell_grown (by rw [cell_at HN.out.cells 7, ← Hsl.out]; rfl) g1 (by simp)
  have Mo1 := hide mo1; have G1 := hide g1
  clear mo1 g1
  go_wp2_with fail
  go_loopw [6, 8, 9, 17] (fun sv _ _ x wr => ∃ (j : Nat) (bs : List Nat), j ≤ n.kids.length ∧ x = .int .i64 j ∧ LoopS w sb n ((n.kids.take j).foldl (stepS ns f) ([], s)) w.heap.size sv bs wr) (fun _ _ _ x _ => n.kids.length - (intOf x).toNat)
  case atStart =>
    refine ⟨0, [], Nat.zero_le _, rfl, rfl, World.ownsRow_nil _ 0 _ 1, fun g hg => by simp [Value.ownBlock] at hg, fun i hi => by simp at hi, fun b hb => by simp at hb, by simpa using Mo1.out, Nat.le_refl _, ?_, G1.out.but _⟩
    rw [G1.out.block sb hlt (by simp)]; exact Hs.out
  case round =>
    obtain ⟨j, bs, hjn, rfl, hL⟩ := hrel
    have L := hide hL
    clear hL
    have Tr : Hid (TreeAt wr ρ ns ms) := Ht.out.grown L.out.grown (fun k hk => by injection hk with hk; subst hk; exact hj)
    have hnr : wr.heap[m.blk]? = w.heap[m.blk]? := L.out.grown.block _ hnb (by simpa using hne)
    obtain ⟨va, vc, hsv⟩ := ownsRow_len L.out.own
    subst hsv
    rw [Lenq.out j hjn] at *
    by_cases hjk : j < n.kids.length
    · have hk := Kin.out j hjk
      have hNr := Tr.out.at' i (ns.getD i default) m (by rw [getD_lt _ _ _ hi]; simp [hi]) hm
      rw [hn] at hNr
      obtain ⟨g, cap, cur, hg1, hg, hc1, hc2, hc3, hc4⟩ := ownsRow_shape hNr.own (by omega)
      have esl : Value.slice sa n.kids.length sc = .slice (some ⟨g, 0, none⟩) n.kids.length cap := Hsl.out.symm.trans hg1
      injection esl with ea _ ec
      subst ea; subst ec
      obtain ⟨mk, hmk, _, hbk⟩ := Tr.out.get (i := n.kids[j]) hk.2
      have ci : wr.cell? ⟨g, j, none⟩ = some (.pointer (some ⟨mk.blk, 0, none⟩)) := by
        have : wr.cell? ⟨g, j, none⟩ = some (ptrTo ms n.kids[j]) := by
          refine ownsRow_cell hg hc4 ?_
          simp [hjk]
        rw [this]; unfold ptrTo; rw [hbk]
      have hjl : (j : Int) < (n.kids.length : Int) := by omega
      have es := foldl_take_succ (stepS ns f) n.kids ([], s) j hjk
      have Es := hide es; have Hmk := hide hmk; have Hcs := hide L.out.cell
      have hkf : ns.length - n.kids[j] ≤ f := by omega
      clear hNr hg1 hg hc1 hc2 hc3 hc4 hbk es hmk
      have hj5 : j ≤ 100000 := by omega
      have oku : UseOk (ownU n ++ ((n.kids.take j).foldl (stepS ns f) ([], s)).1.flatten) := hokn.append (UseOk.flat (Okq.out j))
      have lq := Lenq.out j hjn
      generalize hq : (n.kids.take j).foldl (stepS ns f) ([], s) = q at *
      clear hq
      subst lq
      have okk := Okf.out q.2 n.kids[q.1.length]
      go_wp2_with (first
        | (go_at_call 58
           refine (Ih.out _ q.2 n.kids[q.1.length] mk Tr.out hk.2 Hmk.out hkf Hcs.out).mono ?_
           clear Hcs
           rintro e w2 ⟨b, rfl, hb, m2, c2, g2⟩
           have own2 : w2.ownsRow 0 127 1 (.slice va q.1.length vc) q.1.length (bs.map mapV) := ownsRow_frame L.out.own (fun g hg => g2.block g (L.out.own.lt g hg).2 (by
             intro e; injection e with e; subst e
             have := (L.out.ownge _ hg).1; omega))
           have M2 := hide m2; have C2 := hide c2; have G2 := hide g2; have Own2 := hide own2
           clear m2 c2 g2 own2)
        | (at_builtin
           refine wpList_append1 Tryz.underlying164 (z := .map none) (bytes := 8) (by kernel_rfl) rfl (by decide) rfl _ _ rfl (.slice va q.1.length vc) _ _ rfl (Own2.out.alloc _) ⟨w2.heap.size, 0, none⟩ 1 (mapV b) rfl (new_cell _ _ rfl _ _) rfl hj5 ?_
           clear Own2
           intro v' w4 o4 g4 b4
           obtain ⟨va', vc', rfl⟩ := ownsRow_len o4
           have mid := L.out.mid hlt hb M2.out G2.out g4
           have O4 := hide o4; have G4 := hide g4; have B4 := hide b4; have Mid := hide mid
           clear o4 g4 b4 mid)
        | (go_at_call 109
           refine (useJoin_any _ _ _ _ _ Mid.out.1 Mid.out.2.1 Mid.out.2.2 oku okk).mono ?_
           rintro e w5 ⟨rfl, m5, g5⟩
           have st := L.out.step hlt hb M2.out C2.out G2.out O4.out G4.out B4.out m5 g5
           have St := hide st
           clear m5 g5 st)
        | go_in)
      go_roundw
      case rel =>
        refine ⟨q.1.length + 1, bs ++ [b], by omega, by go_num, ?_⟩
        rw [Es.out]
        exact St.out
      case measure => simp [intOf]; omega
    · have hje : j = n.kids.length := by omega
      subst hje
      rw [List.take_length] at *
      have okq := Okq.out n.kids.length
      rw [List.take_length] at okq
      have Okq' := hide okq
      have hall := L.out.all
      generalize hq : n.kids.foldl (stepS ns f) ([], s) = q at *
      have lq : q.1.length = n.kids.length := by rw [← hq, stepS_len]; simp
      clear hq
      have hNr : wr.heap[m.blk]? = some (.cells (nodeCells n m) 109) := hnr.trans HN.out.cells
      have k0 : wr.cell? ⟨m.blk, 0, none⟩ = some (.int .i64 n.kind) := by rw [cell_at hNr 0]; rfl
      have k1 : wr.cell? ⟨m.blk, 1, none⟩ = some (.int .i64 n.line) := by rw [cell_at hNr 1]; rfl
      have two := anyTwo_any wr (.slice va n.kids.length vc) q.1 bs L.out.len L.out.own L.out.maps Okq'.out
      have Two := hide two
      have Hall := hide hall
      clear two hall okq hNr hnr Okq'
      by_cases hk : n.kind = 8 ∨ n.kind = 9
      · cases hA : anyTwo q.1 with
        | true =>
          have hR := HR.out
          rw [show restS n q = (ownU n ++ q.1.flatten, foundF q.2 n.line) by unfold restS; rw [if_pos ⟨hk, hA⟩]] at hR
          have HR' := hide hR
          clear hR HR
          rw [hA] at Two
          rcases hk with hk | hk
          all_goals
            rw [hk] at k0
            go_wp2_with (first
              | (go_at_call 110; refine Two.out.mono ?_; rintro e w6 ⟨rfl, g6⟩; have l6 := cell_grown k1 g6 (by simp); have G6 := hide g6; clear g6)
              | (go_at_call 111; refine (found_any _ sb q.2 n.line ((G6.out.block sb (lt_of_at L.out.cell) (by simp)).trans L.out.cell)).mono ?_; rintro e w7 ⟨rfl, c7', g7⟩; have C7 := hide c7'; have G7 := hide g7; clear c7' g7)
              | go_in)
            go_ret
            have e2 := HR'.out
            subst e2
            exact ⟨w.heap.size, rfl, Nat.le_refl _, MapIs.kept (MapIs.kept Hall.out G6.out (by simp)) G7.out (by simp; omega), C7.out, (L.out.grown.andThen G6.out (fun j hj => by cases hj)).andThen G7.out (fun j hj => .inr hj)⟩
        | false =>
          have hR := HR.out
          rw [show restS n q = (ownU n ++ q.1.flatten, q.2) by unfold restS; rw [if_neg (by rw [hA]; simp)]] at hR
          have HR' := hide hR
          clear hR HR
          rw [hA] at Two
          rcases hk with hk | hk
          all_goals
            rw [hk] at k0
            go_wp2_with (first
              | (go_at_call 110; refine Two.out.mono ?_; rintro e w6 ⟨rfl, g6⟩; have G6 := hide g6; clear g6)
              | go_in)
            go_ret
            have e2 := HR'.out
            subst e2
            exact ⟨w.heap.size, rfl, Nat.le_refl _, MapIs.kept Hall.out G6.out (by simp), (G6.out.block sb (lt_of_at L.out.cell) (by simp)).trans L.out.cell, L.out.grown.andThen G6.out (fun j hj => by cases hj)⟩
      · have hR := HR.out
        rw [show restS n q = (ownU n ++ q.1.flatten, q.2) by unfold restS; rw [if_neg (fun h => hk h.1)]] at hR
        have HR' := hide hR
        clear hR HR Two
        have hk8 : ¬ n.kind = 8 := fun e => hk (.inl e)
        have hk9 : ¬ n.kind = 9 := fun e => hk (.inr e)
        clear hk
        go_wp2_with fail
        go_ret
        have e2 := HR'.out
        subst e2
        exact ⟨w.heap.size, rfl, Nat.le_refl _, Hall.out, L.out.cell, L.out.grown⟩

theorem sproc_all (ρ : Nat → Role) (sb : Nat) (ns : List PNode) (ms : List NM) (hj : ρ sb = .junk) (hup : Up ns) (hok : ∀ i, UseOk (ownU (ns.getD i default))) (hfew : ∀ i, (ns.getD i default).kids.length ≤ 100000) : ∀ f, ShareSaid ρ sb ns ms f
  | 0 => fun w s i m _ hi _ hf _ => by omega
  | f + 1 => sproc_any ρ sb ns ms hj hup hok hfew f (sproc_all ρ sb ns ms hj hup hok hfew f)

set_option maxRecDepth 20000 in
set_option maxHeartbeats 1000000 in
theorem Share_any (w : World) (ρ : Nat → Role) (ns : List PNode) (ms : List NM) (i : Nat) (m : NM) (h : TreeAt w ρ ns ms) (hi : i < ns.length) (hm : ms[i]? = some m) (hup : Up ns) (hok : ∀ i, UseOk (ownU (ns.getD i default))) (hfew : ∀ i, (ns.getD i default).kids.length ≤ 100000) :
    Calls Tryz.prog 39 #[.pointer (some ⟨m.blk, 0, none⟩)] w fun e w' => e = .returned (.int .i64 (shareF ns ns.length 0 i).2) ∧ w.grownBy w' none := by
  let ρ' : Nat → Role := fun k => if k < w.heap.size then ρ k else .junk
  have hA : TreeAt (w.alloc (.cells #[.int .i64 0] 125)) ρ' ns ms := h.frame (by simp) (fun b i hb _ => ⟨Below.heap_alloc _ _ _ hb, if_pos hb⟩)
  have hj : ρ' w.heap.size = .junk := if_neg (by omega)
  have hs := at_new w (.cells #[.int .i64 0] 125)
  have all := sproc_all ρ' w.heap.size ns ms hj hup hok hfew ns.length (w.alloc (.cells #[.int .i64 0] 125)) 0 i m hA hi hm (by omega) hs
  have All := hide all
  clear all hA hs h hup hok hfew
  go_enter Tryz.func39, Tryz.ntmps39
  go_wp2_with fail
  refine All.out.mono ?_
  rintro e w2 ⟨b, rfl, hb, m2, c2, g2⟩
  have c0 : w2.cell? ⟨w.heap.size, 0, none⟩ = some (.int .i64 (shareF ns ns.length 0 i).2) := cell_at c2 0
  have G2 := hide g2
  clear m2 c2 g2
  go_wp2
  go_ret
  exact ⟨rfl, (World.grownBy_alloc w _ none).andThen G2.out (fun j hj => by injection hj with hj; left; omega)⟩
end Go.Proofs.YtijcgaebpplngaaGreatDoor
