import Derived.Test.YtnhidaamfnjdjaaGreatDoorNamF
namespace Go.Proofs.YtnhidaamfnjdjaaGreatDoor
open Go.RowKit

set_option maxHeartbeats 4000000 in
theorem nproc_is4 (f : Nat) (ih : NameSaid f) (n0 : Nat) (w : World) (ρ : Nat → Role) (vb : Nat) (hv : Value) (r : RV) (ns : List PNode) (ms : List NM) (i : Nat) (m : NM) (h : NmAt n0 w ρ vb hv r ns ms) (hi : i < ns.length) (hm : ms[i]? = some m) (hup : Up ns) (hf : ns.length - i ≤ f + 1) (hpos : 0 < r.hold.length) (hlim : r.hold.length + f ≤ 100000) (hk : (ns.getD i default).kind = 4) :
    Calls Tryz.prog 63 #[.pointer (some ⟨vb, 0, none⟩), .pointer (some ⟨m.blk, 0, none⟩)] w fun e w' => e = .returned (.tuple #[]) ∧ NmPost n0 w ρ vb hv ms (nameF (f + 1) (r, ns) i) w' := by
  have hge := h.rv.ge
  have hlv := lt_of_at h.rv.cells
  have hl := h.lt i m hm
  have bA : Below w.heap.size w ((w.alloc (.cells #[.pointer (some ⟨vb, 0, none⟩)] 122)).alloc (.cells #[.pointer (some ⟨m.blk, 0, none⟩)] 54)) := ((Below.refl _ _).alloc (Nat.le_refl _) _).alloc (by simp) _
  have hA := h.below bA
  have a1 := at_alloc (at_new w (.cells #[.pointer (some ⟨vb, 0, none⟩)] 122)) (.cells #[.pointer (some ⟨m.blk, 0, none⟩)] 54)
  have a2 := at_new (w.alloc (.cells #[.pointer (some ⟨vb, 0, none⟩)] 122)) (.cells #[.pointer (some ⟨m.blk, 0, none⟩)] 54)
  simp only [World.size_alloc] at a2
  have hhv : ∀ g, hv.ownBlock = some g → g < w.heap.size := fun g hg => (h.rv.own.lt g hg).2
  have hNA := hA.node hi hm
  have e1 : nameF (f + 1) (r, ns) i = (ns.getD i default).kids.foldl (nameF f) ((exprOf (headOf r (ns.getD i default)).1 (headOf r (ns.getD i default)).2).1, ns.set i (exprOf (headOf r (ns.getD i default)).1 (headOf r (ns.getD i default)).2).2) := by
    have hk' : ¬ ((ns.getD i default).kind = 15 ∨ (ns.getD i default).kind = 16) := by rw [hk]; decide
    simp only [nameF]; rw [if_neg hk']
  have hh := headOf_same r (ns.getD i default)
  have eh : headOf r (ns.getD i default) = chanOf r (ns.getD i default) := by unfold headOf; rw [if_neg (by rw [hk]; decide), if_pos hk]
  rw [e1]
  rw [eh] at hh ⊢
  generalize hn : ns.getD i default = n at *
  have k0 : ((w.alloc (.cells #[.pointer (some ⟨vb, 0, none⟩)] 122)).alloc (.cells #[.pointer (some ⟨m.blk, 0, none⟩)] 54)).cell? ⟨m.blk, 0, none⟩ = some (.int .i64 4) := by rw [← hk]; exact cell_at hNA.cells 0
  have k1 : ((w.alloc (.cells #[.pointer (some ⟨vb, 0, none⟩)] 122)).alloc (.cells #[.pointer (some ⟨m.blk, 0, none⟩)] 54)).cell? ⟨m.blk, 1, none⟩ = some (.int .i64 n.line) := cell_at hNA.cells 1
  have b1 : Boxes ((w.alloc (.cells #[.pointer (some ⟨vb, 0, none⟩)] 122)).alloc (.cells #[.pointer (some ⟨m.blk, 0, none⟩)] 54)) vb m w.heap.size := ⟨cell_at a1 0, cell_at a2 0⟩
  have sz : w.heap.size + 2 = ((w.alloc (.cells #[.pointer (some ⟨vb, 0, none⟩)] 122)).alloc (.cells #[.pointer (some ⟨m.blk, 0, none⟩)] 54)).heap.size := by simp
  have H := hide h; have Ba := hide bA; have HA := hide hA; have Hn := hide hn; have B1 := hide b1; have Hup := hide hup; have Ih := hide ih; have Hh := hide hh
  clear h bA hA hNA hn hk a1 a2 e1 eh b1 hup ih hh
  go_enter Tryz.func63, Tryz.ntmps63
  go_wp2_with fail
  generalize ((w.alloc (.cells #[.pointer (some ⟨vb, 0, none⟩)] 122)).alloc (.cells #[.pointer (some ⟨m.blk, 0, none⟩)] 54)) = wA at Ba HA k0 k1 B1 sz ⊢
  have q1 := B1.out.c1
  have q2 := B1.out.c2
  go_region_held3 (fun w' => w'.cell? ⟨w.heap.size, 0, none⟩ = some (.pointer (some ⟨vb, 0, none⟩)) ∧ w'.cell? ⟨w.heap.size + 1, 0, none⟩ = some (.pointer (some ⟨m.blk, 0, none⟩)) ∧ w'.cell? ⟨m.blk, 1, none⟩ = some (.int .i64 n.line)) (go_keep)
    (first | (go_at_call 118; refine (nm_chan HA.out.drew hi hm hpos (by omega) n.line (by rw [Hn.out])).mono ?_; rw [Hn.out]; rintro e w1 ⟨rfl, n1, f1⟩; have bx := Boxes.fr B1.out (Fr.trans (Fr.below (Below.refl _ _).drew) (.inl rfl) f1) (by omega) (by omega) (fun g hg => .inl (hhv g hg)); have p1 := bx.c1; have p2 := bx.c2; have hx := (n1.node (by simpa using hi) hm).cells; rw [set_getD _ _ _ _ hi] at hx; have p3 : w1.cell? ⟨m.blk, 1, none⟩ = some (.int .i64 n.line) := cell_at hx 1; have p6 : w1.cell? ⟨m.blk, 6, none⟩ = some (.pointer m.ve) := cell_at hx 6; have N1 := hide n1; have F1 := hide f1; have Bx1 := hide bx; clear n1 f1 bx hx))
  have E1 : Hid ((ns.set i (chanOf r n).2).getD i default = (chanOf r n).2) := set_getD _ _ _ _ hi
  have hpos1 : 0 < (chanOf r n).1.hold.length := by rw [show (chanOf r n).1.hold = r.hold from (resolveF_hold _ _ _ _ _)]; exact hpos
  have hlim1 : (chanOf r n).1.hold.length + f ≤ 100000 := by rw [show (chanOf r n).1.hold = r.hold from (resolveF_hold _ _ _ _ _)]; exact hlim
  go_wp2_with fail
  refine (nm_each N1.out (by simpa using hi) hm hpos1 (by omega) w.heap.size (w.heap.size + 1) (by omega) (by omega) Bx1.out.c1 Bx1.out.c2 (by omega) (by omega)).mono ?_
  rw [E1.out]
  rintro e wE ⟨rfl, nE, fE⟩
  rw [List.set_set] at nE
  have bE := Boxes.fr Bx1.out fE (by omega) (by omega) (fun g hg => .inl (hhv g hg))
  have p1E := bE.c1
  have p2E := bE.c2
  have NE := hide nE; have FE := hide fE; have BE := hide bE
  clear nE fE bE
  have EE : Hid ((ns.set i (exprOf (chanOf r n).1 (chanOf r n).2).2).getD i default = (exprOf (chanOf r n).1 (chanOf r n).2).2) := set_getD _ _ _ _ hi
  have holdE : (exprOf (chanOf r n).1 (chanOf r n).2).1.hold = r.hold := (eachF_hold' _ _ _).trans (resolveF_hold _ _ _ _ _)
  have shE : SameShape ns (ns.set i (exprOf (chanOf r n).1 (chanOf r n).2).2) := SameShape.set ns i _ (by rw [Hn.out]; exact Hh.out.1) (by rw [Hn.out]; exact Hh.out.2.1)
  have upE := Hup.out.shape shE
  have UpE := hide upE
  clear upE shE
  go_wp2_with fail
  refine (below_any f Ih.out n0 _ ρ vb hv (exprOf (chanOf r n).1 (chanOf r n).2).1 (ns.set i (exprOf (chanOf r n).1 (chanOf r n).2).2) ms i m NE.out (by simpa using hi) hm UpE.out (by simpa using hf) (by rw [holdE]; exact hpos) (by rw [holdE]; exact hlim)).mono ?_
  rw [EE.out]
  rintro e wB ⟨rfl, pB⟩
  have PB := hide pB
  clear pB
  go_wp2
  go_end0
  refine ⟨rfl, NmPost.trans (Rel.refl _ _) ?_ (show NmPost n0 wE ρ vb hv ms (n.kids.foldl (nameF f) _) wB from ?_)⟩
  · exact (Fr.trans (Fr.trans (Fr.trans (Fr.below Ba.out) (.inl rfl) (Fr.below (Below.refl _ _).drew)) (.inl rfl) F1.out) (.inl rfl) FE.out)
  · have := PB.out
    rw [show (exprOf (chanOf r n).1 (chanOf r n).2).2.kids = n.kids from Hh.out.1] at this
    exact this

set_option maxHeartbeats 4000000 in
theorem nproc_is5 (f : Nat) (ih : NameSaid f) (n0 : Nat) (w : World) (ρ : Nat → Role) (vb : Nat) (hv : Value) (r : RV) (ns : List PNode) (ms : List NM) (i : Nat) (m : NM) (h : NmAt n0 w ρ vb hv r ns ms) (hi : i < ns.length) (hm : ms[i]? = some m) (hup : Up ns) (hf : ns.length - i ≤ f + 1) (hpos : 0 < r.hold.length) (hlim : r.hold.length + f ≤ 100000) (hk : (ns.getD i default).kind = 5) :
    Calls Tryz.prog 63 #[.pointer (some ⟨vb, 0, none⟩), .pointer (some ⟨m.blk, 0, none⟩)] w fun e w' => e = .returned (.tuple #[]) ∧ NmPost n0 w ρ vb hv ms (nameF (f + 1) (r, ns) i) w' := by
  have hge := h.rv.ge
  have hlv := lt_of_at h.rv.cells
  have hl := h.lt i m hm
  have bA : Below w.heap.size w ((w.alloc (.cells #[.pointer (some ⟨vb, 0, none⟩)] 122)).alloc (.cells #[.pointer (some ⟨m.blk, 0, none⟩)] 54)) := ((Below.refl _ _).alloc (Nat.le_refl _) _).alloc (by simp) _
  have hA := h.below bA
  have a1 := at_alloc (at_new w (.cells #[.pointer (some ⟨vb, 0, none⟩)] 122)) (.cells #[.pointer (some ⟨m.blk, 0, none⟩)] 54)
  have a2 := at_new (w.alloc (.cells #[.pointer (some ⟨vb, 0, none⟩)] 122)) (.cells #[.pointer (some ⟨m.blk, 0, none⟩)] 54)
  simp only [World.size_alloc] at a2
  have hhv : ∀ g, hv.ownBlock = some g → g < w.heap.size := fun g hg => (h.rv.own.lt g hg).2
  have hNA := hA.node hi hm
  have e1 : nameF (f + 1) (r, ns) i = (ns.getD i default).kids.foldl (nameF f) ((exprOf (headOf r (ns.getD i default)).1 (headOf r (ns.getD i default)).2).1, ns.set i (exprOf (headOf r (ns.getD i default)).1 (headOf r (ns.getD i default)).2).2) := by
    have hk' : ¬ ((ns.getD i default).kind = 15 ∨ (ns.getD i default).kind = 16) := by rw [hk]; decide
    simp only [nameF]; rw [if_neg hk']
  have hh := headOf_same r (ns.getD i default)
  have eh : headOf r (ns.getD i default) = nameOf (chanOf r (ns.getD i default)).1 (chanOf r (ns.getD i default)).2 := by unfold headOf; rw [if_neg (by rw [hk]; decide), if_neg (by rw [hk]; decide), if_pos (.inl hk)]
  rw [e1]
  rw [eh] at hh ⊢
  generalize hn : ns.getD i default = n at *
  have k0 : ((w.alloc (.cells #[.pointer (some ⟨vb, 0, none⟩)] 122)).alloc (.cells #[.pointer (some ⟨m.blk, 0, none⟩)] 54)).cell? ⟨m.blk, 0, none⟩ = some (.int .i64 5) := by rw [← hk]; exact cell_at hNA.cells 0
  have k1 : ((w.alloc (.cells #[.pointer (some ⟨vb, 0, none⟩)] 122)).alloc (.cells #[.pointer (some ⟨m.blk, 0, none⟩)] 54)).cell? ⟨m.blk, 1, none⟩ = some (.int .i64 n.line) := cell_at hNA.cells 1
  have b1 : Boxes ((w.alloc (.cells #[.pointer (some ⟨vb, 0, none⟩)] 122)).alloc (.cells #[.pointer (some ⟨m.blk, 0, none⟩)] 54)) vb m w.heap.size := ⟨cell_at a1 0, cell_at a2 0⟩
  have sz : w.heap.size + 2 = ((w.alloc (.cells #[.pointer (some ⟨vb, 0, none⟩)] 122)).alloc (.cells #[.pointer (some ⟨m.blk, 0, none⟩)] 54)).heap.size := by simp
  have H := hide h; have Ba := hide bA; have HA := hide hA; have Hn := hide hn; have B1 := hide b1; have Hup := hide hup; have Ih := hide ih; have Hh := hide hh
  clear h bA hA hNA hn hk a1 a2 e1 eh b1 hup ih hh
  go_enter Tryz.func63, Tryz.ntmps63
  go_wp2_with fail
  generalize ((w.alloc (.cells #[.pointer (some ⟨vb, 0, none⟩)] 122)).alloc (.cells #[.pointer (some ⟨m.blk, 0, none⟩)] 54)) = wA at Ba HA k0 k1 B1 sz ⊢
  have q1 := B1.out.c1
  have q2 := B1.out.c2
  go_region_held3 (fun w' => w'.cell? ⟨w.heap.size, 0, none⟩ = some (.pointer (some ⟨vb, 0, none⟩)) ∧ w'.cell? ⟨w.heap.size + 1, 0, none⟩ = some (.pointer (some ⟨m.blk, 0, none⟩)) ∧ w'.cell? ⟨m.blk, 1, none⟩ = some (.int .i64 n.line)) (go_keep)
    (first | (go_at_call 118; refine (nm_chan HA.out.drew hi hm hpos (by omega) n.line (by rw [Hn.out])).mono ?_; rw [Hn.out]; rintro e w1 ⟨rfl, n1, f1⟩; have bx := Boxes.fr B1.out (Fr.trans (Fr.below (Below.refl _ _).drew) (.inl rfl) f1) (by omega) (by omega) (fun g hg => .inl (hhv g hg)); have p1 := bx.c1; have p2 := bx.c2; have hx := (n1.node (by simpa using hi) hm).cells; rw [set_getD _ _ _ _ hi] at hx; have p3 : w1.cell? ⟨m.blk, 1, none⟩ = some (.int .i64 n.line) := cell_at hx 1; have p6 : w1.cell? ⟨m.blk, 6, none⟩ = some (.pointer m.ve) := cell_at hx 6; have N1 := hide n1; have F1 := hide f1; have Bx1 := hide bx; clear n1 f1 bx hx))
  have E1 : Hid ((ns.set i (chanOf r n).2).getD i default = (chanOf r n).2) := set_getD _ _ _ _ hi
  have hpos1 : 0 < (chanOf r n).1.hold.length := by rw [show (chanOf r n).1.hold = r.hold from (resolveF_hold _ _ _ _ _)]; exact hpos
  have hlim1 : (chanOf r n).1.hold.length + f ≤ 100000 := by rw [show (chanOf r n).1.hold = r.hold from (resolveF_hold _ _ _ _ _)]; exact hlim
  go_wp2_with fail
  go_region_held3 (fun w' => w'.cell? ⟨w.heap.size, 0, none⟩ = some (.pointer (some ⟨vb, 0, none⟩)) ∧ w'.cell? ⟨w.heap.size + 1, 0, none⟩ = some (.pointer (some ⟨m.blk, 0, none⟩)) ∧ w'.cell? ⟨m.blk, 1, none⟩ = some (.int .i64 n.line)) (go_keep)
    (first | (go_at_call 118; refine (nm_name N1.out.drew (by simpa using hi) hm hpos1 (by omega) n.line (by rw [E1.out]; rfl)).mono ?_; rw [E1.out]; rintro e w2 ⟨rfl, n2, f2⟩; rw [List.set_set] at n2; have bx := Boxes.fr Bx1.out (Fr.trans (Fr.below (Below.refl _ _).drew) (.inl rfl) f2) (by omega) (by omega) (fun g hg => .inl (hhv g hg)); have p1 := bx.c1; have p2 := bx.c2; have hx := (n2.node (by simpa using hi) hm).cells; rw [set_getD _ _ _ _ hi] at hx; have p3 : w2.cell? ⟨m.blk, 1, none⟩ = some (.int .i64 n.line) := cell_at hx 1; have p6 : w2.cell? ⟨m.blk, 6, none⟩ = some (.pointer m.ve) := cell_at hx 6; have N2 := hide n2; have F2 := hide f2; have Bx2 := hide bx; clear n2 f2 bx hx))
  have E2 : Hid ((ns.set i (nameOf (chanOf r n).1 (chanOf r n).2).2).getD i default = (nameOf (chanOf r n).1 (chanOf r n).2).2) := set_getD _ _ _ _ hi
  have hpos2 : 0 < (nameOf (chanOf r n).1 (chanOf r n).2).1.hold.length := by rw [show (nameOf (chanOf r n).1 (chanOf r n).2).1.hold = r.hold from ((resolveF_hold _ _ _ _ _).trans (resolveF_hold _ _ _ _ _))]; exact hpos
  have hlim2 : (nameOf (chanOf r n).1 (chanOf r n).2).1.hold.length + f ≤ 100000 := by rw [show (nameOf (chanOf r n).1 (chanOf r n).2).1.hold = r.hold from ((resolveF_hold _ _ _ _ _).trans (resolveF_hold _ _ _ _ _))]; exact hlim
  go_wp2_with fail
  refine (nm_each N2.out (by simpa using hi) hm hpos2 (by omega) w.heap.size (w.heap.size + 1) (by omega) (by omega) Bx2.out.c1 Bx2.out.c2 (by omega) (by omega)).mono ?_
  rw [E2.out]
  rintro e wE ⟨rfl, nE, fE⟩
  rw [List.set_set] at nE
  have bE := Boxes.fr Bx2.out fE (by omega) (by omega) (fun g hg => .inl (hhv g hg))
  have p1E := bE.c1
  have p2E := bE.c2
  have NE := hide nE; have FE := hide fE; have BE := hide bE
  clear nE fE bE
  have EE : Hid ((ns.set i (exprOf (nameOf (chanOf r n).1 (chanOf r n).2).1 (nameOf (chanOf r n).1 (chanOf r n).2).2).2).getD i default = (exprOf (nameOf (chanOf r n).1 (chanOf r n).2).1 (nameOf (chanOf r n).1 (chanOf r n).2).2).2) := set_getD _ _ _ _ hi
  have holdE : (exprOf (nameOf (chanOf r n).1 (chanOf r n).2).1 (nameOf (chanOf r n).1 (chanOf r n).2).2).1.hold = r.hold := (eachF_hold' _ _ _).trans ((resolveF_hold _ _ _ _ _).trans (resolveF_hold _ _ _ _ _))
  have shE : SameShape ns (ns.set i (exprOf (nameOf (chanOf r n).1 (chanOf r n).2).1 (nameOf (chanOf r n).1 (chanOf r n).2).2).2) := SameShape.set ns i _ (by rw [Hn.out]; exact Hh.out.1) (by rw [Hn.out]; exact Hh.out.2.1)
  have upE := Hup.out.shape shE
  have UpE := hide upE
  clear upE shE
  go_wp2_with fail
  refine (below_any f Ih.out n0 _ ρ vb hv (exprOf (nameOf (chanOf r n).1 (chanOf r n).2).1 (nameOf (chanOf r n).1 (chanOf r n).2).2).1 (ns.set i (exprOf (nameOf (chanOf r n).1 (chanOf r n).2).1 (nameOf (chanOf r n).1 (chanOf r n).2).2).2) ms i m NE.out (by simpa using hi) hm UpE.out (by simpa using hf) (by rw [holdE]; exact hpos) (by rw [holdE]; exact hlim)).mono ?_
  rw [EE.out]
  rintro e wB ⟨rfl, pB⟩
  have PB := hide pB
  clear pB
  go_wp2
  go_end0
  refine ⟨rfl, NmPost.trans (Rel.refl _ _) ?_ (show NmPost n0 wE ρ vb hv ms (n.kids.foldl (nameF f) _) wB from ?_)⟩
  · exact (Fr.trans (Fr.trans (Fr.trans (Fr.trans (Fr.trans (Fr.below Ba.out) (.inl rfl) (Fr.below (Below.refl _ _).drew)) (.inl rfl) F1.out) (.inl rfl) (Fr.below (Below.refl _ _).drew)) (.inl rfl) F2.out) (.inl rfl) FE.out)
  · have := PB.out
    rw [show (exprOf (nameOf (chanOf r n).1 (chanOf r n).2).1 (nameOf (chanOf r n).1 (chanOf r n).2).2).2.kids = n.kids from Hh.out.1] at this
    exact this

set_option maxHeartbeats 4000000 in
theorem nproc_is14 (f : Nat) (ih : NameSaid f) (n0 : Nat) (w : World) (ρ : Nat → Role) (vb : Nat) (hv : Value) (r : RV) (ns : List PNode) (ms : List NM) (i : Nat) (m : NM) (h : NmAt n0 w ρ vb hv r ns ms) (hi : i < ns.length) (hm : ms[i]? = some m) (hup : Up ns) (hf : ns.length - i ≤ f + 1) (hpos : 0 < r.hold.length) (hlim : r.hold.length + f ≤ 100000) (hk : (ns.getD i default).kind = 14) :
    Calls Tryz.prog 63 #[.pointer (some ⟨vb, 0, none⟩), .pointer (some ⟨m.blk, 0, none⟩)] w fun e w' => e = .returned (.tuple #[]) ∧ NmPost n0 w ρ vb hv ms (nameF (f + 1) (r, ns) i) w' := by
  have hge := h.rv.ge
  have hlv := lt_of_at h.rv.cells
  have hl := h.lt i m hm
  have bA : Below w.heap.size w ((w.alloc (.cells #[.pointer (some ⟨vb, 0, none⟩)] 122)).alloc (.cells #[.pointer (some ⟨m.blk, 0, none⟩)] 54)) := ((Below.refl _ _).alloc (Nat.le_refl _) _).alloc (by simp) _
  have hA := h.below bA
  have a1 := at_alloc (at_new w (.cells #[.pointer (some ⟨vb, 0, none⟩)] 122)) (.cells #[.pointer (some ⟨m.blk, 0, none⟩)] 54)
  have a2 := at_new (w.alloc (.cells #[.pointer (some ⟨vb, 0, none⟩)] 122)) (.cells #[.pointer (some ⟨m.blk, 0, none⟩)] 54)
  simp only [World.size_alloc] at a2
  have hhv : ∀ g, hv.ownBlock = some g → g < w.heap.size := fun g hg => (h.rv.own.lt g hg).2
  have hNA := hA.node hi hm
  have e1 : nameF (f + 1) (r, ns) i = (ns.getD i default).kids.foldl (nameF f) ((exprOf (headOf r (ns.getD i default)).1 (headOf r (ns.getD i default)).2).1, ns.set i (exprOf (headOf r (ns.getD i default)).1 (headOf r (ns.getD i default)).2).2) := by
    have hk' : ¬ ((ns.getD i default).kind = 15 ∨ (ns.getD i default).kind = 16) := by rw [hk]; decide
    simp only [nameF]; rw [if_neg hk']
  have hh := headOf_same r (ns.getD i default)
  have eh : headOf r (ns.getD i default) = nameOf (chanOf r (ns.getD i default)).1 (chanOf r (ns.getD i default)).2 := by unfold headOf; rw [if_neg (by rw [hk]; decide), if_neg (by rw [hk]; decide), if_pos (.inr hk)]
  rw [e1]
  rw [eh] at hh ⊢
  generalize hn : ns.getD i default = n at *
  have k0 : ((w.alloc (.cells #[.pointer (some ⟨vb, 0, none⟩)] 122)).alloc (.cells #[.pointer (some ⟨m.blk, 0, none⟩)] 54)).cell? ⟨m.blk, 0, none⟩ = some (.int .i64 14) := by rw [← hk]; exact cell_at hNA.cells 0
  have k1 : ((w.alloc (.cells #[.pointer (some ⟨vb, 0, none⟩)] 122)).alloc (.cells #[.pointer (some ⟨m.blk, 0, none⟩)] 54)).cell? ⟨m.blk, 1, none⟩ = some (.int .i64 n.line) := cell_at hNA.cells 1
  have b1 : Boxes ((w.alloc (.cells #[.pointer (some ⟨vb, 0, none⟩)] 122)).alloc (.cells #[.pointer (some ⟨m.blk, 0, none⟩)] 54)) vb m w.heap.size := ⟨cell_at a1 0, cell_at a2 0⟩
  have sz : w.heap.size + 2 = ((w.alloc (.cells #[.pointer (some ⟨vb, 0, none⟩)] 122)).alloc (.cells #[.pointer (some ⟨m.blk, 0, none⟩)] 54)).heap.size := by simp
  have H := hide h; have Ba := hide bA; have HA := hide hA; have Hn := hide hn; have B1 := hide b1; have Hup := hide hup; have Ih := hide ih; have Hh := hide hh
  clear h bA hA hNA hn hk a1 a2 e1 eh b1 hup ih hh
  go_enter Tryz.func63, Tryz.ntmps63
  go_wp2_with fail
  generalize ((w.alloc (.cells #[.pointer (some ⟨vb, 0, none⟩)] 122)).alloc (.cells #[.pointer (some ⟨m.blk, 0, none⟩)] 54)) = wA at Ba HA k0 k1 B1 sz ⊢
  have q1 := B1.out.c1
  have q2 := B1.out.c2
  go_region_held3 (fun w' => w'.cell? ⟨w.heap.size, 0, none⟩ = some (.pointer (some ⟨vb, 0, none⟩)) ∧ w'.cell? ⟨w.heap.size + 1, 0, none⟩ = some (.pointer (some ⟨m.blk, 0, none⟩)) ∧ w'.cell? ⟨m.blk, 1, none⟩ = some (.int .i64 n.line)) (go_keep)
    (first | (go_at_call 118; refine (nm_chan HA.out.drew hi hm hpos (by omega) n.line (by rw [Hn.out])).mono ?_; rw [Hn.out]; rintro e w1 ⟨rfl, n1, f1⟩; have bx := Boxes.fr B1.out (Fr.trans (Fr.below (Below.refl _ _).drew) (.inl rfl) f1) (by omega) (by omega) (fun g hg => .inl (hhv g hg)); have p1 := bx.c1; have p2 := bx.c2; have hx := (n1.node (by simpa using hi) hm).cells; rw [set_getD _ _ _ _ hi] at hx; have p3 : w1.cell? ⟨m.blk, 1, none⟩ = some (.int .i64 n.line) := cell_at hx 1; have p6 : w1.cell? ⟨m.blk, 6, none⟩ = some (.pointer m.ve) := cell_at hx 6; have N1 := hide n1; have F1 := hide f1; have Bx1 := hide bx; clear n1 f1 bx hx))
  have E1 : Hid ((ns.set i (chanOf r n).2).getD i default = (chanOf r n).2) := set_getD _ _ _ _ hi
  have hpos1 : 0 < (chanOf r n).1.hold.length := by rw [show (chanOf r n).1.hold = r.hold from (resolveF_hold _ _ _ _ _)]; exact hpos
  have hlim1 : (chanOf r n).1.hold.length + f ≤ 100000 := by rw [show (chanOf r n).1.hold = r.hold from (resolveF_hold _ _ _ _ _)]; exact hlim
  go_wp2_with fail
  go_region_held3 (fun w' => w'.cell? ⟨w.heap.size, 0, none⟩ = some (.pointer (some ⟨vb, 0, none⟩)) ∧ w'.cell? ⟨w.heap.size + 1, 0, none⟩ = some (.pointer (some ⟨m.blk, 0, none⟩)) ∧ w'.cell? ⟨m.blk, 1, none⟩ = some (.int .i64 n.line)) (go_keep)
    (first | (go_at_call 118; refine (nm_name N1.out.drew (by simpa using hi) hm hpos1 (by omega) n.line (by rw [E1.out]; rfl)).mono ?_; rw [E1.out]; rintro e w2 ⟨rfl, n2, f2⟩; rw [List.set_set] at n2; have bx := Boxes.fr Bx1.out (Fr.trans (Fr.below (Below.refl _ _).drew) (.inl rfl) f2) (by omega) (by omega) (fun g hg => .inl (hhv g hg)); have p1 := bx.c1; have p2 := bx.c2; have hx := (n2.node (by simpa using hi) hm).cells; rw [set_getD _ _ _ _ hi] at hx; have p3 : w2.cell? ⟨m.blk, 1, none⟩ = some (.int .i64 n.line) := cell_at hx 1; have p6 : w2.cell? ⟨m.blk, 6, none⟩ = some (.pointer m.ve) := cell_at hx 6; have N2 := hide n2; have F2 := hide f2; have Bx2 := hide bx; clear n2 f2 bx hx))
  have E2 : Hid ((ns.set i (nameOf (chanOf r n).1 (chanOf r n).2).2).getD i default = (nameOf (chanOf r n).1 (chanOf r n).2).2) := set_getD _ _ _ _ hi
  have hpos2 : 0 < (nameOf (chanOf r n).1 (chanOf r n).2).1.hold.length := by rw [show (nameOf (chanOf r n).1 (chanOf r n).2).1.hold = r.hold from ((resolveF_hold _ _ _ _ _).trans (resolveF_hold _ _ _ _ _))]; exact hpos
  have hlim2 : (nameOf (chanOf r n).1 (chanOf r n).2).1.hold.length + f ≤ 100000 := by rw [show (nameOf (chanOf r n).1 (chanOf r n).2).1.hold = r.hold from ((resolveF_hold _ _ _ _ _).trans (resolveF_hold _ _ _ _ _))]; exact hlim
  go_wp2_with fail
  refine (nm_each N2.out (by simpa using hi) hm hpos2 (by omega) w.heap.size (w.heap.size + 1) (by omega) (by omega) Bx2.out.c1 Bx2.out.c2 (by omega) (by omega)).mono ?_
  rw [E2.out]
  rintro e wE ⟨rfl, nE, fE⟩
  rw [List.set_set] at nE
  have bE := Boxes.fr Bx2.out fE (by omega) (by omega) (fun g hg => .inl (hhv g hg))
  have p1E := bE.c1
  have p2E := bE.c2
  have NE := hide nE; have FE := hide fE; have BE := hide bE
  clear nE fE bE
  have EE : Hid ((ns.set i (exprOf (nameOf (chanOf r n).1 (chanOf r n).2).1 (nameOf (chanOf r n).1 (chanOf r n).2).2).2).getD i default = (exprOf (nameOf (chanOf r n).1 (chanOf r n).2).1 (nameOf (chanOf r n).1 (chanOf r n).2).2).2) := set_getD _ _ _ _ hi
  have holdE : (exprOf (nameOf (chanOf r n).1 (chanOf r n).2).1 (nameOf (chanOf r n).1 (chanOf r n).2).2).1.hold = r.hold := (eachF_hold' _ _ _).trans ((resolveF_hold _ _ _ _ _).trans (resolveF_hold _ _ _ _ _))
  have shE : SameShape ns (ns.set i (exprOf (nameOf (chanOf r n).1 (chanOf r n).2).1 (nameOf (chanOf r n).1 (chanOf r n).2).2).2) := SameShape.set ns i _ (by rw [Hn.out]; exact Hh.out.1) (by rw [Hn.out]; exact Hh.out.2.1)
  have upE := Hup.out.shape shE
  have UpE := hide upE
  clear upE shE
  go_wp2_with fail
  refine (below_any f Ih.out n0 _ ρ vb hv (exprOf (nameOf (chanOf r n).1 (chanOf r n).2).1 (nameOf (chanOf r n).1 (chanOf r n).2).2).1 (ns.set i (exprOf (nameOf (chanOf r n).1 (chanOf r n).2).1 (nameOf (chanOf r n).1 (chanOf r n).2).2).2) ms i m NE.out (by simpa using hi) hm UpE.out (by simpa using hf) (by rw [holdE]; exact hpos) (by rw [holdE]; exact hlim)).mono ?_
  rw [EE.out]
  rintro e wB ⟨rfl, pB⟩
  have PB := hide pB
  clear pB
  go_wp2
  go_end0
  refine ⟨rfl, NmPost.trans (Rel.refl _ _) ?_ (show NmPost n0 wE ρ vb hv ms (n.kids.foldl (nameF f) _) wB from ?_)⟩
  · exact (Fr.trans (Fr.trans (Fr.trans (Fr.trans (Fr.trans (Fr.below Ba.out) (.inl rfl) (Fr.below (Below.refl _ _).drew)) (.inl rfl) F1.out) (.inl rfl) (Fr.below (Below.refl _ _).drew)) (.inl rfl) F2.out) (.inl rfl) FE.out)
  · have := PB.out
    rw [show (exprOf (nameOf (chanOf r n).1 (chanOf r n).2).1 (nameOf (chanOf r n).1 (chanOf r n).2).2).2.kids = n.kids from Hh.out.1] at this
    exact this

set_option maxHeartbeats 4000000 in
theorem nproc_else (f : Nat) (ih : NameSaid f) (n0 : Nat) (w : World) (ρ : Nat → Role) (vb : Nat) (hv : Value) (r : RV) (ns : List PNode) (ms : List NM) (i : Nat) (m : NM) (h : NmAt n0 w ρ vb hv r ns ms) (hi : i < ns.length) (hm : ms[i]? = some m) (hup : Up ns) (hf : ns.length - i ≤ f + 1) (hpos : 0 < r.hold.length) (hlim : r.hold.length + f ≤ 100000) (hk1 : (ns.getD i default).kind ≠ 15) (hk2 : (ns.getD i default).kind ≠ 16) (hk3 : (ns.getD i default).kind ≠ 3) (hk4 : (ns.getD i default).kind ≠ 4) (hk5 : (ns.getD i default).kind ≠ 5) (hk6 : (ns.getD i default).kind ≠ 14) :
    Calls Tryz.prog 63 #[.pointer (some ⟨vb, 0, none⟩), .pointer (some ⟨m.blk, 0, none⟩)] w fun e w' => e = .returned (.tuple #[]) ∧ NmPost n0 w ρ vb hv ms (nameF (f + 1) (r, ns) i) w' := by
  have hge := h.rv.ge
  have hlv := lt_of_at h.rv.cells
  have hl := h.lt i m hm
  have bA : Below w.heap.size w ((w.alloc (.cells #[.pointer (some ⟨vb, 0, none⟩)] 122)).alloc (.cells #[.pointer (some ⟨m.blk, 0, none⟩)] 54)) := ((Below.refl _ _).alloc (Nat.le_refl _) _).alloc (by simp) _
  have hA := h.below bA
  have a1 := at_alloc (at_new w (.cells #[.pointer (some ⟨vb, 0, none⟩)] 122)) (.cells #[.pointer (some ⟨m.blk, 0, none⟩)] 54)
  have a2 := at_new (w.alloc (.cells #[.pointer (some ⟨vb, 0, none⟩)] 122)) (.cells #[.pointer (some ⟨m.blk, 0, none⟩)] 54)
  simp only [World.size_alloc] at a2
  have hhv : ∀ g, hv.ownBlock = some g → g < w.heap.size := fun g hg => (h.rv.own.lt g hg).2
  have hNA := hA.node hi hm
  have e1 : nameF (f + 1) (r, ns) i = (ns.getD i default).kids.foldl (nameF f) ((exprOf (headOf r (ns.getD i default)).1 (headOf r (ns.getD i default)).2).1, ns.set i (exprOf (headOf r (ns.getD i default)).1 (headOf r (ns.getD i default)).2).2) := by
    have hk' : ¬ ((ns.getD i default).kind = 15 ∨ (ns.getD i default).kind = 16) := by simp only [not_or]; exact ⟨hk1, hk2⟩
    simp only [nameF]; rw [if_neg hk']
  have hh := headOf_same r (ns.getD i default)
  have eh : headOf r (ns.getD i default) = (r, (ns.getD i default)) := by unfold headOf; rw [if_neg hk3, if_neg hk4, if_neg (by simp only [not_or]; exact ⟨hk5, hk6⟩)]
  rw [e1]
  rw [eh] at hh ⊢
  generalize hn : ns.getD i default = n at *
  have k0 : ((w.alloc (.cells #[.pointer (some ⟨vb, 0, none⟩)] 122)).alloc (.cells #[.pointer (some ⟨m.blk, 0, none⟩)] 54)).cell? ⟨m.blk, 0, none⟩ = some (.int .i64 n.kind) := cell_at hNA.cells 0
  have p6 : ((w.alloc (.cells #[.pointer (some ⟨vb, 0, none⟩)] 122)).alloc (.cells #[.pointer (some ⟨m.blk, 0, none⟩)] 54)).cell? ⟨m.blk, 6, none⟩ = some (.pointer m.ve) := cell_at hNA.cells 6
  have k1 : ((w.alloc (.cells #[.pointer (some ⟨vb, 0, none⟩)] 122)).alloc (.cells #[.pointer (some ⟨m.blk, 0, none⟩)] 54)).cell? ⟨m.blk, 1, none⟩ = some (.int .i64 n.line) := cell_at hNA.cells 1
  have b1 : Boxes ((w.alloc (.cells #[.pointer (some ⟨vb, 0, none⟩)] 122)).alloc (.cells #[.pointer (some ⟨m.blk, 0, none⟩)] 54)) vb m w.heap.size := ⟨cell_at a1 0, cell_at a2 0⟩
  have sz : w.heap.size + 2 = ((w.alloc (.cells #[.pointer (some ⟨vb, 0, none⟩)] 122)).alloc (.cells #[.pointer (some ⟨m.blk, 0, none⟩)] 54)).heap.size := by simp
  have g1 := beq_eq_false_iff_ne.2 hk1
  have g2 := beq_eq_false_iff_ne.2 hk2
  have g3 := beq_eq_false_iff_ne.2 hk3
  have g4 := beq_eq_false_iff_ne.2 hk4
  have g5 := beq_eq_false_iff_ne.2 hk5
  have g6 := beq_eq_false_iff_ne.2 hk6
  have H := hide h; have Ba := hide bA; have HA := hide hA; have Hn := hide hn; have B1 := hide b1; have Hup := hide hup; have Ih := hide ih; have Hh := hide hh
  clear h bA hA hNA hn hk1 hk2 hk3 hk4 hk5 hk6 a1 a2 e1 eh b1 hup ih hh
  go_enter Tryz.func63, Tryz.ntmps63
  go_wp2_with fail
  generalize ((w.alloc (.cells #[.pointer (some ⟨vb, 0, none⟩)] 122)).alloc (.cells #[.pointer (some ⟨m.blk, 0, none⟩)] 54)) = wA at Ba HA k0 k1 p6 B1 sz ⊢
  have q1 := B1.out.c1
  have q2 := B1.out.c2
  refine (nm_each HA.out hi hm hpos (by omega) w.heap.size (w.heap.size + 1) (by omega) (by omega) B1.out.c1 B1.out.c2 (by omega) (by omega)).mono ?_
  rw [Hn.out]
  rintro e wE ⟨rfl, nE, fE⟩
  have bE := Boxes.fr B1.out fE (by omega) (by omega) (fun g hg => .inl (hhv g hg))
  have p1E := bE.c1
  have p2E := bE.c2
  have NE := hide nE; have FE := hide fE; have BE := hide bE
  clear nE fE bE
  have EE : Hid ((ns.set i (exprOf r n).2).getD i default = (exprOf r n).2) := set_getD _ _ _ _ hi
  have holdE : (exprOf r n).1.hold = r.hold := (eachF_hold' _ _ _).trans rfl
  have shE : SameShape ns (ns.set i (exprOf r n).2) := SameShape.set ns i _ (by rw [Hn.out]; rfl) (by rw [Hn.out]; rfl)
  have upE := Hup.out.shape shE
  have UpE := hide upE
  clear upE shE
  go_wp2_with fail
  refine (below_any f Ih.out n0 _ ρ vb hv (exprOf r n).1 (ns.set i (exprOf r n).2) ms i m NE.out (by simpa using hi) hm UpE.out (by simpa using hf) (by rw [holdE]; exact hpos) (by rw [holdE]; exact hlim)).mono ?_
  rw [EE.out]
  rintro e wB ⟨rfl, pB⟩
  have PB := hide pB
  clear pB
  go_wp2
  go_end0
  refine ⟨rfl, NmPost.trans (Rel.refl _ _) ?_ (show NmPost n0 wE ρ vb hv ms (n.kids.foldl (nameF f) _) wB from ?_)⟩
  · exact (Fr.trans (Fr.below Ba.out) (.inl rfl) FE.out)
  · have := PB.out
    rw [show (exprOf r n).2.kids = n.kids from rfl] at this
    exact this

end Go.Proofs.YtnhidaamfnjdjaaGreatDoor
