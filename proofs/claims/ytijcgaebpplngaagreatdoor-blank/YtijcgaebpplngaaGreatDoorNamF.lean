import Derived.Test.YtijcgaebpplngaaGreatDoorNamE
namespace Go.Proofs.YtijcgaebpplngaaGreatDoor
open Go.RowKit

def Rel (w : World) (hv hv' : Value) : Prop := hv'.ownBlock = hv.ownBlock ∨ ∃ g, hv'.ownBlock = some g ∧ w.heap.size ≤ g
theorem Rel.refl (w : World) (hv : Value) : Rel w hv hv := .inl rfl
theorem Rel.trans {w w1 : World} {a b c : Value} (h : Rel w a b) (hz : w.heap.size ≤ w1.heap.size) (k : Rel w1 b c) : Rel w a c := by
  rcases k with e | ⟨g, e, hg⟩
  · rcases h with e2 | ⟨g2, e2, hg2⟩
    · exact .inl (e.trans e2)
    · exact .inr ⟨g2, e.trans e2, hg2⟩
  · exact .inr ⟨g, e, by omega⟩

/-- what a pass over names leaves -/
def NmPost (n0 : Nat) (w : World) (ρ : Nat → Role) (vb : Nat) (hv : Value) (ms : List NM) (st : RV × List PNode) (w' : World) : Prop :=
  ∃ hv', NmAt n0 w' ρ vb hv' st.1 st.2 ms ∧ Rel w hv hv' ∧ Fr n0 ρ vb hv w w'

theorem NmPost.trans {n0 : Nat} {w w1 w2 : World} {ρ : Nat → Role} {vb : Nat} {hv hv1 : Value} {ms : List NM} {st : RV × List PNode} (hr : Rel w hv hv1) (hf : Fr n0 ρ vb hv w w1) (h : NmPost n0 w1 ρ vb hv1 ms st w2) : NmPost n0 w ρ vb hv ms st w2 := by
  obtain ⟨hv2, a, b, c⟩ := h
  exact ⟨hv2, a, hr.trans hf.size b, hf.trans hr c⟩

def Up (ns : List PNode) : Prop := ∀ i, ∀ k ∈ (ns.getD i default).kids, i < k ∧ k < ns.length
theorem Up.shape {a b : List PNode} (h : Up a) (s : SameShape a b) : Up b := by
  intro i k hk
  rw [s.kids i] at hk
  rw [s.len]
  exact h i k hk

def NameSaid (f : Nat) : Prop := ∀ (n0 : Nat) (w : World) (ρ : Nat → Role) (vb : Nat) (hv : Value) (r : RV) (ns : List PNode) (ms : List NM) (i : Nat) (m : NM), NmAt n0 w ρ vb hv r ns ms → i < ns.length → ms[i]? = some m → Up ns → ns.length - i ≤ f → 0 < r.hold.length → r.hold.length + f ≤ 100000 →
  Calls Tryz.prog 57 #[.pointer (some ⟨vb, 0, none⟩), .pointer (some ⟨m.blk, 0, none⟩)] w fun e w' => e = .returned (.tuple #[]) ∧ NmPost n0 w ρ vb hv ms (nameF f (r, ns) i) w'

theorem foldl_take_succ {β : Type} (f : β → Nat → β) (l : List Nat) (x : β) (j : Nat) (h : j < l.length) : (l.take (j + 1)).foldl f x = f ((l.take j).foldl f x) l[j] := by
  rw [List.take_succ_eq_append_getElem h, List.foldl_append]; rfl

set_option maxHeartbeats 1000000 in
theorem below_any (f : Nat) (ih : NameSaid f) (n0 : Nat) (w : World) (ρ : Nat → Role) (vb : Nat) (hv : Value) (r : RV) (ns : List PNode) (ms : List NM) (i : Nat) (m : NM) (h : NmAt n0 w ρ vb hv r ns ms) (hi : i < ns.length) (hm : ms[i]? = some m) (hup : Up ns) (hf : ns.length - i ≤ f + 1) (hpos : 0 < r.hold.length) (hlim : r.hold.length + f ≤ 100000) :
    Calls Tryz.prog 104 #[.pointer (some ⟨vb, 0, none⟩), .pointer (some ⟨m.blk, 0, none⟩)] w fun e w' => e = .returned (.tuple #[]) ∧ NmPost n0 w ρ vb hv ms ((ns.getD i default).kids.foldl (nameF f) (r, ns)) w' := by
  generalize hn : ns.getD i default = n
  have hN := h.tree.at' i (ns.getD i default) m (by rw [getD_lt _ _ _ hi]; simp [hi]) hm
  rw [hn] at hN
  obtain ⟨sa, sc, hsl⟩ := ownsRow_len hN.own
  have c7 : w.cell? ⟨m.blk, 7, none⟩ = some (.slice sa n.kids.length sc) := by rw [cell_at hN.cells 7, ← hsl]; rfl
  have hkl : n.kids.length ≤ 9223372036854775807 := by
    rcases hN.own.2 with ⟨_, h0⟩ | ⟨g, cap, cur, _, _, _, h1, h2, _⟩
    · omega
    · exact Nat.le_trans h1 h2
  have keep : ∀ j, SameShape ns ((n.kids.take j).foldl (nameF f) (r, ns)).2 ∧ ((n.kids.take j).foldl (nameF f) (r, ns)).1.hold = r.hold := fun j =>
    fold_keep (fun x y : RV × List PNode => SameShape x.2 y.2 ∧ y.1.hold = x.1.hold) (fun x => ⟨SameShape.refl _, rfl⟩) (fun x y z h k => ⟨h.1.trans k.1, k.2.trans h.2⟩) (nameF f) (fun x k => nameF_keep f x k) _ (r, ns)
  have kin : ∀ j (hj : j < n.kids.length), i < n.kids[j] ∧ n.kids[j] < ns.length := fun j hj => hup i _ (by rw [hn]; exact List.getElem_mem hj)
  have H := hide h; have Hn := hide hn; have Hsl := hide hsl; have Keep := hide keep; have Kin := hide kin; have Ih := hide ih
  clear h hn hN hsl keep kin ih
  go_enter Tryz.func104, Tryz.ntmps104
  go_wp2_with fail
  go_loopw [5, 11] (fun _ x wr => ∃ j : Nat, j ≤ n.kids.length ∧ x = .int .i64 j ∧ NmPost n0 w ρ vb hv ms ((n.kids.take j).foldl (nameF f) (r, ns)) wr) (fun _ x _ => n.kids.length - (intOf x).toNat)
  case atStart => exact ⟨0, Nat.zero_le _, rfl, hv, H.out, Rel.refl _ _, Fr.refl _ _ _ _ _⟩
  case round =>
    obtain ⟨j, hj, rfl, hp⟩ := hrel
    obtain ⟨hvj, nj, rj, fj⟩ := hp
    have Nj := hide nj; have Rj := hide rj; have Fj := hide fj
    clear nj rj fj
    by_cases hjn : j < n.kids.length
    · have hsh := (Keep.out j).1
      have hk := Kin.out j hjn
      have hkids : (((n.kids.take j).foldl (nameF f) (r, ns)).2.getD i default).kids = n.kids := by rw [hsh.kids i, Hn.out]
      have hNj := Nj.out.tree.at' i (((n.kids.take j).foldl (nameF f) (r, ns)).2.getD i default) m (by rw [getD_lt _ _ _ (by rw [hsh.len]; exact hi)]; simp [hsh.len, hi]) hm
      rw [hkids] at hNj
      obtain ⟨g, cap, cur, hg1, hg, hc1, hc2, hc3, hc4⟩ := ownsRow_shape (by have := hNj.own; rw [hkids] at this; exact this) (by omega)
      have esl : Value.slice sa n.kids.length sc = .slice (some ⟨g, 0, none⟩) n.kids.length cap := Hsl.out.symm.trans hg1
      injection esl with ea _ ec
      subst ea; subst ec
      obtain ⟨mk, hmk, _, hbk⟩ := Nj.out.tree.get (i := n.kids[j]) (by rw [hsh.len]; exact hk.2)
      have ci : wr.cell? ⟨g, j, none⟩ = some (.pointer (some ⟨mk.blk, 0, none⟩)) := by
        have : wr.cell? ⟨g, j, none⟩ = some (ptrTo ms n.kids[j]) := by
          refine ownsRow_cell hg hc4 ?_
          simp [hjn]
        rw [this]; unfold ptrTo; rw [hbk]
      have hold : ((n.kids.take j).foldl (nameF f) (r, ns)).1.hold = r.hold := (Keep.out j).2
      have a1 : 0 < ((n.kids.take j).foldl (nameF f) (r, ns)).1.hold.length := by rw [hold]; exact hpos
      have a2 : ((n.kids.take j).foldl (nameF f) (r, ns)).1.hold.length + f ≤ 100000 := by rw [hold]; exact hlim
      have a3 := hup.shape hsh
      have a4 : ((n.kids.take j).foldl (nameF f) (r, ns)).2.length - n.kids[j] ≤ f := by rw [hsh.len]; omega
      have hkl' : n.kids[j] < ((n.kids.take j).foldl (nameF f) (r, ns)).2.length := by rw [hsh.len]; exact hk.2
      have hjl : (j : Int) < (n.kids.length : Int) := by omega
      have es := foldl_take_succ (nameF f) n.kids (r, ns) j hjn
      have Es := hide es; have Hmk := hide hmk; have A3 := hide a3
      clear hsh hk hkids hNj hg1 hg hc1 hc2 hc3 hc4 hbk hold es hmk a3
      generalize hst : (n.kids.take j).foldl (nameF f) (r, ns) = st at *
      clear hst
      generalize n.kids[j] = kj at *
      go_wp2_with (go_at_call 57; refine (Ih.out n0 _ ρ vb hvj st.1 st.2 ms kj mk Nj.out hkl' Hmk.out A3.out a4 a1 a2).mono ?_; rintro e w2 ⟨rfl, p2⟩; have P2 := hide p2; clear p2)
      go_roundw
      case rel =>
        refine ⟨j + 1, by omega, by go_num, ?_⟩
        rw [Es.out]
        exact P2.out.trans Rj.out Fj.out
      case measure => simp [intOf]; omega
    · have hje : j = n.kids.length := by omega
      subst hje
      go_wp2_with fail
      go_end0
      rw [List.take_length] at Nj
      exact ⟨rfl, hvj, Nj.out, Rj.out, Fj.out⟩
end Go.Proofs.YtijcgaebpplngaaGreatDoor
