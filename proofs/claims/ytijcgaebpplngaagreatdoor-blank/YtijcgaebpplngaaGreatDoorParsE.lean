import Derived.Test.YtijcgaebpplngaaGreatDoorParsD
import Derived.Deep.LoopGhost
import Derived.Deep.DeepFit
namespace Go.Proofs.YtijcgaebpplngaaGreatDoor
open Go.RowKit

def rootOf (s : PS) : Nat := (s.at 0).kids.getD 0 0

/-- what parse.Text hands back -/
def TextPost (w : World) (text : Bs) (e : Ending) (w' : World) : Prop :=
  ∃ v, e = .returned (.tuple #[.pointer v, .int .i64 (parseF text (linesF text)).2.1, .int .i64 (parseF text (linesF text)).2.2]) ∧ Below w.heap.size w w' ∧
    ∀ s, (parseF text (linesF text)).1 = some s → ∃ ρ ms, TreeAt w' ρ s.nodes ms ∧ (∀ k, k < w.heap.size → ρ k = .junk) ∧ v = some ⟨blkOf ms (rootOf s), 0, none⟩

set_option maxHeartbeats 1000000 in
theorem text_long (text : Bs) (w : World) (hs : text.length ≤ 9223372036854775807) (hl : 800 < text.length) : Calls Tryz.prog 37 #[.string ⟨text.toArray⟩] w (TextPost w text) := by
  have e1 : parseF text (linesF text) = (none, 1, 0) := by unfold parseF; rw [if_pos hl]
  unfold TextPost
  rw [e1]
  have hl' : (800 : Int) < (text.length : Int) := by omega
  clear e1
  go_enter Tryz.func37, Tryz.ntmps37
  go_wp2_with fail
  go_ret3
  exact ⟨none, rfl, Below.refl _ _, fun s h => by cases h⟩

set_option maxHeartbeats 1000000 in
theorem text_short (text : Bs) (w : World) (hl : text.length ≤ 800) (m : Int) (hm : w.cell? ⟨0, 0, none⟩ = some (.int .i64 m)) : Calls Tryz.prog 37 #[.string ⟨text.toArray⟩] w (TextPost w text) := by
  have hl' : ¬ (800 : Int) < (text.length : Int) := by omega
  have hle := linesF_le text
  have hcnt := split_count text
  have hmap := split_lines text
  unfold TextPost
  generalize hP : parseF text (linesF text) = P
  generalize hLs : linesF text = ls at *
  have hn0 : 1 ≤ ls.length := by omega
  have hn1 : ls.length ≤ 801 := by
    have := Lib.countB_le ⟨#[10]⟩ (by decide) text.length ⟨text.toArray⟩ (by simp [ByteArray.size])
    simp [ByteArray.size] at this
    omega
  have HP := hide hP; have Hm := hide hm; have Hle := hide hle; have Hcnt := hide hcnt; have Hmap := hide hmap; have Hl := hide hl
  have h0 : 0 < w.heap.size := by
    rcases Nat.lt_or_ge 0 w.heap.size with h | h
    · exact h
    · simp [World.cell?, Array.getElem?_eq_none h] at hm
  clear hP hm hle hcnt hmap hLs hl
  go_enter Tryz.func37, Tryz.ntmps37
  go_wp2_with fail
  refine (Tryz.strings_Split ⟨text.toArray⟩ ⟨#[10]⟩ m _ (by have := Hl.out; simp [ByteArray.size]; omega) (by
    have b0 : Below w.heap.size w (((w.alloc (.cells #[.int .i64 0, .int .i64 0, .string ⟨#[]⟩, .int .i64 0, .string ⟨#[]⟩, .int .i64 0, .pointer none, .slice none 0 0] 109)).alloc (.cells #[.pointer (some ⟨w.heap.size, 0, none⟩)] 52)).alloc (.cells #[.slice (some ⟨w.heap.size + 1, 0, none⟩) 1 1] 112)) := (((Below.refl _ _).alloc (Nat.le_refl _) _).alloc (by simp) _).alloc (by simp; omega) _
    rw [b0.cell (p := ⟨0, 0, none⟩) h0]; exact Hm.out) (by decide)).mono ?_
  rintro e w' ⟨rfl, rfl⟩
  rw [Hmap.out, Hcnt.out]
  have st := start_state w (.cells (ls.map fun l => Value.string ⟨l.toArray⟩).toArray 9)
  have bb : Below w.heap.size w ((((w.alloc (.cells #[.int .i64 0, .int .i64 0, .string ⟨#[]⟩, .int .i64 0, .string ⟨#[]⟩, .int .i64 0, .pointer none, .slice none 0 0] 109)).alloc (.cells #[.pointer (some ⟨w.heap.size, 0, none⟩)] 52)).alloc (.cells #[.slice (some ⟨w.heap.size + 1, 0, none⟩) 1 1] 112)).alloc (.cells (ls.map fun l => Value.string ⟨l.toArray⟩).toArray 9)) := ((((Below.refl _ _).alloc (Nat.le_refl _) _).alloc (by simp) _).alloc (by simp; omega) _).alloc (by simp; omega) _
  have aq := at_new (((w.alloc (.cells #[.int .i64 0, .int .i64 0, .string ⟨#[]⟩, .int .i64 0, .string ⟨#[]⟩, .int .i64 0, .pointer none, .slice none 0 0] 109)).alloc (.cells #[.pointer (some ⟨w.heap.size, 0, none⟩)] 52)).alloc (.cells #[.slice (some ⟨w.heap.size + 1, 0, none⟩) 1 1] 112)) (.cells (ls.map fun l => Value.string ⟨l.toArray⟩).toArray 9)
  simp only [World.size_alloc] at aq
  have St := hide st; have Bb := hide bb; have Aq := hide aq
  clear st bb aq
  generalize (((w.alloc (.cells #[.int .i64 0, .int .i64 0, .string ⟨#[]⟩, .int .i64 0, .string ⟨#[]⟩, .int .i64 0, .pointer none, .slice none 0 0] 109)).alloc (.cells #[.pointer (some ⟨w.heap.size, 0, none⟩)] 52)).alloc (.cells #[.slice (some ⟨w.heap.size + 1, 0, none⟩) 1 1] 112)).alloc (.cells (ls.map fun l => Value.string ⟨l.toArray⟩).toArray 9) = w1 at St Bb Aq ⊢
  simp only [World.size_alloc]
  go_wp2_with fail
  go_loopw [8, 9, 10, 24] (fun _ _ _ i wr => ∃ k : Nat, k ≤ ls.length ∧ i = .int .i64 k ∧ StateAt w.heap.size (w.heap.size + 3) wr (w.heap.size + 2) (upTo ls k) ∧ Below w.heap.size w wr ∧ wr.heap[w.heap.size + 3]? = some (.cells (ls.map fun l => Value.string ⟨l.toArray⟩).toArray 9) ∧ ∀ j, j < k → errAt ls j = 0) (fun _ _ _ i _ => ls.length - (intOf i).toNat)
  case atStart => exact ⟨0, Nat.zero_le _, rfl, St.out, Bb.out, Aq.out, fun j hj => by omega⟩
  case round =>
    obtain ⟨k, hk, rfl, st, bl, aq, he⟩ := hrel
    have Sr := hide st; have Br := hide bl; have Ar := hide aq; have He := hide he
    clear st bl aq he St Bb Aq
    by_cases hkn : k < ls.length
    · have ci : wr.cell? ⟨w.heap.size + 1 + 1 + 1, k, none⟩ = some (.string ⟨(ls.getD k []).toArray⟩) := by
        have := cell_at Ar.out k
        rw [show (⟨w.heap.size + 1 + 1 + 1, k, none⟩ : Addr) = ⟨w.heap.size + 3, k, none⟩ from rfl, this]
        simp [hkn]
      have hlk : (ls.getD k []).length ≤ 800 := by
        have h1 := Hle.out (ls.getD k []) (by rw [getD_lt _ _ _ hkn]; exact List.getElem_mem hkn)
        have := Hl.out
        omega
      have hm1 : wr.cell? ⟨0, 0, none⟩ = some (.int .i64 m) := by rw [Br.out.cell (p := ⟨0, 0, none⟩) h0]; exact Hm.out
      have Hm1 := hide hm1
      have hN : (upTo ls k).nodes.length ≤ 1000 := by have := upTo_len ls k; omega
      clear hm1
      go_wp2_with fail
      rw [show ls[k] = ls.getD k [] from (getD_lt _ _ _ hkn).symm]
      refine (add_any w.heap.size (w.heap.size + 3) _ (w.heap.size + 2) (upTo ls k) Sr.out (upTo_ok ls k) hN m Hm1.out (ls.getD k []) ((k : Int) + 1) hlk).mono ?_
      rintro e w2 ⟨rfl, st2, bl2, aq2⟩
      have S2 := hide st2; have B2 := hide bl2; have A2 := hide aq2
      clear st2 bl2 aq2
      have ee : ((upTo ls k).add (ls.getD k []) ((k : Int) + 1)).2 = errAt ls k := rfl
      rw [ee]
      by_cases hz : errAt ls k = 0
      · have hz' : (errAt ls k != 0) = false := by simp [hz]
        have Hz := hide hz
        clear hz ee
        go_wp2
        go_roundw
        case rel =>
          refine ⟨k + 1, by omega, by go_num, S2.out, Br.out.trans B2.out, A2.out.trans Ar.out, fun j hj => ?_⟩
          by_cases e : j = k
          · subst e; exact Hz.out
          · exact He.out j (by omega)
        case measure => simp [intOf]; omega
      · have hz' : (errAt ls k != 0) = true := by simp [hz]
        have Hz : Hid (errAt ls k ≠ 0) := hz
        clear hz ee
        go_wp2
        go_ret3
        have e1 := parseF_err text ls Hl.out k hkn He.out Hz.out
        rw [HP.out] at e1
        subst e1
        exact ⟨none, rfl, Br.out.trans B2.out, fun s h => by cases h⟩
    · have hke : k = ls.length := by omega
      obtain ⟨ρ, ms, cv, ht, hp, hj, hb, hq, hb0⟩ := Sr.out
      have Hb0 := hide hb0
      clear hb0
      have Ht := hide ht; have Hp := hide hp; have Hj := hide hj
      clear ht hp hj
      have hall : Hid (∀ i, i < ls.length → errAt ls i = 0) := fun i hi => He.out i (by omega)
      subst hke
      cases hc : (upTo ls ls.length).complete 0 with
      | false =>
        have e1 := parseF_open text ls Hl.out hall.out hc
        rw [HP.out] at e1
        have E1 := hide e1; have Hc := hide hc
        clear e1 hc
        go_wp2_with (go_at_call 56; refine (completeFrom_any _ ρ _ (upTo ls ls.length) ms cv Hp.out Ht.out (upTo_ok ls _) 0 (Nat.zero_le _)).mono ?_; rw [Hc.out]; rintro e wx ⟨rfl, hw⟩; have hw := hw.symm; subst hw)
        go_ret3
        have e2 := E1.out
        subst e2
        exact ⟨none, rfl, Br.out, fun s h => by cases h⟩
      | true =>
        have e1 := parseF_done text ls Hl.out hall.out hc
        rw [HP.out] at e1
        have E1 := hide e1; have Hc := hide hc
        have hr := root_lt ls ls.length hc
        clear e1 hc
        have h0n : 0 < (upTo ls ls.length).nodes.length := List.length_pos_iff.2 (upTo_first ls _).2.1
        obtain ⟨m0, hm0, hN0, hk0⟩ := Ht.out.get h0n
        obtain ⟨g, cap, cur, hsl, hg, hc1, hc2, hc3, hc4⟩ := ownsRow_shape hN0.own hr.1
        have hw0 : m0.blk = w.heap.size := hk0.symm.trans Hb0.out
        have c7 : wr.cell? ⟨w.heap.size, 7, none⟩ = some (.slice (some ⟨g, 0, none⟩) ((upTo ls ls.length).at 0).kids.length cap) := by
          rw [← hw0, cell_at hN0.cells 7]
          show some m0.sl = _
          rw [hsl]; rfl
        have cg : wr.cell? ⟨g, 0, none⟩ = some (.pointer (some ⟨blkOf ms (rootOf (upTo ls ls.length)), 0, none⟩)) := by
          refine ownsRow_cell hg hc4 ?_
          have hr1 : 0 < ((upTo ls ls.length).nodes.getD 0 default).kids.length := hr.1
          simp only [List.getElem?_map]
          rw [List.getElem?_eq_getElem hr1]
          show some (ptrTo ms _) = _
          unfold ptrTo rootOf PS.at
          rw [getD_lt _ _ _ hr1]
        have hr1 : (0 : Int) < (((upTo ls ls.length).at 0).kids.length : Int) := by have := hr.1; omega
        clear hm0 hN0 hsl hg hc4 hk0 hw0 hr hc1 hc2 hc3
        go_wp2_with (go_at_call 56; refine (completeFrom_any _ ρ _ (upTo ls ls.length) ms cv Hp.out Ht.out (upTo_ok ls _) 0 (Nat.zero_le _)).mono ?_; rw [Hc.out]; rintro e wx ⟨rfl, hw⟩; have hw := hw.symm; subst hw)
        go_ret3
        have e2 := E1.out
        subst e2
        refine ⟨_, rfl, Br.out, fun s h => ?_⟩
        injection h with h
        subst h
        exact ⟨ρ, ms, Ht.out, fun k hk => Hj.out k (.inl hk), rfl⟩
end Go.Proofs.YtijcgaebpplngaaGreatDoor
