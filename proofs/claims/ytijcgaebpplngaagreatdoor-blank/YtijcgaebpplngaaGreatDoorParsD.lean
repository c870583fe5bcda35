import Derived.Test.YtijcgaebpplngaaGreatDoorParsC
namespace Go.Proofs.YtijcgaebpplngaaGreatDoor
open Go.RowKit

theorem add_any (base q : Nat) (w : World) (pb : Nat) (s : PS) (h : StateAt base q w pb s) (ok : s.Ok) (hN : s.nodes.length ≤ 1000) (m : Int) (hm : w.cell? ⟨0, 0, none⟩ = some (.int .i64 m)) (line : Bs) (number : Int) (hl : line.length ≤ 800) :
    Calls Tryz.prog 55 #[.pointer (some ⟨pb, 0, none⟩), .string ⟨line.toArray⟩, .int .i64 number] w fun e w' =>
      e = .returned (.int .i64 (s.add line number).2) ∧ StateAt base q w' pb (s.add line number).1 ∧ Below base w w' ∧ w'.heap[q]? = w.heap[q]? := by
  obtain ⟨ρ, ms, cv, ht, hp, hj, hbs, hq, hb0⟩ := id h
  by_cases h1 : trimB line = []
  · have e1 : s.add line number = (s, 0) := by unfold PS.add; rw [if_pos h1]
    rw [e1]
    refine (add_blank w pb line number h1).mono ?_
    rintro e w' ⟨rfl, rfl⟩
    exact ⟨rfl, h, Below.refl _ _, rfl⟩
  · by_cases h2 : 10 < (line.length - (trimB line).length) / 2
    · have e1 : s.add line number = (s, 3) := by unfold PS.add; rw [if_neg h1, if_pos h2]
      rw [e1]
      refine (add_deep w pb line number hl h1 h2).mono ?_
      rintro e w' ⟨rfl, rfl⟩
      exact ⟨rfl, h, Below.refl _ _, rfl⟩
    · by_cases h3 : (line.length - (trimB line).length) % 2 ≠ 0 ∨ s.fits ((line.length - (trimB line).length) / 2) = false
      · have e1 : s.add line number = (s, 2) := by unfold PS.add; rw [if_neg h1, if_neg h2, if_pos h3]
        rw [e1]
        refine (add_wrong w ρ pb s ms cv hp ht ok line number hl h1 h2 h3).mono ?_
        rintro e w' ⟨rfl, rfl⟩
        exact ⟨rfl, h, Below.refl _ _, rfl⟩
      · have h3' := h3
        simp only [not_or, Decidable.not_not] at h3'
        obtain ⟨ho, hf⟩ := h3'
        have hf' : s.fits ((line.length - (trimB line).length) / 2) = true := by simpa using hf
        generalize hd : (line.length - (trimB line).length) / 2 = d at *
        generalize hr : readLineF (trimB line) (s.at (s.above d)).kind = r
        have e1 : s.add line number = if r.2 ≠ 0 then (s, r.2) else (s.put d r.1 number, 0) := by
          unfold PS.add
          simp only [hd]
          rw [if_neg h1, if_neg h2, if_neg h3, hr]
        have hA := ok.above (PS.fits_lt hf')
        have hmem : s.at (s.above d) ∈ s.nodes := by unfold PS.at; rw [getD_lt _ _ _ hA]; exact List.getElem_mem hA
        have hK := ok.few _ hmem
        refine (add_read w ρ pb s ms cv hp ht ok m hm base q hbs hq hj hb0 line number hl h1 d hd (by omega) ho hf' (by omega) r hr).mono ?_
        rintro e w' ⟨ha, hb⟩
        by_cases he : r.2 = 0
        · rw [e1, if_neg (by simpa using he)]
          exact hb he
        · rw [e1, if_pos he]
          obtain ⟨rfl, hbl⟩ := ha he
          exact ⟨rfl, h.below hbl, hbl.mono hbs, hbl.block q hq⟩

theorem bytes_eta (b : ByteArray) : (⟨b.data.toList.toArray⟩ : ByteArray) = b := by cases b; simp

def linesF (text : Bs) : List Bs := Lib.split text [10]

theorem splitK_le (sep : Bs) (save : Nat) (hs : save = 0) : ∀ (k : Nat) (s l : Bs), l ∈ Lib.splitK sep save k s → l.length ≤ s.length
  | 0, s, l, h => by simp [Lib.splitK] at h; subst h; exact Nat.le_refl _
  | k + 1, s, l, h => by
    unfold Lib.splitK at h
    split at h
    · simp at h; subst h; exact Nat.le_refl _
    · simp only [List.mem_cons] at h
      rcases h with rfl | h
      · simp; omega
      · have := splitK_le sep save hs k _ l h
        simp at this; omega
theorem linesF_le (text l : Bs) (h : l ∈ linesF text) : l.length ≤ text.length := splitK_le _ _ rfl _ _ _ h

theorem split_lines (text : Bs) : (Lib.splitB ⟨#[10]⟩ 0 (Lib.countB ⟨text.toArray⟩ ⟨#[10]⟩) ⟨text.toArray⟩).map Value.string = (linesF text).map (fun l => Value.string ⟨l.toArray⟩) := by
  have h := Lib.splitB_data ⟨#[10]⟩ 0 (Lib.countB ⟨text.toArray⟩ ⟨#[10]⟩) ⟨text.toArray⟩
  have e : Lib.splitK (⟨#[10]⟩ : ByteArray).data.toList 0 (Lib.countB ⟨text.toArray⟩ ⟨#[10]⟩) (⟨text.toArray⟩ : ByteArray).data.toList = linesF text := by
    unfold linesF Lib.split Lib.countB; simp
  rw [e] at h
  rw [← h, List.map_map]
  apply List.map_congr_left
  intro b _
  show Value.string b = Value.string ⟨b.data.toList.toArray⟩
  rw [bytes_eta]
theorem split_count (text : Bs) : Lib.countB ⟨text.toArray⟩ ⟨#[10]⟩ + 1 = (linesF text).length := by
  have h := Lib.splitB_all ⟨#[10]⟩ (by decide) 0 _ ⟨text.toArray⟩ rfl
  have h2 := congrArg List.length (split_lines text)
  simp at h2
  omega

theorem start_state (w : World) (O : Obj) :
    StateAt w.heap.size (w.heap.size + 3) ((((w.alloc (.cells #[.int .i64 0, .int .i64 0, .string ⟨#[]⟩, .int .i64 0, .string ⟨#[]⟩, .int .i64 0, .pointer none, .slice none 0 0] 109)).alloc (.cells #[.pointer (some ⟨w.heap.size, 0, none⟩)] 52)).alloc (.cells #[.slice (some ⟨w.heap.size + 1, 0, none⟩) 1 1] 112)).alloc O) (w.heap.size + 2) startP := by
  have a0 := at_alloc (at_alloc (at_alloc (at_new w (.cells #[.int .i64 0, .int .i64 0, .string ⟨#[]⟩, .int .i64 0, .string ⟨#[]⟩, .int .i64 0, .pointer none, .slice none 0 0] 109)) (.cells #[.pointer (some ⟨w.heap.size, 0, none⟩)] 52)) (.cells #[.slice (some ⟨w.heap.size + 1, 0, none⟩) 1 1] 112)) O
  have a1 := at_alloc (at_alloc (at_new (w.alloc (.cells #[.int .i64 0, .int .i64 0, .string ⟨#[]⟩, .int .i64 0, .string ⟨#[]⟩, .int .i64 0, .pointer none, .slice none 0 0] 109)) (.cells #[.pointer (some ⟨w.heap.size, 0, none⟩)] 52)) (.cells #[.slice (some ⟨w.heap.size + 1, 0, none⟩) 1 1] 112)) O
  have a2 := at_alloc (at_new ((w.alloc (.cells #[.int .i64 0, .int .i64 0, .string ⟨#[]⟩, .int .i64 0, .string ⟨#[]⟩, .int .i64 0, .pointer none, .slice none 0 0] 109)).alloc (.cells #[.pointer (some ⟨w.heap.size, 0, none⟩)] 52)) (.cells #[.slice (some ⟨w.heap.size + 1, 0, none⟩) 1 1] 112)) O
  simp only [World.size_alloc] at a1 a2
  refine ⟨fun k => if k = w.heap.size then .node 0 else if k = w.heap.size + 1 then .carr else if k = w.heap.size + 2 then .pars else .junk, [⟨w.heap.size, none, 0, 0, .slice none 0 0⟩], .slice (some ⟨w.heap.size + 1, 0, none⟩) 1 1, ⟨rfl, ?_⟩, ⟨a2, ?_, ?_, ?_⟩, ?_, ?_, ?_, rfl⟩
  · intro i n m hn hm
    cases i with
    | zero =>
      simp [startP] at hn hm
      subst hn; subst hm
      exact ⟨a0, by simp, ⟨Nat.le_refl _, rfl⟩, fun b _ hb => absurd hb (by simp), by simp, World.ownsRow_nil _ _ _ _, by simp [Value.ownBlock]⟩
    | succ i => simp [startP] at hn
  · simp
  · refine ⟨rfl, .inr ⟨w.heap.size + 1, 1, _, rfl, Nat.zero_le _, a1, by decide, by decide, rfl, ?_⟩⟩
    simp [startP, ptrTo, blkOf]
  · intro g hg
    simp [Value.ownBlock] at hg
    subst hg; simp
  · intro k hk
    rcases hk with hk | hk
    · simp only []; rw [if_neg (by omega), if_neg (by omega), if_neg (by omega)]
    · simp only []; rw [if_neg (by omega), if_neg (by omega), if_neg (by omega)]
  · simp; omega
  · simp

end Go.Proofs.YtijcgaebpplngaaGreatDoor
