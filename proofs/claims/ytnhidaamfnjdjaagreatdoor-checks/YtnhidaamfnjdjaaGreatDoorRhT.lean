import Derived.Test.YtnhidaamfnjdjaaGreatDoorRhS
import Derived.Test.YtnhidaamfnjdjaaGreatDoorRhSb
import Derived.Test.YtnhidaamfnjdjaaGreatDoorRhN
import Derived.Test.YtnhidaamfnjdjaaGreatDoorRhQ
namespace Go.Proofs.YtnhidaamfnjdjaaGreatDoor
open Go.RowKit Go.Maps

theorem line_bad {S : RP} {l : Bs} {no : Int} (hd : ¬ 10 < spanN blankB l / 2) (hb : S.badB (spanN blankB l) (startX (l.drop (spanN blankB l)) S.xs).now = true) : S.line l no = (S, 2) := by
  unfold RP.line
  dsimp only
  rw [if_neg hd, if_pos hb]
theorem line_ok {S : RP} {l : Bs} {no : Int} (hd : ¬ 10 < spanN blankB l / 2) (hb : S.badB (spanN blankB l) (startX (l.drop (spanN blankB l)) S.xs).now = false) :
    S.line l no = if (rend (rswitch (startX (l.drop (spanN blankB l)) S.xs)).2).e ≠ 0 then (S, (rend (rswitch (startX (l.drop (spanN blankB l)) S.xs)).2).e) else (S.put (S.closed (spanN blankB l / 2)).1 (spanN blankB l / 2) (rswitch (startX (l.drop (spanN blankB l)) S.xs)).1 no (rswitch (startX (l.drop (spanN blankB l)) S.xs)).2.xs, 0) := by
  unfold RP.line
  dsimp only
  rw [if_neg hd, if_neg (by rw [hb]; simp)]

def LPostR (lo b : Nat) (S : RP) (l : Bs) (no : Int) (w : World) (e : Ending) (w' : World) : Prop := ((S.line l no).2 = 0 → LGood lo b (S.line l no).1 no w e w') ∧ ((S.line l no).2 ≠ 0 → LFail lo b no (S.line l no).2 w e w')
theorem post_bad {lo b : Nat} {S : RP} {l : Bs} {no : Int} {w : World} {c : Int} {X : RP} (hc : c ≠ 0) (e1 : S.line l no = (X, c)) {e : Ending} {w' : World} (h : LFail lo b no c w e w') : LPostR lo b S l no w e w' := by
  unfold LPostR
  rw [e1]
  exact ⟨fun x => absurd x hc, fun _ => h⟩

theorem rline_any (w : World) (lo b : Nat) (ρ : Nat → Ro) (M : List (RNd × Value)) (S : RP) (s : XR) (vn vx vt pv : Value) (line : Int) (k : Nat) (h : LnAt w lo b ρ M S s vn vx vt pv line) (ok : SOk S k) (hk : k ≤ 800) (l : Bs) (hl : l.length ≤ 1000) (no : Int) :
    Calls Tryz.prog 67 #[.pointer (some ⟨b, 0, none⟩), .string ⟨l.toArray⟩, .int .i64 no, pv] w fun e w' => LPostR lo b S l no w e w' := by
  by_cases hd : 10 < spanN blankB l / 2
  · have e1 : S.line l no = (S, 3) := by unfold RP.line; dsimp only; rw [if_pos hd]
    exact (line_deep w lo b ρ M S s vn vx vt pv line k h ok hk l hl no hd).mono fun e w' x => post_bad (by decide) e1 x
  · have hd' : spanN blankB l / 2 ≤ 10 := by omega
    have hml : M.length = S.nodes.length := by rw [← h.ns, List.length_map]
    by_cases hp : spanN blankB l % 2 = 1
    · refine (line_a1 w lo b ρ M S s vn vx vt pv line k h ok hk l hl no hd' hp).mono fun e w' x => post_bad (by decide) (line_bad hd ?_) x
      unfold RP.badB
      rw [decide_eq_true hp]; rfl
    · have hp' : spanN blankB l % 2 = 0 := by omega
      cases hz : (S.closed (spanN blankB l / 2)).2 with
      | false =>
        refine (line_a2 w lo b ρ M S s vn vx vt pv line k h ok hk l hl no hd' hp' hz).mono fun e w' x => post_bad (by decide) (line_bad hd ?_) x
        unfold RP.badB
        rw [hz]; simp
      | true =>
        cases hg : (S.closed (spanN blankB l / 2)).1.getLast? with
        | none =>
          have he : (S.closed (spanN blankB l / 2)).1 = [] := List.getLast?_eq_none_iff.1 hg
          have bad : ∀ (c : Bool), decide (0 < spanN blankB l ∨ S.nodes.length ≠ 0 ∨ (startX (l.drop (spanN blankB l)) S.xs).now = wWhen ∨ (startX (l.drop (spanN blankB l)) S.xs).now = wOn) = c → S.badB (spanN blankB l) (startX (l.drop (spanN blankB l)) S.xs).now = c := by
            intro c hc
            unfold RP.badB
            rw [hg, decide_eq_false hp, hz]
            simpa using hc
          by_cases h0 : 0 < spanN blankB l
          · exact (line_b1 w lo b ρ M S s vn vx vt pv line k h ok hk l hl no hd' hp' hz he h0).mono fun e w' x => post_bad (by decide) (line_bad hd (bad _ (decide_eq_true (.inl h0)))) x
          · by_cases h1 : 0 < M.length
            · exact (line_b2 w lo b ρ M S s vn vx vt pv line k h ok hk l hl no hd' hp' hz he (by omega) h1).mono fun e w' x => post_bad (by decide) (line_bad hd (bad _ (decide_eq_true (.inr (.inl (by omega)))))) x
            · by_cases h2 : (startX (l.drop (spanN blankB l)) S.xs).now = wWhen ∨ (startX (l.drop (spanN blankB l)) S.xs).now = wOn
              · exact (line_b3 w lo b ρ M S s vn vx vt pv line k h ok hk l hl no hd' hp' hz he (by omega) (by omega) h2).mono fun e w' x => post_bad (by decide) (line_bad hd (bad _ (decide_eq_true (.inr (.inr h2))))) x
              · have e1 := line_ok (no := no) hd (bad false (decide_eq_false (by
                  rintro (x | x | x)
                  · exact h0 x
                  · omega
                  · exact h2 x)))
                rw [not_or] at h2
                by_cases hq : (rend (rswitch (startX (l.drop (spanN blankB l)) S.xs)).2).e = 0
                · rw [if_neg (by simpa using hq), he] at e1
                  refine (line_s0 w lo b ρ M S s vn vx vt pv line k h ok hk l hl no hd' hp' hz he (by omega) (by omega) h2 hq).mono fun e w' x => ?_
                  unfold LPostR
                  rw [e1]
                  exact ⟨fun _ => x, fun y => absurd rfl y⟩
                · rw [if_pos hq] at e1
                  exact (line_e0 w lo b ρ M S s vn vx vt pv line k h ok hk l hl no hd' hp' hz he (by omega) (by omega) h2 _ rfl hq).mono fun e w' x => post_bad hq e1 x
        | some t =>
          have bad : ∀ (c : Bool), (!(fitsB (S.at t) (startX (l.drop (spanN blankB l)) S.xs).now) || decide ((S.at t).inn + 1 ≠ spanN blankB l / 2)) = c → S.badB (spanN blankB l) (startX (l.drop (spanN blankB l)) S.xs).now = c := by
            intro c hc
            unfold RP.badB
            rw [hg, decide_eq_false hp, hz]
            exact hc
          cases hf : fitsB (S.at t) (startX (l.drop (spanN blankB l)) S.xs).now with
          | false => exact (line_c1 w lo b ρ M S s vn vx vt pv line k h ok hk l hl no hd' hp' hz t hg hf).mono fun e w' x => post_bad (by decide) (line_bad hd (bad _ (by rw [hf]; rfl))) x
          | true =>
            by_cases hi : (S.at t).inn + 1 = spanN blankB l / 2
            · have e1 := line_ok (no := no) hd (bad false (by rw [hf, decide_eq_false (by simpa using hi)]; rfl))
              by_cases hq : (rend (rswitch (startX (l.drop (spanN blankB l)) S.xs)).2).e = 0
              · rw [if_neg (by simpa using hq)] at e1
                refine (line_s1 w lo b ρ M S s vn vx vt pv line k h ok hk l hl no hd' hp' hz t hg hf hi hq).mono fun e w' x => ?_
                unfold LPostR
                rw [e1]
                exact ⟨fun _ => x, fun y => absurd rfl y⟩
              · rw [if_pos hq] at e1
                exact (line_e1 w lo b ρ M S s vn vx vt pv line k h ok hk l hl no hd' hp' hz t hg hf hi _ rfl hq).mono fun e w' x => post_bad hq e1 x
            · exact (line_c2 w lo b ρ M S s vn vx vt pv line k h ok hk l hl no hd' hp' hz t hg hf hi).mono fun e w' x => post_bad (by decide) (line_bad hd (bad _ (by rw [hf, decide_eq_true hi]; rfl))) x
end Go.Proofs.YtnhidaamfnjdjaaGreatDoor
namespace Go.Proofs.YtnhidaamfnjdjaaGreatDoor
open Go.RowKit Go.Maps

/-- the tables behind the first lines -/
theorem rgo_blank {S : RP} {n : Nat} {l : Bs} {r : List Bs} (h : trimB l = []) : rgo S n (l :: r) = rgo S (n + 1) r := by
  conv => lhs; unfold rgo
  rw [if_pos h]
theorem rgo_fail {S : RP} {n : Nat} {l : Bs} {r : List Bs} (h : trimB l ≠ []) (he : (S.line l ((n : Int) + 1)).2 ≠ 0) : rgo S n (l :: r) = .err (S.line l ((n : Int) + 1)).2 ((n : Int) + 1) := by
  conv => lhs; unfold rgo
  rw [if_neg h, if_pos he]
theorem rgo_good {S : RP} {n : Nat} {l : Bs} {r : List Bs} (h : trimB l ≠ []) (he : (S.line l ((n : Int) + 1)).2 = 0) : rgo S n (l :: r) = rgo (S.line l ((n : Int) + 1)).1 (n + 1) r := by
  conv => lhs; unfold rgo
  rw [if_neg h, if_neg (by simpa using he)]
theorem trim_span (l : Bs) : trimB l = [] ↔ spanN blankB l = l.length := by
  have := span_len l
  have hl := spanN_le blankB l
  constructor
  · intro h
    rw [h] at this
    simpa using this.symm
  · intro h
    rw [h] at this
    have h2 : (trimB l).length = 0 ∨ l.length = 0 := by omega
    rcases h2 with x | x
    · exact List.length_eq_zero_iff.1 x
    · have : l = [] := List.length_eq_zero_iff.1 x
      subst this
      rfl
theorem bel_low {w w1 w2 : World} {b : Nat} (h : Below w.heap.size w w1) (k : Bel w1.heap.size b w1 w2) (hb : w.heap.size ≤ b) : Below w.heap.size w w2 :=
  ⟨k.os.trans h.os, k.tape.trans h.tape, k.output.trans h.output, Nat.le_trans h.size k.size, fun i hi => (k.block i (by have := h.size; omega) (by omega)).trans (h.block i hi)⟩
structure ParsedAt (w w' : World) (b : Nat) (ρ : Nat → Ro) (M : List (RNd × Value)) (S : RP) (s : XR) (vn vx vt : Value) (line : Int) : Prop where
  tx : TxAt w' w.heap.size b ρ M s vn vx vt line
  xs : s.xs = S.xs
  ns : M.map Prod.fst = S.nodes
def ParsePost (text : Bs) (w : World) (e : Ending) (w' : World) : Prop :=
  Below w.heap.size w w' ∧ ((rparse text).1 = none → e = .returned (.tuple #[.pointer none, .int .i64 (rparse text).2.1, .int .i64 (rparse text).2.2])) ∧
    ∀ S, (rparse text).1 = some S → ∃ b ρ M s vn vx vt line, e = .returned (.tuple #[.pointer (some ⟨b, 0, none⟩), .int .i64 0, .int .i64 0]) ∧ ParsedAt w w' b ρ M S s vn vx vt line
theorem start_sok : SOk startRP 0 := ⟨Nat.zero_le _, Nat.zero_le _, Nat.zero_le _, fun p hp => by simp [startRP] at hp, fun i => by simp [startRP, RP.at, default], fun i => by simp [startRP, RP.at, default]⟩

theorem TxAt.less {w : World} {lo lo' b : Nat} {ρ : Nat → Ro} {M : List (RNd × Value)} {s : XR} {vn vx vt : Value} {line : Int} (h : TxAt w lo b ρ M s vn vx vt line) (hl : lo' ≤ lo) : TxAt w lo' b ρ M s vn vx vt line :=
  ⟨h.rd, h.nodes, h.kids, h.rb, fun g hg => ⟨by have := (h.rn g hg).1; omega, (h.rn g hg).2⟩, fun g hg => ⟨by have := (h.rx g hg).1; omega, (h.rx g hg).2⟩, fun g hg => ⟨by have := (h.rt g hg).1; omega, (h.rt g hg).2⟩, fun i n kv hi g hg => ⟨by have := (h.rk i n kv hi g hg).1; omega, (h.rk i n kv hi g hg).2⟩⟩
theorem flat_mem {x : Bs} : ∀ {ls : List Bs}, x ∈ ls → x.length ≤ (flatL ls).length
  | [], h => by cases h
  | l :: ls, h => by
    have e : flatL (l :: ls) = l ++ 10 :: flatL ls := by simp [flatL]
    rw [e, List.length_append, List.length_cons]
    simp only [List.mem_cons] at h
    rcases h with rfl | h
    · omega
    · have := flat_mem h; omega
theorem line_len {T : Bs} {x : Bs} (h : x ∈ linesF T) : x.length ≤ T.length := by
  rw [linesF_scan] at h
  have e := congrArg List.length (lscan_is T).1
  rw [List.length_append] at e
  simp only [List.mem_append, List.mem_singleton] at h
  rcases h with h | rfl
  · have := flat_mem h; omega
  · omega
/-- a text of nothing yet -/
theorem ln_start {w w1 : World} {vl : Value} {ls : List Bs} (hw : WordsAt (w.alloc (.cells #[.slice none 0 0, .slice none 0 0, .slice none 0 0, .int .i64 0, .int .i64 0, .int .i64 0, .int .i64 0] 138)) w1 vl ls) :
    LnAt w1 w1.heap.size w.heap.size (fun _ => .txt) [] startRP ⟨[], 0, 0, 0, []⟩ (.slice none 0 0) (.slice none 0 0) (.slice none 0 0) (.slice none 0 0) 0 := by
  have hb : w1.heap[w.heap.size]? = some (.cells #[.slice none 0 0, .slice none 0 0, .slice none 0 0, .int .i64 0, .int .i64 0, .int .i64 0, .int .i64 0] 138) := Below.at hw.bel (at_new w _) (by simp)
  have no : ∀ g, (Value.slice none 0 0).ownBlock ≠ some g := fun g e => by simp [Value.ownBlock] at e
  refine ⟨⟨⟨hb, World.ownsRow_nil _ _ _ _, World.ownsRow_nil _ _ _ _, no _, no _, fun g e => absurd e (no g)⟩, World.ownsRow_nil _ _ _ _, fun i n kv hi => by simp at hi, ⟨trivial, rfl⟩, fun g e => absurd e (no g), fun g e => absurd e (no g), fun g e => absurd e (no g), fun i n kv hi => by simp at hi⟩, rfl, rfl, rfl, World.ownsRow_nil _ _ _ _, fun g e => absurd e (no g), Nat.le_refl _⟩

set_option maxRecDepth 20000 in
set_option maxHeartbeats 8000000 in
theorem rParse_long (text : Bs) (hl : 800 < text.length) (hm : text.length ≤ 9223372036854775807) (w : World) : Calls Tryz.prog 45 #[.string ⟨text.toArray⟩] w fun e w' => ParsePost text w e w' := by
  have hp : rparse text = (none, 1, 0) := by unfold rparse; rw [if_pos hl]
  unfold ParsePost
  rw [hp]
  have hsz : (⟨text.toArray⟩ : ByteArray).size = text.length := rs_size text _ rfl
  clear hp
  go_enter Tryz.func45, Tryz.ntmps45
  go_wp2_with fail
  go_ret3
  exact ⟨Below.refl _ _, fun _ => rfl, fun S h => by cases h⟩

set_option maxRecDepth 20000 in
set_option maxHeartbeats 8000000 in
theorem rParse_short (text : Bs) (hl : text.length ≤ 800) (w : World) : Calls Tryz.prog 45 #[.string ⟨text.toArray⟩] w fun e w' => ParsePost text w e w' := by
  have hsz : (⟨text.toArray⟩ : ByteArray).size = text.length := rs_size text _ rfl
  have C := hide (fun w => rlines_any text ⟨text.toArray⟩ rfl (by omega) w)
  have hln := linesF_len text
  go_enter Tryz.func45, Tryz.ntmps45
  go_wp2_with (go_at_call 65; refine (C.out _).mono ?_; rintro e w1 ⟨v1, rfl, hw1⟩; obtain ⟨va1, vc1, rfl⟩ := ownsRow_len hw1.own; have W1 := hide hw1; clear hw1)
  have ls0 := ln_start W1.out
  have hz1 : (w.alloc (.cells #[.slice none 0 0, .slice none 0 0, .slice none 0 0, .int .i64 0, .int .i64 0, .int .i64 0, .int .i64 0] 138)).heap.size = w.heap.size + 1 := by simp
  have hz2 := W1.out.bel.size
  have LS0 := hide ls0; have Hz1 := hide hz1
  clear ls0 hz1
  generalize hls : linesF text = ls at *
  have hll : ∀ x ∈ ls, x.length ≤ 1000 := fun x hx => by rw [← hls] at hx; have := line_len hx; omega
  have Hll := hide hll; have Hls := hide hls
  clear hll hls
  have hbw : Below w.heap.size w w1 := below_trans (below_alloc w _) W1.out.bel (by rw [Hz1.out]; omega)
  have Hbw := hide hbw
  clear hbw
  go_loopw [7, 8] (fun pv i wr => ∃ (k : Nat) (S : RP) (ρ : Nat → Ro) (M : List (RNd × Value)) (s : XR) (vn vx vt : Value) (line : Int), k ≤ ls.length ∧ i = .int .i64 k ∧ rgo startRP 0 ls = rgo S k (ls.drop k) ∧ LnAt wr w1.heap.size w.heap.size ρ M S s vn vx vt pv line ∧ SOk S k ∧ Bel w1.heap.size w.heap.size w1 wr) (fun _ i _ => ls.length - (intOf i).toNat)
  case atStart => exact ⟨0, startRP, _, _, _, _, _, _, _, Nat.zero_le _, rfl, rfl, LS0.out, start_sok, bel_of (Below.refl _ _) (Nat.le_refl _)⟩
  case round =>
    obtain ⟨k, S, ρ, M, s, vn, vx, vt, line, hk, rfl, hgo, hln1, hok, hbel⟩ := hrel
    have Hgo := hide hgo; have Hln := hide hln1; have Hok := hide hok; have Hbel := hide hbel
    clear hgo hln1 hok hbel
    by_cases hlt : k < ls.length
    · have hrow : wr.ownsRow 0 9 1 (.slice va1 ls.length vc1) ls.length (wstrs ls) := ownsRow_frame W1.out.own (fun g hg => Hbel.out.block g (ownsRow_lt W1.out.own hg) (by have h1 := W1.out.new g hg; have h2 := Hz1.out; omega))
      obtain ⟨g, cap, cur, e1, hg, hn, hc, hsz2, hxs⟩ := ownsRow_shape hrow (by omega)
      have hcell : wr.cell? ⟨g, k, none⟩ = some (.string ⟨(ls[k]).toArray⟩) := ownsRow_cell hg hxs (by simp [wstrs, List.getElem?_eq_getElem hlt])
      have hdr : ls.drop k = ls[k] :: ls.drop (k + 1) := List.drop_eq_getElem_cons hlt
      have hgo2 := Hgo.out
      rw [hdr] at hgo2
      have hl1 := Hll.out ls[k] (List.getElem_mem hlt)
      have hls1 : ls.length ≤ 801 := by omega
      have hsp := spanN_le blankB ls[k]
      have Bk := hide (fun w => rblanks_any ⟨(ls[k]).toArray⟩ (by rw [rs_size _ _ rfl]; omega) w)
      have E1 := hide (show spanN blankB (⟨(ls[k]).toArray⟩ : ByteArray).data.toList = spanN blankB ls[k] by simp)
      have hts := trim_span ls[k]
      have hszl : (⟨(ls[k]).toArray⟩ : ByteArray).size = (ls[k]).length := rs_size _ _ rfl
      have hok1 := line_sok Hok.out ls[k] ((k : Int) + 1)
      have C2 := hide (rline_any wr w1.heap.size w.heap.size ρ M S s vn vx vt _ line k Hln.out Hok.out (by omega) ls[k] hl1 ((k : Int) + 1))
      have Hgo2 := hide hgo2; have Hok1 := hide hok1; have Hts := hide hts
      clear hrow hg hxs hsz2 hdr hgo2 Hgo hok1 hts
      simp only [Value.slice.injEq, true_and] at e1
      obtain ⟨rfl, rfl⟩ := e1
      generalize ls[k] = l at *
      by_cases hb : trimB l = []
      · have hse := Hts.out.1 hb
        have E2 := hide (E1.out.trans hse)
        have hg3 := Hgo2.out
        rw [rgo_blank hb] at hg3
        have Hg3 := hide hg3
        have hbe : (((l.length : Nat) : Int) == (l.length : Int)) = true := by simp
        clear hg3 Hgo2 hb C2 E1
        go_wp2_with (go_at_call 66; refine (Bk.out _).mono ?_; rw [E2.out]; rintro e wx ⟨rfl, hw⟩; have hw := hw.symm; subst hw)
        go_roundw
        case rel => exact ⟨k + 1, S, ρ, M, s, vn, vx, vt, line, by omega, by go_num, Hg3.out, Hln.out, Hok.out.le (by omega), Hbel.out⟩
        case measure => simp [intOf]; omega
      · have hne : spanN blankB l ≠ l.length := fun x => hb (Hts.out.2 x)
        have hbe : (((spanN blankB l : Nat) : Int) == (l.length : Int)) = false := by rw [beq_eq_false_iff_ne]; omega
        by_cases he : (S.line l ((k : Int) + 1)).2 = 0
        · have hg3 := Hgo2.out
          rw [rgo_good hb he] at hg3
          have Hg3 := hide hg3; have He := hide he
          clear hg3 Hgo2 hb he hne
          generalize spanN blankB l = sp at *
          go_wp2_with (first | (go_at_call 66; refine (Bk.out _).mono ?_; rw [E1.out]; rintro e wx ⟨rfl, hw⟩; have hw := hw.symm; subst hw) | (go_at_call 67; refine C2.out.mono ?_; rintro e w3 ⟨hgood, _⟩; obtain ⟨ρ3, M3, s3, vn3, vx3, vt3, pv3, rfl, ln3, b3⟩ := hgood He.out; have c5 := ln3.tx.rd.c5; rw [ln3.e0] at c5; have L3 := hide ln3; have B3 := hide b3; clear hgood ln3 b3))
          go_roundw
          case rel => exact ⟨k + 1, (S.line l ((k : Int) + 1)).1, ρ3, M3, s3, vn3, vx3, vt3, (k : Int) + 1, by omega, by go_num, Hg3.out, L3.out, Hok1.out, bel_trans Hbel.out B3.out⟩
          case measure => simp [intOf]; omega
        · have hg3 := Hgo2.out
          rw [rgo_fail hb he] at hg3
          have hpp : rparse text = (none, (S.line l ((k : Int) + 1)).2, (k : Int) + 1) := by
            unfold rparse
            rw [if_neg (by omega), Hls.out, hg3]
          have ec : ((S.line l ((k : Int) + 1)).2 != 0) = true := by simpa using he
          have Hpp := hide hpp; have He : Hid ((S.line l ((k : Int) + 1)).2 ≠ 0) := he
          clear hg3 Hgo2 hb he hne hpp
          generalize spanN blankB l = sp at *
          go_wp2_with (first | (go_at_call 66; refine (Bk.out _).mono ?_; rw [E1.out]; rintro e wx ⟨rfl, hw⟩; have hw := hw.symm; subst hw) | (go_at_call 67; refine C2.out.mono ?_; rintro e w3 ⟨_, hbad⟩; obtain ⟨⟨v3, rfl⟩, b3, c5, c6⟩ := hbad He.out; have B3 := hide b3; clear hbad b3))
          go_region
          go_wp2_with fail
          go_ret3
          refine ⟨(bel_low Hbw.out (bel_trans Hbel.out B3.out) (by have := Hz1.out; omega)).drew, fun _ => ?_, fun S' h' => ?_⟩
          · rw [Hpp.out]; rfl
          · rw [Hpp.out] at h'; cases h'
    · have hke : k = ls.length := by omega
      have hgo2 := Hgo.out
      rw [List.drop_eq_nil_of_le (by omega)] at hgo2
      have hgo3 : rgo startRP 0 ls = .ok S := hgo2
      have hpp : rparse text = if (S.closed 0).2 = false ∨ S.nodes.length = 0 then (none, 2, (ls.length : Int) + 1) else (some S, 0, 0) := by
        unfold rparse
        rw [if_neg (by omega), Hls.out, hgo3]
      have hml : M.length = S.nodes.length := by rw [← Hln.out.ns, List.length_map]
      have C3 := hide (rclosed_both wr w1.heap.size w.heap.size ρ M s vn vx vt _ line S k Hln.out.tx Hln.out.ns Hok.out (by omega) Hln.out.pile 0 (by omega))
      have hls1 : ls.length ≤ 801 := by omega
      have hmk := Hok.out.nodes
      obtain ⟨na, nc, hvn⟩ := ownsRow_len Hln.out.tx.nodes
      subst hvn
      clear hgo2 hgo3 Hgo
      generalize S.closed 0 = cl at *
      obtain ⟨cp, cz⟩ := cl
      by_cases hbad : cz = false ∨ S.nodes.length = 0
      · rw [if_pos hbad] at hpp
        have Hpp := hide hpp
        have hcase : cz = false ∨ cz = true ∧ M.length ≤ 0 := by
          cases cz with
          | false => exact .inl rfl
          | true =>
            rcases hbad with x | x
            · cases x
            · exact .inr ⟨rfl, by omega⟩
        clear hpp hbad
        rcases hcase with rfl | ⟨rfl, hm0⟩
        all_goals
          go_wp2_with (go_at_call 68; refine C3.out.mono ?_; rintro e w4 ⟨pv4, rfl, p4, o4, b4⟩; obtain ⟨pa4, pc4, rfl⟩ := ownsRow_len p4; have t4 := Hln.out.tx.below b4; have c0 := t4.rd.c0; have B4 := hide b4; have T4 := hide t4; clear t4 b4 p4 o4)
          go_ret3
          refine ⟨bel_low Hbw.out (bel_trans Hbel.out (bel_of B4.out (Nat.le_trans Hln.out.lo' (Nat.le_refl _)))) (Nat.le_refl _), fun _ => ?_, fun S' h' => ?_⟩
          · rw [Hpp.out]; rfl
          · rw [Hpp.out] at h'; cases h'
      · rw [if_neg hbad] at hpp
        have Hpp := hide hpp
        have hz : cz = true := by
          cases cz with
          | false => exact absurd (.inl rfl) hbad
          | true => rfl
        subst hz
        have hm0 : 0 < M.length := by
          have : S.nodes.length ≠ 0 := fun x => hbad (.inr x)
          omega
        clear hpp hbad
        go_wp2_with (go_at_call 68; refine C3.out.mono ?_; rintro e w4 ⟨pv4, rfl, p4, o4, b4⟩; obtain ⟨pa4, pc4, rfl⟩ := ownsRow_len p4; have t4 := Hln.out.tx.below b4; have c0 := t4.rd.c0; have B4 := hide b4; have T4 := hide t4; clear t4 b4 p4 o4)
        go_ret3
        refine ⟨bel_low Hbw.out (bel_trans Hbel.out (bel_of B4.out (Nat.le_trans Hln.out.lo' (Nat.le_refl _)))) (Nat.le_refl _), fun h' => ?_, fun S' h' => ?_⟩
        · rw [Hpp.out] at h'; cases h'
        · rw [Hpp.out] at h'
          injection h' with h'
          subst h'
          exact ⟨_, ρ, M, s, _, vx, vt, line, rfl, T4.out.less (by have := Hbw.out.size; omega), Hln.out.xs, Hln.out.ns⟩
theorem rParse_any (text : Bs) (hm : text.length ≤ 9223372036854775807) (w : World) : Calls Tryz.prog 45 #[.string ⟨text.toArray⟩] w fun e w' => ParsePost text w e w' := by
  by_cases hl : text.length ≤ 800
  · exact rParse_short text hl w
  · exact rParse_long text (by omega) hm w
end Go.Proofs.YtnhidaamfnjdjaaGreatDoor
