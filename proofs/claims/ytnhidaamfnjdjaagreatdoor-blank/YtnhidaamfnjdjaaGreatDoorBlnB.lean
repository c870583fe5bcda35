import Derived.Test.YtnhidaamfnjdjaaGreatDoorBlnA
namespace Go.Proofs.YtnhidaamfnjdjaaGreatDoor
open Go.RowKit Go.Maps

def strs (ls : List Bs) : List Value := ls.map fun l => .string ⟨l.toArray⟩
theorem bs_get (T : Bs) (S : ByteArray) (h : S = ⟨T.toArray⟩) (k : Nat) (hk : k < S.size) (hk' : k < T.length) : S[k] = T[k] := by
  subst h; rfl
theorem bs_cut (T : Bs) (S : ByteArray) (h : S = ⟨T.toArray⟩) (a b : Nat) : S.extract a b = ⟨((T.take b).drop a).toArray⟩ := by
  subst h
  apply ByteArray.ext
  simp [ByteArray.data_extract, List.drop_take]

def oneT (xs : List Item) (B k : Nat) : ByteArray := ⟨(flatL (lay B xs.length 0 0 (xs.take k))).toArray⟩
def twoT (xs : List Item) (B Q j k : Nat) : ByteArray := ⟨(flatL (lay B Q j 0 (xs.take k))).toArray⟩
def tB (xs : List Item) (B k : Nat) (h : k < xs.length) : ByteArray := if k = B then ⟨(lineI xs[k]).toArray⟩ ++ ⟨#[32, 33, 32, 59]⟩ else ⟨(lineI xs[k]).toArray⟩
theorem ba_app3 (a b c : Bs) : (⟨a.toArray⟩ ++ ⟨b.toArray⟩ : ByteArray) ++ ⟨c.toArray⟩ = ⟨(a ++ b ++ c).toArray⟩ := by rw [ba_append, ba_append]
theorem tB_is (xs : List Item) (B k : Nat) (h : k < xs.length) : tB xs B k h = ⟨(lineI xs[k] ++ wrB B k).toArray⟩ := by
  unfold tB wrB
  split
  · exact ba_append _ _
  · rw [List.append_nil]
theorem oneT_next (xs : List Item) (B k : Nat) (h : k < xs.length) : oneT xs B (k + 1) = (oneT xs B k ++ tB xs B k h) ++ ⟨#[10]⟩ := by
  rw [tB_is]
  unfold oneT
  rw [lay_next _ _ _ _ _ h, if_neg (by omega)]
  have : tlB 0 k = [] := by simp [tlB]
  rw [this]
  have := ba_app3 (flatL (lay B xs.length 0 0 (xs.take k))) (lineI xs[k] ++ wrB B k) [10]
  rw [this]
  simp
theorem twoT_next (xs : List Item) (B Q j k : Nat) (h : k < xs.length) (Bb : ByteArray) (hB : Bb = ⟨(List.replicate j 32).toArray⟩) :
    twoT xs B Q j (k + 1) = ((if k = Q then (twoT xs B Q j k ++ Bb) ++ ⟨#[10]⟩ else twoT xs B Q j k) ++ (if 0 < j ∧ k % 2 = 1 then tB xs B k h ++ ⟨#[32]⟩ else tB xs B k h)) ++ ⟨#[10]⟩ := by
  have h1 : (if 0 < j ∧ k % 2 = 1 then tB xs B k h ++ ⟨#[32]⟩ else tB xs B k h) = ⟨(lineI xs[k] ++ wrB B k ++ tlB j k).toArray⟩ := by
    rw [tB_is]
    unfold tlB
    split
    · exact ba_append _ _
    · rw [List.append_nil]
  have h2 : (if k = Q then (twoT xs B Q j k ++ Bb) ++ ⟨#[10]⟩ else twoT xs B Q j k) = ⟨(flatL (lay B Q j 0 (xs.take k)) ++ (if k = Q then List.replicate j 32 ++ [10] else [])).toArray⟩ := by
    subst hB
    unfold twoT
    split
    · have := ba_app3 (flatL (lay B Q j 0 (xs.take k))) (List.replicate j 32) [10]
      rw [this]; simp
    · rw [List.append_nil]
  rw [h1, h2]
  have := ba_app3 (flatL (lay B Q j 0 (xs.take k)) ++ (if k = Q then List.replicate j 32 ++ [10] else [])) (lineI xs[k] ++ wrB B k ++ tlB j k) [10]
  rw [this]
  unfold twoT
  rw [lay_next _ _ _ _ _ h]
  simp
theorem take_few (xs : List Item) (k : Nat) (h : (textI xs).length ≤ 1200) : (textI (xs.take k)).length ≤ 1200 ∧ (xs.take k).length ≤ 1200 := by
  have h1 : (textI (xs.take k)).length ≤ (textI xs).length := by
    have := congrArg (fun l => (textI l).length) (List.take_append_drop k xs)
    simp only [textI_append, List.length_append] at this
    omega
  have := items_few (xs.take k)
  omega
theorem oneT_size (xs : List Item) (B k : Nat) (h : (textI xs).length ≤ 1200) : (oneT xs B k).size ≤ 20000 := by
  have h1 := take_few xs k h
  have := lay_few B xs.length 0 (xs.take k) 0
  unfold oneT
  rw [bs_size]
  omega
theorem twoT_size (xs : List Item) (B Q j k : Nat) (hj : j < 6) (h : (textI xs).length ≤ 1200) : (twoT xs B Q j k).size ≤ 20000 := by
  have h1 := take_few xs k h
  have := lay_few B Q j (xs.take k) 0
  have h3 : (xs.take k).length * (j + 6) ≤ 1200 * 11 := Nat.mul_le_mul h1.2 (by omega)
  unfold twoT
  rw [bs_size]
  omega

theorem Check_val (b : ByteArray) (text : Bs) (hb : b = ⟨text.toArray⟩) (c d : Int) (hC : checkF text = (c, d)) (hl : text.length ≤ 800) (w : World) (m : Int) (hm : w.cell? ⟨0, 0, none⟩ = some (.int .i64 m)) :
    Calls Tryz.prog 13 #[.string b] w fun e w' => e = .returned (.tuple #[.int .i64 c, .int .i64 d]) ∧ Below w.heap.size w w' := by
  subst hb
  have := Check_all text w (by omega) m hm
  rw [hC] at this
  exact this
theorem below_trans {w w1 w2 : World} (a : Below w.heap.size w w1) (b : Below w1.heap.size w1 w2) : Below w.heap.size w w2 :=
  ⟨b.os.trans a.os, b.tape.trans a.tape, b.output.trans a.output, Nat.le_trans a.size b.size, fun k hk => (b.block k (Nat.lt_of_lt_of_le hk a.size)).trans (a.block k hk)⟩

theorem below_grow {w w1 w2 w3 : World} {r : Option Nat} (b : Below w.heap.size w w1) (g1 : w1.grownBy w2 none) (g2 : w2.grownBy w3 r) (hr : ∀ g, r = some g → w.heap.size ≤ g) : Below w.heap.size w w3 :=
  ⟨(g2.os.trans g1.os).trans b.os, (g2.tape.trans g1.tape).trans b.tape, (g2.output.trans g1.output).trans b.output, Nat.le_trans b.size (Nat.le_trans g1.size g2.size), fun k hk => by
    have h1 : k < w1.heap.size := Nat.lt_of_lt_of_le hk b.size
    have h2 : k < w2.heap.size := Nat.lt_of_lt_of_le h1 g1.size
    rw [g2.block k h2 (fun e => by have := hr k e.symm; omega), g1.block k h1 (by simp), b.block k hk]⟩

set_option maxRecDepth 20000 in
set_option maxHeartbeats 8000000 in
theorem Blank_any (w : World) (rv : Value) (zs : List Int) (T : Bs) (hT : T = textI (bagI (rsOf zs))) (S : ByteArray) (hS : S = ⟨T.toArray⟩) (hbag : Calls Tryz.prog 20 #[rv] w fun e w' => e = .returned (.string S) ∧ w' = w)
    (x1 x2 x3 : Int) (r1 : -9223372036854775808 ≤ x1 ∧ x1 ≤ 9223372036854775807) (r2 : -9223372036854775808 ≤ x2 ∧ x2 ≤ 9223372036854775807) (r3 : -9223372036854775808 ≤ x3 ∧ x3 ≤ 9223372036854775807)
    (m : Int) (hm : w.cell? ⟨0, 0, none⟩ = some (.int .i64 m)) :
    Calls Tryz.prog 7 #[rv, .int .i64 x1, .int .i64 x2, .int .i64 x3] w fun e w' => e = .returned (.bool true) ∧ Below w.heap.size w w' := by
  have h0 := cell_lt hm
  have hlen : T.length ≤ 1200 := by rw [hT]; exact bag_len zs
  have hsl : S.size = T.length := by rw [hS, bs_size]
  have hss : S.size ≤ 1200 := by omega
  have Hb := hide hbag; have Hm := hide hm; have HT := hide hT; have HS := hide hS; have Hlen := hide hlen; have Hsl := hide hsl
  clear hbag hm hT hS hlen hsl
  go_enter Tryz.func7, Tryz.ntmps7
  go_wp2_with fail
  refine Hb.out.mono ?_
  rintro e wx ⟨rfl, hw⟩
  have hw := hw.symm
  subst hw
  go_wp2_with fail
  go_loopw [10, 11, 12] (fun l from_ i wr => ∃ k : Nat, k ≤ S.size ∧ i = .int .i64 k ∧ from_ = .int .i64 ((flatL (scanF (T.take k)).1).length : Nat) ∧ wr.ownsRow 0 9 1 l (scanF (T.take k)).1.length (strs (scanF (T.take k)).1) ∧ Below w.heap.size w wr ∧ (∀ g, l.ownBlock = some g → w.heap.size ≤ g)) (fun _ _ i _ => S.size - (intOf i).toNat)
  case atStart => exact ⟨0, Nat.zero_le _, rfl, rfl, World.ownsRow_nil _ _ _ _, Below.refl _ _, by simp [Value.ownBlock]⟩
  case round =>
    obtain ⟨k, hk, rfl, rfl, hown, hbel, hnew⟩ := hrel
    obtain ⟨va, vc, rfl⟩ := ownsRow_len hown
    have hfew := scanF_few (T.take k)
    have hisk := scanF_is (T.take k)
    have hst : ∀ (h : k < S.size), scanF (T.take (k + 1)) = scanStep (scanF (T.take k)) S[k] := by
      intro h
      have hlt' : k < T.length := by have := Hsl.out; omega
      rw [bs_get T S HS.out k h hlt', List.take_add_one, List.getElem?_eq_getElem hlt']
      exact scanF_snoc _ _
    generalize hsc : scanF (T.take k) = sc at *
    obtain ⟨ls, cur⟩ := sc
    simp only at hfew hisk hown hst
    have hF : k = (flatL ls).length + cur.length := by
      have := congrArg List.length hisk
      rw [List.length_append, List.length_take] at this
      have := Hsl.out
      omega
    have hn5 : ls.length ≤ 100000 := by
      have := Hlen.out
      rw [List.length_take] at hfew
      omega
    have Ho := hide hown; have Be := hide hbel; have Hn := hide hnew; have Hst := hide hst; have His := hide hisk; have HF := hide hF; have Hsc := hide hsc
    clear hown hbel hnew hst hisk hF hfew hsc
    by_cases hlt : k < S.size
    · by_cases hc : S[k].toNat = 10
      · have hFk : (flatL ls).length ≤ k := by have := HF.out; omega
        generalize hFg : (flatL ls).length = F at *
        have hcut : S.extract F k = ⟨cur.toArray⟩ := by
          rw [bs_cut T S HS.out, ← His.out, ← hFg]
          simp
        have Hcut := hide hcut
        clear hcut
        go_wp2_with (at_builtin
                     refine wpList_append1 Tryz.underlying22 (z := .string ⟨#[]⟩) (bytes := 16) (by kernel_rfl) rfl (by decide) rfl _ _ rfl (.slice va ls.length vc) _ _ rfl (Ho.out.alloc _) ⟨wr.heap.size, 0, none⟩ 1 (.string (S.extract F k)) rfl (new_cell _ _ rfl _ _) rfl hn5 ?_
                     intro v' w4 o4 g4 b4
                     obtain ⟨va', vc', rfl⟩ := ownsRow_len o4
                     have O4 := hide o4; have G4 := hide g4; have B4 := hide b4
                     clear o4 g4 b4)
        go_roundw
        case rel =>
          have e1 : scanF (T.take (k + 1)) = (ls ++ [cur], []) := by
            rw [Hst.out hlt]
            unfold scanStep
            rw [if_pos (UInt8.toNat_inj.1 hc)]
          have e2 : (flatL (ls ++ [cur])).length = k + 1 := by
            have := HF.out
            rw [flatL_append, flatL_one, List.length_append, List.length_append]
            simp
            omega
          refine ⟨k + 1, by omega, by go_num, ?_, ?_, ?_, ?_⟩
          · rw [e1]; simp only; rw [e2]; go_num
          · rw [e1]
            have := O4.out
            rw [Hcut.out] at this
            simpa [strs] using this
          · refine below_grow Be.out (World.grownBy_alloc wr _ none) G4.out ?_
            intro g hg
            exact Hn.out g hg
          · intro g hg
            rcases B4.out with hb | ⟨g', hb, hle⟩
            · rw [hb] at hg; exact Hn.out g hg
            · rw [hb] at hg
              injection hg with hg
              have := Be.out.size
              simp at hle
              omega
        case measure => simp [intOf]; omega
      · go_wp2_with fail
        go_roundw
        case rel =>
          have e1 : scanF (T.take (k + 1)) = (ls, cur ++ [S[k]]) := by
            rw [Hst.out hlt]
            unfold scanStep
            rw [if_neg (fun e => hc (by rw [e]; rfl))]
          refine ⟨k + 1, by omega, by go_num, ?_, ?_, Be.out, Hn.out⟩
          · rw [e1]
          · rw [e1]; exact Ho.out
        case measure => simp [intOf]; omega
    · have hks : k = S.size := by omega
      have hkT : T.take k = T := by rw [hks, Hsl.out]; exact List.take_length
      have hrs := rsOf_ok zs
      have hfl : T = flatL ((bagI (rsOf zs)).map lineI) := by rw [← textI_flat]; exact HT.out
      have hls : ls = (bagI (rsOf zs)).map lineI ∧ cur = [] := by
        have h1 := Hsc.out
        rw [hkT] at h1
        have h2 := scanF_flat _ (lineI_no _ (bag_items _ hrs))
        rw [← hfl, h1] at h2
        exact ⟨congrArg Prod.fst h2, congrArg Prod.snd h2⟩
      have hxl : (textI (bagI (rsOf zs))).length ≤ 1200 := bag_len zs
      have HC := hide (bag_check (rsOf zs) hrs)
      generalize bagI (rsOf zs) = xs at *
      have hxf : xs.length ≤ 1200 := Nat.le_trans (items_few xs) hxl
      have hll : ls.length = xs.length := by rw [hls.1, List.length_map]
      have hcl : ∀ (hx : 0 < xs.length), ∃ g, va = some ⟨g, 0, none⟩ ∧ ∀ j (hj : j < xs.length), wr.cell? ⟨g, j, none⟩ = some (.string ⟨(lineI xs[j]).toArray⟩) := by
        intro hx
        have ho := Ho.out
        rcases ho.2 with ⟨e1, e2⟩ | ⟨g, cap, cu, e1, _, hg, _, _, _, h4⟩
        · rw [hll] at e2; omega
        · injection e1 with e1 e3 e4
          refine ⟨g, e1, fun j hj => ?_⟩
          refine ownsRow_cell (n := ls.length) hg (by simpa using h4) ?_
          rw [hls.1]
          unfold strs
          simp [hj]
      have Hcl := hide hcl; have Hxl := hide hxl
      clear hcl hxl hls hfl hkT hks Hsc His HF Hst Hn Ho
      have hxi : (xs.length : Int) ≤ 1200 := by omega
      generalize ls.length = L at *
      subst hll
      have hB := pickG_lt x2 (xs.length + 1) (by omega)
      have hP := pickG_lt x1 (xs.length + 1) (by omega)
      have hN := pickG_lt x3 6 (by decide)
      have P2 := hide (pick_at x2 r2.1 r2.2 (xs.length + 1) (by omega) (by omega) ((xs.length : Int) + 1) (by push_cast; rfl) _ rfl (pickG x2 (xs.length + 1) : Nat) rfl)
      have P1 := hide (pick_at x1 r1.1 r1.2 (xs.length + 1) (by omega) (by omega) ((xs.length : Int) + 1) (by push_cast; rfl) _ rfl (pickG x1 (xs.length + 1) : Nat) rfl)
      have P3 := hide (pick_at x3 r3.1 r3.2 6 (by decide) (by decide) 6 rfl _ rfl (pickG x3 6 : Nat) rfl)
      generalize pickG x2 (xs.length + 1) = B at *
      generalize pickG x1 (xs.length + 1) = Q at *
      generalize pickG x3 6 = nb at *
      clear r1 r2 r3
      go_wp2_with fail
      refine (P2.out _).mono ?_
      rintro e wx ⟨rfl, hw⟩
      have hw := hw.symm
      subst hw
      go_wp2_with fail
      refine (P1.out _).mono ?_
      rintro e wx ⟨rfl, hw⟩
      have hw := hw.symm
      subst hw
      go_wp2_with fail
      go_loopw [15, 16] (fun y i w2 => ∃ j : Nat, j ≤ nb ∧ i = .int .i64 j ∧ y = .string ⟨(List.replicate j 32).toArray⟩ ∧ w2 = wr) (fun _ i _ => nb - (intOf i).toNat)
      case atStart => exact ⟨0, Nat.zero_le _, rfl, rfl, rfl⟩
      case round =>
        obtain ⟨j, hj, rfl, rfl, rfl⟩ := hrel
        by_cases hjn : j < nb
        · go_wp2_with (go_at_call 17; refine (P3.out _).mono ?_; rintro e wx ⟨rfl, hw⟩; have hw := hw.symm; subst hw)
          go_roundw
          case rel =>
            refine ⟨j + 1, by omega, by go_num, ?_, trivial⟩
            have := ba_append (List.replicate j 32) [32]
            simp only [List.toArray_replicate] at this ⊢
            rw [this]
            refine congrArg (fun z => Value.string ⟨z⟩) ?_
            rw [← List.toArray_replicate]
            congr 1
            rw [List.replicate_succ']
          case measure => simp [intOf]; omega
        · have hje : j = nb := by omega
          subst hje
          clear hj hjn
          go_wp2_with (go_at_call 17; refine (P3.out _).mono ?_; rintro e wx ⟨rfl, hw⟩; have hw := hw.symm; subst hw)
          -- THIRD
          have hbb : (⟨Array.replicate j 32⟩ : ByteArray) = ⟨(List.replicate j 32).toArray⟩ := by rw [List.toArray_replicate]
          have hbz : (⟨Array.replicate j 32⟩ : ByteArray).size = j := by simp [ByteArray.size]
          generalize (⟨Array.replicate j 32⟩ : ByteArray) = Bb at *
          have Hbb := hide hbb
          clear hbb
          go_loopw [17, 18, 19] (fun y1 y2 i w2 => ∃ k : Nat, k ≤ xs.length ∧ i = .int .i64 k ∧ y1 = .string (oneT xs B k) ∧ y2 = .string (twoT xs B Q j k) ∧ w2 = wr) (fun _ _ i _ => xs.length - (intOf i).toNat)
          case atStart => exact ⟨0, Nat.zero_le _, rfl, rfl, rfl, rfl⟩
          case round =>
            obtain ⟨k, hk, rfl, rfl, rfl, rfl⟩ := hrel
            have s1 := oneT_size xs B k Hxl.out
            have s2 := twoT_size xs B Q j k hN Hxl.out
            by_cases hkl : k < xs.length
            · obtain ⟨g, hva, hce⟩ := Hcl.out (by omega)
              have hcell := hce k hkl
              have N1 := hide (oneT_next xs B k hkl)
              have N2 := hide (twoT_next xs B Q j k hkl Bb Hbb.out)
              have N3 := hide (show tB xs B k hkl = if k = B then ⟨(lineI xs[k]).toArray⟩ ++ ⟨#[32, 33, 32, 59]⟩ else ⟨(lineI xs[k]).toArray⟩ from rfl)
              have s3 : (⟨(lineI xs[k]).toArray⟩ : ByteArray).size ≤ 1200 := by
                have h1 : (textI [xs[k]]).length ≤ (textI xs).length := by
                  have e := congrArg (fun l => (textI l).length) (List.take_append_drop k xs)
                  have e2 : xs.drop k = [xs[k]] ++ xs.drop (k + 1) := by rw [List.drop_eq_getElem_cons hkl]; rfl
                  rw [e2] at e
                  simp only [textI_append, List.length_append] at e
                  omega
                have h2 : (textI [xs[k]]).length = (lineI xs[k]).length + 1 := by simp [textI, kl, lineI]; omega
                rw [bs_size]
                have := Hxl.out
                omega
              clear hce
              subst hva
              generalize (⟨(lineI xs[k]).toArray⟩ : ByteArray) = Lb at *
              generalize tB xs B k hkl = tb at *
              have hki : (k : Int) < (xs.length : Int) := by omega
              by_cases c1 : k = B
              · by_cases c2 : k = Q
                · rcases Nat.eq_zero_or_pos j with c3 | c3
                  · have e1 : ((k : Int) == (B : Int)) = true := by rw [beq_iff_eq]; omega
                    have e2 : ((k : Int) == (Q : Int)) = true := by rw [beq_iff_eq]; omega
                    rw [if_pos c1] at N3
                    rw [if_pos c2, if_neg (by omega), N3.out] at N2
                    rw [N3.out] at N1
                    have hb0 : Bb.size < 1 := by omega
                    clear N3 HC Hcl Hm Hb HT HS P1 P2 P3 Hbb c1 c2 c3 hbz
                    go_wp2_with fail
                    go_roundw
                    case rel => exact ⟨k + 1, by omega, by go_num, by rw [N1.out], by rw [N2.out], trivial⟩
                    case measure => simp [intOf]; omega
                  · by_cases c4 : k % 2 = 1
                    · have e1 : ((k : Int) == (B : Int)) = true := by rw [beq_iff_eq]; omega
                      have e2 : ((k : Int) == (Q : Int)) = true := by rw [beq_iff_eq]; omega
                      have e4 : ((k : Int) % 2 == 1) = true := by rw [beq_iff_eq]; omega
                      rw [if_pos c1] at N3
                      rw [if_pos c2, if_pos (by omega), N3.out] at N2
                      rw [N3.out] at N1
                      clear N3 HC Hcl Hm Hb HT HS P1 P2 P3 Hbb c1 c2
                      go_wp2_with fail
                      go_roundw
                      case rel => exact ⟨k + 1, by omega, by go_num, by rw [N1.out], by rw [N2.out], trivial⟩
                      case measure => simp [intOf]; omega
                    · have e1 : ((k : Int) == (B : Int)) = true := by rw [beq_iff_eq]; omega
                      have e2 : ((k : Int) == (Q : Int)) = true := by rw [beq_iff_eq]; omega
                      have e4 : ((k : Int) % 2 == 1) = false := by rw [beq_eq_false_iff_ne]; omega
                      rw [if_pos c1] at N3
                      rw [if_pos c2, if_neg (by omega), N3.out] at N2
                      rw [N3.out] at N1
                      clear N3 HC Hcl Hm Hb HT HS P1 P2 P3 Hbb c1 c2
                      go_wp2_with fail
                      go_roundw
                      case rel => exact ⟨k + 1, by omega, by go_num, by rw [N1.out], by rw [N2.out], trivial⟩
                      case measure => simp [intOf]; omega
                · rcases Nat.eq_zero_or_pos j with c3 | c3
                  · have e1 : ((k : Int) == (B : Int)) = true := by rw [beq_iff_eq]; omega
                    have e2 : ((k : Int) == (Q : Int)) = false := by rw [beq_eq_false_iff_ne]; omega
                    rw [if_pos c1] at N3
                    rw [if_neg c2, if_neg (by omega), N3.out] at N2
                    rw [N3.out] at N1
                    have hb0 : Bb.size < 1 := by omega
                    clear N3 HC Hcl Hm Hb HT HS P1 P2 P3 Hbb c1 c2 c3 hbz
                    go_wp2_with fail
                    go_roundw
                    case rel => exact ⟨k + 1, by omega, by go_num, by rw [N1.out], by rw [N2.out], trivial⟩
                    case measure => simp [intOf]; omega
                  · by_cases c4 : k % 2 = 1
                    · have e1 : ((k : Int) == (B : Int)) = true := by rw [beq_iff_eq]; omega
                      have e2 : ((k : Int) == (Q : Int)) = false := by rw [beq_eq_false_iff_ne]; omega
                      have e4 : ((k : Int) % 2 == 1) = true := by rw [beq_iff_eq]; omega
                      rw [if_pos c1] at N3
                      rw [if_neg c2, if_pos (by omega), N3.out] at N2
                      rw [N3.out] at N1
                      clear N3 HC Hcl Hm Hb HT HS P1 P2 P3 Hbb c1 c2
                      go_wp2_with fail
                      go_roundw
                      case rel => exact ⟨k + 1, by omega, by go_num, by rw [N1.out], by rw [N2.out], trivial⟩
                      case measure => simp [intOf]; omega
                    · have e1 : ((k : Int) == (B : Int)) = true := by rw [beq_iff_eq]; omega
                      have e2 : ((k : Int) == (Q : Int)) = false := by rw [beq_eq_false_iff_ne]; omega
                      have e4 : ((k : Int) % 2 == 1) = false := by rw [beq_eq_false_iff_ne]; omega
                      rw [if_pos c1] at N3
                      rw [if_neg c2, if_neg (by omega), N3.out] at N2
                      rw [N3.out] at N1
                      clear N3 HC Hcl Hm Hb HT HS P1 P2 P3 Hbb c1 c2
                      go_wp2_with fail
                      go_roundw
                      case rel => exact ⟨k + 1, by omega, by go_num, by rw [N1.out], by rw [N2.out], trivial⟩
                      case measure => simp [intOf]; omega
              · by_cases c2 : k = Q
                · rcases Nat.eq_zero_or_pos j with c3 | c3
                  · have e1 : ((k : Int) == (B : Int)) = false := by rw [beq_eq_false_iff_ne]; omega
                    have e2 : ((k : Int) == (Q : Int)) = true := by rw [beq_iff_eq]; omega
                    rw [if_neg c1] at N3
                    rw [if_pos c2, if_neg (by omega), N3.out] at N2
                    rw [N3.out] at N1
                    have hb0 : Bb.size < 1 := by omega
                    clear N3 HC Hcl Hm Hb HT HS P1 P2 P3 Hbb c1 c2 c3 hbz
                    go_wp2_with fail
                    go_roundw
                    case rel => exact ⟨k + 1, by omega, by go_num, by rw [N1.out], by rw [N2.out], trivial⟩
                    case measure => simp [intOf]; omega
                  · by_cases c4 : k % 2 = 1
                    · have e1 : ((k : Int) == (B : Int)) = false := by rw [beq_eq_false_iff_ne]; omega
                      have e2 : ((k : Int) == (Q : Int)) = true := by rw [beq_iff_eq]; omega
                      have e4 : ((k : Int) % 2 == 1) = true := by rw [beq_iff_eq]; omega
                      rw [if_neg c1] at N3
                      rw [if_pos c2, if_pos (by omega), N3.out] at N2
                      rw [N3.out] at N1
                      clear N3 HC Hcl Hm Hb HT HS P1 P2 P3 Hbb c1 c2
                      go_wp2_with fail
                      go_roundw
                      case rel => exact ⟨k + 1, by omega, by go_num, by rw [N1.out], by rw [N2.out], trivial⟩
                      case measure => simp [intOf]; omega
                    · have e1 : ((k : Int) == (B : Int)) = false := by rw [beq_eq_false_iff_ne]; omega
                      have e2 : ((k : Int) == (Q : Int)) = true := by rw [beq_iff_eq]; omega
                      have e4 : ((k : Int) % 2 == 1) = false := by rw [beq_eq_false_iff_ne]; omega
                      rw [if_neg c1] at N3
                      rw [if_pos c2, if_neg (by omega), N3.out] at N2
                      rw [N3.out] at N1
                      clear N3 HC Hcl Hm Hb HT HS P1 P2 P3 Hbb c1 c2
                      go_wp2_with fail
                      go_roundw
                      case rel => exact ⟨k + 1, by omega, by go_num, by rw [N1.out], by rw [N2.out], trivial⟩
                      case measure => simp [intOf]; omega
                · rcases Nat.eq_zero_or_pos j with c3 | c3
                  · have e1 : ((k : Int) == (B : Int)) = false := by rw [beq_eq_false_iff_ne]; omega
                    have e2 : ((k : Int) == (Q : Int)) = false := by rw [beq_eq_false_iff_ne]; omega
                    rw [if_neg c1] at N3
                    rw [if_neg c2, if_neg (by omega), N3.out] at N2
                    rw [N3.out] at N1
                    have hb0 : Bb.size < 1 := by omega
                    clear N3 HC Hcl Hm Hb HT HS P1 P2 P3 Hbb c1 c2 c3 hbz
                    go_wp2_with fail
                    go_roundw
                    case rel => exact ⟨k + 1, by omega, by go_num, by rw [N1.out], by rw [N2.out], trivial⟩
                    case measure => simp [intOf]; omega
                  · by_cases c4 : k % 2 = 1
                    · have e1 : ((k : Int) == (B : Int)) = false := by rw [beq_eq_false_iff_ne]; omega
                      have e2 : ((k : Int) == (Q : Int)) = false := by rw [beq_eq_false_iff_ne]; omega
                      have e4 : ((k : Int) % 2 == 1) = true := by rw [beq_iff_eq]; omega
                      rw [if_neg c1] at N3
                      rw [if_neg c2, if_pos (by omega), N3.out] at N2
                      rw [N3.out] at N1
                      clear N3 HC Hcl Hm Hb HT HS P1 P2 P3 Hbb c1 c2
                      go_wp2_with fail
                      go_roundw
                      case rel => exact ⟨k + 1, by omega, by go_num, by rw [N1.out], by rw [N2.out], trivial⟩
                      case measure => simp [intOf]; omega
                    · have e1 : ((k : Int) == (B : Int)) = false := by rw [beq_eq_false_iff_ne]; omega
                      have e2 : ((k : Int) == (Q : Int)) = false := by rw [beq_eq_false_iff_ne]; omega
                      have e4 : ((k : Int) % 2 == 1) = false := by rw [beq_eq_false_iff_ne]; omega
                      rw [if_neg c1] at N3
                      rw [if_neg c2, if_neg (by omega), N3.out] at N2
                      rw [N3.out] at N1
                      clear N3 HC Hcl Hm Hb HT HS P1 P2 P3 Hbb c1 c2
                      go_wp2_with fail
                      go_roundw
                      case rel => exact ⟨k + 1, by omega, by go_num, by rw [N1.out], by rw [N2.out], trivial⟩
                      case measure => simp [intOf]; omega
            · have hkx : k = xs.length := by omega
              have f1 : oneT xs B k = ⟨(flatL (lay B xs.length 0 0 xs)).toArray⟩ := by unfold oneT; rw [hkx, List.take_length]
              have f2 : twoT xs B Q j k = ⟨(flatL (lay B Q j 0 xs)).toArray⟩ := by unfold twoT; rw [hkx, List.take_length]
              have f3 : (twoT xs B Q j k).size = (flatL (lay B Q j 0 xs)).length := by rw [f2, bs_size]
              have f4 := lay_len B Q xs.length j xs 0 (fun i _ hi => by omega)
              have v1 := HC.out B xs.length 0
              have v2 := HC.out B Q j
              have F1 := hide f1; have F2 := hide f2; have F3 := hide f3; have F4 := hide f4; have V1 := hide v1; have V2 := hide v2
              clear f1 f2 f3 f4 v1 v2 HC Hcl Hxl P1 P2 P3 Hbb Hb HT HS
              generalize oneT xs B k = X1 at *
              generalize twoT xs B Q j k = X2 at *
              have hkn : (xs.length : Int) ≤ (k : Int) := by omega
              by_cases h8 : 800 < X2.size
              · have A5 := hide (awake_any _ m (cell_below Hm.out Be.out h0))
                go_wp2_with (go_at_call 19; refine A5.out.mono ?_; rintro e w5 ⟨rfl, b5⟩; have B5 := hide (below_trans Be.out b5); clear b5)
                go_ret
                exact ⟨rfl, B5.out⟩
              · have l2 : (flatL (lay B Q j 0 xs)).length ≤ 800 := by have := F3.out; omega
                have l1 : (flatL (lay B xs.length 0 0 xs)).length ≤ 800 := by have := F4.out; omega
                have V1' := V1.out l1
                have V2' := V2.out l2
                by_cases hb : B < xs.length
                · rw [if_pos hb] at V1' V2'
                  rw [if_neg (show ¬ xs.length ≤ B by omega)] at V1'
                  have e1 : ((B : Int) == (xs.length : Int)) = false := by rw [beq_eq_false_iff_ne]; omega
                  by_cases hq : Q ≤ B
                  · rw [if_pos hq] at V2'
                    have K1 := hide (fun w' => Check_val X1 _ F1.out 2 ((B : Int) + 1) (V1'.trans (by simp)) l1 w' m)
                    have K2 := hide (fun w' => Check_val X2 _ F2.out 2 ((B : Int) + 1 + 1) V2' l2 w' m)
                    clear V1 V2 V1' V2' F1 F2 F3 F4 l1 l2
                    go_wp2_with fail
                    refine (K1.out _ (cell_below Hm.out Be.out h0)).mono ?_
                    rintro e w1 ⟨rfl, b1⟩
                    have B1 := hide (below_trans Be.out b1)
                    clear b1
                    go_wp2_with fail
                    refine (K2.out _ (cell_below Hm.out B1.out h0)).mono ?_
                    rintro e w2 ⟨rfl, b2⟩
                    have B2 := hide (below_trans B1.out b2)
                    clear b2
                    go_wp2_with fail
                    refine (awake_any _ m (cell_below Hm.out B2.out h0)).mono ?_
                    rintro e w3 ⟨rfl, b3⟩
                    have B3 := hide (below_trans B2.out b3)
                    clear b3
                    go_wp2
                    go_ret
                    refine ⟨?_, B3.out⟩
                    show Ending.returned (Value.bool (decide ((B : Int) ≤ (B : Int) + 1))) = _
                    rw [decide_eq_true (by omega)]
                  · rw [if_neg hq] at V2'
                    have K1 := hide (fun w' => Check_val X1 _ F1.out 2 ((B : Int) + 1) (V1'.trans (by simp)) l1 w' m)
                    have K2 := hide (fun w' => Check_val X2 _ F2.out 2 ((B : Int) + 1) (V2'.trans (by simp)) l2 w' m)
                    clear V1 V2 V1' V2' F1 F2 F3 F4 l1 l2
                    go_wp2_with fail
                    refine (K1.out _ (cell_below Hm.out Be.out h0)).mono ?_
                    rintro e w1 ⟨rfl, b1⟩
                    have B1 := hide (below_trans Be.out b1)
                    clear b1
                    go_wp2_with fail
                    refine (K2.out _ (cell_below Hm.out B1.out h0)).mono ?_
                    rintro e w2 ⟨rfl, b2⟩
                    have B2 := hide (below_trans B1.out b2)
                    clear b2
                    go_wp2_with fail
                    refine (awake_any _ m (cell_below Hm.out B2.out h0)).mono ?_
                    rintro e w3 ⟨rfl, b3⟩
                    have B3 := hide (below_trans B2.out b3)
                    clear b3
                    go_wp2
                    go_ret
                    exact ⟨rfl, B3.out⟩
                · rw [if_neg hb] at V1' V2'
                  have e1 : ((B : Int) == (xs.length : Int)) = true := by rw [beq_iff_eq]; omega
                  have K1 := hide (fun w' => Check_val X1 _ F1.out 0 0 V1' l1 w' m)
                  have K2 := hide (fun w' => Check_val X2 _ F2.out 0 0 V2' l2 w' m)
                  clear V1 V2 V1' V2' F1 F2 F3 F4 l1 l2
                  go_wp2_with fail
                  refine (K1.out _ (cell_below Hm.out Be.out h0)).mono ?_
                  rintro e w1 ⟨rfl, b1⟩
                  have B1 := hide (below_trans Be.out b1)
                  clear b1
                  go_wp2_with fail
                  refine (K2.out _ (cell_below Hm.out B1.out h0)).mono ?_
                  rintro e w2 ⟨rfl, b2⟩
                  have B2 := hide (below_trans B1.out b2)
                  clear b2
                  go_wp2_with fail
                  refine (awake_any _ m (cell_below Hm.out B2.out h0)).mono ?_
                  rintro e w3 ⟨rfl, b3⟩
                  have B3 := hide (below_trans B2.out b3)
                  clear b3
                  go_wp2
                  go_ret
                  exact ⟨rfl, B3.out⟩
end Go.Proofs.YtnhidaamfnjdjaaGreatDoor
