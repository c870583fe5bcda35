import Derived.Test.YtnhidaamfnjdjaaGreatDoorProg
import Derived.Test.YtnhidaamfnjdjaaGreatDoorZPure
import Derived.Test.YtnhidaamfnjdjaaGreatDoorZShelf
import Derived.WalkKit
import Derived.WalkSpells
import Derived.WalkLawsBesides
namespace Go.Proofs.YtnhidaamfnjdjaaGreatDoor
open Go.RowKit
set_option maxHeartbeats 400000 in
theorem isLetter_any (c:Int) (w:World) :
  Calls Tryz.prog 224 #[.int .u8 c] w fun e w'=>e=.returned (.bool (isLetterB c))∧w'=w:=by
 by_cases h:97≤c
 ·go_enter Tryz.func224,Tryz.ntmps224
  go_wp2
  go_ret
  exact⟨by simp [isLetterB,h],rfl⟩
 ·have h':decide (97≤c)=false:=by simpa using h
  go_enter Tryz.func224,Tryz.ntmps224
  go_wp2
  go_ret
  exact⟨by simp [isLetterB,h'],rfl⟩
set_option maxHeartbeats 400000 in
theorem isDigit_any (c:Int) (w:World) :
  Calls Tryz.prog 226 #[.int .u8 c] w fun e w'=>e=.returned (.bool (isDigitB c))∧w'=w:=by
 by_cases h:48≤c
 ·go_enter Tryz.func226,Tryz.ntmps226
  go_wp2
  go_ret
  exact⟨by simp [isDigitB,h],rfl⟩
 ·have h':decide (48≤c)=false:=by simpa using h
  go_enter Tryz.func226,Tryz.ntmps226
  go_wp2
  go_ret
  exact⟨by simp [isDigitB,h'],rfl⟩
set_option maxHeartbeats 400000 in
theorem run_letters (s:ByteArray) (kind most:Int) (w:World) (hs:s.size≤maxLen) :
  Calls Tryz.prog 225 #[.string s,.int .i64 kind,.func (.func 224) #[] #[],.int .i64 most] w fun e w' =>
   e=.returned (.tuple #[.agg #[.int .i64 (if most<spanN isLetterB s.data.toList then 1 else kind),.string (if most<spanN isLetterB s.data.toList then ByteArray.empty else s.extract 0 (spanN isLetterB s.data.toList))],.string (if most<spanN isLetterB s.data.toList then ByteArray.empty else s.extract (spanN isLetterB s.data.toList) s.size)])∧Below w.heap.size w w':=by
 unfold maxLen at hs
 have hle:spanN isLetterB s.data.toList≤s.size:=by simpa using spanN_le isLetterB s.data.toList
 generalize hn:spanN isLetterB s.data.toList=n at hle ⊢
 have Hn:Hid (spanN isLetterB s.data.toList=n):=hn
 clear hn
 have fin:∀ k:Nat,k≤n->(∀ h:k<s.size,isLetterB s[k].toNat=false)->k=n:=by
  intro k hk h
  by_cases hlt:k<s.size
  ·have:=spanN_stop isLetterB s.data.toList k (by simpa using hlt) (by rw [Hn.out];exact hk) (by have:=h hlt;simp at this ⊢;exact this)
   rw [Hn.out] at this;exact this.symm
  ·omega
 have Fin:Hid (∀ k:Nat,k≤n->(∀ h:k<s.size,isLetterB s[k].toNat=false)->k=n):=fin
 clear fin
 go_enter Tryz.func225,Tryz.ntmps225
 go_wp2
 go_loop [10] (fun i=>∃ k:Nat,k≤n∧i=.int .i64 k) (fun i=>s.size - (intOf i).toNat)
 case atStart=>exact⟨0,Nat.zero_le _,rfl⟩
 case round =>
  obtain⟨k,hk,rfl⟩:=hrel
  by_cases hgo:∃ h:k<s.size,isLetterB s[k].toNat=true
  ·obtain⟨hlt,hp⟩:=hgo
   have hk1:k+1≤n:=by
    have:=spanN_step isLetterB s.data.toList k (by simpa using hlt) (by rw [Hn.out];exact hk) (by simp;exact hp)
    rwa [Hn.out] at this
   go_wp2_with (go_at_call 224;refine (isLetter_any _ _).mono ?_;rintro e w' ⟨rfl,rfl⟩)
   go_round
   case rel=>exact⟨k+1,hk1,by go_num⟩
   case measure=>simp [intOf];omega
  ·have hkn:k=n:=Fin.out k hk (fun h=>by
    by_cases hp:isLetterB s[k].toNat=true
    ·exact absurd ⟨h,hp⟩ hgo
    ·simpa using hp)
   by_cases hlt:k<s.size
   ·have hp:isLetterB s[k].toNat=false:=by
     by_cases hp:isLetterB s[k].toNat=true
     ·exact absurd ⟨hlt,hp⟩ hgo
     ·simpa using hp
    clear hgo
    subst hkn
    by_cases hm:most<(k:Int)
    ·go_wp2_with (go_at_call 224;refine (isLetter_any _ _).mono ?_;rintro e w' ⟨rfl,rfl⟩)
     exact bodyPost_ret (v:=.tuple #[.agg #[.int .i64 1,.string ByteArray.empty],.string ByteArray.empty]) (by simp [results,Tryz.results225,go_sem];rfl) rfl ⟨rfl,(Below.refl _ _).alloc (Nat.le_refl _) _⟩
    ·go_wp2_with (go_at_call 224;refine (isLetter_any _ _).mono ?_;rintro e w' ⟨rfl,rfl⟩)
     go_region
     go_wp2
     exact bodyPost_ret (v:=.tuple #[.agg #[.int .i64 kind,.string (s.extract 0 k)],.string (s.extract k s.size)]) (by simp [results,Tryz.results225,go_sem]) rfl ⟨rfl,((Below.refl _ _).alloc (Nat.le_refl _) _).drew⟩
   ·clear hgo
    subst hkn
    by_cases hm:most<(k:Int)
    ·go_wp2
     exact bodyPost_ret (v:=.tuple #[.agg #[.int .i64 1,.string ByteArray.empty],.string ByteArray.empty]) (by simp [results,Tryz.results225,go_sem];rfl) rfl ⟨rfl,(Below.refl _ _).alloc (Nat.le_refl _) _⟩
    ·go_wp2
     go_region
     go_wp2
     exact bodyPost_ret (v:=.tuple #[.agg #[.int .i64 kind,.string (s.extract 0 k)],.string (s.extract k s.size)]) (by simp [results,Tryz.results225,go_sem]) rfl ⟨rfl,((Below.refl _ _).alloc (Nat.le_refl _) _).drew⟩
set_option maxHeartbeats 400000 in
theorem run_digits (s:ByteArray) (kind most:Int) (w:World) (hs:s.size≤maxLen) :
  Calls Tryz.prog 225 #[.string s,.int .i64 kind,.func (.func 226) #[] #[],.int .i64 most] w fun e w' =>
   e=.returned (.tuple #[.agg #[.int .i64 (if most<spanN isDigitB s.data.toList then 1 else kind),.string (if most<spanN isDigitB s.data.toList then ByteArray.empty else s.extract 0 (spanN isDigitB s.data.toList))],.string (if most<spanN isDigitB s.data.toList then ByteArray.empty else s.extract (spanN isDigitB s.data.toList) s.size)])∧Below w.heap.size w w':=by
 unfold maxLen at hs
 have hle:spanN isDigitB s.data.toList≤s.size:=by simpa using spanN_le isDigitB s.data.toList
 generalize hn:spanN isDigitB s.data.toList=n at hle ⊢
 have Hn:Hid (spanN isDigitB s.data.toList=n):=hn
 clear hn
 have fin:∀ k:Nat,k≤n->(∀ h:k<s.size,isDigitB s[k].toNat=false)->k=n:=by
  intro k hk h
  by_cases hlt:k<s.size
  ·have:=spanN_stop isDigitB s.data.toList k (by simpa using hlt) (by rw [Hn.out];exact hk) (by have:=h hlt;simp at this ⊢;exact this)
   rw [Hn.out] at this;exact this.symm
  ·omega
 have Fin:Hid (∀ k:Nat,k≤n->(∀ h:k<s.size,isDigitB s[k].toNat=false)->k=n):=fin
 clear fin
 go_enter Tryz.func225,Tryz.ntmps225
 go_wp2
 go_loop [10] (fun i=>∃ k:Nat,k≤n∧i=.int .i64 k) (fun i=>s.size - (intOf i).toNat)
 case atStart=>exact⟨0,Nat.zero_le _,rfl⟩
 case round =>
  obtain⟨k,hk,rfl⟩:=hrel
  by_cases hgo:∃ h:k<s.size,isDigitB s[k].toNat=true
  ·obtain⟨hlt,hp⟩:=hgo
   have hk1:k+1≤n:=by
    have:=spanN_step isDigitB s.data.toList k (by simpa using hlt) (by rw [Hn.out];exact hk) (by simp;exact hp)
    rwa [Hn.out] at this
   go_wp2_with (go_at_call 226;refine (isDigit_any _ _).mono ?_;rintro e w' ⟨rfl,rfl⟩)
   go_round
   case rel=>exact⟨k+1,hk1,by go_num⟩
   case measure=>simp [intOf];omega
  ·have hkn:k=n:=Fin.out k hk (fun h=>by
    by_cases hp:isDigitB s[k].toNat=true
    ·exact absurd ⟨h,hp⟩ hgo
    ·simpa using hp)
   by_cases hlt:k<s.size
   ·have hp:isDigitB s[k].toNat=false:=by
     by_cases hp:isDigitB s[k].toNat=true
     ·exact absurd ⟨hlt,hp⟩ hgo
     ·simpa using hp
    clear hgo
    subst hkn
    by_cases hm:most<(k:Int)
    ·go_wp2_with (go_at_call 226;refine (isDigit_any _ _).mono ?_;rintro e w' ⟨rfl,rfl⟩)
     exact bodyPost_ret (v:=.tuple #[.agg #[.int .i64 1,.string ByteArray.empty],.string ByteArray.empty]) (by simp [results,Tryz.results225,go_sem];rfl) rfl ⟨rfl,(Below.refl _ _).alloc (Nat.le_refl _) _⟩
    ·go_wp2_with (go_at_call 226;refine (isDigit_any _ _).mono ?_;rintro e w' ⟨rfl,rfl⟩)
     go_region
     go_wp2
     exact bodyPost_ret (v:=.tuple #[.agg #[.int .i64 kind,.string (s.extract 0 k)],.string (s.extract k s.size)]) (by simp [results,Tryz.results225,go_sem]) rfl ⟨rfl,((Below.refl _ _).alloc (Nat.le_refl _) _).drew⟩
   ·clear hgo
    subst hkn
    by_cases hm:most<(k:Int)
    ·go_wp2
     exact bodyPost_ret (v:=.tuple #[.agg #[.int .i64 1,.string ByteArray.empty],.string ByteArray.empty]) (by simp [results,Tryz.results225,go_sem];rfl) rfl ⟨rfl,(Below.refl _ _).alloc (Nat.le_refl _) _⟩
    ·go_wp2
     go_region
     go_wp2
     exact bodyPost_ret (v:=.tuple #[.agg #[.int .i64 kind,.string (s.extract 0 k)],.string (s.extract k s.size)]) (by simp [results,Tryz.results225,go_sem]) rfl ⟨rfl,((Below.refl _ _).alloc (Nat.le_refl _) _).drew⟩
end Go.Proofs.YtnhidaamfnjdjaaGreatDoor
namespace Go.Proofs.YtnhidaamfnjdjaaGreatDoor
open Go.RowKit
theorem ret_cut {v u:Value} (h:v=u):Ending.returned v=.returned u:=by rw [h]
def Tk.val (t:Tk):Value:=.tuple #[.agg #[.int .i64 t.kind,.string ⟨t.text.toArray⟩],.string ⟨t.rest.toArray⟩]
theorem size_mk (l:Bs):(⟨l.toArray⟩:ByteArray).size=l.length:=by simp [ByteArray.size]
theorem take_mk (l:Bs) (b:Nat):(⟨l.toArray⟩:ByteArray).extract 0 b=⟨(l.take b).toArray⟩:=by
 apply ByteArray.ext
 simp [ByteArray.data_extract]
theorem drop_mk (l:Bs) (a:Nat):(⟨l.toArray⟩:ByteArray).extract a (⟨l.toArray⟩:ByteArray).size=⟨(l.drop a).toArray⟩:=by
 apply ByteArray.ext
 simp [ByteArray.data_extract,size_mk]
 exact List.take_of_length_le (by simp)
theorem run_letters_l (l:Bs) (w:World) (hs:l.length≤maxLen) :
  Calls Tryz.prog 225 #[.string ⟨l.toArray⟩,.int .i64 2,.func (.func 224) #[] #[],.int .i64 6] w fun e w'=>e=.returned (cutTok 2 6 isLetterB l).val∧Below w.heap.size w w':=by
 refine (run_letters ⟨l.toArray⟩ 2 6 w (by rw [size_mk];exact hs)).mono ?_
 rintro e w' ⟨rfl,hb⟩
 refine⟨ret_cut ?_,hb⟩
 unfold cutTok Tk.val
 by_cases h:6<spanN isLetterB l
 ·have h':(6:Int)<(spanN isLetterB l:Int):=by omega
  simp [h,h'];rfl
 ·have h':¬ (6:Int)<(spanN isLetterB l:Int):=by omega
  simp only [h,h',if_false,take_mk,drop_mk]
theorem run_digits_l (l:Bs) (w:World) (hs:l.length≤maxLen) :
  Calls Tryz.prog 225 #[.string ⟨l.toArray⟩,.int .i64 3,.func (.func 226) #[] #[],.int .i64 7] w fun e w'=>e=.returned (cutTok 3 7 isDigitB l).val∧Below w.heap.size w w':=by
 refine (run_digits ⟨l.toArray⟩ 3 7 w (by rw [size_mk];exact hs)).mono ?_
 rintro e w' ⟨rfl,hb⟩
 refine⟨ret_cut ?_,hb⟩
 unfold cutTok Tk.val
 by_cases h:7<spanN isDigitB l
 ·have h':(7:Int)<(spanN isDigitB l:Int):=by omega
  simp [h,h'];rfl
 ·have h':¬ (7:Int)<(spanN isDigitB l:Int):=by omega
  simp only [h,h',if_false,take_mk,drop_mk]
theorem bcell {W w1:World} (hb:Below W.heap.size W w1):(∀ b o,b<W.heap.size->w1.cell? ⟨b,o,none⟩=W.cell? ⟨b,o,none⟩)∧(∀ b o,b<W.heap.size->w1.frozen? ⟨b,o,none⟩=W.frozen? ⟨b,o,none⟩) :=
 ⟨fun b o h=>hb.cell (p:=⟨b,o,none⟩) h,fun b o h=>hb.frozen (p:=⟨b,o,none⟩) h⟩
set_option maxHeartbeats 400000 in
theorem next_any (l:Bs) (w:World) (hs:l.length≤maxLen) :
  Calls Tryz.prog 205 #[.string ⟨l.toArray⟩] w fun e w'=>e=.returned (nextS l).val∧Below w.heap.size w w':=by
 have hs':(trimB l).length≤maxLen:=Nat.le_trans (by unfold trimB Lib.trimLeftB;exact (List.dropWhile_suffix _).length_le) hs
 unfold nextS
 unfold trimB at hs' ⊢
 clear hs
 generalize hT:nextT (Lib.trimLeftB l 32)=T
 have HT:Hid (nextT (Lib.trimLeftB l 32)=T):=hT
 clear hT
 go_enter Tryz.func205,Tryz.ntmps205
 go_wp2_with fail
 refine (Tryz.strings_TrimLeft_one _ _ (by decide) _).mono ?_
 rintro e w' ⟨rfl,rfl⟩
 dsimp only
 generalize Lib.trimLeftB l 32=t at hs' HT ⊢
 cases t with
 | nil =>
  go_wp2
  refine bodyPost_ret (v:=T.val) ?_ rfl ⟨rfl,(Below.refl _ _).alloc (Nat.le_refl _) _⟩
  rw [<-HT.out]
  simp [results,Tryz.results205,go_sem,Tk.val,nextT]
 | cons c r =>
  have i0:∀ h,(⟨(c :: r).toArray⟩:ByteArray)[0]'h=c:=fun _=>rfl
  by_cases h1:isLetterB c.toNat=true
  ·have HT':Hid (cutTok 2 6 isLetterB (c :: r)=T):=by have:=HT.out;rw [nextT,if_pos h1] at this;exact this
   clear HT
   go_wp2_with (first|(go_at_call 224;refine (isLetter_any _ _).mono ?_;rintro e w' ⟨rfl,rfl⟩)|(go_at_call 225;refine (run_letters_l _ _ hs').mono ?_;rw [HT'.out];rintro e w' ⟨rfl,hb⟩;obtain⟨hc,hf⟩:=bcell hb;unfold Tk.val))
   have hz:w.heap.size<w'.heap.size:=by have:=hb.size;simp at this;omega
   refine bodyPost_ret (v:=T.val) ?_ rfl ⟨rfl,?_⟩
   ·simp [results,Tryz.results205,go_sem,Tk.val,hc]
   ·exact ((((Below.refl _ _).alloc (Nat.le_refl _) _).trans (hb.mono (by simp))).setCell (by simp) _).setCell (by simp) _
  ·have h1':isLetterB c.toNat=false:=by simpa using h1
   by_cases h2:isDigitB c.toNat=true
   ·have HT':Hid (cutTok 3 7 isDigitB (c :: r)=T):=by have:=HT.out;rw [nextT,if_neg h1,if_pos h2] at this;exact this
    clear HT h1
    go_wp2_with (first|(go_at_call 224;refine (isLetter_any _ _).mono ?_;rintro e w' ⟨rfl,rfl⟩)|(go_at_call 226;refine (isDigit_any _ _).mono ?_;rintro e w' ⟨rfl,rfl⟩)|(go_at_call 225;refine (run_digits_l _ _ hs').mono ?_;rw [HT'.out];rintro e w' ⟨rfl,hb⟩;obtain⟨hc,hf⟩:=bcell hb;unfold Tk.val))
    have hz:w.heap.size<w'.heap.size:=by have:=hb.size;simp at this;omega
    refine bodyPost_ret (v:=T.val) ?_ rfl ⟨rfl,?_⟩
    ·simp [results,Tryz.results205,go_sem,Tk.val,hc]
    ·exact ((((Below.refl _ _).alloc (Nat.le_refl _) _).trans (hb.mono (by simp))).setCell (by simp) _).setCell (by simp) _
   ·have h2':isDigitB c.toNat=false:=by simpa using h2
    by_cases h3:Lib.hasPrefix (c :: r) [58,61]=true
    ·have HT':Hid ((⟨4,[58,61],(c :: r).drop 2⟩:Tk)=T):=by have:=HT.out;rw [nextT,if_neg h1,if_neg h2,if_pos h3] at this;exact this
     have hl:2≤(c :: r).length:=by
      have:=List.IsPrefix.length_le (List.isPrefixOf_iff_prefix.1 h3);simpa using this
     have hl2:(2:Int)≤(r.length:Int)+1:=by simp at hl;omega
     have d2:=drop_mk (c :: r) 2
     rw [size_mk] at d2
     simp only [List.length_cons] at d2
     clear HT h1 h2
     go_wp2_with (first|(go_at_call 224;refine (isLetter_any _ _).mono ?_;rintro e w' ⟨rfl,rfl⟩)|(go_at_call 226;refine (isDigit_any _ _).mono ?_;rintro e w' ⟨rfl,rfl⟩)|(go_at_call 227;refine (Tryz.strings_HasPrefix _ _ _).mono ?_;rintro e w' ⟨rfl,rfl⟩))
     go_region
     go_wp2
     refine bodyPost_ret (v:=T.val) ?_ rfl ⟨rfl,((Below.refl _ _).alloc (Nat.le_refl _) _).drew⟩
     rw [<-HT'.out]
     simp [results,Tryz.results205,go_sem,Tk.val]
    ·have h3':Lib.hasPrefix (c :: r) [58,61]=false:=by simpa using h3
     by_cases h4:0≤Lib.indexByte [33,63,43,45,42,47,37,61,60,62,40,41,38] c
     ·have HT':Hid ((⟨4,[c],r⟩:Tk)=T):=by have:=HT.out;rw [nextT,signsB,if_neg h1,if_neg h2,if_neg h3,if_pos h4] at this;exact this
      have d1:=drop_mk (c :: r) 1
      rw [size_mk] at d1
      simp only [List.length_cons] at d1
      have t1:=take_mk (c :: r) 1
      have hl1:(1:Int)≤(r.length:Int)+1:=by omega
      clear HT h1 h2 h3
      go_wp2_with (first|(go_at_call 224;refine (isLetter_any _ _).mono ?_;rintro e w' ⟨rfl,rfl⟩)|(go_at_call 226;refine (isDigit_any _ _).mono ?_;rintro e w' ⟨rfl,rfl⟩)|(go_at_call 227;refine (Tryz.strings_HasPrefix _ _ _).mono ?_;rintro e w' ⟨rfl,rfl⟩)|(go_at_call 228;refine (Tryz.strings_IndexByte _ _ _).mono ?_;rintro e w' ⟨rfl,rfl⟩))
      go_region
      go_wp2
      refine bodyPost_ret (v:=T.val) ?_ rfl ⟨rfl,((Below.refl _ _).alloc (Nat.le_refl _) _).drew⟩
      rw [<-HT'.out]
      simp [results,Tryz.results205,go_sem,Tk.val]
     ·have HT':Hid ((⟨1,[],[]⟩:Tk)=T):=by have:=HT.out;rw [nextT,signsB,if_neg h1,if_neg h2,if_neg h3,if_neg h4] at this;exact this
      clear HT h1 h2 h3
      go_wp2_with (first|(go_at_call 224;refine (isLetter_any _ _).mono ?_;rintro e w' ⟨rfl,rfl⟩)|(go_at_call 226;refine (isDigit_any _ _).mono ?_;rintro e w' ⟨rfl,rfl⟩)|(go_at_call 227;refine (Tryz.strings_HasPrefix _ _ _).mono ?_;rintro e w' ⟨rfl,rfl⟩)|(go_at_call 228;refine (Tryz.strings_IndexByte _ _ _).mono ?_;rintro e w' ⟨rfl,rfl⟩))
      refine bodyPost_ret (v:=T.val) ?_ rfl ⟨rfl,((Below.refl _ _).alloc (Nat.le_refl _) _)⟩
      rw [<-HT'.out]
      simp [results,Tryz.results205,go_sem,Tk.val]
end Go.Proofs.YtnhidaamfnjdjaaGreatDoor
