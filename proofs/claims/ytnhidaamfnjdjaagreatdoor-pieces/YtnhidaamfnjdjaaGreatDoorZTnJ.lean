import Derived.Test.YtnhidaamfnjdjaaGreatDoorZTnJ0
import Derived.Test.YtnhidaamfnjdjaaGreatDoorZBagA
namespace Go.Proofs.YtnhidaamfnjdjaaGreatDoor
open Go.RowKit Go.Maps
theorem shape2_ok (cs:List Nat) (hl:cs.length≤5) (hc:∀ c∈cs,c<4):okShape2 cs=true:=by
 cases cs with
 | nil=>exact okShape2_nil
 | cons c cs =>
  have hc4:=hc c (by simp)
  have d:c=0∨c=1∨c=2∨c=3:=by omega
  have hl2:cs.length≤4:=by simpa using hl
  have hc2:∀ x∈cs,x<4:=fun x hx=>hc x (by simp [hx])
  rcases d with rfl|rfl|rfl|rfl
  ·exact allS2_mem 4 [0] cs allS2_0 hl2 hc2
  ·exact allS2_mem 4 [1] cs allS2_1 hl2 hc2
  ·exact allS2_mem 4 [2] cs allS2_2 hl2 hc2
  ·exact allS2_mem 4 [3] cs allS2_3 hl2 hc2
theorem bag_table (rs:List (Nat×Nat)) (h:RsOk rs):∃ s,runI startP 0 ((itB rs).map fun x=>(x.d,x.p))=some s∧s.complete 0=true∧CalmT (namedF s).2∧∃ r1 r2 k w,LoopT (namedF s).2 (rootOf s) r1 r2 k w:=by
 have hcs:∀ c∈rs.map (·.1),c<4:=by
  intro c hc
  obtain⟨r,hr,rfl⟩:=List.mem_map.1 hc
  exact (h.each r hr).1
 have h1:=shape_ok (rs.map (·.1)) (by rw [List.length_map];exact h.len) hcs
 have h2:=shape2_ok (rs.map (·.1)) (by rw [List.length_map];exact h.len) hcs
 unfold okShape at h1
 unfold okShape2 at h2
 rw [<-bag_shape rs] at h1 h2
 cases hr:runE startP.er (shE (bagI rs)) with
 | none=>rw [hr] at h1;cases h1
 | some t =>
  rw [hr] at h1 h2
  simp only [Bool.and_eq_true] at h1
  have el:((itB rs).map fun x=>(x.d,x.p)).map (fun x=>(x.1,x.2.er))=shE (bagI rs):=by
   unfold itB shE
   rw [List.map_map,List.map_map]
   rfl
  rw [<-el] at hr
  obtain⟨s,hs,he⟩:=run_er _ startP 0 t startP_ok hr
  have q:=runI_q _ startP 0 s (fun i=>by
   rcases Nat.lt_or_ge i 1 with z|z
   ·obtain rfl:i=0:=by omega
    exact exQ_no rfl rfl rfl
   ·have:startP.at i=default:=getD_ge _ _ _ (by simpa [startP] using z)
    rw [this];exact exQ_dflt) (fun x hx=>by
   unfold itB at hx
   rw [List.map_map] at hx
   obtain⟨y,hy,rfl⟩:=List.mem_map.1 hx
   exact exQ_bag rs h y hy) hs
  obtain⟨c1,c2⟩:=calm_of s q
  have hcomp:s.complete 0=true:=by rw [<-er_complete,he];exact h1.1
  have h2:loopB t=true:=h2
  exact⟨s,hs,hcomp,c1,loop_of s (by rw [he];exact h2) c2⟩
end Go.Proofs.YtnhidaamfnjdjaaGreatDoor
namespace Go.Proofs.YtnhidaamfnjdjaaGreatDoor
open Go.RowKit Go.Maps
theorem lay_plain (bad put:Nat):∀ (xs:List Item) (i:Nat),i+xs.length≤bad->i+xs.length≤put->lay bad put 0 i xs=xs.map fun x=>List.replicate (2 * x.d) 32++x.b
 | [],_,_,_=>rfl
 | x :: xs,i,h1,h2=>by
  rw [List.length_cons] at h1 h2
  unfold lay
  rw [if_neg (by omega),lay_plain bad put xs (i+1) (by omega) (by omega)]
  have e1:wrB bad i=[]:=by unfold wrB;rw [if_neg (by omega)]
  have e2:tlB 0 i=[]:=by unfold tlB;rw [if_neg (by omega)]
  rw [e1,e2,List.append_nil,List.append_nil]
  rfl
theorem bag_itText (rs:List (Nat×Nat)):itText (itB rs)=flatL (lay (bagI rs).length (bagI rs).length 0 0 (bagI rs)):=by
 rw [lay_plain _ _ (bagI rs) 0 (by omega) (by omega)]
 unfold itText itB
 rw [List.map_map]
 rfl
theorem bag_textI (rs:List (Nat×Nat)):textI (bagI rs)=itText (itB rs):=by
 unfold textI itText itB flatL
 rw [List.map_map,List.flatMap_map]
 rfl
theorem textI_bit86 (c k:Nat):(textI (bitI c k)).length≤86:=by
 have:=digN_len k
 unfold bitI
 split
 ·simp [textI,kl];omega
 ·split
  ·simp [textI,kl];omega
  ·split
   ·simp [textI,kl];omega
   ·simp [textI,kl];omega
theorem bag_len (rs:List (Nat×Nat)) (h:RsOk rs):(itText (itB rs)).length≤800:=by
 rw [<-bag_textI]
 unfold bagI
 rw [textI_append,textI_append,List.length_append,List.length_append]
 have h1:(textI headI).length=34:=by decide +kernel
 have h2:(textI tailI).length=222:=by decide +kernel
 have h3:∀ rs:List (Nat×Nat),(textI (rs.flatMap fun r=>bitI r.1 r.2)).length≤86 * rs.length:=by
  intro rs
  induction rs with
  | nil=>simp [textI]
  | cons r rs ih =>
   rw [List.flatMap_cons,textI_append,List.length_append,List.length_cons]
   have:=textI_bit86 r.1 r.2
   omega
 have h4:=h3 rs
 have h5:=h.len
 omega
theorem itB_ok (rs:List (Nat×Nat)) (h:RsOk rs):∀ i∈itB rs,i.ok=true:=by
 intro i hi
 obtain⟨x,hx,rfl⟩:=List.mem_map.1 hi
 have o:=bag_items rs h x hx
 unfold Itm.ok
 dsimp only
 rw [o.head,o.fine.1]
 have hr:rdSame (x.p,0) x.p=true:=by
  unfold rdSame
  dsimp only
  have hs:∀ a:PE,peSame a a=true:=by
   intro a
   induction a with
   | nil=>rfl
   | num a=>show (a == a)=true;simp
   | var n a=>show (n == n&&a == a)=true;simp
   | pair o a b ha hb=>show (o == o&&peSame a a&&peSame b b)=true;rw [ha,hb];simp
  rw [hs]
  simp
 rw [hr]
 simp [o.nl]
theorem bag_right (rs:List (Nat×Nat)) (h:RsOk rs):∃ s,parseF (itText (itB rs)) (linesF (itText (itB rs)))=(some s,0,0)∧checkF (itText (itB rs))=(0,0)∧CalmT (namedF s).2∧∃ r1 r2 k w,LoopT (namedF s).2 (rootOf s) r1 r2 k w:=by
 obtain⟨s,hr,hc,h1,h2⟩:=bag_table rs h
 have hl:=bag_len rs h
 have hp:=parse_items (itB rs) (itB_ok rs h) s hr hc hl
 have hk:=bag_check rs h (bagI rs).length (bagI rs).length 0 (by rw [<-bag_itText];exact hl)
 rw [<-bag_itText,if_neg (by omega)] at hk
 exact⟨s,hp,hk,h1,h2⟩
end Go.Proofs.YtnhidaamfnjdjaaGreatDoor
