/- Joined: TTaken, TRemove, TLink, TOpenA, TFits. -/
import Derived.Test.YtknmgefpjdfenaaGreatSfJ32
import Derived.LaidEqlPtr
/- taken, the handles that keep a file, remove, Unlink, Rmdir. -/
namespace Go.Proofs.YtknmgefpjdfenaaGreat
set_option maxRecDepth 100000
set_option maxHeartbeats 8000000
open Go.RowKit Go.Shelf Go.Maps
set_option linter.unusedVariables false

theorem up_back {w u w':World} {S:Nat→Prop} {g:Nat} {s':Tr} (hS:∀ k,S k→k < w.heap.size) (hb:Below w.heap.size w u) (h:TM w' (Up S u.heap.size w'.heap.size) g s') (hk:Kp S u w'):TM w' (Up S w.heap.size w'.heap.size) g s'∧Kp S w w':=by
 have h1:=hb.size
 refine ⟨h.kept (fun _ _=>rfl) (fun x hx=>hx.elim .inl (fun q=>.inr ⟨by omega,q.2⟩)) (fun x hx=>?_),(Kp.of hb).trans hk (fun k q=>.inl q)⟩
 rcases hx with q | q
 ·have:=hS x q
  have:=hk.size
  omega
 ·exact q.2

theorem undPT:Tryz.prog.underlying 63=some (.pointer 69):=by kernel_rfl

theorem sizeTh:(Tryz.prog.info? 69).map (·.size)=some 5:=by kernel_rfl

theorem ptr_eq {w v:World} {S:Nat→Prop} {g b c:Nat} {s:Tr} {t t':Th} (h:TM w S g s) (hb:s.T b=some t) (hc:s.T c=some t') (hv:v.heap=w.heap) :
  (binOp .eql 63 (.pointer (some ⟨b,0,none⟩)) (.pointer (some ⟨c,0,none⟩))).run Tryz.prog v=.ok (.bool (decide (b=c))) v:=by
 obtain ⟨j,hj,hs⟩:=Option.map_eq_some_iff.1 sizeTh
 by_cases e:b=c
 ·subst e
  rw [decide_eq_true rfl]
  exact run_eql_ptr_same v _ undPT hj
 ·rw [decide_eq_false e]
  obtain ⟨ca,ha,_⟩:=h.thg b t hb
  obtain ⟨cb,hb',_⟩:=h.thg c t' hc
  exact run_eql_ptr_other v undPT hj (by rw [hs]; decide) (fun q=>e (by cases q; rfl)) (by rw [hv]; exact ha) (by rw [hv]; exact hb')

def Tr.held (s:Tr) (x:Nat):Bool:=(List.range 16).any (fun f=>decide (s.opn f=some x))

theorem held_iff (s:Tr) (x:Nat):s.held x=true ↔ ∃ f,f < 16∧s.opn f=some x:=by
 unfold Tr.held
 rw [List.any_eq_true]
 constructor
 ·rintro ⟨f,hf,e⟩
  exact ⟨f,List.mem_range.1 hf,of_decide_eq_true e⟩
 ·rintro ⟨f,hf,e⟩
  exact ⟨f,List.mem_range.2 hf,decide_eq_true e⟩

theorem index_thing {w:World} {S:Nat→Prop} {g x:Nat} {s:Tr} (h:TM w S g s) (hx:∃ t,s.T x=some t) (ho:∀ f b,s.opn f=some b→∃ t,s.T b=some t) :
  Calls Tryz.prog 63 #[.slice (some ⟨g,3,none⟩) 16 16,.pointer (some ⟨x,0,none⟩)] w fun e w'=>(∃ i:Int,e=.returned (.int .i64 i)∧decide (i ≥ 0)=s.held x)∧w'=w:=by
 have HC:Hid (∀ i,i < 16→w.cell? ⟨g,3 + i,none⟩=some (ptrO (s.opn i))):=fun i hi=>h.open_cell hi
 have HE:Hid (∀ i b,i < 16→s.opn i=some b→(binOp .eql 63 (.pointer (some ⟨x,0,none⟩)) (.pointer (some ⟨b,0,none⟩))).run Tryz.prog w=.ok (.bool (decide (x=b))) w):=fun i b hi e=>by
  obtain ⟨t,ht⟩:=hx
  obtain ⟨t',ht'⟩:=ho i b e
  exact ptr_eq h ht ht' rfl
 have HS:Hid (∀ j,j < 0→s.opn j ≠ some x):=fun j hj=>by omega
 clear h hx ho
 go_enter Tryz.func63,Tryz.ntmps63
 go_wp2_with fail
 go_loopw [8] (fun iv wr=>∃ k:Nat,k ≤ 16∧iv=.int .i64 (k:Int)∧wr=w∧Hid (∀ j,j < k→s.opn j ≠ some x)) (fun iv _=>16 - (intOf iv).toNat)
 case atStart=>exact ⟨0,Nat.zero_le _,rfl,rfl,HS⟩
 case round =>
  obtain ⟨k,hk,rfl,rfl,hJ⟩:=hrel
  clear HS
  by_cases hlt:k < 16
  ·have c:=HC.out k hlt
   have l1:(k:Int) < 16:=by omega
   have l0:(0:Int) ≤ (k:Int):=by omega
   cases hb:s.opn k with
   | none =>
    rw [hb] at c
    simp only [ptrO,Option.map_none] at c
    have HJ:Hid (∀ j,j < k + 1→s.opn j ≠ some x):=fun j hj=>by
     by_cases e:j=k
     ·subst e; rw [hb]; exact fun q=>by cases q
     ·exact hJ.out j (by omega)
    clear HC HE hJ hb
    go_wp2_with fail
    go_roundw
    case rel=>exact ⟨k + 1,by omega,by go_num,trivial,HJ⟩
    case measure=>simp [intOf]; omega
   | some b =>
    have hn:=HE.out k b hlt hb
    have hb':=hb
    rw [hb] at c
    simp only [ptrO,Option.map_some] at c
    by_cases e:x=b
    ·subst e
     rw [decide_eq_true rfl] at hn
     have HF:Hid (s.held x=true):=(held_iff s x).2 ⟨k,hlt,hb⟩
     clear HC HE hJ hb hb'
     go_wp2_with fail
     go_ret
     exact ⟨⟨(k:Int),rfl,by rw [HF.out]; simp⟩,rfl⟩
    ·rw [decide_eq_false e] at hn
     have HJ:Hid (∀ j,j < k + 1→s.opn j ≠ some x):=fun j hj=>by
      by_cases e':j=k
      ·subst e'; rw [hb]; exact fun q=>e (by cases q; rfl)
      ·exact hJ.out j (by omega)
     clear HC HE hJ hb hb'
     go_wp2_with fail
     go_roundw
     case rel=>exact ⟨k + 1,by omega,by go_num,trivial,HJ⟩
     case measure=>simp [intOf]; omega
  ·obtain rfl:k=16:=by omega
   have HF:Hid (s.held x=false):=by
    unfold Hid
    rw [Bool.eq_false_iff]
    intro q
    obtain ⟨f,hf,e⟩:=(held_iff s x).1 q
    exact hJ.out f hf e
   clear HC HE hJ
   go_wp2_with fail
   go_ret
   exact ⟨⟨-1,rfl,by rw [HF.out]; rfl⟩,rfl⟩

theorem contains_thing {w:World} {S:Nat→Prop} {g x:Nat} {s:Tr} (h:TM w S g s) (hx:∃ t,s.T x=some t) (ho:∀ f b,s.opn f=some b→∃ t,s.T b=some t) :
  Calls Tryz.prog 107 #[.slice (some ⟨g,3,none⟩) 16 16,.pointer (some ⟨x,0,none⟩)] w fun e w'=>e=.returned (.bool (s.held x))∧w'=w:=by
 have K:=hide (index_thing h hx ho)
 clear h hx ho
 go_enter Tryz.func107,Tryz.ntmps107
 go_wp2_with fail
 refine (unhide K).mono ?_
 rintro e w1 ⟨⟨i,rfl,hi⟩,rfl⟩
 clear K
 go_wp2_with fail
 go_ret
 exact ⟨by rw [← hi]; rfl,rfl⟩

def Tr.keeps (s:Tr) (x:Nat) (t:Th):Bool:=decide (t.l=1) && s.held x

theorem holds_any {w:World} {S:Nat→Prop} {g x:Nat} {s:Tr} {t:Th} (h:TM w S g s) (hx:s.T x=some t) (ho:∀ f b,s.opn f=some b→∃ t,s.T b=some t) :
  Calls Tryz.prog 85 #[.pointer (some ⟨g,0,none⟩),.pointer (some ⟨x,0,none⟩)] w fun e w'=>e=.returned (.bool (s.keeps x t))∧w'=w:=by
 have K:=hide (contains_thing h ⟨t,hx⟩ ho)
 obtain ⟨_,_,c2,_⟩:=h.thing_cells hx
 unfold Tr.keeps
 by_cases hl:t.l=1
 ·have d1:(t.l == 1)=true:=by rw [hl]; rfl
  rw [decide_eq_true hl,Bool.true_and]
  clear h hx ho hl
  generalize t.l=tl at *
  go_enter Tryz.func85,Tryz.ntmps85
  go_wp2_with fail
  refine (unhide K).mono ?_
  rintro e w1 ⟨rfl,rfl⟩
  clear K
  go_wp2_with fail
  go_ret
  exact ⟨rfl,rfl⟩
 ·have d1:(t.l == 1)=false:=by simpa using hl
  rw [decide_eq_false hl,Bool.false_and]
  clear h hx ho hl K
  generalize t.l=tl at *
  go_enter Tryz.func85,Tryz.ntmps85
  go_wp2_with fail
  go_ret
  exact ⟨rfl,rfl⟩

def unE (s:Tr) (x:Nat) (t:Th):Int:=if t.k=2 then 14 else if s.keeps x t=true then 17 else 0

def rmE (t:Th):Int:=if t.k=1 then 13 else if t.ns=[] then 0 else 15

theorem unlink1_any {w:World} {S:Nat→Prop} {g x m:Nat} {s:Tr} {t:Th} (h:TM w S g s) (hx:s.T x=some t) (ho:∀ f b,s.opn f=some b→∃ t,s.T b=some t) (hm:w.cell? ⟨m,0,none⟩=some (.pointer (some ⟨g,0,none⟩))) :
  Calls Tryz.prog 84 #[.pointer (some ⟨x,0,none⟩),.pointer (some ⟨m,0,none⟩)] w fun e w'=>e=.returned (.int .i64 (unE s x t))∧w'=w:=by
 have K:=hide (holds_any h hx ho)
 obtain ⟨c0,_,_,_⟩:=h.thing_cells hx
 unfold unE
 by_cases hk:t.k=2
 ·have d1:(t.k == 2)=true:=by rw [hk]; rfl
  rw [if_pos hk]
  clear h hx ho hk K
  generalize t.k=tk at *
  go_enter Tryz.func84,Tryz.ntmps84
  go_wp2_with fail
  go_ret
  exact ⟨rfl,rfl⟩
 ·have d1:(t.k == 2)=false:=by simpa using hk
  rw [if_neg hk]
  cases hh:s.keeps x t with
  | true =>
   rw [hh] at K
   rw [if_pos rfl]
   clear h hx ho hk hh
   generalize t.k=tk at *
   go_enter Tryz.func84,Tryz.ntmps84
   go_wp2_with fail
   refine (unhide K).mono ?_
   rintro e w1 ⟨rfl,rfl⟩
   clear K
   go_wp2_with fail
   go_ret
   exact ⟨rfl,rfl⟩
  | false =>
   rw [hh] at K
   rw [if_neg (by decide)]
   clear h hx ho hk hh
   generalize t.k=tk at *
   go_enter Tryz.func84,Tryz.ntmps84
   go_wp2_with fail
   refine (unhide K).mono ?_
   rintro e w1 ⟨rfl,rfl⟩
   clear K
   go_wp2_with fail
   go_ret
   exact ⟨rfl,rfl⟩

theorem rmdir1_any {w:World} {S:Nat→Prop} {g x:Nat} {s:Tr} {t:Th} (h:TM w S g s) (hx:s.T x=some t) (hk:t.k=1 ∨ t.k=2) (hn:t.ns.length ≤ 1800000000000) :
  Calls Tryz.prog 86 #[.pointer (some ⟨x,0,none⟩)] w fun e w'=>e=.returned (.int .i64 (rmE t))∧w'=w:=by
 obtain ⟨c0,_,_,_⟩:=h.thing_cells hx
 unfold rmE
 rcases hk with hk | hk
 ·rw [if_pos hk]
  rw [hk] at c0
  clear h hx
  go_enter Tryz.func86,Tryz.ntmps86
  go_wp2_with fail
  go_ret
  exact ⟨rfl,rfl⟩
 ·have c4:=h.dir_map hx hk
  have hl:=(h.map x t hx hk).len 3
  have d1:(t.k == 1)=false:=by rw [hk]; rfl
  rw [if_neg (by omega)]
  by_cases h0:t.ns=[]
  ·rw [if_pos h0]
   have d2:(t.ns.length:Int)=0:=by rw [h0]; rfl
   rw [d2] at hl
   clear h hx hk h0 hn d2
   generalize t.k=tk at *
   generalize t.mp=mp at *
   go_enter Tryz.func86,Tryz.ntmps86
   go_wp2_with fail
   go_ret
   exact ⟨rfl,rfl⟩
  ·rw [if_neg h0]
   have hne:t.ns.length ≠ 0:=by simpa using h0
   have d2:decide ((t.ns.length:Int) > 0)=true:=by simp; omega
   have d3:0 < t.ns.length:=by omega
   clear h hx hk h0 hne
   generalize t.k=tk at *
   generalize t.mp=mp at *
   generalize t.ns.length=nl at *
   go_enter Tryz.func86,Tryz.ntmps86
   go_wp2_with fail
   go_ret
   exact ⟨rfl,rfl⟩

def tkA (s:Tr) (ms:List (List UInt8)) (z:List UInt8) (r:Nat):Value:=match (plc s ms r).2 with
 | none=>.tuple #[.agg #[.pointer none,.string ⟨#[]⟩],.pointer none,.int .i64 (plc s ms r).1]
 | some d=>match (s.nsOf d).lookup z with
  | none=>.tuple #[.agg #[.pointer none,.string ⟨#[]⟩],.pointer none,.int .i64 11]
  | some x=>.tuple #[.agg #[.pointer (some ⟨d,0,none⟩),.string (St z)],.pointer (some ⟨x,0,none⟩),.int .i64 0]

theorem taken_any {w:World} {S:Nat→Prop} {g r:Nat} {s:Tr} (h:TM w S g s) (hk:Ok s r) {p z:List UInt8} {ms:List (List UInt8)} (hp:spl p=some (ms ++ [z])) :
  Calls Tryz.prog 54 #[.pointer (some ⟨g,0,none⟩),.string (St p)] w fun e w'=>e=.returned (tkA s ms z r)∧Below w.heap.size w w':=by
 have hC:=C2.new w (.pointer none) (.string ⟨#[]⟩)
 have hb0:Below w.heap.size w (w.alloc (.cells #[.pointer none,.string ⟨#[]⟩] 92)):=(Below.refl _ w).alloc (Nat.le_refl _) _
 have K:=place_any (h.below hb0) hk hp
 have HT:=hide (h.below hb0)
 have HC:=hide hC
 have HB:=hide hb0
 have hmlt:w.heap.size < (w.alloc (.cells #[.pointer none,.string ⟨#[]⟩] 92)).heap.size:=by simp
 have hz:=name_len hp
 rcases plc_cases hk ms with ⟨e1,e2⟩ | ⟨d,t,e1,ht,h2⟩
 ·rw [plA_none z e1] at K
  have K:=hide K
  have d1:((plc s ms r).1 != 0)=true:=by rcases e2 with e | e <;> rw [e] <;> rfl
  have HV:Hid (tkA s ms z r=.tuple #[.agg #[.pointer none,.string ⟨#[]⟩],.pointer none,.int .i64 (plc s ms r).1]):=by unfold Hid tkA; rw [e1]
  clear h hk hp hC hb0 e1 e2
  generalize (plc s ms r).1=ee at *
  generalize St p=sp at *
  go_enter Tryz.func54,Tryz.ntmps54
  go_wp2_with fail
  generalize hm:w.heap.size=m at *
  generalize w.alloc (.cells #[.pointer none,.string ⟨#[]⟩] 92)=w1 at *
  refine (unhide K).mono ?_
  rintro e w2 ⟨rfl,hb⟩
  have hb2:=hb.alloc hb.size (.cells #[.pointer none,.string ⟨#[]⟩] 92)
  have HC:=hide (HC.out.below hb2 hmlt)
  have HB:=hide (HB.out.trans (hb2.mono (Nat.le_of_lt hmlt)))
  clear K hb hb2 HT
  go_upto_region 2 with fail
  change Code.wp _ _ _ _ (w2.alloc (.cells #[.pointer none,.string ⟨#[]⟩] 92))
  generalize w2.alloc (.cells #[.pointer none,.string ⟨#[]⟩] 92)=w3 at *
  have k0:=HC.out.c0
  have k1:=HC.out.c1
  have kf:=HC.out.free
  have HF:=hide (HC.out.set2 (.pointer none) (.string ⟨#[]⟩))
  have HG:=hide (below_set2 HB.out (Nat.le_refl _) (.pointer none) (.string ⟨#[]⟩))
  clear HC HB
  go_wp2_with fail
  change bodyPost _ _ _ _ _ ((w3.setCell ⟨m,0,none⟩ (.pointer none)).setCell ⟨m,1,none⟩ (.string ⟨#[]⟩))
  generalize (w3.setCell ⟨m,0,none⟩ (.pointer none)).setCell ⟨m,1,none⟩ (.string ⟨#[]⟩)=wf at *
  refine bodyPost_ret (v:=.tuple #[.agg #[.pointer none,.string ⟨#[]⟩],.pointer none,.int .i64 ee]) ?_ rfl ⟨by rw [HV.out],?_⟩
  ·simp [results,Tryz.results54,go_sem,HF.out.c0,HF.out.c1]
  ·rw [hm]; exact HG.out
 ·rw [plA_some z e1] at K
  have K:=hide K
  have KN:Hid (∀ u,TM u S g s→Calls Tryz.prog 57 #[.agg #[.pointer (some ⟨d,0,none⟩),.string (St z)]] u fun e w'=>e=.returned (ptrO (t.ns.lookup z))∧Below u.heap.size u w'):=fun u hu=>named_any hu ht h2 hz
  have HV:Hid (tkA s ms z r=match t.ns.lookup z with
   | none=>.tuple #[.agg #[.pointer none,.string ⟨#[]⟩],.pointer none,.int .i64 11]
   | some x=>.tuple #[.agg #[.pointer (some ⟨d,0,none⟩),.string (St z)],.pointer (some ⟨x,0,none⟩),.int .i64 0]):=by
   unfold Hid tkA; rw [e1]; simp only [nsOf_some ht]
  clear h hk hp hC hb0 e1 ht h2 hz
  generalize St p=sp at *
  generalize St z=sz at *
  generalize t.ns.lookup z=o at *
  go_enter Tryz.func54,Tryz.ntmps54
  go_wp2_with fail
  generalize hm:w.heap.size=m at *
  generalize w.alloc (.cells #[.pointer none,.string ⟨#[]⟩] 92)=w1 at *
  refine (unhide K).mono ?_
  rintro e w2 ⟨rfl,hb⟩
  have hb2:=hb.alloc hb.size (.cells #[.pointer (some ⟨d,0,none⟩),.string sz] 92)
  have HC:=hide (HC.out.below hb2 hmlt)
  have HB:=hide (HB.out.trans (hb2.mono (Nat.le_of_lt hmlt)))
  have HT:=hide (HT.out.below hb2)
  have hD:=C2.new w2 (.pointer (some ⟨d,0,none⟩)) (.string sz)
  have hne:m ≠ w2.heap.size:=by have:=hb.size; omega
  have KN:=hide (KN.out _ HT.out)
  clear K hb hb2
  go_upto_region 2 with fail
  change Code.wp _ _ _ _ (w2.alloc (.cells #[.pointer (some ⟨d,0,none⟩),.string sz] 92))
  generalize w2.alloc (.cells #[.pointer (some ⟨d,0,none⟩),.string sz] 92)=w3 at *
  generalize w2.heap.size=m2 at *
  have j0:=hD.c0
  have j1:=hD.c1
  go_wp2_with fail
  refine (unhide KN).mono ?_
  rintro e w4 ⟨rfl,hb⟩
  have HC:=hide (HC.out.below hb HC.out.lt)
  have HB:=hide (HB.out.trans (hb.mono (by rw [← hm]; exact HB.out.size)))
  have hD4:=hD.below hb hD.lt
  clear KN hb j0 j1 hD
  have j0:=hD4.c0
  have j1:=hD4.c1
  have k0:=HC.out.c0
  have k1:=HC.out.c1
  have kf:=HC.out.free
  cases o with
  | none =>
   have HF:=hide (HC.out.set2 (.pointer none) (.string ⟨#[]⟩))
   have HG:=hide (below_set2 HB.out (Nat.le_refl _) (.pointer none) (.string ⟨#[]⟩))
   simp only [ptrO,Option.map_none]
   clear HC HB HT
   go_wp2_with fail
   change bodyPost _ _ _ _ _ ((w4.setCell ⟨m,0,none⟩ (.pointer none)).setCell ⟨m,1,none⟩ (.string ⟨#[]⟩))
   generalize (w4.setCell ⟨m,0,none⟩ (.pointer none)).setCell ⟨m,1,none⟩ (.string ⟨#[]⟩)=wf at *
   refine bodyPost_ret (v:=.tuple #[.agg #[.pointer none,.string ⟨#[]⟩],.pointer none,.int .i64 11]) ?_ rfl ⟨by rw [HV.out],HG.out⟩
   simp [results,Tryz.results54,go_sem,HF.out.c0,HF.out.c1]
  | some x =>
   have HF:=hide (HC.out.set2 (.pointer (some ⟨d,0,none⟩)) (.string sz))
   have HG:=hide (below_set2 HB.out (Nat.le_refl _) (.pointer (some ⟨d,0,none⟩)) (.string sz))
   simp only [ptrO,Option.map_some]
   clear HC HB HT
   go_wp2_with fail
   change bodyPost _ _ _ _ _ ((w4.setCell ⟨m,0,none⟩ (.pointer (some ⟨d,0,none⟩))).setCell ⟨m,1,none⟩ (.string sz))
   generalize (w4.setCell ⟨m,0,none⟩ (.pointer (some ⟨d,0,none⟩))).setCell ⟨m,1,none⟩ (.string sz)=wf at *
   refine bodyPost_ret (v:=.tuple #[.agg #[.pointer (some ⟨d,0,none⟩),.string sz],.pointer (some ⟨x,0,none⟩),.int .i64 0]) ?_ rfl ⟨by rw [HV.out],HG.out⟩
   simp [results,Tryz.results54,go_sem,HF.out.c0,HF.out.c1]

end Go.Proofs.YtknmgefpjdfenaaGreat

/- remove, Unlink, Rmdir. -/
namespace Go.Proofs.YtknmgefpjdfenaaGreat
set_option maxRecDepth 100000
set_option maxHeartbeats 8000000
open Go.RowKit Go.Shelf Go.Maps
set_option linter.unusedVariables false

theorem tkA_err {s:Tr} {r:Nat} {ms:List (List UInt8)} (z:List UInt8) (h:(plc s ms r).2=none):tkA s ms z r=.tuple #[.agg #[.pointer none,.string ⟨#[]⟩],.pointer none,.int .i64 (plc s ms r).1]:=by
 unfold tkA; rw [h]

theorem tkA_none {s:Tr} {r d:Nat} {t:Th} {ms:List (List UInt8)} {z:List UInt8} (h:plc s ms r=(0,some d)) (ht:s.T d=some t) (hc:t.ns.lookup z=none):tkA s ms z r=.tuple #[.agg #[.pointer none,.string ⟨#[]⟩],.pointer none,.int .i64 11]:=by
 unfold tkA; rw [h]; simp only [nsOf_some ht,hc]

theorem tkA_some {s:Tr} {r d x:Nat} {t:Th} {ms:List (List UInt8)} {z:List UInt8} (h:plc s ms r=(0,some d)) (ht:s.T d=some t) (hc:t.ns.lookup z=some x):tkA s ms z r=.tuple #[.agg #[.pointer (some ⟨d,0,none⟩),.string (St z)],.pointer (some ⟨x,0,none⟩),.int .i64 0]:=by
 unfold tkA; rw [h]; simp only [nsOf_some ht,hc]

theorem Wf.dropable {s:Tr} {r n d x:Nat} {t tx:Th} {z:List UInt8} (h:Wf s r n) (hn:n ≤ 1800000000000) (ht:s.T d=some t) (hc:t.ns.lookup z=some x) (hx:s.T x=some tx):d ≠ x∧(1 ≤ tx.l∧tx.l ≤ 1800000000000)∧tx.n < s.row.length∧x ≠ r∧z.length ≤ 200:=by
 have hm:=mem_look hc
 have hne:x ≠ r:=h.named_ne ht hm
 obtain ⟨rk,hrk⟩:=h.rk
 have h1:=hrk d t ht _ hm
 have h2:=h.lnk x tx hx hne
 have h3:=h.cnt_le x
 refine ⟨fun e=>by subst e; simp at h1,⟨by omega,by omega⟩,(List.getElem?_eq_some_iff.1 (h.num x tx hx)).1,hne,(h.liv d t ht _ hm).2⟩

def GoneP (s:Tr) (r:Nat) (ms:List (List UInt8)) (z:List UInt8) (EF:Nat→Th→Int) (s':Tr):Prop :=
 ∃ d t x tx,plc s ms r=(0,some d)∧s.T d=some t∧t.k=2∧t.ns.lookup z=some x∧s.T x=some tx∧EF x tx=0∧s'=s.gone d t z x tx

end Go.Proofs.YtknmgefpjdfenaaGreat

/- Create, Mkdir, Open, Link: all ways. -/
namespace Go.Proofs.YtknmgefpjdfenaaGreat
set_option maxRecDepth 100000
set_option maxHeartbeats 8000000
open Go.RowKit Go.Shelf Go.Maps
set_option linter.unusedVariables false

theorem free_ex (s:Tr):∀ (k i:Nat),s.row.length ≤ i + k→s.least ≤ i→(∀ j,s.least ≤ j→j < i→∃ b,s.row[j]?=some (some b))→∃ f,Free s f∧f ≤ max i s.row.length
 | 0,i,h,h1,h2=>⟨i,⟨h1,h2,.inl (List.getElem?_eq_none (by omega))⟩,by omega⟩
 | k + 1,i,h,h1,h2=>by
  cases hr:s.row[i]? with
  | none=>exact ⟨i,⟨h1,h2,.inl hr⟩,by omega⟩
  | some o =>
   cases o with
   | none=>exact ⟨i,⟨h1,h2,.inr hr⟩,by omega⟩
   | some b =>
    have hi:=(List.getElem?_eq_some_iff.1 hr).1
    obtain ⟨f,hf,hl⟩:=free_ex s k (i + 1) (by omega) (by omega) (fun j q1 q2=>by
     by_cases e:j=i
     ·subst e; exact ⟨b,hr⟩
     ·exact h2 j q1 (by omega))
    exact ⟨f,hf,by omega⟩

theorem Wf.free {s:Tr} {r n:Nat} (h:Wf s r n):∃ f,Free s f∧f ≤ s.row.length:=by
 obtain ⟨f,hf,hl⟩:=free_ex s s.row.length s.least (by omega) (Nat.le_refl _) (fun j q1 q2=>by omega)
 have:=h.lst
 exact ⟨f,hf,by omega⟩

def MadeP (s:Tr) (r:Nat) (p:List UInt8) (k:Int) (s':Tr):Prop :=
 ∃ ms z d t f b mp ra rc,spl p=some (ms ++ [z])∧plc s ms r=(0,some d)∧s.T d=some t∧t.k=2∧t.ns.lookup z=none∧Free s f∧s.T b=none∧s'=s.made f k d t z b mp ra rc

theorem TM.fresh {w:World} {S:Nat→Prop} {g b:Nat} {s:Tr} (h:TM w S g s) (hb:w.heap.size ≤ b):s.T b=none:=by
 cases ht:s.T b with
 | none=>rfl
 | some t =>
  have:=h.lt b (h.sb b t ht)
  omega

theorem refuses_two {w:World} {S:Nat→Prop} {g:Nat} {s:Tr} (h:TM w S g s) (hr:s.row ≠ []) {p q:List UInt8} (hp:p.length ≤ 9223372036854775807) (hq:q.length ≤ 9223372036854775807) :
  Calls Tryz.prog 52 #[.pointer (some ⟨g,0,none⟩),.slice (some ⟨w.heap.size,0,none⟩) 2 2] (w.alloc (.cells #[.string (St p),.string (St q)] 9)) fun e w'=>e=.returned (.int .i64 (refE [p,q]))∧Below w.heap.size w w':=by
 have hb:Below w.heap.size w (w.alloc (.cells #[.string (St p),.string (St q)] 9)):=(Below.refl _ w).alloc (Nat.le_refl _) _
 have hh:HasS (w.alloc (.cells #[.string (St p),.string (St q)] 9)) (some ⟨w.heap.size,0,none⟩) 2 [p,q]:=by
  refine ⟨rfl,fun _=>⟨w.heap.size,0,rfl,by simp,fun j hj=>?_⟩⟩
  simp only [World.cell?,World.alloc_heap_new]
  match j,hj with
  | 0,_=>rfl
  | 1,_=>rfl
 have:=refuses_any (h.below hb) hr _ 2 2 [p,q] hh (by omega) (fun j=>by
  match j with
  | 0=>simpa using hp
  | 1=>simpa using hq
  | j + 2=>simp)
 refine this.mono ?_
 rintro e w' ⟨rfl,h2⟩
 exact ⟨rfl,hb.trans (h2.mono hb.size)⟩

theorem refE_two (p q:List UInt8):(refE [p,q]=0∧∃ ps qs,spl p=some ps∧spl q=some qs) ∨ (refE [p,q]=16∧(spl p=none ∨ spl q=none)):=by
 unfold refE
 cases hp:spl p with
 | none=>right; simp [hp]
 | some ps =>
  cases hq:spl q with
  | none=>right; simp [hp,hq]
  | some qs=>left; simp [hp,hq]

theorem link1_any (w:World) (m x:Nat) (hm:w.cell? ⟨m,0,none⟩=some (.pointer (some ⟨x,0,none⟩))) :
  Calls Tryz.prog 70 #[.pointer (some ⟨m,0,none⟩)] w fun e w'=>e=.returned (.pointer (some ⟨x,0,none⟩))∧w'=w:=by
 go_enter Tryz.func70,Tryz.ntmps70
 go_wp2_with fail
 go_ret
 exact ⟨rfl,rfl⟩

def Tr.linked (s:Tr) (d:Nat) (t:Th) (z:List UInt8) (x:Nat) (tx:Th):Tr:=(s.upd x { tx with l:=tx.l + 1 }).upd d { t with ns:=putN z x t.ns }

theorem enter_ln {w:World} {S:Nat→Prop} {g r d x m:Nat} {s:Tr} {t tx:Th} (h:TM w S g s) (hk:Ok s r) {p z:List UInt8} {ms:List (List UInt8)} (hp:spl p=some (ms ++ [z])) (he:plc s ms r=(0,some d)) (ht:s.T d=some t) (h2:t.k=2) (hc:t.ns.lookup z=none)
  (hns:t.ns.length < 1000000000000000) (hx:s.T x=some tx) (hxk:tx.k=1) (hl:0 ≤ tx.l∧tx.l ≤ 1800000000000) (hm:w.cell? ⟨m,0,none⟩=some (.pointer (some ⟨x,0,none⟩))∧m < w.heap.size) :
  Calls Tryz.prog 66 #[.pointer (some ⟨g,0,none⟩),.string (St p),.func (.func 70) #[] #[.pointer (some ⟨m,0,none⟩)]] w fun e w'=>e=.returned (.int .i64 0)∧TM w' (Up S w.heap.size w'.heap.size) g (s.linked d t z x tx)∧Kp S w w':=by
 have K:=place_any h hk hp
 rw [plA_some z he] at K
 have K:=hide K
 have dne:=not_root hp
 have hz:=name_len hp
 have hdx:d ≠ x:=fun e=>by subst e; rw [ht] at hx; cases hx; omega
 have KN:Hid (∀ u,TM u S g s→Calls Tryz.prog 57 #[.agg #[.pointer (some ⟨d,0,none⟩),.string (St z)]] u fun e w'=>e=.returned (.pointer none)∧Below u.heap.size u w'):=fun u hu=>by
  have:=named_any hu ht h2 hz
  rw [hc] at this
  exact this
 have HT:=hide h
 have HT0:=hide h
 have HM:=hide hm
 have HD:=hide (And.intro ht (And.intro h2 (And.intro hz (And.intro hns (And.intro hdx (And.intro hx hl))))))
 clear h hk hp he ht h2 hc hz hns hdx hx hl hm
 generalize St p=sp at *
 generalize hsz:St z=sz at *
 go_enter Tryz.func66,Tryz.ntmps66
 go_wp2_with fail
 refine (unhide K).mono ?_
 rintro e w1 ⟨rfl,hb⟩
 have hb1:Below w.heap.size w (w1.alloc (.cells #[.pointer (some ⟨d,0,none⟩),.string sz] 92)):=hb.alloc hb.size _
 have HB:=hide hb1
 have HT:=hide (HT.out.below hb1)
 have KN:=hide (KN.out _ HT.out)
 have hC:=C2.new w1 (.pointer (some ⟨d,0,none⟩)) (.string sz)
 have HC:=hide hC
 have k0:=hC.c0
 have k1:=hC.c1
 have hm2:w.heap.size ≤ w1.heap.size:=hb.size
 clear K hb hb1 hC
 go_wp2_with fail
 generalize w1.alloc (.cells #[.pointer (some ⟨d,0,none⟩),.string sz] 92)=w2 at *
 generalize w1.heap.size=m2 at *
 refine (unhide KN).mono ?_
 rintro e w3 ⟨rfl,hb⟩
 have HB:=hide (HB.out.trans (hb.mono HB.out.size))
 have HT:=hide (HT.out.below hb)
 have HC:=hide (HC.out.below hb HC.out.lt)
 have KB:=hide (link1_any w3 m x ((HB.out.cell (p:=⟨m,0,none⟩) HM.out.2).trans HM.out.1))
 clear KN hb k0 k1
 go_wp2_with fail
 refine (unhide KB).mono ?_
 rintro e w4 ⟨rfl,rfl⟩
 obtain ⟨ht,h2,hz,hns,hdx,hx,hl⟩:=HD.out
 have h4:=HT.out
 obtain ⟨_,_,t2,_,_,tf⟩:=h4.thing_cells hx
 have ew:wrap64 (tx.l + 1)=tx.l + 1:=by unfold wrap64; omega
 have h5:=h4.setH hx (tx.l + 1)
 have hd5:(s.upd x { tx with l:=tx.l + 1 }).T d=some t:=by rw [Tr.upd_T,if_neg hdx]; exact ht
 have k5:=h5.dir_map hd5 h2
 have HC5:C2 (w4.setCell ⟨x,2,none⟩ (.int .i64 (tx.l + 1))) m2 (.pointer (some ⟨d,0,none⟩)) (.string sz):=(Below.heap_setCell _ _ _ _ (fun e=>by
  have e':m2=x:=e
  have hc4:=HC.out
  rw [e'] at hc4
  exact rowC_ne (h4.thg x _ hx) hc4)).trans HC.out
 have h5d:=h5.drew
 have hm5:=h5d.map d t hd5 h2
 obtain ⟨u',hr,hu,hg,hsz'⟩:=hm5.put hz x hns
 have h6:=h5d.setM hd5 h2 hu hg hsz'
 have hkp5:Kp S w (w4.setCell ⟨x,2,none⟩ (.int .i64 (tx.l + 1))).drew:=((Kp.of HB.out).setCell (p:=⟨x,2,none⟩) (.inl (h4.sb x tx hx)) _).drew
 have hkp6:Kp S w u':=hkp5.grown hg (.inl (h4.sm d t ht h2))
 have k0:=HC5.c0
 have k1:=HC5.c1
 rw [hsz] at hr
 have HR:Hid (TM u' (Up S w.heap.size u'.heap.size) g (s.linked d t z x tx)∧Kp S w u') :=
  ⟨h6.kept (fun _ _=>rfl) (fun _ hx=>.inl hx) (fun k hx=>hx.elim (fun q=>h6.lt k q) (fun q=>q.2)),hkp6⟩
 clear h4 h5 h5d h6 hkp5 hkp6 hu hg hsz' hm5 HC5 hd5 HC HT HB hm2 hdx hz hns ht h2 HD KB hx hl HT0 HM
 generalize t.mp=tm at *
 generalize tx.l=lx at *
 go_upto_region 10 with fail
 change Code.wp _ _ _ _ (w4.setCell ⟨x,2,none⟩ (.int .i64 (lx + 1)))
 generalize w4.setCell ⟨x,2,none⟩ (.int .i64 (lx + 1))=w5 at *
 go_region
 go_wp2_with fail
 go_ret
 exact ⟨rfl,HR.out⟩

def LinkP (s:Tr) (r:Nat) (p q:List UInt8) (s':Tr):Prop :=
 ∃ ps x tx ms z d t,spl p=some ps∧go s ps r=(0,some x)∧s.T x=some tx∧tx.k=1∧spl q=some (ms ++ [z])∧plc s ms r=(0,some d)∧s.T d=some t∧t.k=2∧t.ns.lookup z=none∧s'=s.linked d t z x tx

end Go.Proofs.YtknmgefpjdfenaaGreat

/- Open: all ways. -/
namespace Go.Proofs.YtknmgefpjdfenaaGreat
set_option maxRecDepth 100000
set_option maxHeartbeats 8000000
open Go.RowKit Go.Shelf Go.Maps
set_option linter.unusedVariables false

theorem freeh_ex (s:Tr):∀ (k i:Nat),16 ≤ i + k→i ≤ 16→(∀ j,j < i→∃ b,s.opn j=some b)→(∃ f,FreeH s f) ∨ ∀ j,j < 16→∃ b,s.opn j=some b
 | 0,i,h,h1,h2=>.inr (fun j hj=>h2 j (by omega))
 | k + 1,i,h,h1,h2=>by
  by_cases hi:i=16
  ·exact .inr (fun j hj=>h2 j (by omega))
  ·cases ho:s.opn i with
   | none=>exact .inl ⟨i,by omega,ho,h2⟩
   | some b=>exact freeh_ex s k (i + 1) (by omega) (by omega) (fun j q=>by
     by_cases e:j=i
     ·subst e; exact ⟨b,ho⟩
     ·exact h2 j (by omega))

theorem index_full {w:World} {S:Nat→Prop} {g:Nat} {s:Tr} (h:TM w S g s) (hf:∀ j,j < 16→∃ b,s.opn j=some b) :
  Calls Tryz.prog 63 #[.slice (some ⟨g,3,none⟩) 16 16,.pointer none] w fun e w'=>e=.returned (.int .i64 (-1))∧w'=w:=by
 have HC:Hid (∀ i,i < 16→w.cell? ⟨g,3 + i,none⟩=some (ptrO (s.opn i))):=fun i hi=>h.open_cell hi
 have HF:=hide hf
 clear h hf
 go_enter Tryz.func63,Tryz.ntmps63
 go_wp2_with fail
 go_loopw [8] (fun iv wr=>∃ k:Nat,k ≤ 16∧iv=.int .i64 (k:Int)∧wr=w) (fun iv _=>16 - (intOf iv).toNat)
 case atStart=>exact ⟨0,Nat.zero_le _,rfl,rfl⟩
 case round =>
  obtain ⟨k,hk,rfl,rfl⟩:=hrel
  by_cases hlt:k < 16
  ·have c:=HC.out k hlt
   have l1:(k:Int) < 16:=by omega
   have l0:(0:Int) ≤ (k:Int):=by omega
   obtain ⟨b,hb⟩:=HF.out k hlt
   rw [hb] at c
   simp only [ptrO,Option.map_some] at c
   have hn:∀ w:World,(binOp .eql 63 (.pointer none) (.pointer (some ⟨b,0,none⟩))).run Tryz.prog w=.ok (.bool false) w:=fun w=>by kernel_rfl
   clear HC HF hb
   go_wp2_with fail
   go_roundw
   case rel=>exact ⟨k + 1,by omega,by go_num,trivial⟩
   case measure=>simp [intOf]; omega
  ·obtain rfl:k=16:=by omega
   clear HC HF
   go_wp2_with fail
   go_ret
   exact ⟨rfl,rfl⟩

end Go.Proofs.YtknmgefpjdfenaaGreat

/- each with the visitor of fits, fits; yields. -/
namespace Go.Proofs.YtknmgefpjdfenaaGreat
set_option maxRecDepth 100000
set_option maxHeartbeats 8000000
open Go.RowKit Go.Shelf Go.Maps
set_option linter.unusedVariables false

theorem fits1_any (p:List UInt8) (x:Value) (w:World) (hp:p.length ≤ 9223372036854775807) :
  Calls Tryz.prog 96 #[.string (St p),x] w fun e w'=>e=.returned (.bool (spl p).isSome)∧Below w.heap.size w w':=by
 cases hs:spl p with
 | none =>
  have K:=hide (split_no w hp hs)
  clear hs hp
  generalize St p=sp at *
  go_enter Tryz.func96,Tryz.ntmps96
  go_wp2_with fail
  refine (unhide K).mono ?_
  rintro e w1 ⟨⟨y,cy,rfl⟩,hb⟩
  have HB:=hide hb
  clear K hb
  go_wp2_with fail
  go_ret
  exact ⟨rfl,HB.out⟩
 | some ns =>
  have K:=hide (split_yes w hs)
  clear hs hp
  generalize St p=sp at *
  generalize ns.length=m at *
  go_enter Tryz.func96,Tryz.ntmps96
  go_wp2_with fail
  refine (unhide K).mono ?_
  rintro e w1 ⟨y,cy,rfl,_,hb⟩
  have HB:=hide hb
  clear K hb
  go_wp2_with fail
  go_ret
  exact ⟨rfl,HB.out⟩

def fitsB (s:Tr) (n:Nat) (p:List UInt8) (b:Nat):Bool:=(dumpL s n p b).all (fun e=>(spl e.1).isSome)

theorem fitsB_some {s:Tr} {b:Nat} {t:Th} (h:s.T b=some t) (n:Nat) (p:List UInt8):fitsB s (n + 1) p b=((spl p).isSome && t.ns.all (fun e=>fitsB s n (subP p e.1) e.2)):=by
 unfold fitsB
 rw [dumpL_some h,List.all_cons,List.all_flatMap]

theorem each_fits {S : Nat → Prop} {g : Nat} {s : Tr} {rk : Nat → Nat} (hdp : Deep s rk) (n : Nat) : ∀ (b : Nat) (p : List UInt8) (u : World) (t : Th), s.T b = some t → rk b < n → TM u S g s → p.length + 300 * n ≤ 1000000000000000 →
    Calls Tryz.prog 47 #[.pointer (some ⟨b, 0, none⟩), .string (St p), .func (.func 96) #[] #[]] u fun e w' => e = .returned (.bool (fitsB s n p b)) ∧ Below u.heap.size u w' := by
  induction n with
  | zero => intro b p u t _ h; omega
  | succ n IH =>
    intro b p u t ht hrk h hpl
    have hsm := hdp.small b t ht
    have hfb := fitsB_some ht n p
    have KV := hide (fits1_any p (.pointer (some ⟨b, 0, none⟩)) u (by omega))
    have KR : Hid (∀ w, Below u.heap.size u w → Calls Tryz.prog 61 #[.pointer (some ⟨b, 0, none⟩)] w fun e w' => ∃ a c, e = .returned (.slice a t.ns.length c) ∧ OwnS w.heap.size w' a t.ns.length c (t.ns.map (·.1)) ∧ Below w.heap.size w w') := fun w hw => by
      by_cases h2 : t.k = 2
      · exact rising_dir (h.below hw) ht h2 hsm.2.1
      · have h0 : t.ns = [] := hsm.2.2.resolve_left h2
        rw [h0]
        exact rising_file (h.below hw) ht h2
    have HT := hide (And.intro h (And.intro ht (And.intro hrk (And.intro hpl (And.intro hfb hdp)))))
    have IH := hide IH
    have hnn := hsm.2.1
    clear h ht hrk hpl hsm hdp hfb
    cases hv : (spl p).isSome with
    | false =>
      rw [hv] at KV
      have HF : Hid (fitsB s (n + 1) p b = false) := by
        have := HT.out.2.2.2.2.1
        rw [hv, Bool.false_and] at this
        exact this
      clear HT IH KR
      generalize hsp : St p = sp at *
      go_enter Tryz.func47, Tryz.ntmps47
      go_wp2_with fail
      refine (unhide KV).mono ?_
      rintro e w1 ⟨rfl, hb⟩
      have HB := hide hb
      clear KV hb
      go_wp2_with fail
      go_ret
      exact ⟨by rw [HF.out]; rfl, HB.out⟩
    | true =>
      rw [hv] at KV
      generalize hsp : St p = sp at *
      go_enter Tryz.func47, Tryz.ntmps47
      go_wp2_with fail
      refine (unhide KV).mono ?_
      rintro e w1 ⟨rfl, hb1⟩
      have HB1 := hide hb1
      have KR := hide (KR.out w1 hb1)
      clear KV hb1
      go_wp2_with fail
      refine (unhide KR).mono ?_
      rintro e w2 ⟨an, cn, rfl, ho, hb⟩
      have HI : Hid ((t.ns.take 0).all (fun e => fitsB s n (subP p e.1) e.2) = true ∧ Below u.heap.size u w2 ∧ OwnS w1.heap.size w2 an t.ns.length cn (t.ns.map (·.1))) := ⟨rfl, HB1.out.trans (hb.mono HB1.out.size), ho⟩
      clear KR ho hb
      generalize hnl : t.ns.length = nl at *
      go_wp2_with fail
      go_loopw [17] (fun iv wr => ∃ k : Nat, k ≤ nl ∧ iv = .int .i64 (k : Int) ∧ Hid ((t.ns.take k).all (fun e => fitsB s n (subP p e.1) e.2) = true ∧ Below u.heap.size u wr ∧ OwnS w1.heap.size wr an nl cn (t.ns.map (·.1)))) (fun iv _ => (nl : Int).toNat - (intOf iv).toNat)
      case atStart => exact ⟨0, Nat.zero_le _, rfl, HI⟩
      case round =>
        obtain ⟨k, hk, rfl, hJ⟩ := hrel
        clear HI
        by_cases hlt : k < nl
        · have HQ : Hid (∃ (an0 : Nat) (off : Nat) (mp c : Nat) (x : List UInt8) (q : Bool), an = some ⟨an0, off, none⟩ ∧ wr.cell? ⟨an0, off + k, none⟩ = some (.string (St x)) ∧
              (∀ w, Below u.heap.size u w → Hid (Below u.heap.size u w) ∧ w.cell? ⟨b, 4, none⟩ = some (.map (some mp)) ∧ (Instr.lookup 67 (.map (some mp)) (.string (St x)) false).run Tryz.prog w = .ok (.pointer (some ⟨c, 0, none⟩)) w) ∧
              (Calls Tryz.prog 47 #[.pointer (some ⟨c, 0, none⟩), .string (St (subP p x)), .func (.func 96) #[] #[]] wr.drew fun e w' => e = .returned (.bool q) ∧ Below wr.heap.size wr w') ∧
              x.length ≤ 200 ∧ p.length ≤ 1000000000000000 ∧ Below u.heap.size u wr ∧
              (q = false → fitsB s (n + 1) p b = false) ∧
              (q = true → ∀ w', Below wr.heap.size wr w' → ((t.ns.take (k + 1)).all (fun e => fitsB s n (subP p e.1) e.2) = true ∧ Below u.heap.size u w' ∧ OwnS w1.heap.size w' an nl cn (t.ns.map (·.1))))) := by
            obtain ⟨h, ht, hrk, hpl, hfb, hdp⟩ := HT.out
            obtain ⟨q1, q2, q3⟩ := hJ.out
            have hkn : k < t.ns.length := by omega
            have hmem : t.ns[k] ∈ t.ns := List.getElem_mem hkn
            obtain ⟨⟨t', ht'⟩, hx, hrc⟩ := hdp.live b t ht _ hmem
            have h2 : t.k = 2 := (hdp.small b t ht).2.2.resolve_right (fun e => by rw [e] at hkn; simp at hkn)
            obtain ⟨an0, off, ean, hcl⟩ := q3.has.cell hlt
            have hname : (t.ns.map (·.1))[k]?.getD [] = t.ns[k].1 := by rw [List.getElem?_map, List.getElem?_eq_getElem hkn]; rfl
            rw [hname] at hcl
            have hsl : (subP p t.ns[k].1).length ≤ p.length + 201 := by
              unfold subP
              have := trims_len p
              simp; omega
            refine ⟨an0, off, t.mp, t.ns[k].2, t.ns[k].1, fitsB s n (subP p t.ns[k].1) t.ns[k].2, ean, hcl, fun w hw => ?_, ?_, hx, by omega, q2, fun hq => ?_, fun hq w' hb => ?_⟩
            · have hM := h.below hw
              refine ⟨hw, hM.dir_map ht h2, ?_⟩
              have := (hM.map b t ht h2).look hx
              rw [look_mem (hM.map b t ht h2).2 hmem] at this
              exact this
            · refine (IH.out t.ns[k].2 (subP p t.ns[k].1) wr.drew t' ht' (by omega) (h.below (bd1 q2)) (by omega)).mono ?_
              rintro e w' ⟨rfl, hb⟩
              exact ⟨rfl, hb.os, hb.tape, hb.output, hb.size, hb.block⟩
            · rw [hfb, hv, Bool.true_and]
              rw [Bool.eq_false_iff]
              intro hall
              have := List.all_eq_true.1 hall _ hmem
              rw [hq] at this
              cases this
            · refine ⟨?_, q2.trans (hb.mono q2.size), q3.kept (fun g e => hb.block g (q3.lt e).1)⟩
              rw [List.take_add_one, List.getElem?_eq_getElem hkn, List.all_append, q1]
              simp [hq]
          obtain ⟨an0, off, mp, c, x, q, rfl, hcl, hKB, hKE, hx, hpl, hbu, hno, hfin⟩ := HQ.out
          have KB := hide hKB
          have KE := hide hKE
          have KT : Hid (∀ w, Calls Tryz.prog 92 #[.string sp, .string ⟨#[47]⟩] w fun e w' => e = .returned (.string (St (Lib.trimSuffix p [47]))) ∧ w' = w) := fun w => by rw [← hsp]; exact trims_any p w (by omega)
          have ha1 := St_app47 (Lib.trimSuffix p [47])
          have hz1 : ¬ 9223372036854775807 < (St (Lib.trimSuffix p [47])).size + 1 := by rw [St_size]; have := trims_len p; omega
          have ha2 : St (Lib.trimSuffix p [47] ++ [47]) ++ St x = St (subP p x) := St_app _ _
          have hz2 : ¬ 9223372036854775807 < (St (Lib.trimSuffix p [47] ++ [47])).size + (St x).size := by rw [St_size, St_size]; have := trims_len p; simp; omega
          have J := hKB wr.drew (bd1 hbu)
          have HF := hide (And.intro hno hfin)
          have hW : Hid (u.heap.size ≤ wr.heap.size ∧ Below u.heap.size u wr) := ⟨hbu.size, hbu⟩
          have hlt' : (k : Int) < (nl : Int) := by omega
          clear hKB hKE hfin hno hbu HQ hJ HT IH HB1
          generalize subP p x = pq at *
          generalize St (Lib.trimSuffix p [47]) = st at *
          generalize St (Lib.trimSuffix p [47] ++ [47]) = s1 at *
          generalize St pq = sq at *
          generalize St x = sx at *
          go_upto_region 6 with fail
          go_region_held3 (fun w => Hid (Below u.heap.size u w) ∧ w.cell? ⟨b, 4, none⟩ = some (.map (some mp)) ∧ (Instr.lookup 67 (.map (some mp)) (.string sx) false).run Tryz.prog w = .ok (.pointer (some ⟨c, 0, none⟩)) w)
            (with_reducible (first | exact J | exact unhide KB _ (unhide B1)))
            (first
              | (go_at_call 92; refine (unhide KT _).mono ?_; rintro e w' ⟨rfl, rfl⟩)
              | (go_at_call 47; refine (unhide KE).mono ?_; rintro e w3 ⟨rfl, hE⟩
                 have HG := hide hE
                 have B1 := hide ((unhide hW).2.trans (hE.mono (unhide hW).1))
                 clear hE))
          all_goals
            clear J KB KE KT B1
            cases q with
            | false =>
              have HN := hide (HF.out.1 rfl)
              clear HF
              go_wp2_with fail
              go_ret
              exact ⟨by rw [HN.out]; rfl, (unhide hW).2.trans (HG.out.mono (unhide hW).1)⟩
            | true =>
              have HN := hide (HF.out.2 rfl _ HG.out)
              clear HF
              go_wp2_with fail
              go_roundw
              case rel => exact ⟨k + 1, by omega, by go_num, HN⟩
              case measure => simp [intOf]; omega
        · obtain rfl : k = nl := by omega
          have HR : Hid (fitsB s (n + 1) p b = true ∧ Below u.heap.size u wr) := by
            obtain ⟨q1, q2, q3⟩ := hJ.out
            rw [List.take_of_length_le (by omega)] at q1
            exact ⟨by rw [HT.out.2.2.2.2.1, hv, q1]; rfl, q2⟩
          clear hJ HT IH HB1
          go_wp2_with fail
          go_ret
          exact ⟨by rw [HR.out.1]; rfl, HR.out.2⟩

theorem fits_any {w:World} {S:Nat→Prop} {g b n:Nat} {s:Tr} {rk:Nat→Nat} {t:Th} (h:TM w S g s) (hdp:Deep s rk) (ht:s.T b=some t) (hn:rk b < n) (hnn:n ≤ 1800000000000) (p:List UInt8) (hp:p.length ≤ 1000) :
  Calls Tryz.prog 58 #[.pointer (some ⟨b,0,none⟩),.string (St p)] w fun e w'=>e=.returned (.bool (fitsB s n p b))∧Below w.heap.size w w':=by
 have K:=hide (each_fits hdp n b p w t ht hn h (by omega))
 clear h hdp ht hn hnn hp
 generalize fitsB s n p b=q at *
 generalize St p=sp at *
 go_enter Tryz.func58,Tryz.ntmps58
 go_wp2_with fail
 refine (unhide K).mono ?_
 rintro e w1 ⟨rfl,hb⟩
 have HB:=hide hb
 clear K hb
 go_wp2_with fail
 go_ret
 exact ⟨rfl,HB.out⟩

def yE (s:Tr) (y:Nat) (t:Th) (k:Int):Int :=
 if t.k=1∧k=2 then 13 else if t.k=2∧k=1 then 14 else if 0 < t.ns.length then 15 else if s.keeps y t=true then 17 else 0

theorem ns_lenv {w:World} {S:Nat→Prop} {g x:Nat} {s:Tr} {t:Th} (h:TM w S g s) (hx:s.T x=some t) (hs:Small t) (ty:TypeId) :
  (Builtin.len_ #[67] ty #[if t.k=2 then .map (some t.mp) else .map none]).run Tryz.prog w=.ok (.int .i64 (t.ns.length:Int)) w:=by
 by_cases h2:t.k=2
 ·rw [if_pos h2]
  exact (h.map x t hx h2).len ty
 ·rw [if_neg h2]
  have:t.ns=[]:=hs.2.2.resolve_left h2
  rw [this]
  exact Maps.len_nil undM ty

theorem yields_any {w : World} {S : Nat → Prop} {g y : Nat} {s : Tr} {t : Th} {k : Int} (h : TM w S g s) (hy : s.T y = some t) (hs : Small t) (ho : ∀ f b, s.opn f = some b → ∃ t, s.T b = some t) (hk : t.k = 1 ∨ t.k = 2) (hk2 : k = 1 ∨ k = 2) :
    Calls Tryz.prog 59 #[.pointer (some ⟨g, 0, none⟩), .pointer (some ⟨y, 0, none⟩), .int .i64 k] w fun e w' => e = .returned (.int .i64 (yE s y t k)) ∧ w' = w := by
  have K := hide (holds_any h hy ho)
  obtain ⟨c0, _, _, _, c4, _⟩ := h.thing_cells hy
  have hl := ns_lenv h hy hs 3
  have HV : Hid (yE s y t k = if t.k = 1 ∧ k = 2 then 13 else if t.k = 2 ∧ k = 1 then 14 else if 0 < t.ns.length then 15 else if s.keeps y t = true then 17 else 0) := rfl
  have hmx := hs.2.1
  clear h hy hs ho
  generalize (if t.k = 2 then Value.map (some t.mp) else Value.map none) = mv at *
  generalize t.ns.length = nl at *
  generalize t.k = tk at *
  generalize s.keeps y t = kp at *
  by_cases hn : 0 < nl
  · have e1 : (if 0 < nl then (15 : Int) else if kp = true then 17 else 0) = 15 := if_pos hn
    rw [e1] at HV
    clear e1
    have d3 : decide ((nl : Int) > 0) = true := by simp; omega
    rcases hk with rfl | rfl <;> rcases hk2 with rfl | rfl
    all_goals
      clear K
      go_enter Tryz.func59, Tryz.ntmps59
      go_wp2_with fail
      go_ret
      exact ⟨by rw [HV.out]; rfl, rfl⟩
  · obtain rfl : nl = 0 := by omega
    cases kp
    all_goals
      rcases hk with rfl | rfl <;> rcases hk2 with rfl | rfl
      all_goals
        go_enter Tryz.func59, Tryz.ntmps59
        go_wp2_with fail
        first
          | (go_ret; exact ⟨by rw [HV.out]; rfl, rfl⟩)
          | (refine (unhide K).mono ?_
             rintro e w1 ⟨rfl, rfl⟩
             clear K
             go_wp2_with fail
             go_ret
             exact ⟨by rw [HV.out]; rfl, rfl⟩)

end Go.Proofs.YtknmgefpjdfenaaGreat

