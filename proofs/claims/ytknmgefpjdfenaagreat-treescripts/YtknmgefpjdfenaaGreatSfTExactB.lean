/- Truncate, Write, Read and List: with which error. -/
import Derived.Test.YtknmgefpjdfenaaGreatSfJ34
import Derived.Test.YtknmgefpjdfenaaGreatSfTList
import Derived.Test.YtknmgefpjdfenaaGreatSfJ36
namespace Go.Proofs.YtknmgefpjdfenaaGreat
set_option maxRecDepth 100000
set_option maxHeartbeats 8000000
open Go.RowKit Go.Shelf Go.Maps
set_option linter.unusedVariables false

theorem resize_ex {w:World} {S:Nat→Prop} {g b:Nat} {s:Tr} {t:Th} (h:TM w S g s) (ht:s.T b=some t) (k:Nat) (hk:k ≤ 1800000000000) (hd:t.d.length ≤ 1800000000000) :
  Calls Tryz.prog 90 #[.pointer (some ⟨b,0,none⟩),.int .i64 (k:Int)] w fun e w'=>∃ a c,e=.returned (.tuple #[])∧TM w' (Up S w.heap.size w'.heap.size) g (s.upd b { t with d:=trD t.d k,da:=a,dc:=c })∧Kp S w w':=by
 by_cases hlt:k < t.d.length
 ·have e:trD t.d k=t.d.take k:=by
   unfold trD
   rw [show k - t.d.length=0 by omega,List.replicate_zero,List.append_nil]
  rw [e]
  exact resize_cut h ht k hlt hd
 ·obtain ⟨j,rfl⟩:∃ j,k=t.d.length + j:=⟨k - t.d.length,by omega⟩
  have e:trD t.d (t.d.length + j)=t.d ++ List.replicate j 0:=by
   unfold trD
   rw [show t.d.length + j - t.d.length=j by omega,List.take_of_length_le (by simp)]
  rw [e]
  exact resize_grow h ht j hk

def trT (s:Tr) (f z:Int):Int:=if s.hnd f=none then 18 else if z < 0 then 1 else if z > s.most then 5 else 0

def wrT (s:Tr) (f at0:Int) (m:Nat):Int:=if s.hnd f=none then 18 else if at0 < 0 then 1 else if m > 4096 ∨ at0 > s.most - m then 5 else 0

def rdT (s:Tr) (f at0 n:Int):Int:=if s.hnd f=none then 18 else if at0 < 0 ∨ n < 0 then 1 else if n > 4096 then 5 else 0

def wrDD (at0:Int) (m:Nat) (ys:List Int) (t:Th):List Int:=if m=0 then t.d else wrD t.d at0.toNat ys

def DataE (w:World) (S:Nat→Prop) (g:Nat) (s:Tr) (N:Int) (f:Int) (D:Th→List Int) (e:Ending) (w':World):Prop :=
 ∃ s',e=.returned (.int .i64 N)∧TM w' (Up S w.heap.size w'.heap.size) g s'∧Kp S w w'∧((N ≠ 0∧s'=s) ∨ (N=0∧((s'=s∧∀ b t,s.hnd f=some b→s.T b=some t→D t=t.d) ∨ ∃ b t a c,s.hnd f=some b∧s.T b=some t∧s'=s.upd b { t with d:=D t,da:=a,dc:=c })))

theorem truncE_any {w:World} {S:Nat→Prop} {g r n:Nat} {s:Tr} (h:TM w S g s) (hw:Wf s r n) (f z:Int) :
  Calls Tryz.prog 43 #[.pointer (some ⟨g,0,none⟩),.int .i64 f,.int .i64 z] w fun e w'=>DataE w S g s (trT s f z) f (fun t=>trD t.d z.toNat) e w':=by
 have HB:Hid (TM w (Up S w.heap.size w.heap.size) g s∧Kp S w w):=⟨h.up (Nat.le_refl _) (Below.refl _ _),Kp.of (Below.refl _ _)⟩
 cases hf:s.hnd f with
 | none =>
  have K:=hide (file_bad h hw.ok.row_ne f hf)
  have HE:Hid (trT s f z=18):=by unfold Hid trT; rw [if_pos hf]
  clear h hw hf
  go_enter Tryz.func43,Tryz.ntmps43
  go_wp2_with fail
  refine (unhide K).mono ?_
  rintro e w1 ⟨rfl,rfl⟩
  clear K
  go_wp2_with fail
  go_ret
  exact ⟨s,by rw [HE.out]; rfl,HB.out.1,HB.out.2,.inl ⟨by rw [HE.out]; decide,rfl⟩⟩
 | some b =>
  have hfn:s.hnd f ≠ none:=by rw [hf]; exact fun e=>by cases e
  have HFN:=hide hf
  obtain ⟨k,rfl,hk,ho⟩:=hnd_nat hf
  obtain ⟨t,ht,h1⟩:=hw.opn k b ho
  have K:=hide (file_ok h hk ho hw.ok.row_ne)
  obtain ⟨c0,_,_,_⟩:=h.tree_cells
  by_cases z0:z < 0
  ·have d0:decide (z < 0)=true:=by simpa using z0
   have HE:Hid (trT s (k:Int) z=1):=by unfold Hid trT; rw [if_neg hfn,if_pos z0]
   clear h hw hf c0 hfn
   go_enter Tryz.func43,Tryz.ntmps43
   go_wp2_with fail
   refine (unhide K).mono ?_
   rintro e w1 ⟨rfl,rfl⟩
   clear K
   go_wp2_with fail
   go_ret
   exact ⟨s,by rw [HE.out]; rfl,HB.out.1,HB.out.2,.inl ⟨by rw [HE.out]; decide,rfl⟩⟩
  ·have d0:decide (z < 0)=false:=by simpa using z0
   by_cases z1:s.most < z
   ·have d1:decide (z > s.most)=true:=by simpa using z1
    have HE:Hid (trT s (k:Int) z=5):=by unfold Hid trT; rw [if_neg hfn,if_neg z0,if_pos (by omega)]
    clear h hw hf hfn
    go_enter Tryz.func43,Tryz.ntmps43
    go_wp2_with fail
    refine (unhide K).mono ?_
    rintro e w1 ⟨rfl,rfl⟩
    clear K
    generalize hmo:s.most=mo at *
    go_wp2_with fail
    go_ret
    exact ⟨s,by rw [HE.out]; rfl,HB.out.1,HB.out.2,.inl ⟨by rw [HE.out]; decide,rfl⟩⟩
   ·have d1:decide (z > s.most)=false:=by simp; omega
    obtain ⟨m,rfl⟩:∃ m:Nat,z=(m:Int):=⟨z.toNat,by omega⟩
    have hm:=hw.mst
    have hsz:=hw.siz b t ht
    have KR:=hide (resize_ex h ht m (by omega) (by omega))
    have HX:Hid (s.T b=some t):=ht
    have HE:Hid (trT s (k:Int) (m:Int)=0):=by unfold Hid trT; rw [if_neg hfn,if_neg z0,if_neg (by omega)]
    clear h hw hf ht h1 hm hsz z0 z1 hfn
    go_enter Tryz.func43,Tryz.ntmps43
    go_wp2_with fail
    refine (unhide K).mono ?_
    rintro e w1 ⟨rfl,rfl⟩
    clear K
    generalize hmo:s.most=mo at *
    clear hmo
    go_wp2_with fail
    refine (unhide KR).mono ?_
    rintro e w2 ⟨a,c,rfl,h2,hkp⟩
    have HR:=hide (And.intro h2 hkp)
    clear KR h2 hkp c0
    go_wp2_with fail
    go_ret
    obtain ⟨h2,hkp⟩:=HR.out
    exact ⟨_,by rw [HE.out]; rfl,h2,hkp,.inr ⟨HE.out,.inr ⟨b,t,a,c,HFN.out,HX.out,rfl⟩⟩⟩

theorem writeE_any {w:World} {S:Nat→Prop} {g r n:Nat} {s:Tr} (h:TM w S g s) (hw:Wf s r n) (f at0:Int) (a:Option Addr) (m c:Nat) (ys:List Int) (hy:Has w a m ys) (hml:m ≤ 140737488351232) (ha:0 < m→∀ x,a=some x→¬ S x.block∧x.block < w.heap.size) :
  Calls Tryz.prog 41 #[.pointer (some ⟨g,0,none⟩),.int .i64 f,.int .i64 at0,.slice a m c] w fun e w'=>DataE w S g s (wrT s f at0 m) f (wrDD at0 m ys) e w':=by
 have HB:Hid (TM w (Up S w.heap.size w.heap.size) g s∧Kp S w w):=⟨h.up (Nat.le_refl _) (Below.refl _ _),Kp.of (Below.refl _ _)⟩
 cases hf:s.hnd f with
 | none =>
  have K:=hide (file_bad h hw.ok.row_ne f hf)
  have HE:Hid (wrT s f at0 m=18):=by unfold Hid wrT; rw [if_pos hf]
  clear h hw hf hy ha
  go_enter Tryz.func41,Tryz.ntmps41
  go_wp2_with fail
  refine (unhide K).mono ?_
  rintro e w1 ⟨rfl,rfl⟩
  clear K
  go_wp2_with fail
  go_ret
  exact ⟨s,by rw [HE.out]; rfl,HB.out.1,HB.out.2,.inl ⟨by rw [HE.out]; decide,rfl⟩⟩
 | some b =>
  have hfn:s.hnd f ≠ none:=by rw [hf]; exact fun e=>by cases e
  have HFN:=hide hf
  obtain ⟨k,rfl,hk,ho⟩:=hnd_nat hf
  obtain ⟨t,ht,h1⟩:=hw.opn k b ho
  have K:=hide (file_ok h hk ho hw.ok.row_ne)
  obtain ⟨c0,_,_,_⟩:=h.tree_cells
  have hm:=hw.mst
  have hsz:=hw.siz b t ht
  by_cases z0:at0 < 0
  ·have d0:decide (at0 < 0)=true:=by simpa using z0
   have HE:Hid (wrT s (k:Int) at0 m=1):=by unfold Hid wrT; rw [if_neg hfn,if_pos z0]
   clear h hw hf hy ha hm hsz c0 hfn
   go_enter Tryz.func41,Tryz.ntmps41
   go_wp2_with fail
   refine (unhide K).mono ?_
   rintro e w1 ⟨rfl,rfl⟩
   clear K
   go_wp2_with fail
   go_ret
   exact ⟨s,by rw [HE.out]; rfl,HB.out.1,HB.out.2,.inl ⟨by rw [HE.out]; decide,rfl⟩⟩
  ·have d0:decide (at0 < 0)=false:=by simpa using z0
   by_cases z1:4096 < m
   ·have d1:decide ((m:Int) > 4096)=true:=by simp; omega
    have HE:Hid (wrT s (k:Int) at0 m=5):=by unfold Hid wrT; rw [if_neg hfn,if_neg z0,if_pos (.inl z1)]
    clear h hw hf hy ha hm hsz c0 hfn
    go_enter Tryz.func41,Tryz.ntmps41
    go_wp2_with fail
    refine (unhide K).mono ?_
    rintro e w1 ⟨rfl,rfl⟩
    clear K
    go_wp2_with fail
    go_ret
    exact ⟨s,by rw [HE.out]; rfl,HB.out.1,HB.out.2,.inl ⟨by rw [HE.out]; decide,rfl⟩⟩
   ·have d1:decide ((m:Int) > 4096)=false:=by simp; omega
    obtain ⟨p,rfl⟩:∃ p:Nat,at0=(p:Int):=⟨at0.toNat,by omega⟩
    by_cases z2:s.most - (m:Int) < (p:Int)
    ·have d2:decide ((p:Int) > s.most - (m:Int))=true:=by simpa using z2
     have HE:Hid (wrT s (k:Int) (p:Int) m=5):=by unfold Hid wrT; rw [if_neg hfn,if_neg z0,if_pos (.inr z2)]
     clear h hw hf hy ha hsz z2 hfn
     generalize hmo:s.most=mo at *
     go_enter Tryz.func41,Tryz.ntmps41
     go_wp2_with fail
     refine (unhide K).mono ?_
     rintro e w1 ⟨rfl,rfl⟩
     clear K
     go_wp2_with fail
     go_ret
     exact ⟨s,by rw [HE.out]; rfl,HB.out.1,HB.out.2,.inl ⟨by rw [HE.out]; decide,rfl⟩⟩
    ·by_cases z3:m=0
     ·subst z3
      have d2:decide ((p:Int) > s.most - ((0:Nat):Int))=false:=by simp; omega
      have d2':decide ((p:Int) > s.most)=false:=by simp; omega
      have HE:Hid (wrT s (k:Int) (p:Int) 0=0):=by unfold Hid wrT; rw [if_neg hfn,if_neg z0,if_neg (by omega)]
      clear h hw hf hy ha hsz hfn
      generalize hmo:s.most=mo at *
      go_enter Tryz.func41,Tryz.ntmps41
      go_wp2_with fail
      refine (unhide K).mono ?_
      rintro e w1 ⟨rfl,rfl⟩
      clear K
      go_wp2_with fail
      go_ret
      exact ⟨s,by rw [HE.out]; rfl,HB.out.1,HB.out.2,.inr ⟨HE.out,.inl ⟨rfl,fun _ t _ _=>if_pos rfl⟩⟩⟩
     ·refine (write_ok h hk ho hw.ok.row_ne ht p a m c ys hy (by omega) (by omega) (by omega) hm.2 (by omega) (ha (by omega))).mono ?_
      rintro e w' ⟨a',c',rfl,h2,hkp⟩
      have HE:wrT s (k:Int) (p:Int) m=0:=by unfold wrT; rw [if_neg hfn,if_neg z0,if_neg (by omega)]
      refine ⟨_,by rw [HE],h2,hkp,.inr ⟨HE,.inr ⟨b,t,a',c',HFN.out,ht,?_⟩⟩⟩
      unfold wrDD
      simp only [if_neg z3,Int.toNat_natCast]

theorem tread_no {w:World} {S:Nat→Prop} {g r n:Nat} {s:Tr} (h:TM w S g s) (hw:Wf s r n) (f at0 m:Int) (hE:rdT s f at0 m ≠ 0) :
  Calls Tryz.prog 19 #[.pointer (some ⟨g,0,none⟩),.int .i64 f,.int .i64 at0,.int .i64 m] w fun e w'=>e=.returned (.tuple #[.slice none 0 0,.int .i64 (rdT s f at0 m)])∧w'=w:=by
 unfold rdT at hE ⊢
 cases hf:s.hnd f with
 | none =>
  have K:=hide (file_bad h hw.ok.row_ne f hf)
  rw [if_pos rfl]
  clear h hw hf hE
  go_enter Tryz.func19,Tryz.ntmps19
  go_wp2_with fail
  refine (unhide K).mono ?_
  rintro e w1 ⟨rfl,rfl⟩
  clear K
  go_wp2_with fail
  go_ret2
  exact ⟨rfl,rfl⟩
 | some b =>
  obtain ⟨k,rfl,hk,ho⟩:=hnd_nat hf
  have K:=hide (file_ok h hk ho hw.ok.row_ne)
  rw [if_neg (by rw [hf]; exact fun e=>by cases e)] at hE
  rw [if_neg (fun e=>by cases e)]
  by_cases z0:at0 < 0
  ·have d0:decide (at0 < 0)=true:=by simpa using z0
   rw [if_pos (.inl z0)]
   clear h hw hf hE
   go_enter Tryz.func19,Tryz.ntmps19
   go_wp2_with fail
   refine (unhide K).mono ?_
   rintro e w1 ⟨rfl,rfl⟩
   clear K
   go_wp2_with fail
   go_ret2
   exact ⟨rfl,rfl⟩
  ·have d0:decide (at0 < 0)=false:=by simpa using z0
   by_cases z1:m < 0
   ·have d1:decide (m < 0)=true:=by simpa using z1
    rw [if_pos (.inr z1)]
    clear h hw hf hE
    go_enter Tryz.func19,Tryz.ntmps19
    go_wp2_with fail
    refine (unhide K).mono ?_
    rintro e w1 ⟨rfl,rfl⟩
    clear K
    go_wp2_with fail
    go_ret2
    exact ⟨rfl,rfl⟩
   ·have d1:decide (m < 0)=false:=by simpa using z1
    rw [if_neg (by omega)] at hE ⊢
    have z2:m > 4096:=Classical.byContradiction (fun q=>hE (if_neg q))
    rw [if_pos z2]
    have d2:decide (m > 4096)=true:=by simpa using z2
    clear h hw hf hE
    go_enter Tryz.func19,Tryz.ntmps19
    go_wp2_with fail
    refine (unhide K).mono ?_
    rintro e w1 ⟨rfl,rfl⟩
    clear K
    go_wp2_with fail
    go_ret2
    exact ⟨rfl,rfl⟩

def LstN (s:Tr) (r:Nat) (p:List UInt8) (E:Int):Prop :=
 (spl p=none∧E=16) ∨ ∃ ps,spl p=some ps∧(((go s ps r).2=none∧(go s ps r).1=E∧E ≠ 0) ∨ ∃ x tx,go s ps r=(0,some x)∧s.T x=some tx∧tx.k=1∧E=13)

theorem tlist_no {w:World} {S:Nat→Prop} {g r n:Nat} {s:Tr} (h:TM w S g s) (hw:Wf s r n) {p:List UInt8} (hpl:p.length ≤ 9223372036854775807) {E:Int} (he:LstN s r p E) :
  Calls Tryz.prog 17 #[.pointer (some ⟨g,0,none⟩),.string (St p)] w fun e w'=>e=.returned (.tuple #[.slice none 0 0,.int .i64 E])∧Below w.heap.size w w':=by
 have K:=refuses_one (p:=p) h hw.ok.row_ne hpl (Below.refl _ _)
 have HT:=hide h
 rcases he with ⟨hs,rfl⟩ | ⟨ps,hs,he⟩
 ·rw [splE_none hs] at K
  have K:=hide K
  clear h hw hs
  generalize St p=sp at *
  go_enter Tryz.func17,Tryz.ntmps17
  go_wp2_with fail
  refine (unhide K).mono ?_
  rintro e w1 ⟨rfl,hb⟩
  have HB:=hide hb
  clear K hb
  go_wp2_with fail
  go_ret2
  exact ⟨rfl,HB.out⟩
 ·rw [splE_of hs] at K
  have K:=hide K
  have KF0:∀ u,TM u S g s→Calls Tryz.prog 53 #[.pointer (some ⟨g,0,none⟩),.string (St p)] u fun e w'=>e=.returned (.tuple #[ptrO (go s ps r).2,.int .i64 (go s ps r).1])∧Below u.heap.size u w':=fun u hu=>find_any hu hw.ok hs
  rcases he with ⟨g2,hE,hne⟩ | ⟨x,tx,hg,hx,hk,rfl⟩
  ·rw [g2,hE] at KF0
   have KF:=hide KF0
   have d1:(E != 0)=true:=by simpa using hne
   clear h hw hs KF0 g2 hE hne
   generalize St p=sp at *
   go_enter Tryz.func17,Tryz.ntmps17
   go_wp2_with fail
   refine (unhide K).mono ?_
   rintro e w1 ⟨rfl,hb⟩
   have HB:=hide hb
   have KF:=hide (KF.out w1 (HT.out.below hb))
   clear K hb
   change Hid (Calls _ _ _ _ (fun e w'=>e=.returned (.tuple #[.pointer none,.int .i64 E])∧_)) at KF
   go_wp2_with fail
   refine (unhide KF).mono ?_
   rintro e w2 ⟨rfl,hb⟩
   have HB:=hide (HB.out.trans (hb.mono HB.out.size))
   clear KF hb
   go_wp2_with fail
   go_ret2
   exact ⟨rfl,HB.out⟩
  ·rw [hg] at KF0
   have KF:=hide KF0
   have HX:=hide (And.intro hx hk)
   clear h hw hs KF0 hg hx hk
   generalize St p=sp at *
   go_enter Tryz.func17,Tryz.ntmps17
   go_wp2_with fail
   refine (unhide K).mono ?_
   rintro e w1 ⟨rfl,hb⟩
   have HT:=hide (HT.out.below hb)
   have HB:=hide hb
   have KF:=hide (KF.out w1 HT.out)
   clear K hb
   change Hid (Calls _ _ _ _ (fun e w'=>e=.returned (.tuple #[.pointer (some ⟨x,0,none⟩),.int .i64 0])∧_)) at KF
   go_wp2_with fail
   refine (unhide KF).mono ?_
   rintro e w2 ⟨rfl,hb⟩
   have HB:=hide (HB.out.trans (hb.mono HB.out.size))
   have t0:=((HT.out.below hb).thing_cells HX.out.1).1
   rw [HX.out.2] at t0
   clear KF hb
   go_wp2_with fail
   go_ret2
   exact ⟨rfl,HB.out⟩

end Go.Proofs.YtknmgefpjdfenaaGreat
