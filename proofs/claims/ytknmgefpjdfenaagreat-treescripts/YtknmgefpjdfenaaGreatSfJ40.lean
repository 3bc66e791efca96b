/- Joined: SDropB, SDrop, SRem, SUnl, SRmd, SLink, SListB. -/
import Derived.Test.YtknmgefpjdfenaaGreatSfJ39
/- The reference's drop: the row of names without one. -/
namespace Go.Proofs.YtknmgefpjdfenaaGreat
set_option maxRecDepth 100000
set_option maxHeartbeats 8000000
open Go.RowKit Go.Shelf Go.Maps
set_option linter.unusedVariables false

theorem ncells_app (a b:NL):ncells (a ++ b)=ncells a ++ ncells b:=by simp [ncells]

theorem ncells_take (ns:NL) (k j:Nat) (u:Value) (h:(ncells (ns.take k))[j]?=some u):(ncells ns)[j]?=some u:=by
 have e:ncells ns=ncells (ns.take k) ++ ncells (ns.drop k):=by
  rw [← ncells_app,List.take_append_drop]
 rw [e,List.getElem?_append_left (List.getElem?_eq_some_iff.1 h).1]
 exact h

theorem ncells_drop (ns:NL) (k j:Nat) (u:Value) (hk:k ≤ ns.length) (h:(ncells (ns.drop k))[j]?=some u):(ncells ns)[k * 2 + j]?=some u:=by
 have e:ncells ns=ncells (ns.take k) ++ ncells (ns.drop k):=by
  rw [← ncells_app,List.take_append_drop]
 have hl:(ncells (ns.take k)).length=k * 2:=by rw [ncells_len,List.length_take]; omega
 rw [e,List.getElem?_append_right (by omega),hl]
 rw [show k * 2 + j - k * 2=j by omega]
 exact h

theorem SM.less {w:World} {S:Nat→Prop} {g d k nb:Nat} {s:RTr} {t:RT} (h:SM w S g s) (ht:s.th[d]?=some t) (hn:t.ns.length ≤ 1800000000000) (hk:k < t.ns.length) {rb:Nat} (hrb:s.ta=some ⟨rb,0,none⟩) (hnb:t.na=some ⟨nb,0,none⟩) :
  ∃ (x1 c1:Nat) (w1:World) (x c':Nat) (w':World),
   (∀ ty,(Builtin.append_ #[71,71] ty #[.slice (some ⟨w.heap.size,0,none⟩) 0 0,.slice (some ⟨nb,0,none⟩) k t.nc]).run Tryz.prog (w.alloc (.cells #[] 120))=.ok (.slice (some ⟨x1,0,none⟩) k c1) w1) ∧
   (∀ ty,(Builtin.append_ #[71,71] ty #[.slice (some ⟨x1,0,none⟩) k c1,.slice (some (if t.nc=k + 1 then ⟨nb,0,none⟩ else ⟨nb,(k + 1) * 2,none⟩)) (t.ns.length - (k + 1)) (t.nc - (k + 1))]).run Tryz.prog w1=.ok (.slice (some ⟨x,0,none⟩) (t.ns.length - 1) c') w') ∧
   Below w.heap.size w w1∧Below w.heap.size w w' ∧
   SM (w'.setCell ⟨rb,d * 3 + 2,none⟩ (.slice (some ⟨x,0,none⟩) (t.ns.length - 1) c')) (Up S w.heap.size (w'.setCell ⟨rb,d * 3 + 2,none⟩ (.slice (some ⟨x,0,none⟩) (t.ns.length - 1) c')).heap.size) g (s.put d { t with ns:=t.ns.eraseIdx k,na:=some ⟨x,0,none⟩,nc:=c' }) ∧
   Kp S w (w'.setCell ⟨rb,d * 3 + 2,none⟩ (.slice (some ⟨x,0,none⟩) (t.ns.length - 1) c')):=by
 have hb0:Below w.heap.size w (w.alloc (.cells #[] 120)):=(Below.refl _ w).alloc (Nat.le_refl _) _
 have hN:=h.nam d t ht
 have o0:OwnN w.heap.size (w.alloc (.cells #[] 120)) (some ⟨w.heap.size,0,none⟩) 0 []:=⟨rfl,.inr ⟨w.heap.size,0,#[],rfl,Nat.le_refl _,World.alloc_heap_new w _,Nat.le_refl _,by unfold maxLen; omega,rfl,rfl⟩⟩
 have hc:∀ (v:World),Below w.heap.size w v→∀ j u,(ncells t.ns)[j]?=some u→v.cell? ⟨nb,j,none⟩=some u:=fun v hv j u hu=>by
  have:=(hN.kept (w':=v) (fun b eb=>hv.block b (hN.at eb).1)).cells (g:=nb) (by rw [hnb]; rfl) j u hu
  rw [World.add_zero_spot,Nat.zero_add] at this
  exact this
 have hl1:(t.ns.take k).length=k:=by rw [List.length_take]; omega
 have hl2:(t.ns.drop (k + 1)).length=t.ns.length - (k + 1):=by rw [List.length_drop]
 obtain ⟨x1,c1,w1,r1,o1,b1,_⟩:=o0.appL hb0.size ⟨nb,0,none⟩ t.nc (t.ns.take k) (fun j u hu=>by
  rw [World.add_zero_spot,Nat.zero_add]
  exact hc _ hb0 j u (ncells_take _ _ _ _ hu)) (by rw [hl1]; show 0 + k ≤ 1800000000000; omega)
 have hb1:=hb0.trans b1
 rw [hl1] at r1
 have e0:([]:NL).length=0:=rfl
 rw [e0,Nat.zero_add] at r1
 rw [List.nil_append] at o1
 obtain ⟨x,c',w',r2,o2,b2,hlt⟩:=o1.appL hb1.size (if t.nc=k + 1 then ⟨nb,0,none⟩ else ⟨nb,(k + 1) * 2,none⟩) (t.nc - (k + 1)) (t.ns.drop (k + 1)) (fun j u hu=>by
  have hj:=(List.getElem?_eq_some_iff.1 hu).1
  rw [ncells_len,hl2] at hj
  have hcap:t.ns.length ≤ t.nc:=by
   rcases hN.2 with ⟨_,q⟩ | ⟨_,_,_,q,_,_,q2,_⟩
   ·omega
   ·injection q with _ _ q3
    omega
  rw [if_neg (by omega),World.add_zero_spot]
  exact hc _ hb1 _ u (ncells_drop _ _ _ _ (by omega) hu)) (by rw [hl1,hl2]; omega)
 have hb2:=hb1.trans b2
 rw [hl1,hl2] at r2
 have hz:(w'.setCell ⟨rb,d * 3 + 2,none⟩ (.slice (some ⟨x,0,none⟩) (t.ns.length - 1) c')).heap.size=w'.heap.size:=by simp [World.setCell]
 have e3:k + (t.ns.length - (k + 1))=t.ns.length - 1:=by omega
 rw [e3] at r2
 have e4:t.ns.take k ++ t.ns.drop (k + 1)=t.ns.eraseIdx k:=(List.eraseIdx_eq_take_drop_succ ..).symm
 rw [e4] at o2
 have e5:(t.ns.eraseIdx k).length=t.ns.length - 1:=List.length_eraseIdx_of_lt hk
 have hxs:=(o2.at rfl).2.1
 refine ⟨x1,c1,w1,x,c',w',r1,r2,hb1,hb2,?_,?_⟩
 ·have o3:OwnN 0 w' (some ⟨x,0,none⟩) c' (t.ns.eraseIdx k):=by
   refine ⟨o2.1,o2.2.imp id ?_⟩
   rintro ⟨g',cap,cur,e,_,r⟩
   exact ⟨g',cap,cur,e,Nat.zero_le _,r⟩
  have:=SM.setN (S':=Up S w.heap.size w'.heap.size) (w':=w') (ns':=t.ns.eraseIdx k) (a':=some ⟨x,0,none⟩) (c':=c') h ht hrb o3 (fun y hy _=>hb2.block y hy) hb2.size (fun k q=>.inl q) (fun k q=>q.elim (fun e=>Nat.lt_of_lt_of_le (h.lt k e) hb2.size) (fun e=>e.2)) (fun y ey=>by
   cases ey
   exact ⟨.inr ⟨hxs,hlt⟩,.inr hxs⟩)
  rw [hz]
  rw [e5] at this
  exact this
 ·exact (Kp.of hb2).setCell (p:=⟨rb,d * 3 + 2,none⟩) (.inl (h.sr rb hrb)) _

end Go.Proofs.YtknmgefpjdfenaaGreat

/- The reference's drop. -/
namespace Go.Proofs.YtknmgefpjdfenaaGreat
set_option maxRecDepth 100000
set_option maxHeartbeats 8000000
open Go.RowKit Go.Shelf Go.Maps
set_option linter.unusedVariables false

theorem nl_mem:∀ {ns:NL} {x:List UInt8} {c:Nat},ns.lookup x=some c→(x,c) ∈ ns
 | [],x,c,h=>by cases h
 | (y,d) :: r,x,c,h=>by
  rw [List.lookup_cons] at h
  by_cases hxy:x=y
  ·subst hxy
   simp at h
   subst h
   simp
  ·have:(x == y)=false:=by simpa using hxy
   rw [this] at h
   exact List.mem_cons_of_mem _ (nl_mem h)

theorem nl_look:∀ {ns:NL} {x:List UInt8} {c:Nat},ApN ns→(x,c) ∈ ns→ns.lookup x=some c
 | [],x,c,_,h=>by cases h
 | (y,d) :: r,x,c,ha,h=>by
  rw [List.lookup_cons]
  have ha':=List.pairwise_cons.1 ha
  rcases List.mem_cons.1 h with e | h'
  ·cases e
   simp
  ·have hne:=ha'.1 (x,c) h'
   have:(x == y)=false:=by simpa using fun q:x=y=>hne q.symm
   rw [this]
   exact nl_look ha'.2 h'

theorem Rs.sub {s:RTr} (hs:Rs s) {d:Nat} {t:RT} (ht:s.th[d]?=some t) {ns':NL} (hsub:ns'.Sublist t.ns) (a:Option Addr) (c:Nat):Rs (s.put d { t with ns:=ns',na:=a,nc:=c }):=by
 have hlen:d < s.th.length:=(List.getElem?_eq_some_iff.1 ht).1
 have cs':∀ (j:Nat) (x:RT),(s.put d { t with ns:=ns',na:=a,nc:=c }).th[j]?=some x→(j=d∧x={ t with ns:=ns',na:=a,nc:=c }) ∨ (j ≠ d∧s.th[j]?=some x):=fun j x e=>by
  unfold RTr.put at e
  simp only at e
  by_cases hj:j=d
  ·subst hj
   rw [List.getElem?_set_self hlen] at e
   cases e
   exact .inl ⟨rfl,rfl⟩
  ·rw [List.getElem?_set_ne (fun q=>hj q.symm)] at e
   exact .inr ⟨hj,e⟩
 have ex:∀ (j:Nat) (x:RT),s.th[j]?=some x→∃ x',(s.put d { t with ns:=ns',na:=a,nc:=c }).th[j]?=some x'∧x'.k=x.k:=fun j x e=>by
  unfold RTr.put
  simp only
  by_cases hj:j=d
  ·subst hj
   rw [ht] at e
   cases e
   exact ⟨_,List.getElem?_set_self hlen,rfl⟩
  ·exact ⟨x,by rw [List.getElem?_set_ne (fun q=>hj q.symm)]; exact e,rfl⟩
 refine ⟨?_,fun j x e=>?_,fun j x y c' e hl=>?_,fun j x e=>?_,?_⟩
 ·obtain ⟨t1,h1,hk⟩:=hs.root
  obtain ⟨x',h2,h3⟩:=ex 1 t1 h1
  exact ⟨x',h2,h3.trans hk⟩
 ·rcases cs' j x e with ⟨rfl,rfl⟩ | ⟨_,e'⟩
  ·exact (hs.ap _ t ht).sublist hsub
  ·exact hs.ap j x e'
 ·have:∃ t',s.th[c']?=some t':=by
   rcases cs' j x e with ⟨rfl,rfl⟩ | ⟨_,e'⟩
   ·exact hs.live _ t y c' ht (nl_look (hs.ap _ t ht) (hsub.subset (nl_mem hl)))
   ·exact hs.live j x y c' e' hl
  obtain ⟨t',h'⟩:=this
  obtain ⟨x',h2,_⟩:=ex c' t' h'
  exact ⟨x',h2⟩
 ·rcases cs' j x e with ⟨rfl,rfl⟩ | ⟨_,e'⟩
  ·exact Nat.le_trans hsub.length_le (hs.few _ t ht)
  ·exact hs.few j x e'
 ·show (s.th.set d _).length ≤ _
  rw [List.length_set]
  exact hs.len

def cutR (s:RTr) (d:Nat) (t:RT) (k:Nat) (a:Option Addr) (c:Nat):RTr:=s.put d { t with ns:=t.ns.eraseIdx k,na:=a,nc:=c }

def dpR (s:RTr) (d:Nat) (t:RT) (k i:Nat) (a:Option Addr) (c:Nat):RTr:=if lkR (cutR s d t k a c) i=0 then (cutR s d t k a c).put i RT.none else cutR s d t k a c

theorem rdrop_any {w:World} {S:Nat→Prop} {g d k i:Nat} {s:RTr} {t:RT} {z:List UInt8} (h:SM w S g s) (hs:Rs s) (ht:s.th[d]?=some t) (hk:t.ns[k]?=some (z,i)) (hlk:∀ a c,lkR (cutR s d t k a c) i ≤ 1000000000000000) :
  Calls Tryz.prog 81 #[.pointer (some ⟨g,0,none⟩),.int .i64 (d:Int),.int .i64 (k:Int)] w fun e w'=>∃ a c,e=.returned (.tuple #[])∧SM w' (Up S w.heap.size w'.heap.size) g (dpR s d t k i a c)∧Kp S w w':=by
 have hkl:k < t.ns.length:=(List.getElem?_eq_some_iff.1 hk).1
 have hnl:=hs.few d t ht
 have hln:=hs.len
 have hdl:d < s.th.length:=(List.getElem?_eq_some_iff.1 ht).1
 have hN:=h.nam d t ht
 obtain ⟨nb,hnb,_,n0,_⟩:=hN.cell hk
 obtain ⟨rb,hrb,_,_,_,t2,_⟩:=h.row.cell ht
 have g1:=h.cells.2.1
 rw [hrb] at g1
 rw [hnb] at t2
 have hcap:t.ns.length ≤ t.nc:=by
  rcases hN.2 with ⟨_,q⟩ | ⟨_,_,_,q,_,_,q2,_⟩
  ·omega
  ·injection q with _ _ q3
   omega
 obtain ⟨t',hi'⟩:=hs.live d t z i ht (nl_look (hs.ap d t ht) (List.mem_of_getElem? hk))
 have hil:i < s.th.length:=(List.getElem?_eq_some_iff.1 hi').1
 obtain ⟨x1,c1,w1,x,c',w2,r1,r2,b1,b2,hM,hkp⟩:=h.drew.less ht hnl hkl hrb hnb
 have HF:Hid (∃ a c,SM (w2.setCell ⟨rb,d * 3 + 2,none⟩ (.slice (some ⟨x,0,none⟩) (t.ns.length - 1) c')) (Up S w.heap.size (w2.setCell ⟨rb,d * 3 + 2,none⟩ (.slice (some ⟨x,0,none⟩) (t.ns.length - 1) c')).heap.size) g (cutR s d t k a c)∧Kp S w (w2.setCell ⟨rb,d * 3 + 2,none⟩ (.slice (some ⟨x,0,none⟩) (t.ns.length - 1) c'))) :=
  ⟨_,_,hM,(Kp.of (Below.refl _ w)).drew.trans hkp (fun k q=>.inl q)⟩
 have HS:Hid (∀ a c,Rs (cutR s d t k a c)):=fun a c=>hs.sub ht (List.eraseIdx_sublist t.ns k) a c
 have HLK:=hide hlk
 have HLn:Hid (∀ a c,∃ t',(cutR s d t k a c).th[i]?=some t'):=fun a c=>⟨_,List.getElem?_eq_getElem (by unfold cutR RTr.put; simpa using hil)⟩
 have hTl:∀ a c,(cutR s d t k a c).th.length=s.th.length:=fun a c=>by unfold cutR RTr.put; simp
 have HTl:=hide hTl
 have g1a:∀ ob,(w.alloc ob).cell? ⟨g,1,none⟩=some (.slice (some ⟨rb,0,none⟩) s.th.length s.tc):=fun ob=>(((Below.refl w.heap.size w).alloc (Nat.le_refl _) ob).cell (p:=⟨g,1,none⟩) (cell_block_lt g1)).trans g1
 have g1b:w1.cell? ⟨g,1,none⟩=some (.slice (some ⟨rb,0,none⟩) s.th.length s.tc):=(b1.cell (p:=⟨g,1,none⟩) (cell_block_lt (w:=w.drew) g1)).trans g1
 have g1c:w2.cell? ⟨g,1,none⟩=some (.slice (some ⟨rb,0,none⟩) s.th.length s.tc):=(b2.cell (p:=⟨g,1,none⟩) (cell_block_lt (w:=w.drew) g1)).trans g1
 have t2c:w2.cell? ⟨rb,d * 3 + 2,none⟩=some (.slice (some ⟨nb,0,none⟩) t.ns.length t.nc):=(b2.cell (p:=⟨rb,d * 3 + 2,none⟩) (cell_block_lt (w:=w.drew) t2)).trans t2
 have t2f:∀ j,w2.frozen? ⟨rb,j,none⟩=false:=fun j=>by
  have hh:=h.drew.row.kept (w':=w2) (fun y ey=>b2.block y (h.drew.row.at ey).1)
  obtain ⟨rb',e1,_,_,_,_,fz⟩:=hh.cell ht
  rw [hrb] at e1
  cases e1
  exact fz j
 have RS1:∀ v,(Instr.slice 71 (.slice (some ⟨nb,0,none⟩) t.ns.length t.nc) none (some (.int .i64 (k:Int))) none).run Tryz.prog v=.ok (.slice (some ⟨nb,0,none⟩) k t.nc) v:=fun v=>dcut_h nb _ _ k (by omega) v
 obtain ⟨k1,hk1⟩:∃ k1:Nat,k1=k + 1:=⟨_,rfl⟩
 rw [← hk1] at r2
 have RS2:∀ v,(Instr.slice 71 (.slice (some ⟨nb,0,none⟩) t.ns.length t.nc) (some (.int .i64 (k1:Int))) none none).run Tryz.prog v=.ok (.slice (some (if t.nc=k1 then ⟨nb,0,none⟩ else ⟨nb,k1 * 2,none⟩)) (t.ns.length - k1) (t.nc - k1)) v:=fun v=>dcut_l nb _ _ k1 (by omega) v
 generalize (if t.nc=k1 then (⟨nb,0,none⟩:Addr) else ⟨nb,k1 * 2,none⟩)=ad at *
 have hwk:IntKind.i64.wrap ((k:Int) + 1)=(k1:Int):=by rw [IntKind.wrap_i64]; omega
 have R1:=hide r1
 have R2:=hide r2
 have hd2:(d:Int) < (s.th.length:Int):=by omega
 have hd0:(0:Int) ≤ (d:Int):=by omega
 have hk2:(k:Int) < (t.ns.length:Int):=by omega
 have hk0:(0:Int) ≤ (k:Int):=by omega
 have hi2:(i:Int) < (s.th.length:Int):=by omega
 have hi0:(0:Int) ≤ (i:Int):=by omega
 clear h hs ht hk hlk hkl hnl hdl hN hnb hrb hcap hi' hil hM hkp r1 r2 b1 b2 hk1 hTl
 generalize t.ns.length - k1=m1 at *
 generalize t.nc - k1=m2 at *
 generalize t.ns.length - 1=m3 at *
 generalize t.ns.length=n at *
 generalize hsl:s.th.length=sl at *
 have HSL:=hide hsl
 clear hsl
 go_enter Tryz.func81,Tryz.ntmps81
 go_upto_region 2 with fail
 clear t2 n0
 go_cut [] (fun wx=>Hid (∃ a c,SM wx (Up S w.heap.size wx.heap.size) g (cutR s d t k a c)∧Kp S w wx))
 case first =>
  go_region_law (first
   | (refine step_app_run (by rfl) _ _ _ (by rfl) _ _ _ (by rfl) (by rfl) (unhide R1) ?_; clear R1)
   | (refine step_app_run (by rfl) _ _ _ (by rfl) _ _ _ (by rfl) (by rfl) (unhide R2) ?_; clear R2))
  all_goals
   go_wp2_with fail
   go_meet
   exact HF.out
 case rest =>
  clear R1 R2 HF g1 g1a g1b g1c t2c t2f RS1 RS2
  obtain ⟨a,c,hM,hkp⟩:=hcut.out
  have KL:=rlinks_any hM (HS.out a c) i (by have:=(HS.out a c).len; have:=HTl.out a c; omega) (HLK.out a c)
  obtain ⟨t',ht'⟩:=HLn.out a c
  obtain ⟨rx,hrx,_,z0,z1,z2,zf⟩:=hM.row.cell ht'
  have zg:=hM.cells.2.1
  rw [hrx,HTl.out a c] at zg
  have hA:=hM.anew ht' hrx 0
  by_cases h0:lkR (cutR s d t k a c) i=0
  ·rw [h0] at KL
   have KL:=hide KL
   have HD:Hid (dpR s d t k i a c=(cutR s d t k a c).put i RT.none):=if_pos h0
   have hz:(((wc.setCell ⟨rx,i * 3,none⟩ (.int .i64 0)).setCell ⟨rx,i * 3 + 1,none⟩ (.slice none 0 0)).setCell ⟨rx,i * 3 + 2,none⟩ (.slice none 0 0)).heap.size=wc.heap.size:=by simp [World.setCell]
   have HR:Hid (SM (((wc.setCell ⟨rx,i * 3,none⟩ (.int .i64 0)).setCell ⟨rx,i * 3 + 1,none⟩ (.slice none 0 0)).setCell ⟨rx,i * 3 + 2,none⟩ (.slice none 0 0)) (Up S w.heap.size (((wc.setCell ⟨rx,i * 3,none⟩ (.int .i64 0)).setCell ⟨rx,i * 3 + 1,none⟩ (.slice none 0 0)).setCell ⟨rx,i * 3 + 2,none⟩ (.slice none 0 0)).heap.size) g (dpR s d t k i a c) ∧
     Kp S w (((wc.setCell ⟨rx,i * 3,none⟩ (.int .i64 0)).setCell ⟨rx,i * 3 + 1,none⟩ (.slice none 0 0)).setCell ⟨rx,i * 3 + 2,none⟩ (.slice none 0 0))):=by
    rw [hz,HD.out]
    exact ⟨hA.1,hkp.trans hA.2 (fun k q=>q.imp id (fun e=>e.1))⟩
   clear hcut hM hkp hA h0 ht' HS HLK HLn HTl HSL
   go_wp2_with fail
   refine (unhide KL).mono ?_
   rintro e w3 ⟨rfl,rfl⟩
   clear KL
   go_wp2_with fail
   go_end0
   exact ⟨a,c,rfl,HR.out⟩
  ·have KL:=hide KL
   have HD:Hid (dpR s d t k i a c=cutR s d t k a c):=if_neg h0
   have d1:((lkR (cutR s d t k a c) i:Int) == 0)=false:=by simp; omega
   have HR:=hide (And.intro hM hkp)
   clear hcut hM hkp hA h0 ht' HS HLK HLn HTl HSL
   go_wp2_with fail
   refine (unhide KL).mono ?_
   rintro e w3 ⟨rfl,rfl⟩
   clear KL
   go_wp2_with fail
   go_end0
   exact ⟨a,c,rfl,by rw [HD.out]; exact HR.out.1,HR.out.2⟩

end Go.Proofs.YtknmgefpjdfenaaGreat

/- The reference's remove, Unlink. -/
namespace Go.Proofs.YtknmgefpjdfenaaGreat
set_option maxRecDepth 100000
set_option maxHeartbeats 8000000
open Go.RowKit Go.Shelf Go.Maps
set_option linter.unusedVariables false

theorem rremove_any {w:World} {S:Nat→Prop} {g d i:Nat} {s:RTr} {t:RT} (h:SM w S g s) (hs:Rs s) {p:List UInt8} {ms:List (List UInt8)} {z:List UInt8} (hsp:spl p=some (ms ++ [z])) (hpa:paR s ms=(0,d)) (ht:s.th[d]?=some t) (hx:t.ns.lookup z=some i) (hlk:∀ k a c,lkR (cutR s d t k a c) i ≤ 1000000000000000) :
  Calls Tryz.prog 82 #[.pointer (some ⟨g,0,none⟩),.string (St p)] w fun e w'=>∃ k a c,t.ns[k]?=some (z,i)∧e=.returned (.tuple #[])∧SM w' (Up S w.heap.size w'.heap.size) g (dpR s d t k i a c)∧Kp S w w':=by
 have K:=hide (rsplit_yes w hsp)
 have hok:=(spl_some hsp).1
 obtain ⟨h16,h200⟩:=okN_short hok
 have KP:Hid (∀ u a c,SM u S g s→OwnS w.heap.size u a (ms ++ [z]).length c (ms ++ [z])→Calls Tryz.prog 77 #[.pointer (some ⟨g,0,none⟩),.slice a (ms ++ [z]).length c] u fun e w'=>e=.returned (.tuple #[.int .i64 (d:Int),.int .i64 0])∧w'=u):=fun u a c hu ho=>by
  have:=rparent18_any hu hs ho.has ho.2.1 hok
  rw [hpa] at this
  exact this
 have HT:=hide h
 have hl:(ms ++ [z]).length=ms.length + 1:=by simp
 have hn16:ms.length ≤ 16:=by simp at h16; omega
 have hz200:z.length ≤ 200:=h200 z (by simp)
 have hdl:d < s.th.length:=(List.getElem?_eq_some_iff.1 ht).1
 have hln:=hs.len
 have KL:Hid (∀ u,SM u S g s→Calls Tryz.prog 78 #[.pointer (some ⟨g,0,none⟩),.int .i64 (d:Int),.string (St z)] u fun e w'=>(∃ k:Nat,e=.returned (.int .i64 (k:Int))∧t.ns[k]?=some (z,i))∧w'=u):=fun u hu=>by
  refine (rplace_any hu ht z (by omega) (hs.few _ t ht) (by omega)).mono ?_
  rintro e w' ⟨⟨r,rfl,hr⟩,rfl⟩
  rcases plK_look hr (hs.ap _ t ht) with ⟨_,q⟩ | ⟨k,c',rfl,q1,q2⟩
  ·rw [q] at hx; cases hx
  ·rw [hx] at q2
   cases q2
   exact ⟨⟨k,rfl,q1⟩,rfl⟩
 have KD:Hid (∀ u (k:Nat),SM u S g s→t.ns[k]?=some (z,i)→Calls Tryz.prog 81 #[.pointer (some ⟨g,0,none⟩),.int .i64 (d:Int),.int .i64 (k:Int)] u fun e w'=>∃ a c,e=.returned (.tuple #[])∧SM w' (Up S u.heap.size w'.heap.size) g (dpR s d t k i a c)∧Kp S u w'):=fun u k hu hk=>rdrop_any hu hs ht hk (hlk k)
 have HO:Hid (∀ u a c,OwnS w.heap.size u a (ms ++ [z]).length c (ms ++ [z])→∃ b o,a=some ⟨b,o,none⟩∧u.cell? ⟨b,o + ms.length,none⟩=some (.string (St z))):=fun u a c ho=>by
  obtain ⟨b,o,e,_,hc⟩:=ho.has.2 (by rw [hl]; omega)
  refine ⟨b,o,e,?_⟩
  have:=hc ms.length (by rw [hl]; omega)
  rw [this]
  simp [sv]
 rw [hl] at K KP HO
 have hw:IntKind.i64.wrap (((ms.length + 1:Nat):Int) - 1)=(ms.length:Int):=by rw [IntKind.wrap_i64]; omega
 have e1:((ms.length + 1:Nat):Int) - 1=(ms.length:Int):=by omega
 have l0:(0:Int) ≤ (ms.length:Int):=by omega
 have l1:(ms.length:Int) < ((ms.length + 1:Nat):Int):=by omega
 clear h hs hsp hok h16 h200 hdl hln ht hx hpa hlk
 generalize ms ++ [z]=xs at *
 generalize ms.length=nl at *
 generalize St p=sp at *
 generalize St z=sz at *
 clear hl
 go_enter Tryz.func82,Tryz.ntmps82
 go_wp2_with fail
 refine (unhide K).mono ?_
 rintro e w1 ⟨a,c,rfl,ho,hb⟩
 obtain ⟨b,o,rfl,cz⟩:=HO.out w1 a c ho
 have HB:=hide hb
 have HT:=hide (HT.out.below hb)
 have KP:=hide (KP.out w1 _ c HT.out ho)
 have KL:=hide (KL.out w1 HT.out)
 clear K hb ho HO
 go_wp2_with fail
 refine (unhide KP).mono ?_
 rintro e w2 ⟨rfl,rfl⟩
 clear KP
 go_wp2_with fail
 refine (unhide KL).mono ?_
 rintro e w3 ⟨⟨k,rfl,hk⟩,rfl⟩
 have KD:=hide (KD.out w3 k HT.out hk)
 have HK:=hide hk
 clear KL hk
 go_wp2_with fail
 refine (unhide KD).mono ?_
 rintro e w4 ⟨a',c',rfl,hM,hkp⟩
 have hsz:=HB.out.size
 have HR:Hid (SM w4 (Up S w.heap.size w4.heap.size) g (dpR s d t k i a' c')∧Kp S w w4) :=
  ⟨hM.kept (fun _ _=>rfl) (fun k q=>q.imp id (fun e=>⟨Nat.le_trans hsz e.1,e.2⟩)) (fun k q=>q.elim (fun e=>hM.lt k (.inl e)) (fun e=>e.2)),(Kp.of HB.out).trans hkp (fun k q=>.inl q)⟩
 clear KD hM hkp HT HB
 go_wp2_with fail
 go_end0
 exact ⟨k,a',c',HK.out,rfl,HR.out⟩

end Go.Proofs.YtknmgefpjdfenaaGreat

/- The reference's Unlink. -/
namespace Go.Proofs.YtknmgefpjdfenaaGreat
set_option maxRecDepth 100000
set_option maxHeartbeats 8000000
open Go.RowKit Go.Shelf Go.Maps
set_option linter.unusedVariables false

def UlNo (s:RTr) (p:List UInt8) (E:Int):Prop:=((fdR s p).1=E∧E ≠ 0) ∨ ((fdR s p).1=0∧kiR s (fdR s p).2=2∧E=14) ∨ ((fdR s p).1=0∧kiR s (fdR s p).2 ≠ 2∧lkR s (fdR s p).2=1∧bsR s (fdR s p).2=true∧(fdR s p).2 ≠ 0∧E=17)

theorem runlink_no {w:World} {S:Nat→Prop} {g:Nat} {s:RTr} (h:SM w S g s) (hs:Rs s) {p:List UInt8} (hp:p.length ≤ 9223372036854775807) {E:Int} (he:UlNo s p E) :
  Calls Tryz.prog 30 #[.pointer (some ⟨g,0,none⟩),.string (St p)] w fun e w'=>e=.returned (.int .i64 E)∧Below w.heap.size w w':=by
 have K:=rfind_any h hs hp
 have HT:=hide h
 rcases fdR_ends hs p with ⟨q1,t,q2⟩ | ⟨q1,q2⟩
 ·have hil:(fdR s p).2 < s.th.length:=(List.getElem?_eq_some_iff.1 q2).1
  have hln:=hs.len
  have hi0:(0:Int) ≤ ((fdR s p).2:Int):=by omega
  have hil':((fdR s p).2:Int) < (s.th.length:Int):=by omega
  rcases he with ⟨hE,hne⟩ | ⟨_,hk,rfl⟩ | ⟨_,hk,hlk,hbs,h0,rfl⟩
  ·rw [q1] at hE; exact absurd hE.symm hne
  ·rw [q1] at K
   have K:=hide K
   rw [kiR_of q2] at hk
   have HX:=hide (And.intro q2 hk)
   clear h hs q1 q2 hp hk hil
   generalize (fdR s p).2=i at *
   generalize St p=sp at *
   go_enter Tryz.func30,Tryz.ntmps30
   go_wp2_with fail
   refine (unhide K).mono ?_
   rintro e w1 ⟨rfl,hb⟩
   have HT1:=hide (HT.out.below hb)
   obtain ⟨rb,era,_,t0,_,_,_⟩:=HT1.out.row.cell HX.out.1
   have g1:=HT1.out.cells.2.1
   rw [era] at g1
   rw [HX.out.2] at t0
   have HB:=hide hb
   clear K hb HT
   generalize s.th.length=tl at *
   go_wp2_with fail
   go_ret
   exact ⟨rfl,HB.out⟩
  ·rw [q1] at K
   have K:=hide K
   rw [kiR_of q2] at hk
   have d1:(t.k == 2)=false:=by simpa using hk
   have HX:=hide q2
   have KL:Hid (∀ u,SM u S g s→Calls Tryz.prog 73 #[.pointer (some ⟨g,0,none⟩),.int .i64 ((fdR s p).2:Int)] u fun e w'=>e=.returned (.int .i64 1)∧w'=u):=fun u hu=>by
    have:=rlinks_any hu hs (fdR s p).2 (by omega) (by omega)
    rw [hlk] at this
    exact this
   have KB:Hid (∀ u,SM u S g s→Calls Tryz.prog 80 #[.pointer (some ⟨g,0,none⟩),.int .i64 ((fdR s p).2:Int)] u fun e w'=>e=.returned (.bool true)∧w'=u):=fun u hu=>by
    have:=rbusy_any hu (fdR s p).2 h0
    rw [hbs] at this
    exact this
   clear h hs q1 q2 hp hk hil hlk hbs h0
   generalize (fdR s p).2=i at *
   generalize St p=sp at *
   go_enter Tryz.func30,Tryz.ntmps30
   go_wp2_with fail
   refine (unhide K).mono ?_
   rintro e w1 ⟨rfl,hb⟩
   have HT1:=hide (HT.out.below hb)
   obtain ⟨rb,era,_,t0,_,_,_⟩:=HT1.out.row.cell HX.out
   have g1:=HT1.out.cells.2.1
   rw [era] at g1
   have HB:=hide hb
   have KL:=hide (KL.out w1 HT1.out)
   have KB:=hide (KB.out w1 HT1.out)
   clear K hb HT
   generalize s.th.length=tl at *
   generalize t.k=tk at *
   go_wp2_with fail
   refine (unhide KL).mono ?_
   rintro e w2 ⟨rfl,rfl⟩
   clear KL
   go_wp2_with fail
   refine (unhide KB).mono ?_
   rintro e w3 ⟨rfl,rfl⟩
   clear KB
   go_wp2_with fail
   go_ret
   exact ⟨rfl,HB.out⟩
 ·rcases he with ⟨hE,hne⟩ | ⟨q,_⟩ | ⟨q,_⟩
  ·rw [hE,q2] at K
   have K:=hide K
   have d1:(E == 0)=false:=by simpa using hne
   clear h hs q1 q2 hp hne hE
   generalize St p=sp at *
   go_enter Tryz.func30,Tryz.ntmps30
   go_wp2_with fail
   refine (unhide K).mono ?_
   rintro e w1 ⟨rfl,hb⟩
   have HB:=hide hb
   clear K hb HT
   go_wp2_with fail
   go_ret
   exact ⟨rfl,HB.out⟩
  ·omega
  ·omega

theorem runlink_ok {w:World} {S:Nat→Prop} {g d i:Nat} {s:RTr} {t:RT} (h:SM w S g s) (hs:Rs s) {p:List UInt8} (hp:p.length ≤ 9223372036854775807) (hf:fdR s p=(0,i)) {tx:RT} (hi:s.th[i]?=some tx) (hk:tx.k ≠ 2) (hl:¬ (lkR s i=1∧bsR s i=true)) (h0:i ≠ 0) (hlk0:lkR s i ≤ 1000000000000000)
  {ms:List (List UInt8)} {z:List UInt8} (hsp:spl p=some (ms ++ [z])) (hpa:paR s ms=(0,d)) (ht:s.th[d]?=some t) (hx:t.ns.lookup z=some i) (hlk:∀ k a c,lkR (cutR s d t k a c) i ≤ 1000000000000000) :
  Calls Tryz.prog 30 #[.pointer (some ⟨g,0,none⟩),.string (St p)] w fun e w'=>∃ k a c,t.ns[k]?=some (z,i)∧e=.returned (.int .i64 0)∧SM w' (Up S w.heap.size w'.heap.size) g (dpR s d t k i a c)∧Kp S w w':=by
 have K:=rfind_any h hs hp
 rw [hf] at K
 have K:=hide K
 have HT:=hide h
 have hil:i < s.th.length:=(List.getElem?_eq_some_iff.1 hi).1
 have hln:=hs.len
 have hi0:(0:Int) ≤ (i:Int):=by omega
 have hil':(i:Int) < (s.th.length:Int):=by omega
 have d1:(tx.k == 2)=false:=by simpa using hk
 have HX:=hide hi
 have KL:Hid (∀ u,SM u S g s→Calls Tryz.prog 73 #[.pointer (some ⟨g,0,none⟩),.int .i64 (i:Int)] u fun e w'=>e=.returned (.int .i64 (lkR s i:Int))∧w'=u):=fun u hu=>rlinks_any hu hs i (by omega) hlk0
 have KB:Hid (∀ u,SM u S g s→Calls Tryz.prog 80 #[.pointer (some ⟨g,0,none⟩),.int .i64 (i:Int)] u fun e w'=>e=.returned (.bool (bsR s i))∧w'=u):=fun u hu=>rbusy_any hu i h0
 have KR:Hid (∀ u,SM u S g s→Calls Tryz.prog 82 #[.pointer (some ⟨g,0,none⟩),.string (St p)] u fun e w'=>∃ k a c,t.ns[k]?=some (z,i)∧e=.returned (.tuple #[])∧SM w' (Up S u.heap.size w'.heap.size) g (dpR s d t k i a c)∧Kp S u w'):=fun u hu=>rremove_any hu hs hsp hpa ht hx hlk
 by_cases hl1:lkR s i=1
 ·have hb0:bsR s i=false:=by
   cases hq:bsR s i with
   | true=>exact absurd ⟨hl1,hq⟩ hl
   | false=>rfl
  rw [hl1] at KL
  rw [hb0] at KB
  clear h hs hp hf hi hk hl hil hlk0 h0 hsp hpa ht hx hlk hb0 hl1
  generalize St p=sp at *
  go_enter Tryz.func30,Tryz.ntmps30
  go_wp2_with fail
  refine (unhide K).mono ?_
  rintro e w1 ⟨rfl,hb⟩
  have HT1:=hide (HT.out.below hb)
  obtain ⟨rb,era,_,t0,_,_,_⟩:=HT1.out.row.cell HX.out
  have g1:=HT1.out.cells.2.1
  rw [era] at g1
  have HB:=hide hb
  have KL:=hide (KL.out w1 HT1.out)
  have KB:=hide (KB.out w1 HT1.out)
  have KR:=hide (KR.out w1 HT1.out)
  clear K hb HT
  generalize s.th.length=tl at *
  generalize tx.k=tk at *
  go_wp2_with fail
  refine (unhide KL).mono ?_
  rintro e w2 ⟨rfl,rfl⟩
  clear KL
  go_wp2_with fail
  refine (unhide KB).mono ?_
  rintro e w3 ⟨rfl,rfl⟩
  clear KB
  go_wp2_with fail
  refine (unhide KR).mono ?_
  rintro e w4 ⟨k,a',c',hkk,rfl,hM,hkp⟩
  have hsz:=HB.out.size
  have HR:Hid (t.ns[k]?=some (z,i)∧SM w4 (Up S w.heap.size w4.heap.size) g (dpR s d t k i a' c')∧Kp S w w4) :=
   ⟨hkk,hM.kept (fun _ _=>rfl) (fun k q=>q.imp id (fun e=>⟨Nat.le_trans hsz e.1,e.2⟩)) (fun k q=>q.elim (fun e=>hM.lt k (.inl e)) (fun e=>e.2)),(Kp.of HB.out).trans hkp (fun k q=>.inl q)⟩
  clear KR hM hkp HB hkk HT1
  go_wp2_with fail
  go_ret
  exact ⟨k,a',c',HR.out.1,rfl,HR.out.2⟩
 ·have d2:((lkR s i:Int) == 1)=false:=by simp; omega
  clear h hs hp hf hi hk hl hil hlk0 h0 hsp hpa ht hx hlk hl1 KB
  generalize (lkR s i:Int)=lv at *
  generalize St p=sp at *
  go_enter Tryz.func30,Tryz.ntmps30
  go_wp2_with fail
  refine (unhide K).mono ?_
  rintro e w1 ⟨rfl,hb⟩
  have HT1:=hide (HT.out.below hb)
  obtain ⟨rb,era,_,t0,_,_,_⟩:=HT1.out.row.cell HX.out
  have g1:=HT1.out.cells.2.1
  rw [era] at g1
  have HB:=hide hb
  have KL:=hide (KL.out w1 HT1.out)
  have KR:=hide (KR.out w1 HT1.out)
  clear K hb HT
  generalize s.th.length=tl at *
  generalize tx.k=tk at *
  go_wp2_with fail
  refine (unhide KL).mono ?_
  rintro e w2 ⟨rfl,rfl⟩
  clear KL
  go_wp2_with fail
  refine (unhide KR).mono ?_
  rintro e w4 ⟨k,a',c',hkk,rfl,hM,hkp⟩
  have hsz:=HB.out.size
  have HR:Hid (t.ns[k]?=some (z,i)∧SM w4 (Up S w.heap.size w4.heap.size) g (dpR s d t k i a' c')∧Kp S w w4) :=
   ⟨hkk,hM.kept (fun _ _=>rfl) (fun k q=>q.imp id (fun e=>⟨Nat.le_trans hsz e.1,e.2⟩)) (fun k q=>q.elim (fun e=>hM.lt k (.inl e)) (fun e=>e.2)),(Kp.of HB.out).trans hkp (fun k q=>.inl q)⟩
  clear KR hM hkp HB hkk HT1
  go_wp2_with fail
  go_ret
  exact ⟨k,a',c',HR.out.1,rfl,HR.out.2⟩

end Go.Proofs.YtknmgefpjdfenaaGreat

/- The reference's Rmdir. -/
namespace Go.Proofs.YtknmgefpjdfenaaGreat
set_option maxRecDepth 100000
set_option maxHeartbeats 8000000
open Go.RowKit Go.Shelf Go.Maps
set_option linter.unusedVariables false

def RmNo (s:RTr) (p:List UInt8) (E:Int):Prop:=((fdR s p).1=E∧E ≠ 0) ∨ ((fdR s p).1=0∧(fdR s p).2=1∧E=17) ∨ ((fdR s p).1=0∧(fdR s p).2 ≠ 1∧kiR s (fdR s p).2 ≠ 2∧E=13) ∨
 ((fdR s p).1=0∧(fdR s p).2 ≠ 1∧kiR s (fdR s p).2=2∧(∃ t,s.th[(fdR s p).2]?=some t∧t.ns ≠ [])∧E=15)

theorem rrmdir_no {w:World} {S:Nat→Prop} {g:Nat} {s:RTr} (h:SM w S g s) (hs:Rs s) {p:List UInt8} (hp:p.length ≤ 9223372036854775807) {E:Int} (he:RmNo s p E) :
  Calls Tryz.prog 32 #[.pointer (some ⟨g,0,none⟩),.string (St p)] w fun e w'=>e=.returned (.int .i64 E)∧Below w.heap.size w w':=by
 have K:=rfind_any h hs hp
 have HT:=hide h
 rcases fdR_ends hs p with ⟨q1,t,q2⟩ | ⟨q1,q2⟩
 ·have hil:(fdR s p).2 < s.th.length:=(List.getElem?_eq_some_iff.1 q2).1
  have hln:=hs.len
  have hi0:(0:Int) ≤ ((fdR s p).2:Int):=by omega
  have hil':((fdR s p).2:Int) < (s.th.length:Int):=by omega
  rcases he with ⟨hE,hne⟩ | ⟨_,h1,rfl⟩ | ⟨_,h1,hk,rfl⟩ | ⟨_,h1,hk,⟨t',ht',hne⟩,rfl⟩
  ·rw [q1] at hE; exact absurd hE.symm hne
  ·rw [q1,h1] at K
   have K:=hide K
   clear h hs q1 q2 hp h1 hil hil' hi0
   generalize St p=sp at *
   go_enter Tryz.func32,Tryz.ntmps32
   go_wp2_with fail
   refine (unhide K).mono ?_
   rintro e w1 ⟨rfl,hb⟩
   have HB:=hide hb
   clear K hb HT
   go_wp2_with fail
   go_ret
   exact ⟨rfl,HB.out⟩
  ·rw [q1] at K
   have K:=hide K
   rw [kiR_of q2] at hk
   have d1:(t.k == 2)=false:=by simpa using hk
   have d0:(((fdR s p).2:Int) == 1)=false:=by simp; omega
   have HX:=hide q2
   clear h hs q1 q2 hp hk hil h1
   generalize (fdR s p).2=i at *
   generalize St p=sp at *
   go_enter Tryz.func32,Tryz.ntmps32
   go_wp2_with fail
   refine (unhide K).mono ?_
   rintro e w1 ⟨rfl,hb⟩
   have HT1:=hide (HT.out.below hb)
   obtain ⟨rb,era,_,t0,_,_,_⟩:=HT1.out.row.cell HX.out
   have g1:=HT1.out.cells.2.1
   rw [era] at g1
   have HB:=hide hb
   clear K hb HT
   generalize s.th.length=tl at *
   generalize t.k=tk at *
   go_wp2_with fail
   go_ret
   exact ⟨rfl,HB.out⟩
  ·rw [q1] at K
   have K:=hide K
   rw [kiR_of q2] at hk
   rw [q2] at ht'
   cases ht'
   have hn0:0 < t.ns.length:=List.length_pos_iff.2 hne
   have hnl:=hs.few _ t q2
   have d2:decide ((t.ns.length:Int) > 0)=true:=by simp; omega
   have d0:(((fdR s p).2:Int) == 1)=false:=by simp; omega
   have HX:=hide (And.intro q2 hk)
   clear h hs q1 q2 hp hk hil h1 hne hnl
   generalize (fdR s p).2=i at *
   generalize St p=sp at *
   go_enter Tryz.func32,Tryz.ntmps32
   go_wp2_with fail
   refine (unhide K).mono ?_
   rintro e w1 ⟨rfl,hb⟩
   have HT1:=hide (HT.out.below hb)
   obtain ⟨rb,era,_,t0,_,t2,_⟩:=HT1.out.row.cell HX.out.1
   have g1:=HT1.out.cells.2.1
   rw [era] at g1
   rw [HX.out.2] at t0
   have HB:=hide hb
   clear K hb HT
   generalize s.th.length=tl at *
   generalize t.ns.length=nl at *
   go_wp2_with fail
   go_ret
   exact ⟨rfl,HB.out⟩
 ·rcases he with ⟨hE,hne⟩ | ⟨q,_⟩ | ⟨q,_⟩ | ⟨q,_⟩
  ·rw [hE,q2] at K
   have K:=hide K
   have d1:(E == 0)=false:=by simpa using hne
   clear h hs q1 q2 hp hne hE
   generalize St p=sp at *
   go_enter Tryz.func32,Tryz.ntmps32
   go_wp2_with fail
   refine (unhide K).mono ?_
   rintro e w1 ⟨rfl,hb⟩
   have HB:=hide hb
   clear K hb HT
   go_wp2_with fail
   go_ret
   exact ⟨rfl,HB.out⟩
  ·omega
  ·omega
  ·omega

theorem rrmdir_ok {w:World} {S:Nat→Prop} {g d i:Nat} {s:RTr} {t:RT} (h:SM w S g s) (hs:Rs s) {p:List UInt8} (hp:p.length ≤ 9223372036854775807) (hf:fdR s p=(0,i)) (h1:i ≠ 1) {tx:RT} (hi:s.th[i]?=some tx) (hk:tx.k=2) (hn:tx.ns=[])
  {ms:List (List UInt8)} {z:List UInt8} (hsp:spl p=some (ms ++ [z])) (hpa:paR s ms=(0,d)) (ht:s.th[d]?=some t) (hx:t.ns.lookup z=some i) (hlk:∀ k a c,lkR (cutR s d t k a c) i ≤ 1000000000000000) :
  Calls Tryz.prog 32 #[.pointer (some ⟨g,0,none⟩),.string (St p)] w fun e w'=>∃ k a c,t.ns[k]?=some (z,i)∧e=.returned (.int .i64 0)∧SM w' (Up S w.heap.size w'.heap.size) g (dpR s d t k i a c)∧Kp S w w':=by
 have K:=rfind_any h hs hp
 rw [hf] at K
 have K:=hide K
 have HT:=hide h
 have hil:i < s.th.length:=(List.getElem?_eq_some_iff.1 hi).1
 have hln:=hs.len
 have hi0:(0:Int) ≤ (i:Int):=by omega
 have hil':(i:Int) < (s.th.length:Int):=by omega
 have d0:((i:Int) == 1)=false:=by simp; omega
 have HX:=hide (And.intro hi (And.intro hk hn))
 have KR:Hid (∀ u,SM u S g s→Calls Tryz.prog 82 #[.pointer (some ⟨g,0,none⟩),.string (St p)] u fun e w'=>∃ k a c,t.ns[k]?=some (z,i)∧e=.returned (.tuple #[])∧SM w' (Up S u.heap.size w'.heap.size) g (dpR s d t k i a c)∧Kp S u w'):=fun u hu=>rremove_any hu hs hsp hpa ht hx hlk
 clear h hs hp hf hi hk hn hil hsp hpa ht hx hlk h1
 generalize St p=sp at *
 go_enter Tryz.func32,Tryz.ntmps32
 go_wp2_with fail
 refine (unhide K).mono ?_
 rintro e w1 ⟨rfl,hb⟩
 have HT1:=hide (HT.out.below hb)
 obtain ⟨rb,era,_,t0,_,t2,_⟩:=HT1.out.row.cell HX.out.1
 have g1:=HT1.out.cells.2.1
 rw [era] at g1
 rw [HX.out.2.1] at t0
 rw [HX.out.2.2] at t2
 have HB:=hide hb
 have KR:=hide (KR.out w1 HT1.out)
 clear K hb HT
 generalize s.th.length=tl at *
 go_wp2_with fail
 refine (unhide KR).mono ?_
 rintro e w4 ⟨k,a',c',hkk,rfl,hM,hkp⟩
 have hsz:=HB.out.size
 have HR:Hid (t.ns[k]?=some (z,i)∧SM w4 (Up S w.heap.size w4.heap.size) g (dpR s d t k i a' c')∧Kp S w w4) :=
  ⟨hkk,hM.kept (fun _ _=>rfl) (fun k q=>q.imp id (fun e=>⟨Nat.le_trans hsz e.1,e.2⟩)) (fun k q=>q.elim (fun e=>hM.lt k (.inl e)) (fun e=>e.2)),(Kp.of HB.out).trans hkp (fun k q=>.inl q)⟩
 clear KR hM hkp HB hkk HT1
 go_wp2_with fail
 go_ret
 exact ⟨k,a',c',HR.out.1,rfl,HR.out.2⟩

end Go.Proofs.YtknmgefpjdfenaaGreat

/- The reference's Create, Mkdir, Link. -/
namespace Go.Proofs.YtknmgefpjdfenaaGreat
set_option maxRecDepth 100000
set_option maxHeartbeats 8000000
open Go.RowKit Go.Shelf Go.Maps
set_option linter.unusedVariables false

def spE (p:List UInt8):Int:=match spl p with
 | none=>16
 | some _=>0

theorem rsplit_e {p:List UInt8} (w:World) (hp:p.length ≤ 9223372036854775807) :
  Calls Tryz.prog 71 #[.string (St p)] w fun e w'=>(∃ a n c,e=.returned (.tuple #[.slice a n c,.int .i64 (spE p)]))∧Below w.heap.size w w':=by
 unfold spE
 cases h:spl p with
 | none =>
  refine (rsplit_no w hp h).mono ?_
  rintro e w' ⟨⟨a,c,rfl⟩,hb⟩
  exact ⟨⟨a,0,c,rfl⟩,hb⟩
 | some ns =>
  refine (rsplit_yes w h).mono ?_
  rintro e w' ⟨a,c,rfl,_,hb⟩
  exact ⟨⟨a,_,c,rfl⟩,hb⟩

theorem rcreate_of {w:World} {g:Nat} {p:List UInt8} {Q:Ending→World→Prop} (K:Calls Tryz.prog 69 #[.pointer (some ⟨g,0,none⟩),.string (St p),.int .i64 1] w fun e w'=>∃ E,e=.returned (.int .i64 E)∧Q e w') :
  Calls Tryz.prog 24 #[.pointer (some ⟨g,0,none⟩),.string (St p)] w Q:=by
 have K:=hide K
 generalize St p=sp at *
 go_enter Tryz.func24,Tryz.ntmps24
 go_wp2_with fail
 refine (unhide K).mono ?_
 rintro e w1 ⟨E,rfl,hq⟩
 have HQ:=hide hq
 clear K hq
 go_wp2_with fail
 exact HQ.out

theorem rmkdir_of {w:World} {g:Nat} {p:List UInt8} {Q:Ending→World→Prop} (K:Calls Tryz.prog 69 #[.pointer (some ⟨g,0,none⟩),.string (St p),.int .i64 2] w fun e w'=>∃ E,e=.returned (.int .i64 E)∧Q e w') :
  Calls Tryz.prog 25 #[.pointer (some ⟨g,0,none⟩),.string (St p)] w Q:=by
 have K:=hide K
 generalize St p=sp at *
 go_enter Tryz.func25,Tryz.ntmps25
 go_wp2_with fail
 refine (unhide K).mono ?_
 rintro e w1 ⟨E,rfl,hq⟩
 have HQ:=hide hq
 clear K hq
 go_wp2_with fail
 exact HQ.out

def LkNo (s:RTr) (p q:List UInt8) (E:Int):Prop:=((spE p ≠ 0 ∨ spE q ≠ 0)∧E=16) ∨ (spE p=0∧spE q=0∧(((fdR s p).1=E∧E ≠ 0) ∨ ((fdR s p).1=0∧kiR s (fdR s p).2=2∧E=14) ∨ ((fdR s p).1=0∧kiR s (fdR s p).2 ≠ 2∧65535 ≤ lkR s (fdR s p).2∧E=5)))

theorem rlink_no {w:World} {S:Nat→Prop} {g:Nat} {s:RTr} (h:SM w S g s) (hs:Rs s) {p q:List UInt8} (hp:p.length ≤ 9223372036854775807) (hq:q.length ≤ 9223372036854775807) (hlk:∀ i,lkR s i ≤ 1000000000000000) {E:Int} (he:LkNo s p q E) :
  Calls Tryz.prog 27 #[.pointer (some ⟨g,0,none⟩),.string (St p),.string (St q)] w fun e w'=>e=.returned (.int .i64 E)∧Below w.heap.size w w':=by
 have K1:=hide (rsplit_e w hp)
 have K2:Hid (∀ u,Calls Tryz.prog 71 #[.string (St q)] u fun e w'=>(∃ a n c,e=.returned (.tuple #[.slice a n c,.int .i64 (spE q)]))∧Below u.heap.size u w'):=fun u=>rsplit_e u hq
 have KF:Hid (∀ u,SM u S g s→Calls Tryz.prog 72 #[.pointer (some ⟨g,0,none⟩),.string (St p)] u fun e w'=>e=.returned (.tuple #[.int .i64 ((fdR s p).2:Int),.int .i64 (fdR s p).1])∧Below u.heap.size u w'):=fun u hu=>rfind_any hu hs hp
 have HT:=hide h
 rcases he with ⟨hsp,rfl⟩ | ⟨e1,e2,he⟩
 ·by_cases h1:spE p=0
  ·have d2:(spE q == 0)=false:=by simpa using hsp.resolve_left (fun k=>k h1)
   rw [h1] at K1
   clear h hs hp hq hsp h1 KF hlk
   generalize spE q=eq at *
   generalize St p=sp at *
   generalize St q=sq at *
   go_enter Tryz.func27,Tryz.ntmps27
   go_wp2_with fail
   refine (unhide K1).mono ?_
   rintro e w1 ⟨⟨a,n,c,rfl⟩,hb⟩
   have HB:=hide hb
   have K2:=hide (K2.out w1)
   clear K1 hb HT
   go_wp2_with fail
   refine (unhide K2).mono ?_
   rintro e w2 ⟨⟨a2,n2,c2,rfl⟩,hb⟩
   have HB:=hide (HB.out.trans (hb.mono HB.out.size))
   clear K2 hb
   go_wp2_with fail
   go_ret
   exact ⟨rfl,HB.out⟩
  ·have d1:(spE p == 0)=false:=by simpa using h1
   clear h hs hp hq hsp h1 KF hlk
   generalize spE p=ep at *
   generalize spE q=eq at *
   generalize St p=sp at *
   generalize St q=sq at *
   go_enter Tryz.func27,Tryz.ntmps27
   go_wp2_with fail
   refine (unhide K1).mono ?_
   rintro e w1 ⟨⟨a,n,c,rfl⟩,hb⟩
   have HB:=hide hb
   have K2:=hide (K2.out w1)
   clear K1 hb HT
   go_wp2_with fail
   refine (unhide K2).mono ?_
   rintro e w2 ⟨⟨a2,n2,c2,rfl⟩,hb⟩
   have HB:=hide (HB.out.trans (hb.mono HB.out.size))
   clear K2 hb
   go_wp2_with fail
   go_ret
   exact ⟨rfl,HB.out⟩
 ·rw [e1] at K1
  rw [e2] at K2
  rcases fdR_ends hs p with ⟨q1,t,q2⟩ | ⟨q1,q2⟩
  ·have hil:(fdR s p).2 < s.th.length:=(List.getElem?_eq_some_iff.1 q2).1
   have hln:=hs.len
   have hi0:(0:Int) ≤ ((fdR s p).2:Int):=by omega
   have hil':((fdR s p).2:Int) < (s.th.length:Int):=by omega
   rw [q1] at KF
   rcases he with ⟨hE,hne⟩ | ⟨_,hk,rfl⟩ | ⟨_,hk,hl5,rfl⟩
   ·rw [q1] at hE; exact absurd hE.symm hne
   ·rw [kiR_of q2] at hk
    have HX:=hide (And.intro q2 hk)
    clear h hs q1 q2 hp hq hk hil e1 e2 hlk
    generalize (fdR s p).2=i at *
    generalize St p=sp at *
    generalize St q=sq at *
    go_enter Tryz.func27,Tryz.ntmps27
    go_wp2_with fail
    refine (unhide K1).mono ?_
    rintro e w1 ⟨⟨a,n,c,rfl⟩,hb⟩
    have HB:=hide hb
    have HT:=hide (HT.out.below hb)
    have K2:=hide (K2.out w1)
    clear K1 hb
    go_wp2_with fail
    refine (unhide K2).mono ?_
    rintro e w2 ⟨⟨a2,n2,c2,rfl⟩,hb⟩
    have HB:=hide (HB.out.trans (hb.mono HB.out.size))
    have HT:=hide (HT.out.below hb)
    have KF:=hide (KF.out w2 HT.out)
    clear K2 hb
    go_wp2_with fail
    refine (unhide KF).mono ?_
    rintro e w3 ⟨rfl,hb⟩
    have HB:=hide (HB.out.trans (hb.mono HB.out.size))
    have HT:=hide (HT.out.below hb)
    obtain ⟨rb,era,_,t0,_,_,_⟩:=HT.out.row.cell HX.out.1
    have g1:=HT.out.cells.2.1
    rw [era] at g1
    rw [HX.out.2] at t0
    clear KF hb
    generalize s.th.length=tl at *
    go_wp2_with fail
    go_ret
    exact ⟨rfl,HB.out⟩
   ·rw [kiR_of q2] at hk
    have d1:(t.k == 2)=false:=by simpa using hk
    have d2:decide ((lkR s (fdR s p).2:Int) ≥ 65535)=true:=by simp; omega
    have HX:=hide q2
    have KL:Hid (∀ u,SM u S g s→Calls Tryz.prog 73 #[.pointer (some ⟨g,0,none⟩),.int .i64 ((fdR s p).2:Int)] u fun e w'=>e=.returned (.int .i64 (lkR s (fdR s p).2:Int))∧w'=u):=fun u hu=>rlinks_any hu hs _ (by omega) (hlk _)
    clear h hs q1 q2 hp hq hk hil e1 e2 hlk hl5
    generalize (lkR s (fdR s p).2:Int)=lv at *
    generalize (fdR s p).2=i at *
    generalize St p=sp at *
    generalize St q=sq at *
    go_enter Tryz.func27,Tryz.ntmps27
    go_wp2_with fail
    refine (unhide K1).mono ?_
    rintro e w1 ⟨⟨a,n,c,rfl⟩,hb⟩
    have HB:=hide hb
    have HT:=hide (HT.out.below hb)
    have K2:=hide (K2.out w1)
    clear K1 hb
    go_wp2_with fail
    refine (unhide K2).mono ?_
    rintro e w2 ⟨⟨a2,n2,c2,rfl⟩,hb⟩
    have HB:=hide (HB.out.trans (hb.mono HB.out.size))
    have HT:=hide (HT.out.below hb)
    have KF:=hide (KF.out w2 HT.out)
    clear K2 hb
    go_wp2_with fail
    refine (unhide KF).mono ?_
    rintro e w3 ⟨rfl,hb⟩
    have HB:=hide (HB.out.trans (hb.mono HB.out.size))
    have HT:=hide (HT.out.below hb)
    have KL:=hide (KL.out w3 HT.out)
    obtain ⟨rb,era,_,t0,_,_,_⟩:=HT.out.row.cell HX.out
    have g1:=HT.out.cells.2.1
    rw [era] at g1
    clear KF hb
    generalize s.th.length=tl at *
    generalize t.k=tk at *
    go_wp2_with fail
    refine (unhide KL).mono ?_
    rintro e w4 ⟨rfl,rfl⟩
    clear KL
    go_wp2_with fail
    go_ret
    exact ⟨rfl,HB.out⟩
  ·rcases he with ⟨hE,hne⟩ | ⟨k,_⟩ | ⟨k,_⟩
   ·rw [hE,q2] at KF
    have d1:(E == 0)=false:=by simpa using hne
    clear h hs q1 q2 hp hq hne hE e1 e2 hlk
    generalize St p=sp at *
    generalize St q=sq at *
    go_enter Tryz.func27,Tryz.ntmps27
    go_wp2_with fail
    refine (unhide K1).mono ?_
    rintro e w1 ⟨⟨a,n,c,rfl⟩,hb⟩
    have HB:=hide hb
    have HT:=hide (HT.out.below hb)
    have K2:=hide (K2.out w1)
    clear K1 hb
    go_wp2_with fail
    refine (unhide K2).mono ?_
    rintro e w2 ⟨⟨a2,n2,c2,rfl⟩,hb⟩
    have HB:=hide (HB.out.trans (hb.mono HB.out.size))
    have HT:=hide (HT.out.below hb)
    have KF:=hide (KF.out w2 HT.out)
    clear K2 hb
    go_wp2_with fail
    refine (unhide KF).mono ?_
    rintro e w3 ⟨rfl,hb⟩
    have HB:=hide (HB.out.trans (hb.mono HB.out.size))
    clear KF hb HT
    go_wp2_with fail
    go_ret
    exact ⟨rfl,HB.out⟩
   ·omega
   ·omega

theorem rlink_of {w:World} {S:Nat→Prop} {g i:Nat} {s:RTr} {tx:RT} (h:SM w S g s) (hs:Rs s) {p q:List UInt8} (hp:p.length ≤ 9223372036854775807) (hq:q.length ≤ 9223372036854775807) (e1:spE p=0) (e2:spE q=0) (hf:fdR s p=(0,i)) (hi:s.th[i]?=some tx) (hk:tx.k ≠ 2) (hl:lkR s i < 65535) {Q:Int→World→World→Prop}
  (KA:∀ u,SM u S g s→Below w.heap.size w u→Calls Tryz.prog 74 #[.pointer (some ⟨g,0,none⟩),.string (St q),.int .i64 (i:Int)] u fun e w'=>∃ E,e=.returned (.int .i64 E)∧Q E w w') :
  Calls Tryz.prog 27 #[.pointer (some ⟨g,0,none⟩),.string (St p),.string (St q)] w fun e w'=>∃ E,e=.returned (.int .i64 E)∧Q E w w':=by
 have K1:=hide (rsplit_e w hp)
 have K2:Hid (∀ u,Calls Tryz.prog 71 #[.string (St q)] u fun e w'=>(∃ a n c,e=.returned (.tuple #[.slice a n c,.int .i64 (spE q)]))∧Below u.heap.size u w'):=fun u=>rsplit_e u hq
 have KF:Hid (∀ u,SM u S g s→Calls Tryz.prog 72 #[.pointer (some ⟨g,0,none⟩),.string (St p)] u fun e w'=>e=.returned (.tuple #[.int .i64 (i:Int),.int .i64 0])∧Below u.heap.size u w'):=fun u hu=>by
  have:=rfind_any hu hs hp
  rw [hf] at this
  exact this
 have HT:=hide h
 rw [e1] at K1
 rw [e2] at K2
 have hil:i < s.th.length:=(List.getElem?_eq_some_iff.1 hi).1
 have hln:=hs.len
 have hi0:(0:Int) ≤ (i:Int):=by omega
 have hil':(i:Int) < (s.th.length:Int):=by omega
 have d1:(tx.k == 2)=false:=by simpa using hk
 have d2:decide ((lkR s i:Int) ≥ 65535)=false:=by simp; omega
 have HX:=hide hi
 have KL:Hid (∀ u,SM u S g s→Calls Tryz.prog 73 #[.pointer (some ⟨g,0,none⟩),.int .i64 (i:Int)] u fun e w'=>e=.returned (.int .i64 (lkR s i:Int))∧w'=u):=fun u hu=>rlinks_any hu hs i (by omega) (by omega)
 have KA:=hide KA
 clear h hs hp hq hk hil e1 e2 hl hi hf
 generalize (lkR s i:Int)=lv at *
 generalize St p=sp at *
 generalize St q=sq at *
 go_enter Tryz.func27,Tryz.ntmps27
 go_wp2_with fail
 refine (unhide K1).mono ?_
 rintro e w1 ⟨⟨a,n,c,rfl⟩,hb⟩
 have HB:=hide hb
 have HT:=hide (HT.out.below hb)
 have K2:=hide (K2.out w1)
 clear K1 hb
 go_wp2_with fail
 refine (unhide K2).mono ?_
 rintro e w2 ⟨⟨a2,n2,c2,rfl⟩,hb⟩
 have HB:=hide (HB.out.trans (hb.mono HB.out.size))
 have HT:=hide (HT.out.below hb)
 have KF:=hide (KF.out w2 HT.out)
 clear K2 hb
 go_wp2_with fail
 refine (unhide KF).mono ?_
 rintro e w3 ⟨rfl,hb⟩
 have HB:=hide (HB.out.trans (hb.mono HB.out.size))
 have HT:=hide (HT.out.below hb)
 have KL:=hide (KL.out w3 HT.out)
 have KA:=hide (KA.out w3 HT.out HB.out)
 obtain ⟨rb,era,_,t0,_,_,_⟩:=HT.out.row.cell HX.out
 have g1:=HT.out.cells.2.1
 rw [era] at g1
 clear KF hb
 generalize s.th.length=tl at *
 generalize tx.k=tk at *
 go_wp2_with fail
 refine (unhide KL).mono ?_
 rintro e w4 ⟨rfl,rfl⟩
 clear KL
 go_wp2_with fail
 refine (unhide KA).mono ?_
 rintro e w5 ⟨E,rfl,hq⟩
 have HQ:=hide hq
 clear KA hq
 go_wp2_with fail
 go_ret
 exact ⟨E,rfl,HQ.out⟩

end Go.Proofs.YtknmgefpjdfenaaGreat

/- The reference's List, its refused ways. -/
namespace Go.Proofs.YtknmgefpjdfenaaGreat
set_option maxRecDepth 100000
set_option maxHeartbeats 8000000
open Go.RowKit Go.Shelf Go.Maps
set_option linter.unusedVariables false

theorem rlist_no {w:World} {S:Nat→Prop} {g:Nat} {s:RTr} (h:SM w S g s) (hs:Rs s) {p:List UInt8} (hp:p.length ≤ 9223372036854775807) {E:Int} (he:((fdR s p).1=E∧E ≠ 0) ∨ ((fdR s p).1=0∧kiR s (fdR s p).2 ≠ 2∧E=13)) :
  Calls Tryz.prog 34 #[.pointer (some ⟨g,0,none⟩),.string (St p)] w fun e w'=>e=.returned (.tuple #[.slice none 0 0,.int .i64 E])∧Below w.heap.size w w':=by
 have K:=rfind_any h hs hp
 have HT:=hide h
 rcases fdR_ends hs p with ⟨q1,t,q2⟩ | ⟨q1,q2⟩
 ·have hil:(fdR s p).2 < s.th.length:=(List.getElem?_eq_some_iff.1 q2).1
  have hln:=hs.len
  have hi0:(0:Int) ≤ ((fdR s p).2:Int):=by omega
  have hil':((fdR s p).2:Int) < (s.th.length:Int):=by omega
  rcases he with ⟨hE,hne⟩ | ⟨_,hk,rfl⟩
  ·rw [q1] at hE; exact absurd hE.symm hne
  ·rw [q1] at K
   have K:=hide K
   rw [kiR_of q2] at hk
   have d1:(t.k == 2)=false:=by simpa using hk
   have HX:=hide q2
   clear h hs q1 q2 hp hk hil
   generalize (fdR s p).2=i at *
   generalize St p=sp at *
   go_enter Tryz.func34,Tryz.ntmps34
   go_wp2_with fail
   refine (unhide K).mono ?_
   rintro e w1 ⟨rfl,hb⟩
   have HT1:=hide (HT.out.below hb)
   obtain ⟨rb,era,_,t0,_,_,_⟩:=HT1.out.row.cell HX.out
   have g1:=HT1.out.cells.2.1
   rw [era] at g1
   have HB:=hide hb
   clear K hb HT
   generalize s.th.length=tl at *
   generalize t.k=tk at *
   go_wp2_with fail
   go_ret2
   exact ⟨rfl,HB.out⟩
 ·rcases he with ⟨hE,hne⟩ | ⟨q,_⟩
  ·rw [hE,q2] at K
   have K:=hide K
   have d1:(E == 0)=false:=by simpa using hne
   clear h hs q1 q2 hp hne hE
   generalize St p=sp at *
   go_enter Tryz.func34,Tryz.ntmps34
   go_wp2_with fail
   refine (unhide K).mono ?_
   rintro e w1 ⟨rfl,hb⟩
   have HB:=hide hb
   clear K hb HT
   go_wp2_with fail
   go_ret2
   exact ⟨rfl,HB.out⟩
  ·omega

end Go.Proofs.YtknmgefpjdfenaaGreat

