/- Joined: WParts, WParts2, WCommit, WCommit2, WOps. -/
import Derived.Test.YtokngjcfkkceiaaGreatDoorInJ38
import Derived.Test.YtokngjcfkkceiaaGreatDoorInGScope
/- The contract of writeParts. -/
namespace Go.Proofs.YtokngjcfkkceiaaGreatDoor
set_option maxRecDepth 100000
set_option maxHeartbeats 8000000
open Go.RowKit Go.Shelf Go.Maps
set_option linter.unusedVariables false

theorem sizeOfW (w:World):(sizeOf (Tryz.prog.elem 115)).run Tryz.prog w=.ok 2 w:=by kernel_rfl

theorem elemW:Tryz.prog.underlying 115=some (.slice (Tryz.prog.elem 115)):=by kernel_rfl

def cutW (a:Option Addr) (cap l:Nat):Option Addr:=if cap=l then a else a.map (·.add (l*2))

theorem run_wcut (a:Option Addr)(len cap l:Nat)(h:l≤len)(w:World) :
  (Instr.slice 115 (.slice a len cap) (some (.int .i64 (l:Int))) none none).run Tryz.prog w=.ok (.slice (cutW a cap l) (len - l) (cap - l)) w:=by
 rw[run_slice_l (P:=Tryz.prog) (w:=w) 115 a len cap elemW .i64 l (by omega) (by omega),sizeOfW]
 simp only[Result.andThen,sliced]
 have e1:(l:Int).toNat=l:=by omega
 rw[e1]
 simp[cutW]

theorem run_whead (a:Option Addr)(len cap k:Nat)(h:k≤cap)(w:World) :
  (Instr.slice 115 (.slice a len cap) none (some (.int .i64 (k:Int))) none).run Tryz.prog w=.ok (.slice (cutW a cap 0) k cap) w:=by
 rw[run_slice_h (P:=Tryz.prog) (w:=w) 115 a len cap elemW .i64 k (by omega) (by omega),sizeOfW]
 simp only[Result.andThen,sliced]
 have e1:(k:Int).toNat=k:=by omega
 rw[e1]
 simp[cutW]

theorem wat_drop (V:List Wr)(l j:Nat):wat (V.drop l) j=wat V (l+j):=by simp[wat,List.getElem?_drop]

theorem wat_take {V:List Wr}{n j:Nat}(h:j<n):wat (V.take n) j=wat V j:=by simp[wat,List.getElem?_take_of_lt h]

theorem WHas.part {u:World}{a:Option Addr}{len cap:Nat}{V:List Wr}(h:WHas u a len V)(l k:Nat)(hc:len≤cap)(hl:l+k≤len):WHas u (cutW a cap l) k ((V.drop l).take k):=by
 refine⟨by simp[h.ln];omega,fun hp=>?_,fun j hj=>?_⟩
 ·obtain⟨kb,off,rfl,hk,hcs⟩:=h.cel (by omega)
  refine⟨kb,off+l*2,?_,hk,fun j hj=>?_⟩
  ·unfold cutW
   rw[if_neg (by omega),Option.map_some,World.add_zero_spot]
  ·rw[wat_take hj,wat_drop]
   have e:off+l*2+j*2=off+(l+j)*2:=by omega
   rw[e]
   exact hcs (l+j) (by omega)
 ·rw[wat_take hj,wat_drop]
  exact h.row (l+j) (by omega)

theorem WOut.part {S:Nat→Prop}{a:Option Addr}{len cap:Nat}{V:List Wr}(h:WOut S a len V)(l k:Nat)(hc:len≤cap)(hl:l+k≤len):WOut S (cutW a cap l) k ((V.drop l).take k):=by
 refine⟨fun hp x e hs=>?_,fun j hj hp x e hs=>?_⟩
 ·unfold cutW at e
  rw[if_neg (by omega)] at e
  cases a with
  | none=>simp at e
  | some y =>
   simp at e
   refine h.1 (by omega) y rfl ?_
   rw[← e] at hs
   unfold Addr.add at hs
   split at hs<;>exact hs
 ·rw[wat_take hj,wat_drop] at e hp
  exact h.2 (l+j) (by omega) hp x e hs

structure WQ (w:World) (S:Nat→Prop) (g dg:Nat) (P:Nat→Int) (G:Geo) (L:Lg) (b4 b6:Nat) (Hf:Hd) (eE:Int) (eD:Dev) (a:Option Addr) (len cap:Nat) (V:List Wr) (H:Hd) (D:Dev) (u:World) (Su:Nat→Prop):Prop where
 lv:Lv u Su g dg P G L D
 nx:Nx S w Su u
 z4:Bl u b4 #[.int .i64 0,.int .i64 0,.int .i64 0] 81
 o4:¬ Su b4
 z6:Bl u b6 (Hc H.fn) 81
 o6:¬ Su b6
 ne:b4≠b6
 ge:w.heap.size≤b4∧w.heap.size≤b6
 has0:WHas w a len V
 out0:WOut S a len V
 w0:0<w.heap.size
 cp:len≤cap∧cap≤9223372036854775807
 vok:VOk G V
 sq:H.seq+G.parts len≤4294967295
 us:H.tail+H.used+G.uses len≤10000
 rE:runE (partsS G H.seq (H.tail+H.used) (wl V)) D=eE
 rD:runD (partsS G H.seq (H.tail+H.used) (wl V)) D=eD
 rH:G.after H len=Hf

theorem WQ.ok {w:World}{S:Nat→Prop}{g dg:Nat}{P:Nat→Int}{G:Geo}{L:Lg}{b4 b6:Nat}{Hf:Hd}{eE:Int}{eD:Dev}{a:Option Addr}{len cap:Nat}{V:List Wr}{H:Hd}{D:Dev}{u:World}{Su:Nat→Prop}(h:WQ w S g dg P G L b4 b6 Hf eE eD a len cap V H D u Su):G.Ok:=by
 obtain⟨_,_,_,x⟩:=h.lv
 exact x.ll.pg.ok

theorem WQ.has {w:World}{S:Nat→Prop}{g dg:Nat}{P:Nat→Int}{G:Geo}{L:Lg}{b4 b6:Nat}{Hf:Hd}{eE:Int}{eD:Dev}{a:Option Addr}{len cap:Nat}{V:List Wr}{H:Hd}{D:Dev}{u:World}{Su:Nat→Prop}(h:WQ w S g dg P G L b4 b6 Hf eE eD a len cap V H D u Su):WHas u a len V:=(h.has0.nx h.nx h.out0).1

theorem WQ.out {w:World}{S:Nat→Prop}{g dg:Nat}{P:Nat→Int}{G:Geo}{L:Lg}{b4 b6:Nat}{Hf:Hd}{eE:Int}{eD:Dev}{a:Option Addr}{len cap:Nat}{V:List Wr}{H:Hd}{D:Dev}{u:World}{Su:Nat→Prop}(h:WQ w S g dg P G L b4 b6 Hf eE eD a len cap V H D u Su):WOut Su a len V:=(h.has0.nx h.nx h.out0).2

theorem Nx.since {S S':Nat→Prop}{w u:World}(h:Nx S w S' u){p:Addr}(hp:w.heap.size≤p.block)(v:Value):Nx S w S' (u.setCell p v) :=
 ⟨⟨h.fr.os,h.fr.tape,h.fr.output,by simpa [World.setCell] using h.fr.size,fun k hk hn=>(Below.heap_setCell u p v k (by omega)).trans (h.fr.block k hk hn)⟩,h.sub⟩

theorem VOk.sub {G:Geo}{V V':List Wr}(h:VOk G V)(hs:∀ v∈V',v∈V):VOk G V':=fun v hv=>h v (hs v hv)

def Hd.next (H:Hd) (n:Nat):Hd:=⟨H.seq+1,H.tail,H.used+(1+n)⟩

theorem wl_take (V:List Wr)(n:Nat):wl (V.take n)=(wl V).take n:=by simp[wl,List.map_take]

theorem wl_drop' (V:List Wr)(n:Nat):wl (V.drop n)=(wl V).drop n:=by simp[wl,List.map_drop]

theorem WQ.part {w:World}{S:Nat→Prop}{g dg:Nat}{P:Nat→Int}{G:Geo}{L:Lg}{b4 b6:Nat}{Hf:Hd}{eE:Int}{eD:Dev}{a:Option Addr}{len cap:Nat}{V:List Wr}{H:Hd}{D:Dev}{u:World}{Su:Nat→Prop}(h:WQ w S g dg P G L b4 b6 Hf eE eD a len cap V H D u Su)(hp:0<len)(n:Nat)(hn:n=min len G.most) :
  Calls Tryz.prog 233 #[.pointer (some ⟨g,0,none⟩),Hv H.fn,.slice (cutW a cap 0) n cap] u fun e u'=>∃ q:Int,e=.returned (.int .i64 q)∧(q=0∨q=7) ∧
   (q=7→eE=7∧Hid (∃ S',Lv u' S' g dg P G L eD∧Nx S w S' u'∧¬ S' b4)∧Hid (Bl u' b4 #[.int .i64 0,.int .i64 0,.int .i64 0] 81)) ∧
   (q=0→u'.cell? ⟨b6,0,none⟩=some (.int .i64 (H.seq:Int))∧u'.cell? ⟨b6,2,none⟩=some (.int .i64 (H.used:Int))∧(∀ k,u'.frozen? ⟨b6,k,none⟩=false) ∧
    Hid (∃ D' Su',WQ w S g dg P G L b4 b6 Hf eE eD (cutW a cap n) (len - n) (cap - n) (V.drop n) (H.next n) D' ((u'.setCell ⟨b6,0,none⟩ (.int .i64 ((H.seq+1:Nat):Int))).setCell ⟨b6,2,none⟩ (.int .i64 ((H.used+(1+n):Nat):Int))) Su')):=by
 have hG:=h.ok
 have hm:=hG.most
 have hnl:n≤len:=by omega
 have hnm:n≤G.most:=by omega
 have hcp:=h.cp
 have hlen:=h.has.ln
 have hh:=h.has.part 0 n hcp.1 (by omega)
 have ho:=h.out.part 0 n hcp.1 (by omega)
 rw[List.drop_zero] at hh ho
 have hps:=Geo.parts_step hG hp
 rw[← hn] at hps
 have hus:=h.us
 have hsq:=h.sq
 have hvt:VOk G (V.take n):=h.vok.sub (fun v hv=>List.mem_of_mem_take hv)
 have hne:wl V≠[]:=by
  intro e
  have:V.length=0:=by rw[← wl_len,e];rfl
  omega
 have hmin:min (wl V).length G.most=n:=by rw[wl_len,hlen];exact hn.symm
 have htk:(wl V).take G.most=wl (V.take n):=by
  rw[wl_take]
  by_cases hl:len≤G.most
  ·rw[List.take_of_length_le (by rw[wl_len];omega),List.take_of_length_le (by rw[wl_len];omega)]
  ·have:n=G.most:=by omega
   rw[this]
 have hdr:(wl V).drop G.most=wl (V.drop n):=by
  rw[wl_drop']
  by_cases hl:len≤G.most
  ·rw[List.drop_of_length_le (by rw[wl_len];omega),List.drop_of_length_le (by rw[wl_len];omega)]
  ·have:n=G.most:=by omega
   rw[this]
 have hsp:=partsS_cons hG H.seq (H.tail+H.used) hne
 rw[hmin,htk,hdr] at hsp
 have eE':=h.rE
 have eD':=h.rD
 rw[hsp,runE_append] at eE'
 rw[hsp,runD_append] at eD'
 refine(writePart_lj g dg Su P G L D H ⟨by omega,by omega⟩ u h.lv (cutW a cap 0) n cap (V.take n) hh ho hvt hnm).mono ?_
 rintro e u' ⟨rfl,J⟩
 refine⟨_,rfl,runE_two _ _,fun h7=>?_,fun h0=>?_⟩
 ·rw[if_neg (by omega)] at eE' eD'
  obtain⟨S',l1,n1⟩:=(unhide J).fin
  have k4:=n1.keep h.z4.lt h.o4
  exact⟨eE'.symm,⟨S',by rw[← eD'];exact l1,h.nx.trans n1,k4.2.1⟩,k4.1.trans h.z4⟩
 ·rw[if_pos h0] at eE' eD'
  obtain⟨S',l1,n1⟩:=(unhide J).fin
  have k4:=n1.keep h.z4.lt h.o4
  have k6:=n1.keep h.z6.lt h.o6
  have z6:Bl u' b6 (Hc H.fn) 81:=k6.1.trans h.z6
  have z4:Bl u' b4 #[.int .i64 0,.int .i64 0,.int .i64 0] 81:=k4.1.trans h.z4
  refine⟨z6.cell 0 _ rfl,z6.cell 2 _ rfl,z6.free,?_⟩
  have hk:∀ k,k≠b6→((u'.setCell ⟨b6,0,none⟩ (.int .i64 ((H.seq+1:Nat):Int))).setCell ⟨b6,2,none⟩ (.int .i64 ((H.used+(1+n):Nat):Int))).heap[k]?=u'.heap[k]?:=fun k hk =>
   (Below.heap_setCell _ ⟨b6,2,none⟩ _ k hk).trans (Below.heap_setCell _ ⟨b6,0,none⟩ _ k hk)
  have hsz:((u'.setCell ⟨b6,0,none⟩ (.int .i64 ((H.seq+1:Nat):Int))).setCell ⟨b6,2,none⟩ (.int .i64 ((H.used+(1+n):Nat):Int))).heap.size=u'.heap.size:=by simp[World.setCell]
  have z6':=(z6.set 0 (.int .i64 ((H.seq+1:Nat):Int))).set 2 (.int .i64 ((H.used+(1+n):Nat):Int))
  have hnx:=((h.nx.trans n1).since (p:=⟨b6,0,none⟩) h.ge.2 (.int .i64 ((H.seq+1:Nat):Int))).since (p:=⟨b6,2,none⟩) h.ge.2 (.int .i64 ((H.used+(1+n):Nat):Int))
  generalize ((u'.setCell ⟨b6,0,none⟩ (.int .i64 ((H.seq+1:Nat):Int))).setCell ⟨b6,2,none⟩ (.int .i64 ((H.used+(1+n):Nat):Int)))=u2 at *
  have kS:∀ k,S' k→u2.heap[k]?=u'.heap[k]?:=fun k hs=>hk k (fun e=>k6.2.1 (by rw[← e];exact hs))
  have hu1:G.uses len=1+n+G.uses (len - n):=by unfold Geo.uses;omega
  have hhas:=h.has0.part n (len - n) hcp.1 (by omega)
  have hout:=h.out0.part n (len - n) hcp.1 (by omega)
  rw[List.take_of_length_le (by simp;omega)] at hhas hout
  have ea:H.tail+(H.used+(1+n))=H.tail+H.used+1+n:=by omega
  refine⟨runD (partS G H.seq (H.tail+H.used) (wl (V.take n))) D,S',?_,hnx,(hk b4 h.ne).trans z4,k4.2.1,z6',k6.2.1,h.ne,h.ge,hhas,hout,h.w0,⟨by omega,by omega⟩,h.vok.sub (fun v hv=>List.mem_of_mem_drop hv),?_,?_,?_,?_,?_⟩
  ·obtain⟨Sl,Sd,m,l1⟩:=l1
   refine(l1.keptAll kS (hk 0 (fun e=>?_)) (by omega)).lv
   have:=h.ge.2
   have:=h.w0
   omega
  ·show H.seq+1+G.parts (len - n)≤4294967295
   omega
  ·show H.tail+(H.used+(1+n))+G.uses (len - n)≤10000
   omega
  ·show runE (partsS G (H.seq+1) (H.tail+(H.used+(1+n))) (wl (V.drop n))) _=eE
   rw[ea]
   exact eE'
  ·show runD (partsS G (H.seq+1) (H.tail+(H.used+(1+n))) (wl (V.drop n))) _=eD
   rw[ea]
   exact eD'
  ·rw[← h.rH]
   show Hd.mk (H.seq+1+G.parts (len - n)) H.tail (H.used+(1+n)+G.uses (len - n))=Hd.mk (H.seq+G.parts len) H.tail (H.used+G.uses len)
   rw[hps,hu1]
   congr 1<;>omega

theorem WQ.later {w:World}{S:Nat→Prop}{g dg:Nat}{P:Nat→Int}{G:Geo}{L:Lg}{b4 b6:Nat}{Hf:Hd}{eE:Int}{eD:Dev}{a:Option Addr}{len cap:Nat}{V:List Wr}{H:Hd}{D:Dev}{u u':World}{Su:Nat→Prop}(h:WQ w S g dg P G L b4 b6 Hf eE eD a len cap V H D u Su)(hb:Below u.heap.size u u'):WQ w S g dg P G L b4 b6 Hf eE eD a len cap V H D u' Su :=
 ⟨h.lv.below hb,h.nx.below' hb,h.z4.call hb,h.o4,h.z6.call hb,h.o6,h.ne,h.ge,h.has0,h.out0,h.w0,h.cp,h.vok,h.sq,h.us,h.rE,h.rD,h.rH⟩

def WqJ (w:World) (S:Nat→Prop) (g dg:Nat) (P:Nat→Int) (G:Geo) (L:Lg) (b4 b6:Nat) (Hf:Hd) (eE:Int) (eD:Dev) (a':Act) (w':World):Prop :=
 ∃ a len cap V H D Su,WQ w S g dg P G L b4 b6 Hf eE eD a len cap V H D w' Su∧∃ u2 u3 u7 u8 u9 u10 u11 u12 u13 u14 u15 u16 u17 u18 u19 u20 u21 u22 u23 u24 u25 u26 u27 u28 u29 u30 u31 u32 u33 u34 u35 u36 u37 u38 u39 u40 u41 u42 u43 u44 u45 u46 u47:Value,a'={ tmps:=#[.pointer (some ⟨g,0,none⟩),.slice a len cap,u2,u3,.pointer (some ⟨b4,0,none⟩),.int .i64 0,.pointer (some ⟨b6,0,none⟩),u7,u8,u9,u10,u11,u12,u13,u14,u15,u16,u17,u18,u19,u20,u21,u22,u23,u24,u25,u26,u27,u28,u29,u30,u31,u32,u33,u34,u35,u36,u37,u38,u39,u40,u41,u42,u43,u44,u45,u46,u47],defers:=[] }

theorem WqJ.mk {w:World}{S:Nat→Prop}{g dg:Nat}{P:Nat→Int}{G:Geo}{L:Lg}{b4 b6:Nat}{Hf:Hd}{eE:Int}{eD:Dev}{a:Option Addr}{len cap:Nat}{V:List Wr}{H:Hd}{D:Dev}{w':World}{Su:Nat→Prop}(h:WQ w S g dg P G L b4 b6 Hf eE eD a len cap V H D w' Su){u2 u3 u7 u8 u9 u10 u11 u12 u13 u14 u15 u16 u17 u18 u19 u20 u21 u22 u23 u24 u25 u26 u27 u28 u29 u30 u31 u32 u33 u34 u35 u36 u37 u38 u39 u40 u41 u42 u43 u44 u45 u46 u47:Value} :
  WqJ w S g dg P G L b4 b6 Hf eE eD { tmps:=#[.pointer (some ⟨g,0,none⟩),.slice a len cap,u2,u3,.pointer (some ⟨b4,0,none⟩),.int .i64 0,.pointer (some ⟨b6,0,none⟩),u7,u8,u9,u10,u11,u12,u13,u14,u15,u16,u17,u18,u19,u20,u21,u22,u23,u24,u25,u26,u27,u28,u29,u30,u31,u32,u33,u34,u35,u36,u37,u38,u39,u40,u41,u42,u43,u44,u45,u46,u47],defers:=[] } w':=⟨a,len,cap,V,H,D,Su,h,_,_,_,_,_,_,_,_,_,_,_,_,_,_,_,_,_,_,_,_,_,_,_,_,_,_,_,_,_,_,_,_,_,_,_,_,_,_,_,_,_,_,_,rfl⟩

def wqMu (a':Act) (_:World):Nat:=lenOf (a'.tmps.getD 1 undef)

theorem WQ.done {w:World}{S:Nat→Prop}{g dg:Nat}{P:Nat→Int}{G:Geo}{L:Lg}{b4 b6:Nat}{Hf:Hd}{eE:Int}{eD:Dev}{a:Option Addr}{cap:Nat}{V:List Wr}{H:Hd}{D:Dev}{u:World}{Su:Nat→Prop}(h:WQ w S g dg P G L b4 b6 Hf eE eD a 0 cap V H D u Su):0=eE∧Hf=H∧∃ S',Lv u S' g dg P G L eD∧Nx S w S' u:=by
 have hV:V=[]:=List.eq_nil_of_length_eq_zero h.has0.ln
 have e1:=h.rE
 have e2:=h.rD
 have e3:=h.rH
 subst hV
 have ew:wl ([]:List Wr)=[]:=rfl
 rw[ew,partsS_nil] at e1 e2
 refine⟨e1,?_,Su,?_,h.nx⟩
 ·rw[← e3]
  show Hd.mk (H.seq+G.parts 0) H.tail (H.used+(0+G.parts 0))=H
  rw[Geo.parts_zero h.ok]
  cases H
  rfl
 ·rw[← e2]
  exact h.lv

theorem setAll_other {g:Nat}:∀ (vs:List Value) (u:World) (k j:Nat),j≠g→(setAll u g k vs).heap[j]?=u.heap[j]?:=by
 intro vs
 induction vs with
 | nil=>intro u k j _;rfl
 | cons v vs ih=>intro u k j hj;exact(ih _ _ _ hj).trans (Below.heap_setCell u ⟨g,k,none⟩ v j hj)

theorem setAll_size {g:Nat}:∀ (vs:List Value) (u:World) (k:Nat),(setAll u g k vs).heap.size=u.heap.size:=by
 intro vs
 induction vs with
 | nil=>intro u k;rfl
 | cons v vs ih=>intro u k;exact(ih _ _).trans (by simp[World.setCell])

theorem Lv.beside {u:World}{S:Nat→Prop}{g dg:Nat}{P:Nat→Int}{G:Geo}{L:Lg}{D:Dev}(h:Lv u S g dg P G L D){b:Nat}(hb:¬ S b)(h0:b≠0)(vs:List Value)(k:Nat):Lv (setAll u b k vs) S g dg P G L D:=by
 obtain⟨Sl,Sd,m,h⟩:=h
 exact(h.keptAll (fun j hj=>setAll_other vs u k j (fun e=>hb (by rw[← e];exact hj))) (setAll_other vs u k 0 (fun e=>h0 e.symm)) (by rw[setAll_size];exact Nat.le_refl _)).lv

theorem Nx.sinceAll {S S':Nat→Prop}{w:World}{b:Nat}(hb:w.heap.size≤b):∀ (vs:List Value) (u:World) (k:Nat),Nx S w S' u→Nx S w S' (setAll u b k vs):=by
 intro vs
 induction vs with
 | nil=>intro u k h;exact h
 | cons v vs ih=>intro u k h;exact ih _ _ (h.since (p:=⟨b,k,none⟩) hb v)

theorem hd_nums2 (s u n:Nat)(h2:u≤10000)(h3:n≤100000):((s+1:Nat):Int)=(s:Int)+1∧((u+(1+n):Nat):Int)=wrap64 ((u:Int)+wrap64 (1+(n:Int))):=by
 refine⟨by omega,?_⟩
 have:wrap64 (1+(n:Int))=1+(n:Int):=by unfold wrap64;omega
 rw[this]
 unfold wrap64
 omega

theorem writeParts_any (g dg:Nat)(S:Nat→Prop)(P:Nat→Int)(G:Geo)(L:Lg)(D:Dev)(w:World)(h:Lv w S g dg P G L D)(a:Option Addr)(len cap:Nat)(V:List Wr)(hV:WHas w a len V)(hO:WOut S a len V)(hvo:VOk G V)(hc:len≤cap∧cap≤9223372036854775807)(hs:L.h.seq+G.parts len≤4294967295)(hu:L.h.tail+L.h.used+G.uses len≤10000) :
  Calls Tryz.prog 211 #[.pointer (some ⟨g,0,none⟩),.slice a len cap] w fun e w' =>
   (runE (partsS G L.h.seq (L.h.tail+L.h.used) (wl V)) D=0→e=.returned (.tuple #[Hv (G.after L.h len).fn,.int .i64 0]))∧(runE (partsS G L.h.seq (L.h.tail+L.h.used) (wl V)) D≠0→e=.returned (.tuple #[Hv (fun _=>0),.int .i64 7])) ∧
   Hid (∃ S',Lv w' S' g dg P G L (runD (partsS G L.h.seq (L.h.tail+L.h.used) (wl V)) D)∧Nx S w S' w'):=by
 have hw0:0<w.heap.size:=by obtain⟨_,_,_,x⟩:=h;exact x.tab.lt
 have b1:Below w.heap.size w (w.alloc (.cells #[.int .i64 0,.int .i64 0,.int .i64 0] 81)):=(Below.refl _ w).alloc (Nat.le_refl _) _
 have b2:Below (w.alloc (.cells #[.int .i64 0,.int .i64 0,.int .i64 0] 81)).heap.size (w.alloc (.cells #[.int .i64 0,.int .i64 0,.int .i64 0] 81)) ((w.alloc (.cells #[.int .i64 0,.int .i64 0,.int .i64 0] 81)).alloc (.cells (Hc L.h.fn) 81)):=(Below.refl _ _).alloc (Nat.le_refl _) _
 have s1:(w.alloc (.cells #[.int .i64 0,.int .i64 0,.int .i64 0] 81)).heap.size=w.heap.size+1:=by simp
 have b12:Below w.heap.size w ((w.alloc (.cells #[.int .i64 0,.int .i64 0,.int .i64 0] 81)).alloc (.cells (Hc L.h.fn) 81)):=b1.trans (b2.mono b1.size)
 have Q0:Hid (WQ w S g dg P G L w.heap.size (w.heap.size+1) (G.after L.h len) (runE (partsS G L.h.seq (L.h.tail+L.h.used) (wl V)) D) (runD (partsS G L.h.seq (L.h.tail+L.h.used) (wl V)) D) a len cap V L.h D ((w.alloc (.cells #[.int .i64 0,.int .i64 0,.int .i64 0] 81)).alloc (.cells (Hc L.h.fn) 81)) S):=by
  have z6:=Bl.new (w.alloc (.cells #[.int .i64 0,.int .i64 0,.int .i64 0] 81)) (Hc L.h.fn) 81
  rw[s1] at z6
  exact⟨h.below b12,(Nx.refl S w).below' b12,(Bl.new w _ _).alloc _,fun hs=>by have:=h.lt hs;omega,z6,fun hs=>by have:=h.lt hs;omega,by omega,⟨Nat.le_refl _,Nat.le_succ _⟩,hV,hO,hw0,hc,hvo,hs,hu,rfl,rfl,rfl⟩
 have d3:∀ (u:World) (k:Nat) (v:Value),u=u:=fun _ _ _=>rfl
 have K0:Hid (∀ u Su a len cap V H D b4 b6 Hf eE eD,WQ w S g dg P G L b4 b6 Hf eE eD a len cap V H D u Su→u.cell? ⟨g,1,none⟩=some (.int .i64 (P 0))∧u.cell? ⟨g,2,none⟩=some (.int .i64 (P 1))∧u.cell? ⟨g,3,none⟩=some (.int .i64 (P 2))∧u.cell? ⟨g,4,none⟩=some (.int .i64 (P 3))∧u.cell? ⟨g,5,none⟩=some (.int .i64 (P 4))∧u.cell? ⟨g,6,none⟩=some (.int .i64 (P 5))∧u.cell? ⟨g,7,none⟩=some (.int .i64 (P 6))∧u.cell? ⟨g,8,none⟩=some (.int .i64 (P 7))∧u.cell? ⟨g,9,none⟩=some (.int .i64 (P 8))∧u.cell? ⟨g,10,none⟩=some (.int .i64 (P 9))∧u.cell? ⟨g,11,none⟩=some (.int .i64 (P 10))∧u.cell? ⟨g,12,none⟩=some (.int .i64 (P 11))):=fun u Su a len cap V H D b4 b6 Hf eE eD hq=>by
  obtain⟨_,_,_,x⟩:=hq.lv
  exact⟨x.ll.cells.2.1 0 (by omega),x.ll.cells.2.1 1 (by omega),x.ll.cells.2.1 2 (by omega),x.ll.cells.2.1 3 (by omega),x.ll.cells.2.1 4 (by omega),x.ll.cells.2.1 5 (by omega),x.ll.cells.2.1 6 (by omega),x.ll.cells.2.1 7 (by omega),x.ll.cells.2.1 8 (by omega),x.ll.cells.2.1 9 (by omega),x.ll.cells.2.1 10 (by omega),x.ll.cells.2.1 11 (by omega)⟩
 have KM:Hid (∀ u,Calls Tryz.prog 231 #[Pv P] u fun e w'=>e=.returned (.int .i64 (G.most:Int))∧Below u.heap.size u w'):=fun u=>by
  obtain⟨_,_,_,x⟩:=h
  exact most_any P G x.ll.pg u
 have hm:Hid (27≤G.most∧G.most≤2043):=by
  obtain⟨_,_,_,x⟩:=h
  exact x.ll.pg.ok.most
 have HL:=hide h
 have lc:∀ k,k<3→((w.alloc (.cells #[.int .i64 0,.int .i64 0,.int .i64 0] 81)).cell? ⟨g,13+k,none⟩=some (.int .i64 (L.h.fn k))):=fun k hk=>by
  obtain⟨_,_,_,x⟩:=h.below b1
  obtain⟨_,_,c3,c4,c5,_⟩:=x.ll.cells
  have:k=0∨k=1∨k=2:=by omega
  rcases this with rfl | rfl | rfl
  ·exact c3
  ·exact c4
  ·exact c5
 have l0:=lc 0 (by omega)
 have l1:=lc 1 (by omega)
 have l2:=lc 2 (by omega)
 clear h hV hO hvo hc hs hu b1 b2 b12 s1 lc d3 hw0 HL
 generalize runE (partsS G L.h.seq (L.h.tail+L.h.used) (wl V)) D=eE at *
 generalize runD (partsS G L.h.seq (L.h.tail+L.h.used) (wl V)) D=eD at *
 generalize G.after L.h len=Hf at *
 go_enter Tryz.func211,Tryz.ntmps211
 go_wp2_with fail
 refine wp_scope_one 0 (WqJ w S g dg P G L w.heap.size (w.heap.size+1) Hf eE eD) wqMu rfl ?_ ?_
 ·intro a' w' hJ
  clear Q0 l0 l1 l2
  obtain⟨a,len,cap,V,H,D,Su,hQ,u2,u3,u7,u8,u9,u10,u11,u12,u13,u14,u15,u16,u17,u18,u19,u20,u21,u22,u23,u24,u25,u26,u27,u28,u29,u30,u31,u32,u33,u34,u35,u36,u37,u38,u39,u40,u41,u42,u43,u44,u45,u46,u47,rfl⟩:=hJ
  have hw0:=hQ.w0
  have hb4:=hQ.ge
  generalize hB6:w.heap.size+1=b6 at *
  have x0:=hQ.z6.cell 0 (.int .i64 (H.seq:Int)) rfl
  have x1:=hQ.z6.cell 1 (.int .i64 (H.tail:Int)) rfl
  have x2:=hQ.z6.cell 2 (.int .i64 (H.used:Int)) rfl
  have y0:=hQ.z4.cell 0 (.int .i64 0) rfl
  have y1:=hQ.z4.cell 1 (.int .i64 0) rfl
  have y2:=hQ.z4.cell 2 (.int .i64 0) rfl
  have y3:=hQ.z4.free
  have HW:=hide (⟨hw0,hb4⟩:0<w.heap.size∧_)
  clear hw0 hb4
  have HB6:=hide hB6
  clear hB6
  by_cases hl:len=0
  ·subst hl
   have ZD:=hide hQ.done
   have Z4:=hide hQ.z4
   have O4:=hide hQ.o4
   have L1:=hide hQ.lv
   have N1:=hide hQ.nx
   have R1:=hide hQ.rD
   have X:Hid (∃ S',Lv (setAll w' w.heap.size 0 [.int .i64 (H.seq:Int),.int .i64 (H.tail:Int),.int .i64 (H.used:Int)]) S' g dg P G L eD∧Nx S w S' (setAll w' w.heap.size 0 [.int .i64 (H.seq:Int),.int .i64 (H.tail:Int),.int .i64 (H.used:Int)])):=by
    have hd:=hQ.rD
    have hV:V=[]:=List.eq_nil_of_length_eq_zero hQ.has0.ln
    rw[hV] at hd
    have ew:wl ([]:List Wr)=[]:=rfl
    rw[ew,partsS_nil] at hd
    exact⟨Su,by rw[← hd];exact hQ.lv.beside hQ.o4 (by have:=(unhide HW).1;omega) _ _,Nx.sinceAll (unhide HW).2.1 _ _ _ hQ.nx⟩
   have hA:=hide (setAll_whole [.int .i64 (H.seq:Int),.int .i64 (H.tail:Int),.int .i64 (H.used:Int)] _ _ hQ.z4 rfl)
   clear hQ K0 KM hm Z4 O4 L1 N1 R1
   go_wp2_with fail
   simp only[Exit.jump]
   change bodyPost _ _ _ _ _ (setAll w' w.heap.size 0 [.int .i64 (H.seq:Int),.int .i64 (H.tail:Int),.int .i64 (H.used:Int)])
   replace hA:=unhide hA
   replace X:=unhide X
   generalize setAll w' w.heap.size 0 [.int .i64 (H.seq:Int),.int .i64 (H.tail:Int),.int .i64 (H.used:Int)]=wf at *
   refine bodyPost_ret (v:=.tuple #[.agg #[.int .i64 (H.seq:Int),.int .i64 (H.tail:Int),.int .i64 (H.used:Int)],.int .i64 0]) ?_ rfl ⟨fun _=>by rw[(unhide ZD).2.1];rfl,fun h=>False.elim (h (unhide ZD).1.symm),X⟩
   simp[results,Tryz.results211,go_sem,hA.cell 0 _ rfl,hA.cell 1 _ rfl,hA.cell 2 _ rfl]
  ·have hp:0<len:=by omega
   obtain⟨n,hn⟩:∃ n,n=min len G.most:=⟨_,rfl⟩
   have hcp:=hQ.cp
   have hus:=hQ.us
   have hsq:=hQ.sq
   have hmo:=unhide hm
   have KP:=hide (fun u' (hb:Below w'.heap.size w' u')=>(hQ.later hb).part hp n hn)
   have r1:∀ w:World,_:=fun w=>run_whead a len cap n (by omega) w
   have r2:∀ w:World,_:=fun w=>run_wcut a len cap n (by omega) w
   obtain⟨q0,q1,q2,q3,q4,q5,q6,q7,q8,q9,q10,q11⟩:=unhide K0 _ _ _ _ _ _ _ _ _ _ _ _ _ hQ
   have KX:Hid (∀ u',Below w'.heap.size w' u'→u'.cell? ⟨b6,0,none⟩=some (.int .i64 (H.seq:Int))∧u'.cell? ⟨b6,1,none⟩=some (.int .i64 (H.tail:Int))∧u'.cell? ⟨b6,2,none⟩=some (.int .i64 (H.used:Int))):=fun u' hb=>⟨(hQ.z6.call hb).cell 0 _ rfl,(hQ.z6.call hb).cell 1 _ rfl,(hQ.z6.call hb).cell 2 _ rfl⟩
   have hlI:¬ (len:Int)=0:=by omega
   have hmin:min (len:Int) (G.most:Int)=(n:Int):=by omega
   have HN:=hide hn
   have hMu:Hid (len - n<len):=by show _<_;omega
   have hl0:((len:Int)==0)=false:=by simpa using hl
   have HD:=hide (hd_nums2 H.seq H.used n (by omega) (by omega))
   have hsq2:H.seq≤4294967295:=by omega
   clear hQ K0 hl hn hmo hcp hus hsq
   go_wp2_with fail
   go_at_call 231
   refine(unhide KM _).mono ?_
   rintro e u1 ⟨rfl,hb1⟩
   obtain⟨f0,f1,f2⟩:=unhide KX _ hb1
   have B1:=hide hb1
   clear KM q0 q1 q2 q3 q4 q5 q6 q7 q8 q9 q10 q11 x0 x1 x2 y0 y1 y2 y3 hb1
   clear KX
   go_upto_region 5 with fail
   go_cut [8] (fun c wx=>∃ q:Int,c=.int .i64 q∧(q=0∨q=7)∧Hid ((q=7→eE=7∧Hid (∃ S',Lv wx S' g dg P G L eD∧Nx S w S' wx∧¬ S' w.heap.size)∧Hid (Bl wx w.heap.size #[.int .i64 0,.int .i64 0,.int .i64 0] 81)) ∧
    (q=0→wx.cell? ⟨b6,0,none⟩=some (.int .i64 (H.seq:Int))∧wx.cell? ⟨b6,2,none⟩=some (.int .i64 (H.used:Int))∧(∀ k,wx.frozen? ⟨b6,k,none⟩=false) ∧
    Hid (∃ D' Su',WQ w S g dg P G L w.heap.size b6 Hf eE eD (cutW a cap n) (len - n) (cap - n) (V.drop n) (H.next n) D' ((wx.setCell ⟨b6,0,none⟩ (.int .i64 ((H.seq+1:Nat):Int))).setCell ⟨b6,2,none⟩ (.int .i64 ((H.used+(1+n):Nat):Int))) Su'))))
   case first =>
    clear hmin hMu HN HW HB6 r2 HD hsq2
    go_region_with (go_at_call 233;refine(unhide KP _ (unhide B1).drew).mono ?_;rintro e u2 ⟨q,rfl,hq,h7,h0⟩;have H7:=hide h7;have H0:=hide h0;clear h7 h0)
    all_goals
     go_wp2_with fail
     go_meet
     exact⟨q,rfl,hq,unhide H7,unhide H0⟩
   case rest =>
    obtain⟨q,rfl,hq,HQ⟩:=hcut
    clear KP B1 f0 f1 f2 r1 hmin
    rcases hq with rfl | rfl
    ·obtain⟨c0,c2,fr,X⟩:=(unhide HQ).2 rfl
     obtain⟨D',Su',XX⟩:=unhide X
     rw[(unhide HD).1,(unhide HD).2] at XX
     have X2:=hide XX
     clear HQ X XX
     go_wp2_with fail
     go_step3
     exact⟨rfl,WqJ.mk (unhide X2),by simp[wqMu,lenOf];have:=unhide hMu;omega⟩
    ·obtain⟨z1,X,Z⟩:=(unhide HQ).1 rfl
     have Z1:=hide z1
     have y0:=(unhide Z).cell 0 (.int .i64 0) rfl
     have y1:=(unhide Z).cell 1 (.int .i64 0) rfl
     have y2:=(unhide Z).cell 2 (.int .i64 0) rfl
     have y3:=(unhide Z).free
     clear HQ z1 r2 HD
     go_wp2_with fail
     simp only[Exit.jump]
     change bodyPost _ _ _ _ _ (setAll wc w.heap.size 0 [.int .i64 0,.int .i64 0,.int .i64 0])
     have hA:=setAll_whole [.int .i64 0,.int .i64 0,.int .i64 0] _ _ (unhide Z) rfl
     have hX:∃ S',Lv (setAll wc w.heap.size 0 [.int .i64 0,.int .i64 0,.int .i64 0]) S' g dg P G L eD∧Nx S w S' (setAll wc w.heap.size 0 [.int .i64 0,.int .i64 0,.int .i64 0]):=by
      obtain⟨S',l1,n1,o1⟩:=unhide X
      exact⟨S',l1.beside o1 (by have:=(unhide HW).1;omega) _ _,Nx.sinceAll (unhide HW).2.1 _ _ _ n1⟩
     generalize setAll wc w.heap.size 0 [.int .i64 0,.int .i64 0,.int .i64 0]=wf at *
     refine bodyPost_ret (v:=.tuple #[.agg #[.int .i64 0,.int .i64 0,.int .i64 0],.int .i64 7]) ?_ rfl ⟨fun h=>False.elim (by rw[unhide Z1] at h;omega),fun _=>rfl,hX⟩
     simp[results,Tryz.results211,go_sem,hA.cell 0 _ rfl,hA.cell 1 _ rfl,hA.cell 2 _ rfl]
 ·intro N
  have N1:=hide N
  clear N K0 KM hm
  go_wp2_with fail
  go_step3
  rename_i hK
  refine hK _ _ ?_
  exact unhide N1 _ _ (WqJ.mk (unhide Q0))

theorem Own.at9 {B:Nat}{w:World}{a:Option Addr}{n c:Nat}{zs:List Int}(h:Own B w a n c zs)(hp:0<n)(hz:∀ z∈zs,0≤z∧z≤255){S:Nat→Prop}(hS:∀ k,B≤k→k<w.heap.size→S k):∃ r,a=some ⟨r,0,none⟩∧RowAt w S n (r,c) zs:=by
 obtain⟨h1,h2,h3,h4⟩:=h
 rcases h4 with ⟨_,h0,_⟩ | ⟨g,cur,e,hg,hh,hc,ht⟩
 ·omega
 ·refine⟨g,e,⟨⟨h1,cur,hh,?_⟩,hS g hg (Array.getElem?_eq_some_iff.1 hh).1,h2,h3,hz⟩⟩
  exact ht

theorem lj_put {w:World}{S:Nat→Prop}{g dg:Nat}{P:Nat→Int}{G:Geo}{cs:Array Value}{a:Option Addr}{len:Nat}{V:List Wr}{L:Lg}{D:Dev}{u:World}(h:LJ w S g dg P G cs a len V L D u){k:Nat}(hk:k<len)(hd:(wat V k).dl=G.blk)(b:Nat)(hi:b<G.n) :
  ∃ mb,u.cell? ⟨g,16,none⟩=some (.map (some mb))∧Hid (Calls Tryz.prog 113 #[.slice (wat V k).da (wat V k).dl (wat V k).dc] u fun e u1=>∃ a' c',e=.returned (.slice a' G.blk c')∧Below u.heap.size u u1∧u1.cell? ⟨g,16,none⟩=some (.map (some mb))∧∃ u2,(Instr.mapUpdate 78 (.map (some mb)) (.int .i64 (b:Int)) (.slice a' G.blk c')).run Tryz.prog u1=.ok () u2 ∧
   Hid (LJ w S g dg P G cs a len V { L with Q:=fun j=>if j=b then some (wat V k).z else L.Q j } D u2)):=by
 obtain⟨Sd,_,_,_,_,_,d6,_⟩:=h.step
 have hr:=d6.row k hk
 have hG:G.Ok:=by obtain⟨_,_,x⟩:=h.lg;exact x.pg.ok
 have hbk:=hG.blk
 obtain⟨x,ex⟩:∃ x,(wat V k).da=some x:=by
  obtain⟨_,_,_,_,h5⟩:=hr
  obtain⟨q,off,e,_⟩:=h5 (by rw[hd];omega)
  exact⟨_,e⟩
 obtain⟨Sl,m,l1,l2⟩:=h.own
 refine⟨m.mb,l1.cells.2.2.2.2.2.1,?_⟩
 have hh:=hr.has
 rw[ex,hd] at hh ⊢
 refine(bclone_any x G.blk (wat V k).dc (wat V k).z u hh (by omega)).mono ?_
 rintro e u1 ⟨a',c',rfl,o1,b1⟩
 obtain⟨_,_,_,hbyt,_⟩:=hr
 have hlu:LgM u1 (exS Sl u u1) g dg P G L m:=l1.kept (fun k hk=>b1.block k (l1.lt k hk)) (fun k hk=>.inl hk) (fun k hk=>by
  rcases hk with hk | hk
  ·exact Nat.lt_of_lt_of_le (l1.lt k hk) b1.size
  ·exact hk.2)
 obtain⟨r,er,hrow⟩:=o1.at9 (S:=exS Sl u u1) (by omega) hbyt (fun k h1 h2=>.inr ⟨h1,h2⟩)
 obtain⟨u2,r2,l3,n3⟩:=hlu.put hi hrow
 have e1:rv G.blk (r,c')=.slice a' G.blk c':=by rw[er]
 rw[e1] at r2
 exact⟨a',c',rfl,b1,hlu.cells.2.2.2.2.2.1,u2,r2,l2 _ _ _ _ l3 ((Nx.grow b1).trans n3)⟩

theorem setW_snoc {Q:Nat→Option (List Int)}{V:List Wr}{k:Nat}(hk:k<V.length)(b:Nat)(hb:(wat V k).b=(b:Int)):setW Q ((wl V).take (k+1))=fun j=>if j=b then some (wat V k).z else setW Q ((wl V).take k) j:=by
 have h1:k<(wl V).length:=by rw[wl_len];exact hk
 rw[List.take_succ_eq_append_getElem h1,setW_append]
 have e:(wl V)[k]=(b,(wat V k).z):=by
  have:(wl V)[k]?=some ((wat V k).b.toNat,(wat V k).z):=by simp[wl,wat,List.getElem?_eq_getElem hk]
  rw[List.getElem?_eq_getElem h1,hb] at this
  simpa using this
 rw[e]
 rfl

structure Acc (G:Geo) (L:Lg) (len cap:Nat) (V:List Wr):Prop where
 vok:VOk G V
 us:G.uses len≤G.lg
 sq:L.h.seq+G.parts len≤4294967295
 cp:len≤cap∧cap≤9223372036854775807

theorem after_ok {G:Geo}{H:Hd}(h:H.Ok G){n:Nat}(hs:H.seq+G.parts n≤4294967295)(hu:H.used+G.uses n≤G.lg):(G.after H n).Ok G:=⟨hs,h.tail,hu⟩

theorem com_settle {w:World}{S:Nat→Prop}{g dg:Nat}{P:Nat→Int}{G:Geo}{L:Lg}{D:Dev}{u:World}{Su:Nat→Prop}(h:Lv u Su g dg P G L D)(hx:Nx S w Su u){a:Option Addr}{len:Nat}{V:List Wr}(hV:WHas u a len V)(hO:WOut Su a len V)(H:Hd)(hH:H.Ok G)(u1:World)(hu:Below u.heap.size u u1) :
  Calls Tryz.prog 212 #[.pointer (some ⟨g,0,none⟩),Hv H.fn] u1 fun e u2=>e=.returned (.int .i64 (runE (stlS G H) D)) ∧
   Hid (Nx S w Su u1∧LJ u1 Su g dg P G (Hc H.fn) a len V (if runE (stlS G H) D=0 then { L with h:=H } else L) (runD (stlS G H) D) u2):=by
 refine(settle_lj g dg Su P G L D H hH u1 (h.below hu) a len V (hV.later hu) hO).mono ?_
 rintro e u2 ⟨rfl,J⟩
 exact⟨rfl,hx.below' hu,unhide J⟩

def CJ0 (w:World) (S:Nat→Prop) (g dg:Nat) (P:Nat→Int) (G:Geo) (a:Option Addr) (len:Nat) (V:List Wr) (eE:Int) (eD:Dev) (eL:Lg) (u:World):Prop :=
 ∃ Su L1 D1,Lv u Su g dg P G L1 D1∧Nx S w Su u∧WHas u a len V∧WOut Su a len V∧L1.h.used+G.uses len≤G.lg∧L1.h.seq+G.parts len≤4294967295∧cmE0 G L1 (wl V) D1=eE∧cmD0 G L1 (wl V) D1=eD∧cmL0 G L1 (wl V) D1=eL

def CJ1 (w:World) (S:Nat→Prop) (g dg:Nat) (P:Nat→Int) (G:Geo) (a:Option Addr) (len:Nat) (V:List Wr) (eE:Int) (eD:Dev) (eL:Lg) (H:Hd) (L1:Lg) (u:World):Prop :=
 ∃ Su D1,Lv u Su g dg P G L1 D1∧Nx S w Su u∧WHas u a len V∧WOut Su a len V∧H.Ok G∧runE (stlS G H) D1=eE∧runD (stlS G H) D1=eD∧(eE=0→eL={ L1 with h:=H,Q:=setW L1.Q (wl V) })∧(eE≠0→eL=L1)

theorem com_first {w:World}{S:Nat→Prop}{g dg:Nat}{P:Nat→Int}{G:Geo}{a:Option Addr}{len cap:Nat}{V:List Wr}{eE:Int}{eD:Dev}{eL:Lg}{u:World}(h:CJ0 w S g dg P G a len V eE eD eL u)(hv:VOk G V)(hc:len≤cap∧cap≤9223372036854775807) :
  Calls Tryz.prog 211 #[.pointer (some ⟨g,0,none⟩),.slice a len cap] u fun e u1 =>
   (e=.returned (.tuple #[Hv (fun _=>0),.int .i64 7])∧Hid (eE=7∧∃ S',Lv u1 S' g dg P G eL eD∧Nx S w S' u1)) ∨
   ∃ H L1,e=.returned (.tuple #[.agg #[.int .i64 (H.seq:Int),.int .i64 (H.tail:Int),.int .i64 (H.used:Int)],.int .i64 0])∧Hid (CJ1 w S g dg P G a len V eE eD eL H L1 u1):=by
 obtain⟨Su,L1,D1,h1,h2,h3,h4,h5,h6,h7,h8,h9⟩:=h
 have hG:G.Ok:=by obtain⟨_,_,_,x⟩:=h1;exact x.ll.pg.ok
 have hh:L1.h.Ok G:=by obtain⟨_,_,_,x⟩:=h1;exact x.ll.hok
 have hl2:=hG.l2
 have htl:=hh.tail
 refine(writeParts_any g dg Su P G L1 D1 u h1 a len cap V h3 h4 hv hc h6 (by omega)).mono ?_
 rintro e u1 ⟨p0,p7,X⟩
 obtain⟨S',l1,n1⟩:=unhide X
 obtain⟨y1,y2⟩:=h3.nx n1 h4
 have hwl:(wl V).length=len:=by rw[wl_len,h3.ln]
 unfold cmE0 comS at h7
 unfold cmD0 comS at h8
 unfold cmL0 comS at h9
 rw[runE_append] at h7 h9
 rw[runD_append] at h8
 rw[hwl] at h7 h8 h9
 by_cases hp:runE (partsS G L1.h.seq (L1.h.tail+L1.h.used) (wl V)) D1=0
 ·rw[if_pos hp] at h7 h8 h9
  refine .inr ⟨G.after L1.h len,L1,p0 hp,S',_,l1,h2.trans n1,y1,y2,after_ok hh h6 h5,h7,h8,fun h0=>?_,fun h0=>?_⟩
  ·rw[h7,if_pos h0] at h9;exact h9.symm
  ·rw[h7,if_neg h0] at h9;exact h9.symm
 ·rw[if_neg hp] at h7 h8 h9
  refine .inl ⟨p7 hp,h7.symm,S',?_,h2.trans n1⟩
  rw[← h8,← h9,if_neg (by decide)]
  exact l1

def CJ2 (w:World) (S:Nat→Prop) (g dg:Nat) (P:Nat→Int) (G:Geo) (a:Option Addr) (len:Nat) (V:List Wr) (eD:Dev) (eL:Lg) (k:Nat) (u:World):Prop :=
 ∃ (u0:World) (S0:Nat→Prop) (H:Hd) (L1:Lg),Nx S w S0 u0∧LJ u0 S0 g dg P G (Hc H.fn) a len V { L1 with h:=H,Q:=setW L1.Q ((wl V).take k) } eD u∧eL={ L1 with h:=H,Q:=setW L1.Q (wl V) }

theorem CJ2.done {w:World}{S:Nat→Prop}{g dg:Nat}{P:Nat→Int}{G:Geo}{a:Option Addr}{len:Nat}{V:List Wr}{eD:Dev}{eL:Lg}{u:World}(h:CJ2 w S g dg P G a len V eD eL len u):∃ S',Lv u S' g dg P G eL eD∧Nx S w S' u:=by
 obtain⟨u0,S0,H,L1,n0,J,e⟩:=h
 obtain⟨S',l1,n1,w1,_⟩:=J.fin2
 rw[List.take_of_length_le (by rw[wl_len,w1.ln];omega)] at l1
 exact⟨S',by rw[e];exact l1,n0.trans n1⟩

theorem CJ2.step {w:World}{S:Nat→Prop}{g dg:Nat}{P:Nat→Int}{G:Geo}{a:Option Addr}{len:Nat}{V:List Wr}{eD:Dev}{eL:Lg}{k:Nat}{u:World}(h:CJ2 w S g dg P G a len V eD eL k u)(hv:VOk G V)(hk:k<len)(b:Nat)(hb:(wat V k).b=(b:Int))(u1:World)(hu:Below u.heap.size u u1) :
  ∃ mb,u1.cell? ⟨g,16,none⟩=some (.map (some mb))∧Hid (Calls Tryz.prog 113 #[.slice (wat V k).da (wat V k).dl (wat V k).dc] u1 fun e u2=>∃ a' c',e=.returned (.slice a' G.blk c')∧Below u1.heap.size u1 u2∧u2.cell? ⟨g,16,none⟩=some (.map (some mb))∧∃ u3,(Instr.mapUpdate 78 (.map (some mb)) (.int .i64 (b:Int)) (.slice a' G.blk c')).run Tryz.prog u2=.ok () u3 ∧
   Hid (CJ2 w S g dg P G a len V eD eL (k+1) u3)):=by
 obtain⟨u0,S0,H,L1,n0,J,e⟩:=h
 have hln:V.length=len:=by
  obtain⟨_,_,_,w1,_⟩:=J.fin2
  exact w1.ln
 have hvk:=hv _ (wat_mem (V:=V) (j:=k) (by omega))
 obtain⟨mb,c1,K⟩:=lj_put (J.below hu) hk hvk.1 b (by omega)
 refine⟨mb,c1,(unhide K).mono ?_⟩
 rintro e' u2 ⟨a',c',rfl,hb2,c2,u3,r3,J3⟩
 refine⟨a',c',rfl,hb2,c2,u3,r3,u0,S0,H,L1,n0,?_,e⟩
 rw[setW_snoc (by omega) b hb]
 exact unhide J3

theorem CJ2.cell {w:World}{S:Nat→Prop}{g dg:Nat}{P:Nat→Int}{G:Geo}{a:Option Addr}{len:Nat}{V:List Wr}{eD:Dev}{eL:Lg}{k:Nat}{u:World}(h:CJ2 w S g dg P G a len V eD eL k u)(hv:VOk G V)(hk:k<len):∃ kb off b,a=some ⟨kb,off,none⟩∧u.cell? ⟨kb,off+k*2,none⟩=some (.int .i64 ((b:Nat):Int))∧u.cell? ⟨kb,off+k*2+1,none⟩=some (.slice (wat V k).da (wat V k).dl (wat V k).dc)∧(wat V k).b=(b:Int):=by
 obtain⟨u0,S0,H,L1,n0,J,e⟩:=h
 obtain⟨_,_,_,w1,_⟩:=J.fin2
 obtain⟨kb,off,ea,_,hc⟩:=w1.cel (by omega)
 have hvk:=hv _ (wat_mem (V:=V) (j:=k) (by rw[w1.ln];exact hk))
 have eb:(wat V k).b=((wat V k).b.toNat:Int):=by have:=hvk.2.1;omega
 refine⟨kb,off,(wat V k).b.toNat,ea,?_,(hc k hk).2,eb⟩
 rw[← eb]
 exact(hc k hk).1

theorem commit_any (g dg:Nat)(S:Nat→Prop)(P:Nat→Int)(G:Geo)(L:Lg)(D:Dev)(w:World)(h:Lv w S g dg P G L D)(a:Option Addr)(len cap:Nat)(V:List Wr)(hV:WHas w a len V)(hO:WOut S a len V)(hA:Acc G L len cap V)(hz:len≠0) :
  Calls Tryz.prog 159 #[.pointer (some ⟨g,0,none⟩),.slice a len cap] w fun e w'=>e=.returned (.int .i64 (cmE G L (wl V) D))∧∃ S',Lv w' S' g dg P G (cmL G L (wl V) D) (cmD G L (wl V) D)∧Nx S w S' w':=by
 have hG:G.Ok:=by obtain⟨_,_,_,x⟩:=h;exact x.ll.pg.ok
 have hh:L.h.Ok G:=by obtain⟨_,_,_,x⟩:=h;exact x.ll.hok
 have hln:=hV.ln
 have hus:=hA.us
 have hl2:=hG.l2
 have hwl:(wl V).length=len:=by rw[wl_len,hln]
 have hll:len≤512:=by have:len≤G.uses len:=Nat.le_add_right _ _;omega
 have KU:Hid (∀ u,Calls Tryz.prog 152 #[Pv P,.int .i64 (len:Int)] u fun e w'=>e=.returned (.int .i64 (G.uses len:Int))∧Below u.heap.size u w'):=fun u=>by
  obtain⟨_,_,_,x⟩:=h
  exact uses_any P G x.ll.pg len (by omega) u
 have KR:Hid (∀ u,Below w.heap.size w u→Calls Tryz.prog 108 #[.pointer (some ⟨g,0,none⟩)] u fun e w'=>e=.returned (.int .i64 ((G.lg - L.h.used:Nat):Int))∧∃ q,w'=u.drewN q):=fun u hb=>by
  obtain⟨Sl,_,m,x⟩:=h.below hb
  exact room_any g dg Sl P G L m u x.ll
 have KA:Hid (∀ u,Below w.heap.size w u→Calls Tryz.prog 168 #[.pointer (some ⟨g,0,none⟩)] u fun e w'=>e=.returned (.int .i64 (apE G L D))∧Hid (∃ S',Lv w' S' g dg P G (apL G L D) (apD G L D)∧Nx S w S' w')):=fun u hb=>by
  refine(apply_any g dg S P G L D u (h.below hb)).mono ?_
  rintro e w' ⟨rfl,S',l1,n1⟩
  exact⟨rfl,S',l1,((Nx.refl S w).below' hb).trans n1⟩
 have hap:apE G L D=0∨apE G L D=7:=by
  unfold apE
  split
  ·exact .inl rfl
  ·exact runE_two _ _
 have K0:Hid (∀ u,Below w.heap.size w u→¬ G.lg - L.h.used<G.uses len→CJ0 w S g dg P G a len V (cmE G L (wl V) D) (cmD G L (wl V) D) (cmL G L (wl V) D) u):=fun u hb hr=>by
  unfold cmE cmD cmL
  rw[hwl,if_neg hr,if_neg hr,if_neg hr]
  have:=hh.used
  exact⟨S,L,D,h.below hb,(Nx.refl S w).below' hb,hV.later hb,hO,by omega,hA.sq,rfl,rfl,rfl⟩
 have K1:Hid (∀ u S',G.lg - L.h.used<G.uses len→apE G L D=0→Lv u S' g dg P G (apL G L D) (apD G L D)→Nx S w S' u→CJ0 w S g dg P G a len V (cmE G L (wl V) D) (cmD G L (wl V) D) (cmL G L (wl V) D) u):=fun u S' hr ha hl hx=>by
  unfold cmE cmD cmL
  rw[hwl,if_pos hr,if_pos hr,if_pos hr,if_pos ha,if_pos ha,if_pos ha]
  obtain⟨y1,y2⟩:=hV.nx hx hO
  have hu0:(apL G L D).h.used=0∧(apL G L D).h.seq=L.h.seq:=by
   unfold apE at ha
   unfold apL
   by_cases e0:L.h.used=0
   ·rw[if_pos e0];exact⟨e0,rfl⟩
   ·rw[if_neg e0] at ha
    rw[if_neg e0,if_pos ha]
    exact⟨rfl,rfl⟩
  exact⟨S',_,_,hl,hx,y1,y2,by rw[hu0.1];omega,by rw[hu0.2];exact hA.sq,rfl,rfl,rfl⟩
 have K2:Hid (G.lg - L.h.used<G.uses len→apE G L D≠0→7=cmE G L (wl V) D∧apL G L D=cmL G L (wl V) D∧apD G L D=cmD G L (wl V) D):=fun hr ha=>by
  unfold cmE cmD cmL
  rw[hwl,if_pos hr,if_pos hr,if_pos hr,if_neg ha,if_neg ha,if_neg ha]
  exact⟨by omega,rfl,rfl⟩
 have KW:Hid (∀ u eE eD eL,CJ0 w S g dg P G a len V eE eD eL u→_):=fun u eE eD eL hC=>com_first hC hA.vok hA.cp
 have KT:Hid (∀ u eE eD eL H L1 u1,CJ1 w S g dg P G a len V eE eD eL H L1 u→Below u.heap.size u u1→Calls Tryz.prog 212 #[.pointer (some ⟨g,0,none⟩),.agg #[.int .i64 (H.seq:Int),.int .i64 (H.tail:Int),.int .i64 (H.used:Int)]] u1 fun e u2=>e=.returned (.int .i64 eE)∧(eE=0∨eE=7)∧(eE≠0→Hid (∃ S',Lv u2 S' g dg P G eL eD∧Nx S w S' u2))∧(eE=0→Hid (CJ2 w S g dg P G a len V eD eL 0 u2))):=fun u eE eD eL H L1 u1 hC hu=>by
  obtain⟨Su,D1,h1,h2,h3,h4,h5,h6,h7,h8,h9⟩:=hC
  refine(com_settle h1 h2 h3 h4 H h5 u1 hu).mono ?_
  rintro e u2 ⟨rfl,X⟩
  obtain⟨n1,J⟩:=unhide X
  rw[h6,h7] at J
  refine⟨by rw[h6],by rw[← h6];exact runE_two _ _,fun h0=>?_,fun h0=>?_⟩
  ·rw[if_neg h0] at J
   obtain⟨S',l1,n2⟩:=J.fin
   exact⟨S',by rw[h9 h0];exact l1,n1.trans n2⟩
  ·rw[if_pos h0] at J
   exact⟨u1,Su,H,L1,n1,by rw[List.take_zero];exact J,h8 h0⟩
 have KC:Hid (∀ eD eL k u,CJ2 w S g dg P G a len V eD eL k u→k<len→_):=fun eD eL k u hC hk=>hC.cell hA.vok hk
 have KS:Hid (∀ eD eL k u,CJ2 w S g dg P G a len V eD eL k u→k<len→∀ b:Nat,(wat V k).b=(b:Int)→∀ u1,Below u.heap.size u u1→_):=fun eD eL k u hC hk b hb u1 hu=>hC.step hA.vok hk b hb u1 hu
 have KE:Hid (∀ eD eL u,CJ2 w S g dg P G a len V eD eL len u→_):=fun eD eL u hC=>hC.done
 have KP:=hide (show ∀ u,Below w.heap.size w u→_ from fun u hb=>(by obtain⟨_,_,_,x⟩:=h.below hb;exact x.ll.plan:u.cell? ⟨g,1,none⟩=some (.int .i64 (P 0))∧u.cell? ⟨g,2,none⟩=some (.int .i64 (P 1))∧u.cell? ⟨g,3,none⟩=some (.int .i64 (P 2))∧u.cell? ⟨g,4,none⟩=some (.int .i64 (P 3))∧u.cell? ⟨g,5,none⟩=some (.int .i64 (P 4))∧u.cell? ⟨g,6,none⟩=some (.int .i64 (P 5))∧u.cell? ⟨g,7,none⟩=some (.int .i64 (P 6))∧u.cell? ⟨g,8,none⟩=some (.int .i64 (P 7))∧u.cell? ⟨g,9,none⟩=some (.int .i64 (P 8))∧u.cell? ⟨g,10,none⟩=some (.int .i64 (P 9))∧u.cell? ⟨g,11,none⟩=some (.int .i64 (P 10))∧u.cell? ⟨g,12,none⟩=some (.int .i64 (P 11))))
 have d0:((len:Int)==0)=false:=by simpa using hz
 clear h hV hO hA hG hh hln hus hl2 hwl hz
 generalize cmE G L (wl V) D=eE at *
 generalize cmD G L (wl V) D=eD at *
 generalize cmL G L (wl V) D=eL at *
 generalize apE G L D=aE at *
 generalize apL G L D=aL at *
 generalize apD G L D=aD at *
 generalize hr1:G.lg - L.h.used=rm at *
 generalize G.uses len=us at *
 clear hr1
 obtain⟨q0,q1,q2,q3,q4,q5,q6,q7,q8,q9,q10,q11⟩:=unhide KP w (Below.refl _ _)
 clear KP
 go_enter Tryz.func159,Tryz.ntmps159
 go_wp2_with fail
 go_at_call 152
 refine(unhide KU _).mono ?_
 rintro e w1 ⟨rfl,hb1⟩
 have B1:=hide hb1
 clear KU hb1 q0 q1 q2 q3 q4 q5 q6 q7 q8 q9 q10 q11
 go_wp2_with fail
 go_at_call 108
 refine(unhide KR _ (unhide B1)).mono ?_
 rintro e w2 ⟨rfl,q,rfl⟩
 have B2:Hid (Below w.heap.size w (w1.drewN q)):=below_drewN (unhide B1) q
 generalize w1.drewN q=w2 at *
 clear KR B1
 go_upto_if 23 with fail
 go_cut [] (fun wx=>Hid (CJ0 w S g dg P G a len V eE eD eL wx))
 case first =>
  clear KW KT KC KS KE
  by_cases hr:rm<us
  ·have d1:(rm:Int)<(us:Int):=by omega
   rcases hap with rfl | rfl
   ·go_wp2_with fail
    go_at_call 168
    refine(unhide KA _ (unhide B2)).mono ?_
    rintro e w3 ⟨rfl,X⟩
    have X2:Hid (CJ0 w S g dg P G a len V eE eD eL w3):=by
     obtain⟨S',l1,n1⟩:=unhide X
     exact unhide K1 w3 S' hr trivial l1 n1
    clear KA X K0 K1 K2 hr d1
    go_wp2_with fail
    go_meet
    exact X2
   ·go_wp2_with fail
    go_at_call 168
    refine(unhide KA _ (unhide B2)).mono ?_
    rintro e w3 ⟨rfl,X⟩
    have Y:=hide (unhide K2 hr (by decide))
    clear KA K0 K1 K2 hr d1
    go_wp2_with fail
    go_ret
    obtain⟨y1,y2,y3⟩:=unhide Y
    subst y1 y2 y3
    exact⟨rfl,unhide X⟩
  ·have d1:¬ (rm:Int)<(us:Int):=by omega
   have X2:=hide (unhide K0 _ (unhide B2) hr)
   clear KA K0 K1 K2 hr
   go_wp2_with fail
   go_meet
   exact X2
 case rest =>
  clear KA K0 K1 K2 B2 hap
  go_wp2_with fail
  go_at_call 211
  refine(unhide KW _ _ _ _ (unhide hcut)).mono ?_
  rintro e w3 (⟨rfl,X⟩ | ⟨H,L1,rfl,X⟩)
  ·clear hcut KW KT KC KS KE
   go_wp2_with fail
   go_ret
   obtain⟨e7,S',l1,n1⟩:=unhide X
   subst e7
   have hb:Below w3.heap.size w3 (w3.alloc (.cells #[.int .i64 0,.int .i64 0,.int .i64 0] 81)):=(Below.refl _ w3).alloc (Nat.le_refl _) _
   exact⟨rfl,S',l1.below hb,n1.below' hb⟩
  ·clear hcut KW
   have KT2:=hide (unhide KT _ _ _ _ _ _ (w3.alloc (.cells #[.int .i64 (H.seq:Int),.int .i64 (H.tail:Int),.int .i64 (H.used:Int)] 81)) (unhide X) ((Below.refl _ w3).alloc (Nat.le_refl _) _))
   clear KT X
   go_wp2_with fail
   go_at_call 212
   refine(unhide KT2).mono ?_
   rintro e w4 ⟨rfl,hE,X7,X0⟩
   have Y7:=hide X7
   have Y0:=hide X0
   clear KT2 X7 X0
   rcases hE with rfl | rfl
   ·have Z0:=(unhide Y0) rfl
    clear Y0 Y7
    go_wp2_with fail
    go_loopw [46] (fun i wr=>∃ k:Nat,k≤len∧i=.int .i64 (k:Int)∧Hid (CJ2 w S g dg P G a len V eD eL k wr)) (fun i _=>len - (intOf i).toNat)
    case atStart=>exact⟨0,Nat.zero_le _,rfl,Z0⟩
    case round =>
     obtain⟨k,hk,rfl,hJ⟩:=hrel
     clear Z0
     by_cases hlt:k<len
     ·obtain⟨kb,off,b,ea,x1,x2,hb⟩:=unhide KC _ _ _ _ (unhide hJ) hlt
      obtain⟨mb,d0,KX⟩:=unhide KS _ _ _ _ (unhide hJ) hlt b hb (wr.alloc (.cells #[.int .i64 (b:Int),.slice (wat V k).da (wat V k).dl (wat V k).dc] 171)).drew (((Below.refl _ wr).alloc (Nat.le_refl _) _).drew)
      have HC:=hide (Bl.new wr #[.int .i64 (b:Int),.slice (wat V k).da (wat V k).dl (wat V k).dc] 171)
      clear KC KS KE hJ hb
      subst ea
      go_upto_region 16 with fail
      change Code.wp _ _ _ _ (wr.alloc (.cells #[.int .i64 (b:Int),.slice (wat V k).da (wat V k).dl (wat V k).dc] 171))
      have d0':(wr.alloc (.cells #[.int .i64 (b:Int),.slice (wat V k).da (wat V k).dl (wat V k).dc] 171)).cell? ⟨g,16,none⟩=some (.map (some mb)):=d0
      clear d0
      have HBL:Hid (wr.heap.size<(wr.alloc (.cells #[.int .i64 (b:Int),.slice (wat V k).da (wat V k).dl (wat V k).dc] 171)).heap.size):=(unhide HC).lt
      generalize wr.alloc (.cells #[.int .i64 (b:Int),.slice (wat V k).da (wat V k).dl (wat V k).dc] 171)=ub at *
      generalize wr.heap.size=gb at *
      have b0:=(unhide HC).cell 0 (.int .i64 (b:Int)) rfl
      have b1:=(unhide HC).cell 1 (.slice (wat V k).da (wat V k).dl (wat V k).dc) rfl
      clear x1 x2
      have KY:Hid (∀ u2,Below ub.heap.size ub u2→u2.cell? ⟨gb,0,none⟩=some (.int .i64 (b:Int))):=fun u2 hb=>(hb.cell (p:=⟨gb,0,none⟩) (unhide HBL)).trans b0
      clear HC HBL
      go_region_with (go_at_call 113;refine(unhide KX).mono ?_;rintro e u2 ⟨a',c',rfl,hb2,m2,u3,r3,Z⟩;have b2:=unhide KY _ (undrew hb2);clear hb2)
      all_goals
       clear KX KY d0' b0 b1
       go_wp2_with fail
       go_roundw
       case rel=>exact⟨k+1,by omega,by go_num,Z⟩
       case measure=>simp[intOf];omega
     ·have ek:k=len:=by omega
      rw[ek] at hJ
      have Z:=hide (unhide KE _ _ _ (unhide hJ))
      clear KC KS KE hJ
      go_wp2_with fail
      go_ret
      exact⟨rfl,unhide Z⟩
   ·have Z7:=(unhide Y7) (by decide)
    clear Y0 Y7 KC KS KE
    go_wp2_with fail
    go_ret
    exact⟨rfl,unhide Z7⟩

def cmtE (G:Geo) (L:Lg) (V:List Wr) (D:Dev):Int:=if lstE G L.h.seq (wv V)=0 then (if L.dead=true then 7 else if V.length=0 then 0 else cmE G L (wl V) D) else lstE G L.h.seq (wv V)

def cmtL (G:Geo) (L:Lg) (V:List Wr) (D:Dev):Lg:=if lstE G L.h.seq (wv V)=0 then (if L.dead=true then L else if V.length=0 then L else (cmL G L (wl V) D).met (cmE G L (wl V) D)) else L

def cmtD (G:Geo) (L:Lg) (V:List Wr) (D:Dev):Dev:=if lstE G L.h.seq (wv V)=0 then (if L.dead=true then D else if V.length=0 then D else cmD G L (wl V) D) else D

theorem acc_of {G:Geo}{L:Lg}{V:List Wr}(hs:L.h.seq≤4294967295)(h:lstE G L.h.seq (wv V)=0){cap:Nat}(hc:V.length≤cap∧cap≤9223372036854775807):Acc G L V.length cap V:=by
 unfold lstE at h
 by_cases h1:(wv V).all (fun x=>decide (x.2=G.blk))=true
 ·rw[if_pos h1] at h
  by_cases h2:blkE G ((wv V).map (·.1))=0
  ·rw[if_pos h2] at h
   have hl:(wv V).length=V.length:=by simp[wv]
   rw[hl] at h
   by_cases h3:G.lg<G.uses V.length
   ·rw[if_pos h3] at h;omega
   ·rw[if_neg h3] at h
    by_cases h4:4294967295 - L.h.seq<G.parts V.length
    ·rw[if_pos h4] at h;omega
    ·refine⟨fun v hv=>?_,by omega,by omega,hc⟩
     have e1:=List.all_eq_true.1 h1 (v.b,v.dl) (List.mem_map.2 ⟨v,hv,rfl⟩)
     unfold blkE at h2
     by_cases h5:((wv V).map (·.1)).all (fun b=>decide ((G.ib:Int)≤b∧b<G.n))=true
     ·have e2:=List.all_eq_true.1 h5 v.b (List.mem_map.2 ⟨(v.b,v.dl),List.mem_map.2 ⟨v,hv,rfl⟩,rfl⟩)
      simp only[decide_eq_true_eq] at e1 e2
      exact⟨e1,e2.1,e2.2⟩
     ·rw[if_neg h5] at h2;omega
  ·rw[if_neg h2] at h;exact absurd h h2
 ·rw[if_neg h1] at h;omega

theorem commit_zero (g cap:Nat)(a:Option Addr)(w:World):Calls Tryz.prog 159 #[.pointer (some ⟨g,0,none⟩),.slice a 0 cap] w fun e w'=>e=.returned (.int .i64 0)∧w=w':=by
 go_enter Tryz.func159,Tryz.ntmps159
 go_wp2_with fail
 go_ret
 exact⟨rfl,rfl⟩

theorem Lv.deadc {w:World}{S:Nat→Prop}{g dg:Nat}{P:Nat→Int}{G:Geo}{L:Lg}{D:Dev}(h:Lv w S g dg P G L D):w.cell? ⟨g,17,none⟩=some (.bool L.dead):=by
 obtain⟨_,_,m,x⟩:=h
 exact x.ll.cells.2.2.2.2.2.2.1

theorem Commit_any (g dg:Nat)(S:Nat→Prop)(P:Nat→Int)(G:Geo)(L:Lg)(D:Dev)(w:World)(h:Lv w S g dg P G L D)(a:Option Addr)(len cap:Nat)(V:List Wr)(hV:WHas w a len V)(hO:WOut S a len V)(hl:len≤4398046511104)(hc:len≤cap∧cap≤9223372036854775807) :
  Calls Tryz.prog 109 #[.pointer (some ⟨g,0,none⟩),.slice a len cap] w fun e w'=>e=.returned (.int .i64 (cmtE G L V D))∧∃ S',Lv w' S' g dg P G (cmtL G L V D) (cmtD G L V D)∧Nx S w S' w':=by
 have hln:=hV.ln
 have hsq:L.h.seq≤4294967295:=by obtain⟨_,_,_,x⟩:=h;exact x.ll.hok.seq
 have K2:Hid (Calls Tryz.prog 157 #[.pointer (some ⟨g,0,none⟩),.slice a len cap] w fun e w'=>e=.returned (.int .i64 (lstE G L.h.seq (wv V)))∧Below w.heap.size w w'):=by
  obtain⟨Sl,_,m,x⟩:=h
  exact refl_any g dg Sl P G L m w x.ll a len cap V hV hl
 have X:Hid (∀ u,Below w.heap.size w u→∃ S',Lv u S' g dg P G L D∧Nx S w S' u):=fun u hb=>⟨S,h.below hb,(Nx.refl S w).below' hb⟩
 have HD:Hid (∀ u,Below w.heap.size w u→u.cell? ⟨g,17,none⟩=some (.bool L.dead)):=fun u hb=>(h.below hb).deadc
 unfold cmtE cmtL cmtD
 rw[hln]
 by_cases hE:lstE G L.h.seq (wv V)=0
 ·rw[if_pos hE,if_pos hE,if_pos hE]
  by_cases hd:L.dead=true
  ·rw[if_pos hd,if_pos hd,if_pos hd]
   rw[hE] at K2
   rw[hd] at HD
   clear h hV hO hl hc hsq hln hd hE
   go_enter Tryz.func109,Tryz.ntmps109
   go_wp2_with fail
   go_at_call 157
   refine(unhide K2).mono ?_
   rintro e w1 ⟨rfl,hb1⟩
   have X2:=hide (unhide X _ hb1)
   have c17:=unhide HD _ hb1
   clear K2 X hb1 HD
   go_wp2_with fail
   go_ret
   exact⟨rfl,unhide X2⟩
  ·rw[if_neg hd,if_neg hd,if_neg hd]
   have hd':L.dead=false:=by simpa using hd
   rw[hE] at K2
   rw[hd'] at HD
   by_cases h0:len=0
   ·rw[if_pos h0,if_pos h0,if_pos h0]
    subst h0
    have K3:Hid (∀ u,Below w.heap.size w u→Calls Tryz.prog 159 #[.pointer (some ⟨g,0,none⟩),.slice a 0 cap] u fun e w1=>e=.returned (.int .i64 0)∧Hid (Calls Tryz.prog 158 #[.pointer (some ⟨g,0,none⟩),.int .i64 0] w1 fun e w'=>e=.returned (.int .i64 0)∧Hid (∃ S',Lv w' S' g dg P G L D∧Nx S w S' w'))):=fun u hb=>by
     refine(commit_zero g cap a u).mono ?_
     rintro e w1 ⟨rfl,rfl⟩
     refine⟨rfl,(met_any g dg 0 S P G _ _ u (h.below hb)).mono ?_⟩
     rintro e w2 ⟨rfl,S2,l2,n2⟩
     exact⟨rfl,S2,l2,((Nx.refl S w).below' hb).trans n2⟩
    clear h hV hO hl hc hsq hln hd hd' hE X
    go_enter Tryz.func109,Tryz.ntmps109
    go_wp2_with fail
    go_at_call 157
    refine(unhide K2).mono ?_
    rintro e w1 ⟨rfl,hb1⟩
    have K4:=hide (unhide K3 _ hb1)
    have c17:=unhide HD _ hb1
    clear K2 K3 hb1 HD
    go_wp2_with fail
    go_at_call 159
    refine(unhide K4).mono ?_
    rintro e w2 ⟨rfl,K5⟩
    clear K4 c17
    go_wp2_with fail
    go_at_call 158
    refine(unhide K5).mono ?_
    rintro e w3 ⟨rfl,X⟩
    clear K5
    go_wp2_with fail
    go_ret
    exact⟨rfl,unhide X⟩
   ·rw[if_neg h0,if_neg h0,if_neg h0]
    have hA:Acc G L len cap V:=by rw[← hln] at hc ⊢;exact acc_of hsq hE hc
    have K3:Hid (∀ u,Below w.heap.size w u→Calls Tryz.prog 159 #[.pointer (some ⟨g,0,none⟩),.slice a len cap] u fun e w1=>e=.returned (.int .i64 (cmE G L (wl V) D))∧Hid (Calls Tryz.prog 158 #[.pointer (some ⟨g,0,none⟩),.int .i64 (cmE G L (wl V) D)] w1 fun e w'=>e=.returned (.int .i64 (cmE G L (wl V) D))∧Hid (∃ S',Lv w' S' g dg P G ((cmL G L (wl V) D).met (cmE G L (wl V) D)) (cmD G L (wl V) D)∧Nx S w S' w'))):=fun u hb=>by
     refine(commit_any g dg S P G L D u (h.below hb) a len cap V (hV.later hb) hO hA h0).mono ?_
     rintro e w1 ⟨rfl,S1,l1,n1⟩
     refine⟨rfl,(met_any g dg (cmE G L (wl V) D) S1 P G _ _ w1 l1).mono ?_⟩
     rintro e w2 ⟨rfl,S2,l2,n2⟩
     exact⟨rfl,S2,l2,(((Nx.refl S w).below' hb).trans n1).trans n2⟩
    generalize (cmL G L (wl V) D).met (cmE G L (wl V) D)=LL at *
    generalize cmE G L (wl V) D=cE at *
    generalize cmD G L (wl V) D=DD at *
    clear h hV hO hd hd' hl hc hsq hln h0 hE hA X
    go_enter Tryz.func109,Tryz.ntmps109
    go_wp2_with fail
    go_at_call 157
    refine(unhide K2).mono ?_
    rintro e w1 ⟨rfl,hb1⟩
    have K4:=hide (unhide K3 _ hb1)
    have c17:=unhide HD _ hb1
    clear K2 K3 hb1 HD
    go_wp2_with fail
    go_at_call 159
    refine(unhide K4).mono ?_
    rintro e w2 ⟨rfl,K5⟩
    clear K4 c17
    go_wp2_with fail
    go_at_call 158
    refine(unhide K5).mono ?_
    rintro e w3 ⟨rfl,X⟩
    clear K5
    go_wp2_with fail
    go_ret
    exact⟨rfl,unhide X⟩
 ·rw[if_neg hE,if_neg hE,if_neg hE]
  have d1:(lstE G L.h.seq (wv V) != 0)=true:=by simpa using hE
  generalize lstE G L.h.seq (wv V)=lE at *
  clear h hV hO hl hc hsq hln hE HD
  go_enter Tryz.func109,Tryz.ntmps109
  go_wp2_with fail
  go_at_call 157
  refine(unhide K2).mono ?_
  rintro e w1 ⟨rfl,hb1⟩
  have X2:=hide (unhide X _ hb1)
  clear K2 X hb1
  go_wp2_with fail
  go_ret
  exact⟨rfl,unhide X2⟩

def aplyE (G:Geo) (L:Lg) (D:Dev):Int:=if L.dead=true then 7 else apE G L D

def aplyL (G:Geo) (L:Lg) (D:Dev):Lg:=if L.dead=true then L else (apL G L D).met (apE G L D)

def aplyD (G:Geo) (L:Lg) (D:Dev):Dev:=if L.dead=true then D else apD G L D

theorem Apply_any (g dg:Nat)(S:Nat→Prop)(P:Nat→Int)(G:Geo)(L:Lg)(D:Dev)(w:World)(h:Lv w S g dg P G L D) :
  Calls Tryz.prog 116 #[.pointer (some ⟨g,0,none⟩)] w fun e w'=>e=.returned (.int .i64 (aplyE G L D))∧∃ S',Lv w' S' g dg P G (aplyL G L D) (aplyD G L D)∧Nx S w S' w':=by
 have c17:=h.deadc
 unfold aplyE aplyL aplyD
 by_cases hd:L.dead=true
 ·rw[if_pos hd,if_pos hd,if_pos hd]
  rw[hd] at c17
  have X:Hid (∃ S',Lv w S' g dg P G L D∧Nx S w S' w):=⟨S,h,Nx.refl _ _⟩
  clear h hd
  go_enter Tryz.func116,Tryz.ntmps116
  go_wp2_with fail
  go_ret
  exact⟨rfl,unhide X⟩
 ·rw[if_neg hd,if_neg hd,if_neg hd]
  have hd':L.dead=false:=by simpa using hd
  rw[hd'] at c17
  have K4:Hid (Calls Tryz.prog 168 #[.pointer (some ⟨g,0,none⟩)] w fun e w1=>e=.returned (.int .i64 (apE G L D))∧Hid (Calls Tryz.prog 158 #[.pointer (some ⟨g,0,none⟩),.int .i64 (apE G L D)] w1 fun e w'=>e=.returned (.int .i64 (apE G L D))∧Hid (∃ S',Lv w' S' g dg P G ((apL G L D).met (apE G L D)) (apD G L D)∧Nx S w S' w'))):=by
   refine(apply_any g dg S P G L D w h).mono ?_
   rintro e w1 ⟨rfl,S1,l1,n1⟩
   refine⟨rfl,(met_any g dg (apE G L D) S1 P G _ _ w1 l1).mono ?_⟩
   rintro e w2 ⟨rfl,S2,l2,n2⟩
   exact⟨rfl,S2,l2,n1.trans n2⟩
  generalize (apL G L D).met (apE G L D)=LL at *
  generalize apE G L D=cE at *
  generalize apD G L D=DD at *
  clear h hd hd'
  go_enter Tryz.func116,Tryz.ntmps116
  go_wp2_with fail
  go_at_call 168
  refine(unhide K4).mono ?_
  rintro e w2 ⟨rfl,K5⟩
  clear K4 c17
  go_wp2_with fail
  go_at_call 158
  refine(unhide K5).mono ?_
  rintro e w3 ⟨rfl,X⟩
  clear K5
  go_wp2_with fail
  go_ret
  exact⟨rfl,unhide X⟩

end Go.Proofs.YtokngjcfkkceiaaGreatDoor
