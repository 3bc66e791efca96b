/- Joined: TFile, TDrop. -/
import Derived.Test.YtknmgefpjdfenaaGreatSfJ28
import Derived.Test.YtknmgefpjdfenaaGreatSfJ29
/- file of any handle, Close, resize where a file shrinks, Truncate, and all ways of Write. -/
namespace Go.Proofs.YtknmgefpjdfenaaGreat
set_option maxRecDepth 100000
set_option maxHeartbeats 8000000
open Go.RowKit Go.Shelf Go.Maps
set_option linter.unusedVariables false

def Tr.hnd (s:Tr) (f:Int):Option Nat:=if 0 ≤ f∧f < 16 then s.opn f.toNat else none

theorem hnd_nat {s:Tr} {f:Int} {b:Nat} (h:s.hnd f=some b):∃ k:Nat,f=(k:Int)∧k < 16∧s.opn k=some b:=by
 unfold Tr.hnd at h
 by_cases h0:0 ≤ f∧f < 16
 ·rw [if_pos h0] at h
  exact ⟨f.toNat,by omega,by omega,h⟩
 ·rw [if_neg h0] at h; cases h

theorem file_bad {w:World} {S:Nat→Prop} {g:Nat} {s:Tr} (h:TM w S g s) (hr:s.row ≠ []) (f:Int) (hf:s.hnd f=none) :
  Calls Tryz.prog 64 #[.pointer (some ⟨g,0,none⟩),.int .i64 f] w fun e w'=>e=.returned (.tuple #[.pointer none,.int .i64 18])∧w'=w:=by
 have K:=hide (isnone_no h hr)
 by_cases h0:f < 0
 ·have d0:decide (f < 0)=true:=by simpa using h0
  clear h hr hf h0
  go_enter Tryz.func64,Tryz.ntmps64
  go_wp2_with fail
  refine (unhide K).mono ?_
  rintro e w1 ⟨rfl,rfl⟩
  clear K
  go_wp2_with fail
  go_ret2
  exact ⟨rfl,rfl⟩
 ·have d0:decide (f < 0)=false:=by simpa using h0
  by_cases h1:16 ≤ f
  ·have d1:decide (f ≥ 16)=true:=by simpa using h1
   clear h hr hf h0 h1
   go_enter Tryz.func64,Tryz.ntmps64
   go_wp2_with fail
   refine (unhide K).mono ?_
   rintro e w1 ⟨rfl,rfl⟩
   clear K
   go_wp2_with fail
   go_ret2
   exact ⟨rfl,rfl⟩
  ·obtain ⟨k,rfl⟩:∃ k:Nat,f=(k:Int):=⟨f.toNat,by omega⟩
   have hk:k < 16:=by omega
   have ho:s.opn k=none:=by
    unfold Tr.hnd at hf
    rw [if_pos ⟨by omega,by omega⟩] at hf
    exact hf
   have c:=h.open_cell hk
   rw [ho] at c
   simp only [ptrO,Option.map_none] at c
   have l0:(0:Int) ≤ (k:Int):=by omega
   have l1:(k:Int) < 16:=by omega
   have d1:decide ((k:Int) ≥ 16)=false:=by simp; omega
   clear h hr hf h0 h1 ho
   go_enter Tryz.func64,Tryz.ntmps64
   go_wp2_with fail
   refine (unhide K).mono ?_
   rintro e w1 ⟨rfl,rfl⟩
   clear K
   go_wp2_with fail
   go_ret2
   exact ⟨rfl,rfl⟩

theorem close_bad {w:World} {S:Nat→Prop} {g:Nat} {s:Tr} (h:TM w S g s) (hr:s.row ≠ []) (f:Int) (hf:s.hnd f=none) :
  Calls Tryz.prog 37 #[.pointer (some ⟨g,0,none⟩),.int .i64 f] w fun e w'=>e=.returned (.int .i64 18)∧w'=w:=by
 have K:=hide (file_bad h hr f hf)
 clear h hr hf
 go_enter Tryz.func37,Tryz.ntmps37
 go_wp2_with fail
 refine (unhide K).mono ?_
 rintro e w1 ⟨rfl,rfl⟩
 clear K
 go_wp2_with fail
 go_ret
 exact ⟨rfl,rfl⟩

theorem close_ok {w:World} {S:Nat→Prop} {g f b:Nat} {s:Tr} (h:TM w S g s) (hf:f < 16) (ho:s.opn f=some b) (hr:s.row ≠ []) :
  Calls Tryz.prog 37 #[.pointer (some ⟨g,0,none⟩),.int .i64 (f:Int)] w fun e w'=>e=.returned (.int .i64 0)∧TM w' S g (s.opened f none)∧Kp S w w':=by
 have K:=hide (file_ok h hf ho hr)
 have c3:=h.open_cell hf
 have cf:=h.tree_cells.2.2.2
 have l0:(0:Int) ≤ (f:Int):=by omega
 have l1:(f:Int) < 16:=by omega
 have d0:decide ((f:Int) < 0)=false:=by simp
 have HR:Hid (TM (w.setCell ⟨g,3 + f,none⟩ (.pointer none)) S g (s.opened f none)∧Kp S w (w.setCell ⟨g,3 + f,none⟩ (.pointer none))):=⟨h.opened hf none,(Kp.of (Below.refl _ w)).setCell (p:=⟨g,3 + f,none⟩) (.inl h.sg) _⟩
 clear h hf ho hr
 go_enter Tryz.func37,Tryz.ntmps37
 go_wp2_with fail
 refine (unhide K).mono ?_
 rintro e w1 ⟨rfl,rfl⟩
 clear K
 go_wp2_with fail
 go_ret
 exact ⟨rfl,HR.out⟩

theorem resize_cut {w:World} {S:Nat→Prop} {g b:Nat} {s:Tr} {t:Th} (h:TM w S g s) (ht:s.T b=some t) (k:Nat) (hk:k < t.d.length) (hd:t.d.length ≤ 1800000000000) :
  Calls Tryz.prog 90 #[.pointer (some ⟨b,0,none⟩),.int .i64 (k:Int)] w fun e w'=>∃ a c,e=.returned (.tuple #[])∧TM w' (Up S w.heap.size w'.heap.size) g (s.upd b { t with d:=t.d.take k,da:=a,dc:=c })∧Kp S w w':=by
 obtain ⟨_,_,_,c3,_,cf⟩:=h.thing_cells ht
 have hO:=h.dat b t ht
 obtain ⟨a2,z2,R2,hz2,hH2⟩:=cut_h hO.has (k:=k) hO.2.1 (by omega)
 have KC:Hid (∀ q,Calls Tryz.prog 50 #[.slice a2 k z2] (w.drewN q) fun e w'=>∃ a c,e=.returned (.slice a k c)∧Own w.heap.size w' a k c (t.d.take k)∧Below w.heap.size w w'):=fun q=>by
  refine (bclone_all a2 _ z2 _ (w.drewN q) hH2 (by omega)).mono ?_
  rintro e w' ⟨a,c,rfl,o,bb⟩
  exact ⟨a,c,rfl,o,bb.os,bb.tape,bb.output,bb.size,bb.block⟩
 have d1:decide ((k:Int) < (t.d.length:Int))=true:=by simp; omega
 have d2:decide (k < t.d.length)=true:=by simp; omega
 have hlen:(t.d.take k).length=k:=by simp; omega
 have HX:=hide (And.intro h (And.intro ht hlen))
 clear h hO hH2 hz2 hlen
 generalize t.d.length=n at *
 go_enter Tryz.func90,Tryz.ntmps90
 go_wp2_with fail
 refine (unhide KC 0).mono ?_
 rintro e w2 ⟨a,c,rfl,ho,hb⟩
 obtain ⟨h,ht,hlen⟩:=HX.out
 have h3:=(h.below hb).thing_cells ht
 have c3':=h3.2.2.2.1
 have cf':=h3.2.2.2.2.2
 have HR:Hid (TM (w2.setCell ⟨b,3,none⟩ (.slice a k c)) (Up S w.heap.size w2.heap.size) g (s.upd b { t with d:=t.d.take k,da:=a,dc:=c })∧Kp S w (w2.setCell ⟨b,3,none⟩ (.slice a k c))):=by
  refine ⟨?_,(Kp.of hb).setCell (p:=⟨b,3,none⟩) (.inl (h.sb b t ht)) _⟩
  have:=h.setD (w':=w2) (S':=Up S w.heap.size w2.heap.size) ht (a':=a) (c':=c) (d':=t.d.take k) (by rw [hlen]; exact ho.base (Nat.zero_le _)) (fun x hx _=>hb.block x hx) hb.size (fun x hx=>.inl hx)
   (fun x hx=>hx.elim (fun q=>Nat.lt_of_lt_of_le (h.lt x q) hb.size) (fun q=>q.2)) (fun x ex=>by
    have hlt:=ho.lt ex
    exact ⟨.inr ⟨hlt.2.1,hlt.1⟩,.inr hlt.2.1⟩)
  rw [hlen] at this
  exact this
 have HZ:Hid ((w2.setCell ⟨b,3,none⟩ (.slice a k c)).heap.size=w2.heap.size):=by unfold Hid; simp [World.setCell]
 clear KC ho hb h ht hlen HX h3
 go_wp2_with fail
 refine bodyPost_ret (results_none rfl _ _ _) rfl ?_
 exact ⟨a,c,rfl,by rw [HZ.out]; exact HR.out.1,HR.out.2⟩

theorem TM.up {w:World} {S:Nat→Prop} {g:Nat} {s:Tr} {v:World} (h:TM w S g s) {n:Nat} (hn:n ≤ w.heap.size) (hv:Below w.heap.size w v):TM v (Up S n v.heap.size) g s :=
 h.kept (fun k hk=>hv.block k (h.lt k hk)) (fun k hk=>.inl hk) (fun k hk=>hk.elim (fun q=>Nat.lt_of_lt_of_le (h.lt k q) hv.size) (fun q=>q.2))

end Go.Proofs.YtknmgefpjdfenaaGreat

/- taken, holds, drop, remove, Unlink, Rmdir. -/
namespace Go.Proofs.YtknmgefpjdfenaaGreat
set_option maxRecDepth 100000
set_option maxHeartbeats 8000000
open Go.RowKit Go.Shelf Go.Maps
set_option linter.unusedVariables false

theorem Tr.eq {a b:Tr} (h1:a.most=b.most) (h2:a.row=b.row) (h3:a.ra=b.ra) (h4:a.rc=b.rc) (h5:a.least=b.least) (h6:a.opn=b.opn) (h7:∀ k,a.T k=b.T k):a=b:=by
 cases a
 cases b
 simp only at h1 h2 h3 h4 h5 h6 h7
 subst h1 h2 h3 h4 h5 h6
 congr 1
 funext k
 exact h7 k

def Tr.less (s:Tr) (b:Nat):Tr:={ s with T:=fun k=>if k=b then none else s.T k }

theorem less_T {s:Tr} {b k:Nat} {t:Th} (h:(s.less b).T k=some t):k ≠ b∧s.T k=some t:=by
 have h':(if k=b then none else s.T k)=some t:=h
 by_cases e:k=b
 ·rw [if_pos e] at h'; cases h'
 ·rw [if_neg e] at h'; exact ⟨e,h'⟩

theorem TM.less {u:World} {S:Nat→Prop} {g:Nat} {s:Tr} (h:TM u S g s) (b:Nat):TM u S g (s.less b) :=
 ⟨h.str.congr (fun i hi=>rfl),h.row,fun k t e=>h.thg k t (less_T e).2,fun k t e=>h.map k t (less_T e).2,fun k t e=>h.dat k t (less_T e).2,fun k k' t t' e e'=>h.mp1 k k' t t' (less_T e).2 (less_T e').2,fun k k' t t' x e e'=>h.da1 k k' t t' x (less_T e).2 (less_T e').2,
  h.sg,h.sr,fun k t e=>h.sb k t (less_T e).2,fun k t e=>h.sm k t (less_T e).2,fun k t x e=>h.sd k t x (less_T e).2,h.lt⟩

theorem TM.drew {u:World} {S:Nat→Prop} {g:Nat} {s:Tr} (h:TM u S g s):TM u.drew S g s:=h.kept (fun _ _=>rfl) (fun _ hk=>hk) h.lt

theorem Kp.drew {S:Nat→Prop} {a b:World} (h:Kp S a b):Kp S a b.drew:=⟨h.os,h.tape,h.output,h.size,h.block⟩

def Tr.gone (s:Tr) (d:Nat) (t:Th) (z:List UInt8) (x:Nat) (tx:Th):Tr :=
 if tx.l=1 then { ((s.upd d { t with ns:=delN z t.ns }).less x) with row:=s.row.set tx.n none,least:=min s.least tx.n } else (s.upd d { t with ns:=delN z t.ns }).upd x { tx with l:=tx.l - 1 }

theorem drop_any {w:World} {S:Nat→Prop} {g d x:Nat} {s:Tr} {t tx:Th} {z:List UInt8} (h:TM w S g s) (ht:s.T d=some t) (h2:t.k=2) (hz:z.length ≤ 200) (hc:t.ns.lookup z=some x) (hx:s.T x=some tx) (hdx:d ≠ x) (hl:1 ≤ tx.l∧tx.l ≤ 1800000000000) (hn:tx.n < s.row.length) :
  Calls Tryz.prog 60 #[.pointer (some ⟨g,0,none⟩),.agg #[.pointer (some ⟨d,0,none⟩),.string (St z)]] w fun e w'=>e=.returned (.tuple #[])∧TM w' (Up S w.heap.size w'.heap.size) g (s.gone d t z x tx)∧Kp S w w':=by
 have hb0:Below w.heap.size w (w.alloc (.cells #[.pointer (some ⟨d,0,none⟩),.string (St z)] 92)):=(Below.refl _ w).alloc (Nat.le_refl _) _
 have hC:=C2.new w (.pointer (some ⟨d,0,none⟩)) (.string (St z))
 have h1:=h.below hb0
 have KN:=named_any h1 ht h2 hz
 rw [hc] at KN
 simp only [ptrO,Option.map_some] at KN
 have KN:=hide KN
 have HX:Hid (TM w S g s∧TM (w.alloc (.cells #[.pointer (some ⟨d,0,none⟩),.string (St z)] 92)) S g s∧C2 (w.alloc (.cells #[.pointer (some ⟨d,0,none⟩),.string (St z)] 92)) w.heap.size (.pointer (some ⟨d,0,none⟩)) (.string (St z))∧Below w.heap.size w (w.alloc (.cells #[.pointer (some ⟨d,0,none⟩),.string (St z)] 92))):=⟨h,h1,hC,hb0⟩
 have HY:=hide (And.intro ht (And.intro h2 (And.intro hz (And.intro hc (And.intro hx (And.intro hdx (And.intro hl hn)))))))
 have k0:=hC.c0
 have k1:=hC.c1
 clear h ht h2 hz hc hx hdx hn hl h1 hb0 hC
 generalize hsz:St z=sz at *
 go_enter Tryz.func60,Tryz.ntmps60
 go_wp2_with fail
 generalize hm:w.heap.size=m at *
 generalize w.alloc (.cells #[.pointer (some ⟨d,0,none⟩),.string sz] 92)=w0 at *
 refine (unhide KN).mono ?_
 rintro e w1 ⟨rfl,hb⟩
 obtain ⟨h,h1,hC,hb0⟩:=HX.out
 obtain ⟨ht,h2,hz,hc,hx,hdx,hl,hn⟩:=HY.out
 clear KN k0 k1 HX HY
 have hmlt:=hC.lt
 have hC1:C2 w1 m (.pointer (some ⟨d,0,none⟩)) (.string sz):=hC.below hb hmlt
 have hB1:Below m w w1:=hb0.trans (hb.mono (Nat.le_of_lt hmlt))
 have hT1:=h1.below hb
 have k0:=hC1.c0
 have k1:=hC1.c1
 have k5:=hT1.dir_map ht h2
 obtain ⟨u',hr,hu,hg,hsz'⟩:=((hT1.drew).map d t ht h2).del hz
 rw [hsz] at hr
 have h3:=hT1.drew.setM ht h2 hu hg hsz'
 have kp3:Kp S w u':=(show Kp S w w1.drew from (Kp.of (hm ▸ hB1)).drew).grown hg (.inl (h.sm d t ht h2))
 have hx3:(s.upd d { t with ns:=delN z t.ns }).T x=some tx:=by rw [Tr.upd_T,if_neg (fun e=>hdx e.symm)]; exact hx
 obtain ⟨_,x1,x2,_,_,xf⟩:=h3.thing_cells hx3
 have ew:wrap64 (tx.l - 1)=tx.l - 1:=by unfold wrap64; omega
 have h4:=h3.setH hx3 (tx.l - 1)
 have kp4:Kp S w (u'.setCell ⟨x,2,none⟩ (.int .i64 (tx.l - 1))):=kp3.setCell (p:=⟨x,2,none⟩) (.inl (h.sb x tx hx)) _
 have hx4:((s.upd d { t with ns:=delN z t.ns }).upd x { tx with l:=tx.l - 1 }).T x=some { tx with l:=tx.l - 1 }:=by rw [Tr.upd_T,if_pos rfl]
 have x4:=h4.thing_cells hx4
 have y1:(u'.setCell ⟨x,2,none⟩ (.int .i64 (tx.l - 1))).cell? ⟨x,1,none⟩=some (.int .i64 (tx.n:Int)):=x4.2.1
 have y2:(u'.setCell ⟨x,2,none⟩ (.int .i64 (tx.l - 1))).cell? ⟨x,2,none⟩=some (.int .i64 (tx.l - 1)):=x4.2.2.1
 have hup:∀ v:World,w.heap.size ≤ v.heap.size→∀ s',TM v S g s'→TM v (Up S w.heap.size v.heap.size) g s':=fun v hv s' q=>q.kept (fun _ _=>rfl) (fun _ hk=>.inl hk) (fun k hk=>hk.elim (fun e=>q.lt k e) (fun e=>e.2))
 by_cases hl1:tx.l=1
 ·obtain ⟨r,hra,_,_,rfz⟩:=h4.row.cell (j:=tx.n) hn
  obtain ⟨_,g1,_,_⟩:=h4.tree_cells
  have g1:(u'.setCell ⟨x,2,none⟩ (.int .i64 (tx.l - 1))).cell? ⟨g,1,none⟩=some (.slice s.ra s.row.length s.rc):=g1
  have hra':s.ra=some ⟨r,0,none⟩:=hra
  have h5:=(h4.drew).setR hra' tx.n none
  have h6:=(h5.drew).lst (min s.least tx.n)
  have h7:=h6.less x
  have kp5:Kp S w ((u'.setCell ⟨x,2,none⟩ (.int .i64 (tx.l - 1))).drew.setCell ⟨r,tx.n,none⟩ (ptrO none)):=kp4.drew.setCell (p:=⟨r,tx.n,none⟩) (.inl (h.sr r hra')) _
  have kp6:Kp S w (((u'.setCell ⟨x,2,none⟩ (.int .i64 (tx.l - 1))).drew.setCell ⟨r,tx.n,none⟩ (ptrO none)).drew.setCell ⟨g,2,none⟩ (.int .i64 ((min s.least tx.n:Nat):Int))):=kp5.drew.setCell (p:=⟨g,2,none⟩) (.inl h.sg) _
  have z1:((u'.setCell ⟨x,2,none⟩ (.int .i64 (tx.l - 1))).drew.setCell ⟨r,tx.n,none⟩ (ptrO none)).cell? ⟨x,1,none⟩=some (.int .i64 (tx.n:Int)):=(h5.thing_cells hx4).2.1
  obtain ⟨_,_,z2,zf⟩:=h5.tree_cells
  have z2:((u'.setCell ⟨x,2,none⟩ (.int .i64 (tx.l - 1))).drew.setCell ⟨r,tx.n,none⟩ (ptrO none)).cell? ⟨g,2,none⟩=some (.int .i64 (s.least:Int)):=z2
  have em:min (s.least:Int) (tx.n:Int)=((min s.least tx.n:Nat):Int):=by omega
  have HR:Hid (TM (((u'.setCell ⟨x,2,none⟩ (.int .i64 (tx.l - 1))).drew.setCell ⟨r,tx.n,none⟩ (ptrO none)).drew.setCell ⟨g,2,none⟩ (.int .i64 ((min s.least tx.n:Nat):Int))) (Up S m (((u'.setCell ⟨x,2,none⟩ (.int .i64 (tx.l - 1))).drew.setCell ⟨r,tx.n,none⟩ (ptrO none)).drew.setCell ⟨g,2,none⟩ (.int .i64 ((min s.least tx.n:Nat):Int))).heap.size) g (s.gone d t z x tx) ∧
    Kp S w (((u'.setCell ⟨x,2,none⟩ (.int .i64 (tx.l - 1))).drew.setCell ⟨r,tx.n,none⟩ (ptrO none)).drew.setCell ⟨g,2,none⟩ (.int .i64 ((min s.least tx.n:Nat):Int)))):=by
   refine ⟨?_,kp6⟩
   rw [← hm]
   refine hup _ kp6.size _ ?_
   unfold Tr.gone
   rw [if_pos hl1]
   refine Eq.mpr (congrArg (TM _ S g) ?_) h7
   refine Tr.eq rfl rfl rfl rfl rfl rfl (fun k=>?_)
   show (if k=x then none else (if k=d then some { t with ns:=delN z t.ns } else s.T k))=(if k=x then none else (if k=x then some { tx with l:=tx.l - 1 } else (if k=d then some { t with ns:=delN z t.ns } else s.T k)))
   by_cases hk:k=x
   ·rw [if_pos hk,if_pos hk]
   ·rw [if_neg hk,if_neg hk,if_neg hk]
  have l0:(0:Int) ≤ (tx.n:Int):=by omega
  have l1:(tx.n:Int) < (s.row.length:Int):=by omega
  rw [hra'] at g1
  simp only [ptrO,Option.map_none] at z1 z2 zf HR
  clear h7 h6 h5 h4 h3 hT1 h h1 kp3 kp4 kp5 kp6 hup hu hg hsz' ht h2 hc hx hn hC1 hC hb0 hb hB1 hx3 hx4 x4 hra hra' hz
  generalize tx.l=lx at *
  subst hl1
  generalize tx.n=nx at *
  generalize s.row.length=rl at *
  generalize t.mp=mp at *
  generalize min s.least nx=mi at *
  go_wp2_with fail
  go_upto_region 2 with fail
  go_region
  go_upto_region 5 with fail
  change Code.wp _ _ _ _ (u'.setCell ⟨x,2,none⟩ (.int .i64 (1 - 1)))
  generalize u'.setCell ⟨x,2,none⟩ (.int .i64 (1 - 1))=v4 at *
  go_region
  go_upto_region 6 with fail
  change Code.wp _ _ _ _ (v4.drew.setCell ⟨r,nx,none⟩ (.pointer none))
  generalize v4.drew.setCell ⟨r,nx,none⟩ (.pointer none)=v5 at *
  go_region
  go_wp2_with fail
  go_end0
  exact ⟨rfl,by rw [hm]; exact HR.out⟩
 ·have d1:(tx.l - 1 == 0)=false:=by simpa using fun e:tx.l - 1=0=>hl1 (by omega)
  have HR:Hid (TM (u'.setCell ⟨x,2,none⟩ (.int .i64 (tx.l - 1))) (Up S m (u'.setCell ⟨x,2,none⟩ (.int .i64 (tx.l - 1))).heap.size) g (s.gone d t z x tx)∧Kp S w (u'.setCell ⟨x,2,none⟩ (.int .i64 (tx.l - 1)))):=by
   refine ⟨?_,kp4⟩
   rw [← hm]
   refine hup _ kp4.size _ ?_
   unfold Tr.gone
   rw [if_neg hl1]
   exact h4
  clear h4 h3 hT1 h h1 kp3 kp4 hup hu hg hsz' ht h2 hc hx hn hC1 hC hb0 hb hB1 hx3 hx4 x4 hz
  generalize tx.l=lx at *
  generalize t.mp=mp at *
  go_wp2_with fail
  go_upto_region 2 with fail
  go_region
  go_wp2_with fail
  go_end0
  exact ⟨rfl,by rw [hm]; exact HR.out⟩

end Go.Proofs.YtknmgefpjdfenaaGreat

