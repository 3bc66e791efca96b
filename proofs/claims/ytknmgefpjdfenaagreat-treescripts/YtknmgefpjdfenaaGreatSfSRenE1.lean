/- The reference's Rename: a name takes another thing's place, her last name, kind 1. -/
import Derived.Test.YtknmgefpjdfenaaGreatSfJ42
namespace Go.Proofs.YtknmgefpjdfenaaGreat
set_option maxRecDepth 100000
set_option maxHeartbeats 8000000
open Go.RowKit Go.Shelf Go.Maps
set_option linter.unusedVariables false

theorem rren_ovr1 {w:World} {S:Nat→Prop} {g r n:Nat} {s:Tr} {u:RTr} (h:Rel s u) (hw:Wf s r n) (hn:n ≤ 1700000000000) (hl:Low s) (hT:SM w S g u) {p q:List UInt8} {ms ms2:List (List UInt8)} {z z2:List UInt8} (hp:spl p=some (ms ++ [z])) (hq:spl q=some (ms2 ++ [z2])) {x y:Nat} (hg:goR u (ms ++ [z]) 1=(0,nmb s x)) (hab:abo (ms ++ [z]) (ms2 ++ [z2])=false) {d2:Nat} {t2:Th} {x2:RT} (ht2:s.T d2=some t2) (hpa:paR u ms2=(0,nmb s d2)) (hx2:u.th[nmb s d2]?=some x2) (hk2:Lk s t2 x2) (hc2:t2.ns.lookup z2=some y) {ty:Th} (hy:s.T y=some ty) (hxy:y ≠ x) {tx:Th} (hx:s.T x=some tx) {rk:Nat→Nat} (hdp:Deep s rk) {m:Nat} (hm:rk x < m) (hnm:∀ ys e,go s ys x=(0,some e)→∀ y ∈ ys,nmB y=true) (hft:fitsB s m q x=true) (hkk:tx.k=ty.k) (hkt:ty.k=1) (hne:ty.ns=[]) (hc1:s.cnt y=1) (hv0:s.held y=false) {rb:Nat} (hrb:u.ta=some ⟨rb,0,none⟩) {s':Tr}
  (htf:∀ (k:Nat) (a4:Option Addr) (c4:Nat),x2.ns[k]?=some (z2,nmb s y)→TailF s' (dpR u (nmb s d2) x2 k (nmb s y) a4 c4) g (nmb s d2) (nmb s x) z2 p ({ x2 with ns:=x2.ns.eraseIdx k,na:=a4,nc:=c4 }:RT) rb) :
  Calls Tryz.prog 28 #[.pointer (some ⟨g,0,none⟩),.string (St p),.string (St q)] w fun e w'=>∃ u',e=.returned (.int .i64 0)∧SM w' (Up S w.heap.size w'.heap.size) g u'∧Kp S w w'∧Rel (s') u':=by
 have hs:=h.rs hw hn
 have hok:=(spl_some hp).1
 have hok2:=(spl_some hq).1
 obtain ⟨h16,h200⟩:=okN_short hok
 obtain ⟨h16b,h200b⟩:=okN_short hok2
 have hl1:(ms ++ [z]).length=ms.length + 1:=by simp
 have hl2:(ms2 ++ [z2]).length=ms2.length + 1:=by simp
 have hz200:z2.length ≤ 200:=h200b z2 (by simp)
 have hm16:ms.length ≤ 16:=by rw [hl1] at h16; omega
 have hm16b:ms2.length ≤ 16:=by rw [hl2] at h16b; omega
 have K1:=hide (rsplit_yes w hp)
 have K2:Hid (∀ v,Calls Tryz.prog 71 #[.string (St q)] v fun e w'=>∃ a c,e=.returned (.tuple #[.slice a (ms2 ++ [z2]).length c,.int .i64 0])∧OwnS v.heap.size w' a (ms2 ++ [z2]).length c (ms2 ++ [z2])∧Below v.heap.size v w'):=fun v=>rsplit_yes v hq
 have d0:(((ms.length + 1:Nat):Int) == 0)=false:=by simp; omega
 have d0b:(((ms2.length + 1:Nat):Int) == 0)=false:=by simp; omega
 have HT:=hide hT
 have hul:=hs.len
 rw [hl1] at K1
 rw [hl2] at K2
 have KW:Hid (∀ v a c,SM v S g u→HasS v a (ms.length + 1) (ms ++ [z])→Calls Tryz.prog 75 #[.pointer (some ⟨g,0,none⟩),.slice a (ms.length + 1) c] v fun e w'=>e=.returned (.tuple #[.int .i64 (nmb s x:Int),.int .i64 0])∧w'=v):=fun v a c hv hh=>by
  have:=rwalk_any (c:=c) hv hs hh h200 (by omega)
  rw [hg] at this
  exact this
 have KA:Hid (∀ v,Calls Tryz.prog 76 #[.string (St p),.string (St q)] v fun e w'=>e=.returned (.tuple #[.bool false,.int .i64 0])∧Below v.heap.size v w'):=fun v=>by
  have:=rabove_yes v hp hq
  rw [hab] at this
  exact this
 have KP:Hid (∀ B v a c,SM v S g u→OwnS B v a (ms2.length + 1) c (ms2 ++ [z2])→Calls Tryz.prog 77 #[.pointer (some ⟨g,0,none⟩),.slice a (ms2.length + 1) c] v fun e w'=>e=.returned (.tuple #[.int .i64 (nmb s d2:Int),.int .i64 0])∧w'=v):=fun B v a c hv ho=>by
  have:=rparent18_any hv hs ho.has ho.2.1 hok2
  rw [hpa] at this
  exact this
 have hw1:IntKind.i64.wrap (((ms2.length + 1:Nat):Int) - 1)=(ms2.length:Int):=by rw [IntKind.wrap_i64]; omega
 have e1:((ms2.length + 1:Nat):Int) - 1=(ms2.length:Int):=by omega
 have l0:(0:Int) ≤ (ms2.length:Int):=by omega
 have l1:(ms2.length:Int) < ((ms2.length + 1:Nat):Int):=by omega
 have hdl:nmb s d2 < u.th.length:=(List.getElem?_eq_some_iff.1 hx2).1
 have hd0:(0:Int) ≤ (nmb s d2:Int):=by omega
 have hd1:(nmb s d2:Int) < (u.th.length:Int):=by omega
 have hn2:=hs.few _ x2 hx2
 have hz2:x2.ns.lookup z2=some (nmb s y):=hk2.has hw ht2 hc2
 have KL:Hid (∀ v,SM v S g u→Calls Tryz.prog 78 #[.pointer (some ⟨g,0,none⟩),.int .i64 (nmb s d2:Int),.string (St z2)] v fun e w'=>(∃ k:Nat,e=.returned (.int .i64 (k:Int))∧x2.ns[k]?=some (z2,nmb s y))∧w'=v):=fun v hv=>by
  refine (rplace_any hv hx2 z2 (by omega) hn2 (by omega)).mono ?_
  rintro e w' ⟨⟨r,rfl,hr⟩,rfl⟩
  rcases plK_look hr (hs.ap _ x2 hx2) with ⟨_,q⟩ | ⟨k,c',rfl,q1,q2⟩
  ·rw [q] at hz2; cases hz2
  ·rw [hz2] at q2
   cases q2
   exact ⟨⟨k,rfl,q1⟩,rfl⟩
 have KF:Hid (∀ v a c,SM v S g u→HasS v a (ms2.length + 1) (ms2 ++ [z2])→Calls Tryz.prog 79 #[.pointer (some ⟨g,0,none⟩),.slice a (ms2.length + 1) c,.int .i64 (nmb s x:Int)] v fun e w'=>e=.returned (.bool true)∧Below v.heap.size v w'):=fun v a c hv hh=>by
  have:=rfits_rel (c:=c) h hw hn hdp m x (ms2 ++ [z2]) v a tx hx hm hv (by rw [hl2]; exact hh) (by rw [hl2]; omega) (((okN_iff _).1 hok2).2.1) hnm
  rw [hl2,show jn (ms2 ++ [z2])=q from (spl_some hq).2.1.symm,hft] at this
  exact this
 obtain ⟨xx,hxx,hkx⟩:=h.thing hw hx
 obtain ⟨xy,hxy2,hky⟩:=h.thing hw hy
 have hxl:nmb s x < u.th.length:=(List.getElem?_eq_some_iff.1 hxx).1
 have hx0:(0:Int) ≤ (nmb s x:Int):=by omega
 have hx1:(nmb s x:Int) < (u.th.length:Int):=by omega
 have hyl:nmb s y < u.th.length:=(List.getElem?_eq_some_iff.1 hxy2).1
 have hy0:(0:Int) ≤ (nmb s y:Int):=by omega
 have hy1:(nmb s y:Int) < (u.th.length:Int):=by omega
 have hxk:xx.k=tx.k:=hkx.k
 have hyk:xy.k=ty.k:=hky.k
 have hyn:xy.ns.length=ty.ns.length:=by have:=hky.ns.length_eq; rwa [List.length_map] at this
 have dxy:((nmb s y:Int) == (nmb s x:Int))=false:=by
  have:nmb s y ≠ nmb s x:=fun e=>hxy (nmb_inj hw hy hx e)
  simp
  omega
 rw [hkk] at hxk
 rw [hne] at hyn
 rw [show ([]:NS).length=0 from rfl] at hyn
 have HXX:=hide (And.intro hxx hxk)
 have HYY:=hide (And.intro hxy2 (And.intro hyk hyn))
 have HX2:=hide hx2
 have hlk:=h.links hw hy
 have hbz:=h.busy hw hl hy
 have hp0:=nmb_pos hw hl hy
 have KN:Hid (∀ v,SM v S g u→Calls Tryz.prog 73 #[.pointer (some ⟨g,0,none⟩),.int .i64 (nmb s y:Int)] v fun e w'=>e=.returned (.int .i64 (s.cnt y:Int))∧w'=v):=fun v hv=>by
  have:=rlinks_any hv hs (nmb s y) (by omega) (by rw [hlk]; have:=hw.cnt_le y; omega)
  rw [hlk] at this
  exact this
 have KZ:Hid (∀ v,SM v S g u→Calls Tryz.prog 80 #[.pointer (some ⟨g,0,none⟩),.int .i64 (nmb s y:Int)] v fun e w'=>e=.returned (.bool (s.held y))∧w'=v):=fun v hv=>by
  have:=rbusy_any hv (nmb s y) hp0
  rw [hbz] at this
  exact this
 have KD:Hid (∀ v (k:Nat),SM v S g u→x2.ns[k]?=some (z2,nmb s y)→Calls Tryz.prog 81 #[.pointer (some ⟨g,0,none⟩),.int .i64 (nmb s d2:Int),.int .i64 (k:Int)] v fun e w'=>∃ a c,e=.returned (.tuple #[])∧SM w' (Up S v.heap.size w'.heap.size) g (dpR u (nmb s d2) x2 k (nmb s y) a c)∧Kp S v w'):=fun v k hv hk=>rdrop_any hv hs hx2 hk (fun a c=>by
  have q1:=cut_le hs hx2 k (nmb s y) a c
  have q2:=h.links hw hy
  have q3:=hw.cnt_le y
  omega)
 have HTF0:=hide htf
 have HSl:Hid (∀ k,S k→k < w.heap.size):=hT.lt
 have HRB:=hide hrb
 clear h hw hl hT hs hok hok2 h16 h200 h16b h200b hl1 hl2 hp hq hg hab hpa hx2 hk2 ht2 hc2 hz2 hx hdp hm hnm hft hn hxy hy hkk hxx hxy2 hkx hky hxk hyk hyn hlk hbz hp0 hne htf hrb
 generalize hkv:ty.k=kk at *
 clear hkv
 generalize hcv:s.cnt y=cv at *
 clear hcv
 generalize hhv:s.held y=hv at *
 clear hhv
 have HO:Hid (∀ B v a c,OwnS B v a (ms2.length + 1) c (ms2 ++ [z2])→∃ b o,a=some ⟨b,o,none⟩∧v.cell? ⟨b,o + ms2.length,none⟩=some (.string (St z2))):=fun B v a c ho=>ho.last
 generalize St q=sq at *
 generalize ms.length + 1=n1 at *
 generalize ms2.length + 1=n2 at *
 generalize ms2.length=l2 at *
 generalize ms ++ [z]=xs1 at *
 generalize ms2 ++ [z2]=ys2 at *
 go_enter Tryz.func28,Tryz.ntmps28
 go_wp2_with fail
 refine (unhide K1).mono ?_
 rintro e w1 ⟨a,c,rfl,ho,hb⟩
 have HB:=hide hb
 have HT:=hide (HT.out.below hb)
 have HA:=hide ho
 have K2:=hide (K2.out w1)
 clear K1 hb ho
 go_wp2_with fail
 refine (unhide K2).mono ?_
 rintro e w2 ⟨a2,c2,rfl,ho,hb⟩
 have HB:=hide (HB.out.trans (hb.mono HB.out.size))
 have HT:=hide (HT.out.below hb)
 have HA:=hide (HA.out.below hb (Nat.le_refl _))
 have HA2:Hid (∃ B,OwnS B w2 a2 n2 c2 ys2):=⟨_,ho⟩
 have KW:=hide (KW.out w2 a c HT.out HA.out.has)
 clear K2 hb ho
 go_wp2_with fail
 refine (unhide KW).mono ?_
 rintro e w3 ⟨rfl,rfl⟩
 clear KW HA
 have KA:=hide (KA.out w3)
 go_wp2_with fail
 refine (unhide KA).mono ?_
 rintro e w4 ⟨rfl,hb⟩
 have HB:=hide (HB.out.trans (hb.mono HB.out.size))
 have HT:=hide (HT.out.below hb)
 have HA2:Hid (∃ B,OwnS B w4 a2 n2 c2 ys2):=by
  obtain ⟨B,q⟩:=HA2.out
  exact ⟨B,q.below hb (Nat.le_refl _)⟩
 clear KA hb
 have KP:=hide (KP.out _ w4 a2 c2 HT.out HA2.out.choose_spec)
 go_wp2_with fail
 refine (unhide KP).mono ?_
 rintro e w5 ⟨rfl,rfl⟩
 clear KP
 obtain ⟨b0,o0,rfl,cz⟩:=HO.out _ _ _ _ HA2.out.choose_spec
 have KL:=hide (KL.out w5 HT.out)
 go_wp2_with fail
 refine (unhide KL).mono ?_
 rintro e w6 ⟨⟨k,rfl,hk⟩,rfl⟩
 clear KL cz
 have k0:(0:Int) ≤ (k:Int):=by omega
 have hkl:k < x2.ns.length:=(List.getElem?_eq_some_iff.1 hk).1
 have k1:(k:Int) < (x2.ns.length:Int):=by omega
 obtain ⟨rb0,era,-,-,-,t2,-⟩:=HT.out.row.cell HX2.out
 rw [HRB.out] at era
 cases era
 have era:=HRB.out
 have g1:=HT.out.cells.2.1
 rw [era] at g1
 obtain ⟨nb,ena,-,n0,-⟩:=(HT.out.nam _ x2 HX2.out).cell hk
 rw [ena] at t2
 have HK:=hide (And.intro hk (And.intro era ena))
 clear hk era ena
 have KF:=hide (KF.out w6 _ c2 HT.out HA2.out.choose_spec.has)
 go_wp2_with fail
 refine (unhide KF).mono ?_
 rintro e w7 ⟨rfl,hb⟩
 have HB:=hide (HB.out.trans (hb.mono HB.out.size))
 have HT:=hide (HT.out.below hb)
 clear KF hb
 clear g1 t2 n0
 obtain ⟨rb7,er7,-,x0,-,-,-⟩:=HT.out.row.cell HXX.out.1
 rw [HK.out.2.1] at er7
 cases er7
 obtain ⟨rb7,er7,-,y0,-,y2,-⟩:=HT.out.row.cell HYY.out.1
 rw [HK.out.2.1] at er7
 cases er7
 obtain ⟨rb7,er7,-,-,-,t2,-⟩:=HT.out.row.cell HX2.out
 rw [HK.out.2.1] at er7
 cases er7
 have g1:=HT.out.cells.2.1
 rw [HK.out.2.1] at g1
 obtain ⟨nb7,en7,-,n0,-⟩:=(HT.out.nam _ x2 HX2.out).cell HK.out.1
 rw [HK.out.2.2] at en7
 cases en7
 rw [HK.out.2.2] at t2
 rw [HXX.out.2] at x0
 rw [HYY.out.2.1] at y0
 rw [HYY.out.2.2] at y2
 subst hc1 hv0
 generalize hsp2:St z2=sz2 at *
 rw [hkt] at x0 y0
 have KN:=hide (KN.out w7 HT.out)
 go_wp2_with fail
 refine (unhide KN).mono ?_
 rintro e w8 ⟨rfl,rfl⟩
 clear KN
 have KZ:=hide (KZ.out w8 HT.out)
 go_wp2_with fail
 refine (unhide KZ).mono ?_
 rintro e w8 ⟨rfl,rfl⟩
 clear KZ
 have KD:=hide (KD.out w8 k HT.out HK.out.1)
 go_wp2_with fail
 refine (unhide KD).mono ?_
 rintro e v9 ⟨a4,c4,rfl,hM0,hkp1⟩
 have hkp0:Kp S w v9:=(Kp.of HB.out).trans hkp1 (fun k q=>.inl q)
 clear KD hkp1
 subst hsp2
 have HTF:=hide (HTF0.out k a4 c4 HK.out.1)
 have HTt:Hid (SM v9 (Up S w8.heap.size v9.heap.size) g (dpR u (nmb s d2) x2 k (nmb s y) a4 c4)∧Kp S w v9∧∀ k,Up S w8.heap.size v9.heap.size k→S k ∨ w.heap.size ≤ k):=⟨hM0,hkp0,fun k q=>q.imp id (fun e=>Nat.le_trans HB.out.size e.1)⟩
 clear hM0 hkp0 HTF0 HB HT HA2 HO HXX HYY HX2 x0 y0 y2 n0 t2 g1 HK HRB hkt k0 hkl k1 dxy hw1 e1 l0 l1 d0 d0b KA KW KP KF K2 HA hul hz200 hm16 hm16b hdl hn2 hxl hx0 hx1 hyl hy0 hy1
 generalize dpR u (nmb s d2) x2 k (nmb s y) a4 c4=u1 at *
 generalize ({ x2 with ns:=x2.ns.eraseIdx k,na:=a4,nc:=c4 }:RT)=x3 at *
 generalize Up S w8.heap.size v9.heap.size=S1 at *
 go_upto_region 33 with fail
 obtain ⟨xb,cb,wu,r,y1,y2,yf,hM,hkp⟩:=HTF.out.more v9.drew S1 HTt.out.1.drew
 have R:=hide r
 obtain ⟨g1,t1⟩:=HTF.out.cells v9 S1 HTt.out.1
 have g1a:∀ ob,(v9.alloc ob).cell? ⟨g,1,none⟩=some (.slice (some ⟨rb,0,none⟩) (u1).th.length (u1).tc):=fun ob=>(((Below.refl v9.heap.size v9).alloc (Nat.le_refl _) ob).cell (p:=⟨g,1,none⟩) (cell_block_lt g1)).trans g1
 have t1a:∀ ob,(v9.alloc ob).cell? ⟨rb,nmb s d2 * 3 + 2,none⟩=some (.slice (x3).na (x3).ns.length (x3).nc):=fun ob=>(((Below.refl v9.heap.size v9).alloc (Nat.le_refl _) ob).cell (p:=⟨rb,nmb s d2 * 3 + 2,none⟩) (cell_block_lt t1)).trans t1
 have hbd:=HTF.out.bd
 have HF:Hid (SM (wu.setCell ⟨rb,nmb s d2 * 3 + 2,none⟩ (.slice (some ⟨xb,0,none⟩) ((x3).ns.length + 1) cb)) (Up S w.heap.size (wu.setCell ⟨rb,nmb s d2 * 3 + 2,none⟩ (.slice (some ⟨xb,0,none⟩) ((x3).ns.length + 1) cb)).heap.size) g ((u1).put (nmb s d2) { (x3) with ns:=(x3).ns ++ [(z2,nmb s x)],na:=some ⟨xb,0,none⟩,nc:=cb })∧Kp S w (wu.setCell ⟨rb,nmb s d2 * 3 + 2,none⟩ (.slice (some ⟨xb,0,none⟩) ((x3).ns.length + 1) cb))):=by
  obtain ⟨z1,z2,z3⟩:=HTt.out
  have hsz:=z2.size
  exact ⟨hM.kept (fun _ _=>rfl) (fun k q=>by
   rcases q with q | q
   ·exact (z3 k q).imp id (fun e=>⟨e,Nat.lt_of_lt_of_le (z1.lt k q) hkp.size⟩)
   ·exact .inr ⟨Nat.le_trans hsz q.1,q.2⟩) (fun k q=>by
   rcases q with q | q
   ·exact Nat.lt_of_lt_of_le (HSl.out k q) (Nat.le_trans hsz hkp.size)
   ·exact q.2),z2.drew.trans hkp (fun k q=>z3 k q)⟩
 clear hM hkp r HTt
 generalize (x3).ns.length=tl at *
 generalize (u1).th.length=sl at *
 go_cut [] (fun wx=>Hid (∃ a' c',SM wx (Up S w.heap.size wx.heap.size) g ((u1).put (nmb s d2) { (x3) with ns:=(x3).ns ++ [(z2,nmb s x)],na:=a',nc:=c' })∧Kp S w wx))
 case first =>
  clear HTF HSl
  generalize St z2=sz2 at *
  go_region_law (refine step_app_run (by rfl) _ _ _ (by rfl) _ _ _ (by rfl) (by rfl) (unhide R) ?_; clear R)
  all_goals
   go_wp2_with fail
   go_meet
   exact ⟨some ⟨xb,0,none⟩,cb,HF.out⟩
 case rest =>
  clear R HF g1 t1 g1a t1a y1 y2 yf
  obtain ⟨a',c',h1,h2⟩:=hcut.out
  have KR:=hide (HTF.out.rem a' c' wc _ h1)
  have HK2:=hide (And.intro h1 h2)
  clear h1 h2 hcut HTF
  generalize hsp:St p=sp at *
  clear hsp
  go_wp2_with fail
  refine (unhide KR).mono ?_
  rintro e w9 ⟨u',rfl,hM,hkp,hR⟩
  have HZ:Hid (SM w9 (Up S w.heap.size w9.heap.size) g u'∧Kp S w w9∧Rel (s') u'):=by
   obtain ⟨z1,z2⟩:=HK2.out
   have hsz:=z2.size
   refine ⟨hM.kept (fun _ _=>rfl) (fun k q=>?_) (fun k q=>?_),z2.trans hkp (fun k q=>q.imp id (fun e=>e.1)),hR⟩
   ·rcases q with q | q
    ·exact q.imp id (fun e=>⟨e.1,Nat.lt_of_lt_of_le e.2 hkp.size⟩)
    ·exact .inr ⟨Nat.le_trans hsz q.1,q.2⟩
   ·rcases q with q | q
    ·exact Nat.lt_of_lt_of_le (HSl.out k q) (Nat.le_trans hsz hkp.size)
    ·exact q.2
  clear KR hM hkp hR HK2
  go_wp2_with fail
  go_ret
  exact ⟨u',rfl,HZ.out⟩

end Go.Proofs.YtknmgefpjdfenaaGreat
