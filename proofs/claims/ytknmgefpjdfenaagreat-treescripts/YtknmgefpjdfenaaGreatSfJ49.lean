/- Joined: SList, SPairA, SGood, SPairB, SPairC. -/
import Derived.Test.YtknmgefpjdfenaaGreatSfJ41
import Derived.Test.YtknmgefpjdfenaaGreatSfTList
import Derived.Test.YtknmgefpjdfenaaGreatSfTExactB
import Derived.Test.YtknmgefpjdfenaaGreatSfJ42
import Derived.Test.YtknmgefpjdfenaaGreatSfJ39
import Derived.Test.YtknmgefpjdfenaaGreatSfJ40
import Derived.Test.YtknmgefpjdfenaaGreatSfJ38
import Derived.Test.YtknmgefpjdfenaaGreatSfJ36
import Derived.Test.YtknmgefpjdfenaaGreatSfSRenD
import Derived.Test.YtknmgefpjdfenaaGreatSfSRenE
/- The reference's List. -/
namespace Go.Proofs.YtknmgefpjdfenaaGreat
set_option maxRecDepth 100000
set_option maxHeartbeats 8000000
open Go.RowKit Go.Shelf Go.Maps
set_option linter.unusedVariables false

def recs (s:RTr) (e:List UInt8 × Nat):List Value:=[.string (St e.1),.int .i64 (kiR s e.2),.int .i64 (e.2:Int)]

def OwnE (B:Nat) (w:World) (v:Value) (s:RTr) (es:NL):Prop:=w.ownsRow B 107 3 v es.length (es.flatMap (recs s))

theorem OwnE.app {B:Nat} {w:World} {v:Value} {s:RTr} {es:NL} (h:OwnE B w v s es) (hB:B ≤ w.heap.size) (e:List UInt8 × Nat) (hn:es.length ≤ 1800000000000) :
  ∃ (v':Value) (w':World),(∀ ty,(Builtin.append_ #[51,51] ty #[v,.slice (some ⟨w.heap.size,0,none⟩) 1 1]).run Tryz.prog (w.alloc (.cells #[.string (St e.1),.int .i64 (kiR s e.2),.int .i64 (e.2:Int)] 107))=.ok v' w')∧OwnE B w' v' s (es ++ [e])∧Below B w w':=by
 obtain ⟨i0,hi,hz0,hz1,hz2⟩:=info_parts infoE
 have hb0:Below w.heap.size w (w.alloc (.cells #[.string (St e.1),.int .i64 (kiR s e.2),.int .i64 (e.2:Int)] 107)):=(Below.refl _ w).alloc (Nat.le_refl _) _
 have h1:OwnE B (w.alloc (.cells #[.string (St e.1),.int .i64 (kiR s e.2),.int .i64 (e.2:Int)] 107)) v s es:=by
  refine ⟨h.1,h.2.imp id ?_⟩
  rintro ⟨g,cap,cur,e',hg,hh,r⟩
  exact ⟨g,cap,cur,e',hg,(hb0.block g (Array.getElem?_eq_some_iff.1 hh).1).trans hh,r⟩
 have hbl:=Bl.new w #[.string (St e.1),.int .i64 (kiR s e.2),.int .i64 (e.2:Int)] 107
 obtain ⟨v',w',hr,ho2,hg,_⟩:=run_append_own (P:=Tryz.prog) (w.alloc (.cells #[.string (St e.1),.int .i64 (kiR s e.2),.int .i64 (e.2:Int)] 107)) B 51 0 107 i0 _ 3 32 undE hi hz0 hz1 hz2 rfl (by decide) v es.length _ h1 ⟨w.heap.size,0,none⟩ 1 1 (recs s e) rfl
  (fun j u hj=>by rw [World.add_zero_spot,Nat.zero_add]; exact hbl.cell j u (by simpa [recs] using hj)) (by intro z hz; simp [recs] at hz; rcases hz with rfl | rfl | rfl <;> rfl) (by unfold maxLen; omega) (by omega) (Nat.le_trans hB hb0.size)
 refine ⟨v',w',fun ty=>hr,?_,?_⟩
 ·unfold OwnE
  rw [List.flatMap_append,List.length_append]
  simpa using ho2
 ·refine (hb0.mono hB).grown hg (Nat.le_trans hB hb0.size) (fun k ek=>?_)
  rcases h.2 with ⟨rfl,_⟩ | ⟨g,cap,cur,rfl,hgB,_⟩
  ·simp [Value.ownBlock] at ek
  ·simp [Value.ownBlock] at ek
   omega

theorem rlist_ok {w:World} {S:Nat→Prop} {g i:Nat} {s:RTr} {t:RT} (h:SM w S g s) (hs:Rs s) {p:List UInt8} (hp:p.length ≤ 9223372036854775807) (hf:fdR s p=(0,i)) (ht:s.th[i]?=some t) (hk:t.k=2) :
  Calls Tryz.prog 34 #[.pointer (some ⟨g,0,none⟩),.string (St p)] w fun e w'=>∃ v ms,e=.returned (.tuple #[v,.int .i64 0])∧ms.Perm t.ns∧Srt ms∧OwnE w.heap.size w' v s ms∧Below w.heap.size w w':=by
 have K:=rfind_any h hs hp
 rw [hf] at K
 have K:=hide K
 have HT:=hide h
 have hil:i < s.th.length:=(List.getElem?_eq_some_iff.1 ht).1
 have hln:=hs.len
 have hnl:=hs.few i t ht
 have hi0:(0:Int) ≤ (i:Int):=by omega
 have hil':(i:Int) < (s.th.length:Int):=by omega
 have HX:=hide (And.intro ht hk)
 have HLv:Hid (∀ e ∈ t.ns,∃ t',s.th[e.2]?=some t'):=fun e he=>hs.live i t e.1 e.2 ht (nl_look (hs.ap i t ht) he)
 have KS:Hid (∀ u,SM u S g s→Calls Tryz.prog 88 #[.slice t.na t.ns.length t.nc] u fun e w'=>∃ a' c' ms,e=.returned (.slice a' t.ns.length c')∧ms.Perm t.ns∧Srt ms∧OwnN u.heap.size w' a' c' ms∧Below u.heap.size u w'):=fun u hu=>rsorted_any (hu.nam i t ht) (hs.ap i t ht) hnl
 clear h hs hp hf ht hk hil
 generalize hnn:t.ns.length=n at *
 have HNN:=hide hnn
 clear hnn
 generalize St p=sp at *
 go_enter Tryz.func34,Tryz.ntmps34
 go_wp2_with fail
 refine (unhide K).mono ?_
 rintro e w1 ⟨rfl,hb⟩
 have HT:=hide (HT.out.below hb)
 obtain ⟨rb,era,_,t0,_,t2,_⟩:=HT.out.row.cell HX.out.1
 have g1:=HT.out.cells.2.1
 rw [era] at g1
 rw [HX.out.2] at t0
 rw [HNN.out] at t2
 have HB:=hide hb
 have KS:=hide (KS.out w1 HT.out)
 clear K hb
 generalize hsl:s.th.length=sl at *
 have HSL:=hide hsl
 clear hsl
 go_wp2_with fail
 refine (unhide KS).mono ?_
 rintro e w2 ⟨a',c',ms,rfl,hpm,hsr,ho,hb⟩
 have HT:=hide (HT.out.below hb)
 have HB:=hide (HB.out.trans (hb.mono HB.out.size))
 have HO:=hide ho
 have HPS:=hide (And.intro hpm hsr)
 have hml:ms.length=n:=by rw [hpm.length_eq]; exact HNN.out
 have HML:=hide hml
 have H0:Hid (OwnE w2.heap.size w2 (.slice none 0 0) s (ms.take 0)∧Below w2.heap.size w2 w2):=⟨⟨by rw [List.take_zero]; rfl,.inl ⟨rfl,by rw [List.take_zero]; rfl⟩⟩,Below.refl _ _⟩
 clear KS hb ho hpm hsr hml t0 t2 g1
 go_wp2_with fail
 go_loopw [9,10] (fun lv kv wr=>∃ k:Nat,k ≤ n∧kv=.int .i64 (k:Int)∧Hid (OwnE w2.heap.size wr lv s (ms.take k)∧Below w2.heap.size w2 wr)) (fun _ kv _=>n - (intOf kv).toNat)
 case atStart=>exact ⟨0,Nat.zero_le _,rfl,H0⟩
 case round =>
  obtain ⟨k,hkn,rfl,hJ⟩:=hrel
  clear H0
  by_cases hk:k < n
  ·have l1:(k:Int) < (n:Int):=by omega
   have l0:(0:Int) ≤ (k:Int):=by omega
   obtain ⟨e,he⟩:∃ e,ms[k]?=some e:=⟨_,List.getElem?_eq_getElem (by have:=HML.out; omega)⟩
   have hO:=HO.out.kept (w':=wr) (fun b eb=>hJ.out.2.block b (HO.out.at eb).1)
   obtain ⟨nb,rfl,_,n0,n1⟩:=hO.cell he
   obtain ⟨t',ht'⟩:=HLv.out e (HPS.out.1.subset (List.mem_of_getElem? he))
   have hT:=HT.out.below hJ.out.2
   obtain ⟨rx,erx,_,z0,_,_,_⟩:=hT.row.cell ht'
   rw [era] at erx
   cases erx
   have g1:=hT.cells.2.1
   rw [era,HSL.out] at g1
   have hel:e.2 < sl:=by rw [← HSL.out]; exact (List.getElem?_eq_some_iff.1 ht').1
   have e0:(0:Int) ≤ (e.2:Int):=by omega
   have e1:(e.2:Int) < (sl:Int):=by omega
   have hkt:(ms.take k).length=k:=by rw [List.length_take]; have:=HML.out; omega
   obtain ⟨v',w',r,o,bb⟩:=OwnE.app (w:=wr.drew) hJ.out.1 hJ.out.2.size e (by rw [hkt]; omega)
   rw [kiR_of ht'] at r
   have R:=hide r
   have HJ:Hid (OwnE w2.heap.size w' v' s (ms.take (k + 1))∧Below w2.heap.size w2 w'):=by
    have e3:ms.take (k + 1)=ms.take k ++ [e]:=by rw [List.take_add_one,he]; rfl
    rw [e3]
    exact ⟨o,Below.trans (b:=wr.drew) ⟨hJ.out.2.os,hJ.out.2.tape,hJ.out.2.output,hJ.out.2.size,hJ.out.2.block⟩ bb⟩
   clear hJ hO hT ht' r o bb he HX HLv HNN HSL HO HPS HML HT HB hel hkt
   generalize St e.1=se at *
   generalize t'.k=tk at *
   go_wp2_with fail
   go_region_law (refine step_app_run (by rfl) _ _ _ (by rfl) _ _ _ (by rfl) (by rfl) (unhide R) ?_; clear R)
   all_goals
    go_wp2_with fail
    go_roundw
    case rel=>exact ⟨k + 1,by omega,by go_num,HJ⟩
    case measure=>simp [intOf]; omega
  ·obtain rfl:k=n:=by omega
   have d9:decide ((k:Int) < (k:Int))=false:=by simp
   go_wp2_with fail
   go_ret2
   obtain ⟨h1,h2⟩:=hJ.out
   rw [List.take_of_length_le (by have:=HML.out; omega)] at h1
   refine ⟨_,ms,rfl,HPS.out.1,HPS.out.2,⟨h1.1,h1.2.imp id ?_⟩,HB.out.trans (h2.mono HB.out.size)⟩
   rintro ⟨g',cap,cur,e',hg,r⟩
   exact ⟨g',cap,cur,e',Nat.le_trans HB.out.size hg,r⟩

end Go.Proofs.YtknmgefpjdfenaaGreat

/- Both trees, call by call: base, Create, Mkdir, Link. -/
namespace Go.Proofs.YtknmgefpjdfenaaGreat
set_option maxRecDepth 100000
set_option maxHeartbeats 8000000
open Go.RowKit Go.Shelf Go.Maps
set_option linter.unusedVariables false

structure Inv (s:Tr) (r:Nat):Prop where
 low:Low s
 rl:Rl s r
 lm:∀ b t,s.T b=some t→t.l ≤ 65535
 mo:1 ≤ s.most

def Good (s:Tr) (u:RTr) (r k:Nat):Prop:=Wv s r k∧Inv s r∧Rel s u

theorem Good.mono {s:Tr} {u:RTr} {r k m:Nat} (h:Good s u r k) (hm:k ≤ m):Good s u r m:=⟨h.1.mono hm,h.2⟩

def PrE (w:World) (S:Nat→Prop) (g r k:Nat) (R:Nat→Prop) (h:Nat) (u:RTr) (KR:World→(Ending→World→Prop)→Prop) (e:Ending) (w1:World):Prop :=
 ∃ E s',e=.returned (.int .i64 E)∧TM w1 (Up S w.heap.size w1.heap.size) g s'∧Kp S w w1 ∧
  ∀ v,SM v R h u→KR v (fun e w2=>∃ u',e=.returned (.int .i64 E)∧SM w2 (Up R v.heap.size w2.heap.size) h u'∧Kp R v w2∧Good s' u' r (k + 1))

theorem SM.up {w:World} {S:Nat→Prop} {g:Nat} {s:RTr} {v:World} (h:SM w S g s) (hv:Below w.heap.size w v):SM v (Up S w.heap.size v.heap.size) g s :=
 h.kept (fun k hk=>hv.block k (h.lt k hk)) (fun k hk=>.inl hk) (fun k hk=>hk.elim (fun q=>Nat.lt_of_lt_of_le (h.lt k q) hv.size) (fun q=>q.2))

theorem plc_yes {s:Tr} {u:RTr} {r n d:Nat} {t:Th} {ms:List (List UInt8)} (h:Rel s u) (hw:Wf s r n) (e:plc s ms r=(0,some d)) (ht:s.T d=some t):paR u ms=(0,nmb s d)∧∃ x,u.th[nmb s d]?=some x∧Lk s t x:=by
 rcases rel_plc h hw ms with ⟨d',t',x,q1,q2,q3,q4,q5,q6⟩ | ⟨E,_,q1,_⟩
 ·rw [e] at q1
  cases q1
  rw [ht] at q2
  cases q2
  exact ⟨q4,x,q5,q6⟩
 ·rw [e] at q1
  cases q1

theorem plc_no {s:Tr} {u:RTr} {r n:Nat} {ms:List (List UInt8)} (h:Rel s u) (hw:Wf s r n) (e:(plc s ms r).2=none):(paR u ms).1=(plc s ms r).1∧(plc s ms r).1 ≠ 0:=by
 rcases rel_plc h hw ms with ⟨d',t',x,q1,q2,q3,q4,q5,q6⟩ | ⟨E,hE,q1,q2⟩
 ·rw [q1] at e
  cases e
 ·rw [q1,q2]
  exact ⟨rfl,by show E ≠ 0; omega⟩

theorem find_yes {s:Tr} {u:RTr} {r n x:Nat} {ps:List (List UInt8)} (h:Rel s u) (hw:Wf s r n) (e:go s ps r=(0,some x)):goR u ps 1=(0,nmb s x):=by
 rcases rel_find h hw ps with ⟨c,t,q1,_,q2⟩ | ⟨E,_,q1,_⟩
 ·rw [e] at q1
  cases q1
  exact q2
 ·rw [e] at q1
  cases q1

theorem find_no {s:Tr} {u:RTr} {r n:Nat} {ps:List (List UInt8)} (h:Rel s u) (hw:Wf s r n) (e:(go s ps r).2=none):goR u ps 1=((go s ps r).1,0)∧(go s ps r).1 ≠ 0:=by
 rcases rel_find h hw ps with ⟨c,t,q1,_,q2⟩ | ⟨E,hE,q1,q2⟩
 ·rw [q1] at e
  cases e
 ·rw [q1,q2]
  exact ⟨rfl,by show E ≠ 0; omega⟩

theorem fdR_of {u:RTr} {p:List UInt8} {ps:List (List UInt8)} (h:spl p=some ps):fdR u p=goR u ps 1:=by unfold fdR; rw [h]

theorem go_last {s:Tr} {z:List UInt8}:∀ (ms:List (List UInt8)) (b:Nat),(∃ t,s.T b=some t)→go s (ms ++ [z]) b=match (go s ms b).2 with
  | none=>((go s ms b).1,none)
  | some c=>go s [z] c
 | [],b,_=>rfl
 | x :: ms,b,⟨t,ht⟩=>by
  rw [List.cons_append]
  unfold go
  simp only [ht]
  by_cases hk:t.k=1
  ·rw [if_pos hk,if_pos hk]
  ·rw [if_neg hk,if_neg hk]
   cases hx:t.ns.lookup x with
   | none=>rfl
   | some c =>
    simp only
    by_cases hc:∃ tc,s.T c=some tc
    ·rw [go_last ms c hc]
     rfl
    ·cases hT:s.T c with
     | some tc=>exact absurd ⟨tc,hT⟩ hc
     | none =>
      cases ms with
      | nil=>rfl
      | cons y ms =>
       unfold go
       simp [hT]

theorem go_par {s:Tr} {r n:Nat} {ms:List (List UInt8)} {z:List UInt8} (hw:Wf s r n) (e:(plc s ms r).2=none):go s (ms ++ [z]) r=((plc s ms r).1,none):=by
 obtain ⟨tr,htr,_⟩:=hw.ok.dir
 rw [go_last ms r ⟨tr,htr⟩]
 unfold plc at e ⊢
 rcases go_ends hw.ok ms r ⟨tr,htr⟩ with ⟨g1,c,t,g2,ht⟩ | ⟨g1,g2⟩
 ·simp only [g2,ht] at e ⊢
  by_cases hk:t.k=1
  ·rw [if_pos hk,go_file ht hk]
  ·rw [if_neg hk] at e
   cases e
 ·simp only [g2]

theorem go_dir {s:Tr} {r n d:Nat} {t:Th} {ms:List (List UInt8)} {z:List UInt8} (hw:Wf s r n) (e:plc s ms r=(0,some d)) (ht:s.T d=some t) (h2:t.k=2):go s (ms ++ [z]) r=match t.ns.lookup z with
  | none=>(11,none)
  | some c=>(0,some c):=by
 obtain ⟨tr,htr,_⟩:=hw.ok.dir
 rw [go_last ms r ⟨tr,htr⟩,plc_go hw.ok e]
 simp only
 cases hz:t.ns.lookup z with
 | none=>exact go_none ht h2 hz []
 | some c=>exact go_step ht h2 hz []

theorem EntN.ad {s:Tr} {u:RTr} {r n:Nat} {p:List UInt8} {E:Int} (h:Rel s u) (hw:Wf s r n) (hN:EntN s r p E):AdNo u p E:=by
 rcases hN with ⟨a,b⟩ | ⟨a,b⟩ | ⟨ms,z,hs,⟨e1,e2⟩ | ⟨d,t,c,e1,ht,h2,hc,rfl⟩⟩
 ·exact .inl ⟨a,b⟩
 ·exact .inr (.inl ⟨a,b⟩)
 ·obtain ⟨q1,q2⟩:=plc_no h hw e1
  exact .inr (.inr ⟨ms,z,hs,.inl ⟨by rw [q1,e2],by rw [← e2]; exact q2⟩⟩)
 ·obtain ⟨q1,x,hx,hk⟩:=plc_yes h hw e1 ht
  exact .inr (.inr ⟨ms,z,hs,.inr ⟨by rw [q1],rfl,x,nmb s c,by rw [q1]; exact hx,hk.has hw ht hc⟩⟩)

theorem two_le {s:Tr} {u:RTr} {r n:Nat} (h:Rel s u) (hw:Wf s r n):2 ≤ u.th.length:=by
 rw [h.len]
 exact hw.ok.row_len

theorem MadeF.good {s:Tr} {u:RTr} {r k f d b mp:Nat} {kk:Int} {t:Th} {x:RT} {p z:List UInt8} {ms:List (List UInt8)} {ra:Option Addr} {rc:Nat} (h:Good s u r k) (hkk:kk=1 ∨ kk=2) (hs:spl p=some (ms ++ [z])) (e1:plc s ms r=(0,some d)) (ht:s.T d=some t) (h2:t.k=2) (hc:t.ns.lookup z=none) (hf:Free s f) (hfl:f ≤ s.row.length) (hb:s.T b=none)
  (hx:u.th[nmb s d]?=some x) (hk:Lk s t x) (a:Option Addr) (c:Nat) (ta:Option Addr) (tc:Nat):Good (s.made f kk d t z b mp ra rc) (mkR u (nmb s d) x z f kk a c ta tc) r (k + 1):=by
 obtain ⟨hv,hi,hr⟩:=h
 have hw:=hv.wo.wf
 have hP:MadeP s r p kk (s.made f kk d t z b mp ra rc):=⟨ms,z,d,t,f,b,mp,ra,rc,hs,e1,ht,h2,hc,hf,hb,rfl⟩
 refine ⟨MadeP.wv hv hkk hP,⟨hi.low.made hf hfl,fun t' ht'=>?_,fun b' t' ht'=>?_,hi.mo⟩,hr.made hw ht hx hk hc hf hfl hb kk ra rc a c ta tc⟩
 ·rw [made_T] at ht'
  by_cases q:r=d
  ·subst q
   rw [if_pos rfl] at ht'
   cases ht'
   exact hi.rl t ht
  ·rw [if_neg q] at ht'
   obtain ⟨tr,htr,_⟩:=hw.ok.dir
   rw [if_neg (fun e=>by rw [e,hb] at htr; cases htr)] at ht'
   exact hi.rl t' ht'
 ·rw [made_T] at ht'
  by_cases q:b'=d
  ·rw [if_pos q] at ht'
   cases ht'
   exact hi.lm d t ht
  ·rw [if_neg q] at ht'
   by_cases q2:b'=b
   ·rw [if_pos q2] at ht'
    cases ht'
    show (1:Int) ≤ 65535
    omega
   ·rw [if_neg q2] at ht'
    exact hi.lm b' t' ht'

theorem gone_most (s:Tr) (d:Nat) (t:Th) (z:List UInt8) (x:Nat) (tx:Th):(s.gone d t z x tx).most=s.most:=by
 unfold Tr.gone
 split <;> rfl

theorem moved_most (s:Tr) (d:Nat) (z:List UInt8) (d2:Nat) (z2:List UInt8) (x:Nat):(s.moved d z d2 z2 x).most=s.most:=by
 unfold Tr.moved Tr.edit
 split <;> split <;> rfl

theorem pair_create {w:World} {S R:Nat→Prop} {g h r k:Nat} {s:Tr} {u:RTr} (hT:TM w S g s) (hG:Good s u r k) (hn:k ≤ 1700000000000) {p:List UInt8} (hpl:p.length ≤ 9223372036854775807) :
  Calls Tryz.prog 22 #[.pointer (some ⟨g,0,none⟩),.string (St p)] w (PrE w S g r k R h u (fun v Q=>Calls Tryz.prog 24 #[.pointer (some ⟨h,0,none⟩),.string (St p)] v Q)):=by
 have hw:=hG.1.wo.wf
 have hr:=hG.2.2
 refine (createE_any hT hw hn hpl).mono ?_
 rintro e w1 ⟨E,s',rfl,h1,h2,hc⟩
 refine ⟨E,s',rfl,h1,h2,fun v hv=>?_⟩
 rcases hc with ⟨hE,hN,rfl⟩ | ⟨rfl,ms,z,d,t,f,b,mp,ra,rc,hs,e1,ht,ht2,hz,hf,hfl,hb,rfl⟩
 ·refine rcreate_of ((rmake_no hv (hr.rs hw hn) (two_le hr hw) hpl 1 (hN.ad hr hw) hE).mono ?_)
  rintro e w2 ⟨rfl,hb⟩
  exact ⟨E,rfl,u,rfl,hv.up hb,Kp.of hb,hG.mono (Nat.le_succ _)⟩
 ·obtain ⟨q1,x,hx,hk⟩:=plc_yes hr hw e1 ht
  refine rcreate_of ((rmake_ok hv (hr.rs hw hn) (two_le hr hw) hs q1 hx (hk.hasn hw ht hz) 1).mono ?_)
  rintro e w2 ⟨f',a,c,ta,tc,rfl,hF,hM,hkp⟩
  obtain rfl:=hr.fresh hw hG.2.1.low hf hF
  exact ⟨0,rfl,_,rfl,hM,hkp,MadeF.good hG (.inl rfl) hs e1 ht ht2 hz hf hfl hb hx hk a c ta tc⟩

theorem pair_mkdir {w:World} {S R:Nat→Prop} {g h r k:Nat} {s:Tr} {u:RTr} (hT:TM w S g s) (hG:Good s u r k) (hn:k ≤ 1700000000000) {p:List UInt8} (hpl:p.length ≤ 9223372036854775807) :
  Calls Tryz.prog 21 #[.pointer (some ⟨g,0,none⟩),.string (St p)] w (PrE w S g r k R h u (fun v Q=>Calls Tryz.prog 25 #[.pointer (some ⟨h,0,none⟩),.string (St p)] v Q)):=by
 have hw:=hG.1.wo.wf
 have hr:=hG.2.2
 refine (mkdirE_any hT hw hn hpl).mono ?_
 rintro e w1 ⟨E,s',rfl,h1,h2,hc⟩
 refine ⟨E,s',rfl,h1,h2,fun v hv=>?_⟩
 rcases hc with ⟨hE,hN,rfl⟩ | ⟨rfl,ms,z,d,t,f,b,mp,ra,rc,hs,e1,ht,ht2,hz,hf,hfl,hb,rfl⟩
 ·refine rmkdir_of ((rmake_no hv (hr.rs hw hn) (two_le hr hw) hpl 2 (hN.ad hr hw) hE).mono ?_)
  rintro e w2 ⟨rfl,hb⟩
  exact ⟨E,rfl,u,rfl,hv.up hb,Kp.of hb,hG.mono (Nat.le_succ _)⟩
 ·obtain ⟨q1,x,hx,hk⟩:=plc_yes hr hw e1 ht
  refine rmkdir_of ((rmake_ok hv (hr.rs hw hn) (two_le hr hw) hs q1 hx (hk.hasn hw ht hz) 2).mono ?_)
  rintro e w2 ⟨f',a,c,ta,tc,rfl,hF,hM,hkp⟩
  obtain rfl:=hr.fresh hw hG.2.1.low hf hF
  exact ⟨0,rfl,_,rfl,hM,hkp,MadeF.good hG (.inr rfl) hs e1 ht ht2 hz hf hfl hb hx hk a c ta tc⟩

theorem links_le {s:Tr} {u:RTr} {r n:Nat} (h:Rel s u) (hw:Wf s r n) (hn:n ≤ 1700000000000) (i:Nat):lkR u i ≤ 1000000000000000:=by
 have hs:=h.rs hw hn
 have e:lkR u i ≤ s.all:=by
  unfold lkR Tr.all
  rw [lkS_sum (fun d=>nmc ((s.nsOf d).map (nmS s)) i) i u.th s.row h.len (fun j x o hx ho=>?_)]
  ·refine sumR_le _ (fun j b hb=>?_)
   have:=nmc_le ((s.nsOf b).map (nmS s)) i
   rw [List.length_map] at this
   exact this
  ·cases o with
   | none =>
    obtain ⟨y,hy,_,_,e⟩:=h.no j ho
    rw [hx] at hy
    cases hy
    rw [e]
    rfl
   | some d =>
    obtain ⟨td,htd,_⟩:=hw.row j d ho
    obtain ⟨y,hy,hk⟩:=h.yes j d td ho htd
    rw [hx] at hy
    cases hy
    rw [nmc_perm hk.ns]
    show _=nmc ((s.nsOf d).map (nmS s)) i
    rw [nsOf_some htd]
 have:=hw.few
 omega

theorem Good.linked {s:Tr} {u:RTr} {r k d y:Nat} {t ty:Th} {x:RT} {p q z:List UInt8} {ps ms:List (List UInt8)} (h:Good s u r k) (hp:spl p=some ps) (hg:go s ps r=(0,some y)) (hq:spl q=some (ms ++ [z])) (e1:plc s ms r=(0,some d)) (ht:s.T d=some t) (h2:t.k=2) (hc:t.ns.lookup z=none) (hy:s.T y=some ty) (h1:ty.k=1) (hl:ty.l ≠ 65535)
  (hx:u.th[nmb s d]?=some x) (hk:Lk s t x) (na:Option Addr) (nc:Nat):Good (s.linked d t z y ty) (u.put (nmb s d) { x with ns:=x.ns ++ [(z,nmb s y)],na:=na,nc:=nc }) r (k + 1):=by
 obtain ⟨hv,hi,hr⟩:=h
 have hw:=hv.wo.wf
 have hyd:y ≠ d:=fun e=>by subst e; rw [ht] at hy; cases hy; omega
 have hP:LinkP s r p q (s.linked d t z y ty):=⟨ps,y,ty,ms,z,d,t,hp,hg,hy,h1,hq,e1,ht,h2,hc,rfl⟩
 have hT:∀ b t',(s.linked d t z y ty).T b=some t'→(b=d∧t'={ t with ns:=putN z y t.ns }) ∨ (b=y∧t'={ ty with l:=ty.l + 1 }) ∨ s.T b=some t':=fun b t' hb=>by
  unfold Tr.linked at hb
  rw [Tr.upd_T] at hb
  by_cases q:b=d
  ·rw [if_pos q] at hb
   cases hb
   exact .inl ⟨q,rfl⟩
  ·rw [if_neg q,Tr.upd_T] at hb
   by_cases q2:b=y
   ·rw [if_pos q2] at hb
    cases hb
    exact .inr (.inl ⟨q2,rfl⟩)
   ·rw [if_neg q2] at hb
    exact .inr (.inr hb)
 refine ⟨LinkP.wv hv hP,⟨⟨hi.low.z,hi.low.one,hi.low.all⟩,fun t' ht'=>?_,fun b t' ht'=>?_,hi.mo⟩,hr.linked hw ht hx hk hy hyd hc na nc⟩
 ·rcases hT r t' ht' with ⟨q,rfl⟩ | ⟨q,rfl⟩ | q
  ·subst q; exact hi.rl t ht
  ·subst q
   obtain ⟨tr,htr,hk2⟩:=hw.ok.dir
   rw [hy] at htr
   cases htr
   omega
  ·exact hi.rl t' q
 ·rcases hT b t' ht' with ⟨q,rfl⟩ | ⟨q,rfl⟩ | q
  ·exact hi.lm d t ht
  ·have:=hi.lm y ty hy
   show ty.l + 1 ≤ 65535
   omega
  ·exact hi.lm b t' q

theorem pair_link {w:World} {S R:Nat→Prop} {g h r k:Nat} {s:Tr} {u:RTr} (hT:TM w S g s) (hG:Good s u r k) (hn:k ≤ 1700000000000) {p q:List UInt8} (hpl:p.length ≤ 9223372036854775807) (hql:q.length ≤ 9223372036854775807) :
  Calls Tryz.prog 26 #[.pointer (some ⟨g,0,none⟩),.string (St p),.string (St q)] w (PrE w S g r k R h u (fun v Q=>Calls Tryz.prog 27 #[.pointer (some ⟨h,0,none⟩),.string (St p),.string (St q)] v Q)):=by
 have hw:=hG.1.wo.wf
 have hr:=hG.2.2
 have hrs:=hr.rs hw hn
 refine (linkE_any hT hw hn hpl hql).mono ?_
 rintro e w1 ⟨E,s',rfl,h1,h2,hc⟩
 refine ⟨E,s',rfl,h1,h2,fun v hv=>?_⟩
 have hbad:∀ (E:Int),LkNo u p q E→Calls Tryz.prog 27 #[.pointer (some ⟨h,0,none⟩),.string (St p),.string (St q)] v fun e w2=>∃ u',e=.returned (.int .i64 E)∧SM w2 (Up R v.heap.size w2.heap.size) h u'∧Kp R v w2∧Good s u' r (k + 1):=fun E he=>by
  refine (rlink_no hv hrs hpl hql (links_le hr hw hn) he).mono ?_
  rintro e w2 ⟨rfl,hb⟩
  exact ⟨u,rfl,hv.up hb,Kp.of hb,hG.mono (Nat.le_succ _)⟩
 have hsp:∀ {p:List UInt8} {ps:List (List UInt8)},spl p=some ps→spE p=0:=fun hp=>by unfold spE; rw [hp]
 rcases hc with ⟨hE,hN,hss⟩ | ⟨rfl,ps,x,tx,ms,z,d,t,hp,hg,hx,hk1,hk5,hq,e1,ht,ht2,hz,rfl⟩
 ·obtain rfl:=hss.symm
  rcases hN with ⟨h16,rfl⟩ | ⟨ps,qs,hp,hq,⟨g1,g2⟩ | ⟨x,tx,hg,hx,hN⟩⟩
  ·refine hbad 16 (.inl ⟨?_,rfl⟩)
   rcases refE_two p q with ⟨e0,_⟩ | ⟨_,e | e⟩
   ·rw [e0] at h16; cases h16
   ·exact .inl (by unfold spE; rw [e]; decide)
   ·exact .inr (by unfold spE; rw [e]; decide)
  ·obtain ⟨q1,q2⟩:=find_no hr hw g1
   refine hbad E (.inr ⟨hsp hp,hsp hq,.inl ⟨?_,hE⟩⟩)
   rw [fdR_of hp,q1,g2]
  ·have hf:fdR u p=(0,nmb s x):=by rw [fdR_of hp]; exact find_yes hr hw hg
   obtain ⟨xx,hxx,hkx⟩:=hr.thing hw hx
   have hki:kiR u (nmb s x)=tx.k:=by rw [kiR_of hxx,hkx.k]
   rcases hN with ⟨k2,rfl⟩ | ⟨k1,l5,rfl⟩ | ⟨k1,l5,hEN⟩
   ·exact hbad 14 (.inr ⟨hsp hp,hsp hq,.inr (.inl ⟨by rw [hf],by rw [hf,hki,k2],rfl⟩)⟩)
   ·have hxr:x ≠ r:=fun e=>by
     subst e
     obtain ⟨tr,htr,hk2⟩:=hw.ok.dir
     rw [hx] at htr
     cases htr
     omega
    have:=(hw.lnk x tx hx hxr).1
    refine hbad 5 (.inr ⟨hsp hp,hsp hq,.inr (.inr ⟨by rw [hf],by rw [hf,hki,k1]; decide,?_,rfl⟩)⟩)
    rw [hf,hr.links hw hx]
    omega
   ·have hxr:x ≠ r:=fun e=>by
     subst e
     obtain ⟨tr,htr,hk2⟩:=hw.ok.dir
     rw [hx] at htr
     cases htr
     omega
    have hl1:=(hw.lnk x tx hx hxr).1
    have hl2:=hG.2.1.lm x tx hx
    refine (rlink_of (Q:=fun E' w0 w2=>E'=E∧Below w0.heap.size w0 w2) hv hrs hpl hql (hsp hp) (hsp hq) hf hxx (by rw [hkx.k,k1]; decide) (by rw [hr.links hw hx]; omega) (fun v' hv' hb'=>?_)).mono ?_
    ·refine (radd_no hv' hrs hql (nmb s x:Int) (hEN.ad hr hw)).mono ?_
     rintro e w2 ⟨rfl,hb⟩
     exact ⟨E,rfl,rfl,hb'.trans (hb.mono hb'.size)⟩
    ·rintro e w2 ⟨E',rfl,rfl,hb⟩
     exact ⟨u,rfl,hv.up hb,Kp.of hb,hG.mono (Nat.le_succ _)⟩
 ·have hf:fdR u p=(0,nmb s x):=by rw [fdR_of hp]; exact find_yes hr hw hg
  obtain ⟨xx,hxx,hkx⟩:=hr.thing hw hx
  obtain ⟨q1,xd,hxd,hkd⟩:=plc_yes hr hw e1 ht
  have hxr:x ≠ r:=fun e=>by
   subst e
   obtain ⟨tr,htr,hk2⟩:=hw.ok.dir
   rw [hx] at htr
   cases htr
   omega
  have hl1:=(hw.lnk x tx hx hxr).1
  have hl2:=hG.2.1.lm x tx hx
  refine (rlink_of (Q:=fun E' w0 w2=>E'=0∧∃ u',SM w2 (Up R w0.heap.size w2.heap.size) h u'∧Kp R w0 w2∧Good (s.linked d t z x tx) u' r (k + 1)) hv hrs hpl hql (hsp hp) (hsp hq) hf hxx (by rw [hkx.k,hk1]; decide) (by rw [hr.links hw hx]; omega) (fun v' hv' hb'=>?_)).mono ?_
  ·refine (radd_ok (j:=nmb s x) hv' hrs hq q1 hxd (hkd.hasn hw ht hz)).mono ?_
   rintro e w2 ⟨a,c,rfl,hM,hkp⟩
   have hsz:=hb'.size
   exact ⟨0,rfl,rfl,_,hM.kept (fun _ _=>rfl) (fun k q=>q.imp id (fun e=>⟨Nat.le_trans hsz e.1,e.2⟩)) (fun k q=>q.elim (fun e=>hM.lt k (.inl e)) (fun e=>e.2)),(Kp.of hb').trans hkp (fun k q=>.inl q),Good.linked hG hp hg hq e1 ht ht2 hz hx hk1 hk5 hxd hkd a c⟩
  ·rintro e w2 ⟨E',rfl,rfl,u',z1,z2,z3⟩
   exact ⟨u',rfl,z1,z2,z3⟩

end Go.Proofs.YtknmgefpjdfenaaGreat

/- Both trees as they are new. -/
namespace Go.Proofs.YtknmgefpjdfenaaGreat
set_option maxRecDepth 100000
set_option maxHeartbeats 8000000
open Go.RowKit Go.Shelf Go.Maps
set_option linter.unusedVariables false

theorem wo_newM {nm:Int} (h1:1 ≤ nm) (h2:nm ≤ 524288) (mp r:Nat) (ra:Option Addr) (rc:Nat):Wo (Tr0 nm r mp ra rc) r 0:=by
 have hT:∀ c t,(Tr0 nm r mp ra rc).T c=some t→c=r∧t=rootT mp:=fun c t e=>by
  have e':(if c=r then some (rootT mp) else none)=some t:=e
  by_cases hc:c=r
  ·rw [if_pos hc] at e'; cases e'; exact ⟨hc,rfl⟩
  ·rw [if_neg hc] at e'; cases e'
 have hr:(Tr0 nm r mp ra rc).T r=some (rootT mp):=if_pos rfl
 have hns:∀ c,(Tr0 nm r mp ra rc).nsOf c=[]:=fun c=>by
  cases h:(Tr0 nm r mp ra rc).T c with
  | none=>exact nsOf_none h
  | some t=>rw [nsOf_some h,(hT c t h).2]; rfl
 have hc:∀ b,(Tr0 nm r mp ra rc).cnt b=0:=fun b=>sumR_zero _ (fun i c _=>by rw [hns]; rfl)
 have ha:(Tr0 nm r mp ra rc).all=0:=sumR_zero _ (fun i c _=>by rw [hns]; rfl)
 refine ⟨⟨ok_root nm r mp ra rc,⟨fun _=>0,fun b t e a he=>?_⟩,fun b t e a he=>?_,fun b t e=>?_,fun b t e=>?_,fun i b e=>?_,fun b t e hne=>?_,hc r,fun b t e hk=>?_,fun b t e hk=>?_,fun f b e=>?_,fun b t e=>?_,⟨by show (0:Int) ≤ nm; omega,by show (nm:Int) ≤ 524288; omega⟩,by rw [ha]; exact Nat.le_refl _,Nat.le_refl _,by show 1 ≤ 2; decide⟩,fun f b e=>?_⟩
 ·obtain ⟨_,rfl⟩:=hT b t e; cases he
 ·obtain ⟨_,rfl⟩:=hT b t e; cases he
 ·obtain ⟨_,rfl⟩:=hT b t e; exact List.Pairwise.nil
 ·obtain ⟨rfl,rfl⟩:=hT b t e; rfl
 ·have e':([none,some r]:List (Option Nat))[i]?=some (some b):=e
  match i,e' with
  | 1,e' =>
   simp at e'
   subst e'
   exact ⟨_,hr,rfl⟩
 ·exact absurd (hT b t e).1 hne
 ·obtain ⟨_,rfl⟩:=hT b t e; exact ⟨rfl,by rw [hc]; omega⟩
 ·obtain ⟨_,rfl⟩:=hT b t e; cases hk
 ·cases e
 ·obtain ⟨_,rfl⟩:=hT b t e; show (0:Int) ≤ nm; omega
 ·cases e

theorem wv_newM {nm:Int} (h1:1 ≤ nm) (h2:nm ≤ 524288) (mp r:Nat) (ra:Option Addr) (rc:Nat):Wv (Tr0 nm r mp ra rc) r 0:=by
 refine ⟨wo_newM h1 h2 mp r ra rc,fun L c hg=>?_⟩
 cases L with
 | nil=>rfl
 | cons y L =>
  obtain ⟨m,⟨t,ht,_,hl⟩,_⟩:=go_cons.1 hg
  have e':(if r=r then some (rootT mp) else none)=some t:=ht
  rw [if_pos rfl] at e'
  cases e'
  cases hl

theorem new_th {nm:Int} {mp r:Nat} {ra:Option Addr} {rc:Nat} {c:Nat} {t:Th} (e:(Tr0 nm r mp ra rc).T c=some t):c=r∧t=rootT mp:=by
 have e':(if c=r then some (rootT mp) else none)=some t:=e
 by_cases hc:c=r
 ·rw [if_pos hc] at e'; cases e'; exact ⟨hc,rfl⟩
 ·rw [if_neg hc] at e'; cases e'

theorem good_new {nm:Int} (h1:1 ≤ nm) (h2:nm ≤ 524288) (mp r:Nat) (ra:Option Addr) (rc b:Nat):Good (Tr0 nm r mp ra rc) (RTr.new nm b) r 0:=by
 refine ⟨wv_newM h1 h2 mp r ra rc,⟨⟨rfl,Nat.le_refl _,fun i hi hl=>?_⟩,fun t ht=>?_,fun c t ht=>?_,h1⟩,⟨rfl,rfl,fun i hi=>?_,fun i c t hi ht=>?_,fun f hf=>rfl⟩⟩
 ·have hl':i < 1:=hl
  omega
 ·obtain ⟨_,rfl⟩:=new_th ht; rfl
 ·obtain ⟨_,rfl⟩:=new_th ht; show (1:Int) ≤ 65535; decide
 ·have e':([none,some r]:List (Option Nat))[i]?=some none:=hi
  match i,e' with
  | 0,_=>exact ⟨RT.none,rfl,rfl,rfl,rfl⟩
  | 1,e'=>simp at e'
 ·have e':([none,some r]:List (Option Nat))[i]?=some (some c):=hi
  obtain ⟨_,rfl⟩:=new_th ht
  match i,e' with
  | 0,e'=>simp at e'
  | 1,_=>exact ⟨{ RT.none with k:=2 },rfl,rfl,rfl,List.Perm.refl _⟩

end Go.Proofs.YtknmgefpjdfenaaGreat

/- Both trees, call by call: Unlink, Rmdir, Close, Write, Truncate. -/
namespace Go.Proofs.YtknmgefpjdfenaaGreat
set_option maxRecDepth 100000
set_option maxHeartbeats 8000000
open Go.RowKit Go.Shelf Go.Maps
set_option linter.unusedVariables false

theorem Good.gone {s:Tr} {u:RTr} {r n d x k:Nat} {t tx:Th} {xd:RT} {z:List UInt8} {ms:List (List UInt8)} {EF:Nat→Th→Int} (h:Good s u r n) (hn:n ≤ 1700000000000) (e1:plc s ms r=(0,some d)) (ht:s.T d=some t) (h2:t.k=2) (hc:t.ns.lookup z=some x) (hx:s.T x=some tx) (hE:EF x tx=0)
  (hEF:∀ x t,s.T x=some t→EF x t=0→t.ns=[]∧(t.l=1→∀ f,s.opn f ≠ some x)) (hxd:u.th[nmb s d]?=some xd) (hk:Lk s t xd) (hq:xd.ns[k]?=some (z,nmb s x)) (a:Option Addr) (c:Nat):Good (s.gone d t z x tx) (dpR u (nmb s d) xd k (nmb s x) a c) r (n + 1):=by
 obtain ⟨hv,hi,hr⟩:=h
 have hw:=hv.wo.wf
 have hP:GoneP s r ms z EF (s.gone d t z x tx):=⟨d,t,x,tx,e1,ht,h2,hc,hx,hE,rfl⟩
 have hwo:=GoneP.wo hv.wo hn hP hEF
 have hpv:=GoneP.pv hv.pv hw hn hP
 obtain ⟨q1,q2,q3,q4,q5⟩:=hw.dropable (by omega) ht hc hx
 obtain ⟨g1,g2⟩:=gone_T (s:=s) (t:=t) (tx:=tx) (z:=z) q1
 have hwg:Wf (s.gone d t z x tx) r n:=by
  obtain ⟨y1,y2⟩:=hEF x tx hx hE
  exact hw.gone (by omega) ht h2 hc hx y1 y2
 have hl:∀ b t',(s.gone d t z x tx).T b=some t'→∃ t0,s.T b=some t0∧t'.l ≤ t0.l:=fun b t' hb=>by
  by_cases q:b=d
  ·subst q
   rw [g1] at hb
   cases hb
   exact ⟨t,ht,Int.le_refl _⟩
  ·by_cases q2:b=x
   ·subst q2
    refine ⟨tx,hx,?_⟩
    unfold Tr.gone at hb
    split at hb
    ·have:(if b=b then none else (s.upd d { t with ns:=delN z t.ns }).T b)=some t':=hb
     rw [if_pos rfl] at this
     cases this
    ·rw [Tr.upd_T,if_pos rfl] at hb
     cases hb
     show tx.l - 1 ≤ tx.l
     omega
   ·rw [g2 b q q2] at hb
    exact ⟨t',hb,Int.le_refl _⟩
 refine ⟨⟨hwo,hpv⟩,⟨hi.low.gone hw hx,fun t' ht'=>?_,fun b t' hb=>?_,by rw [gone_most]; exact hi.mo⟩,hr.gone hw hn ht hc hx hxd hk hq hwg a c⟩
 ·by_cases q:r=d
  ·subst q
   rw [g1] at ht'
   cases ht'
   exact hi.rl t ht
  ·rw [g2 r q (fun e=>q4 e.symm)] at ht'
   exact hi.rl t' ht'
 ·obtain ⟨t0,h0,hle⟩:=hl b t' hb
  have:=hi.lm b t0 h0
  omega

theorem pair_unlink {w:World} {S R:Nat→Prop} {g h r k:Nat} {s:Tr} {u:RTr} (hT:TM w S g s) (hG:Good s u r k) (hn:k ≤ 1700000000000) {p:List UInt8} (hpl:p.length ≤ 9223372036854775807) :
  Calls Tryz.prog 29 #[.pointer (some ⟨g,0,none⟩),.string (St p)] w (PrE w S g r k R h u (fun v Q=>Calls Tryz.prog 30 #[.pointer (some ⟨h,0,none⟩),.string (St p)] v Q)):=by
 have hw:=hG.1.wo.wf
 have hr:=hG.2.2
 have hrs:=hr.rs hw hn
 refine (unlinkE_any hT hw (by omega) hpl).mono ?_
 rintro e w1 ⟨E,s',rfl,h1,h2,hc⟩
 refine ⟨E,s',rfl,h1,h2,fun v hv=>?_⟩
 rcases hc with ⟨hE,hN,hss⟩ | ⟨rfl,ms,z,hs,d,t,x,tx,e1,ht,ht2,hz,hx,hEF,rfl⟩
 ·obtain rfl:=hss.symm
  have he:UlNo u p E:=by
   rcases hN with ⟨hs,rfl⟩ | ⟨hs,rfl⟩ | ⟨ms,z,hs,⟨g2,g1⟩ | ⟨d,t,e1,ht,ht2,⟨hz,rfl⟩ | ⟨x,tx,hz,hx,hEF⟩⟩⟩
   ·exact .inl ⟨by unfold fdR; rw [hs],by decide⟩
   ·obtain ⟨tr,htr,hk2⟩:=hw.ok.dir
    obtain ⟨xr,hxr,hkr⟩:=hr.thing hw htr
    have hf:fdR u p=(0,1):=fdR_of hs
    refine .inr (.inl ⟨by rw [hf],?_,rfl⟩)
    rw [nmb_root hw] at hxr
    rw [hf,kiR_of hxr,hkr.k,hk2]
   ·have hgo:=go_par (z:=z) hw g2
    have:=(find_no hr hw (by rw [hgo])).1
    rw [hgo] at this
    exact .inl ⟨by rw [fdR_of hs,this,g1],hE⟩
   ·have hgo:go s (ms ++ [z]) r=(11,none):=by rw [go_dir hw e1 ht ht2,hz]
    have:=(find_no hr hw (by rw [hgo])).1
    rw [hgo] at this
    exact .inl ⟨by rw [fdR_of hs,this],by decide⟩
   ·have hgo:go s (ms ++ [z]) r=(0,some x):=by rw [go_dir hw e1 ht ht2,hz]
    have hf:fdR u p=(0,nmb s x):=by rw [fdR_of hs]; exact find_yes hr hw hgo
    obtain ⟨xx,hxx,hkx⟩:=hr.thing hw hx
    have hki:kiR u (nmb s x)=tx.k:=by rw [kiR_of hxx,hkx.k]
    unfold unE at hEF
    by_cases q:tx.k=2
    ·rw [if_pos q] at hEF
     exact .inr (.inl ⟨by rw [hf],by rw [hf,hki,q],hEF.symm⟩)
    ·rw [if_neg q] at hEF
     by_cases q2:s.keeps x tx=true
     ·rw [if_pos q2] at hEF
      unfold Tr.keeps at q2
      simp only [Bool.and_eq_true,decide_eq_true_eq] at q2
      have hxr:x ≠ r:=hw.named_ne ht (mem_look hz)
      have hl1:=(hw.lnk x tx hx hxr).1
      refine .inr (.inr ⟨by rw [hf],by rw [hf,hki]; exact q,?_,?_,by rw [hf]; exact nmb_pos hw hG.2.1.low hx,hEF.symm⟩)
      ·rw [hf,hr.links hw hx]; omega
      ·rw [hf,hr.busy hw hG.2.1.low hx]; exact q2.2
     ·rw [if_neg q2] at hEF
      exact absurd hEF.symm hE
  refine (runlink_no hv hrs hpl he).mono ?_
  rintro e w2 ⟨rfl,hb⟩
  exact ⟨u,rfl,hv.up hb,Kp.of hb,hG.mono (Nat.le_succ _)⟩
 ·obtain ⟨q1,xd,hxd,hkd⟩:=plc_yes hr hw e1 ht
  have hgo:go s (ms ++ [z]) r=(0,some x):=by rw [go_dir hw e1 ht ht2,hz]
  have hf:fdR u p=(0,nmb s x):=by rw [fdR_of hs]; exact find_yes hr hw hgo
  obtain ⟨xx,hxx,hkx⟩:=hr.thing hw hx
  obtain ⟨u1,u2⟩:=unE_zero hEF
  have hxr:x ≠ r:=hw.named_ne ht (mem_look hz)
  have hl1:=(hw.lnk x tx hx hxr).1
  have hlk:=hr.links hw hx
  have h16:=hG.1.wo.h16
  refine (runlink_ok hv hrs hpl hf hxx (by rw [hkx.k]; exact u1) (fun q=>?_) (nmb_pos hw hG.2.1.low hx) (links_le hr hw hn _) hs q1 hxd (hkd.has hw ht hz) (fun k a c=>by have:=cut_le hrs hxd k (nmb s x) a c; have:=hw.cnt_le x; omega)).mono ?_
  ·obtain ⟨y1,y2⟩:=q
   rw [hr.busy hw hG.2.1.low hx] at y2
   obtain ⟨f,hf16,hof⟩:=(held_iff s x).1 y2
   exact u2 (by omega) f hf16 hof
  ·rintro e w2 ⟨kk,a,c,hkk,rfl,hM,hkp⟩
   refine ⟨_,rfl,hM,hkp,Good.gone (EF:=unE s) hG hn e1 ht ht2 hz hx hEF (fun y ty hy hE=>?_) hxd hkd hkk a c⟩
   obtain ⟨y1,y2⟩:=unE_zero hE
   refine ⟨?_,fun hl f hof=>y2 hl f (h16 f y hof) hof⟩
   rcases hw.ok.kind y ty hy with e | e
   ·exact hw.fil y ty hy e
   ·exact absurd e y1

theorem pair_rmdir {w:World} {S R:Nat→Prop} {g h r k:Nat} {s:Tr} {u:RTr} (hT:TM w S g s) (hG:Good s u r k) (hn:k ≤ 1700000000000) {p:List UInt8} (hpl:p.length ≤ 9223372036854775807) :
  Calls Tryz.prog 31 #[.pointer (some ⟨g,0,none⟩),.string (St p)] w (PrE w S g r k R h u (fun v Q=>Calls Tryz.prog 32 #[.pointer (some ⟨h,0,none⟩),.string (St p)] v Q)):=by
 have hw:=hG.1.wo.wf
 have hr:=hG.2.2
 have hrs:=hr.rs hw hn
 have hne1:∀ {x:Nat} {tx:Th},s.T x=some tx→x ≠ r→nmb s x ≠ 1:=fun {x tx} hx hxr e=>by
  obtain ⟨tr,htr,_⟩:=hw.ok.dir
  exact hxr (nmb_inj hw hx htr (e.trans (nmb_root hw).symm))
 refine (rmdirE_any hT hw (by omega) hpl).mono ?_
 rintro e w1 ⟨E,s',rfl,h1,h2,hc⟩
 refine ⟨E,s',rfl,h1,h2,fun v hv=>?_⟩
 rcases hc with ⟨hE,hN,hss⟩ | ⟨rfl,ms,z,hs,d,t,x,tx,e1,ht,ht2,hz,hx,hEF,rfl⟩
 ·obtain rfl:=hss.symm
  have he:RmNo u p E:=by
   rcases hN with ⟨hs,rfl⟩ | ⟨hs,rfl⟩ | ⟨ms,z,hs,⟨g2,g1⟩ | ⟨d,t,e1,ht,ht2,⟨hz,rfl⟩ | ⟨x,tx,hz,hx,hEF⟩⟩⟩
   ·exact .inl ⟨by unfold fdR; rw [hs],by decide⟩
   ·have hf:fdR u p=(0,1):=fdR_of hs
    exact .inr (.inl ⟨by rw [hf],by rw [hf],rfl⟩)
   ·have hgo:=go_par (z:=z) hw g2
    have:=(find_no hr hw (by rw [hgo])).1
    rw [hgo] at this
    exact .inl ⟨by rw [fdR_of hs,this,g1],hE⟩
   ·have hgo:go s (ms ++ [z]) r=(11,none):=by rw [go_dir hw e1 ht ht2,hz]
    have:=(find_no hr hw (by rw [hgo])).1
    rw [hgo] at this
    exact .inl ⟨by rw [fdR_of hs,this],by decide⟩
   ·have hgo:go s (ms ++ [z]) r=(0,some x):=by rw [go_dir hw e1 ht ht2,hz]
    have hf:fdR u p=(0,nmb s x):=by rw [fdR_of hs]; exact find_yes hr hw hgo
    obtain ⟨xx,hxx,hkx⟩:=hr.thing hw hx
    have hki:kiR u (nmb s x)=tx.k:=by rw [kiR_of hxx,hkx.k]
    have hxr:x ≠ r:=hw.named_ne ht (mem_look hz)
    have hn1:=hne1 hx hxr
    have hEF:rmE tx=E:=hEF
    unfold rmE at hEF
    by_cases q:tx.k=1
    ·rw [if_pos q] at hEF
     exact .inr (.inr (.inl ⟨by rw [hf],by rw [hf]; exact hn1,by rw [hf,hki,q]; decide,hEF.symm⟩))
    ·rw [if_neg q] at hEF
     have k2:tx.k=2:=(hw.ok.kind x tx hx).resolve_left q
     by_cases q2:tx.ns=[]
     ·rw [if_pos q2] at hEF
      exact absurd hEF.symm hE
     ·rw [if_neg q2] at hEF
      refine .inr (.inr (.inr ⟨by rw [hf],by rw [hf]; exact hn1,by rw [hf,hki,k2],⟨xx,by rw [hf]; exact hxx,fun e=>q2 ?_⟩,hEF.symm⟩))
      have:=hkx.ns.length_eq
      rw [e,List.length_map] at this
      exact List.eq_nil_of_length_eq_zero this.symm
  refine (rrmdir_no hv hrs hpl he).mono ?_
  rintro e w2 ⟨rfl,hb⟩
  exact ⟨u,rfl,hv.up hb,Kp.of hb,hG.mono (Nat.le_succ _)⟩
 ·obtain ⟨q1,xd,hxd,hkd⟩:=plc_yes hr hw e1 ht
  have hgo:go s (ms ++ [z]) r=(0,some x):=by rw [go_dir hw e1 ht ht2,hz]
  have hf:fdR u p=(0,nmb s x):=by rw [fdR_of hs]; exact find_yes hr hw hgo
  obtain ⟨xx,hxx,hkx⟩:=hr.thing hw hx
  obtain ⟨u1,u2⟩:=rmE_zero hEF
  have k2:tx.k=2:=(hw.ok.kind x tx hx).resolve_left u1
  have hxr:x ≠ r:=hw.named_ne ht (mem_look hz)
  have hlk:=hr.links hw hx
  have hxn:xx.ns=[]:=by
   have:=hkx.ns.length_eq
   rw [u2] at this
   exact List.eq_nil_of_length_eq_zero this
  refine (rrmdir_ok hv hrs hpl hf (hne1 hx hxr) hxx (by rw [hkx.k,k2]) hxn hs q1 hxd (hkd.has hw ht hz) (fun k a c=>by have:=cut_le hrs hxd k (nmb s x) a c; have:=hw.cnt_le x; omega)).mono ?_
  rintro e w2 ⟨kk,a,c,hkk,rfl,hM,hkp⟩
  refine ⟨_,rfl,hM,hkp,Good.gone (EF:=fun _ t=>rmE t) hG hn e1 ht ht2 hz hx hEF (fun y ty hy hE=>?_) hxd hkd hkk a c⟩
  obtain ⟨y1,y2⟩:=rmE_zero hE
  refine ⟨y2,fun hl f hof=>?_⟩
  obtain ⟨ty',hty',hk1⟩:=hw.opn f y hof
  rw [hy] at hty'
  cases hty'
  exact y1 hk1

theorem Good.opened {s:Tr} {u:RTr} {r n f:Nat} (h:Good s u r n) (hf:f < 16) {o:Option Nat} (ho:∀ b,o=some b→∃ t,s.T b=some t∧t.k=1):Good (s.opened f o) (u.opened f (o.elim 0 (nmb s))) r (n + 1):=by
 obtain ⟨hv,hi,hr⟩:=h
 have hT:(s.opened f o).T=s.T:=rfl
 have hop:∀ j,(s.opened f o).opn j=if j=f then o else s.opn j:=fun j=>rfl
 have hedge:∀ b y c,Edge (s.opened f o) b y c→Edge s b y c:=fun b y c q=>q
 refine ⟨⟨⟨(hv.wo.wf.opened f ho).mono (Nat.le_succ _),fun j b hj=>?_⟩,hv.pv.sub hedge⟩,⟨⟨hi.low.z,hi.low.one,hi.low.all⟩,fun t ht=>hi.rl t ht,fun b t hb=>hi.lm b t hb,hi.mo⟩,⟨hr.most,hr.len,hr.no,fun i b t h1 h2=>by
  obtain ⟨x,hx,hk⟩:=hr.yes i b t h1 h2
  exact ⟨x,hx,hk.like rfl rfl rfl (fun e _=>rfl)⟩,fun j hj=>?_⟩⟩
 ·rw [hop] at hj
  by_cases q:j=f
  ·rw [q]; exact hf
  ·rw [if_neg q] at hj
   exact hv.wo.h16 j b hj
 ·show (if j=f then o.elim 0 (nmb s) else u.op j)=_
  rw [hop]
  by_cases q:j=f
  ·rw [if_pos q,if_pos q]; rfl
  ·rw [if_neg q,if_neg q]
   exact hr.op j hj

theorem pair_close {w:World} {S R:Nat→Prop} {g h r k:Nat} {s:Tr} {u:RTr} (hT:TM w S g s) (hG:Good s u r k) (f:Int) :
  Calls Tryz.prog 37 #[.pointer (some ⟨g,0,none⟩),.int .i64 f] w (PrE w S g r k R h u (fun v Q=>Calls Tryz.prog 38 #[.pointer (some ⟨h,0,none⟩),.int .i64 f] v Q)):=by
 have hw:=hG.1.wo.wf
 have hr:=hG.2.2
 rcases hr.hnd hw hG.2.1.low f with ⟨e1,e2⟩ | ⟨b,t,x,e1,ht,hk1,e2,e3,hx,hk⟩
 ·refine (close_bad hT hw.ok.row_ne f e1).mono ?_
  rintro e w1 ⟨rfl,rfl⟩
  refine ⟨18,s,rfl,hT.up (Nat.le_refl _) (Below.refl _ _),Kp.of (Below.refl _ _),fun v hv=>(rclose_any hv f).mono ?_⟩
  rintro e w2 ⟨rfl,hM,hkp⟩
  have hcl:clR u f=(18,u):=if_pos e2
  rw [hcl] at hM ⊢
  exact ⟨u,rfl,hM.kept (fun _ _=>rfl) (fun k q=>.inl q) (fun k q=>q.elim (fun e=>hM.lt k e) (fun e=>e.2)),hkp,hG.mono (Nat.le_succ _)⟩
 ·obtain ⟨j,rfl,hj,ho⟩:=hnd_nat e1
  refine (close_ok hT hj ho hw.ok.row_ne).mono ?_
  rintro e w1 ⟨rfl,h1,h2⟩
  refine ⟨0,_,rfl,h1.kept (fun _ _=>rfl) (fun k q=>.inl q) (fun k q=>q.elim (fun e=>h1.lt k e) (fun e=>e.2)),h2,fun v hv=>(rclose_any hv (j:Int)).mono ?_⟩
  rintro e w2 ⟨rfl,hM,hkp⟩
  have hcl:clR u (j:Int)=(0,u.opened (j:Int).toNat 0):=if_neg e3
  rw [hcl] at hM ⊢
  rw [Int.toNat_natCast] at hM
  exact ⟨_,rfl,hM.kept (fun _ _=>rfl) (fun k q=>.inl q) (fun k q=>q.elim (fun e=>hM.lt k e) (fun e=>e.2)),hkp,hG.opened hj (o:=none) (fun b e=>by cases e)⟩

theorem Good.data {s:Tr} {u:RTr} {r n b:Nat} {t:Th} {x:RT} (h:Good s u r n) (ht:s.T b=some t) (hk1:t.k=1) (hx:u.th[nmb s b]?=some x) (hk:Lk s t x) {d:List Int} (hd:(d.length:Int) ≤ s.most) (da da':Option Addr) (dc dc':Nat) :
  Good (s.upd b { t with d:=d,da:=da,dc:=dc }) (u.put (nmb s b) { x with d:=d,da:=da',dc:=dc' }) r (n + 1):=by
 obtain ⟨hv,hi,hr⟩:=h
 have hw:=hv.wo.wf
 have hT:∀ c t',(s.upd b { t with d:=d,da:=da,dc:=dc }).T c=some t'→∃ t0,s.T c=some t0∧t'.l=t0.l∧t'.k=t0.k∧t'.ns=t0.ns:=fun c t' hc=>by
  rw [Tr.upd_T] at hc
  by_cases q:c=b
  ·rw [if_pos q] at hc
   cases hc
   exact ⟨t,by rw [q]; exact ht,rfl,rfl,rfl⟩
  ·rw [if_neg q] at hc
   exact ⟨t',hc,rfl,rfl,rfl⟩
 have hedge:∀ c y e,Edge (s.upd b { t with d:=d,da:=da,dc:=dc }) c y e→Edge s c y e:=fun c y e q=>by
  obtain ⟨t',h1,h2,h3⟩:=q
  obtain ⟨t0,q1,_,q2,q3⟩:=hT c t' h1
  exact ⟨t0,q1,by rw [← q2]; exact h2,by rw [← q3]; exact h3⟩
 refine ⟨⟨⟨(hw.data ht hk1 hd da dc).mono (Nat.le_succ _),hv.wo.h16⟩,hv.pv.sub hedge⟩,⟨⟨hi.low.z,hi.low.one,hi.low.all⟩,fun t' ht'=>?_,fun c t' hc=>?_,hi.mo⟩,hr.data hw ht hx hk d da da' dc dc'⟩
 ·obtain ⟨t0,q1,q2,_⟩:=hT r t' ht'
  rw [q2]
  exact hi.rl t0 q1
 ·obtain ⟨t0,q1,q2,_⟩:=hT c t' hc
  rw [q2]
  exact hi.lm c t0 q1

theorem upd_self {s:Tr} {b:Nat} {t:Th} (ht:s.T b=some t):s.upd b t=s:=by
 refine Tr.eq rfl rfl rfl rfl rfl rfl (fun k=>?_)
 rw [Tr.upd_T]
 by_cases q:k=b
 ·rw [if_pos q,q,ht]
 ·rw [if_neg q]

theorem pair_trunc {w:World} {S R:Nat→Prop} {g h r k:Nat} {s:Tr} {u:RTr} (hT:TM w S g s) (hG:Good s u r k) (hn:k ≤ 1700000000000) (hmo:1 ≤ s.most) (f z:Int) :
  Calls Tryz.prog 43 #[.pointer (some ⟨g,0,none⟩),.int .i64 f,.int .i64 z] w (PrE w S g r k R h u (fun v Q=>Calls Tryz.prog 44 #[.pointer (some ⟨h,0,none⟩),.int .i64 f,.int .i64 z] v Q)):=by
 have hw:=hG.1.wo.wf
 have hr:=hG.2.2
 have hrs:=hr.rs hw hn
 have hE:trE u f z=trT s f z:=by
  unfold trE trT
  rw [hr.most]
  rcases hr.hnd hw hG.2.1.low f with ⟨e1,e2⟩ | ⟨b,t,x,e1,ht,hk1,e2,e3,hx,hk⟩
  ·rw [if_pos e2,if_pos e1]
  ·rw [if_neg e3,if_neg (show ¬ s.hnd f=none by rw [e1]; exact fun e=>by cases e)]
 refine (truncE_any hT hw f z).mono ?_
 rintro e w1 ⟨s',rfl,h1,h2,hc⟩
 refine ⟨_,s',rfl,h1,h2,fun v hv=>?_⟩
 rcases hc with ⟨hne,hss⟩ | ⟨h0,hc⟩
 ·obtain rfl:=hss.symm
  refine (rtrunc_no hv f z (by rw [hE]; exact hne)).mono ?_
  rintro e w2 ⟨rfl,rfl⟩
  exact ⟨u,by rw [hE],hv.up (Below.refl _ _),Kp.of (Below.refl _ _),hG.mono (Nat.le_succ _)⟩
 ·have hz:0 ≤ z∧z ≤ s.most:=by
   unfold trT at h0
   split at h0
   ·cases h0
   ·split at h0
    ·cases h0
    ·split at h0
     ·cases h0
     ·omega
  obtain ⟨m,rfl⟩:∃ m:Nat,z=(m:Int):=⟨z.toNat,by omega⟩
  rw [Int.toNat_natCast] at hc
  rcases hr.hnd hw hG.2.1.low f with ⟨e1,e2⟩ | ⟨b,t,x,e1,ht,hk1,e2,e3,hx,hk⟩
  ·unfold trT at h0
   rw [if_pos e1] at h0
   cases h0
  ·have hsz:=hw.siz b t ht
   have hms:=hw.mst
   refine (rtrunc_ok hv f m (t:=x) ⟨by rw [hr.most]; exact hmo,by rw [hr.most]; exact hms.2⟩ (by rw [hE]; exact h0) (by rw [e2]; exact hx) (by rw [hk.d]; omega) hrs.len).mono ?_
   rintro e w2 ⟨a',c',rfl,hM,hkp⟩
   rw [e2] at hM
   refine ⟨_,by rw [h0],hM,hkp,?_⟩
   rcases hc with ⟨hss,hd⟩ | ⟨b',t',a,c,q1,q2,rfl⟩
   ·have hd1:trD t.d m=t.d:=hd b t e1 ht
    have hg:=hG.data ht hk1 hx hk (d:=trD t.d m) (by rw [trD_len]; omega) t.da a' t.dc c'
    rw [hss]
    rw [hk.d]
    rw [show s.upd b { t with d:=trD t.d m,da:=t.da,dc:=t.dc }=s by rw [hd1]; exact upd_self ht] at hg
    exact hg
   ·rw [e1] at q1
    cases q1
    rw [ht] at q2
    cases q2
    have hg:=hG.data ht hk1 hx hk (d:=trD t.d m) (by rw [trD_len]; omega) a a' c c'
    rw [hk.d]
    exact hg

theorem pair_write {w:World} {S R:Nat→Prop} {g h r k:Nat} {s:Tr} {u:RTr} (hT:TM w S g s) (hG:Good s u r k) (hn:k ≤ 1700000000000) (hmo:1 ≤ s.most) (f at0:Int) (a:Option Addr) (m c:Nat) (ys:List Int) (hy:Has w a m ys) (hml:m ≤ 140737488351232) (ha:0 < m→∀ x,a=some x→¬ S x.block∧x.block < w.heap.size) :
  Calls Tryz.prog 41 #[.pointer (some ⟨g,0,none⟩),.int .i64 f,.int .i64 at0,.slice a m c] w fun e w1=>PrE w S g r k R h u (fun v Q=>Has v a m ys→Calls Tryz.prog 42 #[.pointer (some ⟨h,0,none⟩),.int .i64 f,.int .i64 at0,.slice a m c] v Q) e w1:=by
 have hw:=hG.1.wo.wf
 have hr:=hG.2.2
 have hrs:=hr.rs hw hn
 have hms:=hw.mst
 have hE:wrE u f at0 m=wrT s f at0 m:=by
  unfold wrE wrT
  rw [hr.most]
  rcases hr.hnd hw hG.2.1.low f with ⟨e1,e2⟩ | ⟨b,t,x,e1,ht,hk1,e2,e3,hx,hk⟩
  ·rw [if_pos e2,if_pos e1]
  ·rw [if_neg e3,if_neg (show ¬ s.hnd f=none by rw [e1]; exact fun e=>by cases e)]
 refine (writeE_any hT hw f at0 a m c ys hy hml ha).mono ?_
 rintro e w1 ⟨s',rfl,h1,h2,hc⟩
 refine ⟨_,s',rfl,h1,h2,fun v hv hyv=>?_⟩
 rcases hc with ⟨hne,hss⟩ | ⟨h0,hc⟩
 ·obtain rfl:=hss.symm
  refine (rwrite18_no hv f at0 (c:=c) (a:=a) (by omega) ⟨by rw [hr.most]; exact hmo,by rw [hr.most]; exact hms.2⟩ (.inl (by rw [hE]; exact hne))).mono ?_
  rintro e w2 ⟨rfl,rfl⟩
  exact ⟨u,by rw [hE],hv.up (Below.refl _ _),Kp.of (Below.refl _ _),hG.mono (Nat.le_succ _)⟩
 ·by_cases hm0:m=0
  ·refine (rwrite18_no hv f at0 (c:=c) (a:=a) (by omega) ⟨by rw [hr.most]; exact hmo,by rw [hr.most]; exact hms.2⟩ (.inr hm0)).mono ?_
   rintro e w2 ⟨rfl,rfl⟩
   refine ⟨u,by rw [hE],hv.up (Below.refl _ _),Kp.of (Below.refl _ _),?_⟩
   rcases hc with ⟨hss,_⟩ | ⟨b',t',a9,c9,q1,q2,rfl⟩
   ·rw [hss]; exact hG.mono (Nat.le_succ _)
   ·rcases hr.hnd hw hG.2.1.low f with ⟨e1,e2⟩ | ⟨b,t,x,e1,ht,hk1,e2,e3,hx,hk⟩
    ·rw [e1] at q1; cases q1
    ·have hwd:wrDD at0 m ys t=t.d:=if_pos hm0
     have hsz:=hw.siz b t ht
     have hg:=hG.data ht hk1 hx hk (d:=t.d) hsz a9 x.da c9 x.dc
     have hux:u.put (nmb s b) { x with d:=t.d,da:=x.da,dc:=x.dc }=u:=by
      rw [← hk.d]
      unfold RTr.put
      have:u.th.set (nmb s b) x=u.th:=by
       obtain ⟨hl1,hl2⟩:=List.getElem?_eq_some_iff.1 hx
       rw [← hl2]
       exact List.set_getElem_self hl1
      show ({ u with th:=u.th.set (nmb s b) x }:RTr)=u
      rw [this]
     rw [hux,← hwd] at hg
     rw [e1] at q1
     cases q1
     rw [ht] at q2
     cases q2
     exact hg
  ·have hz:0 ≤ at0∧m ≤ 4096∧at0 ≤ s.most - m:=by
    unfold wrT at h0
    split at h0
    ·cases h0
    ·split at h0
     ·cases h0
     ·split at h0
      ·cases h0
      ·omega
   obtain ⟨A,rfl⟩:∃ A:Nat,at0=(A:Int):=⟨at0.toNat,by omega⟩
   rcases hr.hnd hw hG.2.1.low f with ⟨e1,e2⟩ | ⟨b,t,x,e1,ht,hk1,e2,e3,hx,hk⟩
   ·unfold wrT at h0
    rw [if_pos e1] at h0
    cases h0
   ·have hsz:=hw.siz b t ht
    have hlen:((wrD t.d A ys).length:Int) ≤ s.most:=by
     have hyl:=hyv.1
     unfold wrD
     rw [length_put _ _ _ (by rw [hyl]; simp; omega)]
     simp
     omega
    refine (rwrite18_ok hv f A (c:=c) hyv (by omega) ⟨by rw [hr.most]; exact hmo,by rw [hr.most]; exact hms.2⟩ (by rw [hE]; exact h0) (by rw [e2]; exact hx) (by rw [hk.d]; omega) hrs.len).mono ?_
    rintro e w2 ⟨a',c',rfl,hM,hkp⟩
    rw [e2] at hM
    refine ⟨_,by rw [h0],hM,hkp,?_⟩
    have hwd:wrDD (A:Int) m ys t=wrD t.d A ys:=by
     unfold wrDD
     rw [if_neg hm0,Int.toNat_natCast]
    rcases hc with ⟨hss,hd⟩ | ⟨b',t',a9,c9,q1,q2,rfl⟩
    ·have hd1:wrD t.d A ys=t.d:=by rw [← hwd]; exact hd b t e1 ht
     have hg:=hG.data ht hk1 hx hk (d:=wrD t.d A ys) hlen t.da a' t.dc c'
     rw [hss]
     rw [hk.d]
     rw [show s.upd b { t with d:=wrD t.d A ys,da:=t.da,dc:=t.dc }=s by rw [hd1]; exact upd_self ht] at hg
     exact hg
    ·rw [e1] at q1
     cases q1
     rw [ht] at q2
     cases q2
     rw [hwd,hk.d]
     exact hG.data ht hk1 hx hk (d:=wrD t.d A ys) hlen a9 a' c9 c'

end Go.Proofs.YtknmgefpjdfenaaGreat

/- Both trees: Rename. -/
namespace Go.Proofs.YtknmgefpjdfenaaGreat
set_option maxRecDepth 100000
set_option maxHeartbeats 8000000
open Go.RowKit Go.Shelf Go.Maps
set_option linter.unusedVariables false

theorem Inv.moved {s:Tr} {r d d2 x:Nat} {t t2:Th} {z z2:List UInt8} (h:Inv s r) (ht:s.T d=some t) (ht2:s.T d2=some t2):Inv (s.moved d z d2 z2 x) r:=by
 have hT:∀ b t',(s.moved d z d2 z2 x).T b=some t'→∃ t0,s.T b=some t0∧t'.l=t0.l:=fun b t' hb=>by
  rw [moved_T ht ht2] at hb
  cases hs:s.T b with
  | none=>rw [hs] at hb; cases hb
  | some t0 =>
   rw [hs] at hb
   cases hb
   exact ⟨t0,rfl,rfl⟩
 refine ⟨h.low.moved,fun t' ht'=>?_,fun b t' hb=>?_,by rw [moved_most]; exact h.mo⟩
 ·obtain ⟨t0,q1,q2⟩:=hT r t' ht'
  rw [q2]
  exact h.rl t0 q1
 ·obtain ⟨t0,q1,q2⟩:=hT b t' hb
  rw [q2]
  exact h.lm b t0 q1

theorem Inv.gone {s:Tr} {r n d x:Nat} {t tx:Th} {z:List UInt8} (hi:Inv s r) (hw:Wf s r n) (ht:s.T d=some t) (hx:s.T x=some tx) (q1:d ≠ x) (q4:x ≠ r):Inv (s.gone d t z x tx) r:=by
 obtain ⟨g1,g2⟩:=gone_T (s:=s) (t:=t) (tx:=tx) (z:=z) q1
 have hl:∀ b t',(s.gone d t z x tx).T b=some t'→∃ t0,s.T b=some t0∧t'.l ≤ t0.l:=fun b t' hb=>by
  by_cases q:b=d
  ·subst q
   rw [g1] at hb
   cases hb
   exact ⟨t,ht,Int.le_refl _⟩
  ·by_cases q2:b=x
   ·subst q2
    refine ⟨tx,hx,?_⟩
    unfold Tr.gone at hb
    split at hb
    ·have:(if b=b then none else (s.upd d { t with ns:=delN z t.ns }).T b)=some t':=hb
     rw [if_pos rfl] at this
     cases this
    ·rw [Tr.upd_T,if_pos rfl] at hb
     cases hb
     show tx.l - 1 ≤ tx.l
     omega
   ·rw [g2 b q q2] at hb
    exact ⟨t',hb,Int.le_refl _⟩
 refine ⟨hi.low.gone hw hx,fun t' ht'=>?_,fun b t' hb=>?_,by rw [gone_most]; exact hi.mo⟩
 ·by_cases q:r=d
  ·subst q
   rw [g1] at ht'
   cases ht'
   exact hi.rl t ht
  ·rw [g2 r q (fun e=>q4 e.symm)] at ht'
   exact hi.rl t' ht'
 ·obtain ⟨t0,h0,hle⟩:=hl b t' hb
  have:=hi.lm b t0 h0
  omega

theorem pair_rename {w:World} {S R:Nat→Prop} {g h r k:Nat} {s:Tr} {u:RTr} (hT:TM w S g s) (hG:Good s u r k) (hn:k ≤ 1700000000000) {p q:List UInt8} (hpl:p.length ≤ 9223372036854775807) (hql:q.length ≤ 9223372036854775807) :
  Calls Tryz.prog 16 #[.pointer (some ⟨g,0,none⟩),.string (St p),.string (St q)] w (PrE w S g r k R h u (fun v Q=>Calls Tryz.prog 28 #[.pointer (some ⟨h,0,none⟩),.string (St p),.string (St q)] v Q)):=by
 obtain ⟨hv,hi,hr⟩:=id hG
 have hw:=hv.wo.wf
 have h16:=hv.wo.h16
 have hl:=hi.low
 have no:∀ (E:Int),(∀ v,SM v R h u→Calls Tryz.prog 28 #[.pointer (some ⟨h,0,none⟩),.string (St p),.string (St q)] v fun e w'=>e=.returned (.int .i64 E)∧Below v.heap.size v w') →
   ∀ e w',(e=.returned (.int .i64 E)∧Below w.heap.size w w')→PrE w S g r k R h u (fun v Q=>Calls Tryz.prog 28 #[.pointer (some ⟨h,0,none⟩),.string (St p),.string (St q)] v Q) e w':=by
  rintro E hK e w' ⟨rfl,hb⟩
  refine ⟨E,s,rfl,hT.up (Nat.le_refl _) hb,Kp.of hb,fun v hvv=>(hK v hvv).mono ?_⟩
  rintro e w2 ⟨rfl,hb2⟩
  exact ⟨u,rfl,hvv.up hb2,Kp.of hb2,hG.mono (Nat.le_succ _)⟩
 rcases refE_two p q with ⟨_,ps,qs,hp,hq⟩ | ⟨e0,hpq⟩
 ·rcases List.eq_nil_or_concat ps with rfl | ⟨ms,z,rfl⟩
  ·exact (ren_root hT hw hn hp hq (.inl rfl)).mono (no 17 (fun v hvv=>rren_root hr hw hn hl hvv hp hq (.inl rfl)))
  ·rcases List.eq_nil_or_concat qs with rfl | ⟨ms2,z2,rfl⟩
   ·exact (ren_root hT hw hn hp hq (.inr rfl)).mono (no 17 (fun v hvv=>rren_root hr hw hn hl hvv hp hq (.inr rfl)))
   ·rw [List.concat_eq_append] at hp hq
    rcases plc_cases hw.ok ms with ⟨e1,e2⟩ | ⟨d,t,e1,ht,h2⟩
    ·have hgo:=go_par (z:=z) hw e1
     have hgr:=(find_no hr hw (by rw [hgo])).1
     rw [hgo] at hgr
     have hne:(plc s ms r).1 ≠ 0:=by omega
     exact (ren_tak hT hw hn hp hq hne (tkA_err z e1)).mono (no _ (fun v hvv=>rren_walk hr hw hn hl hvv hp hq hne hgr))
    ·cases hc:t.ns.lookup z with
     | none =>
      have hgo:go s (ms ++ [z]) r=(11,none):=by rw [go_dir hw e1 ht h2,hc]
      have hgr:=(find_no hr hw (by rw [hgo])).1
      rw [hgo] at hgr
      exact (ren_tak hT hw hn hp hq (by decide) (tkA_none e1 ht hc)).mono (no 11 (fun v hvv=>rren_walk hr hw hn hl hvv hp hq (by decide) hgr))
     | some x =>
      obtain ⟨tx,hx⟩:=(hw.liv d t ht _ (mem_look hc)).1
      have hgx:go s (ms ++ [z]) r=(0,some x):=by rw [go_dir hw e1 ht h2,hc]
      have hg:goR u (ms ++ [z]) 1=(0,nmb s x):=find_yes hr hw hgx
      have same:∀ {b:Bool} {d2:Nat} {t2:Th},abo (ms ++ [z]) (ms2 ++ [z2])=b→(b=false ∨ p=q)→plc s ms2 r=(0,some d2)→s.T d2=some t2→t2.k=2→t2.ns.lookup z2=some x →
        Calls Tryz.prog 16 #[.pointer (some ⟨g,0,none⟩),.string (St p),.string (St q)] w (PrE w S g r k R h u (fun v Q=>Calls Tryz.prog 28 #[.pointer (some ⟨h,0,none⟩),.string (St p),.string (St q)] v Q)):=by
       intro b d2 t2 hab hb e2 ht2 h22 hc2
       obtain ⟨q1,x2,hx2,hk2⟩:=plc_yes hr hw e2 ht2
       exact (ren_same hT hw hn hp hq e1 ht h2 hc e2 ht2 h22 hab hb hc2 ⟨tx,hx⟩).mono (no 0 (fun v hvv=>rren_same hr hw hn hl hvv hp hq hg hab hb ht2 q1 hx2 hk2 hc2))
      cases hab:abo (ms ++ [z]) (ms2 ++ [z2]) with
      | true =>
       by_cases hpq:p=q
       ·have e:=(refE_spl hp hq).1 hpq
        obtain ⟨ea,eb⟩:=List.append_inj' e rfl
        cases eb
        subst ea
        exact same hab (.inr hpq) e1 ht h2 hc
       ·exact (ren_abo hT hw hn hp hq e1 ht h2 hc hab hpq).mono (no 1 (fun v hvv=>rren_abo hr hw hn hl hvv hp hq hg hab hpq))
      | false =>
       rcases plc_cases hw.ok ms2 with ⟨q1,q2⟩ | ⟨d2,t2,e2,ht2,h22⟩
       ·obtain ⟨y1,y2⟩:=plc_no hr hw q1
        exact (ren_plc hT hw hn hp hq e1 ht h2 hc hab ⟨q1,by omega⟩).mono (no _ (fun v hvv=>rren_par hr hw hn hl hvv hp hq hg hab y2 y1))
       ·obtain ⟨rk,hdp,hrk⟩:=hw.deep (by omega)
        have hnn:rk x < k + 3:=by have:=hrk x; omega
        obtain ⟨hpa,x2,hx2,hk2⟩:=plc_yes hr hw e2 ht2
        have hnm:∀ ys e,go s ys x=(0,some e)→∀ y ∈ ys,nmB y=true:=fun ys e hy y hm=>by
         have:=hv.pv _ e (go_join hy (ms ++ [z]) r hgx)
         exact ((okN_iff _).1 this).2.1 y (List.mem_append_right _ hm)
        cases hc2:t2.ns.lookup z2 with
        | none =>
         cases hfit:fitsB s (k + 3) q x with
         | false=>exact (ren_fit0 hT hw hn hp hq e1 ht h2 hc e2 ht2 h22 hab hc2 hx hdp hnn (by omega) hfit).mono (no 16 (fun v hvv=>rren_fit0 hr hw hn hl hvv hp hq hg hab ht2 hpa hx2 hk2 hc2 hx hdp hnn hnm hfit))
         | true =>
          have hP:RenP s r p q (s.moved d z d2 z2 x):=⟨ms,z,d,t,x,tx,ms2,z2,d2,t2,hp,hq,e1,ht,h2,hc,hx,e2,ht2,h22,.inr ⟨hab,by rw [hc2]; exact fun q=>(by cases q),⟨k + 3,rk,hdp,hnn,hfit⟩,.inl ⟨hc2,rfl⟩⟩⟩
          have hwm:=hP.wf hw hn h16
          refine (ren_mov hT hw hn hp hq e1 ht h2 hc e2 ht2 h22 hab hc2 hx hdp hnn (by omega) hfit).mono ?_
          rintro e w' ⟨rfl,htm,hkp⟩
          refine ⟨0,_,rfl,htm,hkp,fun v hvv=>?_⟩
          obtain ⟨rb,hrb,_⟩:=hvv.row.cell hx2
          refine (rren_mov hr hw hn hl hvv hp hq hg hab ht2 hpa hx2 hk2 hc2 hx hdp hnn hnm hfit hrb (tail_all hr hw hn hp (plc_go hw.ok e1) ht h2 hc hx ht2 hc2 hx2 hk2 hwm hrb h)).mono ?_
          rintro e w2 ⟨u',rfl,hM,hkp2,hR⟩
          exact ⟨u',rfl,hM,hkp2,RenP.wv hv hn hP,hi.moved ht ht2,hR⟩
        | some y =>
         by_cases hxy:y=x
         ·subst hxy
          exact same hab (.inl rfl) e2 ht2 h22 hc2
         ·obtain ⟨ty,hy⟩:=(hw.liv d2 t2 ht2 _ (mem_look hc2)).1
          cases hfit:fitsB s (k + 3) q x with
          | false=>exact (ren_fit1 hT hw hn hp hq e1 ht h2 hc e2 ht2 h22 hab hy hxy hc2 hx hdp hnn (by omega) hfit).mono (no 16 (fun v hvv=>rren_fit1 hr hw hn hl hvv hp hq hg hab ht2 hpa hx2 hk2 hc2 hy hxy hx hdp hnn hnm hfit))
          | true =>
           have hyr:y ≠ r:=hw.named_ne ht2 (mem_look hc2)
           have hyl:=hw.lnk y ty hy hyr
           have kx:=hw.ok.kind x tx hx
           have ky:=hw.ok.kind y ty hy
           by_cases hE:yE s y ty tx.k=0
           ·have hdn:=hw.not_below (plc_go hw.ok e1) ht h2 hc (plc_go hw.ok e2) ht2 h22 hab
            have hxd:x ≠ d2:=fun e=>by subst e; exact hdn Dn.refl
            obtain ⟨hw1,t1,t3,g1,g2,g3,g4,g5,g6,g7⟩:=hw.over hn ht h2 hc hx ht2 h22 hc2 hy hxy hE h16 hxd
            obtain ⟨t4,k1,k2,k3⟩:∃ t4,((s.gone d2 t2 z2 y ty).edit d (delN z)).T d2=some t4∧t4.k=2∧t4.ns.length < 1000000000000000:=by
             rw [edit_some g1,Tr.upd_T]
             have:=hw1.ns_le g1
             have:=hw1.ns_le g4
             by_cases e:d2=d
             ·rw [if_pos e]
              exact ⟨_,rfl,g2,by have:=List.length_filter_le (fun e:List UInt8 × Nat=>!(e.1 == z)) t1.ns; show (delN z t1.ns).length < _; unfold delN; omega⟩
             ·rw [if_neg e]
              exact ⟨t3,g4,g5,by omega⟩
            have hP:RenP s r p q ((s.gone d2 t2 z2 y ty).moved d z d2 z2 x):=⟨ms,z,d,t,x,tx,ms2,z2,d2,t2,hp,hq,e1,ht,h2,hc,hx,e2,ht2,h22,.inr ⟨hab,by rw [hc2]; exact fun q=>hxy (by cases q; rfl),⟨k + 3,rk,hdp,hnn,hfit⟩,.inr ⟨y,ty,hc2,hy,hE,rfl⟩⟩⟩
            have hwm:=hP.wf hw hn h16
            obtain ⟨d1,_⟩:=hw.dropable (by omega) ht2 hc2 hy
            obtain ⟨z1,z3⟩:=yE_zero hE
            have hkk:tx.k=ty.k:=by
             unfold yE at hE
             rcases kx with a | a <;> rcases ky with b | b
             ·rw [a,b]
             ·rw [if_neg (by rintro ⟨q,_⟩; omega),if_pos ⟨b,a⟩] at hE; cases hE
             ·rw [if_pos ⟨b,a⟩] at hE; cases hE
             ·rw [a,b]
            refine (ren_ovr hT hw hn hp hq e1 ht h2 hc e2 ht2 h22 hab hy hxy hc2 hx hdp hnn (by omega) hfit hE g1 g2 k1 k2 k3).mono ?_
            rintro e w' ⟨rfl,htm,hkp⟩
            refine ⟨0,_,rfl,htm,hkp,fun v hvv=>?_⟩
            obtain ⟨rb,hrb,_⟩:=hvv.row.cell hx2
            refine (rren_ovr hr hw hn hl hvv hp hq hg hab ht2 hpa hx2 hk2 hc2 hy hxy hx hdp hnn hnm hfit hkk ky z1 ?_ hrb (fun kk a4 c4 hq=>tail_over hr hw hn h16 hp (plc_go hw.ok e1) ht h2 hc hx ht2 h22 hc2 hy hxy hxd hE hx2 hk2 hq hwm hrb h a4 c4)).mono ?_
            ·rintro ⟨q1,q2⟩
             obtain ⟨f,hf,hof⟩:=(held_iff s y).1 q2
             exact z3 (by omega) f hf hof
            ·rintro e w2 ⟨u',rfl,hM,hkp2,hR⟩
             exact ⟨u',rfl,hM,hkp2,RenP.wv hv hn hP,(hi.gone hw ht2 hy d1 hyr).moved g1 g4,hR⟩
           ·refine (ren_yld hT hw hn hp hq e1 ht h2 hc e2 ht2 h22 hab hy hxy hc2 hx hdp hnn (by omega) hfit hE).mono (no _ (fun v hvv=>?_))
            unfold yE at hE ⊢
            rcases kx with a | a <;> rcases ky with b | b
            ·
             have hye:=hw.fil y ty hy b
             rw [if_neg (by rintro ⟨_,q⟩; omega),if_neg (by rintro ⟨q,_⟩; omega),hye,if_neg (by simp)] at hE ⊢
             by_cases q:s.keeps y ty=true
             ·rw [if_pos q]
              unfold Tr.keeps at q
              simp only [Bool.and_eq_true,decide_eq_true_eq] at q
              exact rren_y17 hr hw hn hl hvv hp hq hg hab ht2 hpa hx2 hk2 hc2 hy hxy hx hdp hnn hnm hfit a b hye (by omega) q.2
             ·rw [if_neg q] at hE
              exact absurd rfl hE
            ·rw [if_neg (by rintro ⟨q,_⟩; omega),if_pos ⟨b,a⟩]
             exact rren_y14 hr hw hn hl hvv hp hq hg hab ht2 hpa hx2 hk2 hc2 hy hxy hx hdp hnn hnm hfit a b
            ·rw [if_pos ⟨b,a⟩]
             exact rren_y13 hr hw hn hl hvv hp hq hg hab ht2 hpa hx2 hk2 hc2 hy hxy hx hdp hnn hnm hfit a b
            ·rw [if_neg (by rintro ⟨q,_⟩; omega),if_neg (by rintro ⟨_,q⟩; omega)] at hE ⊢
             by_cases q:0 < ty.ns.length
             ·rw [if_pos q]
              exact rren_y15 hr hw hn hl hvv hp hq hg hab ht2 hpa hx2 hk2 hc2 hy hxy hx hdp hnn hnm hfit a b q
             ·rw [if_neg q] at hE
              by_cases q2:s.keeps y ty=true
              ·unfold Tr.keeps at q2
               simp only [Bool.and_eq_true,decide_eq_true_eq] at q2
               obtain ⟨f,hf,hof⟩:=(held_iff s y).1 q2.2
               obtain ⟨ty',hty',hk1⟩:=hw.opn f y hof
               rw [hy] at hty'
               cases hty'
               omega
              ·rw [if_neg q2] at hE
               exact absurd rfl hE
 ·refine (ren_bad hT hw hn hpl hql e0).mono (no 16 (fun v hvv=>rren_bad hr hw hn hl hvv hpl hql ?_))
  rcases hpq with e | e
  ·exact .inl (by unfold spE; rw [e]; decide)
  ·exact .inr (by unfold spE; rw [e]; decide)

end Go.Proofs.YtknmgefpjdfenaaGreat

