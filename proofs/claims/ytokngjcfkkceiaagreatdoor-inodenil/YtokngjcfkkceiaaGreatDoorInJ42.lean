/- Joined: WRead3, WRead4, WOpen, WLaw. -/
import Derived.Test.YtokngjcfkkceiaaGreatDoorInJ39
import Derived.Test.YtokngjcfkkceiaaGreatDoorInGScope
import Derived.Test.YtokngjcfkkceiaaGreatDoorInJ41
import Derived.Test.YtokngjcfkkceiaaGreatDoorInJ17
import Derived.Test.YtokngjcfkkceiaaGreatDoorInJ29
import Derived.Test.YtokngjcfkkceiaaGreatDoorInJ1
import Derived.Test.YtokngjcfkkceiaaGreatDoorInJ6
/- The contract of readParts: what it stands on. -/
namespace Go.Proofs.YtokngjcfkkceiaaGreatDoor
set_option maxRecDepth 100000
set_option maxHeartbeats 8000000
open Go.RowKit Go.Shelf Go.Maps
set_option linter.unusedVariables false

theorem ihas_kept9 {u u':World}{a:Option Addr}{len:Nat}{ns:List Int}(h:IHas u a len ns)(hk:∀ x,a=some x→u'.heap[x.block]?=u.heap[x.block]?):IHas u' a len ns:=by
 refine⟨h.1,fun hp=>?_⟩
 obtain⟨b,off,e,hc⟩:=h.2 hp
 exact⟨b,off,e,fun j hj=>(cell_eq (hk _ e) _).trans (hc j hj)⟩

def Lg.at (L:Lg) (Q:Nat→Option (List Int)):Lg:={ L with Q:=Q }

theorem lv_take {g dg:Nat}{S:Nat→Prop}{P:Nat→Int}{G:Geo}{L:Lg}{D:Dev}{u:World}(h:Lv u S g dg P G L D)(hd:D.dead=false)(i:Nat)(hi:i<G.n)(b:Nat)(hb:b<G.n) :
  ∃ mb,u.cell? ⟨g,16,none⟩=some (.map (some mb))∧∀ u0,Below u.heap.size u u0→Hid (Calls Tryz.prog 125 #[.pointer (some ⟨dg,0,none⟩),.int .i64 (i:Int)] u0 fun e u1=>∃ r,e=.returned (.tuple #[.slice (some ⟨r,0,none⟩) G.blk G.blk,.int .i64 0])∧u1.cell? ⟨g,16,none⟩=some (.map (some mb))∧∃ u2,(Instr.mapUpdate 78 (.map (some mb)) (.int .i64 (b:Int)) (.slice (some ⟨r,0,none⟩) G.blk G.blk)).run Tryz.prog u1=.ok () u2 ∧
   Hid (∃ S',Lv u2 S' g dg P G (L.at (fun j=>if j=b then some (D.rd i) else L.Q j)) D∧Nx S u S' u2)):=by
 obtain⟨r1,r2⟩:=h.rd hi
 have h':=h
 obtain⟨Sl,Sd,m,x⟩:=h
 have hG:=x.ll.pg.ok
 have hbk:=hG.blk
 refine⟨m.mb,x.ll.cells.2.2.2.2.2.1,fun u0 hu0=>?_⟩
 have:=read_ok dg i Sd D u0 (x.below hu0).dd hd (by rw[x.nd];exact hi)
 rw[x.bd] at this
 refine this.mono ?_
 rintro e u1 ⟨rfl,hB,hb1⟩
 have hbb:Below u.heap.size u u1:=hu0.trans (hb1.mono hu0.size)
 have hlu:LgM u1 (exS Sl u u1) g dg P G L m:=x.ll.kept (fun k hk=>hbb.block k (x.ll.lt k hk)) (fun k hk=>.inl hk) (fun k hk=>by
  rcases hk with hk | hk
  ·exact Nat.lt_of_lt_of_le (x.ll.lt k hk) hbb.size
  ·exact hk.2)
 have hrow:RowAt u1 (exS Sl u u1) G.blk (u0.heap.size,G.blk) (D.rd i):=by
  have:=RowAt.new (S:=exS Sl u u1) hB r1 (by omega) r2
  exact⟨this.own,.inr ⟨hu0.size,hB.lt⟩,this.le,this.mx,this.byt⟩
 obtain⟨u2,q2,l2,n2⟩:=hlu.put hb hrow
 obtain⟨y1,y2⟩:=x.own l2 ((Nx.grow hbb).trans n2)
 exact⟨u0.heap.size,rfl,hlu.cells.2.2.2.2.2.1,u2,q2,_,y1.lv,y2⟩

def partL (G:Geo) (rd:Nat→List Int) (a:Nat) (ns:List Int):Wl:=ns.mapIdx (fun i b=>(b.toNat,rd (G.ring (a+1+i))))

theorem partL_snoc {G:Geo}{rd:Nat→List Int}{a:Nat}{ns:List Int}{k b:Nat}(hk:k<ns.length)(hb:ns[k]?.getD 0=(b:Int)):(partL G rd a ns).take (k+1)=(partL G rd a ns).take k++[(b,rd (G.ring (a+1+k)))]:=by
 have h1:k<(partL G rd a ns).length:=by simpa [partL] using hk
 rw[List.take_succ_eq_append_getElem h1]
 congr 2
 rw[List.getElem?_eq_getElem hk] at hb
 simp only[Option.getD_some] at hb
 simp[partL,hb]

structure RQ (w:World) (S:Nat→Prop) (g dg:Nat) (P:Nat→Int) (G:Geo) (L:Lg) (D:Dev) (en:Nat) (R:Option (Nat→Option (List Int))) (a:Nat) (nx:Int) (Q:Nat→Option (List Int)) (u:World) (Su:Nat→Prop):Prop where
 lv:Lv u Su g dg P G (L.at Q) D
 nxx:Nx S w Su u
 ge:L.h.tail≤a
 le:a≤en
 ee:en≤2000
 res:∃ f,en - a<f∧goP G D.rd (L.h.seq:Int) L.h.tail en f a nx Q=R

theorem RQ.done {w:World}{S:Nat→Prop}{g dg:Nat}{P:Nat→Int}{G:Geo}{L:Lg}{D:Dev}{en:Nat}{R:Option (Nat→Option (List Int))}{a:Nat}{nx:Int}{Q:Nat→Option (List Int)}{u:World}{Su:Nat→Prop}(h:RQ w S g dg P G L D en R a nx Q u Su)(e:a=en):(nx=(L.h.seq:Int)→R=some Q)∧(nx≠(L.h.seq:Int)→R=none):=by
 obtain⟨f,h1,h2⟩:=h.res
 obtain⟨k,rfl⟩:∃ k,f=k+1:=⟨f - 1,by omega⟩
 rw[goP,if_pos e] at h2
 exact⟨fun hn=>by rw[if_pos hn] at h2;exact h2.symm,fun hn=>by rw[if_neg hn] at h2;exact h2.symm⟩

theorem RQ.bad {w:World}{S:Nat→Prop}{g dg:Nat}{P:Nat→Int}{G:Geo}{L:Lg}{D:Dev}{en:Nat}{R:Option (Nat→Option (List Int))}{a:Nat}{nx:Int}{Q:Nat→Option (List Int)}{u:World}{Su:Nat→Prop}(h:RQ w S g dg P G L D en R a nx Q u Su)(e:a≠en)(hc:¬ (dscOk G (D.rd (G.ring a))∧(L.h.tail<a→getVal (D.rd (G.ring a)) 4 4=nx)∧a+1+(dsL (D.rd (G.ring a))).length≤en)):R=none:=by
 obtain⟨f,h1,h2⟩:=h.res
 obtain⟨k,rfl⟩:∃ k,f=k+1:=⟨f - 1,by omega⟩
 rw[goP,if_neg e,if_neg hc] at h2
 exact h2.symm

theorem RQ.go {w:World}{S:Nat→Prop}{g dg:Nat}{P:Nat→Int}{G:Geo}{L:Lg}{D:Dev}{en:Nat}{R:Option (Nat→Option (List Int))}{a:Nat}{nx:Int}{Q:Nat→Option (List Int)}{u:World}{Su:Nat→Prop}(h:RQ w S g dg P G L D en R a nx Q u Su)(e:a≠en)(h1:dscOk G (D.rd (G.ring a)))(h2:L.h.tail<a→getVal (D.rd (G.ring a)) 4 4=nx)(h3:a+1+(dsL (D.rd (G.ring a))).length≤en){u':World}{S':Nat→Prop}(hl:Lv u' S' g dg P G (L.at (setW Q (partL G D.rd a (dsL (D.rd (G.ring a)))))) D)(hx:Nx S w S' u') :
  RQ w S g dg P G L D en R (a+1+(dsL (D.rd (G.ring a))).length) (getVal (D.rd (G.ring a)) 4 4+1) (setW Q (partL G D.rd a (dsL (D.rd (G.ring a))))) u' S':=by
 obtain⟨f,x1,x2⟩:=h.res
 obtain⟨k,rfl⟩:∃ k,f=k+1:=⟨f - 1,by omega⟩
 rw[goP,if_neg e,if_pos ⟨h1,h2,h3⟩] at x2
 have hge:=h.ge
 have hle:=h.le
 exact⟨hl,hx,by omega,h3,h.ee,k,by omega,x2⟩

def RP (w:World) (S:Nat→Prop) (g dg:Nat) (P:Nat→Int) (G:Geo) (L:Lg) (D:Dev) (en:Nat) (R:Option (Nat→Option (List Int))) (a:Nat) (Q:Nat→Option (List Int)) (ns:List Int) (gr:Nat) (k:Nat) (u:World):Prop :=
 ∃ Su,Lv u Su g dg P G (L.at (setW Q ((partL G D.rd a ns).take k))) D∧Nx S w Su u∧IHas u (some ⟨gr,0,none⟩) ns.length ns∧¬ Su gr∧gr<u.heap.size

theorem RP.step {w:World}{S:Nat→Prop}{g dg:Nat}{P:Nat→Int}{G:Geo}{L:Lg}{D:Dev}{en:Nat}{R:Option (Nat→Option (List Int))}{a:Nat}{Q:Nat→Option (List Int)}{ns:List Int}{gr k:Nat}{u:World}(h:RP w S g dg P G L D en R a Q ns gr k u)(hd:D.dead=false)(hk:k<ns.length)(hin:∀ z∈ns,(G.ib:Int)≤z∧z<G.n) :
  ∃ b:Nat,u.cell? ⟨gr,k,none⟩=some (.int .i64 (b:Int))∧u.cell? ⟨g,0,none⟩=some (.pointer (some ⟨dg,0,none⟩))∧(Calls Tryz.prog 128 #[.pointer (some ⟨g,0,none⟩),.int .i64 ((a+1+k:Nat):Int)] u.drew fun e u1=>e=.returned (.int .i64 (G.ring (a+1+k):Int))∧∃ q,u1=u.drew.drewN q) ∧
   ∃ mb,u.cell? ⟨g,16,none⟩=some (.map (some mb))∧∀ u0,Below u.heap.size u u0→Hid (Calls Tryz.prog 125 #[.pointer (some ⟨dg,0,none⟩),.int .i64 (G.ring (a+1+k):Int)] u0 fun e u1=>∃ r,e=.returned (.tuple #[.slice (some ⟨r,0,none⟩) G.blk G.blk,.int .i64 0])∧u1.cell? ⟨g,16,none⟩=some (.map (some mb))∧∃ u2,(Instr.mapUpdate 78 (.map (some mb)) (.int .i64 (b:Int)) (.slice (some ⟨r,0,none⟩) G.blk G.blk)).run Tryz.prog u1=.ok () u2∧Hid (RP w S g dg P G L D en R a Q ns gr (k+1) u2)):=by
 obtain⟨Su,h1,h2,h3,h4,h5⟩:=h
 have hG:G.Ok:=by obtain⟨_,_,_,x⟩:=h1;exact x.ll.pg.ok
 have hz:=hin (ns[k]?.getD 0) (by rw[List.getElem?_eq_getElem hk];exact List.getElem_mem _)
 obtain⟨b,hb⟩:∃ b:Nat,ns[k]?.getD 0=(b:Int):=⟨(ns[k]?.getD 0).toNat,by omega⟩
 obtain⟨mb,c6,K⟩:=lv_take h1 hd (G.ring (a+1+k)) (hG.ring _).2.2 b (by omega)
 refine⟨b,?_,?_,?_,mb,c6,fun u0 hu0=>?_⟩
 ·obtain⟨gr',off,e,hc⟩:=h3.2 (by omega)
  cases e
  have:=hc k hk
  rw[Nat.zero_add,hb] at this
  exact this
 ·obtain⟨_,_,_,x⟩:=h1
  exact x.ll.cells.1
 ·obtain⟨Sl,Sd,m,x⟩:=h1
  exact ring_any g dg (a+1+k) Sl P G _ m u.drew (x.below ((Below.refl _ u).drew)).ll
 ·refine(unhide (K u0 hu0)).mono ?_
  rintro e u1 ⟨r,rfl,m1,u2,r2,X⟩
  refine⟨r,rfl,m1,u2,r2,?_⟩
  obtain⟨S',l2,n2⟩:=unhide X
  obtain⟨k1,k2,k3⟩:=n2.keep h5 h4
  refine⟨S',?_,h2.trans n2,ihas_kept9 h3 (fun x e=>by cases e;exact k1),k2,k3⟩
  rw[partL_snoc hk hb,setW_append]
  exact l2

def RqJ (w:World) (S:Nat→Prop) (g dg:Nat) (P:Nat→Int) (G:Geo) (L:Lg) (D:Dev) (en:Nat) (R:Option (Nat→Option (List Int))) (a':Act) (w':World):Prop :=
 ∃ a nx Q Su,RQ w S g dg P G L D en R a nx Q w' Su∧∃ x3 x4 x5:Int,(x3=(a:Int)∧x4=(en:Int)∧x5=nx)∧∃ f:Nat→Value,a'={ tmps:=#[.pointer (some ⟨g,0,none⟩),f 0,f 1,.int .i64 x3,.int .i64 x4,.int .i64 x5,f 2,f 3,f 4,f 5,f 6,f 7,f 8,f 9,f 10,f 11,f 12,f 13,f 14,f 15,f 16,f 17,f 18,f 19,f 20,f 21,f 22,f 23,f 24,f 25,f 26,f 27,f 28,f 29,f 30,f 31,f 32,f 33,f 34,f 35,f 36,f 37,f 38,f 39,f 40,f 41,f 42,f 43,f 44,f 45,f 46,f 47,f 48,f 49,f 50,f 51,f 52,f 53,f 54,f 55,f 56,f 57,f 58,f 59,f 60,f 61,f 62,f 63,f 64,f 65,f 66,f 67,f 68,f 69,f 70,f 71,f 72,f 73,f 74,f 75,f 76,f 77,f 78,f 79,f 80,f 81,f 82,f 83,f 84,f 85,f 86,f 87,f 88,f 89,f 90,f 91,f 92,f 93,f 94,f 95,f 96,f 97,f 98,f 99,f 100,f 101,f 102,f 103,f 104,f 105],defers:=[] }

theorem RqJ.mk {w:World}{S:Nat→Prop}{g dg:Nat}{P:Nat→Int}{G:Geo}{L:Lg}{D:Dev}{en:Nat}{R:Option (Nat→Option (List Int))}{a:Nat}{nx:Int}{Q:Nat→Option (List Int)}{w':World}{Su:Nat→Prop}(h:RQ w S g dg P G L D en R a nx Q w' Su){x3 x4 x5:Int}(hx:x3=(a:Int)∧x4=(en:Int)∧x5=nx){u1 u2 u6 u7 u8 u9 u10 u11 u12 u13 u14 u15 u16 u17 u18 u19 u20 u21 u22 u23 u24 u25 u26 u27 u28 u29 u30 u31 u32 u33 u34 u35 u36 u37 u38 u39 u40 u41 u42 u43 u44 u45 u46 u47 u48 u49 u50 u51 u52 u53 u54 u55 u56 u57 u58 u59 u60 u61 u62 u63 u64 u65 u66 u67 u68 u69 u70 u71 u72 u73 u74 u75 u76 u77 u78 u79 u80 u81 u82 u83 u84 u85 u86 u87 u88 u89 u90 u91 u92 u93 u94 u95 u96 u97 u98 u99 u100 u101 u102 u103 u104 u105 u106 u107 u108 u109:Value} :
  RqJ w S g dg P G L D en R { tmps:=#[.pointer (some ⟨g,0,none⟩),u1,u2,.int .i64 x3,.int .i64 x4,.int .i64 x5,u6,u7,u8,u9,u10,u11,u12,u13,u14,u15,u16,u17,u18,u19,u20,u21,u22,u23,u24,u25,u26,u27,u28,u29,u30,u31,u32,u33,u34,u35,u36,u37,u38,u39,u40,u41,u42,u43,u44,u45,u46,u47,u48,u49,u50,u51,u52,u53,u54,u55,u56,u57,u58,u59,u60,u61,u62,u63,u64,u65,u66,u67,u68,u69,u70,u71,u72,u73,u74,u75,u76,u77,u78,u79,u80,u81,u82,u83,u84,u85,u86,u87,u88,u89,u90,u91,u92,u93,u94,u95,u96,u97,u98,u99,u100,u101,u102,u103,u104,u105,u106,u107,u108,u109],defers:=[] } w':=⟨a,nx,Q,Su,h,x3,x4,x5,hx,fun k=>[u1,u2,u6,u7,u8,u9,u10,u11,u12,u13,u14,u15,u16,u17,u18,u19,u20,u21,u22,u23,u24,u25,u26,u27,u28,u29,u30,u31,u32,u33,u34,u35,u36,u37,u38,u39,u40,u41,u42,u43,u44,u45,u46,u47,u48,u49,u50,u51,u52,u53,u54,u55,u56,u57,u58,u59,u60,u61,u62,u63,u64,u65,u66,u67,u68,u69,u70,u71,u72,u73,u74,u75,u76,u77,u78,u79,u80,u81,u82,u83,u84,u85,u86,u87,u88,u89,u90,u91,u92,u93,u94,u95,u96,u97,u98,u99,u100,u101,u102,u103,u104,u105,u106,u107,u108,u109].getD k undef,rfl⟩

def rqMu (a':Act) (_:World):Nat:=(intOf (a'.tmps.getD 4 undef) - intOf (a'.tmps.getD 3 undef)).toNat

theorem rp_nums2 (a k:Nat)(ha:a≤2000)(hk:k≤65535):IntKind.i64.wrap ((a:Int)+1)=((a+1:Nat):Int)∧IntKind.i64.wrap (((a+1:Nat):Int)+(k:Int))=((a+1+k:Nat):Int):=by
 refine⟨?_,?_⟩
 ·rw[IntKind.wrap_i64];omega
 ·rw[IntKind.wrap_i64];omega

theorem readParts_any (g dg:Nat)(S:Nat→Prop)(P:Nat→Int)(G:Geo)(L:Lg)(D:Dev)(w:World)(h:Lv w S g dg P G L D)(hd:D.dead=false)(R:Option (Nat→Option (List Int)))(hR:goP G D.rd (L.h.seq:Int) L.h.tail (L.h.tail+L.h.used) 600 L.h.tail (L.h.seq:Int) L.Q=R) :
  Calls Tryz.prog 73 #[.pointer (some ⟨g,0,none⟩)] w fun e w'=>∃ Q',Hid (∃ S',Lv w' S' g dg P G (L.at Q') D∧Nx S w S' w')∧((R=none∧e=.returned (.int .i64 9))∨(R=some Q'∧e=.returned (.int .i64 0))):=by
 have hG:G.Ok:=by obtain⟨_,_,_,x⟩:=h;exact x.ll.pg.ok
 have hh:L.h.Ok G:=by obtain⟨_,_,_,x⟩:=h;exact x.ll.hok
 have hl2:=hG.l2
 have ht:=hh.tail
 have hu:=hh.used
 have Q0:Hid (∀ u,Below w.heap.size w u→RQ w S g dg P G L D (L.h.tail+L.h.used) R L.h.tail (L.h.seq:Int) L.Q u S):=fun u hb=>⟨h.below hb,(Nx.refl S w).below' hb,Nat.le_refl _,by omega,by omega,600,by omega,hR⟩
 obtain⟨c3,c4,c5⟩:w.cell? ⟨g,13,none⟩=some (.int .i64 (L.h.seq:Int))∧w.cell? ⟨g,14,none⟩=some (.int .i64 (L.h.tail:Int))∧w.cell? ⟨g,15,none⟩=some (.int .i64 (L.h.used:Int)):=by
  obtain⟨_,_,_,x⟩:=h
  exact⟨x.ll.cells.2.2.1,x.ll.cells.2.2.2.1,x.ll.cells.2.2.2.2.1⟩
 have s1:IntKind.i64.wrap ((L.h.tail:Int)+(L.h.used:Int))=((L.h.tail+L.h.used:Nat):Int):=by rw[IntKind.wrap_i64];omega
 clear hR
 have HD:=hide hd
 have HL:Hid (∀ u Q Su,Lv u Su g dg P G (L.at Q) D→u.cell? ⟨g,13,none⟩=some (.int .i64 (L.h.seq:Int))∧u.cell? ⟨g,14,none⟩=some (.int .i64 (L.h.tail:Int))):=fun u Q Su hl=>by
  obtain⟨_,_,_,x⟩:=hl
  exact⟨x.ll.cells.2.2.1,x.ll.cells.2.2.2.1⟩
 have hen:Hid (L.h.tail+L.h.used≤2000):=by show _≤_;omega
 clear h hd hG hh hl2
 have hgen:Hid (L.h.tail≤L.h.tail+L.h.used):=Nat.le_add_right _ _
 clear ht hu
 generalize L.h.tail+L.h.used=en at *
 go_enter Tryz.func73,Tryz.ntmps73
 go_wp2_with fail
 refine wp_scope_one 0 (RqJ w S g dg P G L D en R) rqMu rfl ?_ ?_
 ·intro a' w' hJ
  clear Q0 c3 c4 c5 s1
  obtain⟨a,nx,Q,Su,hQ,x3,x4,x5,⟨rfl,rfl,rfl⟩,f,rfl⟩:=hJ
  have hae:=hQ.le
  have hee:=hQ.ee
  obtain⟨c3,c4⟩:=unhide HL _ _ _ hQ.lv
  have HQ:=hide hQ
  by_cases e:a=en
  ·have HE:=hide (hQ.done e)
   have XX:Hid (∃ S',Lv w' S' g dg P G (L.at Q) D∧Nx S w S' w'):=⟨Su,hQ.lv,hQ.nxx⟩
   have e0:((a:Int)==(en:Int))=true:=by rw[e];simp
   clear hQ HQ HL hae hee
   by_cases hn:x5=(L.h.seq:Int)
   ·have d1:(x5 != (L.h.seq:Int))=false:=by rw[hn];simp
    have HN:=hide hn
    clear hn
    generalize (L.h.seq:Int)=sq at *
    go_wp2_with fail
    simp only[Exit.jump]
    go_ret
    exact⟨Q,XX,.inr ⟨(unhide HE).1 (unhide HN),rfl⟩⟩
   ·have d1:(x5 != (L.h.seq:Int))=true:=by simpa using hn
    have HN:=hide hn
    clear hn
    generalize (L.h.seq:Int)=sq at *
    go_wp2_with fail
    simp only[Exit.jump]
    go_ret
    exact⟨Q,XX,.inl ⟨(unhide HE).2 (unhide HN),rfl⟩⟩
  ·have e0:((a:Int)==(en:Int))=false:=by simpa using fun h:(a:Int)=en=>e (by omega)
   have HE:=hide e
   have KD:=hide (readDesc_any g dg Su P G (L.at Q) D w' hQ.lv (unhide HD) a)
   clear hQ
   go_wp2_with fail
   go_at_call 127
   refine(unhide KD).mono ?_
   intro ee u1 X
   clear KD
   obtain⟨hb1,(⟨ok,gr,hgr,rfl,hi⟩ | ⟨bad,rfl⟩)⟩:=unhide X
   ·have hns:(dsL (D.rd (G.ring a))).length≤65535:=by
     have e1:(dsL (D.rd (G.ring a))).length=dN (D.rd (G.ring a)):=takeL_length _ _
     have hGo:G.Ok:=by obtain⟨_,_,_,x⟩:=(unhide HQ).lv;exact x.ll.pg.ok
     rw[e1]
     exact(dN_le ((unhide HQ).lv.rd (hGo.ring a).2.2).2).1
    have hin:Hid (∀ z∈dsL (D.rd (G.ring a)),(G.ib:Int)≤z∧z<G.n):=by
     have hb:=ok.2.2
     unfold blkE at hb
     by_cases hall:(dsL (D.rd (G.ring a))).all (fun b=>decide ((G.ib:Int)≤b∧b<G.n))=true
     ·intro z hz
      have:=List.all_eq_true.1 hall z hz
      simpa using this
     ·rw[if_neg hall] at hb;omega
    have XX:Hid (∃ S',Lv u1 S' g dg P G (L.at Q) D∧Nx S w S' u1):=⟨Su,(unhide HQ).lv.below hb1,(unhide HQ).nxx.below' hb1⟩
    have RB:Hid (¬ ((L.h.tail<a→getVal (D.rd (G.ring a)) 4 4=x5)∧a+1+(dsL (D.rd (G.ring a))).length≤en)→R=none):=fun hk=>(unhide HQ).bad (unhide HE) (fun h3=>hk h3.2)
    have P0:Hid (RP w S g dg P G L D en R a Q (dsL (D.rd (G.ring a))) gr 0 u1):=by
     refine⟨Su,?_,(unhide HQ).nxx.below' hb1,hi,fun hs=>?_,?_⟩
     ·rw[List.take_zero];exact(unhide HQ).lv.below hb1
     ·have:=(unhide HQ).lv.lt hs;omega
     ·obtain⟨b',off',e',hc'⟩:=hi.2 (List.length_pos_iff.2 ok.2.1)
      cases e'
      exact cell_block_lt (hc' 0 (List.length_pos_iff.2 ok.2.1))
    have KG:Hid ((L.h.tail<a→getVal (D.rd (G.ring a)) 4 4=x5)→a+1+(dsL (D.rd (G.ring a))).length≤en→∀ u',RP w S g dg P G L D en R a Q (dsL (D.rd (G.ring a))) gr (dsL (D.rd (G.ring a))).length u'→∃ S',RQ w S g dg P G L D en R (a+1+(dsL (D.rd (G.ring a))).length) (getVal (D.rd (G.ring a)) 4 4+1) (setW Q (partL G D.rd a (dsL (D.rd (G.ring a))))) u' S'):=fun h2 h3 u' hp=>by
     obtain⟨S',l1,n1,_⟩:=hp
     rw[List.take_of_length_le (by simp[partL])] at l1
     exact⟨S',(unhide HQ).go (unhide HE) ok h2 h3 l1 n1⟩
    have KS:Hid (∀ u k,RP w S g dg P G L D en R a Q (dsL (D.rd (G.ring a))) gr k u→k<(dsL (D.rd (G.ring a))).length→_):=fun u k hp hk=>hp.step (unhide HD) hk (unhide hin)
    obtain⟨m3,m4⟩:=unhide HL _ _ _ ((unhide HQ).lv.below hb1)
    have hsb:Hid (0≤getVal (D.rd (G.ring a)) 4 4∧getVal (D.rd (G.ring a)) 4 4<256 ^ 4):=by
     have hGo:G.Ok:=by obtain⟨_,_,_,x⟩:=(unhide HQ).lv;exact x.ll.pg.ok
     exact getVal_bound ((unhide HQ).lv.rd (hGo.ring a).2.2).2 4 4
    clear X hb1 hi ok hgr HQ HL hin HD c3 c4
    generalize dsL (D.rd (G.ring a))=ns at *
    generalize getVal (D.rd (G.ring a)) 4 4=sq at *
    obtain⟨bb,hbb⟩:∃ bb:Bool,bb=decide (¬ ((L.h.tail<a→sq=x5)∧a+1+ns.length≤en)):=⟨_,rfl⟩
    have HBB:=hide hbb
    clear hbb
    have hn0:Hid (ns.length=ns.length):=rfl
    generalize hnl:ns.length=n at *
    have HNL:=hide hnl
    clear hnl hn0
    go_upto_region 10 with fail
    go_cut [72] (fun c wx=>c=.bool bb∧u1=wx)
    case first =>
     clear P0 KG KS XX RB e0
     by_cases ht:L.h.tail<a
     ·have t1:(L.h.tail:Int)<(a:Int):=by omega
      by_cases hs:sq=x5
      ·have s0:(sq != x5)=false:=by rw[hs];simp
       by_cases hl:a+1+n≤en
       ·have l1:(a:Int)+1+(n:Int)≤(en:Int):=by omega
        have BV:Hid (bb=false):=by rw[unhide HBB];exact decide_eq_false (fun h=>h ⟨fun _=>hs,hl⟩)
        clear HBB ht hs hl
        go_wp2_with fail
        go_meet
        exact⟨by rw[unhide BV];congr 1;exact decide_eq_false (by omega),rfl⟩
       ·have l1:(en:Int)<(a:Int)+1+(n:Int):=by omega
        have BV:Hid (bb=true):=by rw[unhide HBB];exact decide_eq_true (fun h=>hl h.2)
        clear HBB ht hs hl
        go_wp2_with fail
        go_meet
        exact⟨by rw[unhide BV],rfl⟩
      ·have s0:(sq != x5)=true:=by simpa using hs
       have BV:Hid (bb=true):=by rw[unhide HBB];exact decide_eq_true (fun h=>hs (h.1 ht))
       clear HBB ht hs
       go_wp2_with fail
       go_meet
       exact⟨by rw[unhide BV],rfl⟩
     ·have t1:¬ (L.h.tail:Int)<(a:Int):=by omega
      by_cases hl:a+1+n≤en
      ·have l1:(a:Int)+1+(n:Int)≤(en:Int):=by omega
       have BV:Hid (bb=false):=by rw[unhide HBB];exact decide_eq_false (fun h=>h ⟨fun h2=>absurd h2 ht,hl⟩)
       clear HBB ht hl
       go_wp2_with fail
       go_meet
       exact⟨by rw[unhide BV];congr 1;exact decide_eq_false (by omega),rfl⟩
      ·have l1:(en:Int)<(a:Int)+1+(n:Int):=by omega
       have BV:Hid (bb=true):=by rw[unhide HBB];exact decide_eq_true (fun h=>hl h.2)
       clear HBB ht hl
       go_wp2_with fail
       go_meet
       exact⟨by rw[unhide BV],rfl⟩
    case rest =>
     obtain⟨rfl,rfl⟩:=hcut
     clear m3 m4
     by_cases hgd:(L.h.tail<a→sq=x5)∧a+1+n≤en
     ·have BV:bb=false:=by rw[unhide HBB];exact decide_eq_false (fun h=>h hgd)
      rw[BV]
      have KG2:=hide (unhide KG hgd.1 hgd.2)
      have HLE:=hide hgd.2
      clear KG HBB BV RB hgd XX
      have HA:Hid (a≤en∧a≠en∧en≤2000):=⟨hae,unhide HE,hee⟩
      have hal:a≤2000:=by omega
      clear HE hae hee
      go_wp2_with fail
      go_loopw [75] (fun i wr=>∃ k:Nat,k≤n∧i=.int .i64 (k:Int)∧Hid (RP w S g dg P G L D en R a Q ns gr k wr)) (fun i _=>n - (intOf i).toNat)
      case atStart=>exact⟨0,Nat.zero_le _,rfl,P0⟩
      case round =>
       obtain⟨k,hk,rfl,hP⟩:=hrel
       clear P0
       by_cases hlt:k<n
       ·obtain⟨b,x1,d0,kr,mb,m6,kw⟩:=unhide KS _ _ (unhide hP) hlt
        have KR:=hide kr
        have KW:=hide kw
        obtain⟨s1,s2⟩:=rp_nums2 a k hal (by omega)
        clear KS KG2 hP kr kw
        generalize a+1=a1 at *
        generalize a1+k=a2 at *
        go_upto_region 15 with fail
        go_cut [8] (fun c wx=>c=.int .i64 0∧Hid (RP w S g dg P G L D en R a Q ns gr (k+1) wx))
        case first =>
         clear hk hlt hal hns HA HLE
         go_region_with (first
          | (go_at_call 128;refine(unhide KR).mono ?_;rintro e u2 ⟨rfl,q,rfl⟩)
          | (go_at_call 125;refine(unhide (unhide KW _ (below_drewN (Below.refl _ wr) _))).mono ?_;rintro e u3 ⟨r,rfl,m7,u4,r4,Z⟩))
         all_goals
          go_wp2_with fail
          go_meet
          exact⟨rfl,Z⟩
        case rest =>
         obtain⟨rfl,Z⟩:=hcut
         clear KR KW x1 d0 m6 s1 s2
         go_wp2_with fail
         go_roundw
         case rel=>exact⟨k+1,by omega,by go_num,Z⟩
         case measure=>simp[intOf];omega
       ·have ek:k=n:=by omega
        rw[ek] at hP
        obtain⟨S',Z⟩:=unhide KG2 _ (unhide hP)
        have Z2:=hide Z
        have HSB:=hsb
        clear KS KG2 hP Z
        go_wp2_with fail
        go_step3
        have hA:=unhide HA
        have hB:=unhide HSB
        have hC:=unhide HLE
        have h4:(256:Int) ^ 4=4294967296:=by decide
        rw[h4] at hB
        refine⟨rfl,RqJ.mk (unhide Z2) ⟨?_,rfl,?_⟩,?_⟩
        ·first
          | omega
          | (unfold wrap64;omega)
        ·first
          | omega
          | (unfold wrap64;omega)
        ·simp[rqMu,intOf]
         first
          | omega
          | (unfold wrap64;omega)
     ·have BV:bb=true:=by rw[unhide HBB];exact decide_eq_true hgd
      rw[BV]
      have RR:=hide (unhide RB hgd)
      clear KG KS P0 HBB BV RB hgd
      go_wp2_with fail
      simp only[Exit.jump]
      go_ret
      exact⟨Q,XX,.inl ⟨unhide RR,rfl⟩⟩
   ·have XX:Hid (∃ S',Lv u1 S' g dg P G (L.at Q) D∧Nx S w S' u1):=⟨Su,(unhide HQ).lv.below hb1,(unhide HQ).nxx.below' hb1⟩
    have RR:Hid (R=none):=(unhide HQ).bad (unhide HE) (fun hk=>bad hk.1)
    clear X hb1 bad HQ HL
    go_wp2_with fail
    simp only[Exit.jump]
    go_ret
    exact⟨Q,XX,.inl ⟨unhide RR,rfl⟩⟩
 ·intro N
  have N1:=hide N
  clear N
  go_upto_region 1 with fail
  go_quiet (fail)
  go_wp2_with fail
  go_step3
  rename_i hK
  refine hK _ _ ?_
  exact unhide N1 _ _ (RqJ.mk (unhide Q0 _ (below_drewN (Below.refl _ w) _)) ⟨rfl,rfl,rfl⟩)

def Lg.new:Lg:=⟨⟨0,0,0⟩,fun _=>none,false⟩

theorem open_laid {w w1:World}{Sd:Nat→Prop}{dg:Nat}{D:Dev}{P:Nat→Int}{G:Geo}(hP:PG P G)(hD:Dv w Sd dg D)(bd:D.blk=G.blk)(nd:D.n=G.n)(hT:Tab w)(h0:¬ Sd 0)(hb:Below w.heap.size w w1) :
  ∃ S,Lv ((w1.alloc (.map #[] 0)).alloc (.cells #[.pointer (some ⟨dg,0,none⟩),.int .i64 (P 0),.int .i64 (P 1),.int .i64 (P 2),.int .i64 (P 3),.int .i64 (P 4),.int .i64 (P 5),.int .i64 (P 6),.int .i64 (P 7),.int .i64 (P 8),.int .i64 (P 9),.int .i64 (P 10),.int .i64 (P 11),.int .i64 0,.int .i64 0,.int .i64 0,.map (some w1.heap.size),.bool false] 137)) S (w1.heap.size+1) dg P G Lg.new D∧Nx Sd w S ((w1.alloc (.map #[] 0)).alloc (.cells #[.pointer (some ⟨dg,0,none⟩),.int .i64 (P 0),.int .i64 (P 1),.int .i64 (P 2),.int .i64 (P 3),.int .i64 (P 4),.int .i64 (P 5),.int .i64 (P 6),.int .i64 (P 7),.int .i64 (P 8),.int .i64 (P 9),.int .i64 (P 10),.int .i64 (P 11),.int .i64 0,.int .i64 0,.int .i64 0,.map (some w1.heap.size),.bool false] 137)):=by
 have hs:=hb.size
 have h0w:=hT.lt
 have b1:Below w1.heap.size w1 (w1.alloc (.map #[] 0)):=(Below.refl _ _).alloc (Nat.le_refl _) _
 have z1:(w1.alloc (.map #[] 0)).heap.size=w1.heap.size+1:=by simp
 have b2:Below (w1.alloc (.map #[] 0)).heap.size (w1.alloc (.map #[] 0)) ((w1.alloc (.map #[] 0)).alloc (.cells #[.pointer (some ⟨dg,0,none⟩),.int .i64 (P 0),.int .i64 (P 1),.int .i64 (P 2),.int .i64 (P 3),.int .i64 (P 4),.int .i64 (P 5),.int .i64 (P 6),.int .i64 (P 7),.int .i64 (P 8),.int .i64 (P 9),.int .i64 (P 10),.int .i64 (P 11),.int .i64 0,.int .i64 0,.int .i64 0,.map (some w1.heap.size),.bool false] 137)):=(Below.refl _ _).alloc (Nat.le_refl _) _
 have z2:((w1.alloc (.map #[] 0)).alloc (.cells #[.pointer (some ⟨dg,0,none⟩),.int .i64 (P 0),.int .i64 (P 1),.int .i64 (P 2),.int .i64 (P 3),.int .i64 (P 4),.int .i64 (P 5),.int .i64 (P 6),.int .i64 (P 7),.int .i64 (P 8),.int .i64 (P 9),.int .i64 (P 10),.int .i64 (P 11),.int .i64 0,.int .i64 0,.int .i64 0,.map (some w1.heap.size),.bool false] 137)).heap.size=w1.heap.size+2:=by simp
 have b3:Below w.heap.size w ((w1.alloc (.map #[] 0)).alloc (.cells #[.pointer (some ⟨dg,0,none⟩),.int .i64 (P 0),.int .i64 (P 1),.int .i64 (P 2),.int .i64 (P 3),.int .i64 (P 4),.int .i64 (P 5),.int .i64 (P 6),.int .i64 (P 7),.int .i64 (P 8),.int .i64 (P 9),.int .i64 (P 10),.int .i64 (P 11),.int .i64 0,.int .i64 0,.int .i64 0,.map (some w1.heap.size),.bool false] 137)):=(hb.trans (b1.mono hs)).trans (b2.mono (by omega))
 have str:=World.rowIs_alloc (w1.alloc (.map #[] 0)) #[.pointer (some ⟨dg,0,none⟩),.int .i64 (P 0),.int .i64 (P 1),.int .i64 (P 2),.int .i64 (P 3),.int .i64 (P 4),.int .i64 (P 5),.int .i64 (P 6),.int .i64 (P 7),.int .i64 (P 8),.int .i64 (P 9),.int .i64 (P 10),.int .i64 (P 11),.int .i64 0,.int .i64 0,.int .i64 0,.map (some w1.heap.size),.bool false] 137 (gcell dg P Lg.new ⟨w1.heap.size,fun _=>(0,0)⟩) (fun i hi=>by
  have h18:i<18:=by simpa using hi
  have:i=0∨i=1∨i=2∨i=3∨i=4∨i=5∨i=6∨i=7∨i=8∨i=9∨i=10∨i=11∨i=12∨i=13∨i=14∨i=15∨i=16∨i=17:=by omega
  rcases this with rfl | rfl | rfl | rfl | rfl | rfl | rfl | rfl | rfl | rfl | rfl | rfl | rfl | rfl | rfl | rfl | rfl | rfl<;>rfl)
 rw[z1] at str
 have mp:MapB ((w1.alloc (.map #[] 0)).alloc (.cells #[.pointer (some ⟨dg,0,none⟩),.int .i64 (P 0),.int .i64 (P 1),.int .i64 (P 2),.int .i64 (P 3),.int .i64 (P 4),.int .i64 (P 5),.int .i64 (P 6),.int .i64 (P 7),.int .i64 (P 8),.int .i64 (P 9),.int .i64 (P 10),.int .i64 (P 11),.int .i64 0,.int .i64 0,.int .i64 0,.map (some w1.heap.size),.bool false] 137)) G.blk w1.heap.size G.n (fun _=>none):=(MapB.made w1 G.blk G.n).kept (b2.block _ (by omega))
 have hd:=hD.below b3
 have hTb:=hT.kept (b3.block 0 h0w)
 generalize ((w1.alloc (.map #[] 0)).alloc (.cells #[.pointer (some ⟨dg,0,none⟩),.int .i64 (P 0),.int .i64 (P 1),.int .i64 (P 2),.int .i64 (P 3),.int .i64 (P 4),.int .i64 (P 5),.int .i64 (P 6),.int .i64 (P 7),.int .i64 (P 8),.int .i64 (P 9),.int .i64 (P 10),.int .i64 (P 11),.int .i64 0,.int .i64 0,.int .i64 0,.map (some w1.heap.size),.bool false] 137))=u at *
 have ll:LgM u (fun k=>w1.heap.size≤k∧k<u.heap.size) (w1.heap.size+1) dg P G Lg.new ⟨w1.heap.size,fun _=>(0,0)⟩ :=
  ⟨str,mp.congr (fun k hk=>rfl),(fun b z hb' e=>by cases e),⟨by omega,by omega⟩,⟨Nat.le_refl _,by show w1.heap.size<_;omega⟩,fun k hk=>hk.2,hP,⟨by show 0≤4294967295;omega,by show 0<G.lg;have:=hP.ok.l1;omega,Nat.zero_le _⟩⟩
 refine⟨fun k=>(w1.heap.size≤k∧k<u.heap.size)∨Sd k,⟨_,Sd,_,ll,hd,fun k hk hs'=>by have:=hD.lt hs';omega,fun k=>Iff.rfl,bd,nd,hTb,fun h=>?_⟩,⟨⟨b3.os,b3.tape,b3.output,b3.size,fun k hk _=>b3.block k hk⟩,fun k hk h=>?_⟩⟩
 ·rcases h with h | h
  ·omega
  ·exact h0 h
 ·rcases h with h | h
  ·omega
  ·exact h

def OpA (P:Nat→Int) (G:Geo) (D:Dev) (dg:Nat) (w:World) (Sd:Nat→Prop) (w':World) (e:Ending):Prop :=
 ∃ S',Nx Sd w S' w'∧((D.dead=true∧e=.returned (.tuple #[.pointer none,.int .i64 7])∧∃ S2,Dv w' S2 dg D∧Nx Sd w S2 w')∨(D.dead=false∧parse G D.rd=none∧e=.returned (.tuple #[.pointer none,.int .i64 9])∧∃ S2,Dv w' S2 dg D∧Nx Sd w S2 w') ∨
  (D.dead=false∧∃ L g,parse G D.rd=some L∧e=.returned (.tuple #[.pointer (some ⟨g,0,none⟩),.int .i64 0])∧Lv w' S' g dg P G L D))

theorem Lv.dv {u:World}{S:Nat→Prop}{g dg:Nat}{P:Nat→Int}{G:Geo}{L:Lg}{D:Dev}(h:Lv u S g dg P G L D){Sd:Nat→Prop}{w:World}(hx:Nx Sd w S u):∃ S2,Dv u S2 dg D∧Nx Sd w S2 u:=by
 obtain⟨Sl,S2,m,x⟩:=h
 exact⟨S2,x.dd,⟨hx.fr,fun k hk h2=>hx.sub k hk ((x.all k).2 (.inr h2))⟩⟩

theorem parse_bad {G:Geo}{rd:Nat→List Int}(h:¬ (hdIs (rd 1)∧(hdOf (rd 1)).tail<G.lg∧(hdOf (rd 1)).used≤G.lg)):parse G rd=none:=by
 unfold parse
 rw[if_neg h]

theorem parse_ok {G:Geo}{rd:Nat→List Int}(h:hdIs (rd 1)∧(hdOf (rd 1)).tail<G.lg∧(hdOf (rd 1)).used≤G.lg):parse G rd=(goP G rd ((hdOf (rd 1)).seq:Int) (hdOf (rd 1)).tail ((hdOf (rd 1)).tail+(hdOf (rd 1)).used) 600 (hdOf (rd 1)).tail ((hdOf (rd 1)).seq:Int) (fun _=>none)).map (fun Q=>⟨hdOf (rd 1),Q,false⟩):=by
 unfold parse
 rw[if_pos h]

theorem open_any (P:Nat→Int)(G:Geo)(dg:Nat)(Sd:Nat→Prop)(D:Dev)(w:World)(hP:PG P G)(hD:Dv w Sd dg D)(bd:D.blk=G.blk)(nd:D.n=G.n)(hT:Tab w)(h0:¬ Sd 0) :
  Calls Tryz.prog 27 #[.pointer (some ⟨dg,0,none⟩),Pv P] w fun e w'=>Hid (OpA P G D dg w Sd w' e):=by
 have K1:Hid (∀ u,Below w.heap.size w u→Calls Tryz.prog 70 #[.pointer (some ⟨dg,0,none⟩),Pv P] u fun e w'=>e=.returned (.int .i64 0)∧Below u.heap.size u w'):=fun u hu=>refuses_good P G dg Sd D u hP (hD.below hu) bd nd
 have K2:Hid (∀ w1,Below w.heap.size w w1→∃ S,Lv ((w1.alloc (.map #[] 0)).alloc (.cells #[.pointer (some ⟨dg,0,none⟩),.int .i64 (P 0),.int .i64 (P 1),.int .i64 (P 2),.int .i64 (P 3),.int .i64 (P 4),.int .i64 (P 5),.int .i64 (P 6),.int .i64 (P 7),.int .i64 (P 8),.int .i64 (P 9),.int .i64 (P 10),.int .i64 (P 11),.int .i64 0,.int .i64 0,.int .i64 0,.map (some w1.heap.size),.bool false] 137)) S (w1.heap.size+1) dg P G Lg.new D∧Nx Sd w S ((w1.alloc (.map #[] 0)).alloc (.cells #[.pointer (some ⟨dg,0,none⟩),.int .i64 (P 0),.int .i64 (P 1),.int .i64 (P 2),.int .i64 (P 3),.int .i64 (P 4),.int .i64 (P 5),.int .i64 (P 6),.int .i64 (P 7),.int .i64 (P 8),.int .i64 (P 9),.int .i64 (P 10),.int .i64 (P 11),.int .i64 0,.int .i64 0,.int .i64 0,.map (some w1.heap.size),.bool false] 137))):=fun w1 hb=>open_laid hP hD bd nd hT h0 hb
 have HK:=hide (Kp.start w P)
 have hmk:=@run_makeMap Tryz.prog
 clear hP hD bd nd hT h0
 by_cases hd:D.dead=true
 ·have K3:Hid (∀ u S g,Lv u S g dg P G Lg.new D→Nx Sd w S u→Calls Tryz.prog 72 #[.pointer (some ⟨g,0,none⟩)] u fun e w'=>e=.returned (.int .i64 7)∧Hid (∀ e',e'=.returned (.tuple #[.pointer none,.int .i64 7])→OpA P G D dg w Sd w' e')):=fun u S g hl hx=>by
   refine(readHeader_dead g dg S P G Lg.new D u hl hd).mono ?_
   rintro e w' ⟨rfl,hb⟩
   exact⟨rfl,fun e' he=>⟨S,hx.below' hb,.inl ⟨hd,he,(hl.below hb).dv (hx.below' hb)⟩⟩⟩
  clear hd
  go_enter Tryz.func27,Tryz.ntmps27
  go_wp2_with fail
  go_at_call 70
  refine(unhide K1 _ (unhide HK).2).mono ?_
  rintro e w1 ⟨rfl,hb⟩
  replace HK:=hide ((unhide HK).call hb)
  clear hb K1
  obtain⟨f0,f1,f2,f3,f4,f5,f6,f7,f8,f9,f10,f11⟩:=(unhide HK).cells
  obtain⟨S1,l1,n1⟩:=unhide K2 _ (unhide HK).2
  have K4:=hide (unhide K3 _ _ _ l1 n1)
  clear K2 K3 l1 n1 HK
  go_wp2_with fail
  go_at_call 72
  refine(unhide K4).mono ?_
  rintro e w2 ⟨rfl,X⟩
  clear K4 f0 f1 f2 f3 f4 f5 f6 f7 f8 f9 f10 f11
  go_wp2_with fail
  go_ret2
  exact unhide X _ rfl
 ·replace hd:D.dead=false:=by simpa using hd
  by_cases hh:hdIs (D.rd 1)∧(hdOf (D.rd 1)).tail<G.lg∧(hdOf (D.rd 1)).used≤G.lg
  ·have hp:=parse_ok (G:=G) (rd:=D.rd) hh
   have K3:Hid (∀ u S g,Lv u S g dg P G Lg.new D→Nx Sd w S u→Calls Tryz.prog 72 #[.pointer (some ⟨g,0,none⟩)] u fun e w'=>e=.returned (.int .i64 0)∧Hid (Calls Tryz.prog 73 #[.pointer (some ⟨g,0,none⟩)] w' fun e w2=>∃ q:Int,e=.returned (.int .i64 q)∧((q=9∧Hid (∀ e',e'=.returned (.tuple #[.pointer none,.int .i64 9])→OpA P G D dg w Sd w2 e'))∨(q=0∧Hid (∀ e',e'=.returned (.tuple #[.pointer (some ⟨g,0,none⟩),.int .i64 0])→OpA P G D dg w Sd w2 e'))))):=fun u S g hl hx=>by
    refine(readHeader_good g dg S P G Lg.new D u hl hd hh.1 hh.2.1 hh.2.2).mono ?_
    rintro e w' ⟨rfl,S',l1,n1⟩
    refine⟨rfl,(readParts_any g dg S' P G _ D w' l1 hd _ rfl).mono ?_⟩
    rintro e w2 ⟨Q',X,(⟨hr,rfl⟩ | ⟨hr,rfl⟩)⟩
    ·obtain⟨S2,l2,n2⟩:=unhide X
     have hx2:=(hx.trans n1).trans n2
     refine⟨9,rfl,.inl ⟨rfl,fun e' he=>⟨S2,hx2,.inr (.inl ⟨hd,?_,he,l2.dv hx2⟩)⟩⟩⟩
     rw[hp]
     have hr2:goP G D.rd ((hdOf (D.rd 1)).seq:Int) (hdOf (D.rd 1)).tail ((hdOf (D.rd 1)).tail+(hdOf (D.rd 1)).used) 600 (hdOf (D.rd 1)).tail ((hdOf (D.rd 1)).seq:Int) (fun _=>none)=none:=hr
     rw[hr2]
     rfl
    ·obtain⟨S2,l2,n2⟩:=unhide X
     have hx2:=(hx.trans n1).trans n2
     refine⟨0,rfl,.inr ⟨rfl,fun e' he=>⟨S2,hx2,.inr (.inr ⟨hd,_,g,?_,he,l2⟩)⟩⟩⟩
     rw[hp]
     have hr2:goP G D.rd ((hdOf (D.rd 1)).seq:Int) (hdOf (D.rd 1)).tail ((hdOf (D.rd 1)).tail+(hdOf (D.rd 1)).used) 600 (hdOf (D.rd 1)).tail ((hdOf (D.rd 1)).seq:Int) (fun _=>none)=some Q':=hr
     rw[hr2]
     rfl
   clear hd hh hp
   go_enter Tryz.func27,Tryz.ntmps27
   go_wp2_with fail
   go_at_call 70
   refine(unhide K1 _ (unhide HK).2).mono ?_
   rintro e w1 ⟨rfl,hb⟩
   replace HK:=hide ((unhide HK).call hb)
   clear hb K1
   obtain⟨f0,f1,f2,f3,f4,f5,f6,f7,f8,f9,f10,f11⟩:=(unhide HK).cells
   obtain⟨S1,l1,n1⟩:=unhide K2 _ (unhide HK).2
   have K4:=hide (unhide K3 _ _ _ l1 n1)
   clear K2 K3 l1 n1 HK
   go_wp2_with fail
   go_at_call 72
   refine(unhide K4).mono ?_
   rintro e w2 ⟨rfl,K5⟩
   clear K4 f0 f1 f2 f3 f4 f5 f6 f7 f8 f9 f10 f11
   go_wp2_with fail
   go_at_call 73
   refine(unhide K5).mono ?_
   rintro e w3 ⟨q,rfl,(⟨rfl,X⟩ | ⟨rfl,X⟩)⟩
   ·clear K5
    go_wp2_with fail
    go_ret2
    exact unhide X _ rfl
   ·clear K5
    go_wp2_with fail
    go_ret2
    exact unhide X _ rfl
  ·have hp:=parse_bad (G:=G) (rd:=D.rd) hh
   have K3:Hid (∀ u S g,Lv u S g dg P G Lg.new D→Nx Sd w S u→Calls Tryz.prog 72 #[.pointer (some ⟨g,0,none⟩)] u fun e w'=>e=.returned (.int .i64 9)∧Hid (∀ e',e'=.returned (.tuple #[.pointer none,.int .i64 9])→OpA P G D dg w Sd w' e')):=fun u S g hl hx=>by
    refine(readHeader_bad g dg S P G Lg.new D u hl hd hh).mono ?_
    rintro e w' ⟨rfl,hb⟩
    exact⟨rfl,fun e' he=>⟨S,hx.below' hb,.inr (.inl ⟨hd,hp,he,(hl.below hb).dv (hx.below' hb)⟩)⟩⟩
   clear hd hh hp
   go_enter Tryz.func27,Tryz.ntmps27
   go_wp2_with fail
   go_at_call 70
   refine(unhide K1 _ (unhide HK).2).mono ?_
   rintro e w1 ⟨rfl,hb⟩
   replace HK:=hide ((unhide HK).call hb)
   clear hb K1
   obtain⟨f0,f1,f2,f3,f4,f5,f6,f7,f8,f9,f10,f11⟩:=(unhide HK).cells
   obtain⟨S1,l1,n1⟩:=unhide K2 _ (unhide HK).2
   have K4:=hide (unhide K3 _ _ _ l1 n1)
   clear K2 K3 l1 n1 HK
   go_wp2_with fail
   go_at_call 72
   refine(unhide K4).mono ?_
   rintro e w2 ⟨rfl,X⟩
   clear K4 f0 f1 f2 f3 f4 f5 f6 f7 f8 f9 f10 f11
   go_wp2_with fail
   go_ret2
   exact unhide X _ rfl

theorem hd_back {G:Geo}(hG:G.Ok){h:Hd}(hh:h.Ok G):hdIs (hdB G h)∧hdOf (hdB G h)=h:=by
 have hf:=hdF hG hh
 have hb:=hdr_back hf G.blk
 have hl:=hdB_len (h:=h) hG
 refine⟨⟨by rw[hl];exact hG.size,?_⟩,?_⟩
 ·rw[hl]
  have:=hdrH_congr hb
  unfold hdB
  rw[this]
 ·simp only[Hv,Value.agg.injEq,Array.mk.injEq,List.cons.injEq,Value.int.injEq,true_and,and_true] at hb
  obtain⟨h0,h1,h2⟩:=hb
  unfold hdOf hdB
  rw[h0,h1,h2]
  show Hd.mk ((h.seq:Int)).toNat ((h.tail:Int)).toNat ((h.used:Int)).toNat=h
  simp

def sL:Lg:=⟨hd1,fun _=>none,false⟩

end Go.Proofs.YtokngjcfkkceiaaGreatDoor
