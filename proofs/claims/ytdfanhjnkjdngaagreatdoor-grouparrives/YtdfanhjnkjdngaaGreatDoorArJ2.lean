/- Joined: GApartF, GApp, GCheck, GI. -/
import Derived.Test.YtdfanhjnkjdngaaGreatDoorArJ1
/- The contract of skerryref01.BytesApart, with a narrower frame (written by tools/gen_gapartf.py out of GApart). -/
namespace Go.Proofs.YtdfanhjnkjdngaaGreatDoor.FA
set_option maxRecDepth 100000
set_option maxHeartbeats 8000000
open Go.RowKit Go.Shelf
set_option linter.unusedVariables false

def T (S:Lists) (k:Nat):Prop:=∃ p,p < S.N∧S.A p=some ⟨k,0,none⟩

end Go.Proofs.YtdfanhjnkjdngaaGreatDoor.FA

/- An append of bytes to a row of the call's own, from whatever source. -/
namespace Go.Proofs.YtdfanhjnkjdngaaGreatDoor
set_option maxRecDepth 100000
set_option maxHeartbeats 8000000
open Go.RowKit Go.Shelf
set_option linter.unusedVariables false

theorem Own.owns {B:Nat} {w:World} {a:Option Addr} {n c:Nat} {xs:List Int} (h:Own B w a n c xs):w.ownsRow B 5 1 (.slice a n c) n (xs.map (Value.int .u8)):=by
 obtain ⟨h1,h2,h3,h4⟩:=h
 refine ⟨by simp [h1],?_⟩
 rcases h4 with ⟨rfl,rfl,rfl⟩ | ⟨g,cur,rfl,hg,hh,hc,ht⟩
 ·exact .inl ⟨rfl,rfl⟩
 ·exact .inr ⟨g,c,cur,rfl,hg,hh,h2,h3,by simpa using hc,by simpa using ht⟩

theorem Own.of_owns {B:Nat} {w:World} {v:Value} {n:Nat} {xs:List Int} (h:w.ownsRow B 5 1 v n (xs.map (Value.int .u8))):∃ a c,v=.slice a n c∧Own B w a n c xs:=by
 obtain ⟨h1,h2⟩:=h
 have hl:xs.length=n:=by simpa using h1
 rcases h2 with ⟨rfl,rfl⟩ | ⟨g,cap,cur,rfl,hg,hh,h2,h3,hc,ht⟩
 ·exact ⟨none,0,rfl,hl,Nat.le_refl _,by unfold maxLen; omega,.inl ⟨rfl,rfl,rfl⟩⟩
 ·exact ⟨_,cap,rfl,hl,h2,h3,.inr ⟨g,cur,rfl,hg,hh,by simpa using hc,by simpa using ht⟩⟩

theorem Own.has {B:Nat} {w:World} {a:Option Addr} {n c:Nat} {xs:List Int} (h:Own B w a n c xs):Has w a n xs:=by
 refine ⟨h.1,fun hp=>?_⟩
 obtain ⟨g,e,_,_,_⟩:=h.cell (j:=0) hp
 refine ⟨g,0,e,fun j hj=>?_⟩
 obtain ⟨g',e',_,hc,_⟩:=h.cell hj
 rw [e] at e'
 cases e'
 rw [Nat.zero_add]
 exact hc

theorem run_append_nothing (w:World) (ty:TypeId) (a a2:Option Addr) (n c c2:Nat) (hn:n ≤ c) (ha:a=none→n=0∧c=0):(Builtin.append_ #[50,50] ty #[.slice a n c,.slice a2 0 c2]).run Tryz.prog w=.ok (.slice a n c) w:=by
 obtain ⟨i0,hi,hz0,hz1,hz2⟩:=info_parts info5
 cases a with
 | none =>
  obtain ⟨rfl,rfl⟩:=ha rfl
  cases a2 <;> simp [Builtin.append_,run_underlying Tryz.underlying50,sizeOf,typeInfo,hi,Builtin.lenOf,Builtin.firstCells,loadCells,loadCellsFrom]
 | some x=>cases a2 <;> simp [Builtin.append_,run_underlying Tryz.underlying50,sizeOf,typeInfo,hi,Builtin.lenOf,Builtin.firstCells,storeCells,loadCells,loadCellsFrom,hn]

theorem run_append_bytes {B:Nat} {w:World} {a:Option Addr} {n c:Nat} {xs:List Int} (h:Own B w a n c xs) (hB:B ≤ w.heap.size) {a2:Option Addr} {m:Nat} {ys:List Int} (c2:Nat) (h2:Has w a2 m ys) (hn:n + m ≤ 140737488355328) :
  ∃ a' c' w',(∀ ty,(Builtin.append_ #[50,50] ty #[.slice a n c,.slice a2 m c2]).run Tryz.prog w=.ok (.slice a' (n + m) c') w')∧Own B w' a' (n + m) c' (xs ++ ys) ∧
   (∀ k,k < w.heap.size→(∀ g,a=some ⟨g,0,none⟩→k ≠ g)→w'.heap[k]?=w.heap[k]?)∧Below B w w':=by
 obtain ⟨i0,hi,hz0,hz1,hz2⟩:=info_parts info5
 by_cases h0:m=0
 ·subst h0
  obtain rfl:ys=[]:=List.eq_nil_of_length_eq_zero h2.1
  refine ⟨a,c,w,fun ty=>run_append_nothing w ty a a2 n c c2 h.2.1 (fun e=>?_),by rw [List.append_nil]; exact h,fun _ _ _=>rfl,Below.refl _ _⟩
  rcases h.2.2.2 with ⟨_,e1,e2⟩ | ⟨g,_,e',_⟩
  ·exact ⟨e1,e2⟩
  ·rw [e] at e'; cases e'
 ·obtain ⟨b,off,rfl,hc⟩:=h2.2 (by omega)
  have hl:=h2.1
  have hnews:∀ (j:Nat) (u:Value),(ys.map (Value.int .u8))[j]?=some u→w.cell? ((⟨b,off,none⟩:Addr).add j)=some u:=by
   intro j u hj
   have hjl:j < m:=by have:=(List.getElem?_eq_some_iff.1 hj).1; simp at this; omega
   rw [World.add_zero_spot,hc j hjl]
   rw [List.getElem?_map,List.getElem?_eq_getElem (by omega)] at hj
   rw [List.getElem?_eq_getElem (by omega)]
   simpa using hj
  have hmax:n + m ≤ maxLen:=by unfold maxLen; omega
  obtain ⟨v',w',hr,ho,hg,_⟩:=run_append_own (P:=Tryz.prog) w B 50 0 5 i0 (.int .u8 0) 1 1 Tryz.underlying50 hi hz0 hz1 hz2 rfl (by decide) (.slice a n c) n _ h.owns ⟨b,off,none⟩ m c2 (ys.map (Value.int .u8)) (by simp [hl]) hnews (oneCell_bytes ys) hmax (by omega) hB
  rw [← List.map_append] at ho
  obtain ⟨a',c',rfl,ho'⟩:=Own.of_owns ho
  refine ⟨a',c',w',fun ty=>hr,ho',fun k hk hne=>?_,?_⟩
  ·refine hg.block k hk (fun e=>?_)
   rcases h.2.2.2 with ⟨ha,_,_⟩ | ⟨g,_,ha,_⟩
   ·rw [ha] at e; simp [Value.ownBlock] at e
   ·rw [ha] at e
    simp [Value.ownBlock] at e
    exact hne g ha e
  ·refine (Below.refl B w).grown hg hB (fun k e=>?_)
   rcases h.2.2.2 with ⟨ha,_,_⟩ | ⟨g,_,ha,hgB,_⟩
   ·rw [ha] at e; simp [Value.ownBlock] at e
   ·rw [ha] at e
    simp [Value.ownBlock] at e
    omega

end Go.Proofs.YtdfanhjnkjdngaaGreatDoor

/- Contracts of field.checkPart and field.checkNumber. -/
namespace Go.Proofs.YtdfanhjnkjdngaaGreatDoor
set_option maxRecDepth 100000
set_option maxHeartbeats 8000000
open Go.RowKit Go.Shelf
set_option linter.unusedVariables false

def partErr (len:Nat) (at' n:Int):Int:=if n < 0 then 1 else if at' < 0 then 2 else if (len:Int) - at' < n then 2 else 0

def numErr (len:Nat) (at' n:Int):Int:=if n=1 then partErr len at' n else if n=2 then partErr len at' n else if n=4 then partErr len at' n else 1

theorem partErr_arg {len:Nat} {at' n:Int} (h:n < 0):partErr len at' n=1:=by unfold partErr; rw [if_pos h]

theorem partErr_neg {len:Nat} {at' n:Int} (h:0 ≤ n) (h2:at' < 0):partErr len at' n=2:=by unfold partErr; rw [if_neg (by omega),if_pos h2]

theorem partErr_far {len:Nat} {at' n:Int} (h:0 ≤ n) (h2:0 ≤ at') (h3:(len:Int) - at' < n):partErr len at' n=2:=by unfold partErr; rw [if_neg (by omega),if_neg (by omega),if_pos h3]

theorem partErr_ok {len:Nat} {at' n:Int} (h:0 ≤ n) (h2:0 ≤ at') (h3:n ≤ (len:Int) - at'):partErr len at' n=0:=by unfold partErr; rw [if_neg (by omega),if_neg (by omega),if_neg (by omega)]

theorem checkPart_any (a:Option Addr) (len cap:Nat) (at' n:Int) (w:World) (hl:len ≤ maxLen) (ha:at' ≤ 9223372036854775807) (hn:-9223372036854775808 ≤ n) :
  Calls Tryz.prog 306 #[.slice a len cap,.int .i64 at',.int .i64 n] w fun e w'=>e=.returned (.int .i64 (partErr len at' n))∧w=w':=by
 unfold maxLen at hl
 by_cases h1:n < 0
 ·rw [partErr_arg h1]
  go_enter Tryz.func306,Tryz.ntmps306
  go_wp2
  go_ret
  exact ⟨rfl,rfl⟩
 by_cases h2:at' < 0
 ·rw [partErr_neg (by omega) h2]
  go_enter Tryz.func306,Tryz.ntmps306
  go_wp2
  go_ret
  exact ⟨rfl,rfl⟩
 by_cases h3:(len:Int) - at' < n
 ·rw [partErr_far (by omega) (by omega) h3]
  go_enter Tryz.func306,Tryz.ntmps306
  go_wp2
  go_ret
  exact ⟨rfl,rfl⟩
 ·rw [partErr_ok (by omega) (by omega) (by omega)]
  go_enter Tryz.func306,Tryz.ntmps306
  go_wp2
  go_ret
  exact ⟨rfl,rfl⟩

theorem checkNumber_any (a:Option Addr) (len cap:Nat) (at' n:Int) (w:World) (hl:len ≤ maxLen) (ha:at' ≤ 9223372036854775807) :
  Calls Tryz.prog 301 #[.slice a len cap,.int .i64 at',.int .i64 n] w fun e w'=>e=.returned (.int .i64 (numErr len at' n))∧w=w':=by
 unfold numErr
 by_cases h1:n=1
 ·subst h1
  rw [if_pos rfl]
  go_enter Tryz.func301,Tryz.ntmps301
  go_wp2_with (go_at_call 306; refine (checkPart_any _ _ _ _ _ _ hl ha (by omega)).mono ?_; rintro e w' ⟨rfl,rfl⟩)
  go_ret
  exact ⟨rfl,rfl⟩
 by_cases h2:n=2
 ·subst h2
  rw [if_neg (by omega),if_pos rfl]
  go_enter Tryz.func301,Tryz.ntmps301
  go_wp2_with (go_at_call 306; refine (checkPart_any _ _ _ _ _ _ hl ha (by omega)).mono ?_; rintro e w' ⟨rfl,rfl⟩)
  go_ret
  exact ⟨rfl,rfl⟩
 by_cases h4:n=4
 ·subst h4
  rw [if_neg (by omega),if_neg (by omega),if_pos rfl]
  go_enter Tryz.func301,Tryz.ntmps301
  go_wp2_with (go_at_call 306; refine (checkPart_any _ _ _ _ _ _ hl ha (by omega)).mono ?_; rintro e w' ⟨rfl,rfl⟩)
  go_ret
  exact ⟨rfl,rfl⟩
 ·rw [if_neg h1,if_neg h2,if_neg h4]
  have e1:(n == 1)=false:=by simpa using h1
  have e2:(n == 2)=false:=by simpa using h2
  have e4:(n == 4)=false:=by simpa using h4
  go_enter Tryz.func301,Tryz.ntmps301
  go_wp2_with fail
  go_ret
  exact ⟨rfl,rfl⟩

theorem numErr_cases (len:Nat) (at' n:Int):numErr len at' n=1 ∨ numErr len at' n=2 ∨ (numErr len at' n=0∧∃ at0 wd:Nat,at'=at0∧n=wd∧(wd=1 ∨ wd=2 ∨ wd=4)∧at0 + wd ≤ len):=by
 have hp:∀ n:Int,n=1 ∨ n=2 ∨ n=4→partErr len at' n=2 ∨ (partErr len at' n=0∧∃ at0 wd:Nat,at'=at0∧n=wd∧(wd=1 ∨ wd=2 ∨ wd=4)∧at0 + wd ≤ len):=by
  intro n hn
  by_cases h2:at' < 0
  ·exact .inl (partErr_neg (by omega) h2)
  by_cases h3:(len:Int) - at' < n
  ·exact .inl (partErr_far (by omega) (by omega) h3)
  ·exact .inr ⟨partErr_ok (by omega) (by omega) (by omega),at'.toNat,n.toNat,by omega,by omega,by omega,by omega⟩
 unfold numErr
 by_cases h1:n=1
 ·rw [if_pos h1]; exact .inr (hp n (.inl h1))
 rw [if_neg h1]
 by_cases h2:n=2
 ·rw [if_pos h2]; exact .inr (hp n (.inr (.inl h2)))
 rw [if_neg h2]
 by_cases h4:n=4
 ·rw [if_pos h4]; exact .inr (hp n (.inr (.inr h4)))
 rw [if_neg h4]; exact .inl rfl

theorem numErr_ok {len at0 wd:Nat} (hw:wd=1 ∨ wd=2 ∨ wd=4) (hat:at0 + wd ≤ len):numErr len (at0:Int) (wd:Int)=0:=by
 unfold numErr
 rcases hw with rfl | rfl | rfl
 ·rw [if_pos (by omega)]; exact partErr_ok (by omega) (by omega) (by omega)
 ·rw [if_neg (by omega),if_pos (by omega)]; exact partErr_ok (by omega) (by omega) (by omega)
 ·rw [if_neg (by omega),if_neg (by omega),if_pos (by omega)]; exact partErr_ok (by omega) (by omega) (by omega)

end Go.Proofs.YtdfanhjnkjdngaaGreatDoor

/- Slices of numbers. -/
namespace Go.Proofs.YtdfanhjnkjdngaaGreatDoor
set_option maxRecDepth 100000
set_option maxHeartbeats 8000000
open Go.RowKit Go.Shelf
set_option linter.unusedVariables false

def IHas (w:World) (a:Option Addr) (len:Nat) (ns:List Int):Prop :=
 ns.length=len∧(0 < len→∃ b off,a=some ⟨b,off,none⟩∧∀ j,j < len→w.cell? ⟨b,off + j,none⟩=some (.int .i64 (ns[j]?.getD 0)))

theorem IHas.lt {w:World} {a:Option Addr} {len:Nat} {zs:List Int} (h:IHas w a len zs) {b off:Nat} (hp:0 < len) (e:a=some ⟨b,off,none⟩):b < w.heap.size:=by
 obtain ⟨b',off',e',hc⟩:=h.2 hp
 rw [e] at e'
 cases e'
 exact cell_block_lt (hc 0 hp)

theorem IHas.later {w w':World} {a:Option Addr} {len:Nat} {zs:List Int} (h:IHas w a len zs) (hb:Below w.heap.size w w'):IHas w' a len zs:=by
 refine ⟨h.1,fun hp=>?_⟩
 obtain ⟨b,off,e,hc⟩:=h.2 hp
 exact ⟨b,off,e,fun j hj=>(hb.cell (p:=⟨b,off + j,none⟩) (h.lt hp e)).trans (hc j hj)⟩

end Go.Proofs.YtdfanhjnkjdngaaGreatDoor

