/- isNone, refuses and find. -/
import Derived.Test.YtknmgefpjdfenaaGreatSfJ13
import Derived.Test.YtknmgefpjdfenaaGreatSfJ17
namespace Go.Proofs.YtknmgefpjdfenaaGreat
set_option maxRecDepth 100000
set_option maxHeartbeats 8000000
open Go.RowKit Go.Shelf Go.Maps
set_option linter.unusedVariables false

theorem isnone_no {w:World} {S:Nat→Prop} {g:Nat} {s:Tr} (h:TM w S g s) (hr:s.row ≠ []):Calls Tryz.prog 46 #[.pointer (some ⟨g,0,none⟩)] w fun e w'=>e=.returned (.bool false)∧w'=w:=by
 obtain ⟨_,c1,_⟩:=h.tree_cells
 have hl:s.row.length ≠ 0:=by simpa using hr
 clear h hr
 generalize s.row.length=n at *
 have d0:((n:Int) == 0)=false:=by simpa using fun e:(n:Int)=0=>hl (by omega)
 clear hl
 go_enter Tryz.func46,Tryz.ntmps46
 go_wp2_with fail
 go_ret
 exact ⟨rfl,rfl⟩

def refE (ps:List (List UInt8)):Int:=if ps.all (fun p=>(spl p).isSome) then 0 else 16

theorem refuses_any {w:World} {S:Nat→Prop} {g:Nat} {s:Tr} (h:TM w S g s) (hr:s.row ≠ []) (a:Option Addr) (n c:Nat) (ps:List (List UInt8)) (hh:HasS w a n ps) (hn:n ≤ 1800000000000) (hm:∀ j:Nat,(ps[j]?.getD []).length ≤ 9223372036854775807) :
  Calls Tryz.prog 52 #[.pointer (some ⟨g,0,none⟩),.slice a n c] w fun e w'=>e=.returned (.int .i64 (refE ps))∧Below w.heap.size w w':=by
 have K:=hide (isnone_no h hr)
 have HH:=hide hh
 have HM:=hide hm
 have hlen:=hh.1
 clear h hr hh hm
 have HS:Hid (Below w.heap.size w w∧∀ j,j < 0→(spl (ps[j]?.getD [])).isSome=true):=⟨Below.refl _ _,fun j hj=>by omega⟩
 go_enter Tryz.func52,Tryz.ntmps52
 go_wp2_with fail
 refine (unhide K).mono ?_
 rintro e w1 ⟨rfl,rfl⟩
 clear K
 go_wp2_with fail
 go_loopw [13] (fun iv wr=>∃ k:Nat,k ≤ n∧iv=.int .i64 (k:Int)∧Hid (Below w1.heap.size w1 wr∧∀ j,j < k→(spl (ps[j]?.getD [])).isSome=true)) (fun iv _=>(n:Int).toNat - (intOf iv).toNat)
 case atStart=>exact ⟨0,Nat.zero_le _,rfl,HS⟩
 case round =>
  obtain ⟨k,hk,rfl,hI⟩:=hrel
  clear HS
  obtain ⟨hB,hok⟩:=hI.out
  by_cases hlt:k < n
  ·obtain ⟨b,o,rfl,hcl⟩:=(HH.out.below hB (Nat.le_refl _)).cell hlt
   unfold sv at hcl
   have hp:=HM.out k
   have HN:Hid ((spl (ps[k]?.getD [])).isSome=false→refE ps=16):=by
    intro h1
    unfold refE
    rw [if_neg]
    intro h2
    rw [List.all_eq_true] at h2
    have:=h2 _ (show ps[k]?.getD [] ∈ ps by rw [List.getElem?_eq_getElem (by omega)]; exact List.getElem_mem _)
    rw [h1] at this
    cases this
   have HY:Hid ((spl (ps[k]?.getD [])).isSome=true→∀ j,j < k + 1→(spl (ps[j]?.getD [])).isSome=true):=by
    intro h1 j hj
    by_cases e:j=k
    ·subst e; exact h1
    ·exact hok j (by omega)
   have HB:=hide hB
   clear hI hB hok HH HM
   generalize ps[k]?.getD []=p at *
   have hlt':(k:Int) < (n:Int):=by omega
   cases hs:spl p with
   | none =>
    have K:=hide (split_no wr hp hs)
    have HN:=hide (HN.out (by rw [hs]; rfl))
    clear hs HY
    generalize St p=sp at *
    go_wp2_with fail
    refine (unhide K).mono ?_
    rintro e w2 ⟨⟨x,cx,rfl⟩,hb⟩
    have HF:Hid (Below w1.heap.size w1 w2):=HB.out.trans (hb.mono HB.out.size)
    clear K hb hcl
    go_wp2_with fail
    go_ret
    exact ⟨by rw [HN.out]; rfl,HF.out⟩
   | some ns =>
    have K:=hide (split_yes wr hs)
    have HY:=hide (HY.out (by rw [hs]; rfl))
    clear hs HN
    generalize St p=sp at *
    generalize ns.length=m at *
    go_wp2_with fail
    refine (unhide K).mono ?_
    rintro e w2 ⟨x,cx,rfl,_,hb⟩
    have HI:Hid (Below w1.heap.size w1 w2∧∀ j,j < k + 1→(spl (ps[j]?.getD [])).isSome=true):=⟨HB.out.trans (hb.mono HB.out.size),HY.out⟩
    clear K hb hcl HY HB
    go_wp2_with fail
    go_roundw
    case rel=>exact ⟨k + 1,by omega,by go_num,HI⟩
    case measure=>simp [intOf]; omega
  ·obtain rfl:k=n:=by omega
   have HE:Hid (refE ps=0):=by
    refine if_pos (List.all_eq_true.2 (fun p hp=>?_))
    obtain ⟨j,hj,rfl⟩:=List.getElem_of_mem hp
    have:=hok j (by omega)
    rwa [List.getElem?_eq_getElem hj] at this
   have HB:=hide hB
   clear hI hB hok HH HM hlen
   go_wp2_with fail
   go_ret
   exact ⟨by rw [HE.out]; rfl,HB.out⟩

structure Ok (s:Tr) (r:Nat):Prop where
 root:s.row[1]?=some (some r)
 dir:∃ t,s.T r=some t∧t.k=2
 kind:∀ b t,s.T b=some t→t.k=1 ∨ t.k=2
 live:∀ b t x c,s.T b=some t→t.ns.lookup x=some c→∃ t',s.T c=some t'

def go (s:Tr):List (List UInt8)→Nat→Int × Option Nat
 | [],b=>(0,some b)
 | x :: r,b=>match s.T b with
  | none=>(0,none)
  | some t=>if t.k=1 then (13,none) else match t.ns.lookup x with
   | none=>(11,none)
   | some c=>go s r c

theorem go_file {s:Tr} {b:Nat} {t:Th} (h:s.T b=some t) (hk:t.k=1) (x:List UInt8) (r:List (List UInt8)):go s (x :: r) b=(13,none):=by
 unfold go
 rw [h]
 exact if_pos hk

theorem go_none {s:Tr} {b:Nat} {t:Th} (h:s.T b=some t) (hk:t.k=2) {x:List UInt8} (hx:t.ns.lookup x=none) (r:List (List UInt8)):go s (x :: r) b=(11,none):=by
 have h1:¬ t.k=1:=by omega
 unfold go
 simp [h,h1,hx]

theorem go_step {s:Tr} {b c:Nat} {t:Th} (h:s.T b=some t) (hk:t.k=2) {x:List UInt8} (hx:t.ns.lookup x=some c) (r:List (List UInt8)):go s (x :: r) b=go s r c:=by
 have h1:¬ t.k=1:=by omega
 conv=>lhs; unfold go
 simp [h,h1,hx]

theorem go_ends {s:Tr} {r0:Nat} (hk:Ok s r0):∀ (ns:List (List UInt8)) (b:Nat),(∃ t,s.T b=some t)→((go s ns b).1=0∧∃ c t,(go s ns b).2=some c∧s.T c=some t) ∨ (((go s ns b).1=11 ∨ (go s ns b).1=13)∧(go s ns b).2=none)
 | [],b,⟨t,h⟩=>.inl ⟨rfl,b,t,rfl,h⟩
 | x :: r,b,⟨t,h⟩=>by
  rcases hk.kind b t h with h1 | h1
  ·rw [go_file h h1]; exact .inr ⟨.inr rfl,rfl⟩
  ·cases hx:t.ns.lookup x with
   | none=>rw [go_none h h1 hx]; exact .inr ⟨.inl rfl,rfl⟩
   | some c=>rw [go_step h h1 hx]; exact go_ends hk r c (hk.live b t x c h hx)

theorem Ok.row_ne {s:Tr} {r:Nat} (h:Ok s r):s.row ≠ []:=by
 intro e
 have:=h.root
 rw [e] at this
 cases this

theorem Ok.row_len {s:Tr} {r:Nat} (h:Ok s r):1 < s.row.length:=by
 by_cases hc:1 < s.row.length
 ·exact hc
 ·have:=h.root
  rw [List.getElem?_eq_none (by omega)] at this
  cases this

theorem find_any {w:World} {S:Nat→Prop} {g r:Nat} {s:Tr} (h:TM w S g s) (hk:Ok s r) {p:List UInt8} {ns:List (List UInt8)} (hp:spl p=some ns) :
  Calls Tryz.prog 53 #[.pointer (some ⟨g,0,none⟩),.string (St p)] w fun e w'=>e=.returned (.tuple #[ptrO (go s ns r).2,.int .i64 (go s ns r).1])∧Below w.heap.size w w':=by
 have K:=hide (split_yes w hp)
 have hlen:∀ x ∈ ns,x.length ≤ 200:=fun x hx=>by
  have:=(nmB_len (((okN_iff ns).1 (spl_some hp).1).2.1 x hx)).2
  omega
 have h16:=((okN_iff ns).1 (spl_some hp).1).1
 have HT:=hide h
 have HK:=hide hk
 clear h hk hp
 have HL:=hide hlen
 generalize hN:ns.length=n at *
 generalize St p=sp at *
 clear hlen
 go_enter Tryz.func53,Tryz.ntmps53
 go_wp2_with fail
 refine (unhide K).mono ?_
 rintro e w1 ⟨a,c,rfl,ho,hb⟩
 have HB:=hide hb
 have h1:=HT.out.below hb
 have HT:=hide h1
 have HO:=hide ho
 obtain ⟨_,c1,_,cf⟩:=h1.tree_cells
 have hl:=HK.out.row_len
 obtain ⟨rg,hra,_,cr,_⟩:=h1.row.cell (j:=1) hl
 rw [HK.out.root] at cr
 simp only [Option.getD_some,ptrO,Option.map_some] at cr
 rw [hra] at c1
 have i1:(1:Int) < (s.row.length:Int):=by omega
 have HR:Hid (∃ t,s.T r=some t):=by obtain ⟨t,ht,_⟩:=HK.out.dir; exact ⟨t,ht⟩
 clear K hb ho h1 cf hl hra
 generalize s.row.length=m at *
 go_wp2_with fail
 clear c1 cr i1
 go_loopw [27,8] (fun iv xv wr=>∃ k b:Nat,k ≤ n∧iv=.int .i64 (k:Int)∧xv=.pointer (some ⟨b,0,none⟩)∧wr=w1∧Hid ((∃ t,s.T b=some t)∧go s ns r=go s (ns.drop k) b)) (fun iv _ _=>(n:Int).toNat - (intOf iv).toNat)
 case atStart=>exact ⟨0,r,Nat.zero_le _,rfl,rfl,rfl,HR.out,rfl⟩
 case round =>
  obtain ⟨k,b,hk,rfl,rfl,rfl,hI⟩:=hrel
  obtain ⟨⟨t,ht⟩,hg⟩:=hI.out
  by_cases hlt:k < n
  ·obtain ⟨gb,o,rfl,hcl⟩:=HO.out.has.cell hlt
   have hx:(ns[k]?.getD []).length ≤ 200:=HL.out _ (by rw [List.getElem?_eq_getElem (by omega)]; exact List.getElem_mem _)
   have hd:ns.drop k=ns[k]?.getD [] :: ns.drop (k + 1):=by
    rw [List.drop_eq_getElem_cons (by omega),List.getElem?_eq_getElem (by omega)]; rfl
   have hlt':(k:Int) < (n:Int):=by omega
   unfold sv at hcl
   rw [hd] at hg
   clear hd hI HL
   generalize ns[k]?.getD []=x at *
   obtain ⟨t0,_,_,_,_,_⟩:=HT.out.thing_cells ht
   rcases HK.out.kind b t ht with h1 | h1
   ·rw [h1] at t0
    have HE:Hid (go s ns r=(13,none)):=hg.trans (go_file ht h1 x _)
    clear hg ht h1 hx HR
    generalize St x=sx at *
    go_wp2_with fail
    go_ret2
    exact ⟨by rw [HE.out]; rfl,HB.out⟩
   ·have tm:=HT.out.dir_map ht h1
    have hlk:=(HT.out.map b t ht h1).look hx
    have d1:(t.k == 1)=false:=by rw [h1]; rfl
    cases hc:t.ns.lookup x with
    | none =>
     have HE:Hid (go s ns r=(11,none)):=hg.trans (go_none ht h1 hc _)
     rw [hc] at hlk
     simp only [Option.map_none] at hlk
     clear hg ht h1 hx HR hc
     generalize St x=sx at *
     generalize t.mp=mp at *
     generalize t.k=tk at *
     go_wp2_with fail
     go_ret2
     exact ⟨by rw [HE.out]; rfl,HB.out⟩
    | some j =>
     have HE:Hid ((∃ t,s.T j=some t)∧go s ns r=go s (ns.drop (k + 1)) j):=⟨HK.out.live b t x j ht hc,hg.trans (go_step ht h1 hc _)⟩
     rw [hc] at hlk
     simp only [Option.map_some] at hlk
     clear hg ht h1 hx HR hc
     generalize St x=sx at *
     generalize t.mp=mp at *
     generalize t.k=tk at *
     go_wp2_with fail
     go_roundw
     case rel=>exact ⟨k + 1,j,by omega,by go_num,rfl,trivial,HE⟩
     case measure=>simp [intOf]; omega
  ·obtain rfl:k=n:=by omega
   have HE:Hid (go s ns r=(0,some b)):=by
    rw [List.drop_of_length_le (by omega)] at hg
    exact hg
   clear hI hg ht HL HO HR HT
   go_wp2_with fail
   go_ret2
   exact ⟨by rw [HE.out]; rfl,HB.out⟩

end Go.Proofs.YtknmgefpjdfenaaGreat
