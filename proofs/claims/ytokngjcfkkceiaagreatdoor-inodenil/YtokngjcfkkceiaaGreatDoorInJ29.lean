/- Joined: CHead, CHdr2, CDesc, CReadP, CTake, CUn, CBackH. -/
import Derived.Test.YtokngjcfkkceiaaGreatDoorInJ25
import Derived.Test.YtokngjcfkkceiaaGreatDoorInJ6
import Derived.Test.YtokngjcfkkceiaaGreatDoorInJ1
import Derived.Test.YtokngjcfkkceiaaGreatDoorInJ22
/- Contracts of codec.summed, codec.isBlockSize and codec.Header. -/
namespace Go.Proofs.YtokngjcfkkceiaaGreatDoor
set_option maxRecDepth 100000
set_option maxHeartbeats 8000000
open Go.RowKit Go.Shelf
set_option linter.unusedVariables false

def sumB (n:Nat) (h:List Int):List Int:=layB n (h++digits 4 ((sumS h:Nat):Int))

theorem numsB_one (wd:Nat)(z:Int):numsB wd [z]=digits wd z:=by simp[numsB]

theorem fitB_sum {zs:List Int}(h:Byts zs):fitB 4 [((sumS zs:Nat):Int)]=true:=by
 have:=sumS_lt h
 rw[fitB_iff]
 intro v hv
 simp at hv
 subst hv
 omega

theorem summed_any (a:Option Addr)(len cap:Nat)(zs:List Int)(block:Nat)(w:World)(h:Has w a len zs)(hby:Byts zs)(hT:Tab w)(hl:len+4≤block)(hb:block≤4096) :
  Calls Tryz.prog 171 #[.slice a len cap,.int .i64 (block:Int)] w fun e w'=>∃ g,e=.returned (.slice (some ⟨g,0,none⟩) block block)∧w.heap.size≤g∧Hid (Block w' g (sumB block zs))∧Below w.heap.size w w':=by
 have hlen:=h.1
 have K1:=hide (sum_any a len cap zs w hT h (by omega) hby)
 have hf:=fitB_sum hby
 have HS:Hid (sumB block zs=layB block (zs++digits 4 ((sumS zs:Nat):Int))):=rfl
 generalize sumS zs=S at *
 have K2:Hid (Calls Tryz.prog 91 #[.int .i64 4,.slice (some ⟨w.heap.size,0,none⟩) 1 1] (w.alloc (.cells #[.int .i64 (S:Int)] 3)) fun e w'=>∃ a4 c4,e=.returned (.slice a4 4 c4)∧Hid (Has w' a4 4 (digits 4 (S:Int))∧Below w.heap.size w w')):=by
  refine(numbers_any 4 (.inr (.inr rfl)) _ 1 1 [(S:Int)] _ (ihas_list w [(S:Int)]) (by omega) hf 4 rfl).mono ?_
  rintro e w' ⟨a',c',rfl,hO,hb⟩
  rw[numsB_one] at hO
  exact⟨a',c',rfl,hO.out.has,bchain ((Below.refl _ w).alloc (Nat.le_refl _) _) hb (Nat.le_refl _)⟩
 have K3:Hid (∀ a4 c4 w1,Hid (Has w1 a4 4 (digits 4 (S:Int))∧Below w.heap.size w w1)→Calls Tryz.prog 90 #[.int .i64 (block:Int),.slice (some ⟨w1.heap.size,0,none⟩) 2 2] (w1.alloc (.cells #[.slice a len cap,.slice a4 4 c4] 94)) fun e w'=>∃ g,e=.returned (.slice (some ⟨g,0,none⟩) block block)∧w.heap.size≤g∧Hid (Block w' g (sumB block zs))∧Below w.heap.size w w'):=by
  intro a4 c4 w1 h1
  have hp:=phas_list w1 [(a,len,cap,zs),(a4,4,c4,digits 4 (S:Int))] (by
   intro p hp
   simp at hp
   rcases hp with rfl | rfl
   ·exact h.later h1.out.2
   ·exact h1.out.1)
  have hall:allP [(a,len,cap,zs),(a4,4,c4,digits 4 (S:Int))]=zs++digits 4 (S:Int):=by simp[allP]
  refine(clay_any block _ 2 2 _ _ hp (by omega) (by rw[hall,List.length_append,length_digits];omega) (by omega)).mono ?_
  rintro e w' ⟨rfl,hB,hb⟩
  rw[hall] at hB
  refine⟨_,rfl,by have:=h1.out.2.size;simp;omega,?_,bchain (h1.out.2.alloc h1.out.2.size _) hb (Nat.le_refl _)⟩
  rw[HS.out];exact hB
 clear h hby hT hf HS
 go_enter Tryz.func171,Tryz.ntmps171
 go_wp2_with fail
 go_at_call 214
 refine(unhide K1).mono ?_
 rintro e w' ⟨rfl,rfl⟩
 go_wp2_with fail
 go_at_call 91
 refine(unhide K2).mono ?_
 rintro e w1 ⟨a4,c4,rfl,h1⟩
 go_wp2_with fail
 go_at_call 90
 refine(unhide K3 a4 c4 w1 h1).mono ?_
 rintro e w2 ⟨g,rfl,hg,hB,hb2⟩
 go_wp2_with fail
 go_ret
 exact⟨g,rfl,hg,hB,hb2⟩

theorem size_make {b:Int}(h:isSize b):makeE b 10 2 4=0:=by
 rcases h with rfl | rfl | rfl | rfl | rfl | rfl | rfl<;>decide +kernel

theorem size_make_no {b:Int}(h:¬ isSize b):makeE b 10 2 4=1:=makeE_bad (.inl h)

theorem cblock_e (b:Int)(q:Int)(w:World)(h:makeE b 10 2 4=q)(r:Bool)(hr:(q==0)=r) :
  Calls Tryz.prog 170 #[.int .i64 b] w fun e w'=>e=.returned (.bool r)∧Below w.heap.size w w':=by
 have K:=hide (make_any b 10 2 4 w)
 rw[h] at K
 generalize makeP b 10 2 4=Q at *
 clear h
 go_enter Tryz.func170,Tryz.ntmps170
 go_wp2_with fail
 go_at_call 69
 refine(unhide K).mono ?_
 rintro e w1 ⟨rfl,hb⟩
 have HB:=hide (hb.alloc hb.size (.cells (Pc Q) 25))
 clear K hb
 go_wp2_with fail
 go_ret
 exact⟨rfl,HB.out⟩

theorem cblock_yes (b:Int)(w:World)(h:isSize b):Calls Tryz.prog 170 #[.int .i64 b] w fun e w'=>e=.returned (.bool true)∧Below w.heap.size w w' :=
 cblock_e b 0 w (size_make h) true rfl

theorem cblock_no (b:Int)(w:World)(h:¬ isSize b):Calls Tryz.prog 170 #[.int .i64 b] w fun e w'=>e=.returned (.bool false)∧Below w.heap.size w w' :=
 cblock_e b 1 w (size_make_no h) false rfl

abbrev Hv (H:Nat→Int):Value:=.agg #[.int .i64 (H 0),.int .i64 (H 1),.int .i64 (H 2)]
abbrev Hc (H:Nat→Int):Array Value:=#[.int .i64 (H 0),.int .i64 (H 1),.int .i64 (H 2)]

def slog:List Int:=[83,76,79,71]

def hdrH (H:Nat→Int):List Int:=slog++(numsB 4 [H 0]++numsB 2 [H 1,H 2])

theorem hdrH_length (H:Nat→Int):(hdrH H).length=12:=by simp[hdrH,slog,length_numsB]

theorem slog_byts:Byts slog:=by intro z hz;simp[slog] at hz;omega

theorem hdrH_byts (H:Nat→Int):Byts (hdrH H):=by
 intro z hz
 simp only[hdrH,List.mem_append] at hz
 rcases hz with hz | hz | hz
 ·exact slog_byts z hz
 ·exact numsB_byte _ _ z hz
 ·exact numsB_byte _ _ z hz

def hdrF (H:Nat→Int):Bool:=fitB 4 [H 0]&&fitB 2 [H 1,H 2]

theorem header_arg (H:Nat→Int)(b:Int)(w:World)(h:¬ isSize b) :
  Calls Tryz.prog 123 #[Hv H,.int .i64 b] w fun e w'=>e=.returned (.tuple #[.slice none 0 0,.int .i64 1])∧Below w.heap.size w w':=by
 have K:Hid (∀ u,Calls Tryz.prog 170 #[.int .i64 b] u fun e w'=>e=.returned (.bool false)∧Below u.heap.size u w'):=fun u=>cblock_no b u h
 have HK:=hide (Bx.start w (Hc H) 81)
 clear h
 go_enter Tryz.func123,Tryz.ntmps123
 go_wp2_with fail
 go_at_call 170
 refine(unhide K _).mono ?_
 rintro e w1 ⟨rfl,hb⟩
 replace HK:=hide ((unhide HK).call hb)
 clear K hb
 go_wp2_with fail
 go_ret2
 exact⟨rfl,HK.out.2.1⟩

theorem fit_list (wd:Nat)(hw:wd=2∨wd=4)(ns:List Int)(u:World)(hl:ns.length≤1000)(r:Bool)(hr:fitB wd ns=r) :
  Calls Tryz.prog 89 #[.int .i64 (wd:Int),.slice (some ⟨u.heap.size,0,none⟩) ns.length ns.length] (u.alloc (.cells (ns.map (Value.int .i64)).toArray 3)) fun e w'=>e=.returned (.bool r)∧Below u.heap.size u w':=by
 subst hr
 refine(fit_any wd hw _ ns.length ns.length ns _ (ihas_list u ns) (by omega)).mono ?_
 rintro e w' ⟨rfl,rfl⟩
 exact⟨rfl,(Below.refl _ u).alloc (Nat.le_refl _) _⟩

theorem header_good (H:Nat→Int)(b:Nat)(w:World)(h:isSize (b:Int))(hf:hdrF H=true)(hT:Tab w) :
  Calls Tryz.prog 123 #[Hv H,.int .i64 (b:Int)] w fun e w'=>∃ g,e=.returned (.tuple #[.slice (some ⟨g,0,none⟩) b b,.int .i64 0])∧w.heap.size≤g∧Hid (Block w' g (sumB b (hdrH H)))∧Below w.heap.size w w':=by
 have K:Hid (∀ u,Calls Tryz.prog 170 #[.int .i64 (b:Int)] u fun e w'=>e=.returned (.bool true)∧Below u.heap.size u w'):=fun u=>cblock_yes b u h
 have HK:=hide (Bx.start w (Hc H) 81)
 have hbb:=size_bd h
 unfold hdrF at hf
 rw[Bool.and_eq_true] at hf
 obtain⟨h4,h2⟩:=hf
 have F4:Hid (∀ u:World,Calls Tryz.prog 89 #[.int .i64 4,.slice (some ⟨u.heap.size,0,none⟩) 1 1] (u.alloc (.cells #[.int .i64 (H 0)] 3)) fun e w'=>e=.returned (.bool true)∧Below u.heap.size u w') :=
  fun u=>fit_list 4 (.inr rfl) [H 0] u (by simp) true h4
 have F2:Hid (∀ u:World,Calls Tryz.prog 89 #[.int .i64 2,.slice (some ⟨u.heap.size,0,none⟩) 2 2] (u.alloc (.cells #[.int .i64 (H 1),.int .i64 (H 2)] 3)) fun e w'=>e=.returned (.bool true)∧Below u.heap.size u w') :=
  fun u=>fit_list 2 (.inl rfl) [H 1,H 2] u (by simp) true h2
 have KS:Hid (∀ a c u,Below w.heap.size w u→Has u a 12 (hdrH H)→Calls Tryz.prog 171 #[.slice a 12 c,.int .i64 (b:Int)] u fun e w'=>∃ g,e=.returned (.slice (some ⟨g,0,none⟩) b b)∧u.heap.size≤g∧Hid (Block w' g (sumB b (hdrH H)))∧Below u.heap.size u w') :=
  fun a c u hb hh=>summed_any a 12 c (hdrH H) b u hh (hdrH_byts H) (hT.below hb (tab_size hT)) (by omega) (by omega)
 have H4:=hide h4
 have H2:=hide h2
 clear h h4 h2 hT hbb
 go_enter Tryz.func123,Tryz.ntmps123
 go_wp2_with fail
 go_at_call 170
 refine(unhide K _).mono ?_
 rintro e w1 ⟨rfl,hb⟩
 replace HK:=hide ((unhide HK).call hb)
 have f0:=HK.out.1 0 _ rfl
 clear K hb
 go_wp2_with fail
 go_at_call 89
 refine(unhide F4 _).mono ?_
 rintro e w2 ⟨rfl,hb⟩
 replace HK:=hide ((unhide HK).call hb)
 clear f0
 have f1:=HK.out.1 1 _ rfl
 have f2:=HK.out.1 2 _ rfl
 clear hb F4
 go_wp2_with fail
 go_at_call 89
 refine(unhide F2 _).mono ?_
 rintro e w3 ⟨rfl,hb⟩
 replace HK:=hide ((unhide HK).call hb)
 clear f1 f2 hb F2
 go_upto_region 5 with fail
 go_cut [6] (fun c wx=>∃ a0 c0,c=.slice a0 12 c0∧Hid (Has wx a0 12 (hdrH H))∧Hid (Bx w (Hc H) wx))
 case first =>
  refine wp_region_sp (by kernel_rfl) w.heap.size [spLit w.heap.size slog,spLit w.heap.size slog,spVal (.pointer (some ⟨w.heap.size,0,none⟩)),spVal (.int .i64 (H 0)),spInts [H 0],spBytes 4 (numsB 4 [H 0]),spVal (.pointer (some ⟨w.heap.size,1,none⟩)),spVal (.int .i64 (H 1)),spVal (.pointer (some ⟨w.heap.size,2,none⟩)),spVal (.int .i64 (H 2)),spInts [H 1,H 2],spBytes 4 (numsB 2 [H 1,H 2]),spParts 3 (hdrH H),spBytes 12 (layB 12 (hdrH H)),spBytes 12 (layB 12 (hdrH H))] ?_ (by kernel_rfl) (by kernel_rfl) ?_ ?_
  ·intro S hS
   simp only[List.mem_cons,List.not_mem_nil,or_false] at hS
   rcases hS with rfl | rfl | rfl | rfl | rfl | rfl | rfl | rfl | rfl | rfl | rfl | rfl | rfl | rfl | rfl<;>first | exact mono_val _ _ | exact mono_bytes _ _ _ | exact mono_lit _ _ | exact mono_ints _ _ | exact mono_parts _ _ _
  ·intro i o a u hi hF hA hG
   have hB:=HK.out.drew.grw hG
   have hn:w.heap.size≤u.heap.size:=hB.2.1.size
   have tb:a.tmps[2]?.getD undef=.pointer (some ⟨w.heap.size,0,none⟩):=fr_at hF 2 (by kernel_rfl)
   have hlt:=(Array.getElem?_eq_some_iff.1 hi).1
   have hcs:i=0∨i=1∨i=2∨i=3∨i=4∨i=5∨i=6∨i=7∨i=8∨i=9∨i=10∨i=11∨i=12∨i=13∨i=14:=by simp at hlt;omega
   clear hlt
   rcases hcs with rfl | rfl | rfl | rfl | rfl | rfl | rfl | rfl | rfl | rfl | rfl | rfl | rfl | rfl | rfl
   ·have ho:=Option.some.inj hi;subst ho
    refine st_val (w':=u.alloc (.cells (slog.map (Value.int .u8)).toArray 5)) rfl rfl (.slice (some ⟨u.heap.size,0,none⟩) 4 4) ?_ ⟨_,rfl,hn,has_list u slog _,shape_new _ _ _⟩ (Grw.alloc _ _ _ hn)
    simp[execOp,Act.eval,go_sem]
    rfl
   ·have ho:=Option.some.inj hi;subst ho
    have h0:spLit w.heap.size slog (a.tmps[24]?.getD undef) u:=ahead_at hA 0 24 (by kernel_rfl) rfl
    obtain⟨u',hr,hg⟩:=lit_conv h0
    refine st_val (w':=u') rfl rfl (a.tmps[24]?.getD undef) ?_ ((mono_lit _ _) _ _ _ h0 hg) hg
    simp[execOp,Act.eval,hr,go_sem]
   ·have ho:=Option.some.inj hi;subst ho
    have h0:=tb
    refine st_val (w':=u) rfl rfl (.pointer (some ⟨w.heap.size,0,none⟩)) ?_ rfl (Grw.refl _ _)
    simp[execOp,Act.eval,h0,go_sem]
   ·have ho:=Option.some.inj hi;subst ho
    have h0:a.tmps[26]?.getD undef=.pointer (some ⟨w.heap.size,0,none⟩):=ahead_at hA 2 26 (by kernel_rfl) rfl
    have f0:=hB.1 0 _ rfl
    refine st_val (w':=u) rfl rfl (.int .i64 (H 0)) ?_ rfl (Grw.refl _ _)
    simp[execOp,Act.eval,h0,f0,go_sem]
   ·have ho:=Option.some.inj hi;subst ho
    have h0:a.tmps[27]?.getD undef=.int .i64 (H 0):=ahead_at hA 3 27 (by kernel_rfl) rfl
    refine st_val (w':=u.alloc (.cells ([H 0].map (Value.int .i64)).toArray 3)) rfl rfl (.slice (some ⟨u.heap.size,0,none⟩) 1 1) ?_ ⟨_,_,rfl,ihas_list u [H 0]⟩ (Grw.alloc _ _ _ hn)
    simp[execOp,Act.eval,h0,go_sem]
   ·have ho:=Option.some.inj hi;subst ho
    have h0:spInts [H 0] (a.tmps[28]?.getD undef) u:=ahead_at hA 4 28 (by kernel_rfl) rfl
    refine st_call rfl rfl 91 #[.int .i64 (4:Nat),a.tmps[28]?.getD undef] ?_ hn (numbers_sp 4 (.inr (.inr rfl)) [H 0] _ u h0 (by simp) H4.out 4 rfl)
    simp[execOp,Act.eval,go_sem]
   ·have ho:=Option.some.inj hi;subst ho
    have h0:=tb
    refine st_val (w':=u) rfl rfl (.pointer (some ⟨w.heap.size,1,none⟩)) ?_ rfl (Grw.refl _ _)
    simp[execOp,Act.eval,h0,go_sem]
   ·have ho:=Option.some.inj hi;subst ho
    have h0:a.tmps[30]?.getD undef=.pointer (some ⟨w.heap.size,1,none⟩):=ahead_at hA 6 30 (by kernel_rfl) rfl
    have f0:=hB.1 1 _ rfl
    refine st_val (w':=u) rfl rfl (.int .i64 (H 1)) ?_ rfl (Grw.refl _ _)
    simp[execOp,Act.eval,h0,f0,go_sem]
   ·have ho:=Option.some.inj hi;subst ho
    have h0:=tb
    refine st_val (w':=u) rfl rfl (.pointer (some ⟨w.heap.size,2,none⟩)) ?_ rfl (Grw.refl _ _)
    simp[execOp,Act.eval,h0,go_sem]
   ·have ho:=Option.some.inj hi;subst ho
    have h0:a.tmps[32]?.getD undef=.pointer (some ⟨w.heap.size,2,none⟩):=ahead_at hA 8 32 (by kernel_rfl) rfl
    have f0:=hB.1 2 _ rfl
    refine st_val (w':=u) rfl rfl (.int .i64 (H 2)) ?_ rfl (Grw.refl _ _)
    simp[execOp,Act.eval,h0,f0,go_sem]
   ·have ho:=Option.some.inj hi;subst ho
    have h0:a.tmps[31]?.getD undef=.int .i64 (H 1):=ahead_at hA 7 31 (by kernel_rfl) rfl
    have h1:a.tmps[33]?.getD undef=.int .i64 (H 2):=ahead_at hA 9 33 (by kernel_rfl) rfl
    refine st_val (w':=u.alloc (.cells ([H 1,H 2].map (Value.int .i64)).toArray 3)) rfl rfl (.slice (some ⟨u.heap.size,0,none⟩) 2 2) ?_ ⟨_,_,rfl,ihas_list u [H 1,H 2]⟩ (Grw.alloc _ _ _ hn)
    simp[execOp,Act.eval,h0,h1,go_sem]
   ·have ho:=Option.some.inj hi;subst ho
    have h0:spInts [H 1,H 2] (a.tmps[34]?.getD undef) u:=ahead_at hA 10 34 (by kernel_rfl) rfl
    refine st_call rfl rfl 91 #[.int .i64 (2:Nat),a.tmps[34]?.getD undef] ?_ hn (numbers_sp 2 (.inr (.inl rfl)) [H 1,H 2] _ u h0 (by simp) H2.out 4 rfl)
    simp[execOp,Act.eval,go_sem]
   ·have ho:=Option.some.inj hi;subst ho
    obtain⟨p0,e0,_,b0,_⟩:spLit w.heap.size slog (a.tmps[25]?.getD undef) u:=ahead_at hA 1 25 (by kernel_rfl) rfl
    obtain⟨p1,c1,e1,b1,_,_⟩:spBytes 4 (numsB 4 [H 0]) (a.tmps[29]?.getD undef) u:=ahead_at hA 5 29 (by kernel_rfl) rfl
    obtain⟨p2,c2,e2,b2,_,_⟩:spBytes 4 (numsB 2 [H 1,H 2]) (a.tmps[35]?.getD undef) u:=ahead_at hA 11 35 (by kernel_rfl) rfl
    have hp:=phas_list u [(some ⟨p0,0,none⟩,4,4,slog),(p1,4,c1,(numsB 4 [H 0])),(p2,4,c2,(numsB 2 [H 1,H 2]))] (by
     intro p hp
     simp only[List.mem_cons,List.not_mem_nil,or_false] at hp
     rcases hp with rfl | rfl | rfl
     ·exact b0
     ·exact b1
     ·exact b2)
    refine st_val (w':=u.alloc (.cells ([(some ⟨p0,0,none⟩,4,4,slog),(p1,4,c1,(numsB 4 [H 0])),(p2,4,c2,(numsB 2 [H 1,H 2]))].map pv).toArray 94)) rfl rfl (.slice (some ⟨u.heap.size,0,none⟩) 3 3) ?_ ⟨_,_,_,rfl,hp,by simp[allP,hdrH,slog]⟩ (Grw.alloc _ _ _ hn)
    simp[execOp,Act.eval,e0,e1,e2,go_sem]
    all_goals rfl
   ·have ho:=Option.some.inj hi;subst ho
    have h0:spParts 3 (hdrH H) (a.tmps[36]?.getD undef) u:=ahead_at hA 12 36 (by kernel_rfl) rfl
    refine st_call rfl rfl 90 #[.int .i64 ((12:Nat):Int),a.tmps[36]?.getD undef] ?_ hn ((lay_sp (12) 3 (hdrH H) _ u h0 (by omega) (by rw[hdrH_length];omega) (by omega) (hdrH_byts H)).mono fun e w' ⟨v,e1,h1,h2⟩=>⟨v,e1,h1.1,h2⟩)
    simp[execOp,Act.eval,go_sem]
   ·have ho:=Option.some.inj hi;subst ho
    have h0:spBytes 12 (layB 12 (hdrH H)) (a.tmps[37]?.getD undef) u:=ahead_at hA 13 37 (by kernel_rfl) rfl
    refine st_val (w':=u) rfl rfl (a.tmps[37]?.getD undef) ?_ h0 (Grw.refl _ _)
    simp[execOp,Act.eval,go_sem]
  ·intro a u hF hR hG
   have q0:=fr_at hF 0 (by kernel_rfl)
   have q1:=fr_at hF 1 (by kernel_rfl)
   have q2:=fr_at hF 2 (by kernel_rfl)
   have q3:=fr_at hF 3 (by kernel_rfl)
   have q4:=fr_at hF 4 (by kernel_rfl)
   have q5:=fr_at hF 5 (by kernel_rfl)
   obtain⟨r0,r1,r2,r3,r4,r5⟩:spBytes 12 (layB 12 (hdrH H)) (a.tmps[6]?.getD undef) u:=by have:=hR 14 _ 6 rfl rfl;rwa [Array.getD_eq_getD_getElem?] at this
   have hB:=HK.out.drew.grw hG
   obtain⟨tm,df⟩:=a
   obtain⟨hs,hdf,_⟩:=hF
   have hs':tm.size=41:=hs
   have hdf':df=[]:=hdf
   subst hdf'
   have he:tm=#[tm[0]?.getD undef,tm[1]?.getD undef,tm[2]?.getD undef,tm[3]?.getD undef,tm[4]?.getD undef,tm[5]?.getD undef,tm[6]?.getD undef,tm[7]?.getD undef,tm[8]?.getD undef,tm[9]?.getD undef,tm[10]?.getD undef,tm[11]?.getD undef,tm[12]?.getD undef,tm[13]?.getD undef,tm[14]?.getD undef,tm[15]?.getD undef,tm[16]?.getD undef,tm[17]?.getD undef,tm[18]?.getD undef,tm[19]?.getD undef,tm[20]?.getD undef,tm[21]?.getD undef,tm[22]?.getD undef,tm[23]?.getD undef,tm[24]?.getD undef,tm[25]?.getD undef,tm[26]?.getD undef,tm[27]?.getD undef,tm[28]?.getD undef,tm[29]?.getD undef,tm[30]?.getD undef,tm[31]?.getD undef,tm[32]?.getD undef,tm[33]?.getD undef,tm[34]?.getD undef,tm[35]?.getD undef,tm[36]?.getD undef,tm[37]?.getD undef,tm[38]?.getD undef,tm[39]?.getD undef,tm[40]?.getD undef]:=tmps_eq tm 41 hs'
   simp at q0
   simp at q1
   simp at q2
   simp at q3
   simp at q4
   simp at q5
   rw[he]
   simp only[q0,q1,q2,q3,q4,q5,r2]
   clear he hR hG hs hs' hdf q0 q1 q2 q3 q4 q5 r2
   go_wp2_with fail
   go_meet
   exact⟨r0,r1,rfl,by rw[layB_full (hdrH_length H)] at r3;exact r3,hB⟩
 case rest =>
  obtain⟨a0,c0,rfl,hh,hB⟩:=hcut
  clear HK
  go_wp2_with fail
  go_at_call 171
  refine(unhide KS a0 c0 wc hB.out.2.1 hh.out).mono ?_
  rintro e w4 ⟨g,rfl,hg,hBl,hb⟩
  have HB:=hide (bchain hB.out.2.1 hb (Nat.le_refl _))
  have hg':w.heap.size≤g:=Nat.le_trans hB.out.2.1.size hg
  clear KS hB hh hb
  go_wp2_with fail
  go_ret2
  exact⟨g,rfl,hg',hBl,HB.out⟩

def descF (q:Int) (ns:List Int):Bool:=fitB 4 [q]&&fitB 2 ns

def descR (b:Nat) (q:Int) (ns:List Int):List Int:=layB (b - 4) (numsB 4 [q]++(numsB 2 [(ns.length:Int)]++numsB 2 ns))

def descB (b:Nat) (q:Int) (ns:List Int):List Int:=layB b (digits 4 ((sumS (descR b q ns):Nat):Int)++descR b q ns)

def descE (b:Int) (q:Int) (ns:List Int):Int:=if (b=64∨b=128∨b=256∨b=512∨b=1024∨b=2048∨b=4096) then (if descF q ns=true then (if (b - 10) / 2<(ns.length:Int) then 5 else 0) else 3) else 1

theorem descR_length {b:Nat}{q:Int}{ns:List Int}(h:10+2*ns.length≤b):(descR b q ns).length=b - 4 :=
 length_layB (by rw[List.length_append,List.length_append,length_numsB,length_numsB,length_numsB];simp;omega)

theorem descB_length {b:Nat}{q:Int}{ns:List Int}(h:10+2*ns.length≤b):(descB b q ns).length=b :=
 length_layB (by rw[List.length_append,length_digits,descR_length h];omega)

theorem descR_byts (b:Nat)(q:Int)(ns:List Int):Byts (descR b q ns):=by
 refine layB_byte _ _ fun z hz=>?_
 simp only[List.mem_append] at hz
 rcases hz with hz | hz | hz
 all_goals exact numsB_byte _ _ z hz

theorem descB_byts (b:Nat)(q:Int)(ns:List Int):Byts (descB b q ns):=by
 refine layB_byte _ _ fun z hz=>?_
 rcases List.mem_append.1 hz with hz | hz
 ·exact digits_byte _ _ z hz
 ·exact descR_byts b q ns z hz

theorem desc_arg (q:Int)(a:Option Addr)(len cap:Nat)(ns:List Int)(b:Int)(w:World)(h:¬ isSize b) :
  Calls Tryz.prog 219 #[.int .i64 q,.slice a len cap,.int .i64 b] w fun e w'=>e=.returned (.tuple #[.slice none 0 0,.int .i64 1])∧Below w.heap.size w w':=by
 have K:Hid (∀ u,Calls Tryz.prog 170 #[.int .i64 b] u fun e w'=>e=.returned (.bool false)∧Below u.heap.size u w'):=fun u=>cblock_no b u h
 clear h
 go_enter Tryz.func219,Tryz.ntmps219
 go_wp2_with fail
 go_at_call 170
 refine(unhide K _).mono ?_
 rintro e w1 ⟨rfl,hb⟩
 have HB:=hide hb
 clear K hb
 go_wp2_with fail
 go_ret2
 exact⟨rfl,HB.out⟩

theorem desc_v4 (q:Int)(a:Option Addr)(len cap:Nat)(ns:List Int)(b:Int)(w:World)(h:isSize b)(h4:fitB 4 [q]=false) :
  Calls Tryz.prog 219 #[.int .i64 q,.slice a len cap,.int .i64 b] w fun e w'=>e=.returned (.tuple #[.slice none 0 0,.int .i64 3])∧Below w.heap.size w w':=by
 have K:Hid (∀ u,Calls Tryz.prog 170 #[.int .i64 b] u fun e w'=>e=.returned (.bool true)∧Below u.heap.size u w'):=fun u=>cblock_yes b u h
 have F4:Hid (∀ u:World,Calls Tryz.prog 89 #[.int .i64 4,.slice (some ⟨u.heap.size,0,none⟩) 1 1] (u.alloc (.cells #[.int .i64 q] 3)) fun e w'=>e=.returned (.bool false)∧Below u.heap.size u w') :=
  fun u=>fit_list 4 (.inr rfl) [q] u (by simp) _ h4
 clear h h4
 go_enter Tryz.func219,Tryz.ntmps219
 go_wp2_with fail
 go_at_call 170
 refine(unhide K _).mono ?_
 rintro e w1 ⟨rfl,hb⟩
 have HB:=hide hb
 clear K hb
 go_wp2_with fail
 go_at_call 89
 refine(unhide F4 _).mono ?_
 rintro e w2 ⟨rfl,hb⟩
 replace HB:=hide (bchain HB.out hb (Nat.le_refl _))
 clear F4 hb
 go_wp2_with fail
 go_ret2
 exact⟨rfl,HB.out⟩

theorem desc_v2 (q:Int)(a:Option Addr)(len cap:Nat)(ns:List Int)(b:Int)(w:World)(h:isSize b)(hi:IHas w a len ns)(hl:len≤17592186043904)(h4:fitB 4 [q]=true)(h2:fitB 2 ns=false) :
  Calls Tryz.prog 219 #[.int .i64 q,.slice a len cap,.int .i64 b] w fun e w'=>e=.returned (.tuple #[.slice none 0 0,.int .i64 3])∧Below w.heap.size w w':=by
 have K:Hid (∀ u,Calls Tryz.prog 170 #[.int .i64 b] u fun e w'=>e=.returned (.bool true)∧Below u.heap.size u w'):=fun u=>cblock_yes b u h
 have F4:Hid (∀ u:World,Calls Tryz.prog 89 #[.int .i64 4,.slice (some ⟨u.heap.size,0,none⟩) 1 1] (u.alloc (.cells #[.int .i64 q] 3)) fun e w'=>e=.returned (.bool true)∧Below u.heap.size u w') :=
  fun u=>fit_list 4 (.inr rfl) [q] u (by simp) _ h4
 have F2:Hid (∀ u:World,Below w.heap.size w u→Calls Tryz.prog 89 #[.int .i64 2,.slice a len cap] u fun e w'=>e=.returned (.bool false)∧u=w') :=
  fun u hb=>by have:=fit_any 2 (.inl rfl) a len cap ns u (hi.later hb) (by omega);rwa [h2] at this
 clear h hi h4 h2
 go_enter Tryz.func219,Tryz.ntmps219
 go_wp2_with fail
 go_at_call 170
 refine(unhide K _).mono ?_
 rintro e w1 ⟨rfl,hb⟩
 have HB:=hide hb
 clear K hb
 go_wp2_with fail
 go_at_call 89
 refine(unhide F4 _).mono ?_
 rintro e w2 ⟨rfl,hb⟩
 replace HB:=hide (bchain HB.out hb (Nat.le_refl _))
 clear F4 hb
 go_wp2_with fail
 go_at_call 89
 refine(unhide F2 _ HB.out).mono ?_
 rintro e w' ⟨rfl,rfl⟩
 clear F2
 go_wp2_with fail
 go_ret2
 exact⟨rfl,HB.out⟩

theorem desc_large (q:Int)(a:Option Addr)(len cap:Nat)(ns:List Int)(b:Int)(w:World)(h:isSize b)(hi:IHas w a len ns)(hl:len≤17592186043904)(h4:fitB 4 [q]=true)(h2:fitB 2 ns=true)(hn:(b - 10) / 2<(len:Int)) :
  Calls Tryz.prog 219 #[.int .i64 q,.slice a len cap,.int .i64 b] w fun e w'=>e=.returned (.tuple #[.slice none 0 0,.int .i64 5])∧Below w.heap.size w w':=by
 have hbd:=size_bd h
 have K:Hid (∀ u,Calls Tryz.prog 170 #[.int .i64 b] u fun e w'=>e=.returned (.bool true)∧Below u.heap.size u w'):=fun u=>cblock_yes b u h
 have F4:Hid (∀ u:World,Calls Tryz.prog 89 #[.int .i64 4,.slice (some ⟨u.heap.size,0,none⟩) 1 1] (u.alloc (.cells #[.int .i64 q] 3)) fun e w'=>e=.returned (.bool true)∧Below u.heap.size u w') :=
  fun u=>fit_list 4 (.inr rfl) [q] u (by simp) _ h4
 have F2:Hid (∀ u:World,Below w.heap.size w u→Calls Tryz.prog 89 #[.int .i64 2,.slice a len cap] u fun e w'=>e=.returned (.bool true)∧u=w') :=
  fun u hb=>by have:=fit_any 2 (.inl rfl) a len cap ns u (hi.later hb) (by omega);rwa [h2] at this
 have hq1:decide ((len:Int) > (b - 10) / 2)=true:=by simpa using hn
 have hq2:decide ((len:Int) > Int.tdiv (b - 10) 2)=true:=by rw[Int.tdiv_eq_ediv_of_nonneg (by omega)];exact hq1
 clear h hi h4 h2 hn
 go_enter Tryz.func219,Tryz.ntmps219
 go_wp2_with fail
 go_at_call 170
 refine(unhide K _).mono ?_
 rintro e w1 ⟨rfl,hb⟩
 have HB:=hide hb
 clear K hb
 go_wp2_with fail
 go_at_call 89
 refine(unhide F4 _).mono ?_
 rintro e w2 ⟨rfl,hb⟩
 replace HB:=hide (bchain HB.out hb (Nat.le_refl _))
 clear F4 hb
 go_wp2_with fail
 go_at_call 89
 refine(unhide F2 _ HB.out).mono ?_
 rintro e w' ⟨rfl,rfl⟩
 clear F2
 go_wp2_with fail
 go_ret2
 exact⟨rfl,HB.out⟩

theorem numbers_new (wd:Nat)(hw:wd=1∨wd=2∨wd=4)(z:Int)(hf:fitB wd [z]=true)(u:World)(g:Nat)(hg:g=u.heap.size) :
  Calls Tryz.prog 91 #[.int .i64 (wd:Int),.slice (some ⟨g,0,none⟩) 1 1] (u.alloc (.cells #[.int .i64 z] 3)) fun e w'=>∃ a c,e=.returned (.slice a wd c)∧Hid (Has w' a wd (numsB wd [z]))∧Below u.heap.size u w':=by
 subst hg
 refine(numbers_any wd hw _ 1 1 [z] _ (ihas_list u [z]) (by omega) hf wd (by simp)).mono ?_
 rintro e w' ⟨a',c',rfl,hO,hb⟩
 exact⟨a',c',rfl,hO.out.has,bchain ((Below.refl _ u).alloc (Nat.le_refl _) _) hb (Nat.le_refl _)⟩

theorem lay_three (size:Nat)(u:World)(g:Nat)(hg:g=u.heap.size)(p0 p1 p2:Option Addr)(n0 n1 n2 c0 c1 c2:Nat)(x0 x1 x2:List Int)(h0:Has u p0 n0 x0)(h1:Has u p1 n1 x1)(h2:Has u p2 n2 x2)(hs:n0+n1+n2≤size)(hsz:size≤65536) :
  Calls Tryz.prog 90 #[.int .i64 (size:Int),.slice (some ⟨g,0,none⟩) 3 3] (u.alloc (.cells #[.slice p0 n0 c0,.slice p1 n1 c1,.slice p2 n2 c2] 94)) fun e w'=>∃ g2,e=.returned (.slice (some ⟨g2,0,none⟩) size size)∧Hid (Has w' (some ⟨g2,0,none⟩) size (layB size (x0++(x1++x2))))∧Below u.heap.size u w':=by
 subst hg
 have hp:=phas_list u [(p0,n0,c0,x0),(p1,n1,c1,x1),(p2,n2,c2,x2)] (by
  intro p hp
  simp at hp
  rcases hp with rfl | rfl | rfl
  ·exact h0
  ·exact h1
  ·exact h2)
 have hall:allP [(p0,n0,c0,x0),(p1,n1,c1,x1),(p2,n2,c2,x2)]=x0++(x1++x2):=by simp[allP]
 have hle:(x0++(x1++x2)).length≤size:=by
  rw[List.length_append,List.length_append,h0.1,h1.1,h2.1];omega
 refine(clay_any size _ 3 3 _ _ hp (by omega) (by rw[hall];exact hle) (by omega)).mono ?_
 rintro e w' ⟨rfl,hB,hb⟩
 rw[hall] at hB
 exact⟨_,rfl,hB.out.has (length_layB hle),bchain ((Below.refl _ u).alloc (Nat.le_refl _) _) hb (Nat.le_refl _)⟩

theorem lay_two (size:Nat)(u:World)(g:Nat)(hg:g=u.heap.size)(p0 p1:Option Addr)(n0 n1 c0 c1:Nat)(x0 x1:List Int)(h0:Has u p0 n0 x0)(h1:Has u p1 n1 x1)(hs:n0+n1≤size)(hsz:size≤65536) :
  Calls Tryz.prog 90 #[.int .i64 (size:Int),.slice (some ⟨g,0,none⟩) 2 2] (u.alloc (.cells #[.slice p0 n0 c0,.slice p1 n1 c1] 94)) fun e w'=>∃ g2,e=.returned (.slice (some ⟨g2,0,none⟩) size size)∧u.heap.size≤g2∧Hid (Block w' g2 (layB size (x0++x1)))∧Below u.heap.size u w':=by
 subst hg
 have hp:=phas_list u [(p0,n0,c0,x0),(p1,n1,c1,x1)] (by
  intro p hp
  simp at hp
  rcases hp with rfl | rfl
  ·exact h0
  ·exact h1)
 have hall:allP [(p0,n0,c0,x0),(p1,n1,c1,x1)]=x0++x1:=by simp[allP]
 have hle:(x0++x1).length≤size:=by rw[List.length_append,h0.1,h1.1];omega
 refine(clay_any size _ 2 2 _ _ hp (by omega) (by rw[hall];exact hle) (by omega)).mono ?_
 rintro e w' ⟨rfl,hB,hb⟩
 rw[hall] at hB
 exact⟨_,rfl,by simp,hB.out,bchain ((Below.refl _ u).alloc (Nat.le_refl _) _) hb (Nat.le_refl _)⟩

theorem desc_good (q:Int)(a:Option Addr)(len cap:Nat)(ns:List Int)(b:Nat)(w:World)(h:isSize (b:Int))(hi:IHas w a len ns)(h4:fitB 4 [q]=true)(h2:fitB 2 ns=true)(hn:10+2*len≤b)(hT:Tab w) :
  Calls Tryz.prog 219 #[.int .i64 q,.slice a len cap,.int .i64 (b:Int)] w fun e w'=>∃ g,e=.returned (.tuple #[.slice (some ⟨g,0,none⟩) b b,.int .i64 0])∧w.heap.size≤g∧Hid (Block w' g (descB b q ns))∧Below w.heap.size w w':=by
 have hbd:=size_bd h
 have hlen:=hi.1
 have hq1:decide ((len:Int) > ((b:Int) - 10) / 2)=false:=by simp;omega
 have hq2:decide ((len:Int) > Int.tdiv ((b:Int) - 10) 2)=false:=by rw[Int.tdiv_eq_ediv_of_nonneg (by omega)];exact hq1
 have K:Hid (∀ u,Calls Tryz.prog 170 #[.int .i64 (b:Int)] u fun e w'=>e=.returned (.bool true)∧Below u.heap.size u w'):=fun u=>cblock_yes b u h
 have F4:Hid (∀ u:World,Calls Tryz.prog 89 #[.int .i64 4,.slice (some ⟨u.heap.size,0,none⟩) 1 1] (u.alloc (.cells #[.int .i64 q] 3)) fun e w'=>e=.returned (.bool true)∧Below u.heap.size u w') :=
  fun u=>fit_list 4 (.inr rfl) [q] u (by simp) _ h4
 have F2:Hid (∀ u:World,Below w.heap.size w u→Calls Tryz.prog 89 #[.int .i64 2,.slice a len cap] u fun e w'=>e=.returned (.bool true)∧u=w') :=
  fun u hb=>by have:=fit_any 2 (.inl rfl) a len cap ns u (hi.later hb) (by omega);rwa [h2] at this
 have N1:Hid (∀ (u:World) (g:Nat),g=u.heap.size→Calls Tryz.prog 91 #[.int .i64 4,.slice (some ⟨g,0,none⟩) 1 1] (u.alloc (.cells #[.int .i64 q] 3)) fun e w'=>∃ a c,e=.returned (.slice a 4 c)∧Hid (Has w' a 4 (numsB 4 [q]))∧Below u.heap.size u w'):=fun u g hg=>numbers_new 4 (.inr (.inr rfl)) q h4 u g hg
 have N2:Hid (∀ (u:World) (g:Nat),g=u.heap.size→Calls Tryz.prog 91 #[.int .i64 2,.slice (some ⟨g,0,none⟩) 1 1] (u.alloc (.cells #[.int .i64 (len:Int)] 3)) fun e w'=>∃ a c,e=.returned (.slice a 2 c)∧Hid (Has w' a 2 (numsB 2 [(len:Int)]))∧Below u.heap.size u w'):=fun u g hg=>numbers_new 2 (.inr (.inl rfl)) (len:Int) (by rw[fitB_iff];intro v hv;simp at hv;omega) u g hg
 obtain⟨M,hM⟩:∃ M,M=2*len:=⟨_,rfl⟩
 have N3:Hid (∀ u:World,Below w.heap.size w u→Calls Tryz.prog 91 #[.int .i64 2,.slice a len cap] u fun e w'=>∃ a c,e=.returned (.slice a M c)∧Hid (Has w' a M (numsB 2 ns))∧Below u.heap.size u w'):=fun u hb=>by
  refine(numbers_any 2 (.inr (.inl rfl)) a len cap ns u (hi.later hb) (by omega) h2 M hM).mono ?_
  rintro e w' ⟨a',c',rfl,hO,hb'⟩
  exact⟨a',c',rfl,hO.out.has,hb'⟩
 obtain⟨D,hD⟩:∃ D:Nat,D=b - 4:=⟨_,rfl⟩
 have hDi:(b:Int) - 4=(D:Int):=by omega
 have hR:layB D (numsB 4 [q]++(numsB 2 [(len:Int)]++numsB 2 ns))=descR b q ns:=by rw[descR,hD,hlen]
 have L1:Hid (∀ (u:World) (g:Nat) (p0 p1 p2:Option Addr) (c0 c1 c2:Nat),g=u.heap.size→Has u p0 4 (numsB 4 [q])→Has u p1 2 (numsB 2 [(len:Int)])→Has u p2 M (numsB 2 ns)→Calls Tryz.prog 90 #[.int .i64 (D:Int),.slice (some ⟨g,0,none⟩) 3 3] (u.alloc (.cells #[.slice p0 4 c0,.slice p1 2 c1,.slice p2 M c2] 94)) fun e w'=>∃ g2,e=.returned (.slice (some ⟨g2,0,none⟩) D D)∧Hid (Has w' (some ⟨g2,0,none⟩) D (descR b q ns))∧Below u.heap.size u w'):=fun u g p0 p1 p2 c0 c1 c2 hg x0 x1 x2=>by
  have:=lay_three D u g hg p0 p1 p2 4 2 M c0 c1 c2 _ _ _ x0 x1 x2 (by omega) (by omega)
  rwa [hR] at this
 have KS:Hid (∀ u g,Below w.heap.size w u→Has u (some ⟨g,0,none⟩) D (descR b q ns)→Calls Tryz.prog 214 #[.slice (some ⟨g,0,none⟩) D D] u fun e w'=>e=.returned (.int .i64 ((sumS (descR b q ns):Nat):Int))∧u=w'):=fun u g hb hh=>sum_any _ D D _ u (hT.below hb (tab_size hT)) hh (by omega) (descR_byts b q ns)
 have hfs:=fitB_sum (descR_byts b q ns)
 have HQ:Hid (descB b q ns=layB b (numsB 4 [((sumS (descR b q ns):Nat):Int)]++descR b q ns)):=by rw[numsB_one];rfl
 generalize descR b q ns=R at *
 generalize sumS R=S at *
 have N4:Hid (∀ (u:World) (g:Nat),g=u.heap.size→Calls Tryz.prog 91 #[.int .i64 4,.slice (some ⟨g,0,none⟩) 1 1] (u.alloc (.cells #[.int .i64 (S:Int)] 3)) fun e w'=>∃ a c,e=.returned (.slice a 4 c)∧Hid (Has w' a 4 (numsB 4 [(S:Int)]))∧Below u.heap.size u w'):=fun u g hg=>numbers_new 4 (.inr (.inr rfl)) _ hfs u g hg
 have L2:Hid (∀ (u:World) (g:Nat) (p0 p1:Option Addr) (c0 c1:Nat),g=u.heap.size→Has u p0 4 (numsB 4 [(S:Int)])→Has u p1 D R→Calls Tryz.prog 90 #[.int .i64 (b:Int),.slice (some ⟨g,0,none⟩) 2 2] (u.alloc (.cells #[.slice p0 4 c0,.slice p1 D c1] 94)) fun e w'=>∃ g2,e=.returned (.slice (some ⟨g2,0,none⟩) b b)∧u.heap.size≤g2∧Hid (Block w' g2 (descB b q ns))∧Below u.heap.size u w'):=fun u g p0 p1 c0 c1 hg x0 x1=>by
  have:=lay_two b u g hg p0 p1 4 D c0 c1 _ _ x0 x1 (by omega) (by omega)
  rwa [← HQ.out] at this
 clear h hi h4 h2 hn hT hlen hM hD hR hfs HQ
 go_enter Tryz.func219,Tryz.ntmps219
 go_wp2_with fail
 go_at_call 170
 refine(unhide K _).mono ?_
 rintro e w1 ⟨rfl,hb⟩
 have HB:=hide hb
 clear K hb
 go_wp2_with fail
 go_at_call 89
 refine(unhide F4 _).mono ?_
 rintro e w2 ⟨rfl,hb⟩
 replace HB:=hide (bchain HB.out hb (Nat.le_refl _))
 clear F4 hb
 go_wp2_with fail
 go_at_call 89
 refine(unhide F2 _ HB.out).mono ?_
 rintro e w' ⟨rfl,rfl⟩
 clear F2
 go_wp2_with fail
 go_at_call 91
 refine(unhide N1 _ _ rfl).mono ?_
 rintro e w3 ⟨a3,c3,rfl,x3,hb⟩
 replace HB:=hide (bchain HB.out hb (Nat.le_refl _))
 clear N1 hb
 go_wp2_with fail
 go_at_call 91
 refine(unhide N2 _ _ rfl).mono ?_
 rintro e w4 ⟨a4,c4,rfl,x4,hb⟩
 replace HB:=hide (bchain HB.out hb (Nat.le_refl _))
 replace x3:=hide (x3.out.later hb)
 clear N2 hb
 go_wp2_with fail
 go_at_call 91
 refine(unhide N3 _ HB.out).mono ?_
 rintro e w5 ⟨a5,c5,rfl,x5,hb⟩
 replace HB:=hide (bchain HB.out hb (Nat.le_refl _))
 replace x3:=hide (x3.out.later hb)
 replace x4:=hide (x4.out.later hb)
 clear N3 hb
 go_wp2_with fail
 go_at_call 90
 refine(unhide L1 _ _ _ _ _ _ _ _ rfl x3.out x4.out x5.out).mono ?_
 rintro e w6 ⟨g6,rfl,x6,hb⟩
 replace HB:=hide (bchain HB.out hb (Nat.le_refl _))
 clear L1 hb x3 x4 x5
 go_wp2_with fail
 go_at_call 214
 refine(unhide KS _ _ HB.out x6.out).mono ?_
 rintro e w' ⟨rfl,rfl⟩
 clear KS
 go_wp2_with fail
 go_at_call 91
 refine(unhide N4 _ _ rfl).mono ?_
 rintro e w7 ⟨a7,c7,rfl,x7,hb⟩
 replace HB:=hide (bchain HB.out hb (Nat.le_refl _))
 replace x6:=hide (x6.out.later hb)
 clear N4 hb
 go_wp2_with fail
 go_at_call 90
 refine(unhide L2 _ _ _ _ _ _ rfl x7.out x6.out).mono ?_
 rintro e w8 ⟨g8,rfl,hg8,x8,hb⟩
 have hg:Hid (w.heap.size≤g8):=Nat.le_trans HB.out.size hg8
 replace HB:=hide (bchain HB.out hb (Nat.le_refl _))
 clear L2 hb x6 x7 hg8
 go_wp2_with fail
 go_ret2
 exact⟨g8,rfl,hg.out,x8,HB.out⟩

theorem desc_value (q:Int)(a:Option Addr)(len cap:Nat)(ns:List Int)(b:Int)(w:World)(h:isSize b)(hi:IHas w a len ns)(hl:len≤17592186043904)(hf:descF q ns=false) :
  Calls Tryz.prog 219 #[.int .i64 q,.slice a len cap,.int .i64 b] w fun e w'=>e=.returned (.tuple #[.slice none 0 0,.int .i64 3])∧Below w.heap.size w w':=by
 unfold descF at hf
 by_cases h4:fitB 4 [q]=true
 ·exact desc_v2 q a len cap ns b w h hi hl h4 (by rw[h4] at hf;simpa using hf)
 ·exact desc_v4 q a len cap ns b w h (by simpa using h4)

theorem desc_err (q:Int)(a:Option Addr)(len cap:Nat)(ns:List Int)(b:Int)(w:World)(hi:IHas w a len ns)(hl:len≤17592186043904)(he:descE b q ns≠0) :
  Calls Tryz.prog 219 #[.int .i64 q,.slice a len cap,.int .i64 b] w fun e w'=>e=.returned (.tuple #[.slice none 0 0,.int .i64 (descE b q ns)])∧Below w.heap.size w w':=by
 have hlen:=hi.1
 unfold descE at he ⊢
 by_cases h:isSize b
 ·rw[if_pos (show (b=64∨b=128∨b=256∨b=512∨b=1024∨b=2048∨b=4096) from h)] at he ⊢
  by_cases hf:descF q ns=true
  ·rw[if_pos hf] at he ⊢
   by_cases hn:(b - 10) / 2<(ns.length:Int)
   ·rw[if_pos hn]
    unfold descF at hf
    rw[Bool.and_eq_true] at hf
    exact desc_large q a len cap ns b w h hi hl hf.1 hf.2 (by rw[← hlen];exact hn)
   ·rw[if_neg hn] at he;exact absurd rfl he
  ·rw[if_neg hf]
   exact desc_value q a len cap ns b w h hi hl (by simpa using hf)
 ·rw[if_neg (show ¬ (b=64∨b=128∨b=256∨b=512∨b=1024∨b=2048∨b=4096) from h)]
  exact desc_arg q a len cap ns b w h

theorem desc_ok (q:Int)(a:Option Addr)(len cap:Nat)(ns:List Int)(b:Nat)(w:World)(hi:IHas w a len ns)(hT:Tab w)(he:descE (b:Int) q ns=0) :
  Calls Tryz.prog 219 #[.int .i64 q,.slice a len cap,.int .i64 (b:Int)] w fun e w'=>∃ g,e=.returned (.tuple #[.slice (some ⟨g,0,none⟩) b b,.int .i64 0])∧w.heap.size≤g∧Hid (Block w' g (descB b q ns))∧Below w.heap.size w w':=by
 have hlen:=hi.1
 unfold descE at he
 by_cases h:isSize (b:Int)
 ·have hbd:=size_bd h
  rw[if_pos (show ((b:Int)=64∨(b:Int)=128∨(b:Int)=256∨(b:Int)=512∨(b:Int)=1024∨(b:Int)=2048∨(b:Int)=4096) from h)] at he
  by_cases hf:descF q ns=true
  ·rw[if_pos hf] at he
   by_cases hn:((b:Int) - 10) / 2<(ns.length:Int)
   ·rw[if_pos hn] at he;omega
   ·unfold descF at hf
    rw[Bool.and_eq_true] at hf
    exact desc_good q a len cap ns b w h hi hf.1 hf.2 (by omega) hT
  ·rw[if_neg hf] at he;omega
 ·rw[if_neg (show ¬ ((b:Int)=64∨(b:Int)=128∨(b:Int)=256∨(b:Int)=512∨(b:Int)=1024∨(b:Int)=2048∨(b:Int)=4096) from h)] at he;omega

def zeroH:Nat→Int:=fun _=>0

theorem readH_err (H:Nat→Int)(g1:Nat)(a:Option Addr)(len cap:Nat)(q:Int)(w:World)(hq:(q != 0)=true)(HT:Hid (∀ u,Below w.heap.size w u→Calls Tryz.prog 178 #[.slice a len cap] u fun e w'=>e=.returned (Hv H)∧Below u.heap.size u w'))(HW:Hid (∀ u,Below w.heap.size w u→Calls Tryz.prog 179 #[Hv H,.pointer (some ⟨g1,0,none⟩)] u fun e w'=>e=.returned (.tuple #[.slice none 0 0,.int .i64 q])∧Below u.heap.size u w')) :
  Calls Tryz.prog 177 #[.slice a len cap,.func (.func 178) #[] #[],.func (.func 179) #[] #[.pointer (some ⟨g1,0,none⟩)]] w fun e w'=>e=.returned (.tuple #[.agg #[.int .i64 0,.int .i64 0,.int .i64 0],.int .i64 4])∧Below w.heap.size w w':=by
 have hb0:Below w.heap.size w (w.alloc (.cells (#[.int .i64 0,.int .i64 0,.int .i64 0]) 81)):=(Below.refl _ w).alloc (Nat.le_refl _) _
 have HZ:=hide (Bl.new w (#[.int .i64 0,.int .i64 0,.int .i64 0]) 81)
 have HB:=hide hb0
 clear hb0
 go_enter Tryz.func177,Tryz.ntmps177
 go_wp2_with fail
 go_at_call 178
 refine(unhide HT _ HB.out).mono ?_
 rintro e w1 ⟨rfl,hb⟩
 replace HZ:=hide ((HZ.out.call hb).alloc (.cells (Hc H) 81))
 replace HB:=hide ((bchain HB.out hb (Nat.le_refl _)).alloc (bchain HB.out hb (Nat.le_refl _)).size (.cells (Hc H) 81))
 have HV:=hide (Bl.new w1 (Hc H) 81)
 clear hb HT
 go_wp2_with fail
 go_at_call 179
 refine(unhide HW _ HB.out).mono ?_
 rintro e w2 ⟨rfl,hb⟩
 replace HZ:=hide ((HZ.out.call hb).alloc (.cells (#[.int .i64 0,.int .i64 0,.int .i64 0]) 81))
 replace HB:=hide ((bchain HB.out hb (Nat.le_refl _)).alloc (bchain HB.out hb (Nat.le_refl _)).size (.cells (#[.int .i64 0,.int .i64 0,.int .i64 0]) 81))
 clear hb HW HV
 have z0:=HZ.out.cell 0 _ rfl
 have z1:=HZ.out.cell 1 _ rfl
 have z2:=HZ.out.cell 2 _ rfl
 have hz:=HZ.out.free
 go_wp2_with fail
 have hW:Below w.heap.size w (setAll (w2.alloc (.cells (#[.int .i64 0,.int .i64 0,.int .i64 0]) 81)) w.heap.size 0 [.int .i64 0,.int .i64 0,.int .i64 0]):=below_setAll (Nat.le_refl _) _ _ _ _ HB.out
 have hA:Bl (setAll (w2.alloc (.cells (#[.int .i64 0,.int .i64 0,.int .i64 0]) 81)) w.heap.size 0 [.int .i64 0,.int .i64 0,.int .i64 0]) w.heap.size (#[.int .i64 0,.int .i64 0,.int .i64 0]) 81:=setAll_whole [.int .i64 0,.int .i64 0,.int .i64 0] _ _ HZ.out rfl
 change bodyPost _ _ _ _ _ (setAll (w2.alloc (.cells (#[.int .i64 0,.int .i64 0,.int .i64 0]) 81)) w.heap.size 0 [.int .i64 0,.int .i64 0,.int .i64 0])
 generalize setAll (w2.alloc (.cells (#[.int .i64 0,.int .i64 0,.int .i64 0]) 81)) w.heap.size 0 [.int .i64 0,.int .i64 0,.int .i64 0]=wf at *
 refine bodyPost_ret (v:=.tuple #[.agg #[.int .i64 0,.int .i64 0,.int .i64 0],.int .i64 4]) ?_ rfl ⟨rfl,hW⟩
 simp[results,Tryz.results177,go_sem,hA.cell 0 _ rfl,hA.cell 1 _ rfl,hA.cell 2 _ rfl]

theorem readH_other (H:Nat→Int)(g1:Nat)(a:Option Addr)(len cap:Nat)(w:World)(xs zs:List Int)(hh:Has w a len zs)(hz0:∀ z∈zs,0≤z∧z≤255)(hx:∀ z∈xs,0≤z∧z≤255)(he:decide (xs=zs)=false)(HT:Hid (∀ u,Below w.heap.size w u→Calls Tryz.prog 178 #[.slice a len cap] u fun e w'=>e=.returned (Hv H)∧Below u.heap.size u w'))(HW:Hid (∀ u,Below w.heap.size w u→Calls Tryz.prog 179 #[Hv H,.pointer (some ⟨g1,0,none⟩)] u fun e w'=>∃ a' n' c',e=.returned (.tuple #[.slice a' n' c',.int .i64 0])∧Hid (Has w' a' n' xs)∧Below u.heap.size u w')) :
  Calls Tryz.prog 177 #[.slice a len cap,.func (.func 178) #[] #[],.func (.func 179) #[] #[.pointer (some ⟨g1,0,none⟩)]] w fun e w'=>e=.returned (.tuple #[.agg #[.int .i64 0,.int .i64 0,.int .i64 0],.int .i64 4])∧Below w.heap.size w w':=by
 have HH:=hide hh
 clear hh
 have hb0:Below w.heap.size w (w.alloc (.cells (#[.int .i64 0,.int .i64 0,.int .i64 0]) 81)):=(Below.refl _ w).alloc (Nat.le_refl _) _
 have HZ:=hide (Bl.new w (#[.int .i64 0,.int .i64 0,.int .i64 0]) 81)
 have HB:=hide hb0
 clear hb0
 go_enter Tryz.func177,Tryz.ntmps177
 go_wp2_with fail
 go_at_call 178
 refine(unhide HT _ HB.out).mono ?_
 rintro e w1 ⟨rfl,hb⟩
 replace HZ:=hide ((HZ.out.call hb).alloc (.cells (Hc H) 81))
 replace HB:=hide ((bchain HB.out hb (Nat.le_refl _)).alloc (bchain HB.out hb (Nat.le_refl _)).size (.cells (Hc H) 81))
 have HV:=hide (Bl.new w1 (Hc H) 81)
 clear hb HT
 go_wp2_with fail
 go_at_call 179
 refine(unhide HW _ HB.out).mono ?_
 rintro e w2 ⟨a',n',c',rfl,hx',hb⟩
 replace HZ:=hide (HZ.out.call hb)
 replace HB:=hide (bchain HB.out hb (Nat.le_refl _))
 replace HV:=hide (HV.out.call hb)
 have KE:Hid (Calls Tryz.prog 148 #[.slice a' n' c',.slice a len cap] w2 fun e w'=>e=.returned (.bool false)∧w2=w'):=by
  have:=equal_any a' a n' c' len cap xs zs w2 hx'.out ((HH.out).later HB.out) hx hz0
  rwa [he] at this
 clear hb HW hx'
 go_wp2_with fail
 go_at_call 148
 refine(unhide KE).mono ?_
 rintro e w' ⟨rfl,rfl⟩
 clear KE
 replace HZ:=hide (HZ.out.alloc (.cells (#[.int .i64 0,.int .i64 0,.int .i64 0]) 81))
 replace HB:=hide (HB.out.alloc HB.out.size (.cells (#[.int .i64 0,.int .i64 0,.int .i64 0]) 81))
 clear HV HH hz0 hx he
 have z0:=HZ.out.cell 0 _ rfl
 have z1:=HZ.out.cell 1 _ rfl
 have z2:=HZ.out.cell 2 _ rfl
 have hz:=HZ.out.free
 go_wp2_with fail
 have hW:Below w.heap.size w (setAll (w2.alloc (.cells (#[.int .i64 0,.int .i64 0,.int .i64 0]) 81)) w.heap.size 0 [.int .i64 0,.int .i64 0,.int .i64 0]):=below_setAll (Nat.le_refl _) _ _ _ _ HB.out
 have hA:Bl (setAll (w2.alloc (.cells (#[.int .i64 0,.int .i64 0,.int .i64 0]) 81)) w.heap.size 0 [.int .i64 0,.int .i64 0,.int .i64 0]) w.heap.size (#[.int .i64 0,.int .i64 0,.int .i64 0]) 81:=setAll_whole [.int .i64 0,.int .i64 0,.int .i64 0] _ _ HZ.out rfl
 change bodyPost _ _ _ _ _ (setAll (w2.alloc (.cells (#[.int .i64 0,.int .i64 0,.int .i64 0]) 81)) w.heap.size 0 [.int .i64 0,.int .i64 0,.int .i64 0])
 generalize setAll (w2.alloc (.cells (#[.int .i64 0,.int .i64 0,.int .i64 0]) 81)) w.heap.size 0 [.int .i64 0,.int .i64 0,.int .i64 0]=wf at *
 refine bodyPost_ret (v:=.tuple #[.agg #[.int .i64 0,.int .i64 0,.int .i64 0],.int .i64 4]) ?_ rfl ⟨rfl,hW⟩
 simp[results,Tryz.results177,go_sem,hA.cell 0 _ rfl,hA.cell 1 _ rfl,hA.cell 2 _ rfl]

theorem readH_same (H:Nat→Int)(g1:Nat)(a:Option Addr)(len cap:Nat)(w:World)(xs zs:List Int)(hh:Has w a len zs)(hz0:∀ z∈zs,0≤z∧z≤255)(hx:∀ z∈xs,0≤z∧z≤255)(he:decide (xs=zs)=true)(HT:Hid (∀ u,Below w.heap.size w u→Calls Tryz.prog 178 #[.slice a len cap] u fun e w'=>e=.returned (Hv H)∧Below u.heap.size u w'))(HW:Hid (∀ u,Below w.heap.size w u→Calls Tryz.prog 179 #[Hv H,.pointer (some ⟨g1,0,none⟩)] u fun e w'=>∃ a' n' c',e=.returned (.tuple #[.slice a' n' c',.int .i64 0])∧Hid (Has w' a' n' xs)∧Below u.heap.size u w')) :
  Calls Tryz.prog 177 #[.slice a len cap,.func (.func 178) #[] #[],.func (.func 179) #[] #[.pointer (some ⟨g1,0,none⟩)]] w fun e w'=>e=.returned (.tuple #[Hv H,.int .i64 0])∧Below w.heap.size w w':=by
 have HH:=hide hh
 clear hh
 have hb0:Below w.heap.size w (w.alloc (.cells (#[.int .i64 0,.int .i64 0,.int .i64 0]) 81)):=(Below.refl _ w).alloc (Nat.le_refl _) _
 have HZ:=hide (Bl.new w (#[.int .i64 0,.int .i64 0,.int .i64 0]) 81)
 have HB:=hide hb0
 clear hb0
 go_enter Tryz.func177,Tryz.ntmps177
 go_wp2_with fail
 go_at_call 178
 refine(unhide HT _ HB.out).mono ?_
 rintro e w1 ⟨rfl,hb⟩
 replace HZ:=hide ((HZ.out.call hb).alloc (.cells (Hc H) 81))
 replace HB:=hide ((bchain HB.out hb (Nat.le_refl _)).alloc (bchain HB.out hb (Nat.le_refl _)).size (.cells (Hc H) 81))
 have HV:=hide (Bl.new w1 (Hc H) 81)
 clear hb HT
 go_wp2_with fail
 go_at_call 179
 refine(unhide HW _ HB.out).mono ?_
 rintro e w2 ⟨a',n',c',rfl,hx',hb⟩
 replace HZ:=hide (HZ.out.call hb)
 replace HB:=hide (bchain HB.out hb (Nat.le_refl _))
 replace HV:=hide (HV.out.call hb)
 have KE:Hid (Calls Tryz.prog 148 #[.slice a' n' c',.slice a len cap] w2 fun e w'=>e=.returned (.bool true)∧w2=w'):=by
  have:=equal_any a' a n' c' len cap xs zs w2 hx'.out ((HH.out).later HB.out) hx hz0
  rwa [he] at this
 clear hb HW hx'
 go_wp2_with fail
 go_at_call 148
 refine(unhide KE).mono ?_
 rintro e w' ⟨rfl,rfl⟩
 clear KE
 clear HH hz0 hx he
 have z0:=HZ.out.cell 0 _ rfl
 have z1:=HZ.out.cell 1 _ rfl
 have z2:=HZ.out.cell 2 _ rfl
 have v0:=HV.out.cell 0 _ rfl
 have v1:=HV.out.cell 1 _ rfl
 have v2:=HV.out.cell 2 _ rfl
 have hz:=HZ.out.free
 go_wp2_with fail
 have hW:Below w.heap.size w (setAll w2 w.heap.size 0 [.int .i64 (H 0),.int .i64 (H 1),.int .i64 (H 2)]):=below_setAll (Nat.le_refl _) _ _ _ _ HB.out
 have hA:Bl (setAll w2 w.heap.size 0 [.int .i64 (H 0),.int .i64 (H 1),.int .i64 (H 2)]) w.heap.size (Hc H) 81:=setAll_whole [.int .i64 (H 0),.int .i64 (H 1),.int .i64 (H 2)] _ _ HZ.out rfl
 change bodyPost _ _ _ _ _ (setAll w2 w.heap.size 0 [.int .i64 (H 0),.int .i64 (H 1),.int .i64 (H 2)])
 generalize setAll w2 w.heap.size 0 [.int .i64 (H 0),.int .i64 (H 1),.int .i64 (H 2)]=wf at *
 refine bodyPost_ret (v:=.tuple #[Hv H,.int .i64 0]) ?_ rfl ⟨rfl,hW⟩
 simp[results,Tryz.results177,go_sem,hA.cell 0 _ rfl,hA.cell 1 _ rfl,hA.cell 2 _ rfl]

def hdrOf (zs:List Int):Nat→Int
 | 0=>getVal zs 4 4
 | 1=>getVal zs 8 2
 | _=>getVal zs 10 2

theorem takeHeader_any (a:Option Addr)(len cap:Nat)(zs:List Int)(w:World)(hr:Row w.heap.size w a len cap zs) :
  Calls Tryz.prog 178 #[.slice a len cap] w fun e w'=>e=.returned (Hv (hdrOf zs))∧Below w.heap.size w w':=by
 have KG:Hid (∀ (at' n:Int) (u:World),at'≤1000→Below w.heap.size w u→Calls Tryz.prog 149 #[.slice a len cap,.int .i64 at',.int .i64 n] u fun e w'=>e=.returned (.int .i64 (getVal zs at' n))∧Below u.heap.size u w') :=
  fun at' n u h1 hb=>get_drop a len cap zs at' n u (hr.below hb hb.size) (by omega)
 have HZ:=hide (Bl.new w #[.int .i64 0,.int .i64 0,.int .i64 0] 81)
 have HB:=hide ((Below.refl _ w).alloc (Nat.le_refl _) (.cells #[.int .i64 0,.int .i64 0,.int .i64 0] 81))
 clear hr
 change Calls Tryz.prog 178 #[.slice a len cap] w fun e w'=>e=.returned (.agg #[.int .i64 (getVal zs 4 4),.int .i64 (getVal zs 8 2),.int .i64 (getVal zs 10 2)])∧Below w.heap.size w w'
 go_enter Tryz.func178,Tryz.ntmps178
 go_wp2_with fail
 go_at_call 149
 refine(unhide KG _ _ _ (by omega) HB.out).mono ?_
 rintro e w1 ⟨rfl,hb⟩
 replace HB:=hide (bchain HB.out hb (Nat.le_refl _))
 replace HZ:=hide (HZ.out.call hb)
 clear hb
 go_wp2_with fail
 go_at_call 149
 refine(unhide KG _ _ _ (by omega) HB.out).mono ?_
 rintro e w2 ⟨rfl,hb⟩
 replace HB:=hide (bchain HB.out hb (Nat.le_refl _))
 replace HZ:=hide (HZ.out.call hb)
 clear hb
 go_wp2_with fail
 go_at_call 149
 refine(unhide KG _ _ _ (by omega) HB.out).mono ?_
 rintro e w3 ⟨rfl,hb⟩
 replace HB:=hide (bchain HB.out hb (Nat.le_refl _))
 replace HZ:=hide (HZ.out.call hb)
 clear hb
 have z0:=HZ.out.cell 0 _ rfl
 have z1:=HZ.out.cell 1 _ rfl
 have z2:=HZ.out.cell 2 _ rfl
 have hz:=HZ.out.free
 clear KG
 go_wp2_with fail
 have hW:Below w.heap.size w (setAll w3 w.heap.size 0 [.int .i64 (getVal zs 4 4),.int .i64 (getVal zs 8 2),.int .i64 (getVal zs 10 2)]):=below_setAll (Nat.le_refl _) _ _ _ _ HB.out
 have hA:Bl (setAll w3 w.heap.size 0 [.int .i64 (getVal zs 4 4),.int .i64 (getVal zs 8 2),.int .i64 (getVal zs 10 2)]) w.heap.size #[.int .i64 (getVal zs 4 4),.int .i64 (getVal zs 8 2),.int .i64 (getVal zs 10 2)] 81:=setAll_whole [.int .i64 (getVal zs 4 4),.int .i64 (getVal zs 8 2),.int .i64 (getVal zs 10 2)] _ _ HZ.out rfl
 change bodyPost _ _ _ _ _ (setAll w3 w.heap.size 0 [.int .i64 (getVal zs 4 4),.int .i64 (getVal zs 8 2),.int .i64 (getVal zs 10 2)])
 generalize setAll w3 w.heap.size 0 [.int .i64 (getVal zs 4 4),.int .i64 (getVal zs 8 2),.int .i64 (getVal zs 10 2)]=wf at *
 refine bodyPost_ret (v:=.agg #[.int .i64 (getVal zs 4 4),.int .i64 (getVal zs 8 2),.int .i64 (getVal zs 10 2)]) ?_ rfl ⟨rfl,hW⟩
 simp[results,Tryz.results178,go_sem,hA.cell 0 _ rfl,hA.cell 1 _ rfl,hA.cell 2 _ rfl]

theorem getVal_bound {zs:List Int}(hz:∀ z∈zs,0≤z∧z≤255)(at':Int)(n:Nat):0≤getVal zs at' n∧getVal zs at' n<256 ^ n:=by
 unfold getVal
 have hp:(0:Int)<256 ^ n:=Int.pow_pos (by omega)
 split
 ·have hb:=num_bound ((zs.drop at'.toNat).take (n:Int).toNat) (fun z h=>hz z (List.mem_of_mem_drop (List.mem_of_mem_take h)))
  refine⟨hb.1,Int.lt_of_lt_of_le hb.2 ?_⟩
  have hle:((zs.drop at'.toNat).take (n:Int).toNat).length≤n:=by rw[List.length_take,Int.toNat_natCast];omega
  generalize ((zs.drop at'.toNat).take (n:Int).toNat).length=k at hle
  have h1:=Nat.pow_le_pow_right (n:=256) (by omega) hle
  have e1:((256 ^ k:Nat):Int)=256 ^ k:=by rw[Int.natCast_pow];rfl
  have e2:((256 ^ n:Nat):Int)=256 ^ n:=by rw[Int.natCast_pow];rfl
  rw[← e1,← e2]
  exact Int.ofNat_le.2 h1
 ·exact⟨Int.le_refl _,hp⟩

theorem hdrF_of {zs:List Int}(hz:∀ z∈zs,0≤z∧z≤255):hdrF (hdrOf zs)=true:=by
 unfold hdrF
 rw[Bool.and_eq_true,fitB_iff,fitB_iff]
 refine⟨fun v hv=>?_,fun v hv=>?_⟩
 ·simp only[List.mem_cons,List.not_mem_nil,or_false] at hv
  subst hv
  exact getVal_bound hz 4 4
 ·simp only[List.mem_cons,List.not_mem_nil,or_false] at hv
  rcases hv with rfl | rfl
  ·exact getVal_bound hz 8 2
  ·exact getVal_bound hz 10 2

theorem unheader1 (H:Nat→Int)(g1:Nat)(a:Option Addr)(len cap:Nat)(w:World)(hc:w.cell? ⟨g1,0,none⟩=some (.slice a len cap))(q:Int)(S:Value→World→Prop)
  (K:Hid (∀ u,Below w.heap.size w u→Calls Tryz.prog 123 #[Hv H,.int .i64 (len:Int)] u fun e w'=>∃ a' n' c',e=.returned (.tuple #[.slice a' n' c',.int .i64 q])∧Hid (S (.slice a' n' c') w')∧Below u.heap.size u w')) :
  Calls Tryz.prog 179 #[Hv H,.pointer (some ⟨g1,0,none⟩)] w fun e w'=>∃ a' n' c',e=.returned (.tuple #[.slice a' n' c',.int .i64 q])∧Hid (S (.slice a' n' c') w')∧Below w.heap.size w w':=by
 have hb0:Below w.heap.size w (w.alloc (.cells (Hc H) 81)):=(Below.refl _ w).alloc (Nat.le_refl _) _
 have hc1:(w.alloc (.cells (Hc H) 81)).cell? ⟨g1,0,none⟩=some (.slice a len cap):=(hb0.cell (cell_block_lt hc)).trans hc
 have K':=hide (K.out _ hb0)
 have HB:=hide hb0
 clear hc K hb0
 go_enter Tryz.func179,Tryz.ntmps179
 go_wp2_with fail
 go_at_call 123
 refine(unhide K').mono ?_
 rintro e w1 ⟨a',n',c',rfl,hS,hb⟩
 replace HB:=hide (bchain HB.out hb (Nat.le_refl _))
 clear hb K' hc1
 go_wp2_with fail
 go_ret2
 exact⟨a',n',c',rfl,hS,HB.out⟩

theorem cells_len {zs:List Int}{b:Nat}{L:List Int}(hL:L.length=12)(hb:16≤b):(sumB b L).length=b:=by
 unfold sumB
 exact length_layB (by rw[List.length_append,length_digits,hL];omega)

theorem sumB_byts {b:Nat}{L:List Int}(h:Byts L):∀ z∈sumB b L,0≤z∧z≤255:=by
 refine layB_byte _ _ fun z hz=>?_
 rcases List.mem_append.1 hz with hz | hz
 ·exact h z hz
 ·exact digits_byte _ _ z hz

theorem unheader_w (H:Nat→Int)(q:Int)(a:Option Addr)(len cap:Nat)(w:World)(K:Hid (∀ u,Below w.heap.size w u→u.cell? ⟨w.heap.size,0,none⟩=some (.slice a len cap)→Calls Tryz.prog 177 #[.slice a len cap,.func (.func 178) #[] #[],.func (.func 179) #[] #[.pointer (some ⟨w.heap.size,0,none⟩)]] u fun e w'=>e=.returned (.tuple #[Hv H,.int .i64 q])∧Below u.heap.size u w')) :
  Calls Tryz.prog 126 #[.slice a len cap] w fun e w'=>e=.returned (.tuple #[Hv H,.int .i64 q])∧Below w.heap.size w w':=by
 have hb1:Below w.heap.size w (w.alloc (.cells #[.slice a len cap] 94)):=(Below.refl _ w).alloc (Nat.le_refl _) _
 have hb2:Below w.heap.size w ((w.alloc (.cells #[.slice a len cap] 94)).alloc (.cells #[.int .i64 0,.int .i64 0,.int .i64 0] 81)):=hb1.alloc hb1.size _
 have HZ:Hid (Bl ((w.alloc (.cells #[.slice a len cap] 94)).alloc (.cells #[.int .i64 0,.int .i64 0,.int .i64 0] 81)) (w.heap.size+1) #[.int .i64 0,.int .i64 0,.int .i64 0] 81):=by
  have:=Bl.new (w.alloc (.cells #[.slice a len cap] 94)) #[.int .i64 0,.int .i64 0,.int .i64 0] 81
  have e:(w.alloc (.cells #[.slice a len cap] 94)).heap.size=w.heap.size+1:=by simp
  rw[e] at this
  exact this
 have hc:((w.alloc (.cells #[.slice a len cap] 94)).alloc (.cells #[.int .i64 0,.int .i64 0,.int .i64 0] 81)).cell? ⟨w.heap.size,0,none⟩=some (.slice a len cap):=((Bl.new w #[.slice a len cap] 94).alloc _).cell 0 _ rfl
 have K':=hide (K.out _ hb2 hc)
 have HB:=hide hb2
 clear K hb1 hb2
 go_enter Tryz.func126,Tryz.ntmps126
 go_wp2_with fail
 go_at_call 177
 refine(unhide K').mono ?_
 rintro e w1 ⟨rfl,hb⟩
 replace HB:=hide (bchain HB.out hb (Nat.le_refl _))
 replace HZ:=hide (HZ.out.call hb)
 clear hb K' hc
 have z0:=HZ.out.cell 0 _ rfl
 have z1:=HZ.out.cell 1 _ rfl
 have z2:=HZ.out.cell 2 _ rfl
 have hz:=HZ.out.free
 go_wp2_with fail
 have hW:Below w.heap.size w (setAll w1 (w.heap.size+1) 0 [.int .i64 (H 0),.int .i64 (H 1),.int .i64 (H 2)]):=below_setAll (by omega) _ _ _ _ HB.out
 have hA:Bl (setAll w1 (w.heap.size+1) 0 [.int .i64 (H 0),.int .i64 (H 1),.int .i64 (H 2)]) (w.heap.size+1) #[.int .i64 (H 0),.int .i64 (H 1),.int .i64 (H 2)] 81:=setAll_whole [.int .i64 (H 0),.int .i64 (H 1),.int .i64 (H 2)] _ _ HZ.out rfl
 change bodyPost _ _ _ _ _ (setAll w1 (w.heap.size+1) 0 [.int .i64 (H 0),.int .i64 (H 1),.int .i64 (H 2)])
 generalize setAll w1 (w.heap.size+1) 0 [.int .i64 (H 0),.int .i64 (H 1),.int .i64 (H 2)]=wf at *
 refine bodyPost_ret (v:=.tuple #[Hv H,.int .i64 q]) ?_ rfl ⟨rfl,hW⟩
 simp[results,Tryz.results126,go_sem,hA.cell 0 _ rfl,hA.cell 1 _ rfl,hA.cell 2 _ rfl]

theorem unheader_yes (a:Option Addr)(len cap:Nat)(zs:List Int)(w:World)(hr:Row w.heap.size w a len cap zs)(hT:Tab w)(h:isSize (len:Int))(he:sumB len (hdrH (hdrOf zs))=zs) :
  Calls Tryz.prog 126 #[.slice a len cap] w fun e w'=>e=.returned (.tuple #[Hv (hdrOf zs),.int .i64 0])∧Below w.heap.size w w':=by
 refine unheader_w (hdrOf zs) 0 a len cap w fun u hb hc=>?_
 have hru:=hr.below hb hb.size
 have hTu:=hT.below hb (tab_size hT)
 refine readH_same (hdrOf zs) w.heap.size a len cap u zs zs hru.has hr.byts hr.byts (by simp) (fun u2 hb2=>takeHeader_any a len cap zs u2 (hru.below hb2 hb2.size)) fun u2 hb2=>?_
 refine(unheader1 (hdrOf zs) w.heap.size a len cap u2 ((hb2.cell (cell_block_lt hc)).trans hc) 0 (fun v w'=>∃ a' n' c',v=.slice a' n' c'∧Has w' a' n' zs) fun u3 hb3=>?_).mono ?_
 ·refine(header_good (hdrOf zs) len u3 h (hdrF_of hr.byts) ((hTu.below hb2 (tab_size hTu)).below hb3 (tab_size (hTu.below hb2 (tab_size hTu))))).mono ?_
  rintro e w' ⟨g,rfl,hg,hB,hb⟩
  refine⟨_,_,_,rfl,⟨_,_,_,rfl,?_⟩,hb⟩
  rw[he] at hB
  exact hB.out.has hr.1
 ·rintro e w' ⟨a',n',c',rfl,hS,hb⟩
  obtain⟨a2,n2,c2,e2,hh⟩:=hS.out
  cases e2
  exact⟨_,_,_,rfl,hh,hb⟩

theorem unheader_no (a:Option Addr)(len cap:Nat)(zs:List Int)(w:World)(hr:Row w.heap.size w a len cap zs)(hT:Tab w)(h:¬ (isSize (len:Int)∧sumB len (hdrH (hdrOf zs))=zs)) :
  Calls Tryz.prog 126 #[.slice a len cap] w fun e w'=>e=.returned (.tuple #[Hv zeroH,.int .i64 4])∧Below w.heap.size w w':=by
 refine unheader_w zeroH 4 a len cap w fun u hb hc=>?_
 have hru:=hr.below hb hb.size
 have hTu:=hT.below hb (tab_size hT)
 have HT:Hid (∀ u2,Below u.heap.size u u2→Calls Tryz.prog 178 #[.slice a len cap] u2 fun e w'=>e=.returned (Hv (hdrOf zs))∧Below u2.heap.size u2 w'):=fun u2 hb2=>takeHeader_any a len cap zs u2 (hru.below hb2 hb2.size)
 by_cases hs:isSize (len:Int)
 ·have he:sumB len (hdrH (hdrOf zs))≠zs:=fun e=>h ⟨hs,e⟩
  refine readH_other (hdrOf zs) w.heap.size a len cap u (sumB len (hdrH (hdrOf zs))) zs hru.has hr.byts (sumB_byts (hdrH_byts _)) (decide_eq_false he) HT fun u2 hb2=>?_
  refine(unheader1 (hdrOf zs) w.heap.size a len cap u2 ((hb2.cell (cell_block_lt hc)).trans hc) 0 (fun v w'=>∃ a' n' c',v=.slice a' n' c'∧Has w' a' n' (sumB len (hdrH (hdrOf zs)))) fun u3 hb3=>?_).mono ?_
  ·refine(header_good (hdrOf zs) len u3 hs (hdrF_of hr.byts) ((hTu.below hb2 (tab_size hTu)).below hb3 (tab_size (hTu.below hb2 (tab_size hTu))))).mono ?_
   rintro e w' ⟨g,rfl,hg,hB,hb⟩
   exact⟨_,_,_,rfl,⟨_,_,_,rfl,hB.out.has (cells_len (zs:=zs) (hdrH_length _) (by have:=size_bd hs;omega))⟩,hb⟩
  ·rintro e w' ⟨a',n',c',rfl,hS,hb⟩
   obtain⟨a2,n2,c2,e2,hh⟩:=hS.out
   cases e2
   exact⟨_,_,_,rfl,hh,hb⟩
 ·refine readH_err (hdrOf zs) w.heap.size a len cap 1 u rfl HT fun u2 hb2=>?_
  refine(unheader1 (hdrOf zs) w.heap.size a len cap u2 ((hb2.cell (cell_block_lt hc)).trans hc) 1 (fun v w'=>v=.slice none 0 0) fun u3 hb3=>?_).mono ?_
  ·refine(header_arg (hdrOf zs) len u3 hs).mono ?_
   rintro e w' ⟨rfl,hb⟩
   exact⟨_,_,_,rfl,rfl,hb⟩
  ·rintro e w' ⟨a',n',c',rfl,hS,hb⟩
   have:=hS.out
   rw[this]
   exact⟨rfl,hb⟩

theorem getVal_mid (A B:List Int)(at0 wd:Nat)(v:Int)(hA:A.length=at0)(hw:wd=1∨wd=2∨wd=4)(h:0≤v∧v<256 ^ wd):getVal (A++(digits wd v++B)) (at0:Int) (wd:Int)=v:=by
 unfold getVal
 rw[if_pos (numErr_ok hw (by rw[List.length_append,List.length_append,length_digits,hA];omega))]
 rw[Int.toNat_natCast,Int.toNat_natCast,List.drop_append_of_le_length (by omega),List.drop_of_length_le (by omega),List.nil_append,List.take_append_of_le_length (by rw[length_digits];omega),List.take_of_length_le (by rw[length_digits];omega)]
 exact num_digits wd v h.1 h.2

def encF:List (Nat×Int)→List Int
 | []=>[]
 | f::fs=>digits f.1 f.2++encF fs

def offF:List (Nat×Int)→Nat→Nat
 | [],_=>0
 | _,0=>0
 | f::fs,k+1=>f.1+offF fs k

theorem getVal_field:∀ (fs:List (Nat×Int)) (k:Nat) (wd:Nat) (v:Int) (pre R:List Int),fs[k]?=some (wd,v)→(wd=1∨wd=2∨wd=4)→0≤v∧v<256 ^ wd→getVal (pre++(encF fs++R)) ((pre.length+offF fs k:Nat):Int) (wd:Int)=v
 | [],k,wd,v,pre,R,h,hw,hv=>by cases h
 | f::fs,0,wd,v,pre,R,h,hw,hv=>by
  simp at h
  subst h
  rw[encF,List.append_assoc]
  exact getVal_mid pre _ _ wd v (by simp[offF]) hw hv
 | f::fs,k+1,wd,v,pre,R,h,hw,hv=>by
  have ih:=getVal_field fs k wd v (pre++digits f.1 f.2) R (by simpa using h) hw hv
  rw[List.append_assoc] at ih
  rw[encF,List.append_assoc]
  rw[List.length_append,length_digits] at ih
  rw[offF,← Nat.add_assoc]
  exact ih

theorem fit_in {wd:Nat}{ns:List Int}(h:fitB wd ns=true)(v:Int)(hv:v∈ns):0≤v∧v<256 ^ wd:=fitB_iff.1 h v hv

theorem hdr_back {H:Nat→Int}(hf:hdrF H=true)(n:Nat):Hv (hdrOf (sumB n (hdrH H)))=Hv H:=by
 unfold hdrF at hf
 rw[Bool.and_eq_true] at hf
 obtain⟨R,hR⟩:∃ R,sumB n (hdrH H)=slog++(encF [(4,H 0),(2,H 1),(2,H 2)]++R):=⟨_,by simp only[sumB,layB,hdrH,numsB,encF,List.map_cons,List.map_nil,List.flatten_cons,List.flatten_nil,List.append_nil,List.append_assoc];rfl⟩
 rw[hR]
 have e0:getVal (slog++(encF [(4,H 0),(2,H 1),(2,H 2)]++R)) 4 4=H 0:=getVal_field _ 0 4 (H 0) slog R rfl (by omega) (fit_in hf.1 _ (by simp))
 have e1:getVal (slog++(encF [(4,H 0),(2,H 1),(2,H 2)]++R)) 8 2=H 1:=getVal_field _ 1 2 (H 1) slog R rfl (by omega) (fit_in hf.2 _ (by simp))
 have e2:getVal (slog++(encF [(4,H 0),(2,H 1),(2,H 2)]++R)) 10 2=H 2:=getVal_field _ 2 2 (H 2) slog R rfl (by omega) (fit_in hf.2 _ (by simp))
 simp only[Hv,hdrOf,e0,e1,e2]

theorem hdrH_congr {H G:Nat→Int}(h:Hv H=Hv G):hdrH H=hdrH G:=by
 simp only[Hv,Value.agg.injEq,Array.mk.injEq,List.cons.injEq,Value.int.injEq,true_and,and_true] at h
 unfold hdrH
 rw[h.1,h.2.1,h.2.2]

end Go.Proofs.YtokngjcfkkceiaaGreatDoor
