/- Joined: CFit, CLay, GInts, GApartI. -/
import Derived.Test.YtdfanhjnkjdngaaGreatDoorArJ2
import Derived.Test.YtdfanhjnkjdngaaGreatDoorArJ1
/- Contract of codec.fit. -/
namespace Go.Proofs.YtdfanhjnkjdngaaGreatDoor
set_option maxRecDepth 100000
set_option maxHeartbeats 8000000
open Go.RowKit Go.Shelf
set_option linter.unusedVariables false

def fitB (wd:Nat) (ns:List Int):Bool:=ns.all (fun v=>decide (0 ≤ v∧v < 256 ^ wd))

theorem fitB_iff {wd:Nat} {ns:List Int}:fitB wd ns=true ↔ ∀ v ∈ ns,0 ≤ v∧v < 256 ^ wd:=by simp [fitB]

theorem fitB_bad {wd:Nat} {ns:List Int} {k:Nat} (hk:k < ns.length) (h:ns[k]?.getD 0 < 0 ∨ 256 ^ wd ≤ ns[k]?.getD 0):fitB wd ns=false:=by
 rw [List.getElem?_eq_getElem hk,Option.getD_some] at h
 cases hf:fitB wd ns with
 | false=>rfl
 | true =>
  have:=fitB_iff.1 hf _ (List.getElem_mem hk)
  omega

theorem fitB_good {wd:Nat} {ns:List Int} (h:∀ j,j < ns.length→0 ≤ ns[j]?.getD 0∧ns[j]?.getD 0 < 256 ^ wd):fitB wd ns=true:=by
 refine fitB_iff.2 fun v hv=>?_
 obtain ⟨j,hj,rfl⟩:=List.getElem_of_mem hv
 have:=h j hj
 rwa [List.getElem?_eq_getElem hj,Option.getD_some] at this

theorem fit_any (wd:Nat) (hw:wd=2 ∨ wd=4) (a:Option Addr) (len cap:Nat) (ns:List Int) (w:World) (h:IHas w a len ns) (hl:len ≤ 140737488351232) :
  Calls Tryz.prog 264 #[.int .i64 (wd:Int),.slice a len cap] w fun e w'=>e=.returned (.bool (fitB wd ns))∧w=w':=by
 have H:=hide h
 have hlen:=h.1
 clear h
 have hpos:(0:Int) < 256 ^ wd:=Int.pow_pos (by omega)
 have hp2:(2:Int) ^ (8 * wd)=256 ^ wd:=by rw [Int.pow_mul]; rfl
 go_enter Tryz.func264,Tryz.ntmps264
 go_wp2
 go_loop [9] (fun i=>∃ k:Nat,k ≤ len∧i=.int .i64 (k:Int)∧Hid (∀ j,j < k→0 ≤ ns[j]?.getD 0∧ns[j]?.getD 0 < 256 ^ wd)) (fun i=>len - (intOf i).toNat)
 case atStart=>exact ⟨0,Nat.zero_le _,rfl,fun j hj=>by omega⟩
 case round =>
  obtain ⟨k,hk,rfl,hj⟩:=hrel
  by_cases hlt:k < len
  ·obtain ⟨b,off,rfl,hc⟩:=H.out.2 (by omega)
   have hck:=hc k hlt
   have HBad:=hide (@fitB_bad wd ns k (by omega))
   have HJ:Hid (0 ≤ ns[k]?.getD 0∧ns[k]?.getD 0 < 256 ^ wd→∀ j,j < k + 1→0 ≤ ns[j]?.getD 0∧ns[j]?.getD 0 < 256 ^ wd):=by
    intro h j hjk
    by_cases he:j=k
    ·subst he; exact h
    ·exact hj.out j (by omega)
   generalize ns[k]?.getD 0=z at *
   clear hc
   by_cases h1:z < 0
   ·have HN:Hid (fitB wd ns=false):=HBad.out (.inl h1)
    have hd:decide (z < 0)=true:=by simpa using h1
    clear HBad HJ
    go_wp2
    go_ret
    exact ⟨by rw [HN.out]; rfl,rfl⟩
   ·have hd:decide (z < 0)=false:=by simpa using h1
    by_cases h2:256 ^ wd ≤ z
    ·have HN:Hid (fitB wd ns=false):=HBad.out (.inr h2)
     have hq:(z / 2 ^ (8 * wd) != 0)=true:=by
      have:1 ≤ z / 256 ^ wd:=(Int.le_ediv_iff_mul_le hpos).2 (by omega)
      rw [hp2]; simp; omega
     clear HBad HJ hj h2 hpos hp2
     go_wp2
     go_ret
     exact ⟨by rw [HN.out]; rfl,rfl⟩
    ·have HJ':Hid (∀ j,j < k + 1→0 ≤ ns[j]?.getD 0∧ns[j]?.getD 0 < 256 ^ wd):=HJ.out ⟨by omega,by omega⟩
     have hq:(z / 2 ^ (8 * wd) != 0)=false:=by
      have:z / 256 ^ wd=0:=Int.ediv_eq_zero_of_lt (by omega) (by omega)
      rw [hp2,this]; rfl
     clear HBad HJ hj h2 hpos hp2
     go_wp2
     exact ⟨⟨k + 1,by omega,by go_num,HJ'⟩,by simp [intOf]; omega⟩
  ·obtain rfl:k=len:=by omega
   have HN:Hid (fitB wd ns=true):=fitB_good (fun j hj'=>hj.out j (by omega))
   go_wp2
   go_ret
   exact ⟨by rw [HN.out]; rfl,rfl⟩

end Go.Proofs.YtdfanhjnkjdngaaGreatDoor

/- Contract of codec.lay. -/
namespace Go.Proofs.YtdfanhjnkjdngaaGreatDoor
set_option maxRecDepth 100000
set_option maxHeartbeats 8000000
open Go.RowKit Go.Shelf
set_option linter.unusedVariables false

theorem make_blockC (w:World) (n:Nat):Block (w.alloc (.cells (madeCells #[.int .u8 0] n) 5)) w.heap.size (List.replicate n 0):=by
 show (w.alloc _).heap[w.heap.size]?=_
 rw [World.alloc_heap_new,List.map_replicate,← toList_madeCells_one,Array.toArray_toList]

theorem copy_at {w:World} {g size at0:Nat} {xs:List Int} (hB:Block w g xs) (hx:xs.length=size) {a2:Option Addr} {n:Nat} {ys:List Int} (h:Has w a2 n ys) (c2:Nat) (hfit:at0 + n ≤ size) :
  ∃ w2,(∀ ty,(Builtin.copy_ #[50,50] ty #[.slice (cutAt (some ⟨g,0,none⟩) size at0) (size - at0) (size - at0),.slice a2 n c2]).run Tryz.prog w=.ok (goInt n) w2)∧Block w2 g (put xs at0 ys)∧∀ B,B ≤ g→Below B w w2:=by
 have hlen:=h.1
 by_cases h0:n=0
 ·subst h0
  obtain rfl:ys=[]:=List.eq_nil_of_length_eq_zero hlen
  refine ⟨w,fun ty=>run_copy_none _ 50 50 ty 5 _ _ _ _ _ _ Tryz.underlying50 size5 (Nat.min_eq_left (Nat.zero_le _)),?_,fun B _=>Below.refl _ _⟩
  have:put xs at0 []=xs:=by simp [put]
  rw [this]; exact hB
 ·obtain ⟨b,off,rfl,hc⟩:=h.2 (by omega)
  have hcut:cutAt (some ⟨g,0,none⟩) size at0=some ⟨g,at0,none⟩:=by
   unfold cutAt
   rw [if_neg (by omega),Option.map_some,Nat.mul_one,World.add_zero_spot,Nat.zero_add]
  have hs:∀ (j:Nat) v,(ys.map (Value.int .u8))[j]?=some v→w.cell? ((⟨b,off,none⟩:Addr).add j)=some v:=by
   intro j v hv
   have hj:j < ys.length:=by
    have:=(List.getElem?_eq_some_iff.1 hv).1
    simpa using this
   rw [World.add_zero_spot,hc j (by omega)]
   rw [List.getElem?_map,List.getElem?_eq_getElem hj] at hv
   rw [List.getElem?_eq_getElem hj]
   simpa using hv
  have hm:(ys.map (Value.int .u8)).length=Nat.min n (size - at0):=by rw [List.length_map,hlen]; exact (Nat.min_eq_left (by omega)).symm
  have hp:((xs.map (Value.int .u8)).take at0 ++ ys.map (Value.int .u8) ++ (xs.map (Value.int .u8)).drop (at0 + (ys.map (Value.int .u8)).length))=(put xs at0 ys).map (Value.int .u8):=by
   simp [put,List.map_take,List.map_drop]
  refine ⟨w.setRow g ((put xs at0 ys).map (Value.int .u8)).toArray,fun ty=>?_,setRow_heap w g _ _ 5 _ hB,fun B hBg=>below_setRow (Below.refl _ _) hBg _⟩
  have hr:=run_copy_row (P:=Tryz.prog) w 50 50 ty 5 g at0 (size - at0) (size - at0) ⟨b,off,none⟩ n c2 _ 5 (ys.map (Value.int .u8)) Tryz.underlying50 size5 hB hm hs (by simp [hlen,hx]; omega) (oneCell_bytes ys)
  rw [List.toList_toArray,hp,List.length_map,hlen] at hr
  rw [hcut]
  exact hr

def layB (size:Nat) (L:List Int):List Int:=L ++ List.replicate (size - L.length) 0

theorem length_layB {size:Nat} {L:List Int} (h:L.length ≤ size):(layB size L).length=size:=by simp [layB]; omega

theorem layB_put (size:Nat) (L z:List Int) (h:L.length + z.length ≤ size):put (layB size L) L.length z=layB size (L ++ z):=by
 simp only [put,layB,List.take_left,List.length_append]
 have e1:(L ++ List.replicate (size - L.length) 0).drop (L.length + z.length)=List.replicate (size - (L.length + z.length)) (0:Int):=by
  rw [List.drop_append,List.drop_of_length_le (by omega),List.nil_append,List.drop_replicate]
  congr 1; omega
 rw [e1]

theorem layB_byte (size:Nat) (L:List Int) (h:∀ z ∈ L,0 ≤ z∧z ≤ 255):∀ z ∈ layB size L,0 ≤ z∧z ≤ 255:=by
 intro z hz
 rcases List.mem_append.1 hz with hz | hz
 ·exact h z hz
 ·simp at hz; omega

abbrev Prt:=Option Addr × Nat × Nat × List Int

abbrev pv (p:Prt):Value:=.slice p.1 p.2.1 p.2.2.1

def PHas (w:World) (a:Option Addr) (n:Nat) (ps:List Prt):Prop :=
 ps.length=n∧(0 < n→∃ b off,a=some ⟨b,off,none⟩∧b < w.heap.size∧∀ j,(hj:j < ps.length)→w.cell? ⟨b,off + j,none⟩=some (pv ps[j]))∧∀ p ∈ ps,Has w p.1 p.2.1 p.2.2.2

theorem Has.lt {w:World} {a:Option Addr} {len:Nat} {zs:List Int} (h:Has w a len zs) {b off:Nat} (hp:0 < len) (e:a=some ⟨b,off,none⟩):b < w.heap.size:=by
 obtain ⟨b',off',e',hc⟩:=h.2 hp
 rw [e] at e'
 cases e'
 exact cell_block_lt (hc 0 hp)

theorem Has.later {w w':World} {a:Option Addr} {len:Nat} {zs:List Int} (h:Has w a len zs) (hb:Below w.heap.size w w'):Has w' a len zs:=by
 refine ⟨h.1,fun hp=>?_⟩
 obtain ⟨b,off,e,hc⟩:=h.2 hp
 exact ⟨b,off,e,fun j hj=>(hb.cell (p:=⟨b,off + j,none⟩) (h.lt hp e)).trans (hc j hj)⟩

theorem PHas.later {w w':World} {a:Option Addr} {n:Nat} {ps:List Prt} (h:PHas w a n ps) (hb:Below w.heap.size w w'):PHas w' a n ps:=by
 obtain ⟨h1,h2,h3⟩:=h
 refine ⟨h1,fun hp=>?_,fun p hp=>(h3 p hp).later hb⟩
 obtain ⟨b,off,e,hlt,hc⟩:=h2 hp
 exact ⟨b,off,e,Nat.lt_of_lt_of_le hlt hb.size,fun j hj=>(hb.cell (p:=⟨b,off + j,none⟩) hlt).trans (hc j hj)⟩

def allP (ps:List Prt):List Int:=(ps.map (fun p=>p.2.2.2)).flatten

theorem allP_succ (ps:List Prt) (k:Nat) (hk:k < ps.length):allP (ps.take (k + 1))=allP (ps.take k) ++ ps[k].2.2.2:=by
 rw [allP,List.take_succ_eq_append_getElem hk,List.map_append,List.flatten_append]
 simp only [allP,List.map_cons,List.map_nil,List.flatten_cons,List.flatten_nil,List.append_nil]

theorem allP_take_le (ps:List Prt) (k:Nat):(allP (ps.take k)).length ≤ (allP ps).length:=by
 have:allP ps=allP (ps.take k) ++ allP (ps.drop k):=by
  simp only [allP]
  rw [← List.flatten_append,← List.map_append,List.take_append_drop]
 rw [this,List.length_append]; omega

theorem clay_any (size:Nat) (a:Option Addr) (n cap:Nat) (ps:List Prt) (w:World) (h:PHas w a n ps) (hn:n ≤ 1000) (hs:(allP ps).length ≤ size) (hsz:size ≤ 140737488351300) :
  Calls Tryz.prog 265 #[.int .i64 (size:Int),.slice a n cap] w fun e w'=>e=.returned (.slice (some ⟨w.heap.size,0,none⟩) size size)∧Hid (Block w' w.heap.size (layB size (allP ps)))∧Below w.heap.size w w':=by
 have hmk:=run_make_row' (P:=Tryz.prog) 50 5 (.int .u8 0) 1 Tryz.underlying50 info5 rfl .i64 .i64 size (by omega) (by omega)
 have hb0:Below w.heap.size w (w.alloc (.cells (madeCells #[.int .u8 0] size) 5)):=(Below.refl _ w).alloc (Nat.le_refl _) _
 have HB:Hid (Block (w.alloc (.cells (madeCells #[.int .u8 0] size) 5)) w.heap.size (layB size (allP (ps.take 0)))):=by
  have h0:layB size (allP (ps.take 0))=List.replicate size 0:=by simp [layB,allP]
  rw [h0]
  exact make_blockC w size
 have H:=hide h
 have HS:=hide hs
 have hlen:=h.1
 clear h hs
 go_enter Tryz.func265,Tryz.ntmps265
 go_wp2
 go_loopw [6,13] (fun at' i wr=>∃ k at0:Nat,k ≤ n∧i=.int .i64 (k:Int)∧at'=.int .i64 (at0:Int)∧at0 ≤ size∧Hid (at0=(allP (ps.take k)).length)∧Hid (Block wr w.heap.size (layB size (allP (ps.take k))))∧Hid (Below w.heap.size w wr)) (fun _ i _=>n - (intOf i).toNat)
 case atStart=>exact ⟨0,0,Nat.zero_le _,rfl,rfl,Nat.zero_le _,rfl,HB,hb0⟩
 case round =>
  obtain ⟨k,at0,hk,rfl,rfl,hat,he,hBk,hbk⟩:=hrel
  clear HB hmk hb0
  by_cases hlt:k < n
  ·obtain ⟨b,off,rfl,_,hc⟩:=(H.out.later hbk.out).2.1 (by omega)
   have hck:=hc k (by omega)
   have hHas:=(H.out.later hbk.out).2.2 ps[k] (List.getElem_mem _)
   have hsu:=allP_succ ps k (by omega)
   have hle:=allP_take_le ps (k + 1)
   generalize ps[k]=pp at *
   obtain ⟨pa,pn,pc,pz⟩:=pp
   dsimp only [pv] at hck hHas hsu
   rw [hsu,List.length_append] at hle
   have hroom:at0 + pn ≤ size:=by have:=he.out; have:=HS.out; have:=hHas.1; omega
   obtain ⟨w2,hr,hB2,hb2⟩:=copy_at hBk.out (length_layB (by have:=he.out; have:=HS.out; omega)) hHas pc hroom
   have HP:Hid (Block w2 w.heap.size (layB size (allP (ps.take (k + 1))))∧Hid (Below w.heap.size w w2)∧at0 + pn=(allP (ps.take (k + 1))).length):=by
    have:=he.out
    subst this
    refine ⟨?_,hbk.out.trans (hb2 _ (Nat.le_refl _)),by rw [hsu,List.length_append,hHas.1]⟩
    rw [hsu,← layB_put size _ _ (by have:=HS.out; omega)]
    exact hB2
   have hcut:=run_cut_l (some ⟨w.heap.size,0,none⟩) size size at0 hat
   generalize cutAt (some ⟨w.heap.size,0,none⟩) size at0=ca at *
   generalize hd:size - at0=d at *
   clear hc hHas hsu hle hB2 hb2 he hBk hbk HS
   have hpn:(pn:Int) ≤ 140737488351300:=by omega
   go_wp2
   exact ⟨⟨k + 1,at0 + pn,by omega,by go_num,by go_num,by omega,HP.out.2.2,HP.out.1,HP.out.2.1⟩,by simp [intOf]; omega⟩
  ·obtain rfl:k=n:=by omega
   have e:ps.take k=ps:=List.take_of_length_le (by omega)
   rw [e] at hBk
   go_wp2
   go_ret
   exact ⟨rfl,hBk,hbk.out⟩

end Go.Proofs.YtdfanhjnkjdngaaGreatDoor

/- Slices of numbers: append([]int{}, x...), and the contract of skerryref01.SameInts. -/
namespace Go.Proofs.YtdfanhjnkjdngaaGreatDoor
set_option maxRecDepth 100000
set_option maxHeartbeats 8000000
open Go.RowKit Go.Shelf
set_option linter.unusedVariables false

theorem info3:(Tryz.prog.info? 3).map (fun i=>(i.zero,i.size,i.bytes))=some (some (.int .i64 0),1,8):=by kernel_rfl

theorem oneCell_ints (zs:List Int):∀ v ∈ zs.map (Value.int .i64),v.oneCell'=true:=by
 intro v hv
 simp only [List.mem_map] at hv
 obtain ⟨z,_,rfl⟩:=hv
 rfl

theorem sameInts_any (a1 a2:Option Addr) (len c1 c2:Nat) (ns:List Int) (w:World) (h1:IHas w a1 len ns) (h2:IHas w a2 len ns) (hl:len ≤ 140737488351232) :
  Calls Tryz.prog 106 #[.slice a1 len c1,.slice a2 len c2] w fun e w'=>e=.returned (.bool true)∧∃ m,w'=w.drewN m:=by
 have H1:=hide h1
 have H2:=hide h2
 clear h1 h2
 go_enter Tryz.func106,Tryz.ntmps106
 go_wp2
 go_loopw [5] (fun i wr=>∃ k:Nat,k ≤ len∧i=.int .i64 (k:Int)∧Hid (∃ m,wr=w.drewN m)) (fun i _=>len - (intOf i).toNat)
 case atStart=>exact ⟨0,Nat.zero_le _,rfl,0,rfl⟩
 case round =>
  obtain ⟨k,hk,rfl,hw⟩:=hrel
  by_cases hlt:k < len
  ·obtain ⟨b1,o1,rfl,hc1⟩:=H1.out.2 (by omega)
   obtain ⟨b2,o2,rfl,hc2⟩:=H2.out.2 (by omega)
   have e1:wr.cell? ⟨b1,o1 + k,none⟩=some (.int .i64 (ns[k]?.getD 0)):=by obtain ⟨m,rfl⟩:=hw.out; exact hc1 k hlt
   have e2:wr.cell? ⟨b2,o2 + k,none⟩=some (.int .i64 (ns[k]?.getD 0)):=by obtain ⟨m,rfl⟩:=hw.out; exact hc2 k hlt
   generalize ns[k]?.getD 0=z at *
   have hlt':(k:Int) < (len:Int):=by omega
   clear hc1 hc2 hlt
   go_wp2
   go_quiet (fail)
   go_wp2
   refine ⟨⟨k + 1,by omega,by go_num,?_⟩,by simp [intOf]; omega⟩
   obtain ⟨m,rfl⟩:=hw.out
   exact ⟨_,World.drewN_drewN _ _ _⟩
  ·obtain rfl:k=len:=by omega
   go_wp2
   go_ret
   exact ⟨rfl,hw.out⟩

end Go.Proofs.YtdfanhjnkjdngaaGreatDoor

/- The contract of skerryref01.IntsApart. -/
namespace Go.Proofs.YtdfanhjnkjdngaaGreatDoor
set_option maxRecDepth 100000
set_option maxHeartbeats 8000000
open Go.RowKit Go.Shelf
set_option linter.unusedVariables false

def IOwn (B:Nat) (w:World) (a:Option Addr) (n c:Nat) (xs:List Int):Prop :=
 xs.length=n∧n ≤ c∧c ≤ maxLen∧((a=none∧n=0∧c=0) ∨ ∃ g cur,a=some ⟨g,0,none⟩∧B ≤ g∧w.heap[g]?=some (.cells cur 3 (0,0))∧cur.size=c∧cur.toList.take n=xs.map (Value.int .i64))

theorem IOwn.kept {B:Nat} {w w':World} {a:Option Addr} {n c:Nat} {xs:List Int} (h:IOwn B w a n c xs) (hk:∀ g,a=some ⟨g,0,none⟩→w'.heap[g]?=w.heap[g]?):IOwn B w' a n c xs:=by
 obtain ⟨h1,h2,h3,h4⟩:=h
 refine ⟨h1,h2,h3,?_⟩
 rcases h4 with h4 | ⟨g,cur,e,hg,hh,r⟩
 ·exact .inl h4
 ·exact .inr ⟨g,cur,e,hg,(hk g e).trans hh,r⟩

theorem IOwn.cell {B:Nat} {w:World} {a:Option Addr} {n c:Nat} {xs:List Int} (h:IOwn B w a n c xs) {j:Nat} (hj:j < n):∃ g,a=some ⟨g,0,none⟩∧B ≤ g∧w.cell? ⟨g,j,none⟩=some (.int .i64 (xs[j]?.getD 0))∧w.frozen? ⟨g,j,none⟩=false:=by
 obtain ⟨h1,h2,h3,h4⟩:=h
 rcases h4 with ⟨_,h4,_⟩ | ⟨g,cur,e,hg,hh,hc,ht⟩
 ·omega
 ·refine ⟨g,e,hg,?_,by simp [World.frozen?,hh]⟩
  have hx:(cur.toList.take n)[j]?=some (.int .i64 (xs[j]?.getD 0)):=by
   rw [ht,List.getElem?_map,List.getElem?_eq_getElem (by omega)]; rfl
  rw [List.getElem?_take_of_lt hj] at hx
  simp only [World.cell?,hh]
  simpa using hx

theorem run_append_intb (B:Nat) (w:World) (ty:TypeId) (a:Option Addr) (n c:Nat) (xs:List Int) (h:IOwn B w a n c xs) (hB:B ≤ w.heap.size) (nb:Nat) (z:Int) (hz:w.cell? ⟨nb,0,none⟩=some (.int .i64 z)) (hn:n + 1 ≤ 17592186044416) :
  ∃ a' c' w',(Builtin.append_ #[40,40] ty #[.slice a n c,.slice (some ⟨nb,0,none⟩) 1 1]).run Tryz.prog w=.ok (.slice a' (n + 1) c') w'∧IOwn B w' a' (n + 1) c' (xs ++ [z]) ∧
   (∀ k,k < w.heap.size→(∀ g,a=some ⟨g,0,none⟩→k ≠ g)→w'.heap[k]?=w.heap[k]?)∧Below B w w' ∧
   ((a'=a∧c'=c∧∀ m,m ≤ n→IOwn B w' a m c (xs.take m)) ∨ (∃ g',a'=some ⟨g',0,none⟩∧w.heap.size ≤ g'∧∀ k,k < w.heap.size→w'.heap[k]?=w.heap[k]?)):=by
 obtain ⟨i0,hi,hz0,hz1,hz2⟩:=info_parts info3
 have hnews:∀ (j:Nat) (u:Value),[Value.int .i64 z][j]?=some u→w.cell? ((⟨nb,0,none⟩:Addr).add j)=some u:=by
  intro j u hj
  cases j with
  | zero=>simp at hj; subst hj; simpa [Addr.add] using hz
  | succ j=>simp at hj
 have h1c:∀ u ∈ [Value.int .i64 z],u.oneCell'=true:=by intro u hu; simp at hu; subst hu; rfl
 have hmax:n + 1 ≤ maxLen:=by unfold maxLen; omega
 obtain ⟨h1,h2,h3,h4⟩:=h
 have growCase:c < n + 1→∀ (v:Value) (w':World),w'.ownsRow w.heap.size 3 1 v (n + 1) (xs.map (Value.int .i64) ++ [Value.int .i64 z])→w.grownBy w' none →
   ∃ a' c',v=.slice a' (n + 1) c'∧IOwn B w' a' (n + 1) c' (xs ++ [z])∧(∀ k,k < w.heap.size→(∀ g,a=some ⟨g,0,none⟩→k ≠ g)→w'.heap[k]?=w.heap[k]?)∧Below B w w' ∧
    (∃ g',a'=some ⟨g',0,none⟩∧w.heap.size ≤ g'∧∀ k,k < w.heap.size→w'.heap[k]?=w.heap[k]?):=by
  intro hc v w' ho hg
  have hb:∀ k,k < w.heap.size→w'.heap[k]?=w.heap[k]?:=fun k hk=>hg.block k hk (by simp)
  rcases ho.2 with ⟨_,h0⟩ | ⟨g',cap',cur,rfl,hbg,hh,hnc,hcm,hcs,ht⟩
  ·omega
  ·refine ⟨some ⟨g',0,none⟩,cap',rfl,⟨by simp [h1],hnc,hcm,.inr ⟨g',cur,rfl,by omega,hh,by simpa using hcs,by simpa using ht⟩⟩,fun k hk _=>hb k hk,⟨hg.os,hg.tape,hg.output,hg.size,fun k hk=>hb k (by omega)⟩,g',rfl,hbg,hb⟩
 rcases h4 with ⟨rfl,rfl,rfl⟩ | ⟨g,cur,rfl,hg,hh,hc,ht⟩
 ·have hx:xs=[]:=List.eq_nil_of_length_eq_zero h1
  subst hx
  obtain ⟨v,w',hr,ho,hgr,_⟩:=run_append_own (P:=Tryz.prog) w w.heap.size 40 ty 3 i0 (.int .i64 0) 1 8 Tryz.underlying40 hi hz0 hz1 hz2 rfl (by decide) (.slice none 0 0) 0 [] (World.ownsRow_nil w _ 3 1) ⟨nb,0,none⟩ 1 1 [Value.int .i64 z] rfl hnews h1c hmax (by omega) (Nat.le_refl _)
  obtain ⟨a',c',rfl,k1,k2,k3,k4⟩:=growCase (by omega) v w' (by simpa using ho) (by simpa [Value.ownBlock] using hgr)
  exact ⟨a',c',w',hr,k1,k2,k3,.inr k4⟩
 ·have holds:∀ (j:Nat) (u:Value),(xs.map (Value.int .i64))[j]?=some u→w.cell? ((⟨g,0,none⟩:Addr).add j)=some u:=by
   intro j u hj
   rw [World.add_zero_spot,Nat.zero_add]
   have hjl:j < n:=by have:=(List.getElem?_eq_some_iff.1 hj).1; simp at this; omega
   rw [← ht,List.getElem?_take_of_lt hjl] at hj
   simp only [World.cell?,hh]
   simpa using hj
  by_cases hroom:n + 1 ≤ c
  ·have hr:=run_append_room (P:=Tryz.prog) w 40 ty 3 i0 Tryz.underlying40 hi g n c cur hh ⟨nb,0,none⟩ 1 1 [Value.int .i64 z] (by rw [hz1]; rfl) hnews h1c hroom (by rw [hz1,hc]; simp; omega)
   refine ⟨_,c,_,hr,?_,?_,below_setRow (Below.refl _ _) hg _,.inl ⟨rfl,rfl,?_⟩⟩
   ·refine ⟨by simp [h1],hroom,h3,.inr ⟨g,_,rfl,hg,setRow_heap w g cur _ 3 _ hh,?_,?_⟩⟩
    ·simp [hz1]; omega
    ·rw [hz1,Nat.mul_one,ht]
     have hl:(xs.map (Value.int .i64) ++ [Value.int .i64 z]).length=n + 1:=by simp [h1]
     rw [List.toList_toArray,List.take_append_of_le_length (by omega),List.take_of_length_le (by omega)]
     simp
   ·intro k _ hk
    exact setRow_other w g k _ (hk g rfl)
   ·intro m hm
    refine ⟨by simp; omega,by omega,h3,.inr ⟨g,_,rfl,hg,setRow_heap w g cur _ 3 _ hh,?_,?_⟩⟩
    ·simp [hz1]; omega
    ·rw [hz1,Nat.mul_one,ht,List.append_assoc]
     rw [List.toList_toArray,List.take_append_of_le_length (by simp; omega),List.map_take]
  ·obtain ⟨v,w',hr,ho,hgr⟩:=run_append_arg_grows (P:=Tryz.prog) w 40 ty 3 i0 (.int .i64 0) 1 8 Tryz.underlying40 hi hz0 hz1 hz2 rfl (by decide) ⟨g,0,none⟩ n c (xs.map (Value.int .i64)) (by simp [h1]) holds ⟨nb,0,none⟩ 1 1 [Value.int .i64 z] rfl hnews (by omega) hmax (by omega)
   obtain ⟨a',c',rfl,k1,k2,k3,k4⟩:=growCase (by omega) v w' ho hgr
   exact ⟨a',c',w',hr,k1,k2,k3,.inr k4⟩

theorem IOwn.lt {B:Nat} {w:World} {a:Option Addr} {n c:Nat} {xs:List Int} (h:IOwn B w a n c xs) {g:Nat} (e:a=some ⟨g,0,none⟩):g < w.heap.size∧B ≤ g∧∃ cur,w.heap[g]?=some (.cells cur 3 (0,0)):=by
 obtain ⟨_,_,_,h4⟩:=h
 rcases h4 with ⟨h4,_⟩ | ⟨g',cur,e',hg,hh,_⟩
 ·rw [h4] at e; cases e
 ·rw [e] at e'; cases e'
  exact ⟨(Array.getElem?_eq_some_iff.1 hh).1,hg,cur,hh⟩

theorem IOwn.below {B n:Nat} {w w':World} {a:Option Addr} {l c:Nat} {xs:List Int} (h:IOwn B w a l c xs) (hb:Below n w w') (hn:w.heap.size ≤ n):IOwn B w' a l c xs :=
 h.kept (fun g e=>hb.block g (by have:=(h.lt e).1; omega))

theorem IOwn.nil (B:Nat) (w:World):IOwn B w none 0 0 []:=⟨rfl,Nat.le_refl _,by unfold maxLen; omega,.inl ⟨rfl,rfl,rfl⟩⟩

end Go.Proofs.YtdfanhjnkjdngaaGreatDoor

