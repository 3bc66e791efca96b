/- Joined: CFit, CLay, GInts, GApartI, GMore, GNum, GRenew. -/
import Derived.Test.YtdfanhjnkjdngabGreatDoorAnJ2
/- Contract of codec.fit. -/
namespace Go.Proofs.YtdfanhjnkjdngabGreatDoor
set_option maxRecDepth 100000
set_option maxHeartbeats 8000000
open Go.RowKit Go.Shelf
set_option linter.unusedVariables false

def fitB (wd:Nat) (ns:List Int):Bool:=ns.all (fun v=>decide (0 ≤ v∧v < 256 ^ wd))

theorem fitB_iff {wd:Nat} {ns:List Int}:fitB wd ns=true ↔ ∀ v ∈ ns,0 ≤ v∧v < 256 ^ wd:=by simp [fitB]

theorem fitB_bad {wd:Nat} {ns:List Int} {k:Nat} (hk:k < ns.length) (h:ns[k]?.getD 0 < 0 ∨ 256 ^ wd ≤ ns[k]?.getD 0):fitB wd ns=false:=by
 rw [List.getElem?_eq_getElem hk,Option.getD_some] at h
 cases hf:fitB wd ns with
 | false=>rfl
 | true =>
  have:=fitB_iff.1 hf _ (List.getElem_mem hk)
  omega

theorem fitB_good {wd:Nat} {ns:List Int} (h:∀ j,j < ns.length→0 ≤ ns[j]?.getD 0∧ns[j]?.getD 0 < 256 ^ wd):fitB wd ns=true:=by
 refine fitB_iff.2 fun v hv=>?_
 obtain ⟨j,hj,rfl⟩:=List.getElem_of_mem hv
 have:=h j hj
 rwa [List.getElem?_eq_getElem hj,Option.getD_some] at this

theorem fit_any (wd:Nat) (hw:wd=2 ∨ wd=4) (a:Option Addr) (len cap:Nat) (ns:List Int) (w:World) (h:IHas w a len ns) (hl:len ≤ 140737488351232) :
  Calls Tryz.prog 126 #[.int .i64 (wd:Int),.slice a len cap] w fun e w'=>e=.returned (.bool (fitB wd ns))∧w=w':=by
 have H:=hide h
 have hlen:=h.1
 clear h
 have hpos:(0:Int) < 256 ^ wd:=Int.pow_pos (by omega)
 have hp2:(2:Int) ^ (8 * wd)=256 ^ wd:=by rw [Int.pow_mul]; rfl
 go_enter Tryz.func126,Tryz.ntmps126
 go_wp2
 go_loop [9] (fun i=>∃ k:Nat,k ≤ len∧i=.int .i64 (k:Int)∧Hid (∀ j,j < k→0 ≤ ns[j]?.getD 0∧ns[j]?.getD 0 < 256 ^ wd)) (fun i=>len - (intOf i).toNat)
 case atStart=>exact ⟨0,Nat.zero_le _,rfl,fun j hj=>by omega⟩
 case round =>
  obtain ⟨k,hk,rfl,hj⟩:=hrel
  by_cases hlt:k < len
  ·obtain ⟨b,off,rfl,hc⟩:=H.out.2 (by omega)
   have hck:=hc k hlt
   have HBad:=hide (@fitB_bad wd ns k (by omega))
   have HJ:Hid (0 ≤ ns[k]?.getD 0∧ns[k]?.getD 0 < 256 ^ wd→∀ j,j < k + 1→0 ≤ ns[j]?.getD 0∧ns[j]?.getD 0 < 256 ^ wd):=by
    intro h j hjk
    by_cases he:j=k
    ·subst he; exact h
    ·exact hj.out j (by omega)
   generalize ns[k]?.getD 0=z at *
   clear hc
   by_cases h1:z < 0
   ·have HN:Hid (fitB wd ns=false):=HBad.out (.inl h1)
    have hd:decide (z < 0)=true:=by simpa using h1
    clear HBad HJ
    go_wp2
    go_ret
    exact ⟨by rw [HN.out]; rfl,rfl⟩
   ·have hd:decide (z < 0)=false:=by simpa using h1
    by_cases h2:256 ^ wd ≤ z
    ·have HN:Hid (fitB wd ns=false):=HBad.out (.inr h2)
     have hq:(z / 2 ^ (8 * wd) != 0)=true:=by
      have:1 ≤ z / 256 ^ wd:=(Int.le_ediv_iff_mul_le hpos).2 (by omega)
      rw [hp2]; simp; omega
     clear HBad HJ hj h2 hpos hp2
     go_wp2
     go_ret
     exact ⟨by rw [HN.out]; rfl,rfl⟩
    ·have HJ':Hid (∀ j,j < k + 1→0 ≤ ns[j]?.getD 0∧ns[j]?.getD 0 < 256 ^ wd):=HJ.out ⟨by omega,by omega⟩
     have hq:(z / 2 ^ (8 * wd) != 0)=false:=by
      have:z / 256 ^ wd=0:=Int.ediv_eq_zero_of_lt (by omega) (by omega)
      rw [hp2,this]; rfl
     clear HBad HJ hj h2 hpos hp2
     go_wp2
     exact ⟨⟨k + 1,by omega,by go_num,HJ'⟩,by simp [intOf]; omega⟩
  ·obtain rfl:k=len:=by omega
   have HN:Hid (fitB wd ns=true):=fitB_good (fun j hj'=>hj.out j (by omega))
   go_wp2
   go_ret
   exact ⟨by rw [HN.out]; rfl,rfl⟩

end Go.Proofs.YtdfanhjnkjdngabGreatDoor

/- Contract of codec.lay. -/
namespace Go.Proofs.YtdfanhjnkjdngabGreatDoor
set_option maxRecDepth 100000
set_option maxHeartbeats 8000000
open Go.RowKit Go.Shelf
set_option linter.unusedVariables false

theorem make_blockC (w:World) (n:Nat):Block (w.alloc (.cells (madeCells #[.int .u8 0] n) 5)) w.heap.size (List.replicate n 0):=by
 show (w.alloc _).heap[w.heap.size]?=_
 rw [World.alloc_heap_new,List.map_replicate,← toList_madeCells_one,Array.toArray_toList]

theorem copy_at {w:World} {g size at0:Nat} {xs:List Int} (hB:Block w g xs) (hx:xs.length=size) {a2:Option Addr} {n:Nat} {ys:List Int} (h:Has w a2 n ys) (c2:Nat) (hfit:at0 + n ≤ size) :
  ∃ w2,(∀ ty,(Builtin.copy_ #[81,81] ty #[.slice (cutAt (some ⟨g,0,none⟩) size at0) (size - at0) (size - at0),.slice a2 n c2]).run Tryz.prog w=.ok (goInt n) w2)∧Block w2 g (put xs at0 ys)∧∀ B,B ≤ g→Below B w w2:=by
 have hlen:=h.1
 by_cases h0:n=0
 ·subst h0
  obtain rfl:ys=[]:=List.eq_nil_of_length_eq_zero hlen
  refine ⟨w,fun ty=>run_copy_none _ 81 81 ty 5 _ _ _ _ _ _ Tryz.underlying81 size5 (Nat.min_eq_left (Nat.zero_le _)),?_,fun B _=>Below.refl _ _⟩
  have:put xs at0 []=xs:=by simp [put]
  rw [this]; exact hB
 ·obtain ⟨b,off,rfl,hc⟩:=h.2 (by omega)
  have hcut:cutAt (some ⟨g,0,none⟩) size at0=some ⟨g,at0,none⟩:=by
   unfold cutAt
   rw [if_neg (by omega),Option.map_some,Nat.mul_one,World.add_zero_spot,Nat.zero_add]
  have hs:∀ (j:Nat) v,(ys.map (Value.int .u8))[j]?=some v→w.cell? ((⟨b,off,none⟩:Addr).add j)=some v:=by
   intro j v hv
   have hj:j < ys.length:=by
    have:=(List.getElem?_eq_some_iff.1 hv).1
    simpa using this
   rw [World.add_zero_spot,hc j (by omega)]
   rw [List.getElem?_map,List.getElem?_eq_getElem hj] at hv
   rw [List.getElem?_eq_getElem hj]
   simpa using hv
  have hm:(ys.map (Value.int .u8)).length=Nat.min n (size - at0):=by rw [List.length_map,hlen]; exact (Nat.min_eq_left (by omega)).symm
  have hp:((xs.map (Value.int .u8)).take at0 ++ ys.map (Value.int .u8) ++ (xs.map (Value.int .u8)).drop (at0 + (ys.map (Value.int .u8)).length))=(put xs at0 ys).map (Value.int .u8):=by
   simp [put,List.map_take,List.map_drop]
  refine ⟨w.setRow g ((put xs at0 ys).map (Value.int .u8)).toArray,fun ty=>?_,setRow_heap w g _ _ 5 _ hB,fun B hBg=>below_setRow (Below.refl _ _) hBg _⟩
  have hr:=run_copy_row (P:=Tryz.prog) w 81 81 ty 5 g at0 (size - at0) (size - at0) ⟨b,off,none⟩ n c2 _ 5 (ys.map (Value.int .u8)) Tryz.underlying81 size5 hB hm hs (by simp [hlen,hx]; omega) (oneCell_bytes ys)
  rw [List.toList_toArray,hp,List.length_map,hlen] at hr
  rw [hcut]
  exact hr

def layB (size:Nat) (L:List Int):List Int:=L ++ List.replicate (size - L.length) 0

theorem length_layB {size:Nat} {L:List Int} (h:L.length ≤ size):(layB size L).length=size:=by simp [layB]; omega

theorem layB_put (size:Nat) (L z:List Int) (h:L.length + z.length ≤ size):put (layB size L) L.length z=layB size (L ++ z):=by
 simp only [put,layB,List.take_left,List.length_append]
 have e1:(L ++ List.replicate (size - L.length) 0).drop (L.length + z.length)=List.replicate (size - (L.length + z.length)) (0:Int):=by
  rw [List.drop_append,List.drop_of_length_le (by omega),List.nil_append,List.drop_replicate]
  congr 1; omega
 rw [e1]

theorem layB_byte (size:Nat) (L:List Int) (h:∀ z ∈ L,0 ≤ z∧z ≤ 255):∀ z ∈ layB size L,0 ≤ z∧z ≤ 255:=by
 intro z hz
 rcases List.mem_append.1 hz with hz | hz
 ·exact h z hz
 ·simp at hz; omega

abbrev Prt:=Option Addr × Nat × Nat × List Int

abbrev pv (p:Prt):Value:=.slice p.1 p.2.1 p.2.2.1

def PHas (w:World) (a:Option Addr) (n:Nat) (ps:List Prt):Prop :=
 ps.length=n∧(0 < n→∃ b off,a=some ⟨b,off,none⟩∧b < w.heap.size∧∀ j,(hj:j < ps.length)→w.cell? ⟨b,off + j,none⟩=some (pv ps[j]))∧∀ p ∈ ps,Has w p.1 p.2.1 p.2.2.2

theorem Has.lt {w:World} {a:Option Addr} {len:Nat} {zs:List Int} (h:Has w a len zs) {b off:Nat} (hp:0 < len) (e:a=some ⟨b,off,none⟩):b < w.heap.size:=by
 obtain ⟨b',off',e',hc⟩:=h.2 hp
 rw [e] at e'
 cases e'
 exact cell_block_lt (hc 0 hp)

theorem Has.later {w w':World} {a:Option Addr} {len:Nat} {zs:List Int} (h:Has w a len zs) (hb:Below w.heap.size w w'):Has w' a len zs:=by
 refine ⟨h.1,fun hp=>?_⟩
 obtain ⟨b,off,e,hc⟩:=h.2 hp
 exact ⟨b,off,e,fun j hj=>(hb.cell (p:=⟨b,off + j,none⟩) (h.lt hp e)).trans (hc j hj)⟩

theorem PHas.later {w w':World} {a:Option Addr} {n:Nat} {ps:List Prt} (h:PHas w a n ps) (hb:Below w.heap.size w w'):PHas w' a n ps:=by
 obtain ⟨h1,h2,h3⟩:=h
 refine ⟨h1,fun hp=>?_,fun p hp=>(h3 p hp).later hb⟩
 obtain ⟨b,off,e,hlt,hc⟩:=h2 hp
 exact ⟨b,off,e,Nat.lt_of_lt_of_le hlt hb.size,fun j hj=>(hb.cell (p:=⟨b,off + j,none⟩) hlt).trans (hc j hj)⟩

def allP (ps:List Prt):List Int:=(ps.map (fun p=>p.2.2.2)).flatten

theorem allP_succ (ps:List Prt) (k:Nat) (hk:k < ps.length):allP (ps.take (k + 1))=allP (ps.take k) ++ ps[k].2.2.2:=by
 rw [allP,List.take_succ_eq_append_getElem hk,List.map_append,List.flatten_append]
 simp only [allP,List.map_cons,List.map_nil,List.flatten_cons,List.flatten_nil,List.append_nil]

theorem allP_take_le (ps:List Prt) (k:Nat):(allP (ps.take k)).length ≤ (allP ps).length:=by
 have:allP ps=allP (ps.take k) ++ allP (ps.drop k):=by
  simp only [allP]
  rw [← List.flatten_append,← List.map_append,List.take_append_drop]
 rw [this,List.length_append]; omega

theorem clay_any (size:Nat) (a:Option Addr) (n cap:Nat) (ps:List Prt) (w:World) (h:PHas w a n ps) (hn:n ≤ 1000) (hs:(allP ps).length ≤ size) (hsz:size ≤ 140737488351300) :
  Calls Tryz.prog 127 #[.int .i64 (size:Int),.slice a n cap] w fun e w'=>e=.returned (.slice (some ⟨w.heap.size,0,none⟩) size size)∧Hid (Block w' w.heap.size (layB size (allP ps)))∧Below w.heap.size w w':=by
 have hmk:=run_make_row' (P:=Tryz.prog) 81 5 (.int .u8 0) 1 Tryz.underlying81 info5 rfl .i64 .i64 size (by omega) (by omega)
 have hb0:Below w.heap.size w (w.alloc (.cells (madeCells #[.int .u8 0] size) 5)):=(Below.refl _ w).alloc (Nat.le_refl _) _
 have HB:Hid (Block (w.alloc (.cells (madeCells #[.int .u8 0] size) 5)) w.heap.size (layB size (allP (ps.take 0)))):=by
  have h0:layB size (allP (ps.take 0))=List.replicate size 0:=by simp [layB,allP]
  rw [h0]
  exact make_blockC w size
 have H:=hide h
 have HS:=hide hs
 have hlen:=h.1
 clear h hs
 go_enter Tryz.func127,Tryz.ntmps127
 go_wp2
 go_loopw [6,13] (fun at' i wr=>∃ k at0:Nat,k ≤ n∧i=.int .i64 (k:Int)∧at'=.int .i64 (at0:Int)∧at0 ≤ size∧Hid (at0=(allP (ps.take k)).length)∧Hid (Block wr w.heap.size (layB size (allP (ps.take k))))∧Hid (Below w.heap.size w wr)) (fun _ i _=>n - (intOf i).toNat)
 case atStart=>exact ⟨0,0,Nat.zero_le _,rfl,rfl,Nat.zero_le _,rfl,HB,hb0⟩
 case round =>
  obtain ⟨k,at0,hk,rfl,rfl,hat,he,hBk,hbk⟩:=hrel
  clear HB hmk hb0
  by_cases hlt:k < n
  ·obtain ⟨b,off,rfl,_,hc⟩:=(H.out.later hbk.out).2.1 (by omega)
   have hck:=hc k (by omega)
   have hHas:=(H.out.later hbk.out).2.2 ps[k] (List.getElem_mem _)
   have hsu:=allP_succ ps k (by omega)
   have hle:=allP_take_le ps (k + 1)
   generalize ps[k]=pp at *
   obtain ⟨pa,pn,pc,pz⟩:=pp
   dsimp only [pv] at hck hHas hsu
   rw [hsu,List.length_append] at hle
   have hroom:at0 + pn ≤ size:=by have:=he.out; have:=HS.out; have:=hHas.1; omega
   obtain ⟨w2,hr,hB2,hb2⟩:=copy_at hBk.out (length_layB (by have:=he.out; have:=HS.out; omega)) hHas pc hroom
   have HP:Hid (Block w2 w.heap.size (layB size (allP (ps.take (k + 1))))∧Hid (Below w.heap.size w w2)∧at0 + pn=(allP (ps.take (k + 1))).length):=by
    have:=he.out
    subst this
    refine ⟨?_,hbk.out.trans (hb2 _ (Nat.le_refl _)),by rw [hsu,List.length_append,hHas.1]⟩
    rw [hsu,← layB_put size _ _ (by have:=HS.out; omega)]
    exact hB2
   have hcut:=run_cut_l (some ⟨w.heap.size,0,none⟩) size size at0 hat
   generalize cutAt (some ⟨w.heap.size,0,none⟩) size at0=ca at *
   generalize hd:size - at0=d at *
   clear hc hHas hsu hle hB2 hb2 he hBk hbk HS
   have hpn:(pn:Int) ≤ 140737488351300:=by omega
   go_wp2
   exact ⟨⟨k + 1,at0 + pn,by omega,by go_num,by go_num,by omega,HP.out.2.2,HP.out.1,HP.out.2.1⟩,by simp [intOf]; omega⟩
  ·obtain rfl:k=n:=by omega
   have e:ps.take k=ps:=List.take_of_length_le (by omega)
   rw [e] at hBk
   go_wp2
   go_ret
   exact ⟨rfl,hBk,hbk.out⟩

end Go.Proofs.YtdfanhjnkjdngabGreatDoor

/- Slices of numbers: append([]int{}, x...), and the contract of skerryref01.SameInts. -/
namespace Go.Proofs.YtdfanhjnkjdngabGreatDoor
set_option maxRecDepth 100000
set_option maxHeartbeats 8000000
open Go.RowKit Go.Shelf
set_option linter.unusedVariables false

theorem info3:(Tryz.prog.info? 3).map (fun i=>(i.zero,i.size,i.bytes))=some (some (.int .i64 0),1,8):=by kernel_rfl

theorem oneCell_ints (zs:List Int):∀ v ∈ zs.map (Value.int .i64),v.oneCell'=true:=by
 intro v hv
 simp only [List.mem_map] at hv
 obtain ⟨z,_,rfl⟩:=hv
 rfl

end Go.Proofs.YtdfanhjnkjdngabGreatDoor

/- The contract of skerryref01.IntsApart. -/
namespace Go.Proofs.YtdfanhjnkjdngabGreatDoor
set_option maxRecDepth 100000
set_option maxHeartbeats 8000000
open Go.RowKit Go.Shelf
set_option linter.unusedVariables false

def IOwn (B:Nat) (w:World) (a:Option Addr) (n c:Nat) (xs:List Int):Prop :=
 xs.length=n∧n ≤ c∧c ≤ maxLen∧((a=none∧n=0∧c=0) ∨ ∃ g cur,a=some ⟨g,0,none⟩∧B ≤ g∧w.heap[g]?=some (.cells cur 3 (0,0))∧cur.size=c∧cur.toList.take n=xs.map (Value.int .i64))

theorem IOwn.kept {B:Nat} {w w':World} {a:Option Addr} {n c:Nat} {xs:List Int} (h:IOwn B w a n c xs) (hk:∀ g,a=some ⟨g,0,none⟩→w'.heap[g]?=w.heap[g]?):IOwn B w' a n c xs:=by
 obtain ⟨h1,h2,h3,h4⟩:=h
 refine ⟨h1,h2,h3,?_⟩
 rcases h4 with h4 | ⟨g,cur,e,hg,hh,r⟩
 ·exact .inl h4
 ·exact .inr ⟨g,cur,e,hg,(hk g e).trans hh,r⟩

theorem IOwn.cell {B:Nat} {w:World} {a:Option Addr} {n c:Nat} {xs:List Int} (h:IOwn B w a n c xs) {j:Nat} (hj:j < n):∃ g,a=some ⟨g,0,none⟩∧B ≤ g∧w.cell? ⟨g,j,none⟩=some (.int .i64 (xs[j]?.getD 0))∧w.frozen? ⟨g,j,none⟩=false:=by
 obtain ⟨h1,h2,h3,h4⟩:=h
 rcases h4 with ⟨_,h4,_⟩ | ⟨g,cur,e,hg,hh,hc,ht⟩
 ·omega
 ·refine ⟨g,e,hg,?_,by simp [World.frozen?,hh]⟩
  have hx:(cur.toList.take n)[j]?=some (.int .i64 (xs[j]?.getD 0)):=by
   rw [ht,List.getElem?_map,List.getElem?_eq_getElem (by omega)]; rfl
  rw [List.getElem?_take_of_lt hj] at hx
  simp only [World.cell?,hh]
  simpa using hx

theorem IOwn.lt {B:Nat} {w:World} {a:Option Addr} {n c:Nat} {xs:List Int} (h:IOwn B w a n c xs) {g:Nat} (e:a=some ⟨g,0,none⟩):g < w.heap.size∧B ≤ g∧∃ cur,w.heap[g]?=some (.cells cur 3 (0,0)):=by
 obtain ⟨_,_,_,h4⟩:=h
 rcases h4 with ⟨h4,_⟩ | ⟨g',cur,e',hg,hh,_⟩
 ·rw [h4] at e; cases e
 ·rw [e] at e'; cases e'
  exact ⟨(Array.getElem?_eq_some_iff.1 hh).1,hg,cur,hh⟩

theorem IOwn.below {B n:Nat} {w w':World} {a:Option Addr} {l c:Nat} {xs:List Int} (h:IOwn B w a l c xs) (hb:Below n w w') (hn:w.heap.size ≤ n):IOwn B w' a l c xs :=
 h.kept (fun g e=>hb.block g (by have:=(h.lt e).1; omega))

theorem IOwn.nil (B:Nat) (w:World):IOwn B w none 0 0 []:=⟨rfl,Nat.le_refl _,by unfold maxLen; omega,.inl ⟨rfl,rfl,rfl⟩⟩

end Go.Proofs.YtdfanhjnkjdngabGreatDoor

/- The table stays; rows of bytes. -/
namespace Go.Proofs.YtdfanhjnkjdngabGreatDoor
set_option maxRecDepth 100000
set_option maxHeartbeats 8000000
open Go.RowKit Go.Shelf
set_option linter.unusedVariables false

theorem tab_size {w:World} (h:Tab w):0 < w.heap.size:=by
 have h0:=h 0 (by omega)
 cases hb:w.heap[0]? with
 | none=>simp [World.cell?,hb] at h0
 | some o=>exact (Array.getElem?_eq_some_iff.1 hb).1

theorem Tab.below {n:Nat} {w w':World} (h:Tab w) (hb:Below n w w') (hn:0 < n):Tab w':=fun k hk=>(hb.cell (p:=⟨0,k,none⟩) hn).trans (h k hk)

theorem Row.byts {n:Nat} {w:World} {a:Option Addr} {len cap:Nat} {zs:List Int} (h:Row n w a len cap zs):Byts zs:=h.2.2.2.1

end Go.Proofs.YtdfanhjnkjdngabGreatDoor

/- Plain facts on bytes as numbers. -/
namespace Go.Proofs.YtdfanhjnkjdngabGreatDoor
set_option maxRecDepth 100000
set_option maxHeartbeats 8000000
open Go.RowKit Go.Shelf
set_option linter.unusedVariables false

def num:List Int→Int
 | []=>0
 | c :: r=>c + 256 * num r

def digits:Nat→Int→List Int
 | 0,_=>[]
 | k + 1,v=>v % 256 :: digits k (v / 256)

def horn (l:List Int):Int:=l.foldl (fun v c=>v * 256 + c) 0

theorem horn_snoc (l:List Int) (c:Int):horn (l ++ [c])=horn l * 256 + c:=by simp [horn]

theorem horn_reverse (l:List Int):horn l.reverse=num l:=by
 induction l with
 | nil=>rfl
 | cons c r ih=>rw [List.reverse_cons,horn_snoc,ih,num]; omega

theorem num_digits (k:Nat):∀ v:Int,0 ≤ v→v < 256 ^ k→num (digits k v)=v:=by
 induction k with
 | zero=>intro v h1 h2; simp [digits,num] at *; omega
 | succ k ih =>
  intro v h1 h2
  have:v / 256 < 256 ^ k:=by rw [Int.pow_succ] at h2; omega
  rw [digits,num,ih _ (by omega) this]; omega

theorem length_digits (k:Nat):∀ v,(digits k v).length=k:=by
 induction k with
 | zero=>intro v; rfl
 | succ k ih=>intro v; simp [digits,ih]

theorem digits_byte (k:Nat):∀ v,∀ z ∈ digits k v,0 ≤ z∧z ≤ 255:=by
 induction k with
 | zero=>intro v z h; simp [digits] at h
 | succ k ih =>
  intro v z h
  rcases List.mem_cons.1 h with rfl | h
  ·omega
  ·exact ih _ _ h

theorem num_bound (l:List Int) (h:∀ z ∈ l,0 ≤ z∧z ≤ 255):0 ≤ num l∧num l < 256 ^ l.length:=by
 induction l with
 | nil=>simp [num]
 | cons c r ih =>
  have h1:=ih (fun z hz=>h z (by simp [hz]))
  have h2:=h c (by simp)
  simp only [num,List.length_cons,Int.pow_succ]
  omega

theorem horn_bound (l:List Int) (h:∀ z ∈ l,0 ≤ z∧z ≤ 255):0 ≤ horn l∧horn l < 256 ^ l.length:=by
 have:=num_bound l.reverse (by simpa using h)
 rw [← horn_reverse,List.reverse_reverse,List.length_reverse] at this
 exact this

theorem nat_or_byte (x c:Nat) (hc:c < 256):x * 256 ||| c=x * 256 + c:=nat_join 8 (x * 256) c (by omega) (by omega)

theorem or_byte (v c:Int) (h1:0 ≤ v) (h2:v < 16777216) (h3:0 ≤ c) (h4:c ≤ 255):bits .or .i64 (v * 256) c=v * 256 + c:=by
 obtain ⟨x,rfl⟩:=Int.eq_ofNat_of_zero_le h1
 obtain ⟨y,rfl⟩:=Int.eq_ofNat_of_zero_le h3
 have e1:(BitVec.ofInt 64 ((x:Int) * 256)).toNat=x * 256:=by
  have:((x:Int) * 256)=((x * 256:Nat):Int):=by omega
  rw [this]; exact ofInt_u64 _ (by omega)
 have e2:(BitVec.ofInt 64 (y:Int)).toNat=y:=ofInt_u64 _ (by omega)
 have e3:x * 256 ||| y=x * 256 + y:=nat_or_byte x y (by omega)
 show IntKind.i64.wrap ((BitVec.ofInt 64 ((x:Int) * 256) ||| BitVec.ofInt 64 (y:Int)).toNat:Int)=_
 rw [BitVec.toNat_or,e1,e2,e3]; simp only [IntKind.wrap,IntKind.bits,IntKind.signed]; simp
 omega

end Go.Proofs.YtdfanhjnkjdngabGreatDoor

/- The contract of field.renew. -/
namespace Go.Proofs.YtdfanhjnkjdngabGreatDoor
set_option maxRecDepth 100000
set_option maxHeartbeats 8000000
open Go.RowKit Go.Shelf
set_option linter.unusedVariables false

theorem renew_any (a:Option Addr) (len cap:Nat) (zs:List Int) (w:World) (hr:Row w.heap.size w a len cap zs) :
  Calls Tryz.prog 184 #[.slice a len cap] w fun e w'=>e=.returned (.slice (some ⟨w.heap.size,0,none⟩) len len)∧Block w' w.heap.size zs∧Below w.heap.size w w':=by
 obtain ⟨hlen,hlc,hcm,hby,hcell⟩:=hr
 have hmk:=run_make_row' (P:=Tryz.prog) 81 5 (.int .u8 0) 1 Tryz.underlying81 info5 rfl .i64 .i64 len (by omega) (by omega)
 have hb0:Below w.heap.size w (w.alloc (.cells (madeCells #[.int .u8 0] len) 5)):=(Below.refl _ w).alloc (Nat.le_refl _) _
 have hsrc:0 < len→∃ ad,a=some ad∧∀ (j:Nat) v,(zs.map (Value.int .u8))[j]?=some v→(w.alloc (.cells (madeCells #[.int .u8 0] len) 5)).cell? (ad.add j)=some v:=by
  intro hp
  obtain ⟨b,off,rfl,hb,hc⟩:=hcell hp
  refine ⟨_,rfl,fun j v hv=>?_⟩
  rw [World.add_zero_spot,hb0.cell (p:=⟨b,off + j,none⟩) hb]
  have hj:j < zs.length:=by
   have:=(List.getElem?_eq_some_iff.1 hv).1
   simpa using this
  rw [hc j (by omega)]
  rw [List.getElem?_map,List.getElem?_eq_getElem hj] at hv
  rw [List.getElem?_eq_getElem hj]
  simpa using hv
 have hg:(w.alloc (.cells (madeCells #[.int .u8 0] len) 5)).heap[w.heap.size]?=some (.cells (List.replicate len (Value.int .u8 0)).toArray 5 (0,0)):=by
  rw [World.alloc_heap_new,← toList_madeCells_one,Array.toArray_toList]
 obtain ⟨w2,hcp,hg2,hb2⟩:∃ w2,(∀ ty,(Builtin.copy_ #[81,81] ty #[.slice (some ⟨w.heap.size,0,none⟩) len len,.slice a len cap]).run Tryz.prog (w.alloc (.cells (madeCells #[.int .u8 0] len) 5))=.ok (goInt len) w2)∧Block w2 w.heap.size zs∧Below w.heap.size w w2:=by
  by_cases h0:len=0
  ·subst h0
   have hz:zs=[]:=List.eq_nil_of_length_eq_zero hlen
   subst hz
   exact ⟨_,fun ty=>run_copy_none _ 81 81 ty 5 _ _ _ _ _ _ Tryz.underlying81 size5 rfl,hg,hb0⟩
  ·obtain ⟨ad,rfl,hs⟩:=hsrc (by omega)
   refine ⟨_,fun ty=>?_,?_,below_setRow hb0 (Nat.le_refl _) (zs.map (Value.int .u8)).toArray⟩
   ·have h:=run_copy_row (P:=Tryz.prog) (w.alloc (.cells (madeCells #[.int .u8 0] len) 5)) 81 81 ty 5 w.heap.size 0 len len ad len cap _ 5 (zs.map (Value.int .u8)) Tryz.underlying81 size5 hg (by rw [List.length_map,hlen]; exact (Nat.min_self _).symm) hs (by simp [hlen]) (oneCell_bytes zs)
    have e:(List.take 0 (List.replicate len (Value.int .u8 0)).toArray.toList ++ zs.map (Value.int .u8) ++ List.drop (0 + (zs.map (Value.int .u8)).length) (List.replicate len (Value.int .u8 0)).toArray.toList)=zs.map (Value.int .u8):=by
     simp [hlen]
    rw [e,List.length_map,hlen] at h
    exact h
   ·exact setRow_heap _ _ _ _ 5 _ hg
 clear hg hsrc hcell
 go_enter Tryz.func184,Tryz.ntmps184
 go_wp2
 go_ret
 exact ⟨rfl,hg2,hb2⟩

theorem renew_at (a:Option Addr) (len cap:Nat) (zs:List Int) (w:World) (n:Nat) (hn:w.heap.size=n) (hr:Row w.heap.size w a len cap zs) :
  Calls Tryz.prog 184 #[.slice a len cap] w fun e w'=>e=.returned (.slice (some ⟨n,0,none⟩) len len)∧Hid (Block w' n zs)∧Below n w w':=by
 subst hn; exact renew_any a len cap zs w hr

end Go.Proofs.YtdfanhjnkjdngabGreatDoor

