/- Joined: GMore, GNum, GRenew, GRoom, GSame. -/
import Derived.Test.YtdfanhjnkjdngaaGreatDoorArJ1
/- The table stays; rows of bytes. -/
namespace Go.Proofs.YtdfanhjnkjdngaaGreatDoor
set_option maxRecDepth 100000
set_option maxHeartbeats 8000000
open Go.RowKit Go.Shelf
set_option linter.unusedVariables false

theorem tab_size {w:World} (h:Tab w):0 < w.heap.size:=by
 have h0:=h 0 (by omega)
 cases hb:w.heap[0]? with
 | none=>simp [World.cell?,hb] at h0
 | some o=>exact (Array.getElem?_eq_some_iff.1 hb).1

theorem Tab.below {n:Nat} {w w':World} (h:Tab w) (hb:Below n w w') (hn:0 < n):Tab w':=fun k hk=>(hb.cell (p:=⟨0,k,none⟩) hn).trans (h k hk)

theorem Row.byts {n:Nat} {w:World} {a:Option Addr} {len cap:Nat} {zs:List Int} (h:Row n w a len cap zs):Byts zs:=h.2.2.2.1

end Go.Proofs.YtdfanhjnkjdngaaGreatDoor

/- Plain facts on bytes as numbers. -/
namespace Go.Proofs.YtdfanhjnkjdngaaGreatDoor
set_option maxRecDepth 100000
set_option maxHeartbeats 8000000
open Go.RowKit Go.Shelf
set_option linter.unusedVariables false

def num:List Int→Int
 | []=>0
 | c :: r=>c + 256 * num r

def digits:Nat→Int→List Int
 | 0,_=>[]
 | k + 1,v=>v % 256 :: digits k (v / 256)

def horn (l:List Int):Int:=l.foldl (fun v c=>v * 256 + c) 0

theorem horn_snoc (l:List Int) (c:Int):horn (l ++ [c])=horn l * 256 + c:=by simp [horn]

theorem horn_reverse (l:List Int):horn l.reverse=num l:=by
 induction l with
 | nil=>rfl
 | cons c r ih=>rw [List.reverse_cons,horn_snoc,ih,num]; omega

theorem num_digits (k:Nat):∀ v:Int,0 ≤ v→v < 256 ^ k→num (digits k v)=v:=by
 induction k with
 | zero=>intro v h1 h2; simp [digits,num] at *; omega
 | succ k ih =>
  intro v h1 h2
  have:v / 256 < 256 ^ k:=by rw [Int.pow_succ] at h2; omega
  rw [digits,num,ih _ (by omega) this]; omega

theorem length_digits (k:Nat):∀ v,(digits k v).length=k:=by
 induction k with
 | zero=>intro v; rfl
 | succ k ih=>intro v; simp [digits,ih]

theorem digits_byte (k:Nat):∀ v,∀ z ∈ digits k v,0 ≤ z∧z ≤ 255:=by
 induction k with
 | zero=>intro v z h; simp [digits] at h
 | succ k ih =>
  intro v z h
  rcases List.mem_cons.1 h with rfl | h
  ·omega
  ·exact ih _ _ h

theorem num_bound (l:List Int) (h:∀ z ∈ l,0 ≤ z∧z ≤ 255):0 ≤ num l∧num l < 256 ^ l.length:=by
 induction l with
 | nil=>simp [num]
 | cons c r ih =>
  have h1:=ih (fun z hz=>h z (by simp [hz]))
  have h2:=h c (by simp)
  simp only [num,List.length_cons,Int.pow_succ]
  omega

theorem horn_bound (l:List Int) (h:∀ z ∈ l,0 ≤ z∧z ≤ 255):0 ≤ horn l∧horn l < 256 ^ l.length:=by
 have:=num_bound l.reverse (by simpa using h)
 rw [← horn_reverse,List.reverse_reverse,List.length_reverse] at this
 exact this

theorem nat_or_byte (x c:Nat) (hc:c < 256):x * 256 ||| c=x * 256 + c:=nat_join 8 (x * 256) c (by omega) (by omega)

theorem or_byte (v c:Int) (h1:0 ≤ v) (h2:v < 16777216) (h3:0 ≤ c) (h4:c ≤ 255):bits .or .i64 (v * 256) c=v * 256 + c:=by
 obtain ⟨x,rfl⟩:=Int.eq_ofNat_of_zero_le h1
 obtain ⟨y,rfl⟩:=Int.eq_ofNat_of_zero_le h3
 have e1:(BitVec.ofInt 64 ((x:Int) * 256)).toNat=x * 256:=by
  have:((x:Int) * 256)=((x * 256:Nat):Int):=by omega
  rw [this]; exact ofInt_u64 _ (by omega)
 have e2:(BitVec.ofInt 64 (y:Int)).toNat=y:=ofInt_u64 _ (by omega)
 have e3:x * 256 ||| y=x * 256 + y:=nat_or_byte x y (by omega)
 show IntKind.i64.wrap ((BitVec.ofInt 64 ((x:Int) * 256) ||| BitVec.ofInt 64 (y:Int)).toNat:Int)=_
 rw [BitVec.toNat_or,e1,e2,e3]; simp only [IntKind.wrap,IntKind.bits,IntKind.signed]; simp
 omega

end Go.Proofs.YtdfanhjnkjdngaaGreatDoor

/- The contract of field.renew. -/
namespace Go.Proofs.YtdfanhjnkjdngaaGreatDoor
set_option maxRecDepth 100000
set_option maxHeartbeats 8000000
open Go.RowKit Go.Shelf
set_option linter.unusedVariables false

theorem renew_any (a:Option Addr) (len cap:Nat) (zs:List Int) (w:World) (hr:Row w.heap.size w a len cap zs) :
  Calls Tryz.prog 302 #[.slice a len cap] w fun e w'=>e=.returned (.slice (some ⟨w.heap.size,0,none⟩) len len)∧Block w' w.heap.size zs∧Below w.heap.size w w':=by
 obtain ⟨hlen,hlc,hcm,hby,hcell⟩:=hr
 have hmk:=run_make_row' (P:=Tryz.prog) 50 5 (.int .u8 0) 1 Tryz.underlying50 info5 rfl .i64 .i64 len (by omega) (by omega)
 have hb0:Below w.heap.size w (w.alloc (.cells (madeCells #[.int .u8 0] len) 5)):=(Below.refl _ w).alloc (Nat.le_refl _) _
 have hsrc:0 < len→∃ ad,a=some ad∧∀ (j:Nat) v,(zs.map (Value.int .u8))[j]?=some v→(w.alloc (.cells (madeCells #[.int .u8 0] len) 5)).cell? (ad.add j)=some v:=by
  intro hp
  obtain ⟨b,off,rfl,hb,hc⟩:=hcell hp
  refine ⟨_,rfl,fun j v hv=>?_⟩
  rw [World.add_zero_spot,hb0.cell (p:=⟨b,off + j,none⟩) hb]
  have hj:j < zs.length:=by
   have:=(List.getElem?_eq_some_iff.1 hv).1
   simpa using this
  rw [hc j (by omega)]
  rw [List.getElem?_map,List.getElem?_eq_getElem hj] at hv
  rw [List.getElem?_eq_getElem hj]
  simpa using hv
 have hg:(w.alloc (.cells (madeCells #[.int .u8 0] len) 5)).heap[w.heap.size]?=some (.cells (List.replicate len (Value.int .u8 0)).toArray 5 (0,0)):=by
  rw [World.alloc_heap_new,← toList_madeCells_one,Array.toArray_toList]
 obtain ⟨w2,hcp,hg2,hb2⟩:∃ w2,(∀ ty,(Builtin.copy_ #[50,50] ty #[.slice (some ⟨w.heap.size,0,none⟩) len len,.slice a len cap]).run Tryz.prog (w.alloc (.cells (madeCells #[.int .u8 0] len) 5))=.ok (goInt len) w2)∧Block w2 w.heap.size zs∧Below w.heap.size w w2:=by
  by_cases h0:len=0
  ·subst h0
   have hz:zs=[]:=List.eq_nil_of_length_eq_zero hlen
   subst hz
   exact ⟨_,fun ty=>run_copy_none _ 50 50 ty 5 _ _ _ _ _ _ Tryz.underlying50 size5 rfl,hg,hb0⟩
  ·obtain ⟨ad,rfl,hs⟩:=hsrc (by omega)
   refine ⟨_,fun ty=>?_,?_,below_setRow hb0 (Nat.le_refl _) (zs.map (Value.int .u8)).toArray⟩
   ·have h:=run_copy_row (P:=Tryz.prog) (w.alloc (.cells (madeCells #[.int .u8 0] len) 5)) 50 50 ty 5 w.heap.size 0 len len ad len cap _ 5 (zs.map (Value.int .u8)) Tryz.underlying50 size5 hg (by rw [List.length_map,hlen]; exact (Nat.min_self _).symm) hs (by simp [hlen]) (oneCell_bytes zs)
    have e:(List.take 0 (List.replicate len (Value.int .u8 0)).toArray.toList ++ zs.map (Value.int .u8) ++ List.drop (0 + (zs.map (Value.int .u8)).length) (List.replicate len (Value.int .u8 0)).toArray.toList)=zs.map (Value.int .u8):=by
     simp [hlen]
    rw [e,List.length_map,hlen] at h
    exact h
   ·exact setRow_heap _ _ _ _ 5 _ hg
 clear hg hsrc hcell
 go_enter Tryz.func302,Tryz.ntmps302
 go_wp2
 go_ret
 exact ⟨rfl,hg2,hb2⟩

theorem renew_at (a:Option Addr) (len cap:Nat) (zs:List Int) (w:World) (n:Nat) (hn:w.heap.size=n) (hr:Row w.heap.size w a len cap zs) :
  Calls Tryz.prog 302 #[.slice a len cap] w fun e w'=>e=.returned (.slice (some ⟨n,0,none⟩) len len)∧Hid (Block w' n zs)∧Below n w w':=by
 subst hn; exact renew_any a len cap zs w hr

end Go.Proofs.YtdfanhjnkjdngaaGreatDoor

/- Contracts of skerryref01.Roomy and skerryref01.Kept. -/
namespace Go.Proofs.YtdfanhjnkjdngaaGreatDoor
set_option maxRecDepth 100000
set_option maxHeartbeats 8000000
open Go.RowKit Go.Shelf
set_option linter.unusedVariables false

def rm (zs:List Int) (k:Nat):List Int:=zs ++ (List.replicate k 165 ++ List.replicate (4 - k) 0)

end Go.Proofs.YtdfanhjnkjdngaaGreatDoor

/- The contract of skerryref01.SameBytes. -/
namespace Go.Proofs.YtdfanhjnkjdngaaGreatDoor
set_option maxRecDepth 100000
set_option maxHeartbeats 8000000
open Go.RowKit Go.Shelf
set_option linter.unusedVariables false

theorem same_true (a1 a2:Option Addr) (l c1 c2:Nat) (zs:List Int) (w:World) (h1:Has w a1 l zs) (h2:Has w a2 l zs) :
  Calls Tryz.prog 50 #[.slice a1 l c1,.slice a2 l c2] w fun e w'=>e=.returned (.bool true)∧w=w':=by
 have e1:=h1.conv c1
 have e2:=h2.conv c2
 clear h1 h2
 go_enter Tryz.func50,Tryz.ntmps50
 go_wp2
 go_ret
 exact ⟨by simp,rfl⟩

end Go.Proofs.YtdfanhjnkjdngaaGreatDoor

