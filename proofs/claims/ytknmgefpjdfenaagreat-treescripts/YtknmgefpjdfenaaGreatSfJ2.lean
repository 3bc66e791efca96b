/- Joined: CLay, GInts, GNum, GSame. -/
import Derived.Test.YtknmgefpjdfenaaGreatSfJ1
/- Contract of codec.lay. -/
namespace Go.Proofs.YtknmgefpjdfenaaGreat
set_option maxRecDepth 100000
set_option maxHeartbeats 8000000
open Go.RowKit Go.Shelf
set_option linter.unusedVariables false

abbrev Prt:=Option Addr × Nat × Nat × List Int

abbrev pv (p:Prt):Value:=.slice p.1 p.2.1 p.2.2.1

theorem Has.lt {w:World} {a:Option Addr} {len:Nat} {zs:List Int} (h:Has w a len zs) {b off:Nat} (hp:0 < len) (e:a=some ⟨b,off,none⟩):b < w.heap.size:=by
 obtain ⟨b',off',e',hc⟩:=h.2 hp
 rw [e] at e'
 cases e'
 exact cell_block_lt (hc 0 hp)

theorem Has.later {w w':World} {a:Option Addr} {len:Nat} {zs:List Int} (h:Has w a len zs) (hb:Below w.heap.size w w'):Has w' a len zs:=by
 refine ⟨h.1,fun hp=>?_⟩
 obtain ⟨b,off,e,hc⟩:=h.2 hp
 exact ⟨b,off,e,fun j hj=>(hb.cell (p:=⟨b,off + j,none⟩) (h.lt hp e)).trans (hc j hj)⟩

end Go.Proofs.YtknmgefpjdfenaaGreat

/- Slices of numbers: append([]int{}, x...), and the contract of skerryref01.SameInts. -/
namespace Go.Proofs.YtknmgefpjdfenaaGreat
set_option maxRecDepth 100000
set_option maxHeartbeats 8000000
open Go.RowKit Go.Shelf
set_option linter.unusedVariables false

theorem ihas_of_row {w:World} {base:Nat} {v:Value} {n:Nat} {ns:List Int} (h:w.ownsRow base 3 1 v n (ns.map (Value.int .i64))):∃ a c,v=.slice a n c∧IHas w a n ns:=by
 obtain ⟨h1,h2⟩:=h
 have hl:ns.length=n:=by simpa using h1
 rcases h2 with ⟨rfl,rfl⟩ | ⟨g,cap,cur,rfl,hg,hh,h2,h3,hc,ht⟩
 ·exact ⟨none,0,rfl,hl,fun h=>by omega⟩
 ·refine ⟨_,cap,rfl,hl,fun hp=>⟨g,0,rfl,fun j hj=>?_⟩⟩
  rw [Nat.zero_add]
  have ht':cur.toList.take n=ns.map (Value.int .i64):=by simpa using ht
  have hx:(cur.toList.take n)[j]?=some (.int .i64 (ns[j]?.getD 0)):=by
   rw [ht',List.getElem?_map,List.getElem?_eq_getElem (by omega)]; rfl
  rw [List.getElem?_take_of_lt hj] at hx
  simp only [World.cell?,hh]
  simpa using hx

end Go.Proofs.YtknmgefpjdfenaaGreat

/- Plain facts on bytes as numbers. -/
namespace Go.Proofs.YtknmgefpjdfenaaGreat
set_option maxRecDepth 100000
set_option maxHeartbeats 8000000
open Go.RowKit Go.Shelf
set_option linter.unusedVariables false

def num:List Int→Int
 | []=>0
 | c :: r=>c + 256 * num r

def digits:Nat→Int→List Int
 | 0,_=>[]
 | k + 1,v=>v % 256 :: digits k (v / 256)

end Go.Proofs.YtknmgefpjdfenaaGreat

/- The contract of skerryref01.SameBytes. -/
namespace Go.Proofs.YtknmgefpjdfenaaGreat
set_option maxRecDepth 100000
set_option maxHeartbeats 8000000
open Go.RowKit Go.Shelf
set_option linter.unusedVariables false

theorem same_true (a1 a2:Option Addr) (l c1 c2:Nat) (zs:List Int) (w:World) (h1:Has w a1 l zs) (h2:Has w a2 l zs) :
  Calls Tryz.prog 40 #[.slice a1 l c1,.slice a2 l c2] w fun e w'=>e=.returned (.bool true)∧w=w':=by
 have e1:=h1.conv c1
 have e2:=h2.conv c2
 clear h1 h2
 go_enter Tryz.func40,Tryz.ntmps40
 go_wp2
 go_ret
 exact ⟨by simp,rfl⟩

end Go.Proofs.YtknmgefpjdfenaaGreat

