/- Joined: VStr, VSeek. -/
import Derived.Test.YtknmgefpjdfenaaGreatSfJ7
import Derived.Shelf.Lay
import Derived.Shelf.Strings.Prefix
import Derived.Shelf.Strings.Search2
import Derived.Shelf.Small.Strs
import Derived.Shelf.Strconv.Clone
/- strings.TrimPrefix, Cut, Clone, Compare of this program. -/
namespace Go.Proofs.YtknmgefpjdfenaaGreat
set_option maxRecDepth 100000
set_option maxHeartbeats 8000000
open Go.RowKit Go.Shelf
set_option linter.unusedVariables false

shelf_lay Lays.n101 Nm 101 at Tryz as Tryz.trimL

shelf_lay Lays.n219 Nm 219 at Tryz as Tryz.indexL

shelf_lay LaysM.n316 Nm 316 at Tryz as Tryz.cloneL

theorem trimP (p:List UInt8):Lib.trimPrefix p [47]=drop1 p:=by
 unfold Lib.trimPrefix Lib.hasPrefix
 cases p with
 | nil=>rfl
 | cons b l =>
  show _=if b=47 then l else b :: l
  by_cases hb:b=47
  ·subst hb; simp [List.isPrefixOf]
  ·have:((47:UInt8) == b)=false:=by simpa using fun e=>hb e.symm
   simp [List.isPrefixOf,this,hb]

theorem trim_any (p:List UInt8) (w:World) :
  Calls Tryz.prog 129 #[.string (St p),.string ⟨#[47]⟩] w fun e w'=>e=.returned (.string (St (drop1 p)))∧w'=w:=by
 have h:=Any.strings_TrimPrefix Tryz.trimL (St p) ⟨#[47]⟩ w
 have e:Lib.trimPrefix (St p).data.toList (⟨#[47]⟩:ByteArray).data.toList=drop1 p:=by rw [data_St]; exact trimP p
 rw [e] at h
 exact h

theorem index_cut (l:List UInt8):(Lib.indexByte l 47=-1∧cutN l=(l,[])) ∨ ∃ i:Nat,Lib.indexByte l 47=i∧i < l.length∧cutN l=(l.take i,l.drop (i + 1)):=by
 induction l with
 | nil=>left; exact ⟨rfl,rfl⟩
 | cons b l ih =>
  unfold Lib.indexByte
  rw [cutN_cons]
  by_cases hb:b=47
  ·right; subst hb; exact ⟨0,by simp,by simp,by simp⟩
  ·have hb':(b == 47)=false:=by simpa using hb
   rw [hb',if_neg hb]
   rcases ih with ⟨h1,h2⟩ | ⟨i,h1,h2,h3⟩
   ·left
    rw [h1,h2]
    exact ⟨by simp,rfl⟩
   ·right
    refine ⟨i + 1,?_,by simp; omega,?_⟩
    ·rw [h1]
     have:((i:Int) == -1)=false:=by simp
     rw [this]; simp
    ·rw [h3]; simp

theorem St_take (l:List UInt8) (i:Nat) (h:i ≤ l.length):(St l).extract 0 i=St (l.take i):=by
 apply ByteArray.ext
 simp [St,ByteArray.data_extract]

theorem St_drop (l:List UInt8) (i:Nat) (h:i ≤ l.length):(St l).extract i l.length=St (l.drop i):=by
 apply ByteArray.ext
 simp only [St,ByteArray.data_extract,List.extract_toArray]
 rw [List.extract_eq_drop_take',List.take_of_length_le (by simp)]

theorem indexS_any (l:List UInt8) (w:World) :
  Calls Tryz.prog 172 #[.string (St l),.string ⟨#[47]⟩] w fun e w'=>e=.returned (.int .i64 (Lib.indexByte l 47))∧w'=w:=by
 have h:=Any.stringslite_Index_one Tryz.indexL (St l) 47 w
 rw [data_St] at h
 exact h

theorem clone_any (l:List UInt8) (w:World) (hl:l.length ≤ 140737488355328) :
  Calls Tryz.prog 62 #[.string (St l)] w fun e w'=>e=.returned (.string (St l))∧Below w.heap.size w w':=by
 have K:=hide (Any.stringslite_Clone Tryz.cloneL (St l) w (by rw [St_size]; omega))
 generalize St l=s at *
 go_enter Tryz.func62,Tryz.ntmps62
 go_wp2_with fail
 refine (unhide K).mono ?_
 rintro e w1 ⟨rfl,hb⟩
 have HB:=hide hb
 clear K hb
 go_wp2_with fail
 go_ret
 exact ⟨rfl,HB.out⟩

end Go.Proofs.YtknmgefpjdfenaaGreat

/- strings.Cut at /; walk.seeker and the function that it answers. -/
namespace Go.Proofs.YtknmgefpjdfenaaGreat
set_option maxRecDepth 100000
set_option maxHeartbeats 8000000
open Go.RowKit Go.Shelf
set_option linter.unusedVariables false

theorem cut0_any (l:List UInt8) (w:World) (hl:l.length ≤ 1000000) :
  Calls Tryz.prog 152 #[.string (St l),.string ⟨#[47]⟩] w fun e w'=>(∃ q,e=.returned (.tuple #[.string (St (cutN l).1),.string (St (cutN l).2),.bool q]))∧∃ n,w'=w.drewN n:=by
 have K:=indexS_any l w
 have hs:=St_size l
 rcases index_cut l with ⟨h1,h2⟩ | ⟨i,h1,h2,h3⟩
 ·rw [h1] at K
  rw [h2]
  have K:=hide K
  show Calls _ _ _ _ fun e w'=>(∃ q,e=.returned (.tuple #[.string (St l),.string ⟨#[]⟩,.bool q]))∧_
  clear h1 h2
  generalize St l=s at *
  go_enter Tryz.func152,Tryz.ntmps152
  go_wp2_with fail
  refine (unhide K).mono ?_
  rintro e w1 ⟨rfl,rfl⟩
  clear K
  go_wp2_with fail
  go_ret3
  exact ⟨⟨_,rfl⟩,0,rfl⟩
 ·rw [h1] at K
  rw [h3]
  have K:=hide K
  have e1:=St_take l i (by omega)
  have e2:=St_drop l (i + 1) (by omega)
  show Calls _ _ _ _ fun e w'=>(∃ q,e=.returned (.tuple #[.string (St (l.take i)),.string (St (l.drop (i + 1))),.bool q]))∧_
  rw [← e1,← e2]
  rw [← hs] at hl h2 ⊢
  clear h1 h3 e1 e2 hs
  generalize St l=s at *
  have c1:(0:Int) ≤ ↑i:=by omega
  have c2:(↑i:Int) ≤ ↑s.size:=by omega
  have c3:(0:Int) ≤ ↑i + 1:=by omega
  have c4:(↑i + 1:Int) ≤ ↑s.size:=by omega
  go_enter Tryz.func152,Tryz.ntmps152
  go_wp2_with fail
  refine (unhide K).mono ?_
  rintro e w1 ⟨rfl,rfl⟩
  clear K
  go_wp2_with fail
  go_quiet (fail)
  go_wp2_with fail
  go_ret3
  exact ⟨⟨_,rfl⟩,_,rfl⟩

theorem cut_any (l:List UInt8) (w:World) (hl:l.length ≤ 1000000) :
  Calls Tryz.prog 131 #[.string (St l),.string ⟨#[47]⟩] w fun e w'=>(∃ q,e=.returned (.tuple #[.string (St (cutN l).1),.string (St (cutN l).2),.bool q]))∧∃ n,w'=w.drewN n:=by
 have K:=hide (cut0_any l w hl)
 generalize St l=s at *
 generalize St (cutN l).1=s1 at *
 generalize St (cutN l).2=s2 at *
 go_enter Tryz.func131,Tryz.ntmps131
 go_wp2_with fail
 refine (unhide K).mono ?_
 rintro e w1 ⟨⟨q,rfl⟩,hn⟩
 have HN:=hide hn
 clear K hn
 go_wp2_with fail
 go_ret3
 exact ⟨⟨_,rfl⟩,HN.out⟩

def bx (l:List UInt8):Obj:=.cells #[sv l] 9 (0,0)

theorem next_any (l:List UInt8) (g:Nat) (w:World) (hl:l.length ≤ 1000000) (hg:w.heap[g]?=some (bx l)) :
  Calls Tryz.prog 130 #[.pointer (some ⟨g,0,none⟩)] w fun e w'=>e=.returned (.string (St (cutN l).1))∧∃ n,w'=(w.drewN n).setCell ⟨g,0,none⟩ (sv (cutN l).2):=by
 have KC:Hid (∀ u,Calls Tryz.prog 131 #[.string (St l),.string ⟨#[47]⟩] u fun e w'=>(∃ q,e=.returned (.tuple #[.string (St (cutN l).1),.string (St (cutN l).2),.bool q]))∧∃ n,w'=u.drewN n):=fun u=>cut_any l u hl
 have hc:w.cell? ⟨g,0,none⟩=some (.string (St l)):=cell_box hg
 have hf:w.frozen? ⟨g,0,none⟩=false:=by simp [World.frozen?,hg,bx]
 unfold sv
 clear hg
 generalize St l=s at *
 generalize St (cutN l).1=s1 at *
 generalize St (cutN l).2=s2 at *
 go_enter Tryz.func130,Tryz.ntmps130
 go_wp2_with fail
 refine ((unhide KC) _).mono ?_
 rintro e w1 ⟨⟨q,rfl⟩,n,rfl⟩
 clear KC
 have hf':(w.drewN n).frozen? ⟨g,0,none⟩=false:=hf
 have hc':(w.drewN n).cell? ⟨g,0,none⟩=some (.string s):=hc
 clear hf hc
 go_wp2_with fail
 go_ret
 exact ⟨rfl,n,rfl⟩

theorem seeker_any (p:List UInt8) (w:World) :
  Calls Tryz.prog 113 #[.string (St p)] w fun e w'=>e=.returned (.func (.func 130) #[] #[.pointer (some ⟨w.heap.size,0,none⟩)])∧w'=w.alloc (bx (drop1 p)):=by
 have K:Hid (∀ u,Calls Tryz.prog 129 #[.string (St p),.string ⟨#[47]⟩] u fun e w'=>e=.returned (.string (St (drop1 p)))∧w'=u):=fun u=>trim_any p u
 unfold bx sv
 generalize St p=s at *
 generalize St (drop1 p)=s1 at *
 go_enter Tryz.func113,Tryz.ntmps113
 go_wp2_with fail
 refine ((unhide K) _).mono ?_
 rintro e w1 ⟨rfl,rfl⟩
 clear K
 go_wp2_with fail
 go_ret
 exact ⟨rfl,rfl⟩

end Go.Proofs.YtknmgefpjdfenaaGreat

