/- Joined: VName, VRName. -/
import Derived.Test.YtknmgefpjdfenaaGreatSfJ1
import Derived.Laws.IdiomStrings
import Derived.OwnWalk
import Derived.Deep.DeepCutAuto
/- codec.Name and skerryref06.Name: every text. -/
namespace Go.Proofs.YtknmgefpjdfenaaGreat
set_option maxRecDepth 100000
set_option maxHeartbeats 8000000
open Go.RowKit Go.Shelf
set_option linter.unusedVariables false

theorem text_conv (s:ByteArray) (u:World) (hs:s.size ≤ 140737488355328) :
  ∃ a c u',(convert 9 34 (.string s)).run Tryz.prog u=.ok (.slice a s.size c) u'∧Has u' a s.size (byts s)∧Below u.heap.size u u':=by
 have hr:=run_bytes_of_string (P:=Tryz.prog) u 9 34 5 s Tryz.underlying9 Tryz.underlying34 Tryz.underlying5
 generalize grownCap u s.size 0 5=c at *
 refine ⟨_,_,_,hr,⟨byts_length s,fun hp=>⟨u.heap.size,0,rfl,fun j hj=>?_⟩⟩,?_⟩
 ·have h:=World.alloc_heap_new u.drew (.cells (bytesRow s c) 5 ((bytesRow s c).size,(bytesRow s c).size + 1))
  have e:u.drew.heap.size=u.heap.size:=rfl
  rw [e] at h
  simp only [World.cell?,h,Nat.zero_add]
  have:=bytesRow_at s c j hj
  rw [byts_get s j hj]
  exact this
 ·exact (Below.refl u.heap.size u).drew.alloc (Nat.le_refl _) _

def inName (z:Int):Bool:=(decide (97 ≤ z) && decide (z ≤ 122)) || (decide (48 ≤ z) && decide (z ≤ 57)) || decide (z=46) || decide (z=95) || decide (z=45)

theorem inNames_any (z:Int) (w:World) (h0:0 ≤ z) (h1:z ≤ 255) :
  Calls Tryz.prog 153 #[.int .u8 z] w fun e w'=>e=.returned (.bool (inName z))∧w=w':=by
 have hlast:∀ b,(inName z=b)→Hid (inName z=b):=fun b h=>h
 obtain ⟨b,hb⟩:∃ b,inName z=b:=⟨_,rfl⟩
 have HB:=hlast b hb
 rw [hb]
 clear hlast
 unfold inName at hb
 by_cases a1:97 ≤ z
 ·by_cases a2:z ≤ 122
  ·obtain rfl:b=true:=by
    rw [← hb]
    simp
    omega
   have d0:decide (97 ≤ z)=true:=by simp; omega
   clear hb
   go_enter Tryz.func153,Tryz.ntmps153
   go_wp2
   go_ret
   exact ⟨rfl,rfl⟩
  ·obtain rfl:b=false:=by
    rw [← hb]
    simp
    omega
   have d0:decide (97 ≤ z)=true:=by simp; omega
   have d1:decide (z ≤ 122)=false:=by simp; omega
   have d2:decide (48 ≤ z)=true:=by simp; omega
   have d3:decide (z ≤ 57)=false:=by simp; omega
   have d4:(z == 46)=false:=by simp; omega
   have d5:(z == 95)=false:=by simp; omega
   have d6:(z == 45)=false:=by simp; omega
   clear hb
   go_enter Tryz.func153,Tryz.ntmps153
   go_wp2
   go_ret
   exact ⟨rfl,rfl⟩
 ·by_cases a2:48 ≤ z
  ·by_cases a3:z ≤ 57
   ·obtain rfl:b=true:=by
     rw [← hb]
     simp
     omega
    have d0:decide (97 ≤ z)=false:=by simp; omega
    have d1:decide (48 ≤ z)=true:=by simp; omega
    clear hb
    go_enter Tryz.func153,Tryz.ntmps153
    go_wp2
    go_ret
    exact ⟨rfl,rfl⟩
   ·by_cases a4:z=95
    ·obtain rfl:b=true:=by
      rw [← hb]
      simp
      omega
     have d0:decide (97 ≤ z)=false:=by simp; omega
     have d1:decide (48 ≤ z)=true:=by simp; omega
     have d2:decide (z ≤ 57)=false:=by simp; omega
     have d3:(z == 46)=false:=by simp; omega
     have d4:(z == 95)=true:=by simp; omega
     clear hb
     go_enter Tryz.func153,Tryz.ntmps153
     go_wp2
     go_ret
     exact ⟨rfl,rfl⟩
    ·obtain rfl:b=false:=by
      rw [← hb]
      simp
      omega
     have d0:decide (97 ≤ z)=false:=by simp; omega
     have d1:decide (48 ≤ z)=true:=by simp; omega
     have d2:decide (z ≤ 57)=false:=by simp; omega
     have d3:(z == 46)=false:=by simp; omega
     have d4:(z == 95)=false:=by simp; omega
     have d5:(z == 45)=false:=by simp; omega
     clear hb
     go_enter Tryz.func153,Tryz.ntmps153
     go_wp2
     go_ret
     exact ⟨rfl,rfl⟩
  ·by_cases a3:z=46
   ·obtain rfl:b=true:=by
     rw [← hb]
     simp
     omega
    have d0:decide (97 ≤ z)=false:=by simp; omega
    have d1:decide (48 ≤ z)=false:=by simp; omega
    have d2:(z == 46)=true:=by simp; omega
    clear hb
    go_enter Tryz.func153,Tryz.ntmps153
    go_wp2
    go_ret
    exact ⟨rfl,rfl⟩
   ·by_cases a4:z=45
    ·obtain rfl:b=true:=by
      rw [← hb]
      simp
      omega
     have d0:decide (97 ≤ z)=false:=by simp; omega
     have d1:decide (48 ≤ z)=false:=by simp; omega
     have d2:(z == 46)=false:=by simp; omega
     have d3:(z == 95)=false:=by simp; omega
     have d4:(z == 45)=true:=by simp; omega
     clear hb
     go_enter Tryz.func153,Tryz.ntmps153
     go_wp2
     go_ret
     exact ⟨rfl,rfl⟩
    ·obtain rfl:b=false:=by
      rw [← hb]
      simp
      omega
     have d0:decide (97 ≤ z)=false:=by simp; omega
     have d1:decide (48 ≤ z)=false:=by simp; omega
     have d2:(z == 46)=false:=by simp; omega
     have d3:(z == 95)=false:=by simp; omega
     have d4:(z == 45)=false:=by simp; omega
     clear hb
     go_enter Tryz.func153,Tryz.ntmps153
     go_wp2
     go_ret
     exact ⟨rfl,rfl⟩

theorem name_good (s:ByteArray) (w:World) (h1:1 ≤ s.size) (h2:s.size ≤ 13) (h3:(s.toList == [46])=false) (h4:(s.toList == [46,46])=false) (ha:∀ z ∈ byts s,inName z=true) :
  Calls Tryz.prog 133 #[.string s] w fun e w'=>e=.returned (.int .i64 0)∧Below w.heap.size w w':=by
 obtain ⟨a,c,u,hr,hh,hg⟩:=text_conv s w (by omega)
 have hby:=byts_byte s
 have HA:=hide ha
 have HH:=hide hh
 have HG:=hide hg
 have HY:=hide hby
 have hl:=byts_length s
 have d1:decide ((s.size:Int) < 1)=false:=by simp; omega
 have d2:decide ((s.size:Int) > 13)=false:=by simp; omega
 generalize hn:s.size=n at *
 clear ha hh hg hby
 go_enter Tryz.func133,Tryz.ntmps133
 go_wp2
 go_loop [24] (fun i=>∃ k:Nat,k ≤ n∧i=.int .i64 (k:Int)) (fun i=>n - (intOf i).toNat)
 case atStart=>exact ⟨0,Nat.zero_le _,rfl⟩
 case round =>
  obtain ⟨k,hk,rfl⟩:=hrel
  by_cases hlt:k < n
  ·obtain ⟨b,off,rfl,hc⟩:=HH.out.2 (by omega)
   have hck:=hc k hlt
   have hmem:(byts s)[k]?.getD 0 ∈ byts s:=by rw [List.getElem?_eq_getElem (by omega)]; exact List.getElem_mem _
   have hz:=HY.out _ hmem
   have hin:=HA.out _ hmem
   generalize (byts s)[k]?.getD 0=z at *
   have KI:Hid (Calls Tryz.prog 153 #[.int .u8 z] u fun e w'=>e=.returned (.bool true)∧u=w'):=by
    have:=inNames_any z u hz.1 hz.2
    rwa [hin] at this
   clear hc hmem hin
   go_wp2_with (go_at_call 153; refine (unhide KI).mono ?_; rintro e w' ⟨rfl,rfl⟩)
   exact ⟨⟨k + 1,by omega,by go_num⟩,by simp [intOf]; omega⟩
  ·obtain rfl:k=n:=by omega
   go_wp2
   go_ret
   exact ⟨rfl,HG.out⟩

def nameB (s:ByteArray):Bool:=decide (1 ≤ s.size) && decide (s.size ≤ 13) && !(s.toList == [46]) && !(s.toList == [46,46]) && (byts s).all inName

theorem name_yes (s:ByteArray) (w:World) (h:nameB s=true) :
  Calls Tryz.prog 133 #[.string s] w fun e w'=>e=.returned (.int .i64 0)∧Below w.heap.size w w':=by
 unfold nameB at h
 simp only [Bool.and_eq_true,decide_eq_true_eq,Bool.not_eq_true',List.all_eq_true] at h
 obtain ⟨⟨⟨⟨h1,h2⟩,h3⟩,h4⟩,h5⟩:=h
 exact name_good s w h1 h2 h3 h4 h5

theorem name_low (s:ByteArray) (w:World) (hm:s.size ≤ 9223372036854775807) (h1:s.size < 1) :
  Calls Tryz.prog 133 #[.string s] w fun e w'=>e=.returned (.int .i64 16)∧Below w.heap.size w w':=by
 have d1:decide ((s.size:Int) < 1)=true:=by simp; omega
 generalize hn:s.size=n at *
 go_enter Tryz.func133,Tryz.ntmps133
 go_wp2
 go_ret
 exact ⟨rfl,Below.refl _ _⟩

theorem name_high (s:ByteArray) (w:World) (hm:s.size ≤ 9223372036854775807) (h2:13 < s.size) :
  Calls Tryz.prog 133 #[.string s] w fun e w'=>e=.returned (.int .i64 16)∧Below w.heap.size w w':=by
 have d1:decide ((s.size:Int) < 1)=false:=by simp; omega
 have d2:decide ((s.size:Int) > 13)=true:=by simp; omega
 generalize hn:s.size=n at *
 go_enter Tryz.func133,Tryz.ntmps133
 go_wp2
 go_ret
 exact ⟨rfl,Below.refl _ _⟩

theorem name_dot (s:ByteArray) (w:World) (hm:s.size ≤ 9223372036854775807) (h1:1 ≤ s.size) (h2:s.size ≤ 13) (h3:(s.toList == [46])=true) :
  Calls Tryz.prog 133 #[.string s] w fun e w'=>e=.returned (.int .i64 16)∧Below w.heap.size w w':=by
 have d1:decide ((s.size:Int) < 1)=false:=by simp; omega
 have d2:decide ((s.size:Int) > 13)=false:=by simp; omega
 generalize hn:s.size=n at *
 go_enter Tryz.func133,Tryz.ntmps133
 go_wp2
 go_ret
 exact ⟨rfl,Below.refl _ _⟩

theorem name_dots (s:ByteArray) (w:World) (hm:s.size ≤ 9223372036854775807) (h1:1 ≤ s.size) (h2:s.size ≤ 13) (h3:(s.toList == [46])=false) (h4:(s.toList == [46,46])=true) :
  Calls Tryz.prog 133 #[.string s] w fun e w'=>e=.returned (.int .i64 16)∧Below w.heap.size w w':=by
 have d1:decide ((s.size:Int) < 1)=false:=by simp; omega
 have d2:decide ((s.size:Int) > 13)=false:=by simp; omega
 generalize hn:s.size=n at *
 go_enter Tryz.func133,Tryz.ntmps133
 go_wp2
 go_ret
 exact ⟨rfl,Below.refl _ _⟩

theorem name_byte (s:ByteArray) (w:World) (h1:1 ≤ s.size) (h2:s.size ≤ 13) (h3:(s.toList == [46])=false) (h4:(s.toList == [46,46])=false) (ha:(byts s).all inName=false) :
  Calls Tryz.prog 133 #[.string s] w fun e w'=>e=.returned (.int .i64 16)∧Below w.heap.size w w':=by
 obtain ⟨a,c,u,hr,hh,hg⟩:=text_conv s w (by omega)
 have hby:=byts_byte s
 have HA:Hid (¬ ∀ z ∈ byts s,inName z=true):=fun h=>by
  rw [List.all_eq_true.2 h] at ha
  cases ha
 have HH:=hide hh
 have HG:=hide hg
 have HY:=hide hby
 have hl:=byts_length s
 have d1:decide ((s.size:Int) < 1)=false:=by simp; omega
 have d2:decide ((s.size:Int) > 13)=false:=by simp; omega
 generalize hn:s.size=n at *
 clear ha hh hg hby
 go_enter Tryz.func133,Tryz.ntmps133
 go_wp2
 go_loop [24] (fun i=>∃ k:Nat,k ≤ n∧i=.int .i64 (k:Int)∧Hid (∀ j,j < k→inName ((byts s)[j]?.getD 0)=true)) (fun i=>n - (intOf i).toNat)
 case atStart=>exact ⟨0,Nat.zero_le _,rfl,fun j hj=>by omega⟩
 case round =>
  obtain ⟨k,hk,rfl,hj⟩:=hrel
  by_cases hlt:k < n
  ·obtain ⟨b,off,rfl,hc⟩:=HH.out.2 (by omega)
   have hck:=hc k hlt
   have hmem:(byts s)[k]?.getD 0 ∈ byts s:=by rw [List.getElem?_eq_getElem (by omega)]; exact List.getElem_mem _
   have hz:=HY.out _ hmem
   have HJ:Hid (inName ((byts s)[k]?.getD 0)=true→∀ j,j < k + 1→inName ((byts s)[j]?.getD 0)=true):=by
    intro h j hjk
    by_cases he:j=k
    ·subst he; exact h
    ·exact hj.out j (by omega)
   generalize (byts s)[k]?.getD 0=z at *
   clear hc hmem hj
   by_cases hin:inName z=true
   ·have KI:Hid (Calls Tryz.prog 153 #[.int .u8 z] u fun e w'=>e=.returned (.bool true)∧u=w'):=by
     have:=inNames_any z u hz.1 hz.2
     rwa [hin] at this
    have HJ':=hide (HJ.out hin)
    clear hin HJ
    go_wp2_with (go_at_call 153; refine (unhide KI).mono ?_; rintro e w' ⟨rfl,rfl⟩)
    exact ⟨⟨k + 1,by omega,by go_num,HJ'⟩,by simp [intOf]; omega⟩
   ·have KI:Hid (Calls Tryz.prog 153 #[.int .u8 z] u fun e w'=>e=.returned (.bool false)∧u=w'):=by
     have:=inNames_any z u hz.1 hz.2
     rwa [show inName z=false by simpa using hin] at this
    clear hin HJ
    go_wp2_with (go_at_call 153; refine (unhide KI).mono ?_; rintro e w' ⟨rfl,rfl⟩)
    go_ret
    exact ⟨rfl,HG.out⟩
  ·obtain rfl:k=n:=by omega
   refine absurd ?_ HA.out
   intro z hz
   obtain ⟨j,hjl,rfl⟩:=List.getElem_of_mem hz
   have:=hj.out j (by omega)
   rwa [List.getElem?_eq_getElem hjl,Option.getD_some] at this

theorem name_no (s:ByteArray) (w:World) (hm:s.size ≤ 9223372036854775807) (h:nameB s=false) :
  Calls Tryz.prog 133 #[.string s] w fun e w'=>e=.returned (.int .i64 16)∧Below w.heap.size w w':=by
 by_cases h1:1 ≤ s.size
 ·by_cases h2:s.size ≤ 13
  ·by_cases h3:(s.toList == [46])=true
   ·exact name_dot s w hm h1 h2 h3
   ·have h3:(s.toList == [46])=false:=by simpa using h3
    by_cases h4:(s.toList == [46,46])=true
    ·exact name_dots s w hm h1 h2 h3 h4
    ·have h4:(s.toList == [46,46])=false:=by simpa using h4
     refine name_byte s w h1 h2 h3 h4 ?_
     unfold nameB at h
     rw [h3,h4] at h
     simpa [h1,h2] using h
  ·exact name_high s w hm (by omega)
 ·exact name_low s w hm (by omega)

def nameE (s:ByteArray):Int:=if nameB s=true then 0 else 16

theorem name_any (s:ByteArray) (w:World) (hm:s.size ≤ 9223372036854775807) :
  Calls Tryz.prog 133 #[.string s] w fun e w'=>e=.returned (.int .i64 (nameE s))∧Below w.heap.size w w':=by
 unfold nameE
 by_cases h:nameB s=true
 ·rw [if_pos h]; exact name_yes s w h
 ·rw [if_neg h]; exact name_no s w hm (by simpa using h)

end Go.Proofs.YtknmgefpjdfenaaGreat

/- skerryref06.Name: every text. -/
namespace Go.Proofs.YtknmgefpjdfenaaGreat
set_option maxRecDepth 100000
set_option maxHeartbeats 8000000
open Go.RowKit Go.Shelf
set_option linter.unusedVariables false

theorem refName_low (s:ByteArray) (w:World) (hm:s.size ≤ 9223372036854775807) (h1:s.size < 1) :
  Calls Tryz.prog 105 #[.string s] w fun e w'=>e=.returned (.int .i64 16)∧w=w':=by
 have d1:decide ((s.size:Int) < 1)=true:=by simp; omega
 generalize hn:s.size=n at *
 go_enter Tryz.func105,Tryz.ntmps105
 go_wp2
 go_ret
 exact ⟨rfl,rfl⟩

theorem refName_high (s:ByteArray) (w:World) (hm:s.size ≤ 9223372036854775807) (h2:13 < s.size) :
  Calls Tryz.prog 105 #[.string s] w fun e w'=>e=.returned (.int .i64 16)∧w=w':=by
 have d1:decide ((s.size:Int) < 1)=false:=by simp; omega
 have d2:decide ((s.size:Int) > 13)=true:=by simp; omega
 generalize hn:s.size=n at *
 go_enter Tryz.func105,Tryz.ntmps105
 go_wp2
 go_ret
 exact ⟨rfl,rfl⟩

theorem refName_dot (s:ByteArray) (w:World) (hm:s.size ≤ 9223372036854775807) (h1:1 ≤ s.size) (h2:s.size ≤ 13) (h3:(s.toList == [46])=true) :
  Calls Tryz.prog 105 #[.string s] w fun e w'=>e=.returned (.int .i64 16)∧w=w':=by
 have d1:decide ((s.size:Int) < 1)=false:=by simp; omega
 have d2:decide ((s.size:Int) > 13)=false:=by simp; omega
 generalize hn:s.size=n at *
 go_enter Tryz.func105,Tryz.ntmps105
 go_wp2
 go_ret
 exact ⟨rfl,rfl⟩

theorem refName_dots (s:ByteArray) (w:World) (hm:s.size ≤ 9223372036854775807) (h1:1 ≤ s.size) (h2:s.size ≤ 13) (h3:(s.toList == [46])=false) (h4:(s.toList == [46,46])=true) :
  Calls Tryz.prog 105 #[.string s] w fun e w'=>e=.returned (.int .i64 16)∧w=w':=by
 have d1:decide ((s.size:Int) < 1)=false:=by simp; omega
 have d2:decide ((s.size:Int) > 13)=false:=by simp; omega
 generalize hn:s.size=n at *
 go_enter Tryz.func105,Tryz.ntmps105
 go_wp2
 go_ret
 exact ⟨rfl,rfl⟩

theorem refName_byte (s:ByteArray) (w:World) (h1:1 ≤ s.size) (h2:s.size ≤ 13) (h3:(s.toList == [46])=false) (h4:(s.toList == [46,46])=false) (q:Int) (hq:q=if (byts s).all inName=true then 0 else 16) :
  Calls Tryz.prog 105 #[.string s] w fun e w'=>e=.returned (.int .i64 q)∧w=w':=by
 have HG:=hide (byts_get s)
 have HL:=hide (byts_length s)
 have HQ0:Hid ((∀ j,j < s.size→inName ((byts s)[j]?.getD 0)=true)→q=0):=by
  intro h
  rw [hq,if_pos]
  rw [List.all_eq_true]
  intro z hz
  obtain ⟨j,hjl,rfl⟩:=List.getElem_of_mem hz
  have:=h j (by rw [byts_length] at hjl; exact hjl)
  rwa [List.getElem?_eq_getElem hjl,Option.getD_some] at this
 have HQ1:Hid (∀ j,j < s.size→inName ((byts s)[j]?.getD 0)=false→q=16):=by
  intro j hj h
  rw [hq,if_neg]
  intro ha
  rw [List.all_eq_true] at ha
  have hjl:j < (byts s).length:=by rw [byts_length]; exact hj
  rw [List.getElem?_eq_getElem hjl,Option.getD_some] at h
  rw [ha _ (List.getElem_mem hjl)] at h
  cases h
 have d1:decide ((s.size:Int) < 1)=false:=by simp; omega
 have d2:decide ((s.size:Int) > 13)=false:=by simp; omega
 clear hq
 go_enter Tryz.func105,Tryz.ntmps105
 go_wp2
 go_loop [3] (fun i=>∃ k:Nat,k ≤ s.size∧i=.int .i64 (k:Int)∧Hid (∀ j,j < k→inName ((byts s)[j]?.getD 0)=true)) (fun i=>s.size - (intOf i).toNat)
 case atStart=>exact ⟨0,Nat.zero_le _,rfl,fun j hj=>by omega⟩
 case round =>
  obtain ⟨k,hk,rfl,hj⟩:=hrel
  by_cases hlt:k < s.size
  ·have HJ:Hid (inName (s[k].toNat:Int)=true→∀ j,j < k + 1→inName ((byts s)[j]?.getD 0)=true):=by
    intro h j hjk
    by_cases he:j=k
    ·subst he; rw [HG.out j hlt]; exact h
    ·exact hj.out j (by omega)
   have HBad:Hid (inName (s[k].toNat:Int)=false→q=16):=fun h=>HQ1.out k hlt (by rw [HG.out k hlt]; exact h)
   have hz0:(0:Int) ≤ (s[k].toNat:Int):=by omega
   have hz1:(s[k].toNat:Int) ≤ 255:=by have:=s[k].toNat_lt; omega
   obtain ⟨z,hz⟩:∃ z:Int,(s[k].toNat:Int)=z:=⟨_,rfl⟩
   rw [hz] at HJ HBad hz0 hz1
   clear hj HQ0 HQ1 HG HL
   by_cases a1:97 ≤ z
   ·by_cases a2:z ≤ 122
    ·have d0:decide (z ≥ 97)=true:=by simp; omega
     have d3:decide (z ≤ 122)=true:=by simp; omega
     clear HBad
     have HJ':=hide (HJ.out (by unfold inName; simp; omega))
     clear HJ
     go_wp2
     exact ⟨⟨k + 1,by omega,by go_num,HJ'⟩,by simp [intOf]; omega⟩
    ·by_cases b1:z=46
     ·have d0:decide (z ≥ 97)=true:=by simp; omega
      have d3:decide (z ≤ 122)=false:=by simp; omega
      have d1:decide (z ≥ 48)=true:=by simp; omega
      have d2:decide (z ≤ 57)=false:=by simp; omega
      have d5:(z == 46)=true:=by simp; omega
      clear HBad
      have HJ':=hide (HJ.out (by unfold inName; simp; omega))
      clear HJ
      go_wp2
      exact ⟨⟨k + 1,by omega,by go_num,HJ'⟩,by simp [intOf]; omega⟩
     ·by_cases b2:z=95
      ·have d0:decide (z ≥ 97)=true:=by simp; omega
       have d3:decide (z ≤ 122)=false:=by simp; omega
       have d1:decide (z ≥ 48)=true:=by simp; omega
       have d2:decide (z ≤ 57)=false:=by simp; omega
       have d5:(z == 46)=false:=by simp; omega
       have d6:(z == 95)=true:=by simp; omega
       clear HBad
       have HJ':=hide (HJ.out (by unfold inName; simp; omega))
       clear HJ
       go_wp2
       exact ⟨⟨k + 1,by omega,by go_num,HJ'⟩,by simp [intOf]; omega⟩
      ·by_cases b3:z=45
       ·have d0:decide (z ≥ 97)=true:=by simp; omega
        have d3:decide (z ≤ 122)=false:=by simp; omega
        have d1:decide (z ≥ 48)=true:=by simp; omega
        have d2:decide (z ≤ 57)=false:=by simp; omega
        have d5:(z == 46)=false:=by simp; omega
        have d6:(z == 95)=false:=by simp; omega
        have d7:(z == 45)=true:=by simp; omega
        clear HBad
        have HJ':=hide (HJ.out (by unfold inName; simp; omega))
        clear HJ
        go_wp2
        exact ⟨⟨k + 1,by omega,by go_num,HJ'⟩,by simp [intOf]; omega⟩
       ·have d0:decide (z ≥ 97)=true:=by simp; omega
        have d3:decide (z ≤ 122)=false:=by simp; omega
        have d1:decide (z ≥ 48)=true:=by simp; omega
        have d2:decide (z ≤ 57)=false:=by simp; omega
        have d5:(z == 46)=false:=by simp; omega
        have d6:(z == 95)=false:=by simp; omega
        have d7:(z == 45)=false:=by simp; omega
        have HN:=hide (HBad.out (by unfold inName; simp; omega))
        clear HJ HBad
        go_wp2
        go_ret
        exact ⟨by rw [HN.out]; rfl,rfl⟩
   ·by_cases a2:48 ≤ z
    ·by_cases a3:z ≤ 57
     ·have d0:decide (z ≥ 97)=false:=by simp; omega
      have d1:decide (z ≥ 48)=true:=by simp; omega
      have d2:decide (z ≤ 57)=true:=by simp; omega
      clear HBad
      have HJ':=hide (HJ.out (by unfold inName; simp; omega))
      clear HJ
      go_wp2
      exact ⟨⟨k + 1,by omega,by go_num,HJ'⟩,by simp [intOf]; omega⟩
     ·by_cases b1:z=46
      ·have d0:decide (z ≥ 97)=false:=by simp; omega
       have d1:decide (z ≥ 48)=true:=by simp; omega
       have d2:decide (z ≤ 57)=false:=by simp; omega
       have d5:(z == 46)=true:=by simp; omega
       clear HBad
       have HJ':=hide (HJ.out (by unfold inName; simp; omega))
       clear HJ
       go_wp2
       exact ⟨⟨k + 1,by omega,by go_num,HJ'⟩,by simp [intOf]; omega⟩
      ·by_cases b2:z=95
       ·have d0:decide (z ≥ 97)=false:=by simp; omega
        have d1:decide (z ≥ 48)=true:=by simp; omega
        have d2:decide (z ≤ 57)=false:=by simp; omega
        have d5:(z == 46)=false:=by simp; omega
        have d6:(z == 95)=true:=by simp; omega
        clear HBad
        have HJ':=hide (HJ.out (by unfold inName; simp; omega))
        clear HJ
        go_wp2
        exact ⟨⟨k + 1,by omega,by go_num,HJ'⟩,by simp [intOf]; omega⟩
       ·by_cases b3:z=45
        ·have d0:decide (z ≥ 97)=false:=by simp; omega
         have d1:decide (z ≥ 48)=true:=by simp; omega
         have d2:decide (z ≤ 57)=false:=by simp; omega
         have d5:(z == 46)=false:=by simp; omega
         have d6:(z == 95)=false:=by simp; omega
         have d7:(z == 45)=true:=by simp; omega
         clear HBad
         have HJ':=hide (HJ.out (by unfold inName; simp; omega))
         clear HJ
         go_wp2
         exact ⟨⟨k + 1,by omega,by go_num,HJ'⟩,by simp [intOf]; omega⟩
        ·have d0:decide (z ≥ 97)=false:=by simp; omega
         have d1:decide (z ≥ 48)=true:=by simp; omega
         have d2:decide (z ≤ 57)=false:=by simp; omega
         have d5:(z == 46)=false:=by simp; omega
         have d6:(z == 95)=false:=by simp; omega
         have d7:(z == 45)=false:=by simp; omega
         have HN:=hide (HBad.out (by unfold inName; simp; omega))
         clear HJ HBad
         go_wp2
         go_ret
         exact ⟨by rw [HN.out]; rfl,rfl⟩
    ·by_cases b1:z=46
     ·have d0:decide (z ≥ 97)=false:=by simp; omega
      have d1:decide (z ≥ 48)=false:=by simp; omega
      have d5:(z == 46)=true:=by simp; omega
      clear HBad
      have HJ':=hide (HJ.out (by unfold inName; simp; omega))
      clear HJ
      go_wp2
      exact ⟨⟨k + 1,by omega,by go_num,HJ'⟩,by simp [intOf]; omega⟩
     ·by_cases b2:z=95
      ·have d0:decide (z ≥ 97)=false:=by simp; omega
       have d1:decide (z ≥ 48)=false:=by simp; omega
       have d5:(z == 46)=false:=by simp; omega
       have d6:(z == 95)=true:=by simp; omega
       clear HBad
       have HJ':=hide (HJ.out (by unfold inName; simp; omega))
       clear HJ
       go_wp2
       exact ⟨⟨k + 1,by omega,by go_num,HJ'⟩,by simp [intOf]; omega⟩
      ·by_cases b3:z=45
       ·have d0:decide (z ≥ 97)=false:=by simp; omega
        have d1:decide (z ≥ 48)=false:=by simp; omega
        have d5:(z == 46)=false:=by simp; omega
        have d6:(z == 95)=false:=by simp; omega
        have d7:(z == 45)=true:=by simp; omega
        clear HBad
        have HJ':=hide (HJ.out (by unfold inName; simp; omega))
        clear HJ
        go_wp2
        exact ⟨⟨k + 1,by omega,by go_num,HJ'⟩,by simp [intOf]; omega⟩
       ·have d0:decide (z ≥ 97)=false:=by simp; omega
        have d1:decide (z ≥ 48)=false:=by simp; omega
        have d5:(z == 46)=false:=by simp; omega
        have d6:(z == 95)=false:=by simp; omega
        have d7:(z == 45)=false:=by simp; omega
        have HN:=hide (HBad.out (by unfold inName; simp; omega))
        clear HJ HBad
        go_wp2
        go_ret
        exact ⟨by rw [HN.out]; rfl,rfl⟩
  ·obtain rfl:k=s.size:=by omega
   have HN:=hide (HQ0.out hj.out)
   clear hj HQ0 HQ1
   go_wp2
   go_ret
   exact ⟨by rw [HN.out]; rfl,rfl⟩

theorem refName_any (s:ByteArray) (w:World) (hm:s.size ≤ 9223372036854775807) :
  Calls Tryz.prog 105 #[.string s] w fun e w'=>e=.returned (.int .i64 (nameE s))∧w=w':=by
 unfold nameE
 by_cases h1:1 ≤ s.size
 ·by_cases h2:s.size ≤ 13
  ·by_cases h3:(s.toList == [46])=true
   ·rw [if_neg (by unfold nameB; rw [h3]; simp)]
    exact refName_dot s w hm h1 h2 h3
   ·have h3:(s.toList == [46])=false:=by simpa using h3
    by_cases h4:(s.toList == [46,46])=true
    ·rw [if_neg (by unfold nameB; rw [h4]; simp)]
     exact refName_dots s w hm h1 h2 h3 h4
    ·have h4:(s.toList == [46,46])=false:=by simpa using h4
     refine refName_byte s w h1 h2 h3 h4 _ ?_
     unfold nameB
     rw [h3,h4]
     simp [h1,h2]
  ·rw [if_neg (by unfold nameB; simp [h2])]
   exact refName_high s w hm (by omega)
 ·rw [if_neg (by unfold nameB; simp [h1])]
  exact refName_low s w hm (by omega)

end Go.Proofs.YtknmgefpjdfenaaGreat

