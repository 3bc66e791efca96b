/- The way to a block of a file. -/
import Derived.Test.YtokngjcfkkceiaaGreatDoorInJ11
import Derived.Test.YtokngjcfkkceiaaGreatDoorInJ11
import Derived.BigRegion
namespace Go.Proofs.YtokngjcfkkceiaaGreatDoor
set_option maxRecDepth 100000
set_option maxHeartbeats 8000000
open Go.RowKit Go.Shelf
set_option linter.unusedVariables false

theorem ihas_nil (w:World):IHas w none 0 []:=⟨rfl,fun h=>by omega⟩

def way (p i:Int):List Int:=if i<8 then [i] else if i - 8<p then [8,i - 8] else [9,(i - 8 - p) / p,(i - 8 - p)%p]

theorem steps_low (P:Nat→Int)(i:Int)(w:World)(h:checkE P=0)(hn:i<0) :
  Calls Tryz.prog 76 #[Pv P,.int .i64 i] w fun r w'=>(∃ a n c,r=.returned (.tuple #[.slice a n c,.int .i64 2])∧IHas w' a n [])∧Below w.heap.size w w':=by
 have HC:=hide (check_any P)
 rw[h] at HC
 clear h
 have HK:=hide (Kp.start w P)
 go_enter Tryz.func76,Tryz.ntmps76
 go_wp2_with fail
 go_at_call 66
 refine(unhide HC _).mono ?_
 rintro r w1 ⟨rfl,hb⟩
 replace HK:=hide ((unhide HK).call hb)
 clear hb HC
 go_wp2
 go_ret2
 exact⟨⟨_,_,_,rfl,ihas_nil _⟩,(unhide HK).2⟩

theorem steps_high (P:Nat→Int)(i:Int)(w:World)(h:checkE P=0)(hn:¬ i<0)(hn2:mfb P≤i) :
  Calls Tryz.prog 76 #[Pv P,.int .i64 i] w fun r w'=>(∃ a n c,r=.returned (.tuple #[.slice a n c,.int .i64 2])∧IHas w' a n [])∧Below w.heap.size w w':=by
 have HC:=hide (check_any P)
 rw[h] at HC
 have H1:=hide (fun u=>maxFileBlocks_any P u (sound h).size)
 generalize mfb P=m at *
 clear h
 have HK:=hide (Kp.start w P)
 go_enter Tryz.func76,Tryz.ntmps76
 go_wp2_with fail
 go_at_call 66
 refine(unhide HC _).mono ?_
 rintro r w1 ⟨rfl,hb⟩
 replace HK:=hide ((unhide HK).call hb)
 clear hb HC
 obtain⟨f0,f1,f2,f3,f4,f5,f6,f7,f8,f9,f10,f11⟩:=(unhide HK).cells
 go_wp2_with fail
 go_at_call 94
 refine(unhide H1 _).mono ?_
 rintro r w2 ⟨rfl,hb⟩
 replace HK:=hide ((unhide HK).call hb)
 clear hb H1 f0 f1 f2 f3 f4 f5 f6 f7 f8 f9 f10 f11
 go_wp2
 go_ret2
 exact⟨⟨_,_,_,rfl,ihas_nil _⟩,(unhide HK).2⟩

theorem steps_one (P:Nat→Int)(i p:Int)(w:World)(h:checkE P=0)(hn:¬ i<0)(hn2:¬ mfb P≤i)(hp:P 0 / 2=p)(h8:i<8) :
  Calls Tryz.prog 76 #[Pv P,.int .i64 i] w fun r w'=>(∃ k,r=.returned (.tuple #[.slice (some ⟨k,0,none⟩) 1 1,.int .i64 0])∧w.heap.size≤k∧w'.heap[k]?=some (.cells #[.int .i64 i] 3 (0,0)))∧Below w.heap.size w w':=by
 have HC:=hide (check_any P)
 rw[h] at HC
 have hz:=(sound h).bd.1
 have H1:=hide (fun u=>maxFileBlocks_any P u (sound h).size)
 have hm:=mfb_bd (sound h).size
 generalize mfb P=m at *
 have H2:=hide (fun u=>per_below P u p hz hp)
 have hb2:32≤p∧p≤2048:=by omega
 clear h hp
 have HK:=hide (Kp.start w P)
 go_enter Tryz.func76,Tryz.ntmps76
 go_wp2_with fail
 go_at_call 66
 refine(unhide HC _).mono ?_
 rintro r w1 ⟨rfl,hb⟩
 replace HK:=hide ((unhide HK).call hb)
 clear hb HC
 obtain⟨f0,f1,f2,f3,f4,f5,f6,f7,f8,f9,f10,f11⟩:=(unhide HK).cells
 go_wp2_with fail
 go_at_call 94
 refine(unhide H1 _).mono ?_
 rintro r w2 ⟨rfl,hb⟩
 replace HK:=hide ((unhide HK).call hb)
 clear hb H1 f0 f1 f2 f3 f4 f5 f6 f7 f8 f9 f10 f11
 go_wp2
 go_ret2
 exact⟨⟨_,rfl,(unhide HK).2.size,heap_alloc_new _ _⟩,(unhide HK).2.alloc (unhide HK).2.size _⟩

end Go.Proofs.YtokngjcfkkceiaaGreatDoor
