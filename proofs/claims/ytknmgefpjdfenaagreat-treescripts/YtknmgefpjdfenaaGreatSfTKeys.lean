/- slices.Sorted(maps.Keys(m)): the shelf's contracts, as the guide's own command lays them; rising. -/
import Derived.Test.YtknmgefpjdfenaaGreatSfJ13
import Derived.Shelf.SlIter.Nil
import Derived.Shelf.SortM.Plain
import Derived.Shelf.SortM.SortNone
import Derived.Ground.GgzProg
import Derived.Ground.SlgmProg
namespace Go.Proofs.YtknmgefpjdfenaaGreat
set_option maxRecDepth 100000
set_option maxHeartbeats 8000000
open Go.RowKit Go.Maps Go.Sort Go.Shelf
set_option linter.unusedVariables false

shelf_lay_g SlLaysZ.n7 Ggz 7 at Tryz 98 as Tryz.keysL
shelf_lay_g SlLaysZ.n6 Ggz 6 at Tryz 97 as Tryz.sortedSL
shelf_lay_g SlLaysM.n6 Slgm 6 at Tryz 116 as Tryz.sortSL

theorem Tryz.sortsSL (m:Nat):AnyZ.SortsIn Tryz.prog Tryz.sortedSL_ren Fence.wide m :=
 ⟨fun blk off cap ss W hH hblk hsz=>callsIn_wide.2 (AnyM.slices_Sort_string Tryz.sortSL blk off cap ss W hH hblk hsz),
  fun p cap W=>callsIn_wide.2 (AnyM.slices_Sort_string_none Tryz.sortSL p cap W)⟩

theorem keys_map (mb:Option Nat) (W:World):CallsIn Fence.wide 5 Tryz.prog 98 #[.map mb] W fun e w'=>e=.returned (.func (.func 117) #[] #[.pointer (some ⟨W.heap.size,0,none⟩)])∧w'=W.alloc (.cells #[.map mb] 67) :=
 AnyZ.keys_in Tryz.keysL Fence.wide 5 trivial rfl mb W

theorem sorted_map {H:Type} (b nn:Nat) (D0:DataW H) (R:Value→Option (DataW H × List MemPlace)) (w:World) (hown:w.ownsMap Tryz.prog 9 R b nn D0) (hmax:Maps.size D0 ≤ maxLen) (hbytes:Maps.size D0 * 16 ≤ 140737488355328) :
  CallsIn Fence.wide 5 Tryz.prog 97 #[.func (.func 117) #[] #[.pointer (some ⟨w.heap.size,0,none⟩)]] (w.alloc (.cells #[.map (some b)] 67)) fun e w'=>∃ (v:Value) (ss:List (List UInt8)),e=.returned v∧ss.Perm (strKeys D0) ∧
   w'.ownsRow (w.alloc (.cells #[.map (some b)] 67)).heap.size 9 1 v ss.length ((ss.mergeSort (fun x y=>decide (x ≤ y))).map encStr)∧(v=.slice none 0 0 ↔ ss=[])∧Below (w.alloc (.cells #[.map (some b)] 67)).heap.size (w.alloc (.cells #[.map (some b)] 67)) w':=by
 have hbl:=hown.lt
 have hseq:SeqGives Fence.wide 2 Tryz.prog 117 #[.pointer (some ⟨w.heap.size,0,none⟩)] encStr (fun ss=>ss.Perm (strKeys D0)) (Maps.size D0) (w.alloc (.cells #[.map (some b)] 67)) :=
  AnyZ.keys_gives (ρ:=Tryz.keysL_ren) { Tryz.keysL with } Fence.wide _ trivial rfl (by omega) w.heap.size b nn D0 _ (by simp) (by simp) (by
   obtain ⟨es,clock,hb,Ft,hs,hD⟩:=hown
   exact ⟨es,clock,(Below.heap_alloc _ _ b hbl).trans hb,Ft,hs,hD⟩)
 exact AnyZ.sorted_in Tryz.sortedSL Fence.wide 5 trivial trivial trivial trivial rfl (by omega) (Tryz.sortsSL _) (enters_of Tryz.func116 (by kernel_rfl) rfl) 117 #[.pointer (some ⟨w.heap.size,0,none⟩)] trivial (enters_of Tryz.func117 (by kernel_rfl) rfl) _ _ hmax hbytes _ hseq

theorem sorted_nil (w:World) :
  CallsIn Fence.wide 5 Tryz.prog 97 #[.func (.func 117) #[] #[.pointer (some ⟨w.heap.size,0,none⟩)]] (w.alloc (.cells #[.map none] 67)) fun e w'=>∃ (v:Value) (ss:List (List UInt8)),e=.returned v∧ss=[] ∧
   w'.ownsRow (w.alloc (.cells #[.map none] 67)).heap.size 9 1 v ss.length ((ss.mergeSort (fun x y=>decide (x ≤ y))).map encStr)∧(v=.slice none 0 0 ↔ ss=[])∧Below (w.alloc (.cells #[.map none] 67)).heap.size (w.alloc (.cells #[.map none] 67)) w':=by
 have hseq:SeqGives Fence.wide 2 Tryz.prog 117 #[.pointer (some ⟨w.heap.size,0,none⟩)] encStr (fun ss:List (List UInt8)=>ss=[]) 0 (w.alloc (.cells #[.map none] 67)) :=
  AnyZ.keys_gives_nil (ρ:=Tryz.keysL_ren) { Tryz.keysL with } Fence.wide _ trivial rfl w.heap.size _ (by simp) (by simp)
 exact AnyZ.sorted_in Tryz.sortedSL Fence.wide 5 trivial trivial trivial trivial rfl (by omega) (Tryz.sortsSL _) (enters_of Tryz.func116 (by kernel_rfl) rfl) 117 #[.pointer (some ⟨w.heap.size,0,none⟩)] trivial (enters_of Tryz.func117 (by kernel_rfl) rfl) _ 0 (Nat.zero_le _) (by omega) _ hseq


theorem before_lt:∀ {a b:List UInt8},bytesBefore a b=true→a < b
 | [],[],h=>by cases h
 | [],_ :: _,_=>List.nil_lt_cons _ _
 | _ :: _,[],h=>by cases h
 | x :: r,y :: q,h=>by
  simp only [bytesBefore,Bool.or_eq_true,decide_eq_true_eq,Bool.and_eq_true,beq_iff_eq] at h
  rw [List.cons_lt_cons_iff]
  rcases h with h | ⟨h1,h2⟩
  ·exact .inl h
  ·exact .inr ⟨h1,before_lt h2⟩

theorem leS_tr:∀ a b c:List UInt8,decide (a ≤ b)=true→decide (b ≤ c)=true→decide (a ≤ c)=true:=fun a b c h1 h2=>by
 simp only [decide_eq_true_eq] at *
 exact List.le_trans h1 h2

theorem leS_to:∀ a b:List UInt8,(decide (a ≤ b) || decide (b ≤ a))=true:=fun a b=>by
 simp only [Bool.or_eq_true,decide_eq_true_eq]
 exact List.le_total a b

theorem sorted_keys {ns:NS} (h:Rise ns) {ss:List (List UInt8)} (hp:ss.Perm (ns.map (·.1))):ss.mergeSort (fun x y=>decide (x ≤ y))=ns.map (·.1):=by
 refine List.Perm.eq_of_pairwise (le:=fun a b=>decide (a ≤ b)=true) (fun a b _ _ h1 h2=>?_) (List.pairwise_mergeSort leS_tr leS_to ss) ?_ ((List.mergeSort_perm _ _).trans hp)
 ·simp only [decide_eq_true_eq] at h1 h2
  exact List.le_antisymm h1 h2
 ·rw [List.pairwise_map]
  exact h.imp (fun {a b} hab=>by simp only [decide_eq_true_eq]; exact List.le_of_lt (before_lt hab))

theorem strKeys_mS (ns:NS):strKeys (mS ns)=ns.map (·.1):=by
 simp [strKeys,mS,entS,strOf]

theorem rising_dir {w:World} {S:Nat→Prop} {g b:Nat} {s:Tr} {t:Th} (h:TM w S g s) (ht:s.T b=some t) (h2:t.k=2) (hn:t.ns.length ≤ 1800000000000) :
  Calls Tryz.prog 61 #[.pointer (some ⟨b,0,none⟩)] w fun e w'=>∃ a c,e=.returned (.slice a t.ns.length c)∧OwnS w.heap.size w' a t.ns.length c (t.ns.map (·.1))∧Below w.heap.size w w':=by
 have c4:=h.dir_map ht h2
 have hM:=h.map b t ht h2
 have K1:=hide (callsIn_wide.1 (keys_map (some t.mp) w))
 have K2:=hide (callsIn_wide.1 (sorted_map t.mp _ (mS t.ns) rdP w hM.1 (by rw [mS_size]; unfold maxLen; omega) (by rw [mS_size]; omega)))
 have hr:=hM.2
 have HB:=hide ((Below.refl w.heap.size w).alloc (Nat.le_refl _) (.cells #[.map (some t.mp)] 67))
 clear h ht h2 hM
 generalize t.mp=mp at *
 go_enter Tryz.func61,Tryz.ntmps61
 go_wp2_with fail
 refine (unhide K1).mono ?_
 rintro e w1 ⟨rfl,rfl⟩
 clear K1
 go_wp2_with fail
 refine (unhide K2).mono ?_
 rintro e w2 ⟨v,ss,rfl,hp,ho,_,hb⟩
 have HR:Hid (∃ a c,v=.slice a t.ns.length c∧OwnS w.heap.size w2 a t.ns.length c (t.ns.map (·.1))∧Below w.heap.size w w2):=by
  rw [strKeys_mS] at hp
  rw [sorted_keys hr hp] at ho
  have hl:ss.length=t.ns.length:=by rw [hp.length_eq,List.length_map]
  rw [hl] at ho
  obtain ⟨a,c,rfl,o⟩:=OwnS.of_owns (xs:=t.ns.map (·.1)) ho
  exact ⟨a,c,rfl,o.base HB.out.size,HB.out.trans (hb.mono HB.out.size)⟩
 clear K2 hp ho hb HB
 go_wp2_with fail
 go_ret
 obtain ⟨a,c,rfl,h1,h2⟩:=HR.out
 exact ⟨a,c,rfl,h1,h2⟩

theorem rising_file {w:World} {S:Nat→Prop} {g b:Nat} {s:Tr} {t:Th} (h:TM w S g s) (ht:s.T b=some t) (h2:¬ t.k=2) :
  Calls Tryz.prog 61 #[.pointer (some ⟨b,0,none⟩)] w fun e w'=>∃ a c,e=.returned (.slice a 0 c)∧OwnS w.heap.size w' a 0 c []∧Below w.heap.size w w':=by
 have c4:=(h.thing_cells ht).2.2.2.2.1
 rw [if_neg h2] at c4
 have K1:=hide (callsIn_wide.1 (keys_map none w))
 have K2:=hide (callsIn_wide.1 (sorted_nil w))
 have HB:=hide ((Below.refl w.heap.size w).alloc (Nat.le_refl _) (.cells #[.map none] 67))
 clear h ht h2
 go_enter Tryz.func61,Tryz.ntmps61
 go_wp2_with fail
 refine (unhide K1).mono ?_
 rintro e w1 ⟨rfl,rfl⟩
 clear K1
 go_wp2_with fail
 refine (unhide K2).mono ?_
 rintro e w2 ⟨v,ss,rfl,rfl,ho,hv,hb⟩
 have HR:Hid (v=.slice none 0 0∧Below w.heap.size w w2):=⟨hv.2 rfl,HB.out.trans (hb.mono HB.out.size)⟩
 clear K2 ho hb HB hv
 go_wp2_with fail
 go_ret
 obtain ⟨rfl,h2⟩:=HR.out
 exact ⟨none,0,rfl,OwnS.nil _ _,h2⟩

end Go.Proofs.YtknmgefpjdfenaaGreat
