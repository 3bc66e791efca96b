/- Joined: WKeys, WList, WJ, WPart. -/
import Derived.Test.YtdfanhjnkjdngaaGreatDoorArJ12
import Derived.Test.YtdfanhjnkjdngaaGreatDoorArGVals
import Derived.Shelf.SlIterI.Nil
import Derived.Shelf.SlicesG.CompactI
import Derived.Test.YtdfanhjnkjdngaaGreatDoorArJ35
/- slices.Sorted(maps.Keys(m)) of a map of rows, and slices.Compact of sorted numbers. -/
namespace Go.Proofs.YtdfanhjnkjdngaaGreatDoor
set_option maxRecDepth 100000
set_option maxHeartbeats 8000000
open Go.RowKit Go.Shelf Go.Maps Go.Sort
set_option linter.unusedVariables false

shelf_lay_g SlLaysZI.n7 Ggz 7 at Tryz 100 as Tryz.keysL

shelf_lay_g SlLaysN.n43 Slgn 43 at Tryz 237 as Tryz.compL

theorem sortsL (m:Nat):AnyZI.SortsIn Tryz.prog Tryz.sortedL_ren Fence.wide m :=
 ⟨fun blk off cap ss W hH hblk hsz=>callsIn_wide.2 (AnyM.slices_Sort_int Tryz.sortL blk off cap ss W hH hblk hsz),
  fun p cap W=>callsIn_wide.2 (AnyM.slices_Sort_int_none Tryz.sortL p cap W)⟩

def keysI (n:Nat) (M:Nat→Option (Nat × Nat)):List Int:=(keysB n M).map (fun k:Nat=>(k:Int))

theorem intKeys_mB (n:Nat) (M:Nat→Option (Nat × Nat)):intKeys (mB n M)=keysI n M:=by
 simp [mB,intKeys,keysI,entB,List.map_map,Function.comp_def,Go.intOf]

theorem keysI_sorted {n:Nat} {M:Nat→Option (Nat × Nat)} {ss:List Int} (h:ss.Perm (intKeys (mB n M))):ss.mergeSort (fun x y=>decide (x ≤ y))=keysI n M:=by
 rw [intKeys_mB] at h
 refine srt_eq h ?_
 unfold keysI
 rw [List.pairwise_map]
 exact (keysB_rising n M).imp (fun {a b} h=>by omega)

theorem keys_sorted (blk mb n:Nat) (M:Nat→Option (Nat × Nat)) (w:World) (h:MapB w blk mb n M) (hn:n ≤ 4096) :
  Calls Tryz.prog 100 #[.map (some mb)] w fun e w1=>e=.returned (.func (.func 192) #[] #[.pointer (some ⟨w.heap.size,0,none⟩)]) ∧
   Hid (Calls Tryz.prog 99 #[.func (.func 192) #[] #[.pointer (some ⟨w.heap.size,0,none⟩)]] w1 fun e w2=>∃ v,e=.returned v∧Hid (Gr w.heap.size w2 v (keysI n M)∧Below w.heap.size w w2)):=by
 have hbl:=h.lt
 have hl:=keysB_len n M
 have hseq:SeqGives Fence.wide 2 Tryz.prog 192 #[.pointer (some ⟨w.heap.size,0,none⟩)] encZ (fun ss=>ss.Perm (intKeys (mB n M))) (Maps.size (mB n M)) (w.alloc (.cells #[.map (some mb)] 121)) :=
  AnyZI.keys_gives (ρ:=Tryz.keysL_ren) { Tryz.keysL with } Fence.wide _ trivial rfl (by omega) w.heap.size mb (keysB n M).length (mB n M) _ (by simp) (by simp) (by
   obtain ⟨es,clock,hb,Ft,hs,hD⟩:=h
   exact ⟨es,clock,(Below.heap_alloc _ _ mb hbl).trans hb,Ft,hs,hD⟩)
 have cK:CallsIn Fence.wide 5 Tryz.prog 100 #[.map (some mb)] w fun e w'=>e=.returned (.func (.func 192) #[] #[.pointer (some ⟨w.heap.size,0,none⟩)])∧w'=w.alloc (.cells #[.map (some mb)] 121):=AnyZI.keys_in Tryz.keysL Fence.wide 5 trivial rfl (some mb) w
 have cS:=AnyZI.sorted_in Tryz.sortedL Fence.wide 5 trivial trivial trivial trivial rfl (by omega) (sortsL _) (enters_of Tryz.func191 (by kernel_rfl) rfl) 192 #[.pointer (some ⟨w.heap.size,0,none⟩)] trivial (enters_of Tryz.func192 (by kernel_rfl) rfl) _ _ (by rw [mB_size]; unfold maxLen; omega) (by rw [mB_size]; omega) _ hseq
 change CallsIn _ _ Tryz.prog 99 _ _ _ at cS
 refine (callsIn_wide.1 cK).mono ?_
 rintro e w1 ⟨rfl,rfl⟩
 refine ⟨rfl,(callsIn_wide.1 cS).mono ?_⟩
 rintro e w2 ⟨v,ss,rfl,hS,hrow,_,hb⟩
 rw [keysI_sorted hS] at hrow
 have hlen:ss.length=(keysI n M).length:=by rw [hS.length_eq,intKeys_mB]
 rw [hlen] at hrow
 exact ⟨v,rfl,ownsRow_base_a hrow (by simp),((Below.refl _ w).alloc (Nat.le_refl _) _).trans (hb.mono (by simp))⟩

theorem compact_lt {zs:List Int} (h:zs.Pairwise (· ≤ ·)):(Lib.compact zs).length < zs.length ↔ ¬ zs.Nodup:=by
 have key:∀ j,j < zs.length→(Lib.keeps zs.toArray j=true ↔ ∀ i,i < j→zs[i]?.getD 0 ≠ zs[j]?.getD 0):=by
  intro j hj
  have hg:∀ k,k < zs.length→zs.toArray[k]! = zs[k]?.getD 0:=fun k hk=>by simp [hk]
  constructor
  ·intro hk i hi he
   rcases Nat.eq_zero_or_pos j with h0 | h0
   ·omega
   ·have hne:zs[j]?.getD 0 ≠ zs[j - 1]?.getD 0:=by
     intro e
     have:=Lib.keeps_neg (d:=zs.toArray) (m:=j) h0 (by rw [hg j hj,hg (j - 1) (by omega)]; exact e)
     rw [this] at hk
     cases hk
    have h1:zs[i]?.getD 0 ≤ zs[j - 1]?.getD 0:=by
     by_cases e:i=j - 1
     ·rw [e]; omega
     ·rw [List.getElem?_eq_getElem (by omega),List.getElem?_eq_getElem (by omega)]
      exact List.pairwise_iff_getElem.1 h i (j - 1) (by omega) (by omega) (by omega)
    have h2:zs[j - 1]?.getD 0 ≤ zs[j]?.getD 0:=by
     rw [List.getElem?_eq_getElem (by omega),List.getElem?_eq_getElem (by omega)]
     exact List.pairwise_iff_getElem.1 h (j - 1) j (by omega) (by omega) (by omega)
    omega
  ·intro hall
   rcases Nat.eq_zero_or_pos j with h0 | h0
   ·subst h0; exact Lib.keeps_lt_one _ 0 (by omega)
   ·refine Lib.keeps_pos ?_
    rw [hg j hj,hg (j - 1) (by omega)]
    exact fun e=>hall (j - 1) (by omega) e.symm
 have hlen:(Lib.compact zs).length=((List.range zs.length).filter (Lib.keeps zs.toArray)).length:=by simp [Lib.compact,Lib.compactUpTo]
 rw [hlen]
 constructor
 ·intro hlt hnd
  have hall:∀ j ∈ List.range zs.length,Lib.keeps zs.toArray j=true:=by
   intro j hj
   have hj':j < zs.length:=by simpa using hj
   rw [key j hj']
   intro i hi e
   rw [List.getElem?_eq_getElem (by omega),List.getElem?_eq_getElem hj'] at e
   exact List.pairwise_iff_getElem.1 hnd i j (by omega) hj' hi (by simpa using e)
  rw [List.filter_eq_self.2 hall] at hlt
  simp at hlt
 ·intro hnd
  have hle:=List.length_filter_le (Lib.keeps zs.toArray) (List.range zs.length)
  rw [List.length_range] at hle
  rcases Nat.lt_or_ge ((List.range zs.length).filter (Lib.keeps zs.toArray)).length zs.length with hl | hl
  ·exact hl
  ·exfalso
   have hall:=List.length_filter_eq_length_iff.1 (show ((List.range zs.length).filter (Lib.keeps zs.toArray)).length=(List.range zs.length).length by rw [List.length_range]; omega)
   refine hnd (List.pairwise_iff_getElem.2 (fun i j hi hj hij e=>?_))
   have:=(key j hj).1 (hall j (by simpa using hj)) i hij
   rw [List.getElem?_eq_getElem hi,List.getElem?_eq_getElem hj] at this
   exact this (by simpa using e)

theorem compact_any (B:Nat) (v:Value) (zs:List Int) (w:World) (h:Gr B w v zs) (hn:zs.length ≤ 17592186044416) (hB:B ≤ w.heap.size) :
  Calls Tryz.prog 237 #[v] w fun e w'=>∃ a c,e=.returned (.slice a (Lib.compact zs).length c)∧Below B w w':=by
 obtain ⟨h1,h2⟩:=h
 rcases h2 with ⟨rfl,h0⟩ | ⟨g,cap,cur,rfl,hg,hh,h2,h3,hc,ht⟩
 ·obtain rfl:zs=[]:=List.eq_nil_of_length_eq_zero h0
  have:=AnyG.slices_Compact_int_empty Tryz.compL none 0 w
  change Calls Tryz.prog 237 _ _ _ at this
  refine this.mono ?_
  rintro e w' ⟨rfl,rfl⟩
  exact ⟨none,0,by simp [Lib.compact,Lib.compactUpTo],Below.refl _ _⟩
 ·have hH:Go.Sort.Holds (Value.int .i64) w g 0 zs.toArray:=holds_of_blockI hh (by simpa using ht)
  have:=AnyG.slices_Compact_int Tryz.compL g 0 cap zs w hH (by omega) (by simpa using h2)
  change Calls Tryz.prog 237 _ _ _ at this
  refine this.mono ?_
  rintro e w' ⟨rfl,q,rfl⟩
  refine ⟨_,_,rfl,⟨rfl,rfl,rfl,by simp,fun k hk=>?_⟩⟩
  have:g ≠ k:=by omega
  simp [putRow,mapBlock,Sort.ahead,Array.getElem?_modify,this]

end Go.Proofs.YtdfanhjnkjdngaaGreatDoor

/- Lists of writes in memory; the contracts of named and refusesBlocks. -/
namespace Go.Proofs.YtdfanhjnkjdngaaGreatDoor
set_option maxRecDepth 100000
set_option maxHeartbeats 8000000
open Go.RowKit Go.Shelf Go.Maps
set_option linter.unusedVariables false

structure Wr where
 b:Int
 da:Option Addr
 dl:Nat
 dc:Nat
 z:List Int

def W0:Wr:=⟨0,none,0,0,[]⟩

def wat (V:List Wr) (j:Nat):Wr:=V[j]?.getD W0

structure WHas (u:World) (a:Option Addr) (len:Nat) (V:List Wr):Prop where
 ln:V.length=len
 cel:0 < len→∃ k off,a=some ⟨k,off,none⟩∧k < u.heap.size∧∀ j,j < len→u.cell? ⟨k,off + j * 2,none⟩=some (.int .i64 (wat V j).b)∧u.cell? ⟨k,off + j * 2 + 1,none⟩=some (.slice (wat V j).da (wat V j).dl (wat V j).dc)
 row:∀ j,j < len→Row u.heap.size u (wat V j).da (wat V j).dl (wat V j).dc (wat V j).z

def WOut (S:Nat→Prop) (a:Option Addr) (len:Nat) (V:List Wr):Prop:=Out S len a∧∀ j,j < len→Out S (wat V j).dl (wat V j).da

theorem WHas.later {u u':World} {a:Option Addr} {len:Nat} {V:List Wr} (h:WHas u a len V) (hb:Below u.heap.size u u'):WHas u' a len V:=by
 refine ⟨h.ln,fun hp=>?_,fun j hj=>(h.row j hj).below hb hb.size⟩
 obtain ⟨k,off,e,hk,hc⟩:=h.cel hp
 exact ⟨k,off,e,Nat.lt_of_lt_of_le hk hb.size,fun j hj=>⟨(hb.cell (p:=⟨k,_,none⟩) hk).trans (hc j hj).1,(hb.cell (p:=⟨k,_,none⟩) hk).trans (hc j hj).2⟩⟩

theorem cell_eq {u u':World} {k:Nat} (h:u'.heap[k]?=u.heap[k]?) (i:Nat):u'.cell? ⟨k,i,none⟩=u.cell? ⟨k,i,none⟩:=by simp only [World.cell?,h]

theorem Out.nx {S S':Nat→Prop} {w w':World} {len:Nat} {a:Option Addr} (h:Out S len a) (hx:Nx S w S' w') (hl:0 < len→∀ x,a=some x→x.block < w.heap.size):Out S' len a:=fun hp x e hs=>h hp x e (hx.sub _ (hl hp x e) hs)

theorem Row.blk {n0:Nat} {w:World} {a:Option Addr} {len cap:Nat} {zs:List Int} (h:Row n0 w a len cap zs) (hp:0 < len) (x:Addr) (e:a=some x):x.block < n0:=by
 obtain ⟨_,_,_,_,h5⟩:=h
 obtain ⟨b,off,e',hb,_⟩:=h5 hp
 rw [e] at e'
 cases e'
 exact hb

theorem WHas.nx {S S':Nat→Prop} {w w':World} {a:Option Addr} {len:Nat} {V:List Wr} (h:WHas w a len V) (hx:Nx S w S' w') (ho:WOut S a len V):WHas w' a len V∧WOut S' a len V:=by
 refine ⟨⟨h.ln,fun hp=>?_,fun j hj=>(h.row j hj).nx hx (ho.2 j hj)⟩,ho.1.nx hx (fun hp x e=>?_),fun j hj=>(ho.2 j hj).nx hx (fun hp x e=>(h.row j hj).blk hp x e)⟩
 ·obtain ⟨k,off,e,hk,hc⟩:=h.cel hp
  obtain ⟨h1,_,h3⟩:=hx.keep hk (ho.1 hp _ e)
  exact ⟨k,off,e,h3,fun j hj=>⟨(cell_eq h1 _).trans (hc j hj).1,(cell_eq h1 _).trans (hc j hj).2⟩⟩
 ·obtain ⟨k,off,e',hk,_⟩:=h.cel hp
  rw [e] at e'
  cases e'
  exact hk

theorem WOut.mono {S S':Nat→Prop} {a:Option Addr} {len:Nat} {V:List Wr} (h:WOut S a len V) (hS:∀ k,S' k→S k):WOut S' a len V:=⟨fun hp x e hs=>h.1 hp x e (hS _ hs),fun j hj hp x e hs=>h.2 j hj hp x e (hS _ hs)⟩

theorem wat_map {V:List Wr} {j:Nat} (hj:j < V.length):(V.map (·.b))[j]?.getD 0=(wat V j).b:=by
 simp [wat,List.getElem?_eq_getElem hj]

def rowZ (xs:List Int) (N k:Nat):Array Value:=((xs.take k ++ List.replicate (N - k) 0).map (Value.int .i64)).toArray

theorem rowZ_zero (xs:List Int) (N:Nat):rowZ xs N 0=madeCells #[.int .i64 0] N:=by
 have:=rowK_zero [] N
 simpa [rowK,rowZ,takeL] using this

theorem rowZ_set {xs:List Int} {N k:Nat} (hk:k < N) (hl:xs.length=N):(rowZ xs N k).setIfInBounds k (.int .i64 (xs[k]?.getD 0))=rowZ xs N (k + 1):=by
 unfold rowZ
 rw [List.setIfInBounds_toArray]
 congr 1
 have h1:(List.take k xs).length=k:=by simp; omega
 obtain ⟨r,hr⟩:∃ r,N - k=r + 1:=⟨N - k - 1,by omega⟩
 have hr2:N - (k + 1)=r:=by omega
 rw [hr,hr2,List.replicate_succ,List.map_append,List.map_cons,List.set_append_right _ _ (by simp; omega)]
 simp only [List.length_map,h1,Nat.sub_self,List.set_cons_zero]
 rw [List.take_succ_eq_append_getElem (by omega),List.getElem?_eq_getElem (by omega)]
 simp only [List.map_append,List.map_cons,List.append_assoc,List.cons_append,List.nil_append,Option.getD_some]

theorem rowZ_cell {xs:List Int} {N k:Nat} (hk:k < N) (hl:xs.length=N):(rowZ xs N k)[k]?=some (.int .i64 0):=by
 have h1:(List.take k xs).length=k:=by simp; omega
 obtain ⟨r,hr⟩:∃ r,N - k=r + 1:=⟨N - k - 1,by omega⟩
 simp [rowZ,hr,List.replicate_succ,Nat.min_eq_left (show k ≤ xs.length by omega)]

theorem rowZ_ihas {u:World} {g N:Nat} {xs:List Int} (h:Bl u g (rowZ xs N N) 3) (hl:xs.length=N):IHas u (some ⟨g,0,none⟩) N xs:=by
 refine ⟨hl,fun _=>⟨g,0,rfl,fun j hj=>?_⟩⟩
 rw [Nat.zero_add]
 refine h.cell j _ ?_
 simp [rowZ,List.take_of_length_le (show xs.length ≤ N by omega),List.getElem?_eq_getElem (show j < xs.length by omega)]

structure NmJ (w:World) (xs:List Int) (N k:Nat) (u:World):Prop where
 bel:Below w.heap.size w u
 row:Bl u w.heap.size (rowZ xs N k) 3

theorem NmJ.step {w u:World} {xs:List Int} {N k:Nat} (h:NmJ w xs N k u) (hk:k < N) (hl:xs.length=N) (o:Obj):NmJ w xs N (k + 1) ((u.alloc o).setCell ⟨w.heap.size,k,none⟩ (.int .i64 (xs[k]?.getD 0))):=by
 refine ⟨(h.bel.alloc h.bel.size o).setCell (p:=⟨w.heap.size,k,none⟩) (Nat.le_refl _) _,?_⟩
 have:=(h.row.alloc o).set k (.int .i64 (xs[k]?.getD 0))
 rwa [rowZ_set hk hl] at this

theorem named_any (a:Option Addr) (len cap:Nat) (V:List Wr) (w:World) (h:WHas w a len V) (hl:len ≤ 4398046511104) :
  Calls Tryz.prog 178 #[.slice a len cap] w fun e w'=>e=.returned (.slice (some ⟨w.heap.size,0,none⟩) len len)∧Hid (IHas w' (some ⟨w.heap.size,0,none⟩) len (V.map (·.b)))∧Below w.heap.size w w':=by
 have hmk:=run_make_row' (P:=Tryz.prog) 40 3 (.int .i64 0) 8 Tryz.underlying40 info3 rfl .i64 .i64 len (by omega) (by omega)
 have hV:(V.map (·.b)).length=len:=by simp [h.ln]
 have J0:Hid (NmJ w (V.map (·.b)) len 0 (w.alloc (.cells (madeCells #[.int .i64 0] len) 3))):=⟨(Below.refl _ w).alloc (Nat.le_refl _) _,by rw [rowZ_zero]; exact Bl.new w _ 3⟩
 have KC:Hid (∀ u k,k < len→NmJ w (V.map (·.b)) len k u→∃ kb off da dl dc,a=some ⟨kb,off,none⟩∧u.cell? ⟨kb,off + k * 2,none⟩=some (.int .i64 ((V.map (·.b))[k]?.getD 0))∧u.cell? ⟨kb,off + k * 2 + 1,none⟩=some (.slice da dl dc)):=by
  intro u k hk hj
  obtain ⟨kb,off,e,hkb,hc⟩:=h.cel (by omega)
  refine ⟨kb,off,_,_,_,e,?_,(hj.bel.cell (p:=⟨kb,_,none⟩) hkb).trans (hc k hk).2⟩
  rw [wat_map (by rw [h.ln]; exact hk)]
  exact (hj.bel.cell (p:=⟨kb,_,none⟩) hkb).trans (hc k hk).1
 have HV:=hide hV
 generalize V.map (·.b)=xs at *
 clear h hV
 go_enter Tryz.func178,Tryz.ntmps178
 go_wp2_with fail
 generalize w.alloc (.cells (madeCells #[.int .i64 0] len) 3)=w0 at *
 go_loopw [11] (fun i wr=>∃ k:Nat,k ≤ len∧i=.int .i64 (k:Int)∧Hid (NmJ w xs len k wr)) (fun i _=>len - (intOf i).toNat)
 case atStart=>exact ⟨0,Nat.zero_le _,rfl,J0⟩
 case round =>
  obtain ⟨k,hk,rfl,hJ⟩:=hrel
  clear J0
  by_cases hlt:k < len
  ·obtain ⟨kb,off,da,dl,dc,rfl,x1,x2⟩:=unhide KC wr k hlt (unhide hJ)
   have x3:=((unhide hJ).row.alloc (.cells #[.int .i64 (xs[k]?.getD 0),.slice da dl dc] 52)).cell k _ (rowZ_cell hlt (unhide HV))
   have x4:=((unhide hJ).row.alloc (.cells #[.int .i64 (xs[k]?.getD 0),.slice da dl dc] 52)).free k
   have J2:=hide ((unhide hJ).step hlt (unhide HV) (.cells #[.int .i64 (xs[k]?.getD 0),.slice da dl dc] 52))
   clear KC hJ
   generalize xs[k]?.getD 0=z at *
   go_wp2_with fail
   go_roundw
   case rel=>exact ⟨k + 1,by omega,by go_num,J2⟩
   case measure=>simp [intOf]; omega
  ·obtain rfl:k=len:=by omega
   have X1:=hide (rowZ_ihas (unhide hJ).row (unhide HV))
   have X2:=hide (unhide hJ).bel
   clear hJ KC
   go_wp2_with fail
   go_ret
   exact ⟨rfl,X1,unhide X2⟩

theorem srt_nodup (zs:List Int):(srt zs).Nodup ↔ zs.Nodup:=(srt_perm zs).nodup_iff

theorem srt_le (zs:List Int):(srt zs).Pairwise (· ≤ ·):=(srt_rising zs).imp (fun h=>by simpa using h)

def cmpN (ns:List Int):Nat:=(Lib.compact (srt ns)).length

theorem cmpN_lt (ns:List Int):cmpN ns < ns.length ↔ ¬ ns.Nodup:=by
 have:=compact_lt (srt_le ns)
 rw [srt_nodup,srt_len] at this
 exact this

theorem rb_chain (a:Option Addr) (cap:Nat) (ns:List Int) (w u:World) (hu:Below w.heap.size w u) (hI:IHas w a ns.length ns) (hl:ns.length ≤ 4398046511104) :
  Calls Tryz.prog 210 #[.slice a ns.length cap] u fun e w1=>e=.returned (.func (.func 255) #[] #[.pointer (some ⟨u.heap.size,0,none⟩)]) ∧
   Hid (Calls Tryz.prog 99 #[.func (.func 255) #[] #[.pointer (some ⟨u.heap.size,0,none⟩)]] w1 fun e w2=>∃ v,e=.returned v ∧
    Hid (Calls Tryz.prog 237 #[v] w2 fun e w3=>∃ a c,e=.returned (.slice a (cmpN ns) c)∧Hid (Below w.heap.size w w3))):=by
 refine (values_sorted a cap ns (by omega) u (hI.later hu)).mono ?_
 rintro e w1 ⟨rfl,K⟩
 refine ⟨rfl,(unhide K).mono ?_⟩
 rintro e w2 ⟨v,rfl,X⟩
 obtain ⟨g2,b2⟩:=unhide X
 refine ⟨v,rfl,(compact_any u.heap.size v (srt ns) w2 g2 (by rw [srt_len]; omega) b2.size).mono ?_⟩
 rintro e w3 ⟨a',c',rfl,b3⟩
 exact ⟨a',c',rfl,hu.trans ((b2.trans b3).mono hu.size)⟩

theorem refusesBlocks_any (P:Nat→Int) (G:Geo) (hP:PG P G) (a:Option Addr) (len cap:Nat) (ns:List Int) (w:World) (hI:IHas w a len ns) (hl:len ≤ 4398046511104) :
  Calls Tryz.prog 177 #[Pv P,.slice a len cap] w fun e w'=>e=.returned (.int .i64 (blkE G ns))∧Below w.heap.size w w':=by
 have hlen:=hI.1
 have KC:Hid (∀ u k,k < len→Below w.heap.size w u→∃ kb off,a=some ⟨kb,off,none⟩∧u.cell? ⟨kb,off + k,none⟩=some (.int .i64 (ns[k]?.getD 0))):=by
  intro u k hk hb
  obtain ⟨kb,off,e,hc⟩:=hI.2 (by omega)
  exact ⟨kb,off,e,(hb.cell (p:=⟨kb,_,none⟩) (cell_block_lt (hc k hk))).trans (hc k hk)⟩
 have KV:Hid (∀ u,Below w.heap.size w u→Calls Tryz.prog 210 #[.slice a len cap] u fun e w1=>e=.returned (.func (.func 255) #[] #[.pointer (some ⟨u.heap.size,0,none⟩)]) ∧
   Hid (Calls Tryz.prog 99 #[.func (.func 255) #[] #[.pointer (some ⟨u.heap.size,0,none⟩)]] w1 fun e w2=>∃ v,e=.returned v ∧
    Hid (Calls Tryz.prog 237 #[v] w2 fun e w3=>∃ a c,e=.returned (.slice a (cmpN ns) c)∧Hid (Below w.heap.size w w3)))):=by
  intro u hu
  rw [← hlen] at hl hI ⊢
  exact rb_chain a cap ns w u hu hI hl
 have hin:∀ z,(decide ((G.ib:Int) ≤ z∧z < G.n)=true) ↔ (P 5 ≤ z∧z < P 1):=fun z=>by rw [hP.p5,hP.p1]; simp
 have KN:Hid ((¬ ns.Nodup→(cmpN ns:Int) < len)∧(ns.Nodup→¬ (cmpN ns:Int) < len)):=by
  have:=cmpN_lt ns
  rw [hlen] at this
  exact ⟨fun h=>by have:=this.2 h; omega,fun h hlt=>(this.1 (by omega)) h⟩
 have HK:=hide (Kp.start w P)
 have hJ:Hid (ns.length=len):=hlen
 clear hI hlen hP
 generalize cmpN ns=cn at *
 by_cases hall:∀ z ∈ ns,P 5 ≤ z∧z < P 1
 ·have hE:blkE G ns=if ns.Nodup then 0 else 3:=by
   unfold blkE
   rw [if_pos (List.all_eq_true.2 (fun z hz=>(hin z).2 (hall z hz)))]
  rw [hE]
  have KR:Hid (∀ k,k < len→P 5 ≤ ns[k]?.getD 0∧ns[k]?.getD 0 < P 1):=fun k hk=>hall _ (by rw [List.getElem?_eq_getElem (by rw [unhide hJ]; exact hk)]; exact List.getElem_mem _)
  clear hE hall hin
  by_cases hnd:ns.Nodup
  ·rw [if_pos hnd]
   have hcn:=(unhide KN).2 hnd
   clear hnd KN
   go_enter Tryz.func177,Tryz.ntmps177
   go_wp2_with fail
   obtain ⟨f0,f1,f2,f3,f4,f5,f6,f7,f8,f9,f10,f11⟩:=(unhide HK).cells
   clear f0 f2 f3 f4 f6 f7 f8 f9 f10 f11
   generalize w.alloc (.cells (Pc P) 25)=w0 at *
   go_loop [10] (fun i=>∃ k:Nat,k ≤ len∧i=.int .i64 (k:Int)) (fun i=>len - (intOf i).toNat)
   case atStart=>exact ⟨0,Nat.zero_le _,rfl⟩
   case round =>
    obtain ⟨k,hk,rfl⟩:=hrel
    by_cases hlt:k < len
    ·obtain ⟨kb,off,rfl,x1⟩:=unhide KC w0 k hlt (unhide HK).2
     obtain ⟨r1,r2⟩:=unhide KR k hlt
     clear KC KR KV
     generalize ns[k]?.getD 0=z at *
     go_wp2_with fail
     go_round
     case rel=>exact ⟨k + 1,by omega,by go_num⟩
     case measure=>simp [intOf]; omega
    ·clear KC KR
     have K1:=hide (unhide KV w0 (unhide HK).2)
     clear KV
     go_wp2_with fail
     go_at_call 210
     refine (unhide K1).mono ?_
     rintro e w1 ⟨rfl,K2⟩
     clear K1
     go_wp2_with fail
     go_at_call 99
     refine (unhide K2).mono ?_
     rintro e w2 ⟨v,rfl,K3⟩
     clear K2
     go_wp2_with fail
     go_at_call 237
     refine (unhide K3).mono ?_
     rintro e w3 ⟨a3,c3,rfl,X⟩
     clear K3
     go_wp2_with fail
     go_ret
     exact ⟨rfl,unhide X⟩
  ·rw [if_neg hnd]
   have hcn:=(unhide KN).1 hnd
   clear hnd KN
   go_enter Tryz.func177,Tryz.ntmps177
   go_wp2_with fail
   obtain ⟨f0,f1,f2,f3,f4,f5,f6,f7,f8,f9,f10,f11⟩:=(unhide HK).cells
   clear f0 f2 f3 f4 f6 f7 f8 f9 f10 f11
   generalize w.alloc (.cells (Pc P) 25)=w0 at *
   go_loop [10] (fun i=>∃ k:Nat,k ≤ len∧i=.int .i64 (k:Int)) (fun i=>len - (intOf i).toNat)
   case atStart=>exact ⟨0,Nat.zero_le _,rfl⟩
   case round =>
    obtain ⟨k,hk,rfl⟩:=hrel
    by_cases hlt:k < len
    ·obtain ⟨kb,off,rfl,x1⟩:=unhide KC w0 k hlt (unhide HK).2
     obtain ⟨r1,r2⟩:=unhide KR k hlt
     clear KC KR KV
     generalize ns[k]?.getD 0=z at *
     go_wp2_with fail
     go_round
     case rel=>exact ⟨k + 1,by omega,by go_num⟩
     case measure=>simp [intOf]; omega
    ·clear KC KR
     have K1:=hide (unhide KV w0 (unhide HK).2)
     clear KV
     go_wp2_with fail
     go_at_call 210
     refine (unhide K1).mono ?_
     rintro e w1 ⟨rfl,K2⟩
     clear K1
     go_wp2_with fail
     go_at_call 99
     refine (unhide K2).mono ?_
     rintro e w2 ⟨v,rfl,K3⟩
     clear K2
     go_wp2_with fail
     go_at_call 237
     refine (unhide K3).mono ?_
     rintro e w3 ⟨a3,c3,rfl,X⟩
     clear K3
     go_wp2_with fail
     go_ret
     exact ⟨rfl,unhide X⟩
 ·have hE:blkE G ns=2:=by
   unfold blkE
   rw [if_neg]
   intro h
   exact hall (fun z hz=>(hin z).1 (List.all_eq_true.1 h z hz))
  rw [hE]
  have KR:Hid (¬ ∀ k,k < len→P 5 ≤ ns[k]?.getD 0∧ns[k]?.getD 0 < P 1):=fun h=>hall (fun z hz=>by
   obtain ⟨j,hj,rfl⟩:=List.getElem_of_mem hz
   have:=h j (by rw [← unhide hJ]; exact hj)
   rwa [List.getElem?_eq_getElem hj] at this)
  clear hE hall hin KN KV
  go_enter Tryz.func177,Tryz.ntmps177
  go_wp2_with fail
  obtain ⟨f0,f1,f2,f3,f4,f5,f6,f7,f8,f9,f10,f11⟩:=(unhide HK).cells
  clear f0 f2 f3 f4 f6 f7 f8 f9 f10 f11
  generalize w.alloc (.cells (Pc P) 25)=w0 at *
  go_loop [10] (fun i=>∃ k:Nat,k ≤ len∧i=.int .i64 (k:Int)∧Hid (∀ j,j < k→P 5 ≤ ns[j]?.getD 0∧ns[j]?.getD 0 < P 1)) (fun i=>len - (intOf i).toNat)
  case atStart=>exact ⟨0,Nat.zero_le _,rfl,fun j hj=>absurd hj (by omega)⟩
  case round =>
   obtain ⟨k,hk,rfl,hR⟩:=hrel
   by_cases hlt:k < len
   ·obtain ⟨kb,off,rfl,x1⟩:=unhide KC w0 k hlt (unhide HK).2
    by_cases r1:P 5 ≤ ns[k]?.getD 0
    ·by_cases r2:ns[k]?.getD 0 < P 1
     ·have hR2:Hid (∀ j,j < k + 1→P 5 ≤ ns[j]?.getD 0∧ns[j]?.getD 0 < P 1):=fun j hj=>by
       by_cases e:j=k
       ·rw [e]; exact ⟨r1,r2⟩
       ·exact unhide hR j (by omega)
      clear KC KR hR
      generalize ns[k]?.getD 0=z at *
      go_wp2_with fail
      go_round
      case rel=>exact ⟨k + 1,by omega,by go_num,hR2⟩
      case measure=>simp [intOf]; omega
     ·clear KC KR hR
      generalize ns[k]?.getD 0=z at *
      go_wp2_with fail
      go_ret
      exact ⟨rfl,(unhide HK).2⟩
    ·clear KC KR hR
     generalize ns[k]?.getD 0=z at *
     go_wp2_with fail
     go_ret
     exact ⟨rfl,(unhide HK).2⟩
   ·exfalso
    obtain rfl:k=len:=by omega
    exact unhide KR (unhide hR)

end Go.Proofs.YtdfanhjnkjdngaaGreatDoor

/- A call of a log under way: the log and its device, what came in boxed, the list that came in; the contracts of settle, Format and Need. -/
namespace Go.Proofs.YtdfanhjnkjdngaaGreatDoor
set_option maxRecDepth 100000
set_option maxHeartbeats 8000000
open Go.RowKit Go.Shelf Go.Maps
set_option linter.unusedVariables false

def LJ (w:World) (S:Nat→Prop) (g dg:Nat) (P:Nat→Int) (G:Geo) (cs:Array Value) (a:Option Addr) (len:Nat) (V:List Wr) (L:Lg) (D:Dev) (u:World):Prop :=
 ∃ Su Sl Sd m,LvM u Su Sl Sd g dg P G L D m∧Nx S w Su u∧(∀ k v,cs[k]?=some v→u.cell? ⟨w.heap.size,k,none⟩=some v)∧¬ Su w.heap.size∧w.heap.size < u.heap.size∧WHas u a len V∧WOut Su a len V

theorem WHas.none (u:World):WHas u Option.none 0 []:=⟨rfl,fun h=>absurd h (by omega),fun j h=>absurd h (by omega)⟩

theorem WOut.none (S:Nat→Prop):WOut S Option.none 0 []:=⟨fun h=>absurd h (by omega),fun j h=>absurd h (by omega)⟩

theorem LJ.start {w:World} {S:Nat→Prop} {g dg:Nat} {P:Nat→Int} {G:Geo} {a:Option Addr} {len:Nat} {V:List Wr} {L:Lg} {D:Dev} (h:Lv w S g dg P G L D) (cs:Array Value) (t:TypeId) (hV:WHas w a len V) (hO:WOut S a len V):LJ w S g dg P G cs a len V L D (w.alloc (.cells cs t)):=by
 obtain ⟨Sl,Sd,m,h⟩:=h
 have hb:Below w.heap.size w (w.alloc (.cells cs t)):=(Below.refl _ w).alloc (Nat.le_refl _) _
 exact ⟨S,Sl,Sd,m,h.below hb,(Nx.refl S w).below' hb,fun k v hk=>(cell_new w cs t _ k).trans hk,fun hs=>by have:=h.lt hs; omega,by simp,hV.later hb,hO⟩

theorem LJ.below {w:World} {S:Nat→Prop} {g dg:Nat} {P:Nat→Int} {G:Geo} {cs:Array Value} {a:Option Addr} {len:Nat} {V:List Wr} {L:Lg} {D:Dev} {u:World} (h:LJ w S g dg P G cs a len V L D u) {u':World} (hb:Below u.heap.size u u'):LJ w S g dg P G cs a len V L D u':=by
 obtain ⟨Su,Sl,Sd,m,h1,h2,h3,h4,h5,h6,h7⟩:=h
 exact ⟨Su,Sl,Sd,m,h1.below hb,h2.below' hb,fun k v hk=>(hb.cell (p:=⟨w.heap.size,k,none⟩) h5).trans (h3 k v hk),h4,Nat.lt_of_lt_of_le h5 hb.size,h6.later hb,h7⟩

theorem LJ.drew {w:World} {S:Nat→Prop} {g dg:Nat} {P:Nat→Int} {G:Geo} {cs:Array Value} {a:Option Addr} {len:Nat} {V:List Wr} {L:Lg} {D:Dev} {u:World} (h:LJ w S g dg P G cs a len V L D u):LJ w S g dg P G cs a len V L D u.drew:=h.below ((Below.refl _ u).drew)

theorem LJ.drewN {w:World} {S:Nat→Prop} {g dg:Nat} {P:Nat→Int} {G:Geo} {cs:Array Value} {a:Option Addr} {len:Nat} {V:List Wr} {L:Lg} {D:Dev} {u:World} (h:LJ w S g dg P G cs a len V L D u) (n:Nat):LJ w S g dg P G cs a len V L D (u.drewN n):=h.below (below_drewN (Below.refl _ u) n)

theorem LJ.step {w:World} {S:Nat→Prop} {g dg:Nat} {P:Nat→Int} {G:Geo} {cs:Array Value} {a:Option Addr} {len:Nat} {V:List Wr} {L:Lg} {D:Dev} {u:World} (h:LJ w S g dg P G cs a len V L D u):∃ Sd,Dv u Sd dg D∧¬ Sd 0∧Tab u∧D.blk=G.blk∧D.n=G.n∧WHas u a len V∧WOut Sd a len V∧G.Ok ∧
  ∀ u' Sd' D',Dv u' Sd' dg D'→Nx Sd u Sd' u'→(D'.n=D.n∧D'.blk=D.blk)→LJ w S g dg P G cs a len V L D' u':=by
 obtain ⟨Su,Sl,Sd,m,h1,h2,h3,h4,h5,h6,h7⟩:=h
 refine ⟨Sd,h1.dd,fun hs=>h1.z0 ((h1.all 0).2 (.inr hs)),h1.tab,h1.bd,h1.nd,h6,h7.mono (fun k hk=>(h1.all k).2 (.inr hk)),h1.ll.pg.ok,fun u' Sd' D' hd hx he=>?_⟩
 obtain ⟨y1,y2⟩:=h1.dev hd hx he
 obtain ⟨z1,z2⟩:=h6.nx y2 h7
 obtain ⟨k1,k2,k3⟩:=y2.keep h5 h4
 exact ⟨_,Sl,Sd',m,y1,h2.trans y2,fun k v hk=>(cell_eq k1 k).trans (h3 k v hk),k2,k3,z1,z2⟩

theorem LJ.lg {w:World} {S:Nat→Prop} {g dg:Nat} {P:Nat→Int} {G:Geo} {cs:Array Value} {a:Option Addr} {len:Nat} {V:List Wr} {L:Lg} {D:Dev} {u:World} (h:LJ w S g dg P G cs a len V L D u):∃ Sl m,LgM u Sl g dg P G L m:=by
 obtain ⟨Su,Sl,Sd,m,h1,_⟩:=h
 exact ⟨Sl,m,h1.ll⟩

theorem LJ.box {w:World} {S:Nat→Prop} {g dg:Nat} {P:Nat→Int} {G:Geo} {cs:Array Value} {a:Option Addr} {len:Nat} {V:List Wr} {L:Lg} {D:Dev} {u:World} (h:LJ w S g dg P G cs a len V L D u) (k:Nat) (v:Value) (hk:cs[k]?=some v):u.cell? ⟨w.heap.size,k,none⟩=some v:=by
 obtain ⟨_,_,_,_,_,_,h3,_⟩:=h
 exact h3 k v hk

theorem LJ.dcell {w:World} {S:Nat→Prop} {g dg:Nat} {P:Nat→Int} {G:Geo} {cs:Array Value} {a:Option Addr} {len:Nat} {V:List Wr} {L:Lg} {D:Dev} {u:World} (h:LJ w S g dg P G cs a len V L D u):u.cell? ⟨g,0,none⟩=some (.pointer (some ⟨dg,0,none⟩)):=by
 obtain ⟨Sl,m,h⟩:=h.lg
 exact h.cells.1

theorem LJ.fin {w:World} {S:Nat→Prop} {g dg:Nat} {P:Nat→Int} {G:Geo} {cs:Array Value} {a:Option Addr} {len:Nat} {V:List Wr} {L:Lg} {D:Dev} {u:World} (h:LJ w S g dg P G cs a len V L D u):∃ S',Lv u S' g dg P G L D∧Nx S w S' u:=by
 obtain ⟨Su,Sl,Sd,m,h1,h2,_⟩:=h
 exact ⟨Su,h1.lv,h2⟩

theorem LJ.fin2 {w:World} {S:Nat→Prop} {g dg:Nat} {P:Nat→Int} {G:Geo} {cs:Array Value} {a:Option Addr} {len:Nat} {V:List Wr} {L:Lg} {D:Dev} {u:World} (h:LJ w S g dg P G cs a len V L D u):∃ S',Lv u S' g dg P G L D∧Nx S w S' u∧WHas u a len V∧WOut S' a len V:=by
 obtain ⟨Su,Sl,Sd,m,h1,h2,_,_,_,h6,h7⟩:=h
 exact ⟨Su,h1.lv,h2,h6,h7⟩

theorem LJ.own {w:World} {S:Nat→Prop} {g dg:Nat} {P:Nat→Int} {G:Geo} {cs:Array Value} {a:Option Addr} {len:Nat} {V:List Wr} {L:Lg} {D:Dev} {u:World} (h:LJ w S g dg P G cs a len V L D u):∃ Sl m,LgM u Sl g dg P G L m∧∀ u' Sl' L' m',LgM u' Sl' g dg P G L' m'→Nx Sl u Sl' u'→LJ w S g dg P G cs a len V L' D u':=by
 obtain ⟨Su,Sl,Sd,m,h1,h2,h3,h4,h5,h6,h7⟩:=h
 refine ⟨Sl,m,h1.ll,fun u' Sl' L' m' hl hx=>?_⟩
 obtain ⟨y1,y2⟩:=h1.own hl hx
 obtain ⟨z1,z2⟩:=h6.nx y2 h7
 obtain ⟨k1,k2,k3⟩:=y2.keep h5 h4
 exact ⟨_,Sl',Sd,m',y1,h2.trans y2,fun k v hk=>(cell_eq k1 k).trans (h3 k v hk),k2,k3,z1,z2⟩

theorem lj_flush {w:World} {S:Nat→Prop} {g dg:Nat} {P:Nat→Int} {G:Geo} {cs:Array Value} {a:Option Addr} {len:Nat} {V:List Wr} {L:Lg} {D:Dev} {u:World} (h:LJ w S g dg P G cs a len V L D u) :
  Calls Tryz.prog 142 #[.pointer (some ⟨dg,0,none⟩)] u fun e u'=>e=.returned (.int .i64 D.wE)∧Hid (LJ w S g dg P G cs a len V L D.fD u'):=by
 obtain ⟨Sd,d1,_,_,_,_,_,_,_,d5⟩:=h.step
 refine (flush_any dg Sd D u d1).mono ?_
 rintro e u' ⟨rfl,x1,x2⟩
 exact ⟨rfl,d5 _ _ _ x1 x2 (Stp.ap_n .f D)⟩

theorem lj_head {w:World} {S:Nat→Prop} {g dg:Nat} {P:Nat→Int} {G:Geo} {cs:Array Value} {a:Option Addr} {len:Nat} {V:List Wr} {L:Lg} {D:Dev} {u:World} (h:LJ w S g dg P G cs a len V L D u) (H:Hd) (hH:H.Ok G) :
  Calls Tryz.prog 167 #[.pointer (some ⟨dg,0,none⟩),Hv H.fn] u fun e u'=>e=.returned (.int .i64 (runE (whS G H) D))∧Hid (LJ w S g dg P G cs a len V L (runD (whS G H) D) u'):=by
 obtain ⟨Sd,d1,d2,d3,d4,d5,_,_,d8,d9⟩:=h.step
 refine (writeHeader_any dg Sd D G H u d1 d8 d4 d5 hH d3 d2).mono ?_
 rintro e u' ⟨rfl,S',x1,x2⟩
 exact ⟨rfl,d9 _ _ _ x1 x2 (runD_n _ D)⟩

theorem stlE_no {G:Geo} {H:Hd} {D:Dev} (h:D.wE ≠ 0):runE (stlS G H) D=7∧runD (stlS G H) D=D.fD:=⟨runE_no h,runD_no h⟩

theorem stlE_ok {G:Geo} {H:Hd} {D:Dev} (h:D.wE=0):runE (stlS G H) D=runE (whS G H) D.fD∧runD (stlS G H) D=runD (whS G H) D.fD:=⟨runE_ok h,runD_ok h⟩

theorem settle_lj (g dg:Nat) (S:Nat→Prop) (P:Nat→Int) (G:Geo) (L:Lg) (D:Dev) (H:Hd) (hH:H.Ok G) (w:World) (h:Lv w S g dg P G L D) (a:Option Addr) (len:Nat) (V:List Wr) (hV:WHas w a len V) (hO:WOut S a len V) :
  Calls Tryz.prog 182 #[.pointer (some ⟨g,0,none⟩),Hv H.fn] w fun e w'=>e=.returned (.int .i64 (runE (stlS G H) D)) ∧
   Hid (LJ w S g dg P G (Hc H.fn) a len V (if runE (stlS G H) D=0 then { L with h:=H } else L) (runD (stlS G H) D) w'):=by
 have J0:=hide (LJ.start h (Hc H.fn) 57 hV hO)
 have K1:Hid (∀ u D,LJ w S g dg P G (Hc H.fn) a len V L D u→_):=fun u D hu=>lj_flush hu
 have K2:Hid (∀ u D,LJ w S g dg P G (Hc H.fn) a len V L D u→_):=fun u D hu=>lj_head hu H hH
 have K3:Hid (∀ u D,LJ w S g dg P G (Hc H.fn) a len V L D u→u.cell? ⟨g,13,none⟩=some (.int .i64 (L.h.seq:Int))∧u.cell? ⟨g,14,none⟩=some (.int .i64 (L.h.tail:Int))∧u.cell? ⟨g,15,none⟩=some (.int .i64 (L.h.used:Int))∧(∀ k,u.frozen? ⟨g,k,none⟩=false) ∧
   Hid (LJ w S g dg P G (Hc H.fn) a len V { L with h:=H } D (((u.setCell ⟨g,13,none⟩ (.int .i64 (H.seq:Int))).setCell ⟨g,14,none⟩ (.int .i64 (H.tail:Int))).setCell ⟨g,15,none⟩ (.int .i64 (H.used:Int))))):=by
  intro u D hu
  obtain ⟨Sl,m,l1,l2⟩:=hu.own
  obtain ⟨_,_,c3,c4,c5,_,_,fr⟩:=l1.cells
  refine ⟨c3,c4,c5,fr,l2 _ _ _ _ (l1.head H hH) ?_⟩
  have n1:Nx Sl u Sl (u.setCell ⟨g,13,none⟩ (.int .i64 (H.seq:Int))):=Nx.set (p:=⟨g,13,none⟩) l1.sg _
  have n2:Nx Sl (u.setCell ⟨g,13,none⟩ (.int .i64 (H.seq:Int))) Sl ((u.setCell ⟨g,13,none⟩ (.int .i64 (H.seq:Int))).setCell ⟨g,14,none⟩ (.int .i64 (H.tail:Int))):=Nx.set (p:=⟨g,14,none⟩) l1.sg _
  exact (n1.trans n2).trans (Nx.set (p:=⟨g,15,none⟩) l1.sg _)
 have hE:=D.wE_two
 have hE2:=runE_two (whS G H) D.fD
 clear h hV hO hH
 rcases hE with hE | hE
 ·obtain ⟨s1,s2⟩:=stlE_ok (G:=G) (H:=H) hE
  rw [s1,s2]
  rcases hE2 with hE2 | hE2
  ·rw [hE2,if_pos rfl]
   go_enter Tryz.func182,Tryz.ntmps182
   go_upto_region 1 with fail
   change Code.wp _ _ _ _ (w.alloc (.cells (Hc H.fn) 57))
   generalize w.alloc (.cells (Hc H.fn) 57)=u0 at *
   have d0:=(unhide J0).dcell
   go_wp2_with fail
   go_at_call 142
   refine (unhide K1 _ _ (unhide J0)).mono ?_
   rintro e u1 ⟨rfl,J1⟩
   rw [hE]
   clear J0 d0 K1
   have d0:=(unhide J1).dcell
   have f0:=(unhide J1).box 0 _ rfl
   have f1:=(unhide J1).box 1 _ rfl
   have f2:=(unhide J1).box 2 _ rfl
   go_upto_region 4 with fail
   go_cut [6] (fun c wx=>c=.int .i64 0∧Hid (LJ w S g dg P G (Hc H.fn) a len V L (runD (whS G H) D.fD) wx))
   case first =>
    go_region_with (go_at_call 167; refine (unhide K2 _ _ (unhide J1).drew).mono ?_; rintro e u2 ⟨rfl,J2⟩; rw [hE2])
    all_goals
     go_wp2_with fail
     go_meet
     exact ⟨rfl,J2⟩
   case rest =>
    obtain ⟨rfl,J2⟩:=hcut
    clear J1 d0 f0 f1 f2 K2
    have f0:=(unhide J2).box 0 (.int .i64 (H.seq:Int)) rfl
    have f1:=(unhide J2).box 1 (.int .i64 (H.tail:Int)) rfl
    have f2:=(unhide J2).box 2 (.int .i64 (H.used:Int)) rfl
    obtain ⟨c3,c4,c5,fr,J3⟩:=unhide K3 _ _ (unhide J2)
    clear K3 J2
    go_wp2_with fail
    go_ret
    exact ⟨rfl,J3⟩
  ·rw [hE2,if_neg (by decide)]
   go_enter Tryz.func182,Tryz.ntmps182
   go_upto_region 1 with fail
   change Code.wp _ _ _ _ (w.alloc (.cells (Hc H.fn) 57))
   generalize w.alloc (.cells (Hc H.fn) 57)=u0 at *
   have d0:=(unhide J0).dcell
   go_wp2_with fail
   go_at_call 142
   refine (unhide K1 _ _ (unhide J0)).mono ?_
   rintro e u1 ⟨rfl,J1⟩
   rw [hE]
   clear J0 d0 K1
   have d0:=(unhide J1).dcell
   have f0:=(unhide J1).box 0 _ rfl
   have f1:=(unhide J1).box 1 _ rfl
   have f2:=(unhide J1).box 2 _ rfl
   go_upto_region 4 with fail
   go_cut [6] (fun c wx=>c=.int .i64 7∧Hid (LJ w S g dg P G (Hc H.fn) a len V L (runD (whS G H) D.fD) wx))
   case first =>
    go_region_with (go_at_call 167; refine (unhide K2 _ _ (unhide J1).drew).mono ?_; rintro e u2 ⟨rfl,J2⟩; rw [hE2])
    all_goals
     go_wp2_with fail
     go_meet
     exact ⟨rfl,J2⟩
   case rest =>
    obtain ⟨rfl,J2⟩:=hcut
    clear J1 d0 f0 f1 f2 K2 K3
    go_wp2_with fail
    go_ret
    exact ⟨rfl,J2⟩
 ·obtain ⟨s1,s2⟩:=stlE_no (G:=G) (H:=H) (D:=D) (by omega)
  rw [s1,s2,if_neg (by decide)]
  go_enter Tryz.func182,Tryz.ntmps182
  go_upto_region 1 with fail
  change Code.wp _ _ _ _ (w.alloc (.cells (Hc H.fn) 57))
  generalize w.alloc (.cells (Hc H.fn) 57)=u0 at *
  have d0:=(unhide J0).dcell
  go_wp2_with fail
  go_at_call 142
  refine (unhide K1 _ _ (unhide J0)).mono ?_
  rintro e u1 ⟨rfl,J1⟩
  rw [hE]
  clear J0 d0 K1 K2 K3
  go_wp2_with fail
  go_ret
  exact ⟨rfl,J1⟩

def hd1:Hd:=⟨1,0,0⟩

theorem hd1_ok {G:Geo} (h:G.Ok):hd1.Ok G:=by
 have h1:=h.l1
 exact ⟨by show 1 ≤ 4294967295; omega,by show 0 < G.lg; omega,Nat.zero_le _⟩

theorem format_any (P:Nat→Int) (G:Geo) (dg:Nat) (S:Nat→Prop) (D:Dev) (w:World) (hP:PG P G) (hD:Dv w S dg D) (bd:D.blk=G.blk) (nd:D.n=G.n) (hT:Tab w) (h0:¬ S 0) :
  Calls Tryz.prog 74 #[.pointer (some ⟨dg,0,none⟩),Pv P] w fun e w'=>e=.returned (.int .i64 (runE (whS G hd1) D))∧∃ S',Dv w' S' dg (runD (whS G hd1) D)∧Nx S w S' w':=by
 have K:Hid (∀ u,Below w.heap.size w u→Calls Tryz.prog 94 #[.pointer (some ⟨dg,0,none⟩),Pv P] u fun e w'=>e=.returned (.int .i64 0)∧Below u.heap.size u w'):=fun u hu=>refuses_good P G dg S D u hP (hD.below hu) bd nd
 have K2:Hid (∀ u,Below w.heap.size w u→Calls Tryz.prog 167 #[.pointer (some ⟨dg,0,none⟩),.agg #[.int .i64 1,.int .i64 0,.int .i64 0]] u fun e w'=>e=.returned (.int .i64 (runE (whS G hd1) D))∧Hid (∃ S',Dv w' S' dg (runD (whS G hd1) D)∧Nx S w S' w')):=fun u hu=>by
  refine (writeHeader_any dg S D G hd1 u (hD.below hu) hP.ok bd nd (hd1_ok hP.ok) (hT.kept (hu.block 0 hT.lt)) h0).mono ?_
  rintro e w' ⟨rfl,S',x1,x2⟩
  exact ⟨rfl,S',x1,((Nx.refl S w).below' hu).trans x2⟩
 have HK:=hide (Kp.start w P)
 clear hP hD bd nd hT h0
 generalize runE (whS G hd1) D=rE at *
 generalize runD (whS G hd1) D=rD at *
 go_enter Tryz.func74,Tryz.ntmps74
 go_wp2_with fail
 go_at_call 94
 refine (unhide K _ (unhide HK).2).mono ?_
 rintro e w1 ⟨rfl,hb⟩
 replace HK:=hide ((unhide HK).call hb)
 clear hb K
 go_wp2_with fail
 go_at_call 167
 refine (unhide K2 _ (unhide HK).2).mono ?_
 rintro e w2 ⟨rfl,X⟩
 clear K2 HK
 go_wp2_with fail
 go_ret
 exact ⟨rfl,unhide X⟩

def needE (n:Int):Int:=if n < 0 ∨ 4096 < n then 1 else 0

def needN (G:Geo) (n:Int):Int:=if n < 0 ∨ 4096 < n then 0 else (G.uses n.toNat:Int)

theorem need_good (P:Nat→Int) (G:Geo) (n:Int) (w:World) (hP:PG P G) :
  Calls Tryz.prog 202 #[Pv P,.int .i64 n] w fun e w'=>e=.returned (.tuple #[.int .i64 (needN G n),.int .i64 (needE n)])∧Below w.heap.size w w':=by
 have K:Hid (∀ u,Calls Tryz.prog 184 #[Pv P] u fun e w'=>e=.returned (.int .i64 0)∧Below u.heap.size u w'):=fun u=>by
  have:=check_any P u
  rwa [hP.chk] at this
 have HK:=hide (Kp.start w P)
 unfold needE needN
 by_cases h1:n < 0
 ·rw [if_pos (.inl h1),if_pos (.inl h1)]
  clear hP
  go_enter Tryz.func202,Tryz.ntmps202
  go_wp2_with fail
  go_at_call 184
  refine (unhide K _).mono ?_
  rintro e w1 ⟨rfl,hb⟩
  replace HK:=hide ((unhide HK).call hb)
  clear hb K
  go_wp2_with fail
  go_ret2
  exact ⟨rfl,(unhide HK).2⟩
 ·by_cases h2:4096 < n
  ·rw [if_pos (.inr h2),if_pos (.inr h2)]
   clear hP
   go_enter Tryz.func202,Tryz.ntmps202
   go_wp2_with fail
   go_at_call 184
   refine (unhide K _).mono ?_
   rintro e w1 ⟨rfl,hb⟩
   replace HK:=hide ((unhide HK).call hb)
   clear hb K
   go_wp2_with fail
   go_ret2
   exact ⟨rfl,(unhide HK).2⟩
  ·rw [if_neg (by omega),if_neg (by omega)]
   obtain ⟨k,rfl⟩:∃ k:Nat,n=(k:Int):=⟨n.toNat,by omega⟩
   have e1:((k:Int)).toNat=k:=by omega
   rw [e1]
   have K2:Hid (∀ u,Calls Tryz.prog 179 #[Pv P,.int .i64 (k:Int)] u fun e w'=>e=.returned (.int .i64 (G.uses k:Int))∧Below u.heap.size u w'):=fun u=>uses_any P G hP k (by omega) u
   clear hP
   generalize (G.uses k:Int)=r at *
   go_enter Tryz.func202,Tryz.ntmps202
   go_wp2_with fail
   go_at_call 184
   refine (unhide K _).mono ?_
   rintro e w1 ⟨rfl,hb⟩
   replace HK:=hide ((unhide HK).call hb)
   clear hb K
   obtain ⟨f0,f1,f2,f3,f4,f5,f6,f7,f8,f9,f10,f11⟩:=(unhide HK).cells
   go_wp2_with fail
   go_at_call 179
   refine (unhide K2 _).mono ?_
   rintro e w2 ⟨rfl,hb⟩
   replace HK:=hide ((unhide HK).call hb)
   clear hb K2 f0 f1 f2 f3 f4 f5 f6 f7 f8 f9 f10 f11
   go_wp2_with fail
   go_ret2
   exact ⟨rfl,(unhide HK).2⟩

end Go.Proofs.YtdfanhjnkjdngaaGreatDoor

/- The contract of writePart. -/
namespace Go.Proofs.YtdfanhjnkjdngaaGreatDoor
set_option maxRecDepth 100000
set_option maxHeartbeats 8000000
open Go.RowKit Go.Shelf Go.Maps
set_option linter.unusedVariables false

def wl (V:List Wr):Wl:=V.map (fun v=>(v.b.toNat,v.z))

def VOk (G:Geo) (V:List Wr):Prop:=∀ v ∈ V,v.dl=G.blk∧(G.ib:Int) ≤ v.b∧v.b < G.n

theorem wat_mem {V:List Wr} {j:Nat} (hj:j < V.length):wat V j ∈ V:=by
 unfold wat
 rw [List.getElem?_eq_getElem hj]
 exact List.getElem_mem _

theorem wl_len (V:List Wr):(wl V).length=V.length:=by simp [wl]

theorem wl_drop {V:List Wr} {k:Nat} (hk:k < V.length):(wl V).drop k=((wat V k).b.toNat,(wat V k).z) :: (wl V).drop (k + 1):=by
 have h1:k < (wl V).length:=by rw [wl_len]; exact hk
 rw [List.drop_eq_getElem_cons h1]
 congr 1
 simp [wl,wat,List.getElem?_eq_getElem hk]

theorem wl_nums {G:Geo} {V:List Wr} (hV:VOk G V):(wl V).map (fun x=>(x.1:Int))=V.map (·.b):=by
 unfold wl
 rw [List.map_map]
 refine List.map_congr_left (fun v hv=>?_)
 have:=(hV v hv).2.1
 show ((v.b.toNat:Nat):Int)=v.b
 omega

def LJB (w:World) (S:Nat→Prop) (g dg:Nat) (P:Nat→Int) (G:Geo) (cs:Array Value) (a:Option Addr) (len:Nat) (V:List Wr) (L:Lg) (D:Dev) (r:Nat) (zs:List Int) (u:World):Prop :=
 ∃ Su Sl Sd m,LvM u Su Sl Sd g dg P G L D m∧Nx S w Su u∧(∀ k v,cs[k]?=some v→u.cell? ⟨w.heap.size,k,none⟩=some v)∧¬ Su w.heap.size∧w.heap.size < u.heap.size∧WHas u a len V∧WOut Su a len V∧Block u r zs∧¬ Su r

theorem LJB.lj {w:World} {S:Nat→Prop} {g dg:Nat} {P:Nat→Int} {G:Geo} {cs:Array Value} {a:Option Addr} {len:Nat} {V:List Wr} {L:Lg} {D:Dev} {r:Nat} {zs:List Int} {u:World} (h:LJB w S g dg P G cs a len V L D r zs u):LJ w S g dg P G cs a len V L D u:=by
 obtain ⟨Su,Sl,Sd,m,h1,h2,h3,h4,h5,h6,h7,_⟩:=h
 exact ⟨Su,Sl,Sd,m,h1,h2,h3,h4,h5,h6,h7⟩

theorem LJ.beside {w:World} {S:Nat→Prop} {g dg:Nat} {P:Nat→Int} {G:Geo} {cs:Array Value} {a:Option Addr} {len:Nat} {V:List Wr} {L:Lg} {D:Dev} {u u':World} (h:LJ w S g dg P G cs a len V L D u) (hb:Below u.heap.size u u') {r:Nat} {zs:List Int} (hr:u.heap.size ≤ r) (hB:Block u' r zs):LJB w S g dg P G cs a len V L D r zs u':=by
 obtain ⟨Su,Sl,Sd,m,h1,h2,h3,h4,h5,h6,h7⟩:=h
 exact ⟨Su,Sl,Sd,m,h1.below hb,h2.below' hb,fun k v hk=>(hb.cell (p:=⟨w.heap.size,k,none⟩) h5).trans (h3 k v hk),h4,Nat.lt_of_lt_of_le h5 hb.size,h6.later hb,h7,hB,fun hs=>by have:=h1.lt hs; omega⟩

theorem LJB.below {w:World} {S:Nat→Prop} {g dg:Nat} {P:Nat→Int} {G:Geo} {cs:Array Value} {a:Option Addr} {len:Nat} {V:List Wr} {L:Lg} {D:Dev} {r:Nat} {zs:List Int} {u u':World} (h:LJB w S g dg P G cs a len V L D r zs u) (hb:Below u.heap.size u u'):LJB w S g dg P G cs a len V L D r zs u':=by
 obtain ⟨Su,Sl,Sd,m,h1,h2,h3,h4,h5,h6,h7,h8,h9⟩:=h
 exact ⟨Su,Sl,Sd,m,h1.below hb,h2.below' hb,fun k v hk=>(hb.cell (p:=⟨w.heap.size,k,none⟩) h5).trans (h3 k v hk),h4,Nat.lt_of_lt_of_le h5 hb.size,h6.later hb,h7,h8.below hb h8.lt,h9⟩

theorem LJB.drewN {w:World} {S:Nat→Prop} {g dg:Nat} {P:Nat→Int} {G:Geo} {cs:Array Value} {a:Option Addr} {len:Nat} {V:List Wr} {L:Lg} {D:Dev} {r:Nat} {zs:List Int} {u:World} (h:LJB w S g dg P G cs a len V L D r zs u) (n:Nat):LJB w S g dg P G cs a len V L D r zs (u.drewN n):=h.below (below_drewN (Below.refl _ u) n)

theorem ljb_write {w:World} {S:Nat→Prop} {g dg:Nat} {P:Nat→Int} {G:Geo} {cs:Array Value} {a:Option Addr} {len:Nat} {V:List Wr} {L:Lg} {D:Dev} {r:Nat} {zs:List Int} {u:World} (h:LJB w S g dg P G cs a len V L D r zs u) (i:Nat) (hi:i < G.n) (hl:zs.length=G.blk) (hz:∀ z ∈ zs,0 ≤ z∧z ≤ 255) :
  Calls Tryz.prog 183 #[.pointer (some ⟨dg,0,none⟩),.int .i64 (i:Int),.slice (some ⟨r,0,none⟩) G.blk G.blk] u fun e u'=>e=.returned (.int .i64 D.wE)∧Hid (LJ w S g dg P G cs a len V L (D.wD i zs) u'):=by
 obtain ⟨Su,Sl,Sd,m,h1,h2,h3,h4,h5,h6,h7,h8,h9⟩:=h
 have hbk:=h1.ll.pg.ok.blk
 have hr:=h8.row hl (by omega) hz
 have ho:Out Sd G.blk (some ⟨r,0,none⟩):=fun _ x e hs=>by cases e; exact h9 ((h1.all _).2 (.inr hs))
 have:=write_any dg i (some ⟨r,0,none⟩) G.blk zs Sd D u h1.dd (by rw [h1.nd]; exact hi) (by rw [h1.bd]; exact hr) (by rw [h1.bd]; exact ho)
 rw [h1.bd] at this
 refine this.mono ?_
 rintro e u' ⟨rfl,S',x1,x2⟩
 obtain ⟨y1,y2⟩:=h1.dev x1 x2 (Dev.wD_n D i zs)
 obtain ⟨z1,z2⟩:=h6.nx y2 h7
 obtain ⟨k1,k2,k3⟩:=y2.keep h5 h4
 exact ⟨rfl,_,Sl,S',m,y1,h2.trans y2,fun k v hk=>(cell_eq k1 k).trans (h3 k v hk),k2,k3,z1,z2⟩

theorem lj_wrow {w:World} {S:Nat→Prop} {g dg:Nat} {P:Nat→Int} {G:Geo} {cs:Array Value} {a:Option Addr} {len:Nat} {V:List Wr} {L:Lg} {D:Dev} {u:World} (h:LJ w S g dg P G cs a len V L D u) (i:Nat) (hi:i < G.n) {k:Nat} (hk:k < len) (hd:(wat V k).dl=G.blk) :
  Calls Tryz.prog 183 #[.pointer (some ⟨dg,0,none⟩),.int .i64 (i:Int),.slice (wat V k).da (wat V k).dl (wat V k).dc] u fun e u'=>e=.returned (.int .i64 D.wE)∧Hid (LJ w S g dg P G cs a len V L (D.wD i (wat V k).z) u'):=by
 obtain ⟨Sd,d1,d2,d3,d4,d5,d6,d7,d8,d9⟩:=h.step
 have hr:=d6.row k hk
 have ho:=d7.2 k hk
 rw [hd] at hr ho ⊢
 have:=write_any dg i (wat V k).da (wat V k).dc (wat V k).z Sd D u d1 (by rw [d5]; exact hi) (by rw [d4]; exact hr) (by rw [d4]; exact ho)
 rw [d4] at this
 refine this.mono ?_
 rintro e u' ⟨rfl,S',x1,x2⟩
 exact ⟨rfl,d9 _ _ _ x1 x2 (Dev.wD_n D i _)⟩

def left (G:Geo) (at':Nat) (W:Wl) (k:Nat):List Stp:=dataS G (at' + 1 + k) (W.drop k)

theorem left_ok {G:Geo} {at':Nat} {V:List Wr} {k:Nat} {D:Dev} (hk:k < V.length) (h:D.wE=0):runE (left G at' (wl V) k) D=runE (left G at' (wl V) (k + 1)) (D.wD (G.ring (at' + 1 + k)) (wat V k).z)∧runD (left G at' (wl V) k) D=runD (left G at' (wl V) (k + 1)) (D.wD (G.ring (at' + 1 + k)) (wat V k).z):=by
 unfold left
 rw [wl_drop hk,dataS]
 exact ⟨runE_ok h,runD_ok h⟩

theorem left_no {G:Geo} {at':Nat} {V:List Wr} {k:Nat} {D:Dev} (hk:k < V.length) (h:D.wE ≠ 0):runE (left G at' (wl V) k) D=7∧runD (left G at' (wl V) k) D=D.wD (G.ring (at' + 1 + k)) (wat V k).z:=by
 unfold left
 rw [wl_drop hk,dataS]
 exact ⟨runE_no h,runD_no h⟩

theorem left_end {G:Geo} {at':Nat} {V:List Wr} {D:Dev}:runE (left G at' (wl V) V.length) D=0∧runD (left G at' (wl V) V.length) D=D:=by
 unfold left
 rw [List.drop_of_length_le (by rw [wl_len]; omega),dataS]
 exact ⟨rfl,rfl⟩

theorem descE_ok {G:Geo} (hG:G.Ok) {seq:Nat} (hs:seq ≤ 4294967295) {V:List Wr} (hV:VOk G V) (hl:V.length ≤ G.most):descE (G.blk:Int) (seq:Int) (V.map (·.b))=0:=by
 have h1:=hG.blk
 have h2:=hG.n2
 have hsz:=hG.size
 unfold isSize at hsz
 unfold descE
 rw [if_pos hsz,if_pos,if_neg]
 ·simp only [List.length_map]
  unfold Geo.most at hl
  omega
 ·unfold descF
  rw [Bool.and_eq_true,fitB_iff,fitB_iff]
  refine ⟨fun v hv=>?_,fun v hv=>?_⟩
  ·have:v=(seq:Int):=by simpa using hv
   omega
  ·obtain ⟨x,hx,rfl⟩:=List.mem_map.1 hv
   have:=hV x hx
   omega

theorem most_len {G:Geo} (hG:G.Ok) {n:Nat} (hl:n ≤ G.most):10 + 2 * n ≤ G.blk:=by
 have:=hG.blk
 unfold Geo.most at hl
 omega

def PJ (w:World) (S:Nat→Prop) (g dg:Nat) (P:Nat→Int) (G:Geo) (cs:Array Value) (a:Option Addr) (len:Nat) (V:List Wr) (L:Lg) (at':Nat) (eE:Int) (eD:Dev) (k:Nat) (u:World):Prop :=
 ∃ D,LJ w S g dg P G cs a len V L D u∧runE (left G at' (wl V) k) D=eE∧runD (left G at' (wl V) k) D=eD

theorem writePart_lj (g dg:Nat) (S:Nat→Prop) (P:Nat→Int) (G:Geo) (L:Lg) (D:Dev) (H:Hd) (hH:H.seq ≤ 4294967295∧H.tail + H.used ≤ 10000) (w:World) (h:Lv w S g dg P G L D) (a:Option Addr) (len cap:Nat) (V:List Wr) (hV:WHas w a len V) (hO:WOut S a len V) (hVo:VOk G V) (hl:len ≤ G.most) :
  Calls Tryz.prog 239 #[.pointer (some ⟨g,0,none⟩),Hv H.fn,.slice a len cap] w fun e w'=>e=.returned (.int .i64 (runE (partS G H.seq (H.tail + H.used) (wl V)) D)) ∧
   Hid (LJ w S g dg P G (Hc H.fn) a len V L (runD (partS G H.seq (H.tail + H.used) (wl V)) D) w'):=by
 have J0:=hide (LJ.start h (Hc H.fn) 57 hV hO)
 have hG:G.Ok:=by obtain ⟨_,_,_,h⟩:=h; exact h.ll.pg.ok
 have hP0:P 0=(G.blk:Int):=by obtain ⟨_,_,_,h⟩:=h; exact h.ll.pg.p0
 have hln:=hV.ln
 have hm:=hG.most
 have hdl:=descB_length (q:=(H.seq:Int)) (ns:=V.map (·.b)) (show 10 + 2 * (V.map (·.b)).length ≤ G.blk by rw [List.length_map]; exact most_len hG (by omega))
 have KN:Hid (∀ u,LJ w S g dg P G (Hc H.fn) a len V L D u→Calls Tryz.prog 178 #[.slice a len cap] u fun e w'=>e=.returned (.slice (some ⟨u.heap.size,0,none⟩) len len)∧Hid (IHas w' (some ⟨u.heap.size,0,none⟩) len (V.map (·.b)))∧Below u.heap.size u w'):=fun u hu=>by
  obtain ⟨Sd,_,_,_,_,_,d6,_⟩:=hu.step
  exact named_any a len cap V u d6 (by omega)
 have KD:Hid (∀ u (k:Nat),LJ w S g dg P G (Hc H.fn) a len V L D u→IHas u (some ⟨k,0,none⟩) len (V.map (·.b))→Calls Tryz.prog 269 #[.int .i64 (H.seq:Int),.slice (some ⟨k,0,none⟩) len len,.int .i64 (G.blk:Int)] u fun e w'=>∃ r,e=.returned (.tuple #[.slice (some ⟨r,0,none⟩) G.blk G.blk,.int .i64 0])∧Hid (LJB w S g dg P G (Hc H.fn) a len V L D r (descB G.blk (H.seq:Int) (V.map (·.b))) w')):=fun u k hu hi=>by
  obtain ⟨Sd,_,_,d3,_⟩:=hu.step
  refine (desc_ok (H.seq:Int) _ len len _ G.blk u hi d3 (descE_ok hG hH.1 hVo (by omega))).mono ?_
  rintro e w' ⟨r,rfl,r1,r2,r3⟩
  exact ⟨r,rfl,hu.beside r3 r1 (unhide r2)⟩
 have KP:Hid (∀ u,LJ w S g dg P G (Hc H.fn) a len V L D u→Hid (LJ w S g dg P G (Hc H.fn) a len V L D u)∧u.cell? ⟨w.heap.size,0,none⟩=some (.int .i64 (H.seq:Int))∧u.cell? ⟨g,1,none⟩=some (.int .i64 (G.blk:Int))):=fun u hu=>by
  obtain ⟨Sl,m,hl⟩:=hu.lg
  have:=hl.cells.2.1 0 (by omega)
  rw [hP0] at this
  exact ⟨hu,hu.box 0 _ rfl,this⟩
 have KR:Hid (∀ u D' (k:Nat),LJ w S g dg P G (Hc H.fn) a len V L D' u→Calls Tryz.prog 189 #[.pointer (some ⟨g,0,none⟩),.int .i64 (k:Int)] u fun e w'=>e=.returned (.int .i64 (G.ring k:Int))∧∃ q,w'=u.drewN q):=fun u D' k hu=>by
  obtain ⟨Sl,m,hl⟩:=hu.lg
  exact ring_any g dg k Sl P G L m u hl
 have KW:Hid (∀ u (r:Nat),LJB w S g dg P G (Hc H.fn) a len V L D r (descB G.blk (H.seq:Int) (V.map (·.b))) u→Calls Tryz.prog 183 #[.pointer (some ⟨dg,0,none⟩),.int .i64 (G.ring (H.tail + H.used):Int),.slice (some ⟨r,0,none⟩) G.blk G.blk] u fun e u'=>e=.returned (.int .i64 D.wE)∧Hid (LJ w S g dg P G (Hc H.fn) a len V L (D.wD (G.ring (H.tail + H.used)) (descB G.blk (H.seq:Int) (V.map (·.b)))) u')):=fun u r hu =>
  ljb_write hu (G.ring (H.tail + H.used)) (hG.ring _).2.2 hdl (descB_byts _ _ _)
 have KB:Hid (∀ u D' (k:Nat),k < len→LJ w S g dg P G (Hc H.fn) a len V L D' u→Calls Tryz.prog 183 #[.pointer (some ⟨dg,0,none⟩),.int .i64 (G.ring (H.tail + H.used + 1 + k):Int),.slice (wat V k).da (wat V k).dl (wat V k).dc] u fun e u'=>e=.returned (.int .i64 D'.wE)∧Hid (LJ w S g dg P G (Hc H.fn) a len V L (D'.wD (G.ring (H.tail + H.used + 1 + k)) (wat V k).z) u')):=fun u D' k hk hu =>
  lj_wrow hu (G.ring _) (hG.ring _).2.2 hk (hVo _ (wat_mem (by omega))).1
 have KC:Hid (∀ u D' (k:Nat),k < len→LJ w S g dg P G (Hc H.fn) a len V L D' u→∃ kb off,a=some ⟨kb,off,none⟩∧u.cell? ⟨kb,off + k * 2,none⟩=some (.int .i64 (wat V k).b)∧u.cell? ⟨kb,off + k * 2 + 1,none⟩=some (.slice (wat V k).da (wat V k).dl (wat V k).dc)):=fun u D' k hk hu=>by
  obtain ⟨Sd,_,_,_,_,_,d6,_⟩:=hu.step
  obtain ⟨kb,off,e,_,hc⟩:=d6.cel (by omega)
  exact ⟨kb,off,e,(hc k hk).1,(hc k hk).2⟩
 have hE:=D.wE_two
 have e1:D.wE ≠ 0→runE (partS G H.seq (H.tail + H.used) (wl V)) D=7∧runD (partS G H.seq (H.tail + H.used) (wl V)) D=D.wD (G.ring (H.tail + H.used)) (descB G.blk (H.seq:Int) (V.map (·.b))):=fun he=>by
  unfold partS
  rw [wl_nums hVo]
  exact ⟨runE_no he,runD_no he⟩
 have e2:D.wE=0→runE (partS G H.seq (H.tail + H.used) (wl V)) D=runE (left G (H.tail + H.used) (wl V) 0) (D.wD (G.ring (H.tail + H.used)) (descB G.blk (H.seq:Int) (V.map (·.b))))∧runD (partS G H.seq (H.tail + H.used) (wl V)) D=runD (left G (H.tail + H.used) (wl V) 0) (D.wD (G.ring (H.tail + H.used)) (descB G.blk (H.seq:Int) (V.map (·.b)))):=fun he=>by
  unfold partS left
  rw [wl_nums hVo,List.drop_zero,Nat.add_zero]
  exact ⟨runE_ok he,runD_ok he⟩
 have hat:H.tail + H.used ≤ 10000:=hH.2
 have hlm:Hid (len ≤ 2043):=by have:=hG.most; exact Nat.le_trans hl this.2
 have f12:Hid ((Hc H.fn)[1]?=some (.int .i64 (H.tail:Int))∧(Hc H.fn)[2]?=some (.int .i64 (H.used:Int))):=⟨rfl,rfl⟩
 have hsum:wrap64 ((H.tail:Int) + (H.used:Int))=((H.tail + H.used:Nat):Int):=by unfold wrap64; omega
 have KPJ:Hid (∀ u (k:Nat),PJ w S g dg P G (Hc H.fn) a len V L (H.tail + H.used) (runE (partS G H.seq (H.tail + H.used) (wl V)) D) (runD (partS G H.seq (H.tail + H.used) (wl V)) D) k u→k < len→∃ D',LJ w S g dg P G (Hc H.fn) a len V L D' u∧(D'.wE=0→∀ u',LJ w S g dg P G (Hc H.fn) a len V L (D'.wD (G.ring (H.tail + H.used + 1 + k)) (wat V k).z) u'→PJ w S g dg P G (Hc H.fn) a len V L (H.tail + H.used) (runE (partS G H.seq (H.tail + H.used) (wl V)) D) (runD (partS G H.seq (H.tail + H.used) (wl V)) D) (k + 1) u')∧(D'.wE ≠ 0→runE (partS G H.seq (H.tail + H.used) (wl V)) D=7∧runD (partS G H.seq (H.tail + H.used) (wl V)) D=D'.wD (G.ring (H.tail + H.used + 1 + k)) (wat V k).z)):=by
  rintro u k ⟨D',h1,h2,h3⟩ hk
  refine ⟨D',h1,fun he u' hu'=>⟨_,hu',?_,?_⟩,fun he=>?_⟩
  ·rw [← (left_ok (by omega) he).1]; exact h2
  ·rw [← (left_ok (by omega) he).2]; exact h3
  ·have:=left_no (G:=G) (at':=H.tail + H.used) (V:=V) (k:=k) (by omega) he
   exact ⟨h2.symm.trans this.1,h3.symm.trans this.2⟩
 have KPE:Hid (∀ u,PJ w S g dg P G (Hc H.fn) a len V L (H.tail + H.used) (runE (partS G H.seq (H.tail + H.used) (wl V)) D) (runD (partS G H.seq (H.tail + H.used) (wl V)) D) len u→0=runE (partS G H.seq (H.tail + H.used) (wl V)) D∧LJ w S g dg P G (Hc H.fn) a len V L (runD (partS G H.seq (H.tail + H.used) (wl V)) D) u):=by
  rintro u ⟨D',h1,h2,h3⟩
  rw [← hln] at h2 h3
  rw [left_end.1] at h2
  rw [left_end.2] at h3
  rw [h3] at h1
  exact ⟨h2,h1⟩
 clear h hV hO hVo hP0 hln hdl hH hm hG hl
 generalize runE (partS G H.seq (H.tail + H.used) (wl V)) D=rE at *
 generalize runD (partS G H.seq (H.tail + H.used) (wl V)) D=rD at *
 generalize descB G.blk (H.seq:Int) (V.map (·.b))=ds at *
 generalize V.map (·.b)=ns at *
 generalize H.tail + H.used=at' at *
 have s1:IntKind.i64.wrap ((at':Int) + 1)=((at' + 1:Nat):Int):=by rw [IntKind.wrap_i64]; omega
 have s2:Hid (∀ k:Nat,k ≤ 5000→IntKind.i64.wrap (((at' + 1:Nat):Int) + (k:Int))=((at' + 1 + k:Nat):Int)):=fun k hk=>by rw [IntKind.wrap_i64]; omega
 have hl5:len ≤ 5000:=by
  have:=unhide hlm
  omega
 clear hlm hat
 have HE1:=hide e1
 have HE2:=hide e2
 clear e1 e2
 go_enter Tryz.func239,Tryz.ntmps239
 go_upto_region 1 with fail
 change Code.wp _ _ _ _ (w.alloc (.cells (Hc H.fn) 57))
 generalize w.alloc (.cells (Hc H.fn) 57)=u0 at *
 have P0:=hide (unhide KP _ (unhide J0).drew)
 clear J0
 go_cut [7] (fun c wx=>∃ r,c=.slice (some ⟨r,0,none⟩) G.blk G.blk∧Hid (LJB w S g dg P G (Hc H.fn) a len V L D r ds wx))
 case first =>
  go_region_held3 (fun u=>Hid (LJ w S g dg P G (Hc H.fn) a len V L D u)∧u.cell? ⟨w.heap.size,0,none⟩=some (.int .i64 (H.seq:Int))∧u.cell? ⟨g,1,none⟩=some (.int .i64 (G.blk:Int)))
   (with_reducible (first | exact unhide P0 | exact unhide KP _ (unhide J1) | exact unhide KP _ (unhide J2).lj))
   (first
    | (go_at_call 178; refine (unhide KN _ (unhide (‹Hid (LJ w S g dg P G (Hc H.fn) a len V L D _)∧_›).1)).mono ?_; rintro e w6 ⟨rfl,X,hb⟩; have J1:Hid (LJ w S g dg P G (Hc H.fn) a len V L D w6):=LJ.below (unhide (‹Hid (LJ w S g dg P G (Hc H.fn) a len V L D _)∧_›).1) hb; clear hb)
    | (go_at_call 269; refine (unhide KD _ _ (unhide J1) (unhide X)).mono ?_; rintro e w7 ⟨r,rfl,J2⟩))
  all_goals
   go_wp2_with fail
   go_meet
   exact ⟨_,rfl,J2⟩
 case rest =>
  obtain ⟨r,rfl,J2⟩:=hcut
  clear P0 KN KD KP
  have f1:=(unhide J2).lj.box 1 _ (unhide f12).1
  have f2:=(unhide J2).lj.box 2 _ (unhide f12).2
  have d0:=(unhide J2).lj.dcell
  go_upto_region 3 with fail
  rw [hsum]
  go_cut [10] (fun c wx=>c=.int .i64 D.wE∧Hid (LJ w S g dg P G (Hc H.fn) a len V L (D.wD (G.ring at') ds) wx))
  case first =>
   go_region_with (first
    | (go_at_call 189; refine (unhide KR _ _ _ (unhide J2).lj.drew).mono ?_; rintro e u2 ⟨rfl,q,rfl⟩)
    | (go_at_call 183; refine (unhide KW _ _ ((unhide J2).drewN _)).mono ?_; rintro e u3 ⟨rfl,J3⟩))
   all_goals
    go_wp2_with fail
    go_meet
    exact ⟨rfl,J3⟩
  case rest =>
   obtain ⟨rfl,J3⟩:=hcut
   clear J2 f1 f2 d0 KW
   rcases hE with hE | hE
   ·obtain ⟨y1,y2⟩:=unhide HE2 hE
    rw [hE]
    have J4:=hide (show PJ w S g dg P G (Hc H.fn) a len V L at' rE rD 0 _ from ⟨_,unhide J3,y1.symm,y2.symm⟩)
    clear J3 HE1 HE2 y1 y2 hE
    go_wp2_with fail
    go_loopw [46] (fun i wr=>∃ k:Nat,k ≤ len∧i=.int .i64 (k:Int)∧Hid (PJ w S g dg P G (Hc H.fn) a len V L at' rE rD k wr)) (fun i _=>len - (intOf i).toNat)
    case atStart=>exact ⟨0,Nat.zero_le _,rfl,J4⟩
    case round =>
     obtain ⟨k,hk,rfl,hJ⟩:=hrel
     clear J4
     by_cases hlt:k < len
     ·obtain ⟨D',j1,j2,j3⟩:=unhide KPJ _ _ (unhide hJ) hlt
      have Z2:=hide j2
      have Z3:=hide j3
      obtain ⟨kb,off,ea,x1,x2⟩:=unhide KC _ _ _ hlt j1
      have J5:=hide (j1.below ((Below.refl _ wr).alloc (Nat.le_refl _) (.cells #[.int .i64 (wat V k).b,.slice (wat V k).da (wat V k).dl (wat V k).dc] 52)))
      have HC:=hide (Bl.new wr #[.int .i64 (wat V k).b,.slice (wat V k).da (wat V k).dl (wat V k).dc] 52)
      have s3:=unhide s2 k (by omega)
      have K1:Hid (∀ u,LJ w S g dg P G (Hc H.fn) a len V L D' u→_):=fun u hu=>unhide KB u D' k hlt hu
      clear j1 j2 j3 KB KC KPJ KPE hJ s2
      subst ea
      generalize at' + 1=a1 at *
      generalize a1 + k=a2 at *
      go_upto_region 9 with fail
      change Code.wp _ _ _ _ (wr.alloc (.cells #[.int .i64 (wat V k).b,.slice (wat V k).da (wat V k).dl (wat V k).dc] 52))
      generalize wr.alloc (.cells #[.int .i64 (wat V k).b,.slice (wat V k).da (wat V k).dl (wat V k).dc] 52)=ub at *
      generalize wr.heap.size=gb at *
      have d0:=(unhide J5).dcell
      have b1:=(unhide HC).cell 1 (.slice (wat V k).da (wat V k).dl (wat V k).dc) rfl
      clear x1 x2 HC
      go_cut [13] (fun c wx=>c=.int .i64 D'.wE∧Hid (LJ w S g dg P G (Hc H.fn) (some ⟨kb,off,none⟩) len V L (D'.wD (G.ring a2) (wat V k).z) wx))
      case first =>
       clear Z2 Z3 hl5 hk hlt hsum f12
       go_region_with (first
        | (go_at_call 189; refine (unhide KR _ _ a2 (unhide J5).drew).mono ?_; rintro e u2 ⟨rfl,q,rfl⟩)
        | (go_at_call 183; refine (unhide K1 _ ((unhide J5).drewN _)).mono ?_; rintro e u3 ⟨rfl,J6⟩))
       all_goals
        go_wp2_with fail
        go_meet
        exact ⟨rfl,J6⟩
      case rest =>
       obtain ⟨rfl,J6⟩:=hcut
       clear K1 KR J5 d0 b1 s1 s3
       rcases D'.wE_two with hE' | hE'
       ·rw [hE']
        have J7:=hide (unhide Z2 hE' _ (unhide J6))
        clear Z2 Z3 J6 hE'
        go_wp2_with fail
        go_roundw
        case rel=>exact ⟨k + 1,by omega,by go_num,J7⟩
        case measure=>simp [intOf]; omega
       ·rw [hE']
        obtain ⟨z1,z2⟩:=unhide Z3 (by omega)
        clear Z2 Z3 hE'
        go_wp2_with fail
        go_ret
        exact ⟨by rw [z1]; rfl,by rw [z2]; exact J6⟩
     ·have ek:k=len:=by omega
      rw [ek] at hJ
      obtain ⟨z1,z2⟩:=unhide KPE _ (unhide hJ)
      have Z2:=hide z2
      clear KB KC KPJ KPE hJ KR s1 s2 z2
      go_wp2_with fail
      go_ret
      exact ⟨by rw [← z1]; rfl,Z2⟩
   ·obtain ⟨y1,y2⟩:=unhide HE1 (by omega)
    rw [hE]
    clear KB KC KPJ KPE KR s1 s2 HE1 HE2 hE
    go_wp2_with fail
    go_ret
    exact ⟨by rw [y1]; rfl,by rw [y2]; exact J3⟩

end Go.Proofs.YtdfanhjnkjdngaaGreatDoor

