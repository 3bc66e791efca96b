/- Joined: WKeys, WList, WJ, WPart, WPend, WApply, WApply2, WRefl. -/
import Derived.Test.YtokngjcfkkceiaaGreatDoorInJ10
import Derived.Test.YtokngjcfkkceiaaGreatDoorInGVals
import Derived.Shelf.SlIterI.Nil
import Derived.Shelf.SlicesG.CompactI
import Derived.Test.YtokngjcfkkceiaaGreatDoorInJ36
import Derived.Test.YtokngjcfkkceiaaGreatDoorInGClone
/- slices.Sorted(maps.Keys(m)) of a map of rows, and slices.Compact of sorted numbers. -/
namespace Go.Proofs.YtokngjcfkkceiaaGreatDoor
set_option maxRecDepth 100000
set_option maxHeartbeats 8000000
open Go.RowKit Go.Shelf Go.Maps Go.Sort
set_option linter.unusedVariables false

shelf_lay_g SlLaysZI.n7 Ggz 7 at Tryz 167 as Tryz.keysL

shelf_lay_g SlLaysN.n43 Slgn 43 at Tryz 220 as Tryz.compL

theorem sortsL (m:Nat):AnyZI.SortsIn Tryz.prog Tryz.sortedL_ren Fence.wide m :=
 ⟨fun blk off cap ss W hH hblk hsz=>callsIn_wide.2 (AnyM.slices_Sort_int Tryz.sortL blk off cap ss W hH hblk hsz),
  fun p cap W=>callsIn_wide.2 (AnyM.slices_Sort_int_none Tryz.sortL p cap W)⟩

def keysI (n:Nat) (M:Nat→Option (Nat×Nat)):List Int:=(keysB n M).map (fun k:Nat=>(k:Int))

theorem intKeys_mB (n:Nat)(M:Nat→Option (Nat×Nat)):intKeys (mB n M)=keysI n M:=by
 simp[mB,intKeys,keysI,entB,List.map_map,Function.comp_def,Go.intOf]

theorem keysI_sorted {n:Nat}{M:Nat→Option (Nat×Nat)}{ss:List Int}(h:ss.Perm (intKeys (mB n M))):ss.mergeSort (fun x y=>decide (x≤y))=keysI n M:=by
 rw[intKeys_mB] at h
 refine srt_eq h ?_
 unfold keysI
 rw[List.pairwise_map]
 exact(keysB_rising n M).imp (fun {a b} h=>by omega)

theorem keys_sorted (blk mb n:Nat)(M:Nat→Option (Nat×Nat))(w:World)(h:MapB w blk mb n M)(hn:n≤4096) :
  Calls Tryz.prog 167 #[.map (some mb)] w fun e w1=>e=.returned (.func (.func 213) #[] #[.pointer (some ⟨w.heap.size,0,none⟩)]) ∧
   Hid (Calls Tryz.prog 99 #[.func (.func 213) #[] #[.pointer (some ⟨w.heap.size,0,none⟩)]] w1 fun e w2=>∃ v,e=.returned v∧Hid (Gr w.heap.size w2 v (keysI n M)∧Below w.heap.size w w2)):=by
 have hbl:=h.lt
 have hl:=keysB_len n M
 have hseq:SeqGives Fence.wide 2 Tryz.prog 213 #[.pointer (some ⟨w.heap.size,0,none⟩)] encZ (fun ss=>ss.Perm (intKeys (mB n M))) (Maps.size (mB n M)) (w.alloc (.cells #[.map (some mb)] 78)) :=
  AnyZI.keys_gives (ρ:=Tryz.keysL_ren) { Tryz.keysL with } Fence.wide _ trivial rfl (by omega) w.heap.size mb (keysB n M).length (mB n M) _ (by simp) (by simp) (by
   obtain⟨es,clock,hb,Ft,hs,hD⟩:=h
   exact⟨es,clock,(Below.heap_alloc _ _ mb hbl).trans hb,Ft,hs,hD⟩)
 have cK:CallsIn Fence.wide 5 Tryz.prog 167 #[.map (some mb)] w fun e w'=>e=.returned (.func (.func 213) #[] #[.pointer (some ⟨w.heap.size,0,none⟩)])∧w'=w.alloc (.cells #[.map (some mb)] 78):=AnyZI.keys_in Tryz.keysL Fence.wide 5 trivial rfl (some mb) w
 have cS:=AnyZI.sorted_in Tryz.sortedL Fence.wide 5 trivial trivial trivial trivial rfl (by omega) (sortsL _) (enters_of Tryz.func104 (by kernel_rfl) rfl) 213 #[.pointer (some ⟨w.heap.size,0,none⟩)] trivial (enters_of Tryz.func213 (by kernel_rfl) rfl) _ _ (by rw[mB_size];unfold maxLen;omega) (by rw[mB_size];omega) _ hseq
 change CallsIn _ _ Tryz.prog 99 _ _ _ at cS
 refine(callsIn_wide.1 cK).mono ?_
 rintro e w1 ⟨rfl,rfl⟩
 refine⟨rfl,(callsIn_wide.1 cS).mono ?_⟩
 rintro e w2 ⟨v,ss,rfl,hS,hrow,_,hb⟩
 rw[keysI_sorted hS] at hrow
 have hlen:ss.length=(keysI n M).length:=by rw[hS.length_eq,intKeys_mB]
 rw[hlen] at hrow
 exact⟨v,rfl,ownsRow_base_a hrow (by simp),((Below.refl _ w).alloc (Nat.le_refl _) _).trans (hb.mono (by simp))⟩

theorem compact_lt {zs:List Int}(h:zs.Pairwise (·≤·)):(Lib.compact zs).length<zs.length↔¬ zs.Nodup:=by
 have key:∀ j,j<zs.length→(Lib.keeps zs.toArray j=true↔∀ i,i<j→zs[i]?.getD 0≠zs[j]?.getD 0):=by
  intro j hj
  have hg:∀ k,k<zs.length→zs.toArray[k]! = zs[k]?.getD 0:=fun k hk=>by simp[hk]
  constructor
  ·intro hk i hi he
   rcases Nat.eq_zero_or_pos j with h0 | h0
   ·omega
   ·have hne:zs[j]?.getD 0≠zs[j - 1]?.getD 0:=by
     intro e
     have:=Lib.keeps_neg (d:=zs.toArray) (m:=j) h0 (by rw[hg j hj,hg (j - 1) (by omega)];exact e)
     rw[this] at hk
     cases hk
    have h1:zs[i]?.getD 0≤zs[j - 1]?.getD 0:=by
     by_cases e:i=j - 1
     ·rw[e];omega
     ·rw[List.getElem?_eq_getElem (by omega),List.getElem?_eq_getElem (by omega)]
      exact List.pairwise_iff_getElem.1 h i (j - 1) (by omega) (by omega) (by omega)
    have h2:zs[j - 1]?.getD 0≤zs[j]?.getD 0:=by
     rw[List.getElem?_eq_getElem (by omega),List.getElem?_eq_getElem (by omega)]
     exact List.pairwise_iff_getElem.1 h (j - 1) j (by omega) (by omega) (by omega)
    omega
  ·intro hall
   rcases Nat.eq_zero_or_pos j with h0 | h0
   ·subst h0;exact Lib.keeps_lt_one _ 0 (by omega)
   ·refine Lib.keeps_pos ?_
    rw[hg j hj,hg (j - 1) (by omega)]
    exact fun e=>hall (j - 1) (by omega) e.symm
 have hlen:(Lib.compact zs).length=((List.range zs.length).filter (Lib.keeps zs.toArray)).length:=by simp[Lib.compact,Lib.compactUpTo]
 rw[hlen]
 constructor
 ·intro hlt hnd
  have hall:∀ j∈List.range zs.length,Lib.keeps zs.toArray j=true:=by
   intro j hj
   have hj':j<zs.length:=by simpa using hj
   rw[key j hj']
   intro i hi e
   rw[List.getElem?_eq_getElem (by omega),List.getElem?_eq_getElem hj'] at e
   exact List.pairwise_iff_getElem.1 hnd i j (by omega) hj' hi (by simpa using e)
  rw[List.filter_eq_self.2 hall] at hlt
  simp at hlt
 ·intro hnd
  have hle:=List.length_filter_le (Lib.keeps zs.toArray) (List.range zs.length)
  rw[List.length_range] at hle
  rcases Nat.lt_or_ge ((List.range zs.length).filter (Lib.keeps zs.toArray)).length zs.length with hl | hl
  ·exact hl
  ·exfalso
   have hall:=List.length_filter_eq_length_iff.1 (show ((List.range zs.length).filter (Lib.keeps zs.toArray)).length=(List.range zs.length).length by rw[List.length_range];omega)
   refine hnd (List.pairwise_iff_getElem.2 (fun i j hi hj hij e=>?_))
   have:=(key j hj).1 (hall j (by simpa using hj)) i hij
   rw[List.getElem?_eq_getElem hi,List.getElem?_eq_getElem hj] at this
   exact this (by simpa using e)

theorem compact_any (B:Nat)(v:Value)(zs:List Int)(w:World)(h:Gr B w v zs)(hn:zs.length≤17592186044416)(hB:B≤w.heap.size) :
  Calls Tryz.prog 220 #[v] w fun e w'=>∃ a c,e=.returned (.slice a (Lib.compact zs).length c)∧Below B w w':=by
 obtain⟨h1,h2⟩:=h
 rcases h2 with ⟨rfl,h0⟩ | ⟨g,cap,cur,rfl,hg,hh,h2,h3,hc,ht⟩
 ·obtain rfl:zs=[]:=List.eq_nil_of_length_eq_zero h0
  have:=AnyG.slices_Compact_int_empty Tryz.compL none 0 w
  change Calls Tryz.prog 220 _ _ _ at this
  refine this.mono ?_
  rintro e w' ⟨rfl,rfl⟩
  exact⟨none,0,by simp[Lib.compact,Lib.compactUpTo],Below.refl _ _⟩
 ·have hH:Go.Sort.Holds (Value.int .i64) w g 0 zs.toArray:=holds_of_blockI hh (by simpa using ht)
  have:=AnyG.slices_Compact_int Tryz.compL g 0 cap zs w hH (by omega) (by simpa using h2)
  change Calls Tryz.prog 220 _ _ _ at this
  refine this.mono ?_
  rintro e w' ⟨rfl,q,rfl⟩
  refine⟨_,_,rfl,⟨rfl,rfl,rfl,by simp,fun k hk=>?_⟩⟩
  have:g≠k:=by omega
  simp[putRow,mapBlock,Sort.ahead,Array.getElem?_modify,this]

end Go.Proofs.YtokngjcfkkceiaaGreatDoor

/- Lists of writes in memory; the contracts of named and refusesBlocks. -/
namespace Go.Proofs.YtokngjcfkkceiaaGreatDoor
set_option maxRecDepth 100000
set_option maxHeartbeats 8000000
open Go.RowKit Go.Shelf Go.Maps
set_option linter.unusedVariables false

structure Wr where
 b:Int
 da:Option Addr
 dl:Nat
 dc:Nat
 z:List Int

def W0:Wr:=⟨0,none,0,0,[]⟩

def wat (V:List Wr) (j:Nat):Wr:=V[j]?.getD W0

structure WHas (u:World) (a:Option Addr) (len:Nat) (V:List Wr):Prop where
 ln:V.length=len
 cel:0<len→∃ k off,a=some ⟨k,off,none⟩∧k<u.heap.size∧∀ j,j<len→u.cell? ⟨k,off+j*2,none⟩=some (.int .i64 (wat V j).b)∧u.cell? ⟨k,off+j*2+1,none⟩=some (.slice (wat V j).da (wat V j).dl (wat V j).dc)
 row:∀ j,j<len→Row u.heap.size u (wat V j).da (wat V j).dl (wat V j).dc (wat V j).z

def WOut (S:Nat→Prop) (a:Option Addr) (len:Nat) (V:List Wr):Prop:=Out S len a∧∀ j,j<len→Out S (wat V j).dl (wat V j).da

theorem WHas.later {u u':World}{a:Option Addr}{len:Nat}{V:List Wr}(h:WHas u a len V)(hb:Below u.heap.size u u'):WHas u' a len V:=by
 refine⟨h.ln,fun hp=>?_,fun j hj=>(h.row j hj).below hb hb.size⟩
 obtain⟨k,off,e,hk,hc⟩:=h.cel hp
 exact⟨k,off,e,Nat.lt_of_lt_of_le hk hb.size,fun j hj=>⟨(hb.cell (p:=⟨k,_,none⟩) hk).trans (hc j hj).1,(hb.cell (p:=⟨k,_,none⟩) hk).trans (hc j hj).2⟩⟩

theorem cell_eq {u u':World}{k:Nat}(h:u'.heap[k]?=u.heap[k]?)(i:Nat):u'.cell? ⟨k,i,none⟩=u.cell? ⟨k,i,none⟩:=by simp only[World.cell?,h]

theorem Out.nx {S S':Nat→Prop}{w w':World}{len:Nat}{a:Option Addr}(h:Out S len a)(hx:Nx S w S' w')(hl:0<len→∀ x,a=some x→x.block<w.heap.size):Out S' len a:=fun hp x e hs=>h hp x e (hx.sub _ (hl hp x e) hs)

theorem Row.blk {n0:Nat}{w:World}{a:Option Addr}{len cap:Nat}{zs:List Int}(h:Row n0 w a len cap zs)(hp:0<len)(x:Addr)(e:a=some x):x.block<n0:=by
 obtain⟨_,_,_,_,h5⟩:=h
 obtain⟨b,off,e',hb,_⟩:=h5 hp
 rw[e] at e'
 cases e'
 exact hb

theorem WHas.nx {S S':Nat→Prop}{w w':World}{a:Option Addr}{len:Nat}{V:List Wr}(h:WHas w a len V)(hx:Nx S w S' w')(ho:WOut S a len V):WHas w' a len V∧WOut S' a len V:=by
 refine⟨⟨h.ln,fun hp=>?_,fun j hj=>(h.row j hj).nx hx (ho.2 j hj)⟩,ho.1.nx hx (fun hp x e=>?_),fun j hj=>(ho.2 j hj).nx hx (fun hp x e=>(h.row j hj).blk hp x e)⟩
 ·obtain⟨k,off,e,hk,hc⟩:=h.cel hp
  obtain⟨h1,_,h3⟩:=hx.keep hk (ho.1 hp _ e)
  exact⟨k,off,e,h3,fun j hj=>⟨(cell_eq h1 _).trans (hc j hj).1,(cell_eq h1 _).trans (hc j hj).2⟩⟩
 ·obtain⟨k,off,e',hk,_⟩:=h.cel hp
  rw[e] at e'
  cases e'
  exact hk

theorem WOut.mono {S S':Nat→Prop}{a:Option Addr}{len:Nat}{V:List Wr}(h:WOut S a len V)(hS:∀ k,S' k→S k):WOut S' a len V:=⟨fun hp x e hs=>h.1 hp x e (hS _ hs),fun j hj hp x e hs=>h.2 j hj hp x e (hS _ hs)⟩

theorem wat_map {V:List Wr}{j:Nat}(hj:j<V.length):(V.map (·.b))[j]?.getD 0=(wat V j).b:=by
 simp[wat,List.getElem?_eq_getElem hj]

def rowZ (xs:List Int) (N k:Nat):Array Value:=((xs.take k++List.replicate (N - k) 0).map (Value.int .i64)).toArray

theorem rowZ_zero (xs:List Int)(N:Nat):rowZ xs N 0=madeCells #[.int .i64 0] N:=by
 have:=rowK_zero [] N
 simpa [rowK,rowZ,takeL] using this

theorem rowZ_set {xs:List Int}{N k:Nat}(hk:k<N)(hl:xs.length=N):(rowZ xs N k).setIfInBounds k (.int .i64 (xs[k]?.getD 0))=rowZ xs N (k+1):=by
 unfold rowZ
 rw[List.setIfInBounds_toArray]
 congr 1
 have h1:(List.take k xs).length=k:=by simp;omega
 obtain⟨r,hr⟩:∃ r,N - k=r+1:=⟨N - k - 1,by omega⟩
 have hr2:N - (k+1)=r:=by omega
 rw[hr,hr2,List.replicate_succ,List.map_append,List.map_cons,List.set_append_right _ _ (by simp;omega)]
 simp only[List.length_map,h1,Nat.sub_self,List.set_cons_zero]
 rw[List.take_succ_eq_append_getElem (by omega),List.getElem?_eq_getElem (by omega)]
 simp only[List.map_append,List.map_cons,List.append_assoc,List.cons_append,List.nil_append,Option.getD_some]

theorem rowZ_cell {xs:List Int}{N k:Nat}(hk:k<N)(hl:xs.length=N):(rowZ xs N k)[k]?=some (.int .i64 0):=by
 have h1:(List.take k xs).length=k:=by simp;omega
 obtain⟨r,hr⟩:∃ r,N - k=r+1:=⟨N - k - 1,by omega⟩
 simp[rowZ,hr,List.replicate_succ,Nat.min_eq_left (show k≤xs.length by omega)]

theorem rowZ_ihas {u:World}{g N:Nat}{xs:List Int}(h:Bl u g (rowZ xs N N) 3)(hl:xs.length=N):IHas u (some ⟨g,0,none⟩) N xs:=by
 refine⟨hl,fun _=>⟨g,0,rfl,fun j hj=>?_⟩⟩
 rw[Nat.zero_add]
 refine h.cell j _ ?_
 simp[rowZ,List.take_of_length_le (show xs.length≤N by omega),List.getElem?_eq_getElem (show j<xs.length by omega)]

structure NmJ (w:World) (xs:List Int) (N k:Nat) (u:World):Prop where
 bel:Below w.heap.size w u
 row:Bl u w.heap.size (rowZ xs N k) 3

theorem NmJ.step {w u:World}{xs:List Int}{N k:Nat}(h:NmJ w xs N k u)(hk:k<N)(hl:xs.length=N)(o:Obj):NmJ w xs N (k+1) ((u.alloc o).setCell ⟨w.heap.size,k,none⟩ (.int .i64 (xs[k]?.getD 0))):=by
 refine⟨(h.bel.alloc h.bel.size o).setCell (p:=⟨w.heap.size,k,none⟩) (Nat.le_refl _) _,?_⟩
 have:=(h.row.alloc o).set k (.int .i64 (xs[k]?.getD 0))
 rwa [rowZ_set hk hl] at this

theorem named_any (a:Option Addr)(len cap:Nat)(V:List Wr)(w:World)(h:WHas w a len V)(hl:len≤4398046511104) :
  Calls Tryz.prog 210 #[.slice a len cap] w fun e w'=>e=.returned (.slice (some ⟨w.heap.size,0,none⟩) len len)∧Hid (IHas w' (some ⟨w.heap.size,0,none⟩) len (V.map (·.b)))∧Below w.heap.size w w':=by
 have hmk:=run_make_row' (P:=Tryz.prog) 22 3 (.int .i64 0) 8 Tryz.underlying22 info3 rfl .i64 .i64 len (by omega) (by omega)
 have hV:(V.map (·.b)).length=len:=by simp[h.ln]
 have J0:Hid (NmJ w (V.map (·.b)) len 0 (w.alloc (.cells (madeCells #[.int .i64 0] len) 3))):=⟨(Below.refl _ w).alloc (Nat.le_refl _) _,by rw[rowZ_zero];exact Bl.new w _ 3⟩
 have KC:Hid (∀ u k,k<len→NmJ w (V.map (·.b)) len k u→∃ kb off da dl dc,a=some ⟨kb,off,none⟩∧u.cell? ⟨kb,off+k*2,none⟩=some (.int .i64 ((V.map (·.b))[k]?.getD 0))∧u.cell? ⟨kb,off+k*2+1,none⟩=some (.slice da dl dc)):=by
  intro u k hk hj
  obtain⟨kb,off,e,hkb,hc⟩:=h.cel (by omega)
  refine⟨kb,off,_,_,_,e,?_,(hj.bel.cell (p:=⟨kb,_,none⟩) hkb).trans (hc k hk).2⟩
  rw[wat_map (by rw[h.ln];exact hk)]
  exact(hj.bel.cell (p:=⟨kb,_,none⟩) hkb).trans (hc k hk).1
 have HV:=hide hV
 generalize V.map (·.b)=xs at *
 clear h hV
 go_enter Tryz.func210,Tryz.ntmps210
 go_wp2_with fail
 generalize w.alloc (.cells (madeCells #[.int .i64 0] len) 3)=w0 at *
 go_loopw [11] (fun i wr=>∃ k:Nat,k≤len∧i=.int .i64 (k:Int)∧Hid (NmJ w xs len k wr)) (fun i _=>len - (intOf i).toNat)
 case atStart=>exact⟨0,Nat.zero_le _,rfl,J0⟩
 case round =>
  obtain⟨k,hk,rfl,hJ⟩:=hrel
  clear J0
  by_cases hlt:k<len
  ·obtain⟨kb,off,da,dl,dc,rfl,x1,x2⟩:=unhide KC wr k hlt (unhide hJ)
   have x3:=((unhide hJ).row.alloc (.cells #[.int .i64 (xs[k]?.getD 0),.slice da dl dc] 171)).cell k _ (rowZ_cell hlt (unhide HV))
   have x4:=((unhide hJ).row.alloc (.cells #[.int .i64 (xs[k]?.getD 0),.slice da dl dc] 171)).free k
   have J2:=hide ((unhide hJ).step hlt (unhide HV) (.cells #[.int .i64 (xs[k]?.getD 0),.slice da dl dc] 171))
   clear KC hJ
   generalize xs[k]?.getD 0=z at *
   go_wp2_with fail
   go_roundw
   case rel=>exact⟨k+1,by omega,by go_num,J2⟩
   case measure=>simp[intOf];omega
  ·obtain rfl:k=len:=by omega
   have X1:=hide (rowZ_ihas (unhide hJ).row (unhide HV))
   have X2:=hide (unhide hJ).bel
   clear hJ KC
   go_wp2_with fail
   go_ret
   exact⟨rfl,X1,unhide X2⟩

theorem srt_nodup (zs:List Int):(srt zs).Nodup↔zs.Nodup:=(srt_perm zs).nodup_iff

theorem srt_le (zs:List Int):(srt zs).Pairwise (·≤·):=(srt_rising zs).imp (fun h=>by simpa using h)

def cmpN (ns:List Int):Nat:=(Lib.compact (srt ns)).length

theorem cmpN_lt (ns:List Int):cmpN ns<ns.length↔¬ ns.Nodup:=by
 have:=compact_lt (srt_le ns)
 rw[srt_nodup,srt_len] at this
 exact this

theorem rb_chain (a:Option Addr)(cap:Nat)(ns:List Int)(w u:World)(hu:Below w.heap.size w u)(hI:IHas w a ns.length ns)(hl:ns.length≤4398046511104) :
  Calls Tryz.prog 208 #[.slice a ns.length cap] u fun e w1=>e=.returned (.func (.func 232) #[] #[.pointer (some ⟨u.heap.size,0,none⟩)]) ∧
   Hid (Calls Tryz.prog 99 #[.func (.func 232) #[] #[.pointer (some ⟨u.heap.size,0,none⟩)]] w1 fun e w2=>∃ v,e=.returned v ∧
    Hid (Calls Tryz.prog 220 #[v] w2 fun e w3=>∃ a c,e=.returned (.slice a (cmpN ns) c)∧Hid (Below w.heap.size w w3))):=by
 refine(values_sorted a cap ns (by omega) u (hI.later hu)).mono ?_
 rintro e w1 ⟨rfl,K⟩
 refine⟨rfl,(unhide K).mono ?_⟩
 rintro e w2 ⟨v,rfl,X⟩
 obtain⟨g2,b2⟩:=unhide X
 refine⟨v,rfl,(compact_any u.heap.size v (srt ns) w2 g2 (by rw[srt_len];omega) b2.size).mono ?_⟩
 rintro e w3 ⟨a',c',rfl,b3⟩
 exact⟨a',c',rfl,hu.trans ((b2.trans b3).mono hu.size)⟩

theorem refusesBlocks_any (P:Nat→Int)(G:Geo)(hP:PG P G)(a:Option Addr)(len cap:Nat)(ns:List Int)(w:World)(hI:IHas w a len ns)(hl:len≤4398046511104) :
  Calls Tryz.prog 181 #[Pv P,.slice a len cap] w fun e w'=>e=.returned (.int .i64 (blkE G ns))∧Below w.heap.size w w':=by
 have hlen:=hI.1
 have KC:Hid (∀ u k,k<len→Below w.heap.size w u→∃ kb off,a=some ⟨kb,off,none⟩∧u.cell? ⟨kb,off+k,none⟩=some (.int .i64 (ns[k]?.getD 0))):=by
  intro u k hk hb
  obtain⟨kb,off,e,hc⟩:=hI.2 (by omega)
  exact⟨kb,off,e,(hb.cell (p:=⟨kb,_,none⟩) (cell_block_lt (hc k hk))).trans (hc k hk)⟩
 have KV:Hid (∀ u,Below w.heap.size w u→Calls Tryz.prog 208 #[.slice a len cap] u fun e w1=>e=.returned (.func (.func 232) #[] #[.pointer (some ⟨u.heap.size,0,none⟩)]) ∧
   Hid (Calls Tryz.prog 99 #[.func (.func 232) #[] #[.pointer (some ⟨u.heap.size,0,none⟩)]] w1 fun e w2=>∃ v,e=.returned v ∧
    Hid (Calls Tryz.prog 220 #[v] w2 fun e w3=>∃ a c,e=.returned (.slice a (cmpN ns) c)∧Hid (Below w.heap.size w w3)))):=by
  intro u hu
  rw[← hlen] at hl hI ⊢
  exact rb_chain a cap ns w u hu hI hl
 have hin:∀ z,(decide ((G.ib:Int)≤z∧z<G.n)=true)↔(P 5≤z∧z<P 1):=fun z=>by rw[hP.p5,hP.p1];simp
 have KN:Hid ((¬ ns.Nodup→(cmpN ns:Int)<len)∧(ns.Nodup→¬ (cmpN ns:Int)<len)):=by
  have:=cmpN_lt ns
  rw[hlen] at this
  exact⟨fun h=>by have:=this.2 h;omega,fun h hlt=>(this.1 (by omega)) h⟩
 have HK:=hide (Kp.start w P)
 have hJ:Hid (ns.length=len):=hlen
 clear hI hlen hP
 generalize cmpN ns=cn at *
 by_cases hall:∀ z∈ns,P 5≤z∧z<P 1
 ·have hE:blkE G ns=if ns.Nodup then 0 else 3:=by
   unfold blkE
   rw[if_pos (List.all_eq_true.2 (fun z hz=>(hin z).2 (hall z hz)))]
  rw[hE]
  have KR:Hid (∀ k,k<len→P 5≤ns[k]?.getD 0∧ns[k]?.getD 0<P 1):=fun k hk=>hall _ (by rw[List.getElem?_eq_getElem (by rw[unhide hJ];exact hk)];exact List.getElem_mem _)
  clear hE hall hin
  by_cases hnd:ns.Nodup
  ·rw[if_pos hnd]
   have hcn:=(unhide KN).2 hnd
   clear hnd KN
   go_enter Tryz.func181,Tryz.ntmps181
   go_wp2_with fail
   obtain⟨f0,f1,f2,f3,f4,f5,f6,f7,f8,f9,f10,f11⟩:=(unhide HK).cells
   clear f0 f2 f3 f4 f6 f7 f8 f9 f10 f11
   generalize w.alloc (.cells (Pc P) 25)=w0 at *
   go_loop [10] (fun i=>∃ k:Nat,k≤len∧i=.int .i64 (k:Int)) (fun i=>len - (intOf i).toNat)
   case atStart=>exact⟨0,Nat.zero_le _,rfl⟩
   case round =>
    obtain⟨k,hk,rfl⟩:=hrel
    by_cases hlt:k<len
    ·obtain⟨kb,off,rfl,x1⟩:=unhide KC w0 k hlt (unhide HK).2
     obtain⟨r1,r2⟩:=unhide KR k hlt
     clear KC KR KV
     generalize ns[k]?.getD 0=z at *
     go_wp2_with fail
     go_round
     case rel=>exact⟨k+1,by omega,by go_num⟩
     case measure=>simp[intOf];omega
    ·clear KC KR
     have K1:=hide (unhide KV w0 (unhide HK).2)
     clear KV
     go_wp2_with fail
     go_at_call 208
     refine(unhide K1).mono ?_
     rintro e w1 ⟨rfl,K2⟩
     clear K1
     go_wp2_with fail
     go_at_call 99
     refine(unhide K2).mono ?_
     rintro e w2 ⟨v,rfl,K3⟩
     clear K2
     go_wp2_with fail
     go_at_call 220
     refine(unhide K3).mono ?_
     rintro e w3 ⟨a3,c3,rfl,X⟩
     clear K3
     go_wp2_with fail
     go_ret
     exact⟨rfl,unhide X⟩
  ·rw[if_neg hnd]
   have hcn:=(unhide KN).1 hnd
   clear hnd KN
   go_enter Tryz.func181,Tryz.ntmps181
   go_wp2_with fail
   obtain⟨f0,f1,f2,f3,f4,f5,f6,f7,f8,f9,f10,f11⟩:=(unhide HK).cells
   clear f0 f2 f3 f4 f6 f7 f8 f9 f10 f11
   generalize w.alloc (.cells (Pc P) 25)=w0 at *
   go_loop [10] (fun i=>∃ k:Nat,k≤len∧i=.int .i64 (k:Int)) (fun i=>len - (intOf i).toNat)
   case atStart=>exact⟨0,Nat.zero_le _,rfl⟩
   case round =>
    obtain⟨k,hk,rfl⟩:=hrel
    by_cases hlt:k<len
    ·obtain⟨kb,off,rfl,x1⟩:=unhide KC w0 k hlt (unhide HK).2
     obtain⟨r1,r2⟩:=unhide KR k hlt
     clear KC KR KV
     generalize ns[k]?.getD 0=z at *
     go_wp2_with fail
     go_round
     case rel=>exact⟨k+1,by omega,by go_num⟩
     case measure=>simp[intOf];omega
    ·clear KC KR
     have K1:=hide (unhide KV w0 (unhide HK).2)
     clear KV
     go_wp2_with fail
     go_at_call 208
     refine(unhide K1).mono ?_
     rintro e w1 ⟨rfl,K2⟩
     clear K1
     go_wp2_with fail
     go_at_call 99
     refine(unhide K2).mono ?_
     rintro e w2 ⟨v,rfl,K3⟩
     clear K2
     go_wp2_with fail
     go_at_call 220
     refine(unhide K3).mono ?_
     rintro e w3 ⟨a3,c3,rfl,X⟩
     clear K3
     go_wp2_with fail
     go_ret
     exact⟨rfl,unhide X⟩
 ·have hE:blkE G ns=2:=by
   unfold blkE
   rw[if_neg]
   intro h
   exact hall (fun z hz=>(hin z).1 (List.all_eq_true.1 h z hz))
  rw[hE]
  have KR:Hid (¬ ∀ k,k<len→P 5≤ns[k]?.getD 0∧ns[k]?.getD 0<P 1):=fun h=>hall (fun z hz=>by
   obtain⟨j,hj,rfl⟩:=List.getElem_of_mem hz
   have:=h j (by rw[← unhide hJ];exact hj)
   rwa [List.getElem?_eq_getElem hj] at this)
  clear hE hall hin KN KV
  go_enter Tryz.func181,Tryz.ntmps181
  go_wp2_with fail
  obtain⟨f0,f1,f2,f3,f4,f5,f6,f7,f8,f9,f10,f11⟩:=(unhide HK).cells
  clear f0 f2 f3 f4 f6 f7 f8 f9 f10 f11
  generalize w.alloc (.cells (Pc P) 25)=w0 at *
  go_loop [10] (fun i=>∃ k:Nat,k≤len∧i=.int .i64 (k:Int)∧Hid (∀ j,j<k→P 5≤ns[j]?.getD 0∧ns[j]?.getD 0<P 1)) (fun i=>len - (intOf i).toNat)
  case atStart=>exact⟨0,Nat.zero_le _,rfl,fun j hj=>absurd hj (by omega)⟩
  case round =>
   obtain⟨k,hk,rfl,hR⟩:=hrel
   by_cases hlt:k<len
   ·obtain⟨kb,off,rfl,x1⟩:=unhide KC w0 k hlt (unhide HK).2
    by_cases r1:P 5≤ns[k]?.getD 0
    ·by_cases r2:ns[k]?.getD 0<P 1
     ·have hR2:Hid (∀ j,j<k+1→P 5≤ns[j]?.getD 0∧ns[j]?.getD 0<P 1):=fun j hj=>by
       by_cases e:j=k
       ·rw[e];exact⟨r1,r2⟩
       ·exact unhide hR j (by omega)
      clear KC KR hR
      generalize ns[k]?.getD 0=z at *
      go_wp2_with fail
      go_round
      case rel=>exact⟨k+1,by omega,by go_num,hR2⟩
      case measure=>simp[intOf];omega
     ·clear KC KR hR
      generalize ns[k]?.getD 0=z at *
      go_wp2_with fail
      go_ret
      exact⟨rfl,(unhide HK).2⟩
    ·clear KC KR hR
     generalize ns[k]?.getD 0=z at *
     go_wp2_with fail
     go_ret
     exact⟨rfl,(unhide HK).2⟩
   ·exfalso
    obtain rfl:k=len:=by omega
    exact unhide KR (unhide hR)

def LJ (w:World) (S:Nat→Prop) (g dg:Nat) (P:Nat→Int) (G:Geo) (cs:Array Value) (a:Option Addr) (len:Nat) (V:List Wr) (L:Lg) (D:Dev) (u:World):Prop :=
 ∃ Su Sl Sd m,LvM u Su Sl Sd g dg P G L D m∧Nx S w Su u∧(∀ k v,cs[k]?=some v→u.cell? ⟨w.heap.size,k,none⟩=some v)∧¬ Su w.heap.size∧w.heap.size<u.heap.size∧WHas u a len V∧WOut Su a len V

theorem WHas.none (u:World):WHas u Option.none 0 []:=⟨rfl,fun h=>absurd h (by omega),fun j h=>absurd h (by omega)⟩

theorem WOut.none (S:Nat→Prop):WOut S Option.none 0 []:=⟨fun h=>absurd h (by omega),fun j h=>absurd h (by omega)⟩

theorem LJ.start {w:World}{S:Nat→Prop}{g dg:Nat}{P:Nat→Int}{G:Geo}{a:Option Addr}{len:Nat}{V:List Wr}{L:Lg}{D:Dev}(h:Lv w S g dg P G L D)(cs:Array Value)(t:TypeId)(hV:WHas w a len V)(hO:WOut S a len V):LJ w S g dg P G cs a len V L D (w.alloc (.cells cs t)):=by
 obtain⟨Sl,Sd,m,h⟩:=h
 have hb:Below w.heap.size w (w.alloc (.cells cs t)):=(Below.refl _ w).alloc (Nat.le_refl _) _
 exact⟨S,Sl,Sd,m,h.below hb,(Nx.refl S w).below' hb,fun k v hk=>(cell_new w cs t _ k).trans hk,fun hs=>by have:=h.lt hs;omega,by simp,hV.later hb,hO⟩

theorem LJ.below {w:World}{S:Nat→Prop}{g dg:Nat}{P:Nat→Int}{G:Geo}{cs:Array Value}{a:Option Addr}{len:Nat}{V:List Wr}{L:Lg}{D:Dev}{u:World}(h:LJ w S g dg P G cs a len V L D u){u':World}(hb:Below u.heap.size u u'):LJ w S g dg P G cs a len V L D u':=by
 obtain⟨Su,Sl,Sd,m,h1,h2,h3,h4,h5,h6,h7⟩:=h
 exact⟨Su,Sl,Sd,m,h1.below hb,h2.below' hb,fun k v hk=>(hb.cell (p:=⟨w.heap.size,k,none⟩) h5).trans (h3 k v hk),h4,Nat.lt_of_lt_of_le h5 hb.size,h6.later hb,h7⟩

theorem LJ.drew {w:World}{S:Nat→Prop}{g dg:Nat}{P:Nat→Int}{G:Geo}{cs:Array Value}{a:Option Addr}{len:Nat}{V:List Wr}{L:Lg}{D:Dev}{u:World}(h:LJ w S g dg P G cs a len V L D u):LJ w S g dg P G cs a len V L D u.drew:=h.below ((Below.refl _ u).drew)

theorem LJ.drewN {w:World}{S:Nat→Prop}{g dg:Nat}{P:Nat→Int}{G:Geo}{cs:Array Value}{a:Option Addr}{len:Nat}{V:List Wr}{L:Lg}{D:Dev}{u:World}(h:LJ w S g dg P G cs a len V L D u)(n:Nat):LJ w S g dg P G cs a len V L D (u.drewN n):=h.below (below_drewN (Below.refl _ u) n)

theorem LJ.step {w:World}{S:Nat→Prop}{g dg:Nat}{P:Nat→Int}{G:Geo}{cs:Array Value}{a:Option Addr}{len:Nat}{V:List Wr}{L:Lg}{D:Dev}{u:World}(h:LJ w S g dg P G cs a len V L D u):∃ Sd,Dv u Sd dg D∧¬ Sd 0∧Tab u∧D.blk=G.blk∧D.n=G.n∧WHas u a len V∧WOut Sd a len V∧G.Ok ∧
  ∀ u' Sd' D',Dv u' Sd' dg D'→Nx Sd u Sd' u'→(D'.n=D.n∧D'.blk=D.blk)→LJ w S g dg P G cs a len V L D' u':=by
 obtain⟨Su,Sl,Sd,m,h1,h2,h3,h4,h5,h6,h7⟩:=h
 refine⟨Sd,h1.dd,fun hs=>h1.z0 ((h1.all 0).2 (.inr hs)),h1.tab,h1.bd,h1.nd,h6,h7.mono (fun k hk=>(h1.all k).2 (.inr hk)),h1.ll.pg.ok,fun u' Sd' D' hd hx he=>?_⟩
 obtain⟨y1,y2⟩:=h1.dev hd hx he
 obtain⟨z1,z2⟩:=h6.nx y2 h7
 obtain⟨k1,k2,k3⟩:=y2.keep h5 h4
 exact⟨_,Sl,Sd',m,y1,h2.trans y2,fun k v hk=>(cell_eq k1 k).trans (h3 k v hk),k2,k3,z1,z2⟩

theorem LJ.lg {w:World}{S:Nat→Prop}{g dg:Nat}{P:Nat→Int}{G:Geo}{cs:Array Value}{a:Option Addr}{len:Nat}{V:List Wr}{L:Lg}{D:Dev}{u:World}(h:LJ w S g dg P G cs a len V L D u):∃ Sl m,LgM u Sl g dg P G L m:=by
 obtain⟨Su,Sl,Sd,m,h1,_⟩:=h
 exact⟨Sl,m,h1.ll⟩

theorem LJ.box {w:World}{S:Nat→Prop}{g dg:Nat}{P:Nat→Int}{G:Geo}{cs:Array Value}{a:Option Addr}{len:Nat}{V:List Wr}{L:Lg}{D:Dev}{u:World}(h:LJ w S g dg P G cs a len V L D u)(k:Nat)(v:Value)(hk:cs[k]?=some v):u.cell? ⟨w.heap.size,k,none⟩=some v:=by
 obtain⟨_,_,_,_,_,_,h3,_⟩:=h
 exact h3 k v hk

theorem LJ.dcell {w:World}{S:Nat→Prop}{g dg:Nat}{P:Nat→Int}{G:Geo}{cs:Array Value}{a:Option Addr}{len:Nat}{V:List Wr}{L:Lg}{D:Dev}{u:World}(h:LJ w S g dg P G cs a len V L D u):u.cell? ⟨g,0,none⟩=some (.pointer (some ⟨dg,0,none⟩)):=by
 obtain⟨Sl,m,h⟩:=h.lg
 exact h.cells.1

theorem LJ.fin {w:World}{S:Nat→Prop}{g dg:Nat}{P:Nat→Int}{G:Geo}{cs:Array Value}{a:Option Addr}{len:Nat}{V:List Wr}{L:Lg}{D:Dev}{u:World}(h:LJ w S g dg P G cs a len V L D u):∃ S',Lv u S' g dg P G L D∧Nx S w S' u:=by
 obtain⟨Su,Sl,Sd,m,h1,h2,_⟩:=h
 exact⟨Su,h1.lv,h2⟩

theorem LJ.fin2 {w:World}{S:Nat→Prop}{g dg:Nat}{P:Nat→Int}{G:Geo}{cs:Array Value}{a:Option Addr}{len:Nat}{V:List Wr}{L:Lg}{D:Dev}{u:World}(h:LJ w S g dg P G cs a len V L D u):∃ S',Lv u S' g dg P G L D∧Nx S w S' u∧WHas u a len V∧WOut S' a len V:=by
 obtain⟨Su,Sl,Sd,m,h1,h2,_,_,_,h6,h7⟩:=h
 exact⟨Su,h1.lv,h2,h6,h7⟩

theorem LJ.own {w:World}{S:Nat→Prop}{g dg:Nat}{P:Nat→Int}{G:Geo}{cs:Array Value}{a:Option Addr}{len:Nat}{V:List Wr}{L:Lg}{D:Dev}{u:World}(h:LJ w S g dg P G cs a len V L D u):∃ Sl m,LgM u Sl g dg P G L m∧∀ u' Sl' L' m',LgM u' Sl' g dg P G L' m'→Nx Sl u Sl' u'→LJ w S g dg P G cs a len V L' D u':=by
 obtain⟨Su,Sl,Sd,m,h1,h2,h3,h4,h5,h6,h7⟩:=h
 refine⟨Sl,m,h1.ll,fun u' Sl' L' m' hl hx=>?_⟩
 obtain⟨y1,y2⟩:=h1.own hl hx
 obtain⟨z1,z2⟩:=h6.nx y2 h7
 obtain⟨k1,k2,k3⟩:=y2.keep h5 h4
 exact⟨_,Sl',Sd,m',y1,h2.trans y2,fun k v hk=>(cell_eq k1 k).trans (h3 k v hk),k2,k3,z1,z2⟩

theorem lj_flush {w:World}{S:Nat→Prop}{g dg:Nat}{P:Nat→Int}{G:Geo}{cs:Array Value}{a:Option Addr}{len:Nat}{V:List Wr}{L:Lg}{D:Dev}{u:World}(h:LJ w S g dg P G cs a len V L D u) :
  Calls Tryz.prog 107 #[.pointer (some ⟨dg,0,none⟩)] u fun e u'=>e=.returned (.int .i64 D.wE)∧Hid (LJ w S g dg P G cs a len V L D.fD u'):=by
 obtain⟨Sd,d1,_,_,_,_,_,_,_,d5⟩:=h.step
 refine(flush_any dg Sd D u d1).mono ?_
 rintro e u' ⟨rfl,x1,x2⟩
 exact⟨rfl,d5 _ _ _ x1 x2 (Stp.ap_n .f D)⟩

theorem lj_head {w:World}{S:Nat→Prop}{g dg:Nat}{P:Nat→Int}{G:Geo}{cs:Array Value}{a:Option Addr}{len:Nat}{V:List Wr}{L:Lg}{D:Dev}{u:World}(h:LJ w S g dg P G cs a len V L D u)(H:Hd)(hH:H.Ok G) :
  Calls Tryz.prog 71 #[.pointer (some ⟨dg,0,none⟩),Hv H.fn] u fun e u'=>e=.returned (.int .i64 (runE (whS G H) D))∧Hid (LJ w S g dg P G cs a len V L (runD (whS G H) D) u'):=by
 obtain⟨Sd,d1,d2,d3,d4,d5,_,_,d8,d9⟩:=h.step
 refine(writeHeader_any dg Sd D G H u d1 d8 d4 d5 hH d3 d2).mono ?_
 rintro e u' ⟨rfl,S',x1,x2⟩
 exact⟨rfl,d9 _ _ _ x1 x2 (runD_n _ D)⟩

theorem stlE_no {G:Geo}{H:Hd}{D:Dev}(h:D.wE≠0):runE (stlS G H) D=7∧runD (stlS G H) D=D.fD:=⟨runE_no h,runD_no h⟩

theorem stlE_ok {G:Geo}{H:Hd}{D:Dev}(h:D.wE=0):runE (stlS G H) D=runE (whS G H) D.fD∧runD (stlS G H) D=runD (whS G H) D.fD:=⟨runE_ok h,runD_ok h⟩

theorem settle_lj (g dg:Nat)(S:Nat→Prop)(P:Nat→Int)(G:Geo)(L:Lg)(D:Dev)(H:Hd)(hH:H.Ok G)(w:World)(h:Lv w S g dg P G L D)(a:Option Addr)(len:Nat)(V:List Wr)(hV:WHas w a len V)(hO:WOut S a len V) :
  Calls Tryz.prog 212 #[.pointer (some ⟨g,0,none⟩),Hv H.fn] w fun e w'=>e=.returned (.int .i64 (runE (stlS G H) D)) ∧
   Hid (LJ w S g dg P G (Hc H.fn) a len V (if runE (stlS G H) D=0 then { L with h:=H } else L) (runD (stlS G H) D) w'):=by
 have J0:=hide (LJ.start h (Hc H.fn) 81 hV hO)
 have K1:Hid (∀ u D,LJ w S g dg P G (Hc H.fn) a len V L D u→_):=fun u D hu=>lj_flush hu
 have K2:Hid (∀ u D,LJ w S g dg P G (Hc H.fn) a len V L D u→_):=fun u D hu=>lj_head hu H hH
 have K3:Hid (∀ u D,LJ w S g dg P G (Hc H.fn) a len V L D u→u.cell? ⟨g,13,none⟩=some (.int .i64 (L.h.seq:Int))∧u.cell? ⟨g,14,none⟩=some (.int .i64 (L.h.tail:Int))∧u.cell? ⟨g,15,none⟩=some (.int .i64 (L.h.used:Int))∧(∀ k,u.frozen? ⟨g,k,none⟩=false) ∧
   Hid (LJ w S g dg P G (Hc H.fn) a len V { L with h:=H } D (((u.setCell ⟨g,13,none⟩ (.int .i64 (H.seq:Int))).setCell ⟨g,14,none⟩ (.int .i64 (H.tail:Int))).setCell ⟨g,15,none⟩ (.int .i64 (H.used:Int))))):=by
  intro u D hu
  obtain⟨Sl,m,l1,l2⟩:=hu.own
  obtain⟨_,_,c3,c4,c5,_,_,fr⟩:=l1.cells
  refine⟨c3,c4,c5,fr,l2 _ _ _ _ (l1.head H hH) ?_⟩
  have n1:Nx Sl u Sl (u.setCell ⟨g,13,none⟩ (.int .i64 (H.seq:Int))):=Nx.set (p:=⟨g,13,none⟩) l1.sg _
  have n2:Nx Sl (u.setCell ⟨g,13,none⟩ (.int .i64 (H.seq:Int))) Sl ((u.setCell ⟨g,13,none⟩ (.int .i64 (H.seq:Int))).setCell ⟨g,14,none⟩ (.int .i64 (H.tail:Int))):=Nx.set (p:=⟨g,14,none⟩) l1.sg _
  exact(n1.trans n2).trans (Nx.set (p:=⟨g,15,none⟩) l1.sg _)
 have hE:=D.wE_two
 have hE2:=runE_two (whS G H) D.fD
 clear h hV hO hH
 rcases hE with hE | hE
 ·obtain⟨s1,s2⟩:=stlE_ok (G:=G) (H:=H) hE
  rw[s1,s2]
  rcases hE2 with hE2 | hE2
  ·rw[hE2,if_pos rfl]
   go_enter Tryz.func212,Tryz.ntmps212
   go_upto_region 1 with fail
   change Code.wp _ _ _ _ (w.alloc (.cells (Hc H.fn) 81))
   generalize w.alloc (.cells (Hc H.fn) 81)=u0 at *
   have d0:=(unhide J0).dcell
   go_wp2_with fail
   go_at_call 107
   refine(unhide K1 _ _ (unhide J0)).mono ?_
   rintro e u1 ⟨rfl,J1⟩
   rw[hE]
   clear J0 d0 K1
   have d0:=(unhide J1).dcell
   have f0:=(unhide J1).box 0 _ rfl
   have f1:=(unhide J1).box 1 _ rfl
   have f2:=(unhide J1).box 2 _ rfl
   go_upto_region 4 with fail
   go_cut [6] (fun c wx=>c=.int .i64 0∧Hid (LJ w S g dg P G (Hc H.fn) a len V L (runD (whS G H) D.fD) wx))
   case first =>
    go_region_with (go_at_call 71;refine(unhide K2 _ _ (unhide J1).drew).mono ?_;rintro e u2 ⟨rfl,J2⟩;rw[hE2])
    all_goals
     go_wp2_with fail
     go_meet
     exact⟨rfl,J2⟩
   case rest =>
    obtain⟨rfl,J2⟩:=hcut
    clear J1 d0 f0 f1 f2 K2
    have f0:=(unhide J2).box 0 (.int .i64 (H.seq:Int)) rfl
    have f1:=(unhide J2).box 1 (.int .i64 (H.tail:Int)) rfl
    have f2:=(unhide J2).box 2 (.int .i64 (H.used:Int)) rfl
    obtain⟨c3,c4,c5,fr,J3⟩:=unhide K3 _ _ (unhide J2)
    clear K3 J2
    go_wp2_with fail
    go_ret
    exact⟨rfl,J3⟩
  ·rw[hE2,if_neg (by decide)]
   go_enter Tryz.func212,Tryz.ntmps212
   go_upto_region 1 with fail
   change Code.wp _ _ _ _ (w.alloc (.cells (Hc H.fn) 81))
   generalize w.alloc (.cells (Hc H.fn) 81)=u0 at *
   have d0:=(unhide J0).dcell
   go_wp2_with fail
   go_at_call 107
   refine(unhide K1 _ _ (unhide J0)).mono ?_
   rintro e u1 ⟨rfl,J1⟩
   rw[hE]
   clear J0 d0 K1
   have d0:=(unhide J1).dcell
   have f0:=(unhide J1).box 0 _ rfl
   have f1:=(unhide J1).box 1 _ rfl
   have f2:=(unhide J1).box 2 _ rfl
   go_upto_region 4 with fail
   go_cut [6] (fun c wx=>c=.int .i64 7∧Hid (LJ w S g dg P G (Hc H.fn) a len V L (runD (whS G H) D.fD) wx))
   case first =>
    go_region_with (go_at_call 71;refine(unhide K2 _ _ (unhide J1).drew).mono ?_;rintro e u2 ⟨rfl,J2⟩;rw[hE2])
    all_goals
     go_wp2_with fail
     go_meet
     exact⟨rfl,J2⟩
   case rest =>
    obtain⟨rfl,J2⟩:=hcut
    clear J1 d0 f0 f1 f2 K2 K3
    go_wp2_with fail
    go_ret
    exact⟨rfl,J2⟩
 ·obtain⟨s1,s2⟩:=stlE_no (G:=G) (H:=H) (D:=D) (by omega)
  rw[s1,s2,if_neg (by decide)]
  go_enter Tryz.func212,Tryz.ntmps212
  go_upto_region 1 with fail
  change Code.wp _ _ _ _ (w.alloc (.cells (Hc H.fn) 81))
  generalize w.alloc (.cells (Hc H.fn) 81)=u0 at *
  have d0:=(unhide J0).dcell
  go_wp2_with fail
  go_at_call 107
  refine(unhide K1 _ _ (unhide J0)).mono ?_
  rintro e u1 ⟨rfl,J1⟩
  rw[hE]
  clear J0 d0 K1 K2 K3
  go_wp2_with fail
  go_ret
  exact⟨rfl,J1⟩

def hd1:Hd:=⟨1,0,0⟩

theorem hd1_ok {G:Geo}(h:G.Ok):hd1.Ok G:=by
 have h1:=h.l1
 exact⟨by show 1≤4294967295;omega,by show 0<G.lg;omega,Nat.zero_le _⟩

theorem format_any (P:Nat→Int)(G:Geo)(dg:Nat)(S:Nat→Prop)(D:Dev)(w:World)(hP:PG P G)(hD:Dv w S dg D)(bd:D.blk=G.blk)(nd:D.n=G.n)(hT:Tab w)(h0:¬ S 0) :
  Calls Tryz.prog 26 #[.pointer (some ⟨dg,0,none⟩),Pv P] w fun e w'=>e=.returned (.int .i64 (runE (whS G hd1) D))∧∃ S',Dv w' S' dg (runD (whS G hd1) D)∧Nx S w S' w':=by
 have K:Hid (∀ u,Below w.heap.size w u→Calls Tryz.prog 70 #[.pointer (some ⟨dg,0,none⟩),Pv P] u fun e w'=>e=.returned (.int .i64 0)∧Below u.heap.size u w'):=fun u hu=>refuses_good P G dg S D u hP (hD.below hu) bd nd
 have K2:Hid (∀ u,Below w.heap.size w u→Calls Tryz.prog 71 #[.pointer (some ⟨dg,0,none⟩),.agg #[.int .i64 1,.int .i64 0,.int .i64 0]] u fun e w'=>e=.returned (.int .i64 (runE (whS G hd1) D))∧Hid (∃ S',Dv w' S' dg (runD (whS G hd1) D)∧Nx S w S' w')):=fun u hu=>by
  refine(writeHeader_any dg S D G hd1 u (hD.below hu) hP.ok bd nd (hd1_ok hP.ok) (hT.kept (hu.block 0 hT.lt)) h0).mono ?_
  rintro e w' ⟨rfl,S',x1,x2⟩
  exact⟨rfl,S',x1,((Nx.refl S w).below' hu).trans x2⟩
 have HK:=hide (Kp.start w P)
 clear hP hD bd nd hT h0
 generalize runE (whS G hd1) D=rE at *
 generalize runD (whS G hd1) D=rD at *
 go_enter Tryz.func26,Tryz.ntmps26
 go_wp2_with fail
 go_at_call 70
 refine(unhide K _ (unhide HK).2).mono ?_
 rintro e w1 ⟨rfl,hb⟩
 replace HK:=hide ((unhide HK).call hb)
 clear hb K
 go_wp2_with fail
 go_at_call 71
 refine(unhide K2 _ (unhide HK).2).mono ?_
 rintro e w2 ⟨rfl,X⟩
 clear K2 HK
 go_wp2_with fail
 go_ret
 exact⟨rfl,unhide X⟩

def needE (n:Int):Int:=if n<0∨4096<n then 1 else 0

def needN (G:Geo) (n:Int):Int:=if n<0∨4096<n then 0 else (G.uses n.toNat:Int)

theorem need_good (P:Nat→Int)(G:Geo)(n:Int)(w:World)(hP:PG P G) :
  Calls Tryz.prog 105 #[Pv P,.int .i64 n] w fun e w'=>e=.returned (.tuple #[.int .i64 (needN G n),.int .i64 (needE n)])∧Below w.heap.size w w':=by
 have K:Hid (∀ u,Calls Tryz.prog 66 #[Pv P] u fun e w'=>e=.returned (.int .i64 0)∧Below u.heap.size u w'):=fun u=>by
  have:=check_any P u
  rwa [hP.chk] at this
 have HK:=hide (Kp.start w P)
 unfold needE needN
 by_cases h1:n<0
 ·rw[if_pos (.inl h1),if_pos (.inl h1)]
  clear hP
  go_enter Tryz.func105,Tryz.ntmps105
  go_wp2_with fail
  go_at_call 66
  refine(unhide K _).mono ?_
  rintro e w1 ⟨rfl,hb⟩
  replace HK:=hide ((unhide HK).call hb)
  clear hb K
  go_wp2_with fail
  go_ret2
  exact⟨rfl,(unhide HK).2⟩
 ·by_cases h2:4096<n
  ·rw[if_pos (.inr h2),if_pos (.inr h2)]
   clear hP
   go_enter Tryz.func105,Tryz.ntmps105
   go_wp2_with fail
   go_at_call 66
   refine(unhide K _).mono ?_
   rintro e w1 ⟨rfl,hb⟩
   replace HK:=hide ((unhide HK).call hb)
   clear hb K
   go_wp2_with fail
   go_ret2
   exact⟨rfl,(unhide HK).2⟩
  ·rw[if_neg (by omega),if_neg (by omega)]
   obtain⟨k,rfl⟩:∃ k:Nat,n=(k:Int):=⟨n.toNat,by omega⟩
   have e1:((k:Int)).toNat=k:=by omega
   rw[e1]
   have K2:Hid (∀ u,Calls Tryz.prog 152 #[Pv P,.int .i64 (k:Int)] u fun e w'=>e=.returned (.int .i64 (G.uses k:Int))∧Below u.heap.size u w'):=fun u=>uses_any P G hP k (by omega) u
   clear hP
   generalize (G.uses k:Int)=r at *
   go_enter Tryz.func105,Tryz.ntmps105
   go_wp2_with fail
   go_at_call 66
   refine(unhide K _).mono ?_
   rintro e w1 ⟨rfl,hb⟩
   replace HK:=hide ((unhide HK).call hb)
   clear hb K
   obtain⟨f0,f1,f2,f3,f4,f5,f6,f7,f8,f9,f10,f11⟩:=(unhide HK).cells
   go_wp2_with fail
   go_at_call 152
   refine(unhide K2 _).mono ?_
   rintro e w2 ⟨rfl,hb⟩
   replace HK:=hide ((unhide HK).call hb)
   clear hb K2 f0 f1 f2 f3 f4 f5 f6 f7 f8 f9 f10 f11
   go_wp2_with fail
   go_ret2
   exact⟨rfl,(unhide HK).2⟩

def wl (V:List Wr):Wl:=V.map (fun v=>(v.b.toNat,v.z))

def VOk (G:Geo) (V:List Wr):Prop:=∀ v∈V,v.dl=G.blk∧(G.ib:Int)≤v.b∧v.b<G.n

theorem wat_mem {V:List Wr}{j:Nat}(hj:j<V.length):wat V j∈V:=by
 unfold wat
 rw[List.getElem?_eq_getElem hj]
 exact List.getElem_mem _

theorem wl_len (V:List Wr):(wl V).length=V.length:=by simp[wl]

theorem wl_drop {V:List Wr}{k:Nat}(hk:k<V.length):(wl V).drop k=((wat V k).b.toNat,(wat V k).z)::(wl V).drop (k+1):=by
 have h1:k<(wl V).length:=by rw[wl_len];exact hk
 rw[List.drop_eq_getElem_cons h1]
 congr 1
 simp[wl,wat,List.getElem?_eq_getElem hk]

theorem wl_nums {G:Geo}{V:List Wr}(hV:VOk G V):(wl V).map (fun x=>(x.1:Int))=V.map (·.b):=by
 unfold wl
 rw[List.map_map]
 refine List.map_congr_left (fun v hv=>?_)
 have:=(hV v hv).2.1
 show ((v.b.toNat:Nat):Int)=v.b
 omega

def LJB (w:World) (S:Nat→Prop) (g dg:Nat) (P:Nat→Int) (G:Geo) (cs:Array Value) (a:Option Addr) (len:Nat) (V:List Wr) (L:Lg) (D:Dev) (r:Nat) (zs:List Int) (u:World):Prop :=
 ∃ Su Sl Sd m,LvM u Su Sl Sd g dg P G L D m∧Nx S w Su u∧(∀ k v,cs[k]?=some v→u.cell? ⟨w.heap.size,k,none⟩=some v)∧¬ Su w.heap.size∧w.heap.size<u.heap.size∧WHas u a len V∧WOut Su a len V∧Block u r zs∧¬ Su r

theorem LJB.lj {w:World}{S:Nat→Prop}{g dg:Nat}{P:Nat→Int}{G:Geo}{cs:Array Value}{a:Option Addr}{len:Nat}{V:List Wr}{L:Lg}{D:Dev}{r:Nat}{zs:List Int}{u:World}(h:LJB w S g dg P G cs a len V L D r zs u):LJ w S g dg P G cs a len V L D u:=by
 obtain⟨Su,Sl,Sd,m,h1,h2,h3,h4,h5,h6,h7,_⟩:=h
 exact⟨Su,Sl,Sd,m,h1,h2,h3,h4,h5,h6,h7⟩

theorem LJ.beside {w:World}{S:Nat→Prop}{g dg:Nat}{P:Nat→Int}{G:Geo}{cs:Array Value}{a:Option Addr}{len:Nat}{V:List Wr}{L:Lg}{D:Dev}{u u':World}(h:LJ w S g dg P G cs a len V L D u)(hb:Below u.heap.size u u'){r:Nat}{zs:List Int}(hr:u.heap.size≤r)(hB:Block u' r zs):LJB w S g dg P G cs a len V L D r zs u':=by
 obtain⟨Su,Sl,Sd,m,h1,h2,h3,h4,h5,h6,h7⟩:=h
 exact⟨Su,Sl,Sd,m,h1.below hb,h2.below' hb,fun k v hk=>(hb.cell (p:=⟨w.heap.size,k,none⟩) h5).trans (h3 k v hk),h4,Nat.lt_of_lt_of_le h5 hb.size,h6.later hb,h7,hB,fun hs=>by have:=h1.lt hs;omega⟩

theorem LJB.below {w:World}{S:Nat→Prop}{g dg:Nat}{P:Nat→Int}{G:Geo}{cs:Array Value}{a:Option Addr}{len:Nat}{V:List Wr}{L:Lg}{D:Dev}{r:Nat}{zs:List Int}{u u':World}(h:LJB w S g dg P G cs a len V L D r zs u)(hb:Below u.heap.size u u'):LJB w S g dg P G cs a len V L D r zs u':=by
 obtain⟨Su,Sl,Sd,m,h1,h2,h3,h4,h5,h6,h7,h8,h9⟩:=h
 exact⟨Su,Sl,Sd,m,h1.below hb,h2.below' hb,fun k v hk=>(hb.cell (p:=⟨w.heap.size,k,none⟩) h5).trans (h3 k v hk),h4,Nat.lt_of_lt_of_le h5 hb.size,h6.later hb,h7,h8.below hb h8.lt,h9⟩

theorem LJB.drewN {w:World}{S:Nat→Prop}{g dg:Nat}{P:Nat→Int}{G:Geo}{cs:Array Value}{a:Option Addr}{len:Nat}{V:List Wr}{L:Lg}{D:Dev}{r:Nat}{zs:List Int}{u:World}(h:LJB w S g dg P G cs a len V L D r zs u)(n:Nat):LJB w S g dg P G cs a len V L D r zs (u.drewN n):=h.below (below_drewN (Below.refl _ u) n)

theorem ljb_write {w:World}{S:Nat→Prop}{g dg:Nat}{P:Nat→Int}{G:Geo}{cs:Array Value}{a:Option Addr}{len:Nat}{V:List Wr}{L:Lg}{D:Dev}{r:Nat}{zs:List Int}{u:World}(h:LJB w S g dg P G cs a len V L D r zs u)(i:Nat)(hi:i<G.n)(hl:zs.length=G.blk)(hz:∀ z∈zs,0≤z∧z≤255) :
  Calls Tryz.prog 124 #[.pointer (some ⟨dg,0,none⟩),.int .i64 (i:Int),.slice (some ⟨r,0,none⟩) G.blk G.blk] u fun e u'=>e=.returned (.int .i64 D.wE)∧Hid (LJ w S g dg P G cs a len V L (D.wD i zs) u'):=by
 obtain⟨Su,Sl,Sd,m,h1,h2,h3,h4,h5,h6,h7,h8,h9⟩:=h
 have hbk:=h1.ll.pg.ok.blk
 have hr:=h8.row hl (by omega) hz
 have ho:Out Sd G.blk (some ⟨r,0,none⟩):=fun _ x e hs=>by cases e;exact h9 ((h1.all _).2 (.inr hs))
 have:=write_any dg i (some ⟨r,0,none⟩) G.blk zs Sd D u h1.dd (by rw[h1.nd];exact hi) (by rw[h1.bd];exact hr) (by rw[h1.bd];exact ho)
 rw[h1.bd] at this
 refine this.mono ?_
 rintro e u' ⟨rfl,S',x1,x2⟩
 obtain⟨y1,y2⟩:=h1.dev x1 x2 (Dev.wD_n D i zs)
 obtain⟨z1,z2⟩:=h6.nx y2 h7
 obtain⟨k1,k2,k3⟩:=y2.keep h5 h4
 exact⟨rfl,_,Sl,S',m,y1,h2.trans y2,fun k v hk=>(cell_eq k1 k).trans (h3 k v hk),k2,k3,z1,z2⟩

theorem lj_wrow {w:World}{S:Nat→Prop}{g dg:Nat}{P:Nat→Int}{G:Geo}{cs:Array Value}{a:Option Addr}{len:Nat}{V:List Wr}{L:Lg}{D:Dev}{u:World}(h:LJ w S g dg P G cs a len V L D u)(i:Nat)(hi:i<G.n){k:Nat}(hk:k<len)(hd:(wat V k).dl=G.blk) :
  Calls Tryz.prog 124 #[.pointer (some ⟨dg,0,none⟩),.int .i64 (i:Int),.slice (wat V k).da (wat V k).dl (wat V k).dc] u fun e u'=>e=.returned (.int .i64 D.wE)∧Hid (LJ w S g dg P G cs a len V L (D.wD i (wat V k).z) u'):=by
 obtain⟨Sd,d1,d2,d3,d4,d5,d6,d7,d8,d9⟩:=h.step
 have hr:=d6.row k hk
 have ho:=d7.2 k hk
 rw[hd] at hr ho ⊢
 have:=write_any dg i (wat V k).da (wat V k).dc (wat V k).z Sd D u d1 (by rw[d5];exact hi) (by rw[d4];exact hr) (by rw[d4];exact ho)
 rw[d4] at this
 refine this.mono ?_
 rintro e u' ⟨rfl,S',x1,x2⟩
 exact⟨rfl,d9 _ _ _ x1 x2 (Dev.wD_n D i _)⟩

def left (G:Geo) (at':Nat) (W:Wl) (k:Nat):List Stp:=dataS G (at'+1+k) (W.drop k)

theorem left_ok {G:Geo}{at':Nat}{V:List Wr}{k:Nat}{D:Dev}(hk:k<V.length)(h:D.wE=0):runE (left G at' (wl V) k) D=runE (left G at' (wl V) (k+1)) (D.wD (G.ring (at'+1+k)) (wat V k).z)∧runD (left G at' (wl V) k) D=runD (left G at' (wl V) (k+1)) (D.wD (G.ring (at'+1+k)) (wat V k).z):=by
 unfold left
 rw[wl_drop hk,dataS]
 exact⟨runE_ok h,runD_ok h⟩

theorem left_no {G:Geo}{at':Nat}{V:List Wr}{k:Nat}{D:Dev}(hk:k<V.length)(h:D.wE≠0):runE (left G at' (wl V) k) D=7∧runD (left G at' (wl V) k) D=D.wD (G.ring (at'+1+k)) (wat V k).z:=by
 unfold left
 rw[wl_drop hk,dataS]
 exact⟨runE_no h,runD_no h⟩

theorem left_end {G:Geo}{at':Nat}{V:List Wr}{D:Dev}:runE (left G at' (wl V) V.length) D=0∧runD (left G at' (wl V) V.length) D=D:=by
 unfold left
 rw[List.drop_of_length_le (by rw[wl_len];omega),dataS]
 exact⟨rfl,rfl⟩

theorem descE_ok {G:Geo}(hG:G.Ok){seq:Nat}(hs:seq≤4294967295){V:List Wr}(hV:VOk G V)(hl:V.length≤G.most):descE (G.blk:Int) (seq:Int) (V.map (·.b))=0:=by
 have h1:=hG.blk
 have h2:=hG.n2
 have hsz:=hG.size
 unfold isSize at hsz
 unfold descE
 rw[if_pos hsz,if_pos,if_neg]
 ·simp only[List.length_map]
  unfold Geo.most at hl
  omega
 ·unfold descF
  rw[Bool.and_eq_true,fitB_iff,fitB_iff]
  refine⟨fun v hv=>?_,fun v hv=>?_⟩
  ·have:v=(seq:Int):=by simpa using hv
   omega
  ·obtain⟨x,hx,rfl⟩:=List.mem_map.1 hv
   have:=hV x hx
   omega

theorem most_len {G:Geo}(hG:G.Ok){n:Nat}(hl:n≤G.most):10+2*n≤G.blk:=by
 have:=hG.blk
 unfold Geo.most at hl
 omega

def PJ (w:World) (S:Nat→Prop) (g dg:Nat) (P:Nat→Int) (G:Geo) (cs:Array Value) (a:Option Addr) (len:Nat) (V:List Wr) (L:Lg) (at':Nat) (eE:Int) (eD:Dev) (k:Nat) (u:World):Prop :=
 ∃ D,LJ w S g dg P G cs a len V L D u∧runE (left G at' (wl V) k) D=eE∧runD (left G at' (wl V) k) D=eD

theorem writePart_lj (g dg:Nat)(S:Nat→Prop)(P:Nat→Int)(G:Geo)(L:Lg)(D:Dev)(H:Hd)(hH:H.seq≤4294967295∧H.tail+H.used≤10000)(w:World)(h:Lv w S g dg P G L D)(a:Option Addr)(len cap:Nat)(V:List Wr)(hV:WHas w a len V)(hO:WOut S a len V)(hVo:VOk G V)(hl:len≤G.most) :
  Calls Tryz.prog 233 #[.pointer (some ⟨g,0,none⟩),Hv H.fn,.slice a len cap] w fun e w'=>e=.returned (.int .i64 (runE (partS G H.seq (H.tail+H.used) (wl V)) D)) ∧
   Hid (LJ w S g dg P G (Hc H.fn) a len V L (runD (partS G H.seq (H.tail+H.used) (wl V)) D) w'):=by
 have J0:=hide (LJ.start h (Hc H.fn) 81 hV hO)
 have hG:G.Ok:=by obtain⟨_,_,_,h⟩:=h;exact h.ll.pg.ok
 have hP0:P 0=(G.blk:Int):=by obtain⟨_,_,_,h⟩:=h;exact h.ll.pg.p0
 have hln:=hV.ln
 have hm:=hG.most
 have hdl:=descB_length (q:=(H.seq:Int)) (ns:=V.map (·.b)) (show 10+2*(V.map (·.b)).length≤G.blk by rw[List.length_map];exact most_len hG (by omega))
 have KN:Hid (∀ u,LJ w S g dg P G (Hc H.fn) a len V L D u→Calls Tryz.prog 210 #[.slice a len cap] u fun e w'=>e=.returned (.slice (some ⟨u.heap.size,0,none⟩) len len)∧Hid (IHas w' (some ⟨u.heap.size,0,none⟩) len (V.map (·.b)))∧Below u.heap.size u w'):=fun u hu=>by
  obtain⟨Sd,_,_,_,_,_,d6,_⟩:=hu.step
  exact named_any a len cap V u d6 (by omega)
 have KD:Hid (∀ u (k:Nat),LJ w S g dg P G (Hc H.fn) a len V L D u→IHas u (some ⟨k,0,none⟩) len (V.map (·.b))→Calls Tryz.prog 219 #[.int .i64 (H.seq:Int),.slice (some ⟨k,0,none⟩) len len,.int .i64 (G.blk:Int)] u fun e w'=>∃ r,e=.returned (.tuple #[.slice (some ⟨r,0,none⟩) G.blk G.blk,.int .i64 0])∧Hid (LJB w S g dg P G (Hc H.fn) a len V L D r (descB G.blk (H.seq:Int) (V.map (·.b))) w')):=fun u k hu hi=>by
  obtain⟨Sd,_,_,d3,_⟩:=hu.step
  refine(desc_ok (H.seq:Int) _ len len _ G.blk u hi d3 (descE_ok hG hH.1 hVo (by omega))).mono ?_
  rintro e w' ⟨r,rfl,r1,r2,r3⟩
  exact⟨r,rfl,hu.beside r3 r1 (unhide r2)⟩
 have KP:Hid (∀ u,LJ w S g dg P G (Hc H.fn) a len V L D u→Hid (LJ w S g dg P G (Hc H.fn) a len V L D u)∧u.cell? ⟨w.heap.size,0,none⟩=some (.int .i64 (H.seq:Int))∧u.cell? ⟨g,1,none⟩=some (.int .i64 (G.blk:Int))):=fun u hu=>by
  obtain⟨Sl,m,hl⟩:=hu.lg
  have:=hl.cells.2.1 0 (by omega)
  rw[hP0] at this
  exact⟨hu,hu.box 0 _ rfl,this⟩
 have KR:Hid (∀ u D' (k:Nat),LJ w S g dg P G (Hc H.fn) a len V L D' u→Calls Tryz.prog 128 #[.pointer (some ⟨g,0,none⟩),.int .i64 (k:Int)] u fun e w'=>e=.returned (.int .i64 (G.ring k:Int))∧∃ q,w'=u.drewN q):=fun u D' k hu=>by
  obtain⟨Sl,m,hl⟩:=hu.lg
  exact ring_any g dg k Sl P G L m u hl
 have KW:Hid (∀ u (r:Nat),LJB w S g dg P G (Hc H.fn) a len V L D r (descB G.blk (H.seq:Int) (V.map (·.b))) u→Calls Tryz.prog 124 #[.pointer (some ⟨dg,0,none⟩),.int .i64 (G.ring (H.tail+H.used):Int),.slice (some ⟨r,0,none⟩) G.blk G.blk] u fun e u'=>e=.returned (.int .i64 D.wE)∧Hid (LJ w S g dg P G (Hc H.fn) a len V L (D.wD (G.ring (H.tail+H.used)) (descB G.blk (H.seq:Int) (V.map (·.b)))) u')):=fun u r hu =>
  ljb_write hu (G.ring (H.tail+H.used)) (hG.ring _).2.2 hdl (descB_byts _ _ _)
 have KB:Hid (∀ u D' (k:Nat),k<len→LJ w S g dg P G (Hc H.fn) a len V L D' u→Calls Tryz.prog 124 #[.pointer (some ⟨dg,0,none⟩),.int .i64 (G.ring (H.tail+H.used+1+k):Int),.slice (wat V k).da (wat V k).dl (wat V k).dc] u fun e u'=>e=.returned (.int .i64 D'.wE)∧Hid (LJ w S g dg P G (Hc H.fn) a len V L (D'.wD (G.ring (H.tail+H.used+1+k)) (wat V k).z) u')):=fun u D' k hk hu =>
  lj_wrow hu (G.ring _) (hG.ring _).2.2 hk (hVo _ (wat_mem (by omega))).1
 have KC:Hid (∀ u D' (k:Nat),k<len→LJ w S g dg P G (Hc H.fn) a len V L D' u→∃ kb off,a=some ⟨kb,off,none⟩∧u.cell? ⟨kb,off+k*2,none⟩=some (.int .i64 (wat V k).b)∧u.cell? ⟨kb,off+k*2+1,none⟩=some (.slice (wat V k).da (wat V k).dl (wat V k).dc)):=fun u D' k hk hu=>by
  obtain⟨Sd,_,_,_,_,_,d6,_⟩:=hu.step
  obtain⟨kb,off,e,_,hc⟩:=d6.cel (by omega)
  exact⟨kb,off,e,(hc k hk).1,(hc k hk).2⟩
 have hE:=D.wE_two
 have e1:D.wE≠0→runE (partS G H.seq (H.tail+H.used) (wl V)) D=7∧runD (partS G H.seq (H.tail+H.used) (wl V)) D=D.wD (G.ring (H.tail+H.used)) (descB G.blk (H.seq:Int) (V.map (·.b))):=fun he=>by
  unfold partS
  rw[wl_nums hVo]
  exact⟨runE_no he,runD_no he⟩
 have e2:D.wE=0→runE (partS G H.seq (H.tail+H.used) (wl V)) D=runE (left G (H.tail+H.used) (wl V) 0) (D.wD (G.ring (H.tail+H.used)) (descB G.blk (H.seq:Int) (V.map (·.b))))∧runD (partS G H.seq (H.tail+H.used) (wl V)) D=runD (left G (H.tail+H.used) (wl V) 0) (D.wD (G.ring (H.tail+H.used)) (descB G.blk (H.seq:Int) (V.map (·.b)))):=fun he=>by
  unfold partS left
  rw[wl_nums hVo,List.drop_zero,Nat.add_zero]
  exact⟨runE_ok he,runD_ok he⟩
 have hat:H.tail+H.used≤10000:=hH.2
 have hlm:Hid (len≤2043):=by have:=hG.most;exact Nat.le_trans hl this.2
 have f12:Hid ((Hc H.fn)[1]?=some (.int .i64 (H.tail:Int))∧(Hc H.fn)[2]?=some (.int .i64 (H.used:Int))):=⟨rfl,rfl⟩
 have hsum:wrap64 ((H.tail:Int)+(H.used:Int))=((H.tail+H.used:Nat):Int):=by unfold wrap64;omega
 have KPJ:Hid (∀ u (k:Nat),PJ w S g dg P G (Hc H.fn) a len V L (H.tail+H.used) (runE (partS G H.seq (H.tail+H.used) (wl V)) D) (runD (partS G H.seq (H.tail+H.used) (wl V)) D) k u→k<len→∃ D',LJ w S g dg P G (Hc H.fn) a len V L D' u∧(D'.wE=0→∀ u',LJ w S g dg P G (Hc H.fn) a len V L (D'.wD (G.ring (H.tail+H.used+1+k)) (wat V k).z) u'→PJ w S g dg P G (Hc H.fn) a len V L (H.tail+H.used) (runE (partS G H.seq (H.tail+H.used) (wl V)) D) (runD (partS G H.seq (H.tail+H.used) (wl V)) D) (k+1) u')∧(D'.wE≠0→runE (partS G H.seq (H.tail+H.used) (wl V)) D=7∧runD (partS G H.seq (H.tail+H.used) (wl V)) D=D'.wD (G.ring (H.tail+H.used+1+k)) (wat V k).z)):=by
  rintro u k ⟨D',h1,h2,h3⟩ hk
  refine⟨D',h1,fun he u' hu'=>⟨_,hu',?_,?_⟩,fun he=>?_⟩
  ·rw[← (left_ok (by omega) he).1];exact h2
  ·rw[← (left_ok (by omega) he).2];exact h3
  ·have:=left_no (G:=G) (at':=H.tail+H.used) (V:=V) (k:=k) (by omega) he
   exact⟨h2.symm.trans this.1,h3.symm.trans this.2⟩
 have KPE:Hid (∀ u,PJ w S g dg P G (Hc H.fn) a len V L (H.tail+H.used) (runE (partS G H.seq (H.tail+H.used) (wl V)) D) (runD (partS G H.seq (H.tail+H.used) (wl V)) D) len u→0=runE (partS G H.seq (H.tail+H.used) (wl V)) D∧LJ w S g dg P G (Hc H.fn) a len V L (runD (partS G H.seq (H.tail+H.used) (wl V)) D) u):=by
  rintro u ⟨D',h1,h2,h3⟩
  rw[← hln] at h2 h3
  rw[left_end.1] at h2
  rw[left_end.2] at h3
  rw[h3] at h1
  exact⟨h2,h1⟩
 clear h hV hO hVo hP0 hln hdl hH hm hG hl
 generalize runE (partS G H.seq (H.tail+H.used) (wl V)) D=rE at *
 generalize runD (partS G H.seq (H.tail+H.used) (wl V)) D=rD at *
 generalize descB G.blk (H.seq:Int) (V.map (·.b))=ds at *
 generalize V.map (·.b)=ns at *
 generalize H.tail+H.used=at' at *
 have s1:IntKind.i64.wrap ((at':Int)+1)=((at'+1:Nat):Int):=by rw[IntKind.wrap_i64];omega
 have s2:Hid (∀ k:Nat,k≤5000→IntKind.i64.wrap (((at'+1:Nat):Int)+(k:Int))=((at'+1+k:Nat):Int)):=fun k hk=>by rw[IntKind.wrap_i64];omega
 have hl5:len≤5000:=by
  have:=unhide hlm
  omega
 clear hlm hat
 have HE1:=hide e1
 have HE2:=hide e2
 clear e1 e2
 go_enter Tryz.func233,Tryz.ntmps233
 go_upto_region 1 with fail
 change Code.wp _ _ _ _ (w.alloc (.cells (Hc H.fn) 81))
 generalize w.alloc (.cells (Hc H.fn) 81)=u0 at *
 have P0:=hide (unhide KP _ (unhide J0).drew)
 clear J0
 go_cut [7] (fun c wx=>∃ r,c=.slice (some ⟨r,0,none⟩) G.blk G.blk∧Hid (LJB w S g dg P G (Hc H.fn) a len V L D r ds wx))
 case first =>
  go_region_held3 (fun u=>Hid (LJ w S g dg P G (Hc H.fn) a len V L D u)∧u.cell? ⟨w.heap.size,0,none⟩=some (.int .i64 (H.seq:Int))∧u.cell? ⟨g,1,none⟩=some (.int .i64 (G.blk:Int)))
   (with_reducible (first | exact unhide P0 | exact unhide KP _ (unhide J1) | exact unhide KP _ (unhide J2).lj))
   (first
    | (go_at_call 210;refine(unhide KN _ (unhide (‹Hid (LJ w S g dg P G (Hc H.fn) a len V L D _)∧_›).1)).mono ?_;rintro e w6 ⟨rfl,X,hb⟩;have J1:Hid (LJ w S g dg P G (Hc H.fn) a len V L D w6):=LJ.below (unhide (‹Hid (LJ w S g dg P G (Hc H.fn) a len V L D _)∧_›).1) hb;clear hb)
    | (go_at_call 219;refine(unhide KD _ _ (unhide J1) (unhide X)).mono ?_;rintro e w7 ⟨r,rfl,J2⟩))
  all_goals
   go_wp2_with fail
   go_meet
   exact⟨_,rfl,J2⟩
 case rest =>
  obtain⟨r,rfl,J2⟩:=hcut
  clear P0 KN KD KP
  have f1:=(unhide J2).lj.box 1 _ (unhide f12).1
  have f2:=(unhide J2).lj.box 2 _ (unhide f12).2
  have d0:=(unhide J2).lj.dcell
  go_upto_region 3 with fail
  rw[hsum]
  go_cut [10] (fun c wx=>c=.int .i64 D.wE∧Hid (LJ w S g dg P G (Hc H.fn) a len V L (D.wD (G.ring at') ds) wx))
  case first =>
   go_region_with (first
    | (go_at_call 128;refine(unhide KR _ _ _ (unhide J2).lj.drew).mono ?_;rintro e u2 ⟨rfl,q,rfl⟩)
    | (go_at_call 124;refine(unhide KW _ _ ((unhide J2).drewN _)).mono ?_;rintro e u3 ⟨rfl,J3⟩))
   all_goals
    go_wp2_with fail
    go_meet
    exact⟨rfl,J3⟩
  case rest =>
   obtain⟨rfl,J3⟩:=hcut
   clear J2 f1 f2 d0 KW
   rcases hE with hE | hE
   ·obtain⟨y1,y2⟩:=unhide HE2 hE
    rw[hE]
    have J4:=hide (show PJ w S g dg P G (Hc H.fn) a len V L at' rE rD 0 _ from ⟨_,unhide J3,y1.symm,y2.symm⟩)
    clear J3 HE1 HE2 y1 y2 hE
    go_wp2_with fail
    go_loopw [46] (fun i wr=>∃ k:Nat,k≤len∧i=.int .i64 (k:Int)∧Hid (PJ w S g dg P G (Hc H.fn) a len V L at' rE rD k wr)) (fun i _=>len - (intOf i).toNat)
    case atStart=>exact⟨0,Nat.zero_le _,rfl,J4⟩
    case round =>
     obtain⟨k,hk,rfl,hJ⟩:=hrel
     clear J4
     by_cases hlt:k<len
     ·obtain⟨D',j1,j2,j3⟩:=unhide KPJ _ _ (unhide hJ) hlt
      have Z2:=hide j2
      have Z3:=hide j3
      obtain⟨kb,off,ea,x1,x2⟩:=unhide KC _ _ _ hlt j1
      have J5:=hide (j1.below ((Below.refl _ wr).alloc (Nat.le_refl _) (.cells #[.int .i64 (wat V k).b,.slice (wat V k).da (wat V k).dl (wat V k).dc] 171)))
      have HC:=hide (Bl.new wr #[.int .i64 (wat V k).b,.slice (wat V k).da (wat V k).dl (wat V k).dc] 171)
      have s3:=unhide s2 k (by omega)
      have K1:Hid (∀ u,LJ w S g dg P G (Hc H.fn) a len V L D' u→_):=fun u hu=>unhide KB u D' k hlt hu
      clear j1 j2 j3 KB KC KPJ KPE hJ s2
      subst ea
      generalize at'+1=a1 at *
      generalize a1+k=a2 at *
      go_upto_region 9 with fail
      change Code.wp _ _ _ _ (wr.alloc (.cells #[.int .i64 (wat V k).b,.slice (wat V k).da (wat V k).dl (wat V k).dc] 171))
      generalize wr.alloc (.cells #[.int .i64 (wat V k).b,.slice (wat V k).da (wat V k).dl (wat V k).dc] 171)=ub at *
      generalize wr.heap.size=gb at *
      have d0:=(unhide J5).dcell
      have b1:=(unhide HC).cell 1 (.slice (wat V k).da (wat V k).dl (wat V k).dc) rfl
      clear x1 x2 HC
      go_cut [13] (fun c wx=>c=.int .i64 D'.wE∧Hid (LJ w S g dg P G (Hc H.fn) (some ⟨kb,off,none⟩) len V L (D'.wD (G.ring a2) (wat V k).z) wx))
      case first =>
       clear Z2 Z3 hl5 hk hlt hsum f12
       go_region_with (first
        | (go_at_call 128;refine(unhide KR _ _ a2 (unhide J5).drew).mono ?_;rintro e u2 ⟨rfl,q,rfl⟩)
        | (go_at_call 124;refine(unhide K1 _ ((unhide J5).drewN _)).mono ?_;rintro e u3 ⟨rfl,J6⟩))
       all_goals
        go_wp2_with fail
        go_meet
        exact⟨rfl,J6⟩
      case rest =>
       obtain⟨rfl,J6⟩:=hcut
       clear K1 KR J5 d0 b1 s1 s3
       rcases D'.wE_two with hE' | hE'
       ·rw[hE']
        have J7:=hide (unhide Z2 hE' _ (unhide J6))
        clear Z2 Z3 J6 hE'
        go_wp2_with fail
        go_roundw
        case rel=>exact⟨k+1,by omega,by go_num,J7⟩
        case measure=>simp[intOf];omega
       ·rw[hE']
        obtain⟨z1,z2⟩:=unhide Z3 (by omega)
        clear Z2 Z3 hE'
        go_wp2_with fail
        go_ret
        exact⟨by rw[z1];rfl,by rw[z2];exact J6⟩
     ·have ek:k=len:=by omega
      rw[ek] at hJ
      obtain⟨z1,z2⟩:=unhide KPE _ (unhide hJ)
      have Z2:=hide z2
      clear KB KC KPJ KPE hJ KR s1 s2 z2
      go_wp2_with fail
      go_ret
      exact⟨by rw[← z1];rfl,Z2⟩
   ·obtain⟨y1,y2⟩:=unhide HE1 (by omega)
    rw[hE]
    clear KB KC KPJ KPE KR s1 s2 HE1 HE2 hE
    go_wp2_with fail
    go_ret
    exact⟨by rw[y1];rfl,by rw[y2];exact J3⟩

theorem infoW:(Tryz.prog.info? 171).map (fun i=>(i.zero,i.size,i.bytes))=some (some (.agg #[.int .i64 0,.slice none 0 0]),2,32):=by kernel_rfl

def cellsW:List Wr→List Value
 | []=>[]
 | v::r=>.int .i64 v.b::.slice v.da v.dl v.dc::cellsW r

theorem cellsW_append (A B:List Wr):cellsW (A++B)=cellsW A++cellsW B:=by
 induction A with
 | nil=>rfl
 | cons v r ih=>simp[cellsW,ih]

theorem cellsW_at:∀ (A:List Wr) (j:Nat),j<A.length→(cellsW A)[j*2]?=some (.int .i64 (wat A j).b)∧(cellsW A)[j*2+1]?=some (.slice (wat A j).da (wat A j).dl (wat A j).dc)
 | [],j,h=>absurd h (by simp)
 | v::r,0,h=>by simp[cellsW,wat]
 | v::r,j+1,h=>by
  have:=cellsW_at r j (by simpa using h)
  have e1:(j+1)*2=j*2+1+1:=by omega
  rw[e1]
  simpa [cellsW,wat] using this

structure Gw (B:Nat) (u:World) (v:Value) (V:List Wr):Prop where
 own:u.ownsRow B 171 2 v V.length (cellsW V)
 row:∀ j,j<V.length→Own B u (wat V j).da (wat V j).dl (wat V j).dc (wat V j).z∧(∀ z∈(wat V j).z,0≤z∧z≤255)∧0<(wat V j).dl∧(wat V j).dl≤4096
 one:∀ i j,i<V.length→j<V.length→(wat V i).da=(wat V j).da→i=j

theorem Gw.nil (B:Nat)(u:World):Gw B u (.slice none 0 0) []:=⟨World.ownsRow_nil u B _ 2,fun j h=>absurd h (by simp),fun i j h=>absurd h (by simp)⟩

theorem ownsRow_other {u u':World}{B e n:Nat}{v:Value}{L:List Value}(h:u.ownsRow B e 2 v n L)(hk:∀ k,v.ownBlock=some k→u'.heap[k]?=u.heap[k]?):u'.ownsRow B e 2 v n L:=by
 obtain⟨h1,h2⟩:=h
 refine⟨h1,?_⟩
 rcases h2 with h2 | ⟨g,cap,cur,rfl,hb,hg,r⟩
 ·exact .inl h2
 ·exact .inr ⟨g,cap,cur,rfl,hb,(hk g rfl).trans hg,r⟩

theorem ownsRow_blk2 {u:World}{B e n:Nat}{v:Value}{L:List Value}(h:u.ownsRow B e 2 v n L){k:Nat}(hk:v.ownBlock=some k):B≤k∧∃ cur,u.heap[k]?=some (.cells cur e (0,0)):=by
 obtain⟨h1,h2⟩:=h
 rcases h2 with ⟨rfl,_⟩ | ⟨g,cap,cur,rfl,hb,hg,r⟩
 ·simp[Value.ownBlock] at hk
 ·simp[Value.ownBlock] at hk
  subst hk
  exact⟨hb,cur,hg⟩

theorem Gw.kept {B:Nat}{u u':World}{v:Value}{V:List Wr}(h:Gw B u v V)(hk:∀ k,B≤k→k<u.heap.size→u'.heap[k]?=u.heap[k]?):Gw B u' v V:=by
 refine⟨ownsRow_other h.own (fun k e=>?_),fun j hj=>?_,h.one⟩
 ·obtain⟨h1,cur,h2⟩:=ownsRow_blk2 h.own e
  exact hk k h1 (Array.getElem?_eq_some_iff.1 h2).1
 ·obtain⟨h1,h2⟩:=h.row j hj
  exact⟨h1.kept (fun g e=>hk g (h1.lt e).2.1 (h1.lt e).1),h2⟩

theorem Gw.below {B:Nat}{u u':World}{v:Value}{V:List Wr}(h:Gw B u v V)(hb:Below u.heap.size u u'):Gw B u' v V:=h.kept (fun k _ hk=>hb.block k hk)

theorem Gw.shape {B:Nat}{u:World}{v:Value}{V:List Wr}(h:Gw B u v V):∃ a c,v=.slice a V.length c∧V.length≤c∧c≤maxLen:=by
 obtain⟨h1,h2⟩:=h.own
 rcases h2 with ⟨rfl,h0⟩ | ⟨g,cap,cur,rfl,hb,hg,r1,r2,_⟩
 ·exact⟨none,0,by rw[h0],by omega,by unfold maxLen;omega⟩
 ·exact⟨_,cap,rfl,r1,r2⟩

theorem Gw.has {B:Nat}{u:World}{a:Option Addr}{n c:Nat}{V:List Wr}(h:Gw B u (.slice a n c) V):WHas u a n V∧n=V.length:=by
 have hn:n=V.length:=by
  obtain⟨a',c',e,_⟩:=h.shape
  cases e
  rfl
 subst hn
 refine⟨⟨rfl,fun hp=>?_,fun j hj=>?_⟩,rfl⟩
 ·obtain⟨h1,h2⟩:=h.own
  rcases h2 with ⟨_,h0⟩ | ⟨g,cap,cur,e,hb,hg,r1,r2,r3,r4⟩
  ·omega
  ·cases e
   refine⟨g,0,rfl,(Array.getElem?_eq_some_iff.1 hg).1,fun j hj=>?_⟩
   obtain⟨c1,c2⟩:=cellsW_at V j hj
   rw[← r4,List.getElem?_take_of_lt (by omega)] at c1 c2
   rw[Nat.zero_add]
   exact⟨by simp only[World.cell?,hg];simpa using c1,by simp only[World.cell?,hg];simpa using c2⟩
 ·obtain⟨⟨h1,h2,h3,h4⟩,h5,h6,h7⟩:=h.row j hj
  unfold maxLen at h3
  refine⟨h1,h2,⟨by omega,by omega⟩,h5,fun hp=>?_⟩
  have hO:Own B u (wat V j).da (wat V j).dl (wat V j).dc (wat V j).z:=(h.row j hj).1
  obtain⟨g,e,_⟩:=hO.cell hp
  refine⟨g,0,e,(hO.lt e).1,fun i hi=>?_⟩
  obtain⟨g',e',_,hc⟩:=hO.cell hi
  rw[e] at e'
  cases e'
  rw[Nat.zero_add]
  exact hc.1

theorem Gw.out {B:Nat}{u:World}{a:Option Addr}{n c:Nat}{V:List Wr}(h:Gw B u (.slice a n c) V){S:Nat→Prop}(hS:∀ k,S k→k<B):WOut S a n V:=by
 have hn:=h.has.2
 refine⟨fun hp x e hs=>?_,fun j hj hp x e hs=>?_⟩
 ·have:=(ownsRow_blk2 h.own (k:=x.block) (by rw[e];rfl)).1
  have:=hS _ hs
  omega
 ·have hO:=(h.row j (by omega)).1
  obtain⟨g,e',hg,_⟩:=hO.cell hp
  rw[e] at e'
  cases e'
  have:=hS _ hs
  simp at this
  omega

theorem Gw.one' {B:Nat}{u:World}{v:Value}{V:List Wr}(h:Gw B u v V)(hB:B≤u.heap.size)(hl:V.length≤100000)(x:Wr)(hx:Own B u x.da x.dl x.dc x.z∧(∀ z∈x.z,0≤z∧z≤255)∧0<x.dl∧x.dl≤4096)(hn:∀ j,j<V.length→(wat V j).da≠x.da) :
  ∃ v' w',(∀ ty,(Builtin.append_ #[115,115] ty #[v,.slice (some ⟨u.heap.size,0,none⟩) 1 1]).run Tryz.prog (u.alloc (.cells #[.int .i64 x.b,.slice x.da x.dl x.dc] 171))=.ok v' w')∧Gw B w' v' (V++[x])∧Below B u w'∧(∀ (k:Nat) (t:TypeId) (c:Array Value) (q:Nat×Nat),t≠171→u.heap[k]?=some (Obj.cells c t q)→w'.heap[k]?=u.heap[k]?)∧(∀ (k:Nat) (es:Array MapEntry) (c:Nat),u.heap[k]?=some (Obj.map es c)→w'.heap[k]?=u.heap[k]?):=by
 obtain⟨i0,hi,hz0,hz1,hz2⟩:=info_parts infoW
 have hb:Below u.heap.size u (u.alloc (.cells #[.int .i64 x.b,.slice x.da x.dl x.dc] 171)):=(Below.refl _ _).alloc (Nat.le_refl _) _
 have h1:=h.below hb
 have hnw:=Bl.new u #[.int .i64 x.b,.slice x.da x.dl x.dc] 171
 obtain⟨v',w',hrun,ho,hg,_⟩:=run_append_own (P:=Tryz.prog) (u.alloc (.cells #[.int .i64 x.b,.slice x.da x.dl x.dc] 171)) B 115 0 171 i0 (.agg #[.int .i64 0,.slice none 0 0]) 2 32 Tryz.underlying115 hi hz0 hz1 hz2 rfl (by decide) v V.length (cellsW V) h1.own ⟨u.heap.size,0,none⟩ 1 1 [.int .i64 x.b,.slice x.da x.dl x.dc] rfl (by
   intro j z hj
   rw[World.add_zero_spot,Nat.zero_add]
   have hj2:j<2:=by have:=(List.getElem?_eq_some_iff.1 hj).1;simpa using this
   refine hnw.cell j z ?_
   simpa using hj) (by intro z hz;simp at hz;rcases hz with rfl | rfl<;>rfl) (by unfold maxLen;omega) (by omega) (Nat.le_trans hB hb.size)
 have hrow:∀ k,k<u.heap.size→(∀ (t:TypeId) (c:Array Value) (q:Nat×Nat),u.heap[k]?=some (Obj.cells c t q)→t≠171)→w'.heap[k]?=u.heap[k]?:=fun k hk ht=>by
  refine(hg.block k (Nat.lt_of_lt_of_le hk hb.size) (fun e=>?_)).trans (hb.block k hk)
  obtain⟨_,cur,hc⟩:=ownsRow_blk2 h.own e.symm
  exact ht _ _ _ hc rfl
 have keep:∀ {a:Option Addr} {n c:Nat} {zs:List Int},Own B u a n c zs→Own B w' a n c zs:=fun hO=>hO.kept (fun g e=>by
  obtain⟨l1,l2,cur,l3⟩:=hO.lt e
  exact hrow g l1 (fun t c q hh=>by rw[l3] at hh;cases hh;decide))
 refine⟨v',w',fun ty=>hrun,⟨?_,fun j hj=>?_,fun i j hi hj e=>?_⟩,(hb.mono hB).grown hg (Nat.le_trans hB hb.size) (fun k e=>?_),fun k t c q ht hh=>hrow k (Array.getElem?_eq_some_iff.1 hh).1 (fun t' c' q' hh'=>by rw[hh] at hh';cases hh';exact ht),fun k es c hh=>hrow k (Array.getElem?_eq_some_iff.1 hh).1 (fun t' c' q' hh'=>by rw[hh] at hh';cases hh')⟩
 ·rw[cellsW_append,List.length_append]
  exact ho
 ·by_cases e:j<V.length
  ·have ew:wat (V++[x]) j=wat V j:=by simp[wat,List.getElem?_append_left e]
   rw[ew]
   exact⟨keep (h.row j e).1,(h.row j e).2⟩
  ·have e2:j=V.length:=by simp at hj;omega
   have ew:wat (V++[x]) j=x:=by simp[wat,e2]
   rw[ew]
   exact⟨keep hx.1,hx.2⟩
 ·have wv:∀ i,i<V.length→wat (V++[x]) i=wat V i:=fun i e=>by simp[wat,List.getElem?_append_left e]
  have wx:∀ i,i=V.length→wat (V++[x]) i=x:=fun i e=>by simp[wat,e]
  simp at hi hj
  by_cases e1:i<V.length
  ·by_cases e2:j<V.length
   ·rw[wv i e1,wv j e2] at e;exact h.one i j e1 e2 e
   ·rw[wv i e1,wx j (by omega)] at e;exact absurd e (hn i e1)
  ·by_cases e2:j<V.length
   ·rw[wx i (by omega),wv j e2] at e;exact absurd e.symm (hn j e2)
   ·omega
 ·exact(ownsRow_blk2 h.own e).1

structure PdI (w:World) (G:Geo) (Q:Nat→Option (List Int)) (kv:Value) (ks:List Int) (k:Nat) (v:Value) (u:World) (V:List Wr):Prop where
 gw:Gw w.heap.size u v V
 is:wl V=(pendW G Q).take k
 dl:∀ x∈V,x.dl=G.blk∧0≤x.b
 ln:V.length=k
 bel:Below w.heap.size w u
 key:Gr w.heap.size u kv ks

theorem pendW_len (G:Geo)(Q:Nat→Option (List Int)):(pendW G Q).length=(pendL G Q).length:=by simp[pendW]

theorem pendL_len (G:Geo)(Q:Nat→Option (List Int)):(pendL G Q).length≤G.n:=by
 have:=List.length_filter_le (fun b=>(Q b).isSome) (List.range G.n)
 simpa [pendL] using this

theorem pendL_mem {G:Geo}{Q:Nat→Option (List Int)}{b:Nat}:b∈pendL G Q↔b<G.n∧(Q b).isSome=true:=by simp[pendL]

theorem keysI_pend {L:Lg}{m:LMem}{G:Geo}:keysI G.n (L.M m)=(pendL G L.Q).map (fun b:Nat=>(b:Int)):=by
 unfold keysI keysB pendL
 congr 1
 refine List.filter_congr (fun b _=>?_)
 unfold Lg.M
 cases L.Q b<;>rfl

theorem iown_has9 {B:Nat}{w:World}{a:Option Addr}{n c:Nat}{ns:List Int}(h:IOwn B w a n c ns):IHas w a n ns:=by
 refine⟨h.1,fun hp=>?_⟩
 obtain⟨g,e,_,_,_⟩:=h.cell (j:=0) hp
 refine⟨g,0,e,fun j hj=>?_⟩
 obtain⟨g',e',_,hc,_⟩:=h.cell hj
 rw[e] at e'
 cases e'
 rw[Nat.zero_add]
 exact hc

theorem gr_ihas {B:Nat}{u:World}{a:Option Addr}{n c:Nat}{L:List Int}(h:Gr B u (.slice a n c) L):IHas u a n L∧n=L.length:=by
 obtain⟨a',c',e,io⟩:=h.own
 cases e
 exact⟨iown_has9 io,rfl⟩

theorem PdI.step {w u:World}{S:Nat→Prop}{g dg:Nat}{P:Nat→Int}{G:Geo}{L:Lg}{m:LMem}{kv v:Value}{ks:List Int}{k:Nat}{V:List Wr}(hL:LgM w S g dg P G L m)(h:PdI w G L.Q kv ks k v u V)(hk:k<(pendL G L.Q).length)(b:Nat)(hb:(pendL G L.Q)[k]?=some b) :
  u.cell? ⟨g,16,none⟩=some (.map (some m.mb))∧(Instr.lookup 78 (.map (some m.mb)) (.int .i64 (b:Int)) false).run Tryz.prog u=.ok (.slice (some ⟨(m.A b).1,0,none⟩) G.blk (m.A b).2) u ∧
   Hid (Calls Tryz.prog 113 #[.slice (some ⟨(m.A b).1,0,none⟩) G.blk (m.A b).2] u fun e w1=>∃ a c,e=.returned (.slice a G.blk c) ∧
    Hid (∃ v' w2,(∀ ty,(Builtin.append_ #[115,115] ty #[v,.slice (some ⟨w1.heap.size,0,none⟩) 1 1]).run Tryz.prog (w1.alloc (.cells #[.int .i64 (b:Int),.slice a G.blk c] 171))=.ok v' w2)∧∃ V',PdI w G L.Q kv ks (k+1) v' w2 V')):=by
 have hLu:=hL.kept (u':=u) (S':=S) (fun k hk=>h.bel.block k (hL.lt k hk)) (fun _ h=>h) (fun k hk=>Nat.lt_of_lt_of_le (hL.lt k hk) h.bel.size)
 obtain⟨hbn,hbs⟩:=pendL_mem.1 (List.mem_of_getElem? hb)
 obtain⟨z,hz⟩:=Option.isSome_iff_exists.1 hbs
 have hM:L.M m b=some (m.A b):=by simp[Lg.M,hz]
 have hr:=hLu.row b z hbn hz
 have hG:=hL.pg.ok
 have hbk:=hG.blk
 have hn2:=hG.n2
 have hpl:=pendL_len G L.Q
 refine⟨hLu.cells.2.2.2.2.2.1,hLu.map.look hn2 hbn hM,?_⟩
 refine(bclone_any ⟨(m.A b).1,0,none⟩ G.blk (m.A b).2 z u (hr.row (by omega)).has (by omega)).mono ?_
 rintro e w1 ⟨a,c,rfl,o1,b1⟩
 have hs:=h.bel.size
 have g1:=h.gw.below b1
 have hs1:=b1.size
 obtain⟨v',w2,r2,G2,B2,K2,_⟩:=g1.one' (Nat.le_trans hs hs1) (by rw[h.ln];omega) ⟨(b:Int),a,G.blk,c,z⟩ ⟨o1.base hs,hr.byt,by show 0<G.blk;omega,by show G.blk≤4096;omega⟩ (fun j hj e=>by
  have ho:=(h.gw.row j hj).1
  obtain⟨q,eq,_⟩:=ho.cell ((h.gw.row j hj).2.2.1)
  have e2:a=some ⟨q,0,none⟩:=by rw[← eq];exact e.symm
  have l1:=(ho.lt eq).1
  have l2:=(o1.lt e2).2.1
  omega)
 refine⟨a,c,rfl,v',w2,r2,V++[⟨(b:Int),a,G.blk,c,z⟩],G2,?_,?_,by simp[h.ln],(h.bel.trans (b1.mono hs)).trans B2,?_⟩
 ·have e1:(pendW G L.Q)[k]?=some (b,z):=by
   unfold pendW
   rw[List.getElem?_map,hb]
   simp[hz]
  have hk2:k<(pendW G L.Q).length:=by rw[pendW_len];exact hk
  rw[List.take_succ_eq_append_getElem hk2,← h.is]
  have e2:(pendW G L.Q)[k]=(b,z):=by
   rw[List.getElem?_eq_getElem hk2] at e1
   exact Option.some.inj e1
  rw[e2]
  simp[wl]
 ·intro x hx
  rcases List.mem_append.1 hx with hx | hx
  ·exact h.dl x hx
  ·have:x=⟨(b:Int),a,G.blk,c,z⟩:=by simpa using hx
   rw[this]
   exact⟨rfl,Int.natCast_nonneg b⟩
 ·have kg:=h.key.later b1
  obtain⟨k1,k2⟩:=kg
  refine⟨k1,?_⟩
  rcases k2 with k2 | ⟨q,cap,cur,e,x1,x2,x3⟩
  ·exact .inl k2
  ·exact .inr ⟨q,cap,cur,e,x1,(K2 q 3 cur (0,0) (by decide) x2).trans x2,x3⟩

theorem pending_any (g dg:Nat)(S:Nat→Prop)(P:Nat→Int)(G:Geo)(L:Lg)(m:LMem)(w:World)(h:LgM w S g dg P G L m) :
  Calls Tryz.prog 115 #[.pointer (some ⟨g,0,none⟩)] w fun e w'=>∃ v V,e=.returned v∧Hid (Gw w.heap.size w' v V∧wl V=pendW G L.Q∧(∀ x∈V,x.dl=G.blk∧0≤x.b)∧Below w.heap.size w w'):=by
 have c6:=h.cells.2.2.2.2.2.1
 have KK:=hide (keys_sorted G.blk m.mb G.n (L.M m) w h.map h.pg.ok.n2)
 have K0:Hid (∀ w2 v,Gr w.heap.size w2 v (keysI G.n (L.M m))→Below w.heap.size w w2→∃ a c,v=.slice a (pendL G L.Q).length c∧Hid (∃ V,PdI w G L.Q v (keysI G.n (L.M m)) 0 (.slice none 0 0) w2 V)):=by
  intro w2 v g2 b2
  obtain⟨a,c,e⟩:=g2.shape
  refine⟨a,c,?_,[],Gw.nil _ _,by simp[wl],fun x hx=>by simp at hx,rfl,b2,g2⟩
  rw[e,keysI_pend,List.length_map]
 have KI:Hid (∀ u k a n c v V,PdI w G L.Q (.slice a n c) (keysI G.n (L.M m)) k v u V→k<n→∃ kb off b,a=some ⟨kb,off,none⟩∧u.cell? ⟨kb,off+k,none⟩=some (.int .i64 ((b:Nat):Int))∧(pendL G L.Q)[k]?=some b∧n=(pendL G L.Q).length):=by
  intro u k a n c v V hP hk
  obtain⟨hi,hn⟩:=gr_ihas hP.key
  rw[keysI_pend,List.length_map] at hn
  obtain⟨kb,off,e,hc⟩:=hi.2 (by omega)
  have hk2:k<(pendL G L.Q).length:=by omega
  refine⟨kb,off,(pendL G L.Q)[k],e,?_,List.getElem?_eq_getElem hk2,hn⟩
  rw[hc k hk,keysI_pend]
  simp[List.getElem?_eq_getElem hk2]
 have KS:Hid (∀ u kv k v V b,PdI w G L.Q kv (keysI G.n (L.M m)) k v u V→k<(pendL G L.Q).length→(pendL G L.Q)[k]?=some b→_):=fun u kv k v V b hP hk hb=>hP.step h hk b hb
 have KE:Hid (∀ u kv v V,PdI w G L.Q kv (keysI G.n (L.M m)) (pendL G L.Q).length v u V→Hid (Gw w.heap.size u v V∧wl V=pendW G L.Q∧(∀ x∈V,x.dl=G.blk∧0≤x.b)∧Below w.heap.size w u)):=fun u kv v V hP=>⟨hP.gw,by rw[hP.is,List.take_of_length_le (by rw[pendW_len];omega)],hP.dl,hP.bel⟩
 have hnp:(pendL G L.Q).length≤4096:=Nat.le_trans (pendL_len G L.Q) h.pg.ok.n2
 clear h
 generalize keysI G.n (L.M m)=ks at *
 generalize pendL G L.Q=pl at *
 generalize m.mb=mb at *
 generalize m.A=mA at *
 generalize pl.length=np at *
 go_enter Tryz.func115,Tryz.ntmps115
 go_wp2_with fail
 go_at_call 167
 refine(unhide KK).mono ?_
 rintro e w1 ⟨rfl,K2⟩
 clear KK
 go_wp2_with fail
 go_at_call 99
 refine(unhide K2).mono ?_
 rintro e w2 ⟨kv,rfl,X⟩
 obtain⟨a,c,rfl,Y⟩:=unhide K0 w2 kv (unhide X).1 (unhide X).2
 clear K2 K0 X c6
 go_wp2_with fail
 go_loopw [3,15] (fun v i wr=>∃ k:Nat,k≤np∧i=.int .i64 (k:Int)∧Hid (∃ V,PdI w G L.Q (.slice a np c) ks k v wr V)) (fun _ i _=>np - (intOf i).toNat)
 case atStart=>exact⟨0,Nat.zero_le _,rfl,Y⟩
 case round =>
  rename_i v
  obtain⟨k,hk,rfl,hJ⟩:=hrel
  clear Y
  by_cases hlt:k<np
  ·obtain⟨V,hP⟩:=unhide hJ
   obtain⟨kb,off,b,ea,x1,x2,x3⟩:=unhide KI _ _ _ _ _ _ _ hP hlt
   obtain⟨y1,y2,KC⟩:=unhide KS _ _ _ _ _ _ hP hlt x2
   clear KI KS KE hJ hP x2 x3
   subst ea
   generalize (mA b).1=r1 at *
   generalize (mA b).2=r2 at *
   go_wp2_with fail
   go_at_call 113
   refine(unhide KC).mono ?_
   rintro e w3 ⟨a3,c3,rfl,Z⟩
   obtain⟨v',w4,r4,Z2⟩:=unhide Z
   have R4:=hide r4
   have Z3:=hide Z2
   clear KC Z r4 Z2 x1 y1 y2
   go_wp2_with (at_builtin;refine wpList_append_run 115 rfl _ _ rfl _ _ _ rfl rfl (unhide R4) ?_;clear R4)
   go_roundw
   case rel=>exact⟨k+1,by omega,by go_num,Z3⟩
   case measure=>simp[intOf];omega
  ·have ek:k=np:=by omega
   rw[ek] at hJ
   obtain⟨V,hP⟩:=unhide hJ
   have Z:=unhide KE _ _ _ _ hP
   clear KI KS KE hJ hP
   go_wp2_with fail
   go_ret
   exact⟨_,_,rfl,Z⟩

def AJ (w:World) (S:Nat→Prop) (g dg:Nat) (P:Nat→Int) (G:Geo) (L:Lg) (a:Option Addr) (len:Nat) (V:List Wr) (rs:List Stp) (eE:Int) (eD:Dev) (k:Nat) (u:World):Prop :=
 ∃ Su D,Lv u Su g dg P G L D∧Nx S w Su u∧WHas u a len V∧WOut Su a len V∧runE (homeS ((wl V).drop k)++rs) D=eE∧runD (homeS ((wl V).drop k)++rs) D=eD

theorem lv_write {w:World}{S:Nat→Prop}{g dg:Nat}{P:Nat→Int}{G:Geo}{L:Lg}{D:Dev}{u:World}{Su:Nat→Prop}(h:Lv u Su g dg P G L D){a:Option Addr}{len:Nat}{V:List Wr}(hV:WHas u a len V)(hO:WOut Su a len V){k:Nat}(hk:k<len)(hd:(wat V k).dl=G.blk)(i:Nat)(hi:i<G.n) :
  Calls Tryz.prog 124 #[.pointer (some ⟨dg,0,none⟩),.int .i64 (i:Int),.slice (wat V k).da (wat V k).dl (wat V k).dc] u fun e u'=>e=.returned (.int .i64 D.wE)∧∃ S',Lv u' S' g dg P G L (D.wD i (wat V k).z)∧Nx Su u S' u':=by
 obtain⟨Sl,Sd,m,h1⟩:=h
 have hr:=hV.row k hk
 have ho:Out Sd (wat V k).dl (wat V k).da:=fun hp x e hs=>hO.2 k hk hp x e ((h1.all _).2 (.inr hs))
 rw[hd] at hr ho ⊢
 have:=write_any dg i (wat V k).da (wat V k).dc (wat V k).z Sd D u h1.dd (by rw[h1.nd];exact hi) (by rw[h1.bd];exact hr) (by rw[h1.bd];exact ho)
 rw[h1.bd] at this
 refine this.mono ?_
 rintro e u' ⟨rfl,S',x1,x2⟩
 obtain⟨y1,y2⟩:=h1.dev x1 x2 (Dev.wD_n D i _)
 exact⟨rfl,_,y1.lv,y2⟩

theorem AJ.step {w:World}{S:Nat→Prop}{g dg:Nat}{P:Nat→Int}{G:Geo}{L:Lg}{a:Option Addr}{len:Nat}{V:List Wr}{rs:List Stp}{eE:Int}{eD:Dev}{k:Nat}{u:World}(h:AJ w S g dg P G L a len V rs eE eD k u)(hk:k<len)(hd:∀ x∈V,x.dl=G.blk)(b:Nat)(hb:(wat V k).b=(b:Int))(hi:b<G.n)(u1:World)(hu:Below u.heap.size u u1) :
  u1.cell? ⟨g,0,none⟩=some (.pointer (some ⟨dg,0,none⟩)) ∧
  Hid (Calls Tryz.prog 124 #[.pointer (some ⟨dg,0,none⟩),.int .i64 (b:Int),.slice (wat V k).da (wat V k).dl (wat V k).dc] u1 fun e u'=>∃ q:Int,e=.returned (.int .i64 q)∧(q=0∨q=7)∧Hid ((q=0→AJ w S g dg P G L a len V rs eE eD (k+1) u')∧(q=7→eE=7∧∃ S',Lv u' S' g dg P G L eD∧Nx S w S' u'))):=by
 obtain⟨Su,D,h1,h2,h3,h4,h5,h6⟩:=h
 have hln:=h3.ln
 have e1:homeS ((wl V).drop k)++rs=.w b (wat V k).z::(homeS ((wl V).drop (k+1))++rs):=by
  rw[wl_drop (by omega),homeS,hb]
  simp
 rw[e1] at h5 h6
 refine⟨?_,?_⟩
 ·obtain⟨_,_,_,x⟩:=h1.below hu
  exact x.ll.cells.1
 ·refine(lv_write (w:=w) (S:=S) (h1.below hu) (h3.later hu) h4 hk (hd _ (wat_mem (by omega))) b hi).mono ?_
  rintro e u' ⟨rfl,S',l1,n1⟩
  obtain⟨y1,y2⟩:=(h3.later hu).nx n1 h4
  refine⟨_,rfl,D.wE_two,fun h0=>⟨S',_,l1,(h2.below' hu).trans n1,y1,y2,?_,?_⟩,fun h7=>⟨?_,S',?_,(h2.below' hu).trans n1⟩⟩
  ·rw[runE_ok h0] at h5;exact h5
  ·rw[runD_ok h0] at h6;exact h6
  ·rw[runE_no (by omega)] at h5;exact h5.symm
  ·rw[runD_no (by omega)] at h6;rw[← h6];exact l1

theorem freed_ok {G:Geo}(hG:G.Ok){H:Hd}(h:H.Ok G):(G.freed H).Ok G:=by
 have h1:=hG.l1
 exact⟨h.seq,Nat.mod_lt _ (by omega),Nat.zero_le _⟩

theorem apply_tail {w:World}{S:Nat→Prop}{g dg:Nat}{P:Nat→Int}{G:Geo}{L:Lg}{D:Dev}{u:World}{Su:Nat→Prop}(h:Lv u Su g dg P G L D)(hx:Nx S w Su u){eE:Int}{eD:Dev}(e1:runE (stlS G (G.freed L.h)) D=eE)(e2:runD (stlS G (G.freed L.h)) D=eD)(u1:World)(hu:Nx Su u Su u1)(hl:Lv u1 Su g dg P G L D) :
  Calls Tryz.prog 212 #[.pointer (some ⟨g,0,none⟩),Hv (G.freed L.h).fn] u1 fun e u2=>e=.returned (.int .i64 eE) ∧
   (eE=0→∃ mb u3,u2.cell? ⟨g,16,none⟩=some (.map (some mb))∧Hid (∀ ty,(Builtin.clear_ #[78] ty #[.map (some mb)]).run Tryz.prog u2=.ok (.tuple #[]) u3)∧Hid (∃ S',Lv u3 S' g dg P G { L with h:=G.freed L.h,Q:=fun _=>none } eD∧Nx S w S' u3)) ∧
   (eE≠0→Hid (∃ S',Lv u2 S' g dg P G L eD∧Nx S w S' u2)):=by
 have hG:G.Ok:=by obtain⟨_,_,_,x⟩:=h;exact x.ll.pg.ok
 have hh:L.h.Ok G:=by obtain⟨_,_,_,x⟩:=h;exact x.ll.hok
 refine(settle_lj g dg Su P G L D (G.freed L.h) (freed_ok hG hh) u1 hl none 0 [] (WHas.none _) (WOut.none _)).mono ?_
 rintro e u2 ⟨rfl,J⟩
 rw[e1,e2] at J
 refine⟨by rw[e1],fun h0=>?_,fun h0=>?_⟩
 ·rw[if_pos h0] at J
  obtain⟨Sl,m,l1,l2⟩:=(unhide J).own
  obtain⟨u3,r3,l3,n3⟩:=l1.clr
  obtain⟨S',l4,n4⟩:=(l2 _ _ _ _ l3 n3).fin
  exact⟨m.mb,u3,l1.cells.2.2.2.2.2.1,r3,S',l4,(hx.trans hu).trans n4⟩
 ·rw[if_neg h0] at J
  obtain⟨S',l4,n4⟩:=(unhide J).fin
  exact⟨S',l4,(hx.trans hu).trans n4⟩

theorem apl_nums {G:Geo}(hG:G.Ok)(t u:Nat)(ht:t<G.lg)(hu:u≤G.lg):IntKind.i64.wrap ((t:Int)+(u:Int))=((t+u:Nat):Int)∧((t+u:Nat):Int).tmod (G.lg:Int)=(((t+u)%G.lg:Nat):Int)∧(G.lg:Int)≠0:=by
 have h1:=hG.l1
 have h2:=hG.l2
 refine⟨?_,rfl,by omega⟩
 rw[IntKind.wrap_i64]
 omega

theorem apply_none (g dg:Nat)(S:Nat→Prop)(P:Nat→Int)(G:Geo)(L:Lg)(D:Dev)(w:World)(h:Lv w S g dg P G L D)(h0:L.h.used=0) :
  Calls Tryz.prog 168 #[.pointer (some ⟨g,0,none⟩)] w fun e w'=>e=.returned (.int .i64 0)∧w=w':=by
 have c5:w.cell? ⟨g,15,none⟩=some (.int .i64 0):=by
  obtain⟨_,_,_,x⟩:=h
  have:=x.ll.cells.2.2.2.2.1
  rwa [h0] at this
 clear h h0
 go_enter Tryz.func168,Tryz.ntmps168
 go_wp2
 go_ret
 exact⟨rfl,rfl⟩

theorem apply_first {w:World}{S:Nat→Prop}{g dg:Nat}{P:Nat→Int}{G:Geo}{L:Lg}{D:Dev}(h:Lv w S g dg P G L D) :
  Calls Tryz.prog 115 #[.pointer (some ⟨g,0,none⟩)] w fun e w1=>∃ a len c V,e=.returned (.slice a len c)∧len≤4096∧Hid ((∀ x∈V,x.dl=G.blk)∧(∀ k,k<len→∃ b:Nat,(wat V k).b=(b:Int)∧b<G.n)∧AJ w S g dg P G L a len V (stlS G (G.freed L.h)) (runE (aplS G L) D) (runD (aplS G L) D) 0 w1):=by
 have hL:=h
 obtain⟨Sl,Sd,m,x⟩:=h
 refine(pending_any g dg Sl P G L m w x.ll).mono ?_
 rintro e w1 ⟨v,V,rfl,X⟩
 obtain⟨g1,g2,g3,g4⟩:=unhide X
 obtain⟨a,c,rfl,_⟩:=g1.shape
 have hh:=g1.has.1
 have hlen:V.length=(pendL G L.Q).length:=by rw[← wl_len,g2,pendW_len]
 refine⟨a,V.length,c,V,rfl,?_,fun x hx=>(g3 x hx).1,fun k hk=>?_,S,D,hL.below g4,(Nx.refl S w).below' g4,hh,g1.out (fun k hs=>hL.lt hs),?_,?_⟩
 ·rw[hlen]
  exact Nat.le_trans (pendL_len G L.Q) x.ll.pg.ok.n2
 ·have e1:(wl V)[k]?=some ((wat V k).b.toNat,(wat V k).z):=by simp[wl,wat,List.getElem?_eq_getElem hk]
  rw[g2] at e1
  unfold pendW at e1
  rw[List.getElem?_map] at e1
  obtain⟨b,hb,e2⟩:=Option.map_eq_some_iff.1 e1
  have hbn:=(pendL_mem.1 (List.mem_of_getElem? hb)).1
  refine⟨b,?_,hbn⟩
  have e3:b=(wat V k).b.toNat:=(Prod.mk.inj e2).1
  have hnn:0≤(wat V k).b:=(g3 _ (wat_mem hk)).2
  omega
 ·rw[List.drop_zero,g2];rfl
 ·rw[List.drop_zero,g2];rfl

theorem apply_box {g dg:Nat}{P:Nat→Int}{G:Geo}{L:Lg}{D:Dev}{u:World}{Su:Nat→Prop}(h:Lv u Su g dg P G L D)(u1:World)(hu1:u1=u.alloc (.cells (Hc L.h.fn) 81)) :
  u1.cell? ⟨u.heap.size,0,none⟩=some (.int .i64 (L.h.seq:Int))∧u1.cell? ⟨u.heap.size,1,none⟩=some (.int .i64 (L.h.tail:Int))∧u1.cell? ⟨u.heap.size,2,none⟩=some (.int .i64 (L.h.used:Int))∧(∀ k,u1.frozen? ⟨u.heap.size,k,none⟩=false)∧u1.cell? ⟨g,4,none⟩=some (.int .i64 (G.lg:Int)) ∧
   Hid (∀ u2,u2=((u1.setCell ⟨u.heap.size,1,none⟩ (.int .i64 (((L.h.tail:Int)+(L.h.used:Int))%(G.lg:Int)))).setCell ⟨u.heap.size,2,none⟩ (.int .i64 0)).drew →
    Bl u2 u.heap.size (Hc (G.freed L.h).fn) 81∧Lv u2 Su g dg P G L D∧Nx Su u Su u2):=by
 subst hu1
 have hb:Below u.heap.size u (u.alloc (.cells (Hc L.h.fn) 81)):=(Below.refl _ u).alloc (Nat.le_refl _) _
 have z:=Bl.new u (Hc L.h.fn) 81
 have l1:=h.below hb
 have n1:=(Nx.refl Su u).below' hb
 have hno:¬ Su u.heap.size:=fun hs=>by have:=h.lt hs;omega
 have h0:0<u.heap.size:=by obtain⟨_,_,_,x⟩:=h;exact x.tab.lt
 refine⟨z.cell 0 _ rfl,z.cell 1 _ rfl,z.cell 2 _ rfl,z.free,?_,?_⟩
 ·obtain⟨_,_,_,x⟩:=l1
  have:=x.ll.cells.2.1 3 (by omega)
  rwa [x.ll.pg.p3] at this
 ·have et:((L.h.tail:Int)+(L.h.used:Int))%(G.lg:Int)=(((L.h.tail+L.h.used)%G.lg:Nat):Int):=by simp
  rw[et]
  rintro u2 rfl
  have z2:=(z.set 1 (.int .i64 (((L.h.tail+L.h.used)%G.lg:Nat):Int))).set 2 (.int .i64 0)
  have e0:((Hc L.h.fn).setIfInBounds 1 (.int .i64 (((L.h.tail+L.h.used)%G.lg:Nat):Int))).setIfInBounds 2 (.int .i64 0)=Hc (G.freed L.h).fn:=rfl
  rw[e0] at z2
  have hk:∀ k,k≠u.heap.size→(((u.alloc (.cells (Hc L.h.fn) 81)).setCell ⟨u.heap.size,1,none⟩ (.int .i64 (((L.h.tail+L.h.used)%G.lg:Nat):Int))).setCell ⟨u.heap.size,2,none⟩ (.int .i64 0)).heap[k]?=(u.alloc (.cells (Hc L.h.fn) 81)).heap[k]?:=fun k hk=>(Below.heap_setCell _ ⟨u.heap.size,2,none⟩ _ k hk).trans (Below.heap_setCell _ ⟨u.heap.size,1,none⟩ _ k hk)
  have hsz:(((u.alloc (.cells (Hc L.h.fn) 81)).setCell ⟨u.heap.size,1,none⟩ (.int .i64 (((L.h.tail+L.h.used)%G.lg:Nat):Int))).setCell ⟨u.heap.size,2,none⟩ (.int .i64 0)).heap.size=(u.alloc (.cells (Hc L.h.fn) 81)).heap.size:=by simp[World.setCell]
  have hn2:Nx Su u Su (((u.alloc (.cells (Hc L.h.fn) 81)).setCell ⟨u.heap.size,1,none⟩ (.int .i64 (((L.h.tail+L.h.used)%G.lg:Nat):Int))).setCell ⟨u.heap.size,2,none⟩ (.int .i64 0)):=⟨⟨n1.fr.os,n1.fr.tape,n1.fr.output,by rw[hsz];exact n1.fr.size,fun k hk' hs=>(hk k (by omega)).trans (n1.fr.block k hk' hs)⟩,n1.sub⟩
  have hl2:Lv (((u.alloc (.cells (Hc L.h.fn) 81)).setCell ⟨u.heap.size,1,none⟩ (.int .i64 (((L.h.tail+L.h.used)%G.lg:Nat):Int))).setCell ⟨u.heap.size,2,none⟩ (.int .i64 0)) Su g dg P G L D:=by
   obtain⟨Sl,Sd,m,hl⟩:=l1
   exact(hl.keptAll (fun k hs=>hk k (fun e=>hno (by rw[← e];exact hs))) (hk 0 (by omega)) (by rw[hsz];exact Nat.le_refl _)).lv
  exact⟨z2.drew,hl2.below ((Below.refl _ _).drew),hn2.drew⟩

theorem apply_some (g dg:Nat)(S:Nat→Prop)(P:Nat→Int)(G:Geo)(L:Lg)(D:Dev)(w:World)(h:Lv w S g dg P G L D)(h0:L.h.used≠0) :
  Calls Tryz.prog 168 #[.pointer (some ⟨g,0,none⟩)] w fun e w'=>e=.returned (.int .i64 (runE (aplS G L) D))∧∃ S',Lv w' S' g dg P G (if runE (aplS G L) D=0 then { L with h:=G.freed L.h,Q:=fun _=>none } else L) (runD (aplS G L) D)∧Nx S w S' w':=by
 have K1:=hide (apply_first h)
 have c5:w.cell? ⟨g,15,none⟩=some (.int .i64 (L.h.used:Int)):=by
  obtain⟨_,_,_,x⟩:=h
  exact x.ll.cells.2.2.2.2.1
 have d5:((L.h.used:Int)==0)=false:=by simpa using h0
 have hG:G.Ok:=by obtain⟨_,_,_,x⟩:=h;exact x.ll.pg.ok
 have hh:L.h.Ok G:=by obtain⟨_,_,_,x⟩:=h;exact x.ll.hok
 obtain⟨s1,s2,s3⟩:=apl_nums hG L.h.tail L.h.used hh.tail hh.used
 have KS:Hid (∀ a len V k u,AJ w S g dg P G L a len V (stlS G (G.freed L.h)) (runE (aplS G L) D) (runD (aplS G L) D) k u→k<len→(∀ x∈V,x.dl=G.blk)→∀ b:Nat,(wat V k).b=(b:Int)→b<G.n→∀ u1,Below u.heap.size u u1→_):=fun a len V k u hA hk hd b hb hi u1 hu=>hA.step hk hd b hb hi u1 hu
 have KC:Hid (∀ a len V k u,AJ w S g dg P G L a len V (stlS G (G.freed L.h)) (runE (aplS G L) D) (runD (aplS G L) D) k u→k<len→∃ kb off,a=some ⟨kb,off,none⟩∧u.cell? ⟨kb,off+k*2,none⟩=some (.int .i64 (wat V k).b)∧u.cell? ⟨kb,off+k*2+1,none⟩=some (.slice (wat V k).da (wat V k).dl (wat V k).dc)):=fun a len V k u hA hk=>by
  obtain⟨_,_,_,_,h3,_⟩:=hA
  obtain⟨kb,off,e,_,hc⟩:=h3.cel (by omega)
  exact⟨kb,off,e,(hc k hk).1,(hc k hk).2⟩
 have KE:Hid (∀ a len V u,AJ w S g dg P G L a len V (stlS G (G.freed L.h)) (runE (aplS G L) D) (runD (aplS G L) D) len u→∃ Su D',Lv u Su g dg P G L D'∧Nx S w Su u∧runE (stlS G (G.freed L.h)) D'=runE (aplS G L) D∧runD (stlS G (G.freed L.h)) D'=runD (aplS G L) D):=fun a len V u hA=>by
  obtain⟨Su,D',h1,h2,h3,h4,h5,h6⟩:=hA
  rw[List.drop_of_length_le (by rw[wl_len,h3.ln];omega)] at h5 h6
  exact⟨Su,D',h1,h2,h5,h6⟩
 clear h h0 hG hh
 generalize hrE:runE (aplS G L) D=eE at *
 generalize runD (aplS G L) D=eD at *
 have hE7:eE=0∨eE=7:=by rw[← hrE];exact runE_two _ _
 clear hrE
 obtain⟨LL,hLL⟩:∃ LL,(if eE=0 then { L with h:=G.freed L.h,Q:=fun _=>none } else L)=LL:=⟨_,rfl⟩
 rw[hLL]
 have HL:Hid ((eE=0→LL={ L with h:=G.freed L.h,Q:=fun _=>none })∧(eE≠0→LL=L)):=⟨fun h=>by rw[← hLL,if_pos h],fun h=>by rw[← hLL,if_neg h]⟩
 clear hLL
 go_enter Tryz.func168,Tryz.ntmps168
 go_wp2_with fail
 go_at_call 115
 refine(unhide K1).mono ?_
 rintro e w1 ⟨a,len,c,V,rfl,hl,X⟩
 obtain⟨v1,v2,v3⟩:=unhide X
 have V1:=hide v1
 have V2:=hide v2
 have V3:=hide v3
 clear K1 X v1 v2 v3 c5 d5
 go_wp2_with fail
 go_loopw [17] (fun i wr=>∃ k:Nat,k≤len∧i=.int .i64 (k:Int)∧Hid (AJ w S g dg P G L a len V (stlS G (G.freed L.h)) eE eD k wr)) (fun i _=>len - (intOf i).toNat)
 case atStart=>exact⟨0,Nat.zero_le _,rfl,V3⟩
 case round =>
  obtain⟨k,hk,rfl,hJ⟩:=hrel
  clear V3
  by_cases hlt:k<len
  ·obtain⟨kb,off,ea,x1,x2⟩:=unhide KC _ _ _ _ _ (unhide hJ) hlt
   obtain⟨b,hb,hbn⟩:=unhide V2 k hlt
   rw[hb] at x1
   obtain⟨d0,KW⟩:=unhide KS _ _ _ _ _ (unhide hJ) hlt (unhide V1) b hb hbn (wr.alloc (.cells #[.int .i64 (b:Int),.slice (wat V k).da (wat V k).dl (wat V k).dc] 171)).drew (((Below.refl _ wr).alloc (Nat.le_refl _) _).drew)
   have HC:=hide (Bl.new wr #[.int .i64 (b:Int),.slice (wat V k).da (wat V k).dl (wat V k).dc] 171)
   clear KC KS KE hJ hb hbn V1 V2 s1 s2 s3 hE7
   subst ea
   go_upto_region 6 with fail
   change Code.wp _ _ _ _ (wr.alloc (.cells #[.int .i64 (b:Int),.slice (wat V k).da (wat V k).dl (wat V k).dc] 171))
   have d0':(wr.alloc (.cells #[.int .i64 (b:Int),.slice (wat V k).da (wat V k).dl (wat V k).dc] 171)).cell? ⟨g,0,none⟩=some (.pointer (some ⟨dg,0,none⟩)):=d0
   clear d0
   generalize wr.alloc (.cells #[.int .i64 (b:Int),.slice (wat V k).da (wat V k).dl (wat V k).dc] 171)=ub at *
   generalize wr.heap.size=gb at *
   have b0:=(unhide HC).cell 0 (.int .i64 (b:Int)) rfl
   have b1:=(unhide HC).cell 1 (.slice (wat V k).da (wat V k).dl (wat V k).dc) rfl
   clear x1 x2 HC
   go_cut [5] (fun cc wx=>∃ q:Int,cc=.int .i64 q∧(q=0∨q=7)∧Hid ((q=0→AJ w S g dg P G L (some ⟨kb,off,none⟩) len V (stlS G (G.freed L.h)) eE eD (k+1) wx)∧(q=7→eE=7∧∃ S',Lv wx S' g dg P G L eD∧Nx S w S' wx)))
   case first =>
    clear hl hk hlt
    go_region_with (go_at_call 124;refine(unhide KW).mono ?_;rintro e u3 ⟨q,rfl,hq,Z⟩)
    all_goals
     go_wp2_with fail
     go_meet
     exact⟨q,rfl,hq,Z⟩
   case rest =>
    obtain⟨q,rfl,hq,Z⟩:=hcut
    clear KW d0' b0 b1
    rcases hq with rfl | rfl
    ·have Z2:=hide ((unhide Z).1 rfl)
     clear Z
     go_wp2_with fail
     go_roundw
     case rel=>exact⟨k+1,by omega,by go_num,Z2⟩
     case measure=>simp[intOf];omega
    ·have Z2:=hide ((unhide Z).2 rfl)
     clear Z
     go_wp2_with fail
     go_ret
     obtain⟨e7,S',l1,n1⟩:=unhide Z2
     have eL:=(unhide HL).2 (by omega)
     rw[eL]
     subst e7
     exact⟨rfl,S',l1,n1⟩
  ·have ek:k=len:=by omega
   rw[ek] at hJ
   obtain⟨Su,D',l1,n1,e1,e2⟩:=unhide KE _ _ _ _ (unhide hJ)
   obtain⟨x0,x1,x2,x3,x4,HB⟩:=apply_box l1 _ rfl
   have KT:Hid (∀ u1,Nx Su wr Su u1→Lv u1 Su g dg P G L D'→_):=fun u1 hu hl=>apply_tail l1 n1 e1 e2 u1 hu hl
   have c13:wr.cell? ⟨g,13,none⟩=some (.int .i64 (L.h.seq:Int))∧wr.cell? ⟨g,14,none⟩=some (.int .i64 (L.h.tail:Int))∧wr.cell? ⟨g,15,none⟩=some (.int .i64 (L.h.used:Int)):=by
    obtain⟨_,_,_,x⟩:=l1
    exact⟨x.ll.cells.2.2.1,x.ll.cells.2.2.2.1,x.ll.cells.2.2.2.2.1⟩
   obtain⟨c3,c4,c5⟩:=c13
   clear KC KS KE hJ V1 V2 l1 n1 e1 e2
   go_upto_region 11 with fail
   clear hlt hk ek hl
   change Code.wp _ _ _ _ (wr.alloc (.cells (Hc L.h.fn) 81))
   go_cut [] (fun wx=>Hid (Bl wx wr.heap.size (Hc (G.freed L.h).fn) 81∧Lv wx Su g dg P G L D'∧Nx Su wr Su wx))
   case first =>
    clear KT HL hE7 c3 c4 c5
    generalize wr.alloc (.cells (Hc L.h.fn) 81)=ub at *
    go_region
    all_goals
     go_wp2_with fail
     go_meet
     exact unhide HB _ rfl
   case rest =>
    have K2:=hide (unhide KT _ (unhide hcut).2.2 (unhide hcut).2.1)
    have y0:=(unhide hcut).1.cell 0 (.int .i64 (G.freed L.h).seq) rfl
    have y1:=(unhide hcut).1.cell 1 (.int .i64 (G.freed L.h).tail) rfl
    have y2:=(unhide hcut).1.cell 2 (.int .i64 (G.freed L.h).used) rfl
    clear KT hcut HB x0 x1 x2 x3 x4 c3 c4 c5 s1 s2 s3
    change Hid (Calls Tryz.prog 212 #[.pointer (some ⟨g,0,none⟩),.agg #[.int .i64 ((G.freed L.h).seq:Int),.int .i64 ((G.freed L.h).tail:Int),.int .i64 ((G.freed L.h).used:Int)]] _ _) at K2
    generalize G.freed L.h=HF at *
    rcases hE7 with rfl | rfl
    ·go_wp2_with fail
     go_at_call 212
     refine(unhide K2).mono ?_
     rintro e u2 ⟨rfl,Z,_⟩
     obtain⟨mb,u3,m1,R3,X3⟩:=Z trivial
     have r3:=unhide R3
     clear K2 Z y0 y1 y2
     go_wp2_with fail
     go_ret
     have eL:=(unhide HL).1 trivial
     rw[eL]
     exact⟨rfl,unhide X3⟩
    ·go_wp2_with fail
     go_at_call 212
     refine(unhide K2).mono ?_
     rintro e u2 ⟨rfl,_,Z⟩
     have X3:=Z (by decide)
     clear K2 Z y0 y1 y2
     go_wp2_with fail
     go_ret
     have eL:=(unhide HL).2 (by decide)
     rw[eL]
     exact⟨rfl,unhide X3⟩

theorem apply_any (g dg:Nat)(S:Nat→Prop)(P:Nat→Int)(G:Geo)(L:Lg)(D:Dev)(w:World)(h:Lv w S g dg P G L D) :
  Calls Tryz.prog 168 #[.pointer (some ⟨g,0,none⟩)] w fun e w'=>e=.returned (.int .i64 (apE G L D))∧∃ S',Lv w' S' g dg P G (apL G L D) (apD G L D)∧Nx S w S' w':=by
 unfold apE apL apD
 by_cases h0:L.h.used=0
 ·rw[if_pos h0,if_pos h0,if_pos h0]
  refine(apply_none g dg S P G L D w h h0).mono ?_
  rintro e w' ⟨rfl,rfl⟩
  exact⟨rfl,S,h,Nx.refl _ _⟩
 ·rw[if_neg h0,if_neg h0,if_neg h0]
  exact apply_some g dg S P G L D w h h0

def wv (V:List Wr):List (Int×Nat):=V.map (fun v=>(v.b,v.dl))

theorem LgM.below' {u u':World}{S:Nat→Prop}{g dg:Nat}{P:Nat→Int}{G:Geo}{L:Lg}{m:LMem}(h:LgM u S g dg P G L m)(hb:Below u.heap.size u u'):LgM u' S g dg P G L m:=h.kept (fun k hk=>hb.block k (h.lt k hk)) (fun _ h=>h) (fun k hk=>Nat.lt_of_lt_of_le (h.lt k hk) hb.size)

theorem refl_arg (g dg:Nat)(S:Nat→Prop)(P:Nat→Int)(G:Geo)(L:Lg)(m:LMem)(w:World)(h:LgM w S g dg P G L m)(a:Option Addr)(len cap:Nat)(V:List Wr)(hV:WHas w a len V)(hl:len≤4398046511104)(hbad:¬ ∀ j,j<len→(wat V j).dl=G.blk) :
  Calls Tryz.prog 157 #[.pointer (some ⟨g,0,none⟩),.slice a len cap] w fun e w'=>e=.returned (.int .i64 1)∧Below w.heap.size w w':=by
 have KC:Hid (∀ u k,k<len→Below w.heap.size w u→∃ kb off,a=some ⟨kb,off,none⟩∧u.cell? ⟨kb,off+k*2,none⟩=some (.int .i64 (wat V k).b)∧u.cell? ⟨kb,off+k*2+1,none⟩=some (.slice (wat V k).da (wat V k).dl (wat V k).dc)):=fun u k hk hb=>by
  obtain⟨kb,off,e,hkb,hc⟩:=hV.cel (by omega)
  exact⟨kb,off,e,(hb.cell (p:=⟨kb,_,none⟩) hkb).trans (hc k hk).1,(hb.cell (p:=⟨kb,_,none⟩) hkb).trans (hc k hk).2⟩
 have KB:Hid (∀ u,Below w.heap.size w u→u.cell? ⟨g,1,none⟩=some (.int .i64 (G.blk:Int))):=fun u hb=>by
  have:=(h.below' hb).cells.2.1 0 (by omega)
  rwa [h.pg.p0] at this
 have d0:((len:Int)==0)=false:=by
  have:len≠0:=fun e=>hbad (fun j hj=>absurd hj (by omega))
  simpa using this
 have HB:=hide hbad
 clear h hV hbad
 go_enter Tryz.func157,Tryz.ntmps157
 go_wp2_with fail
 go_loopw [13] (fun i wr=>∃ k:Nat,k≤len∧i=.int .i64 (k:Int)∧Hid (Below w.heap.size w wr)∧Hid (∀ j,j<k→(wat V j).dl=G.blk)) (fun i _=>len - (intOf i).toNat)
 case atStart=>exact⟨0,Nat.zero_le _,rfl,Below.refl _ _,fun j hj=>absurd hj (by omega)⟩
 case round =>
  obtain⟨k,hk,rfl,hJ,hR⟩:=hrel
  by_cases hlt:k<len
  ·obtain⟨kb,off,ea,x1,x2⟩:=unhide KC wr k hlt (unhide hJ)
   have J2:=hide ((unhide hJ).alloc (unhide hJ).size (.cells #[.int .i64 (wat V k).b,.slice (wat V k).da (wat V k).dl (wat V k).dc] 171))
   have b0:=unhide KB _ (unhide J2)
   have b1:=(Bl.new wr #[.int .i64 (wat V k).b,.slice (wat V k).da (wat V k).dl (wat V k).dc] 171).cell 1 (.slice (wat V k).da (wat V k).dl (wat V k).dc) rfl
   have hR2:Hid ((wat V k).dl=G.blk→∀ j,j<k+1→(wat V j).dl=G.blk):=fun e j hj=>by
    by_cases e1:j=k
    ·rw[e1];exact e
    ·exact unhide hR j (by omega)
   clear KC KB hR hJ
   subst ea
   generalize (wat V k).b=xb at *
   generalize (wat V k).da=xa at *
   generalize (wat V k).dc=xc at *
   generalize (wat V k).dl=xl at *
   go_upto_region 6 with fail
   change Code.wp _ _ _ _ (wr.alloc (.cells #[.int .i64 xb,.slice xa xl xc] 171))
   generalize wr.alloc (.cells #[.int .i64 xb,.slice xa xl xc] 171)=ub at *
   generalize wr.heap.size=gb at *
   by_cases e:xl=G.blk
   ·have d1:((xl:Int) != (G.blk:Int))=false:=by rw[e];simp
    have R2:=hide (unhide hR2 e)
    clear hR2 e x1 x2
    go_quiet (fail)
    go_wp2
    go_roundw
    case rel=>exact⟨k+1,by omega,by go_num,below_drewN (unhide J2) _,R2⟩
    case measure=>simp[intOf];omega
   ·have d1:((xl:Int) != (G.blk:Int))=true:=by simpa using fun e':(xl:Int)=(G.blk:Int)=>e (by omega)
    clear hR2 e x1 x2
    go_quiet (fail)
    go_wp2
    go_ret
    exact⟨rfl,below_drewN (unhide J2) _⟩
  ·exfalso
   obtain rfl:k=len:=by omega
   exact unhide HB (unhide hR)

theorem LgM.plan {u:World}{S:Nat→Prop}{g dg:Nat}{P:Nat→Int}{G:Geo}{L:Lg}{m:LMem}(h:LgM u S g dg P G L m):u.cell? ⟨g,1,none⟩=some (.int .i64 (P 0))∧u.cell? ⟨g,2,none⟩=some (.int .i64 (P 1))∧u.cell? ⟨g,3,none⟩=some (.int .i64 (P 2))∧u.cell? ⟨g,4,none⟩=some (.int .i64 (P 3))∧u.cell? ⟨g,5,none⟩=some (.int .i64 (P 4))∧u.cell? ⟨g,6,none⟩=some (.int .i64 (P 5))∧u.cell? ⟨g,7,none⟩=some (.int .i64 (P 6))∧u.cell? ⟨g,8,none⟩=some (.int .i64 (P 7))∧u.cell? ⟨g,9,none⟩=some (.int .i64 (P 8))∧u.cell? ⟨g,10,none⟩=some (.int .i64 (P 9))∧u.cell? ⟨g,11,none⟩=some (.int .i64 (P 10))∧u.cell? ⟨g,12,none⟩=some (.int .i64 (P 11)) :=
 ⟨h.cells.2.1 0 (by omega),h.cells.2.1 1 (by omega),h.cells.2.1 2 (by omega),h.cells.2.1 3 (by omega),h.cells.2.1 4 (by omega),h.cells.2.1 5 (by omega),h.cells.2.1 6 (by omega),h.cells.2.1 7 (by omega),h.cells.2.1 8 (by omega),h.cells.2.1 9 (by omega),h.cells.2.1 10 (by omega),h.cells.2.1 11 (by omega)⟩

def lst2E (G:Geo) (seq:Nat) (ns:List Int):Int:=if blkE G ns=0 then (if G.lg<G.uses ns.length then 5 else if 4294967295 - seq<G.parts ns.length then 8 else 0) else blkE G ns

structure RF (w:World) (g:Nat) (P:Nat→Int) (G:Geo) (L:Lg) (u:World):Prop where
 bel:Below w.heap.size w u
 pl:u.cell? ⟨g,1,none⟩=some (.int .i64 (P 0))∧u.cell? ⟨g,2,none⟩=some (.int .i64 (P 1))∧u.cell? ⟨g,3,none⟩=some (.int .i64 (P 2))∧u.cell? ⟨g,4,none⟩=some (.int .i64 (P 3))∧u.cell? ⟨g,5,none⟩=some (.int .i64 (P 4))∧u.cell? ⟨g,6,none⟩=some (.int .i64 (P 5))∧u.cell? ⟨g,7,none⟩=some (.int .i64 (P 6))∧u.cell? ⟨g,8,none⟩=some (.int .i64 (P 7))∧u.cell? ⟨g,9,none⟩=some (.int .i64 (P 8))∧u.cell? ⟨g,10,none⟩=some (.int .i64 (P 9))∧u.cell? ⟨g,11,none⟩=some (.int .i64 (P 10))∧u.cell? ⟨g,12,none⟩=some (.int .i64 (P 11))
 lg:u.cell? ⟨g,4,none⟩=some (.int .i64 (G.lg:Int))
 sq:u.cell? ⟨g,13,none⟩=some (.int .i64 (L.h.seq:Int))

theorem RF.of {w u:World}{S:Nat→Prop}{g dg:Nat}{P:Nat→Int}{G:Geo}{L:Lg}{m:LMem}(h:LgM w S g dg P G L m)(hb:Below w.heap.size w u):RF w g P G L u:=by
 have h1:=h.below' hb
 have:=h1.cells.2.1 3 (by omega)
 rw[h.pg.p3] at this
 exact⟨hb,h1.plan,this,h1.cells.2.2.1⟩

theorem refl_rest (g dg:Nat)(S:Nat→Prop)(P:Nat→Int)(G:Geo)(L:Lg)(m:LMem)(w:World)(h:LgM w S g dg P G L m)(a:Option Addr)(len cap:Nat)(V:List Wr)(hV:WHas w a len V)(hl:len≤4398046511104)(hgood:∀ j,j<len→(wat V j).dl=G.blk)(hz:len≠0) :
  Calls Tryz.prog 157 #[.pointer (some ⟨g,0,none⟩),.slice a len cap] w fun e w'=>e=.returned (.int .i64 (lst2E G L.h.seq (V.map (·.b))))∧Below w.heap.size w w':=by
 have KC:Hid (∀ u k,k<len→Below w.heap.size w u→∃ kb off,a=some ⟨kb,off,none⟩∧u.cell? ⟨kb,off+k*2,none⟩=some (.int .i64 (wat V k).b)∧u.cell? ⟨kb,off+k*2+1,none⟩=some (.slice (wat V k).da (wat V k).dl (wat V k).dc)):=fun u k hk hb=>by
  obtain⟨kb,off,e,hkb,hc⟩:=hV.cel (by omega)
  exact⟨kb,off,e,(hb.cell (p:=⟨kb,_,none⟩) hkb).trans (hc k hk).1,(hb.cell (p:=⟨kb,_,none⟩) hkb).trans (hc k hk).2⟩
 have KB:Hid (∀ u,Below w.heap.size w u→u.cell? ⟨g,1,none⟩=some (.int .i64 (G.blk:Int))):=fun u hb=>by
  have:=(h.below' hb).cells.2.1 0 (by omega)
  rwa [h.pg.p0] at this
 have hlen:(V.map (·.b)).length=len:=by rw[List.length_map,hV.ln]
 have KF:Hid (∀ u,Below w.heap.size w u→RF w g P G L u):=fun u hb=>RF.of h hb
 have KN:Hid (∀ u,Below w.heap.size w u→Calls Tryz.prog 210 #[.slice a len cap] u fun e w'=>e=.returned (.slice (some ⟨u.heap.size,0,none⟩) len len)∧Hid (IHas w' (some ⟨u.heap.size,0,none⟩) len (V.map (·.b)))∧Below u.heap.size u w'):=fun u hb=>named_any a len cap V u (hV.later hb) hl
 have KR:Hid (∀ u x,IHas u x len (V.map (·.b))→Calls Tryz.prog 181 #[Pv P,.slice x len len] u fun e w'=>e=.returned (.int .i64 (blkE G (V.map (·.b))))∧Below u.heap.size u w'):=fun u x hi=>refusesBlocks_any P G h.pg x len len _ u hi hl
 have KU:Hid (∀ u,Calls Tryz.prog 152 #[Pv P,.int .i64 (len:Int)] u fun e w'=>e=.returned (.int .i64 (G.uses len:Int))∧Below u.heap.size u w'):=fun u=>uses_any P G h.pg len (by omega) u
 have KT:Hid (∀ u,Calls Tryz.prog 207 #[Pv P,.int .i64 (len:Int)] u fun e w'=>e=.returned (.int .i64 (G.parts len:Int))∧Below u.heap.size u w'):=fun u=>parts_any P G h.pg len (by omega) u
 have hsq:IntKind.i64.wrap (4294967295 - (L.h.seq:Int))=((4294967295 - L.h.seq:Nat):Int):=by
  have:=h.hok.seq
  rw[IntKind.wrap_i64]
  omega
 have HP3:Hid (P 3=(G.lg:Int)):=h.pg.p3
 have HSQ:=hide h.hok.seq
 have hb3:blkE G (V.map (·.b))=0∨blkE G (V.map (·.b))≠0:=by omega
 have HR:Hid (∀ r,lst2E G L.h.seq (V.map (·.b))=r→(blkE G (V.map (·.b))≠0→blkE G (V.map (·.b))=r)∧(blkE G (V.map (·.b))=0→G.lg<G.uses len→5=r)∧(blkE G (V.map (·.b))=0→¬ G.lg<G.uses len→4294967295 - L.h.seq<G.parts len→8=r)∧(blkE G (V.map (·.b))=0→¬ G.lg<G.uses len→¬ 4294967295 - L.h.seq<G.parts len→0=r)):=by
  rintro r rfl
  unfold lst2E
  rw[hlen]
  exact⟨fun h1=>by rw[if_neg h1],fun h1 h2=>by rw[if_pos h1,if_pos h2],fun h1 h2 h3=>by rw[if_pos h1,if_neg h2,if_pos h3],fun h1 h2 h3=>by rw[if_pos h1,if_neg h2,if_neg h3]⟩
 obtain⟨r,hr⟩:∃ r,lst2E G L.h.seq (V.map (·.b))=r:=⟨_,rfl⟩
 rw[hr]
 replace HR:=hide (unhide HR r hr)
 clear hr
 generalize V.map (·.b)=ns at *
 have HG:=hide hgood
 have d0:((len:Int)==0)=false:=by simpa using hz
 clear h hV hgood hlen hz
 go_enter Tryz.func157,Tryz.ntmps157
 go_wp2_with fail
 go_loopw [13] (fun i wr=>∃ k:Nat,k≤len∧i=.int .i64 (k:Int)∧Hid (Below w.heap.size w wr)) (fun i _=>len - (intOf i).toNat)
 case atStart=>exact⟨0,Nat.zero_le _,rfl,Below.refl _ _⟩
 case round =>
  obtain⟨k,hk,rfl,hJ⟩:=hrel
  by_cases hlt:k<len
  ·obtain⟨kb,off,ea,x1,x2⟩:=unhide KC wr k hlt (unhide hJ)
   have J2:=hide ((unhide hJ).alloc (unhide hJ).size (.cells #[.int .i64 (wat V k).b,.slice (wat V k).da (wat V k).dl (wat V k).dc] 171))
   have b0:=unhide KB _ (unhide J2)
   have b1:=(Bl.new wr #[.int .i64 (wat V k).b,.slice (wat V k).da (wat V k).dl (wat V k).dc] 171).cell 1 (.slice (wat V k).da (wat V k).dl (wat V k).dc) rfl
   have HE:=hide (unhide HG k hlt)
   clear KC KB KF KN KR KU KT hJ HG hsq hb3
   subst ea
   generalize (wat V k).b=xb at *
   generalize (wat V k).da=xa at *
   generalize (wat V k).dc=xc at *
   generalize (wat V k).dl=xl at *
   go_upto_region 6 with fail
   change Code.wp _ _ _ _ (wr.alloc (.cells #[.int .i64 xb,.slice xa xl xc] 171))
   generalize wr.alloc (.cells #[.int .i64 xb,.slice xa xl xc] 171)=ub at *
   generalize wr.heap.size=gb at *
   have d1:((xl:Int) != (G.blk:Int))=false:=by rw[unhide HE];simp
   clear HE x1 x2
   go_quiet (fail)
   go_wp2
   go_roundw
   case rel=>exact⟨k+1,by omega,by go_num,below_drewN (unhide J2) _⟩
   case measure=>simp[intOf];omega
  ·clear KC KB HG
   obtain⟨q0,q1,q2,q3,q4,q5,q6,q7,q8,q9,q10,q11⟩:=(unhide KF _ (unhide hJ)).pl
   go_upto_region 9 with fail
   clear hlt hk
   go_cut [7] (fun c wx=>c=.int .i64 (blkE G ns)∧Hid (Below w.heap.size w wx))
   case first =>
    clear hsq hb3 KU KT hl
    go_region_with (first
     | (go_at_call 210;refine(unhide KN _ (unhide hJ).drew).mono ?_;rintro e w6 ⟨rfl,X,hb⟩;have B6:=hide (bchain (unhide hJ).drew hb (Nat.le_refl _));clear hb;obtain⟨p0,p1,p2,p3,p4,p5,p6,p7,p8,p9,p10,p11⟩:=(unhide KF _ (unhide B6)).pl)
     | (go_at_call 181;refine(unhide KR _ _ (unhide X)).mono ?_;rintro e w7 ⟨rfl,hb7⟩;have B7:=hide (bchain (unhide B6) hb7 (Nat.le_refl _));clear hb7))
    all_goals
     go_wp2_with fail
     go_meet
     exact⟨rfl,B7⟩
   case rest =>
    obtain⟨rfl,B7⟩:=hcut
    clear q0 q1 q2 q3 q4 q5 q6 q7 q8 q9 q10 q11 hJ KN KR
    rcases hb3 with hb3 | hb3
    ·rw[hb3]
     have HB0:=hide hb3
     obtain⟨q0,q1,q2,q3,q4,q5,q6,q7,q8,q9,q10,q11⟩:=(unhide KF _ (unhide B7)).pl
     have lg:=(unhide KF _ (unhide B7)).lg
     clear hb3
     go_upto_region 12 with fail
     go_cut [49] (fun c wx=>c=.bool (decide (G.lg<G.uses len))∧Hid (Below w.heap.size w wx))
     case first =>
      clear hsq KT hl
      go_region_with ((go_at_call 152;refine(unhide KU _).mono ?_;rintro e w8 ⟨rfl,hb⟩;have B8:=hide (bchain (unhide B7).drew hb (Nat.le_refl _));clear hb;have lg8:=(unhide KF _ (unhide B8)).lg))
      all_goals
       go_wp2_with fail
       go_meet
       first
        | exact⟨rfl,B8⟩
        | exact⟨by congr 1;rw[decide_eq_decide];have:=unhide HP3;omega,B8⟩
     case rest =>
      obtain⟨rfl,B8⟩:=hcut
      clear q0 q1 q2 q3 q4 q5 q6 q7 q8 q9 q10 q11 lg KU B7
      by_cases h5:G.lg<G.uses len
      ·have R5:=hide ((unhide HR).2.1 (unhide HB0) h5)
       have d5:decide (G.lg<G.uses len)=true:=by rw[decide_eq_true_eq];exact h5
       rw[d5]
       clear KT KF hsq d5 h5 HR HB0
       go_wp2_with fail
       go_ret
       have e4:=unhide R5
       subst e4
       exact⟨rfl,unhide B8⟩
      ·have H5:=hide h5
       have d5:decide (G.lg<G.uses len)=false:=by rw[decide_eq_false_iff_not];exact h5
       rw[d5]
       clear d5 h5
       obtain⟨q0,q1,q2,q3,q4,q5,q6,q7,q8,q9,q10,q11⟩:=(unhide KF _ (unhide B8)).pl
       have sq:=(unhide KF _ (unhide B8)).sq
       go_upto_region 14 with fail
       go_cut [63] (fun c wx=>c=.bool (decide (4294967295 - L.h.seq<G.parts len))∧Hid (Below w.heap.size w wx))
       case first =>
        clear hl
        go_region_with ((go_at_call 207;refine(unhide KT _).mono ?_;rintro e w9 ⟨rfl,hb⟩;have B9:=hide (bchain (unhide B8).drew hb (Nat.le_refl _));clear hb;have sq9:=(unhide KF _ (unhide B9)).sq))
        all_goals
         go_wp2_with fail
         go_meet
         first
          | exact⟨rfl,B9⟩
          | exact⟨by congr 1;rw[decide_eq_decide];have:=unhide HSQ;omega,B9⟩
       case rest =>
        obtain⟨rfl,B9⟩:=hcut
        clear q0 q1 q2 q3 q4 q5 q6 q7 q8 q9 q10 q11 sq KT KF B8
        by_cases h8:4294967295 - L.h.seq<G.parts len
        ·have R8:=hide ((unhide HR).2.2.1 (unhide HB0) (unhide H5) h8)
         have d8:decide (4294967295 - L.h.seq<G.parts len)=true:=by rw[decide_eq_true_eq];exact h8
         rw[d8]
         clear d8 h8 HR HB0 H5
         go_wp2_with fail
         go_ret
         have e4:=unhide R8
         subst e4
         exact⟨rfl,unhide B9⟩
        ·have R8:=hide ((unhide HR).2.2.2 (unhide HB0) (unhide H5) h8)
         have d8:decide (4294967295 - L.h.seq<G.parts len)=false:=by rw[decide_eq_false_iff_not];exact h8
         rw[d8]
         clear d8 h8 HR HB0 H5
         go_wp2_with fail
         go_ret
         have e4:=unhide R8
         subst e4
         exact⟨rfl,unhide B9⟩
    ·have R3:=hide ((unhide HR).1 hb3)
     have d3:(blkE G ns != 0)=true:=by simpa using hb3
     clear hb3 KF KU KT hsq hl HR
     generalize blkE G ns=q at *
     go_wp2_with fail
     go_ret
     have e4:=unhide R3
     subst e4
     exact⟨rfl,unhide B7⟩

theorem refl_zero (g:Nat)(a:Option Addr)(cap:Nat)(w:World):Calls Tryz.prog 157 #[.pointer (some ⟨g,0,none⟩),.slice a 0 cap] w fun e w'=>e=.returned (.int .i64 0)∧w=w':=by
 go_enter Tryz.func157,Tryz.ntmps157
 go_wp2_with fail
 go_ret
 exact⟨rfl,rfl⟩

theorem lst2_zero {G:Geo}(hG:G.Ok)(s:Nat):lst2E G s []=0:=by
 unfold lst2E
 have:blkE G []=0:=rfl
 rw[if_pos this]
 have h0:=Geo.parts_zero hG
 have h1:G.uses ([]:List Int).length=0:=by show 0+G.parts 0=0;omega
 have h2:G.parts ([]:List Int).length=0:=h0
 rw[h1,h2,if_neg (by omega),if_neg (by omega)]

theorem refl_any (g dg:Nat)(S:Nat→Prop)(P:Nat→Int)(G:Geo)(L:Lg)(m:LMem)(w:World)(h:LgM w S g dg P G L m)(a:Option Addr)(len cap:Nat)(V:List Wr)(hV:WHas w a len V)(hl:len≤4398046511104) :
  Calls Tryz.prog 157 #[.pointer (some ⟨g,0,none⟩),.slice a len cap] w fun e w'=>e=.returned (.int .i64 (lstE G L.h.seq (wv V)))∧Below w.heap.size w w':=by
 have hln:=hV.ln
 by_cases hall:∀ j,j<len→(wat V j).dl=G.blk
 ·have e1:lstE G L.h.seq (wv V)=lst2E G L.h.seq (V.map (·.b)):=by
   unfold lstE lst2E
   rw[if_pos]
   ·simp[wv,List.map_map,Function.comp_def]
   ·refine List.all_eq_true.2 (fun x hx=>?_)
    unfold wv at hx
    obtain⟨v,hv,rfl⟩:=List.mem_map.1 hx
    obtain⟨j,hj,rfl⟩:=List.getElem_of_mem hv
    have:=hall j (by omega)
    unfold wat at this
    rw[List.getElem?_eq_getElem hj] at this
    simpa using this
  rw[e1]
  by_cases hz:len=0
  ·subst hz
   have hn:V=[]:=List.length_eq_zero_iff.1 hln
   subst hn
   refine(refl_zero g a cap w).mono ?_
   rintro e w' ⟨rfl,rfl⟩
   exact⟨by rw[List.map_nil,lst2_zero h.pg.ok],Below.refl _ _⟩
  exact refl_rest g dg S P G L m w h a len cap V hV hl hall hz
 ·have e1:lstE G L.h.seq (wv V)=1:=by
   unfold lstE
   rw[if_neg]
   intro hh
   refine hall (fun j hj=>?_)
   have hj2:j<V.length:=by omega
   have:=List.all_eq_true.1 hh ((V[j]).b,(V[j]).dl) (by unfold wv;exact List.mem_map.2 ⟨V[j],List.getElem_mem _,rfl⟩)
   unfold wat
   rw[List.getElem?_eq_getElem hj2]
   simpa using this
  rw[e1]
  exact refl_arg g dg S P G L m w h a len cap V hV hl hall

end Go.Proofs.YtokngjcfkkceiaaGreatDoor
