/- Joined: BSet, BMake. -/
import Derived.Test.YtefdkpbmeoakgaaGreatDoorDnJ2
import Derived.Test.YtefdkpbmeoakgaaGreatDoorDnJ1
import Derived.Test.YtefdkpbmeoakgaaGreatDoorDnJ10
/- The contract of Set. -/
namespace Go.Proofs.YtefdkpbmeoakgaaGreatDoor
set_option maxRecDepth 100000
set_option maxHeartbeats 8000000
open Go.RowKit Go.Shelf
set_option linter.unusedVariables false
theorem ad2 (a:Option Addr)(len cap:Nat)(zs:List Int)(w:World)(hh:Has w a len zs) :
  ∃ w2,(∀ ty,(Builtin.copy_ #[71,71] ty #[.slice (some ⟨w.heap.size,0,none⟩) len len,.slice a len cap]).run Tryz.prog (w.alloc (.cells (madeCells #[.int .u8 0] len) 5))=.ok (goInt len) w2)/\Block w2 w.heap.size zs/\Below w.heap.size w w2:=by
 have hlen:=hh.1
 have hb0:Below w.heap.size w (w.alloc (.cells (madeCells #[.int .u8 0] len) 5)):=(Below.refl _ w).alloc (Nat.le_refl _) _
 have hg:(w.alloc (.cells (madeCells #[.int .u8 0] len) 5)).heap[w.heap.size]?=some (.cells (List.replicate len (Value.int .u8 0)).toArray 5):=by
  rw[World.alloc_heap_new,← toList_madeCells_one,Array.toArray_toList]
 by_cases h0:len=0
 ·subst h0
  have hz:zs=[]:=List.eq_nil_of_length_eq_zero hlen
  subst hz
  exact⟨_,fun ty=>run_copy_none _ 71 71 ty 5 _ _ _ _ _ _ Tryz.underlying71 qI rfl,hg,hb0⟩
 ·obtain⟨b,off,rfl,hc⟩:=(hh.later hb0).2 (by omega)
  have hs:∀ (j:Nat) v,(zs.map (Value.int .u8))[j]?=some v->(w.alloc (.cells (madeCells #[.int .u8 0] len) 5)).cell? ((⟨b,off,none⟩:Addr).add j)=some v:=by
   intro j v hv
   have hj:j<zs.length:=by
    have:=(List.getElem?_eq_some_iff.1 hv).1
    simpa using this
   rw[World.aF,hc j (by omega)]
   rw[List.getElem?_map,List.getElem?_eq_getElem hj] at hv
   rw[List.getElem?_eq_getElem hj]
   simpa using hv
  refine⟨_,fun ty=>?_,?_,below_setRow hb0 (Nat.le_refl _) (zs.map (Value.int .u8)).toArray⟩
  ·have h:=run_copy_row (P:=Tryz.prog) (w.alloc (.cells (madeCells #[.int .u8 0] len) 5)) 71 71 ty 5 w.heap.size 0 len len ⟨b,off,none⟩ len cap _ 5 (zs.map (Value.int .u8)) Tryz.underlying71 qI hg (by rw[List.length_map,hlen];exact(Nat.min_self _).symm) hs (by simp[hlen]) (cu zs)
   have e:(List.take 0 (List.replicate len (Value.int .u8 0)).toArray.toList++zs.map (Value.int .u8)++List.drop (0+(zs.map (Value.int .u8)).length) (List.replicate len (Value.int .u8 0)).toArray.toList)=zs.map (Value.int .u8):=by
    simp[hlen]
   rw[e,List.length_map,hlen] at h
   exact h
  ·exact setRow_heap _ _ _ _ 5 _ hg
theorem afh (a:Option Addr)(len cap:Nat)(zs:List Int)(n:Nat)(on:Bool)(w:World)(hh:Has w a len zs)(hby:∀ z∈zs,0<=z/\z<=255)(hl:len<=140737488351232)(hn:n<8*len) :
  Calls Tryz.prog 226 #[.slice a len cap,.int .i64 (n:Int),.bool on] w fun e w'=>e=.returned (.tuple #[.slice (some ⟨w.heap.size,0,none⟩) len len,.int .i64 0])/\Hid (Block w' w.heap.size (setB zs n on))/\Below w.heap.size w w':=by
 have K:=hide (fun w=>rO a len cap (n:Int) w (by omega))
 rw[adJ hn] at K
 have hmk:=run_make_row' (P:=Tryz.prog) 71 5 (.int .u8 0) 1 Tryz.underlying71 info5 rfl .i64 .i64 len (by omega) (by omega)
 obtain⟨w2,hcp,hB,hb⟩:=ad2 a len cap zs w hh
 have hlen:=hh.1
 have hlt:=fG hby (n / 8)
 have hck:=hB.cell (i:=n / 8) (by omega)
 have hfr:=hB.free (n / 8)
 rw[← jG hby] at hck
 have hr8:n%8<8:=Nat.mod_lt _ (by omega)
 obtain⟨hp0,hp1⟩:=aax hr8
 have hO:=u8_or_nat (bJ zs (n / 8)) (2 ^ (n%8)) hlt hp1
 rw[agO hlt hr8] at hO
 have hN:=u8_andNot_nat (bJ zs (n / 8)) (2 ^ (n%8)) hlt hp1
 rw[acp hlt hr8] at hN
 have M:Hid (∀ w,Calls Tryz.prog 122 #[.int .i64 (n:Int)] w fun e w'=>e=.returned (.int .u8 ((2 ^ (n%8):Nat):Int))/\w'=w):=fun w=>kY n w (by omega) _ rfl
 have HS:Hid (∀ (wx:World),Block wx w.heap.size zs->Block (wx.setCell ⟨w.heap.size,n / 8,none⟩ (.int .u8 ((sb (bJ zs (n / 8)) (n%8) on:Nat):Int))) w.heap.size (setB zs n on)):=fun wx h=>h.set _ _
 have HB:=hide hB
 have hb':=hide hb
 have hqw:IntKind.i64.wrap ((n:Int) / 8)=((n / 8:Nat):Int):=by rw[IntKind.wrap_i64];omega
 have hql:n / 8<len:=by omega
 have amg:((n / 8:Nat):Int)<(len:Int):=by omega
 clear hB hb hh hby hlen
 cases on
 ·generalize sb (bJ zs (n / 8)) (n%8) false=y at *
  generalize bJ zs (n / 8)=x at *
  generalize 2 ^ (n%8)=p at *
  generalize n / 8=q at *
  go_enter Tryz.func226,Tryz.ntmps226
  go_wp2_with (go_at_call 224;refine(ah K _).mono ?_;rintro e w' ⟨rfl,rfl⟩)
  go_region_with ((go_at_call 122;refine(ah M _).mono ?_;rintro e w' ⟨rfl,rfl⟩))
  all_goals go_wp2
  all_goals go_ret2
  all_goals exact⟨rfl,ah HS _ HB.out,(hb'.out.drew).setCell (Nat.le_refl _) _⟩
 ·generalize sb (bJ zs (n / 8)) (n%8) true=y at *
  generalize bJ zs (n / 8)=x at *
  generalize 2 ^ (n%8)=p at *
  generalize n / 8=q at *
  go_enter Tryz.func226,Tryz.ntmps226
  go_wp2_with (go_at_call 224;refine(ah K _).mono ?_;rintro e w' ⟨rfl,rfl⟩)
  go_region_with ((go_at_call 122;refine(ah M _).mono ?_;rintro e w' ⟨rfl,rfl⟩))
  all_goals go_wp2
  all_goals go_ret2
  all_goals exact⟨rfl,ah HS _ HB.out,(hb'.out.drew).setCell (Nat.le_refl _) _⟩
def gy (L:Nat) (ns:List Int):List Int:=ns.foldl (fun b i=>setB b i.toNat true) (List.replicate L 0)
theorem adZ (ns b:List Int):(ns.foldl (fun b i=>setB b i.toNat true) b).length=b.length:=by
 induction ns generalizing b with
 | nil=>rfl
 | cons x ns ih=>rw[List.foldl_cons,ih,jU]
theorem abO (ns b:List Int)(h:∀ z∈b,0<=z/\z<=255):∀ z∈ns.foldl (fun b i=>setB b i.toNat true) b,0<=z/\z<=255:=by
 induction ns generalizing b with
 | nil=>exact h
 | cons x ns ih=>rw[List.foldl_cons];exact ih _ (vK h _ _)
theorem kE (L:Nat)(ns:List Int):(gy L ns).length=L:=by rw[gy,adZ,List.length_replicate]
theorem acu (L:Nat):∀ z∈List.replicate L (0:Int),0<=z/\z<=255:=by intro z hz;rw[List.eq_of_mem_replicate hz];omega
theorem lI (L:Nat)(ns:List Int):∀ z∈gy L ns,0<=z/\z<=255:=abO ns _ (acu L)
theorem aez (L:Nat)(ns:List Int)(k:Nat)(hk:k<ns.length):gy L (ns.take (k+1))=setB (gy L (ns.take k)) (ns[k]?.getD 0).toNat true:=by
 rw[List.take_succ_eq_append_getElem hk,gy,List.foldl_append,List.getElem?_eq_getElem hk]
 rfl
def allIn (n:Int) (ns:List Int):Prop:=∀ z∈ns,0<=z/\z<n
theorem ae7 {n:Int}{ns:List Int}{k:Nat}(hk:k<ns.length)(h:ns[k]?.getD 0<0\/n<=ns[k]?.getD 0):¬ allIn n ns:=by
 intro ha
 rw[List.getElem?_eq_getElem hk,Option.getD_some] at h
 have:=ha _ (List.getElem_mem hk)
 omega
theorem ae8 {n:Int}{ns:List Int}(h:∀ j,j<ns.length->0<=ns[j]?.getD 0/\ns[j]?.getD 0<n):allIn n ns:=by
 intro z hz
 obtain⟨j,hj,rfl⟩:=List.getElem_of_mem hz
 have:=h j hj
 rw[List.getElem?_eq_getElem hj,Option.getD_some] at this
 exact this
theorem aak (w:World)(n:Nat):Block (w.alloc (.cells (madeCells #[.int .u8 0] n) 5)) w.heap.size (List.replicate n 0):=by
 show (w.alloc _).heap[w.heap.size]?=_
 rw[World.alloc_heap_new,List.map_replicate,← toList_madeCells_one,Array.toArray_toList]
theorem acn (a:Option Addr)(len cap:Nat)(N:Nat)(ns:List Int)(w:World)(hh:jh w a len ns)(hl:len<=140737488351232)(hN:N<=65536) :
  Calls Tryz.prog 77 #[.int .i64 (N:Int),.slice a len cap] w fun e w'=>(e=.returned (.tuple #[.slice none 0 0,.int .i64 2])/\¬ allIn (N:Int) ns\/e=.returned (.tuple #[.slice (some ⟨w.heap.size,0,none⟩) ((N+7) / 8) ((N+7) / 8),.int .i64 0])/\allIn (N:Int) ns/\Hid (Block w' w.heap.size (gy ((N+7) / 8) ns)))/\Below w.heap.size w w':=by
 obtain⟨L,hL⟩:∃ L,(N+7) / 8=L:=⟨_,rfl⟩
 rw[hL]
 have hLi:((N:Int)+7) / 8=(L:Int):=by omega
 have hL8:L<=8192:=by omega
 have hmk:=run_make_row' (P:=Tryz.prog) 71 5 (.int .u8 0) 1 Tryz.underlying71 info5 rfl .i64 .i64 L (by omega) (by omega)
 have hb0:Below w.heap.size w (w.alloc (.cells (madeCells #[.int .u8 0] L) 5)):=(Below.refl _ w).alloc (Nat.le_refl _) _
 have HB:=hide (aak w L)
 have HH:=hide hh
 have hlen:=hh.1
 clear hh
 go_enter Tryz.func77,Tryz.ntmps77
 go_wp2
 go_loopw [21] (fun i wr=>∃ k:Nat,k<=len/\i=.int .i64 (k:Int)/\Hid (∀ j,j<k->0<=ns[j]?.getD 0/\ns[j]?.getD 0<(N:Int))/\Hid (Block wr w.heap.size (gy L (ns.take k)))/\Hid (Below w.heap.size w wr)) (fun i _=>len - (intOf i).toNat)
 case atStart=>exact⟨0,Nat.zero_le _,rfl,fun j hj=>by omega,HB,hb0⟩
 case round =>
  obtain⟨k,hk,rfl,hj,hBk,hbk⟩:=hrel
  clear HB hmk hb0 hLi
  by_cases hlt:k<len
  ·obtain⟨b,off,rfl,hc⟩:=(HH.out.later hbk.out).2 (by omega)
   have hck:=hc k hlt
   have aeE:=hide (@ae7 (N:Int) ns k (by omega))
   have HL:=hide (aez L ns k (by omega))
   have HJ:Hid (0<=ns[k]?.getD 0/\ns[k]?.getD 0<(N:Int)->∀ j,j<k+1->0<=ns[j]?.getD 0/\ns[j]?.getD 0<(N:Int)):=by
    intro h j hjk
    by_cases he:j=k
    ·subst he;exact h
    ·exact hj.out j (by omega)
   generalize ns[k]?.getD 0=z at *
   clear hc
   by_cases h1:z<0
   ·have HN:Hid (¬ allIn (N:Int) ns):=aeE.out (.inl h1)
    clear aeE HL HJ
    go_wp2
    go_ret2
    exact⟨.inl ⟨rfl,HN.out⟩,hbk.out⟩
   by_cases h2:(N:Int)<=z
   ·have HN:Hid (¬ allIn (N:Int) ns):=aeE.out (.inr h2)
    clear aeE HL HJ
    go_wp2
    go_ret2
    exact⟨.inl ⟨rfl,HN.out⟩,hbk.out⟩
   ·obtain⟨m,rfl⟩:=Int.eq_ofNat_of_zero_le (show 0<=z by omega)
    rw[Int.toNat_natCast] at HL
    have HJ':Hid (∀ j,j<k+1->0<=ns[j]?.getD 0/\ns[j]?.getD 0<(N:Int)):=HJ.out ⟨by omega,by omega⟩
    have hll:=kE L (ns.take k)
    have hby:=lI L (ns.take k)
    have ahP:=fG hby (m / 8)
    have hcg:=hBk.out.cell (i:=m / 8) (by omega)
    have hfg:=hBk.out.free (m / 8)
    rw[← jG hby] at hcg
    have hr8:m%8<8:=Nat.mod_lt _ (by omega)
    obtain⟨hp0,hp1⟩:=aax hr8
    have hO:=u8_or_nat (bJ (gy L (ns.take k)) (m / 8)) (2 ^ (m%8)) ahP hp1
    rw[agO ahP hr8] at hO
    have M:Hid (∀ w,Calls Tryz.prog 122 #[.int .i64 (m:Int)] w fun e w'=>e=.returned (.int .u8 ((2 ^ (m%8):Nat):Int))/\w'=w):=fun w=>kY m w (by omega) _ rfl
    have HS:Hid (∀ (wx:World),Block wx w.heap.size (gy L (ns.take k))->Block (wx.setCell ⟨w.heap.size,m / 8,none⟩ (.int .u8 ((sb (bJ (gy L (ns.take k)) (m / 8)) (m%8) true:Nat):Int))) w.heap.size (gy L (ns.take (k+1)))):=fun wx h=>by rw[HL.out];exact h.set _ _
    have hqw:IntKind.i64.wrap ((m:Int) / 8)=((m / 8:Nat):Int):=by rw[IntKind.wrap_i64];omega
    have hql:m / 8<L:=by omega
    have amg:((m / 8:Nat):Int)<(L:Int):=by omega
    clear aeE HJ HL hby hll
    generalize sb (bJ (gy L (ns.take k)) (m / 8)) (m%8) true=y at *
    generalize bJ (gy L (ns.take k)) (m / 8)=x at *
    generalize 2 ^ (m%8)=p at *
    generalize m / 8=q at *
    go_wp2
    go_region_with ((go_at_call 122;refine(ah M _).mono ?_;rintro e w' ⟨rfl,rfl⟩))
    all_goals go_wp2
    all_goals exact⟨⟨k+1,by omega,by go_num,HJ',ah HS _ hBk.out,(hbk.out.drew).setCell (Nat.le_refl _) _⟩,by simp[intOf];omega⟩
  ·obtain rfl:k=len:=by omega
   have HA:Hid (allIn (N:Int) ns):=ae8 (fun j hjl=>hj.out j (by omega))
   go_wp2
   go_ret2
   refine⟨.inr ⟨rfl,HA.out,?_⟩,hbk.out⟩
   have:=hBk.out
   rw[List.take_of_length_le (by omega)] at this
   exact this
end Go.Proofs.YtefdkpbmeoakgaaGreatDoor
