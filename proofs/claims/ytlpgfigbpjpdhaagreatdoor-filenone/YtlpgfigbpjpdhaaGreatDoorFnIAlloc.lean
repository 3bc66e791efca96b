/- The calls of an Alloc. -/
import Derived.Test.YtlpgfigbpjpdhaaGreatDoorFnJ36
import Derived.Test.YtlpgfigbpjpdhaaGreatDoorFnJ0
import Derived.Test.YtlpgfigbpjpdhaaGreatDoorFnJ1
import Derived.Deep.RegionHeld3
namespace Go.Proofs.YtlpgfigbpjpdhaaGreatDoor
set_option maxRecDepth 100000
set_option maxHeartbeats 8000000
open Go.RowKit Go.Shelf Go.Maps
set_option linter.unusedVariables false
structure Ab (P:Nat->Int) (G:Geo) (E:Nat->Bool) (bb da ni:Nat):Prop where
 p7:P 7=(bb:Int)
 p11:P 11=(da:Int)
 p2:P 2=(ni:Int)
 eb:E bb=true
 ei:E G.ib=true
 dn:da<=G.n
 n8:G.n<=8*G.blk
 i8:ni<=8*G.blk
 b4:bb<=4096
 ne:G.ib≠bb
theorem agv {w P G E g o rows i V F V' K u}{a:Nat}{bb da ni:Nat}(h:Lp w P G E g o rows i V F V' K u)(hA:Ab P G E bb da ni)(ha:(a,alO g P)∈rows)(h0:0<w.heap.size) :
  Calls Tryz.prog 208 #[.pointer (some ⟨a,0,none⟩),.pointer (some ⟨o,0,none⟩)] u fun e u'=>e=.returned (.tuple #[.int .i64 (tkN (V' bb) K da G.n),.int .i64 (tkE (V' bb) K da G.n)])/\Hid (Lp w P G E g o rows i V F (fun j=>if j=bb then tkZ (V' bb) K da G.n else V' j) K u'):=by
 have hpg:=h.ok
 have hbk:=hpg.ok.blk
 have hp0:=hpg.p0
 have hp1:=hpg.p1
 have hal:Bl u a (alA g P) 130:=h.row ha
 have c0:=hal.cell 0 (.pointer (some ⟨g,0,none⟩)) rfl
 have KA:Hid (∀ v,Below u.heap.size u v->Calls Tryz.prog 222 #[.pointer (some ⟨a,0,none⟩)] v fun e w'=>e=.returned (Bv (bb:Int) (8*P 0) (da:Int) (G.n:Int))/\Hid (Below u.heap.size u w')/\w'.cell? ⟨a,0,none⟩=some (.pointer (some ⟨g,0,none⟩))):=fun v hv=>by
  have hal2:Bl v a (alA g P) 130:=hal.call hv
  have:=aae (u:=v) (a:=a) (g:=g) (P:=P) hal2 (by omega)
  rw[hA.p7,hA.p11,hp1] at this
  refine this.mono ?_
  rintro e w' ⟨rfl,b1⟩
  have b2:=hv.trans (b1.mono hv.size)
  exact⟨rfl,b2,(hal.call b2).cell 0 (.pointer (some ⟨g,0,none⟩)) rfl⟩
 have KT:Hid (∀ v,Below u.heap.size u v->Calls Tryz.prog 244 #[Bv (bb:Int) (8*P 0) (da:Int) (G.n:Int),.pointer (some ⟨o,0,none⟩),.func (.func 245) #[.pointer (some ⟨g,0,none⟩)] #[]] v fun e u'=>e=.returned (.tuple #[.int .i64 (tkN (V' bb) K da G.n),.int .i64 (tkE (V' bb) K da G.n)])/\Hid (Lp w P G E g o rows i V F (fun j=>if j=bb then tkZ (V' bb) K da G.n else V' j) K u')):=fun v hv =>
  ai6 da G.n (h.later hv) hA.eb (8*P 0) (by rw[hp0]) hA.dn hA.n8 hA.b4 h0 (fun j h1 h2=>⟨by rw[hA.p11];omega,h2⟩)
 have HB:Hid (∀ q,Below u.heap.size u (u.drewN q)):=fun q=>below_drewN (Below.refl _ _) q
 clear h hA ha h0 hpg hbk hp0 hp1 hal
 generalize tkN (V' bb) K da G.n=tn at *
 generalize tkE (V' bb) K da G.n=te at *
 generalize tkZ (V' bb) K da G.n=tz at *
 generalize 8*P 0=e8 at *
 generalize (bb:Int)=bi at *
 generalize (da:Int)=di at *
 generalize (G.n:Int)=ni at *
 go_enter Tryz.func208,Tryz.ntmps208
 go_upto_region 3 with fail
 go_region_with (first
  | (go_at_call 222;refine(ah KA _ (by first | exact Below.refl _ _ | exact(Below.refl _ _).drew)).mono ?_;rintro e w1 ⟨rfl,hb1,c1⟩;clear KA)
  | (go_at_call 244;refine(ah KT _ (by first | exact ah hb1 | exact(ah hb1).drew)).mono ?_;rintro e w2 ⟨rfl,Z⟩;clear KT))
 all_goals (go_wp2_with fail;go_ret2;first | exact⟨rfl,Z⟩ | exact⟨rfl,hide ((ah Z).later (Below.refl _ _).drew)⟩)
end Go.Proofs.YtlpgfigbpjpdhaaGreatDoor
