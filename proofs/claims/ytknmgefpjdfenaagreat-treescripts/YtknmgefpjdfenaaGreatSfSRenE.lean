/- The reference's Rename: a name takes another thing's place. -/
import Derived.Test.YtknmgefpjdfenaaGreatSfSRenE1
import Derived.Test.YtknmgefpjdfenaaGreatSfSRenE2
import Derived.Test.YtknmgefpjdfenaaGreatSfSRenE3
import Derived.Test.YtknmgefpjdfenaaGreatSfSRenE4
namespace Go.Proofs.YtknmgefpjdfenaaGreat
set_option maxRecDepth 100000
set_option maxHeartbeats 8000000
open Go.RowKit Go.Shelf Go.Maps
set_option linter.unusedVariables false

theorem rren_ovr {w:World} {S:Nat→Prop} {g r n:Nat} {s:Tr} {u:RTr} (h:Rel s u) (hw:Wf s r n) (hn:n ≤ 1700000000000) (hl:Low s) (hT:SM w S g u) {p q:List UInt8} {ms ms2:List (List UInt8)} {z z2:List UInt8} (hp:spl p=some (ms ++ [z])) (hq:spl q=some (ms2 ++ [z2])) {x y:Nat} (hg:goR u (ms ++ [z]) 1=(0,nmb s x)) (hab:abo (ms ++ [z]) (ms2 ++ [z2])=false) {d2:Nat} {t2:Th} {x2:RT} (ht2:s.T d2=some t2) (hpa:paR u ms2=(0,nmb s d2)) (hx2:u.th[nmb s d2]?=some x2) (hk2:Lk s t2 x2) (hc2:t2.ns.lookup z2=some y) {ty:Th} (hy:s.T y=some ty) (hxy:y ≠ x) {tx:Th} (hx:s.T x=some tx) {rk:Nat→Nat} (hdp:Deep s rk) {m:Nat} (hm:rk x < m) (hnm:∀ ys e,go s ys x=(0,some e)→∀ y ∈ ys,nmB y=true) (hft:fitsB s m q x=true) (hkk:tx.k=ty.k) (hkt:ty.k=1 ∨ ty.k=2) (hne:ty.ns=[]) (hnk:¬ (s.cnt y=1∧s.held y=true)) {rb:Nat} (hrb:u.ta=some ⟨rb,0,none⟩) {s':Tr}
  (htf:∀ (k:Nat) (a4:Option Addr) (c4:Nat),x2.ns[k]?=some (z2,nmb s y)→TailF s' (dpR u (nmb s d2) x2 k (nmb s y) a4 c4) g (nmb s d2) (nmb s x) z2 p ({ x2 with ns:=x2.ns.eraseIdx k,na:=a4,nc:=c4 }:RT) rb) :
  Calls Tryz.prog 28 #[.pointer (some ⟨g,0,none⟩),.string (St p),.string (St q)] w fun e w'=>∃ u',e=.returned (.int .i64 0)∧SM w' (Up S w.heap.size w'.heap.size) g u'∧Kp S w w'∧Rel (s') u':=by
 by_cases hc1:s.cnt y=1
 ·have hv0:s.held y=false:=by
   cases hv:s.held y with
   | false=>rfl
   | true=>exact absurd ⟨hc1,hv⟩ hnk
  rcases hkt with hkt | hkt
  ·exact rren_ovr1 h hw hn hl hT hp hq hg hab ht2 hpa hx2 hk2 hc2 hy hxy hx hdp hm hnm hft hkk hkt hne hc1 hv0 hrb htf
  ·exact rren_ovr2 h hw hn hl hT hp hq hg hab ht2 hpa hx2 hk2 hc2 hy hxy hx hdp hm hnm hft hkk hkt hne hc1 hv0 hrb htf
 ·rcases hkt with hkt | hkt
  ·exact rren_ovr3 h hw hn hl hT hp hq hg hab ht2 hpa hx2 hk2 hc2 hy hxy hx hdp hm hnm hft hkk hkt hne hc1 hrb htf
  ·exact rren_ovr4 h hw hn hl hT hp hq hg hab ht2 hpa hx2 hk2 hc2 hy hxy hx hdp hm hnm hft hkk hkt hne hc1 hrb htf

end Go.Proofs.YtknmgefpjdfenaaGreat
