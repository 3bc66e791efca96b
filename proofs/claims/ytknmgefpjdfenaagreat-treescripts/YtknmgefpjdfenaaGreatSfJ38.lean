/- Joined: TPlay, TPv, TPlayV, TRefM, TRefW, TStatE. -/
import Derived.Test.YtknmgefpjdfenaaGreatSfJ34
import Derived.Test.YtknmgefpjdfenaaGreatSfJ20
import Derived.Test.YtknmgefpjdfenaaGreatSfJ29
import Derived.Test.YtknmgefpjdfenaaGreatSfJ27
/- play: one call, whatever it be. -/
namespace Go.Proofs.YtknmgefpjdfenaaGreat
set_option maxRecDepth 100000
set_option maxHeartbeats 8000000
open Go.RowKit Go.Shelf Go.Maps
set_option linter.unusedVariables false

structure Wo (s:Tr) (r n:Nat):Prop where
 wf:Wf s r n
 h16:∀ f b,s.opn f=some b→f < 16

theorem Wf.mono {s:Tr} {r n m:Nat} (h:Wf s r n) (hm:n ≤ m):Wf s r m :=
 ⟨h.ok,h.rk,h.liv,h.ris,h.num,h.row,h.lnk,h.top,h.dir,h.fil,h.opn,h.siz,h.mst,Nat.le_trans h.few hm,by have:=h.len; omega,h.lst⟩

theorem Wo.mono {s:Tr} {r n m:Nat} (h:Wo s r n) (hm:n ≤ m):Wo s r m:=⟨h.wf.mono hm,h.h16⟩

theorem MadeP.wo {s s':Tr} {r n:Nat} {p:List UInt8} {k:Int} (h:Wo s r n) (hk:k=1 ∨ k=2) (hm:MadeP s r p k s'):Wo s' r (n + 1):=by
 obtain ⟨ms,z,d,t,f,b,mp,ra,rc,hp,e1,ht,h2,hc,hf,hb,rfl⟩:=hm
 have hfl:f ≤ s.row.length:=by
  by_cases hle:f ≤ s.row.length
  ·exact hle
  ·have:=hf.lt (i:=s.row.length) h.wf.lst (by omega)
   omega
 exact ⟨h.wf.made hf hfl ht h2 (name_len hp) hc hb hk,h.h16⟩

theorem LinkP.wo {s s':Tr} {r n:Nat} {p q:List UInt8} (h:Wo s r n) (hm:LinkP s r p q s'):Wo s' r (n + 1):=by
 obtain ⟨ps,x,tx,ms,z,d,t,hp,hg,hx,hk,hq,e1,ht,h2,hc,rfl⟩:=hm
 exact ⟨h.wf.linked ht h2 (name_len hq) hc hx hk,h.h16⟩

theorem moved_opn {s:Tr} {d d2 x:Nat} {z z2:List UInt8}:(s.moved d z d2 z2 x).opn=s.opn:=by
 unfold Tr.moved Tr.edit
 cases h:s.T d with
 | none =>
  simp only
  cases s.T d2 <;> rfl
 | some t =>
  simp only
  cases (s.upd d { t with ns:=delN z t.ns }).T d2 <;> rfl

theorem RenP.wo {s s':Tr} {r n:Nat} {p q:List UInt8} (h:Wo s r n) (hn:n ≤ 1700000000000) (hm:RenP s r p q s'):Wo s' r (n + 1):=by
 refine ⟨(hm.wf h.wf hn h.h16).mono (by omega),?_⟩
 obtain ⟨ms,z,d,t,x,tx,ms2,z2,d2,t2,_,_,_,_,_,_,_,_,_,_,hcase⟩:=hm
 rcases hcase with ⟨_,rfl⟩ | ⟨_,_,_,⟨_,rfl⟩ | ⟨y,ty,_,_,_,rfl⟩⟩
 ·exact h.h16
 ·rw [moved_opn]; exact h.h16
 ·rw [moved_opn,gone_opn]; exact h.h16

theorem unE_zero {s:Tr} {x:Nat} {t:Th} (h:unE s x t=0):t.k ≠ 2∧(t.l=1→∀ f,f < 16→s.opn f ≠ some x):=by
 unfold unE at h
 split at h
 ·cases h
 ·rename_i hk
  refine ⟨hk,fun hl f hf ho=>?_⟩
  rw [if_pos] at h
  ·cases h
  ·unfold Tr.keeps
   rw [hl,(held_iff s x).2 ⟨f,hf,ho⟩]
   rfl

theorem rmE_zero {t:Th} (h:rmE t=0):t.k ≠ 1∧t.ns=[]:=by
 unfold rmE at h
 split at h
 ·cases h
 ·rename_i hk
  split at h
  ·exact ⟨hk,by assumption⟩
  ·cases h

theorem GoneP.wo {s s':Tr} {r n:Nat} {ms:List (List UInt8)} {z:List UInt8} {EF:Nat→Th→Int} (h:Wo s r n) (hn:n ≤ 1700000000000) (hm:GoneP s r ms z EF s') (hE:∀ x t,s.T x=some t→EF x t=0→t.ns=[]∧(t.l=1→∀ f,s.opn f ≠ some x)):Wo s' r (n + 1):=by
 obtain ⟨d,t,x,tx,e1,ht,h2,hc,hx,h0,rfl⟩:=hm
 obtain ⟨q1,q2⟩:=hE x tx hx h0
 exact ⟨(h.wf.gone (by omega) ht h2 hc hx q1 q2).mono (by omega),by rw [gone_opn]; exact h.h16⟩

end Go.Proofs.YtknmgefpjdfenaaGreat

/- All ways in a tree are paths. -/
namespace Go.Proofs.YtknmgefpjdfenaaGreat
set_option maxRecDepth 100000
set_option maxHeartbeats 8000000
open Go.RowKit Go.Shelf Go.Maps
set_option linter.unusedVariables false

def Edge (s:Tr) (b:Nat) (y:List UInt8) (c:Nat):Prop:=∃ t,s.T b=some t∧t.k ≠ 1∧t.ns.lookup y=some c

theorem go_nil {s:Tr} {b c:Nat} (h:go s [] b=(0,some c)):b=c:=by
 unfold go at h
 cases h
 rfl

theorem go_cons {s:Tr} {b c:Nat} {y:List UInt8} {L:List (List UInt8)}:go s (y :: L) b=(0,some c) ↔ ∃ m,Edge s b y m∧go s L m=(0,some c):=by
 constructor
 ·intro h
  unfold go at h
  cases ht:s.T b with
  | none=>simp [ht] at h
  | some t =>
   simp only [ht] at h
   by_cases hk:t.k=1
   ·rw [if_pos hk] at h; cases h
   ·rw [if_neg hk] at h
    cases hl:t.ns.lookup y with
    | none=>rw [hl] at h; cases h
    | some m=>rw [hl] at h; exact ⟨m,⟨t,ht,hk,hl⟩,h⟩
 ·rintro ⟨m,⟨t,ht,hk,hl⟩,h⟩
  unfold go
  simp only [ht,if_neg hk,hl]
  exact h

theorem go_cut {s:Tr} {c:Nat} {B:List (List UInt8)}:∀ (A:List (List UInt8)) (b:Nat),go s (A ++ B) b=(0,some c)→∃ m,go s A b=(0,some m)∧go s B m=(0,some c)
 | [],b,h=>⟨b,rfl,h⟩
 | y :: A,b,h=>by
  rw [List.cons_append] at h
  obtain ⟨m,he,h1⟩:=go_cons.1 h
  obtain ⟨m',h2,h3⟩:=go_cut A m h1
  exact ⟨m',go_cons.2 ⟨m,he,h2⟩,h3⟩

theorem go_join {s:Tr} {c m:Nat} {B:List (List UInt8)} (h2:go s B m=(0,some c)):∀ (A:List (List UInt8)) (b:Nat),go s A b=(0,some m)→go s (A ++ B) b=(0,some c)
 | [],b,h=>by cases go_nil h; exact h2
 | y :: A,b,h=>by
  obtain ⟨m',he,h1⟩:=go_cons.1 h
  rw [List.cons_append]
  exact go_cons.2 ⟨m',he,go_join h2 A m' h1⟩

theorem Wf.dn_rk {s:Tr} {r n:Nat} (h:Wf s r n):∃ rk:Nat→Nat,(∀ b t,s.T b=some t→∀ e ∈ t.ns,rk e.2 < rk b)∧∀ x c,Dn s x c→rk c ≤ rk x:=by
 obtain ⟨rk,hrk⟩:=h.rk
 refine ⟨rk,hrk,fun x c hd=>?_⟩
 induction hd with
 | refl=>exact Nat.le_refl _
 | step _ ht he ih=>have:=hrk _ _ ht _ he; omega

theorem Wf.up {s:Tr} {r n d x:Nat} {t:Th} {z:List UInt8} (h:Wf s r n) (ht:s.T d=some t) (hc:t.ns.lookup z=some x):¬ Dn s x d:=fun hd=>by
 obtain ⟨rk,h1,h2⟩:=h.dn_rk
 have:=h1 d t ht _ (mem_look hc)
 have:=h2 x d hd
 simp only at *
 omega

def Pv (s:Tr) (r:Nat):Prop:=∀ (L:List (List UInt8)) (c:Nat),go s L r=(0,some c)→okN L=true

theorem Pv.sub {s s':Tr} {r:Nat} (h:Pv s r) (he:∀ b y c,Edge s' b y c→Edge s b y c):Pv s' r:=by
 have key:∀ (L:List (List UInt8)) (b c:Nat),go s' L b=(0,some c)→go s L b=(0,some c):=by
  intro L
  induction L with
  | nil=>intro b c hg; cases go_nil hg; rfl
  | cons y L ih =>
   intro b c hg
   obtain ⟨m,hm,h1⟩:=go_cons.1 hg
   exact go_cons.2 ⟨m,he b y m hm,ih m c h1⟩
 exact fun L c hg=>h L c (key L r c hg)

theorem Pv.more {s s':Tr} {r n d x:Nat} {t:Th} {z:List UInt8} {ms:List (List UInt8)} (h:Pv s r) (hw:Wf s r n) (hok:okN (ms ++ [z])=true) (hd:go s ms r=(0,some d)) (ht:s.T d=some t) (h2:t.k=2) (hx:∀ y c,¬ Edge s' x y c)
  (he:∀ b y c,Edge s' b y c→Edge s b y c ∨ (b=d∧y=z∧c=x)):Pv s' r:=by
 have key:∀ (L:List (List UInt8)) (b c:Nat),go s' L b=(0,some c)→go s L b=(0,some c) ∨ ∃ A,L=A ++ [z]∧go s A b=(0,some d):=by
  intro L
  induction L with
  | nil=>intro b c hg; cases go_nil hg; exact .inl rfl
  | cons y L ih =>
   intro b c hg
   obtain ⟨m,hm,h1⟩:=go_cons.1 hg
   rcases he b y m hm with q | ⟨rfl,rfl,rfl⟩
   ·rcases ih m c h1 with q' | ⟨A,e,q'⟩
    ·exact .inl (go_cons.2 ⟨m,q,q'⟩)
    ·exact .inr ⟨y :: A,by rw [e]; rfl,go_cons.2 ⟨m,q,q'⟩⟩
   ·right
    cases L with
    | nil=>exact ⟨[],rfl,rfl⟩
    | cons y' L =>
     obtain ⟨m',hm',_⟩:=go_cons.1 h1
     exact absurd hm' (hx y' m')
 intro L c hg
 rcases key L r c hg with q | ⟨A,rfl,q⟩
 ·exact h L c q
 ·rw [hw.path A.length A ms d t (Nat.le_refl _) ht h2 q hd]
  exact hok

theorem made_edge {s:Tr} {f d b mp:Nat} {k:Int} {t:Th} {z:List UInt8} {ra:Option Addr} {rc:Nat} (ht:s.T d=some t) (h2:t.k=2) (hdb:d ≠ b):(∀ y c,¬ Edge (s.made f k d t z b mp ra rc) b y c)∧∀ a y c,Edge (s.made f k d t z b mp ra rc) a y c→Edge s a y c ∨ (a=d∧y=z∧c=b):=by
 have hT:∀ y,(s.made f k d t z b mp ra rc).T y=if y=d then some { t with ns:=putN z b t.ns } else if y=b then some { newT k f mp with l:=1 } else s.T y:=fun y=>rfl
 have hb:∀ y c,¬ Edge (s.made f k d t z b mp ra rc) b y c:=by
  rintro y c ⟨u,hu,_,hl⟩
  rw [hT,if_neg (fun e=>hdb e.symm),if_pos rfl] at hu
  cases hu
  cases hl
 refine ⟨hb,fun a y c he=>?_⟩
 obtain ⟨u,hu,hk,hl⟩:=he
 by_cases h1:a=d
 ·subst h1
  rw [hT,if_pos rfl] at hu
  cases hu
  have hl':(putN z b t.ns).lookup y=some c:=hl
  rw [look_put] at hl'
  by_cases hy:y=z
  ·rw [if_pos hy] at hl'
   cases hl'
   exact .inr ⟨rfl,hy,rfl⟩
  ·rw [if_neg hy] at hl'
   exact .inl ⟨t,ht,hk,hl'⟩
 ·by_cases h3:a=b
  ·subst h3
   exact absurd ⟨u,hu,hk,hl⟩ (hb y c)
  ·rw [hT,if_neg h1,if_neg h3] at hu
   exact .inl ⟨u,hu,hk,hl⟩

theorem linked_edge {s:Tr} {d x:Nat} {t tx:Th} {z:List UInt8} (ht:s.T d=some t) (hx:s.T x=some tx) (hk:tx.k=1) (hdx:d ≠ x):(∀ y c,¬ Edge (s.linked d t z x tx) x y c)∧∀ a y c,Edge (s.linked d t z x tx) a y c→Edge s a y c ∨ (a=d∧y=z∧c=x):=by
 have hT:∀ k,(s.linked d t z x tx).T k=if k=d then some { t with ns:=putN z x t.ns } else if k=x then some { tx with l:=tx.l + 1 } else s.T k:=fun k=>rfl
 have hb:∀ y c,¬ Edge (s.linked d t z x tx) x y c:=by
  rintro y c ⟨u,hu,hk',hl⟩
  rw [hT,if_neg (fun e=>hdx e.symm),if_pos rfl] at hu
  cases hu
  exact hk' hk
 refine ⟨hb,fun a y c he=>?_⟩
 obtain ⟨u,hu,hk',hl⟩:=he
 by_cases h1:a=d
 ·subst h1
  rw [hT,if_pos rfl] at hu
  cases hu
  have hl':(putN z x t.ns).lookup y=some c:=hl
  rw [look_put] at hl'
  by_cases hy:y=z
  ·rw [if_pos hy] at hl'
   cases hl'
   exact .inr ⟨rfl,hy,rfl⟩
  ·rw [if_neg hy] at hl'
   exact .inl ⟨t,ht,hk',hl'⟩
 ·by_cases h3:a=x
  ·subst h3
   exact absurd ⟨u,hu,hk',hl⟩ (hb y c)
  ·rw [hT,if_neg h1,if_neg h3] at hu
   exact .inl ⟨u,hu,hk',hl⟩

theorem gone_edges {s:Tr} {d x:Nat} {t tx:Th} {z:List UInt8} (ht:s.T d=some t) (hx:s.T x=some tx) (hdx:d ≠ x):∀ a y c,Edge (s.gone d t z x tx) a y c→Edge s a y c:=by
 rintro a y c ⟨u,hu,hk,hl⟩
 obtain ⟨g1,g2⟩:=gone_T (s:=s) (t:=t) (z:=z) (tx:=tx) hdx
 by_cases h1:a=d
 ·subst h1
  rw [g1] at hu
  cases hu
  have hl':(delN z t.ns).lookup y=some c:=hl
  rw [look_del] at hl'
  by_cases hy:y=z
  ·rw [if_pos hy] at hl'; cases hl'
  ·rw [if_neg hy] at hl'
   exact ⟨t,ht,hk,hl'⟩
 ·by_cases h3:a=x
  ·subst h3
   unfold Tr.gone at hu
   by_cases hl1:tx.l=1
   ·rw [if_pos hl1] at hu
    have h':(if a=a then none else _)=some u:=hu
    rw [if_pos rfl] at h'
    cases h'
   ·rw [if_neg hl1] at hu
    have h':(if a=a then some { tx with l:=tx.l - 1 } else _)=some u:=hu
    rw [if_pos rfl] at h'
    cases h'
    exact ⟨tx,hx,hk,hl⟩
  ·rw [g2 a h1 h3] at hu
   exact ⟨u,hu,hk,hl⟩

theorem gone_go {s:Tr} {d x:Nat} {t tx:Th} {z:List UInt8} (ht:s.T d=some t) (hx:s.T x=some tx) (hdx:d ≠ x) (hc:t.ns.lookup z=some x) (hxe:tx.ns=[]) {c:Nat} (hcx:c ≠ x):∀ (L:List (List UInt8)) (b:Nat),go s L b=(0,some c)→go (s.gone d t z x tx) L b=(0,some c)
 | [],b,h=>by cases go_nil h; rfl
 | y :: L,b,h=>by
  obtain ⟨m,⟨u,hu,hk,hl⟩,h1⟩:=go_cons.1 h
  obtain ⟨g1,g2⟩:=gone_T (s:=s) (t:=t) (z:=z) (tx:=tx) hdx
  have hbx:b ≠ x:=fun e=>by
   subst e
   rw [hx] at hu
   cases hu
   rw [hxe] at hl
   cases hl
  refine go_cons.2 ⟨m,?_,gone_go ht hx hdx hc hxe hcx L m h1⟩
  by_cases hbd:b=d
  ·subst hbd
   rw [ht] at hu
   cases hu
   refine ⟨_,g1,hk,?_⟩
   show (delN z t.ns).lookup y=some m
   rw [look_del]
   by_cases hy:y=z
   ·exfalso
    subst hy
    rw [hc] at hl
    cases hl
    cases L with
    | nil=>exact hcx (go_nil h1).symm
    | cons y' L =>
     obtain ⟨m',⟨v,hv,_,hl'⟩,_⟩:=go_cons.1 h1
     rw [hx] at hv
     cases hv
     rw [hxe] at hl'
     cases hl'
   ·rw [if_neg hy]
    exact hl
  ·exact ⟨u,by rw [g2 b hbd hbx]; exact hu,hk,hl⟩

section
variable {s:Tr} {r n d d2 x:Nat} {t t2 tx:Th} {z z2:List UInt8}

theorem moved_edge (ht:s.T d=some t) (ht2:s.T d2=some t2) {a:Nat} {y:List UInt8} {c:Nat}:Edge (s.moved d z d2 z2 x) a y c→(a=d2∧y=z2∧c=x) ∨ (¬ (a=d∧y=z)∧Edge s a y c):=by
 rintro ⟨u,hu,hk,hl⟩
 rw [moved_T ht ht2] at hu
 obtain ⟨v,hv,rfl⟩:=Option.map_eq_some_iff.1 hu
 have hl':(mvN d z d2 z2 x a v.ns).lookup y=some c:=hl
 rw [mvN_look] at hl'
 by_cases h1:a=d2∧y=z2
 ·rw [if_pos h1] at hl'
  cases hl'
  exact .inl ⟨h1.1,h1.2,rfl⟩
 ·rw [if_neg h1] at hl'
  by_cases h3:a=d∧y=z
  ·rw [if_pos h3] at hl'; cases hl'
  ·rw [if_neg h3] at hl'
   exact .inr ⟨h3,v,hv,hk,hl'⟩

theorem edge_moved (ht:s.T d=some t) (ht2:s.T d2=some t2) (hc2:t2.ns.lookup z2=none) {a:Nat} {y:List UInt8} {c:Nat} (h:Edge s a y c) (hn:¬ (a=d∧y=z)):Edge (s.moved d z d2 z2 x) a y c:=by
 obtain ⟨u,hu,hk,hl⟩:=h
 refine ⟨{ u with ns:=mvN d z d2 z2 x a u.ns },by rw [moved_T ht ht2,hu]; rfl,hk,?_⟩
 show (mvN d z d2 z2 x a u.ns).lookup y=some c
 rw [mvN_look]
 by_cases h1:a=d2∧y=z2
 ·exfalso
  obtain ⟨rfl,rfl⟩:=h1
  rw [ht2] at hu
  cases hu
  rw [hc2] at hl
  cases hl
 ·rw [if_neg h1,if_neg hn]
  exact hl

theorem moved_down (ht:s.T d=some t) (ht2:s.T d2=some t2) (hc2:t2.ns.lookup z2=none) (hd:¬ Dn s x d) (hd2:¬ Dn s x d2) {c:Nat}:∀ (L:List (List UInt8)) (b:Nat),Dn s x b→(go s L b=(0,some c) ↔ go (s.moved d z d2 z2 x) L b=(0,some c))
 | [],b,hb=>by constructor <;> intro h <;> cases go_nil h <;> rfl
 | y :: L,b,hb=>by
  constructor
  ·intro h
   obtain ⟨m,he,h1⟩:=go_cons.1 h
   have hm:Dn s x m:=by obtain ⟨u,hu,_,hl⟩:=he; exact Dn.step (e:=(y,m)) hb hu (mem_look hl)
   exact go_cons.2 ⟨m,edge_moved ht ht2 hc2 he (fun q=>hd (q.1 ▸ hb)),(moved_down ht ht2 hc2 hd hd2 L m hm).1 h1⟩
  ·intro h
   obtain ⟨m,he,h1⟩:=go_cons.1 h
   rcases moved_edge ht ht2 he with ⟨q,_,_⟩ | ⟨_,q⟩
   ·exact absurd (q ▸ hb) hd2
   ·have hm:Dn s x m:=by obtain ⟨u,hu,_,hl⟩:=q; exact Dn.step (e:=(y,m)) hb hu (mem_look hl)
    exact go_cons.2 ⟨m,q,(moved_down ht ht2 hc2 hd hd2 L m hm).2 h1⟩

theorem moved_ways (ht:s.T d=some t) (ht2:s.T d2=some t2) {c:Nat}:∀ (L:List (List UInt8)) (b:Nat),go (s.moved d z d2 z2 x) L b=(0,some c)→go s L b=(0,some c) ∨ ∃ A ys,L=A ++ z2 :: ys∧go s A b=(0,some d2)∧go (s.moved d z d2 z2 x) ys x=(0,some c)
 | [],b,h=>by cases go_nil h; exact .inl rfl
 | y :: L,b,h=>by
  obtain ⟨m,he,h1⟩:=go_cons.1 h
  rcases moved_edge ht ht2 he with ⟨rfl,rfl,rfl⟩ | ⟨_,q⟩
  ·exact .inr ⟨[],L,rfl,rfl,h1⟩
  ·rcases moved_ways ht ht2 L m h1 with q' | ⟨A,ys,e,q1,q2⟩
   ·exact .inl (go_cons.2 ⟨m,q,q'⟩)
   ·exact .inr ⟨y :: A,ys,by rw [e]; rfl,go_cons.2 ⟨m,q,q1⟩,q2⟩

end

theorem trim_jn {L:List (List UInt8)} (h:okN L=true):Lib.trimSuffix (jn L) [47]=if L=[] then [] else jn L:=by
 rcases List.eq_nil_or_concat L with rfl | ⟨L',y,rfl⟩
 ·rfl
 ·rw [List.concat_eq_append] at h ⊢
  have hne:L' ++ [y] ≠ []:=by simp
  rw [if_neg hne]
  have hy:=((okN_iff _).1 h).2.1 y (by simp)
  have h47:=nmB_no hy
  have hl1:=(nmB_len hy).1
  unfold Lib.trimSuffix
  rw [if_neg]
  intro hs
  have hs':[47] <:+ jn (L' ++ [y]):=List.isSuffixOf_iff_suffix.1 hs
  obtain ⟨w,hw⟩:=hs'
  unfold jn at hw
  rw [if_neg hne,flat_append] at hw
  have hfy:flat [y]=47 :: y:=by simp [flat]
  rw [hfy] at hw
  have h3:=congrArg List.getLast? hw
  rw [List.getLast?_append,List.getLast?_append] at h3
  obtain ⟨y',a,rfl⟩:∃ y' a,y=y' ++ [a]:=by
   rcases List.eq_nil_or_concat y with rfl | ⟨y',a,rfl⟩
   ·simp at hl1
   ·exact ⟨y',a,by rw [List.concat_eq_append]⟩
  have e:(47:UInt8) :: (y' ++ [a])=(47 :: y') ++ [a]:=rfl
  rw [e,List.getLast?_append] at h3
  simp at h3
  exact h47 (by rw [h3]; simp)

theorem sub_jn {L:List (List UInt8)} {y:List UInt8} (h:okN L=true):subP (jn L) y=jn (L ++ [y]):=by
 unfold subP
 rw [trim_jn h]
 have hne:L ++ [y] ≠ []:=by simp
 unfold jn
 rw [if_neg hne,flat_append]
 have hfy:flat [y]=47 :: y:=by simp [flat]
 rw [hfy]
 by_cases hL:L=[]
 ·subst hL; simp [flat]
 ·rw [if_neg hL,if_neg hL]; simp

theorem fits_paths {s:Tr} {r n:Nat} (hw:Wf s r n) {rk:Nat→Nat} (hdp:Deep s rk):∀ (m:Nat) (L:List (List UInt8)) (b:Nat),(∃ t,s.T b=some t)→rk b < m→okN L=true→(∀ ys c,go s ys b=(0,some c)→∀ y ∈ ys,nmB y=true)→fitsB s m (jn L) b=true→∀ ys c,go s ys b=(0,some c)→okN (L ++ ys)=true
 | 0,L,b,_,hr,_,_,_,_,_,_=>by omega
 | m + 1,L,b,⟨t,ht⟩,hr,h0,hnm,hf,ys,c,hg=>by
  rw [fitsB_some ht] at hf
  obtain ⟨_,hall⟩:=Bool.and_eq_true_iff.1 hf
  cases ys with
  | nil=>rw [List.append_nil]; exact h0
  | cons y ys =>
   obtain ⟨m',⟨u,hu,hk,hl⟩,h1⟩:=go_cons.1 hg
   rw [ht] at hu
   cases hu
   have hmem:=mem_look hl
   have hfa:=List.all_eq_true.1 hall _ hmem
   rw [sub_jn h0] at hfa
   obtain ⟨hlv,_,hr'⟩:=hdp.live b t ht _ hmem
   have hok1:okN (L ++ [y])=true:=by
    obtain ⟨m2,rfl⟩:∃ m2,m=m2 + 1:=⟨m - 1,by omega⟩
    obtain ⟨t',ht'⟩:=hlv
    rw [fitsB_some ht'] at hfa
    obtain ⟨q,_⟩:=Bool.and_eq_true_iff.1 hfa
    obtain ⟨ns,hns⟩:=Option.isSome_iff_exists.1 q
    obtain ⟨q1,q2,q3⟩:=spl_some hns
    have hall':∀ w ∈ L ++ [y],nmB w=true:=fun w hw'=>by
     rcases List.mem_append.1 hw' with q | q
     ·exact ((okN_iff _).1 h0).2.1 w q
     ·simp at q
      subst q
      exact hnm (w :: ys) c hg w List.mem_cons_self
    have e:=nms_jn hall'
    rw [q3] at e
    rw [← e]
    exact q1
   have hr2:rk m' < rk b:=hr'
   have:=fits_paths hw hdp m (L ++ [y]) m' hlv (by omega) hok1 (fun ys' c' hg' w hw'=>hnm (y :: ys') c' (go_cons.2 ⟨m',⟨t,ht,hk,hl⟩,hg'⟩) w (List.mem_cons_of_mem _ hw')) hfa ys c h1
   rwa [List.append_assoc] at this

end Go.Proofs.YtknmgefpjdfenaaGreat

/- play, in a tree where all ways are paths. -/
namespace Go.Proofs.YtknmgefpjdfenaaGreat
set_option maxRecDepth 100000
set_option maxHeartbeats 8000000
open Go.RowKit Go.Shelf Go.Maps
set_option linter.unusedVariables false

structure Wv (s:Tr) (r n:Nat):Prop where
 wo:Wo s r n
 pv:Pv s r

theorem Wv.mono {s:Tr} {r n m:Nat} (h:Wv s r n) (hm:n ≤ m):Wv s r m:=⟨h.wo.mono hm,h.pv⟩

theorem MadeP.wv {s s':Tr} {r n:Nat} {p:List UInt8} {k:Int} (h:Wv s r n) (hk:k=1 ∨ k=2) (hm:MadeP s r p k s'):Wv s' r (n + 1):=by
 refine ⟨hm.wo h.wo hk,?_⟩
 obtain ⟨ms,z,d,t,f,b,mp,ra,rc,hp,e1,ht,h2,hc,hf,hb,rfl⟩:=hm
 have hdb:d ≠ b:=fun e=>by subst e; rw [ht] at hb; cases hb
 obtain ⟨q1,q2⟩:=made_edge (f:=f) (k:=k) (mp:=mp) (ra:=ra) (rc:=rc) (z:=z) ht h2 hdb
 exact h.pv.more h.wo.wf (spl_some hp).1 (plc_go h.wo.wf.ok e1) ht h2 q1 q2

theorem LinkP.wv {s s':Tr} {r n:Nat} {p q:List UInt8} (h:Wv s r n) (hm:LinkP s r p q s'):Wv s' r (n + 1):=by
 refine ⟨hm.wo h.wo,?_⟩
 obtain ⟨ps,x,tx,ms,z,d,t,hp,hg,hx,hk,hq,e1,ht,h2,hc,rfl⟩:=hm
 have hdx:d ≠ x:=fun e=>by subst e; rw [ht] at hx; cases hx; omega
 obtain ⟨q1,q2⟩:=linked_edge (z:=z) ht hx hk hdx
 exact h.pv.more h.wo.wf (spl_some hq).1 (plc_go h.wo.wf.ok e1) ht h2 q1 q2

theorem GoneP.pv {s s':Tr} {r n:Nat} {ms:List (List UInt8)} {z:List UInt8} {EF:Nat→Th→Int} (h:Pv s r) (hw:Wf s r n) (hn:n ≤ 1700000000000) (hm:GoneP s r ms z EF s'):Pv s' r:=by
 obtain ⟨d,t,x,tx,e1,ht,h2,hc,hx,h0,rfl⟩:=hm
 obtain ⟨q1,_⟩:=hw.dropable (by omega) ht hc hx
 exact h.sub (gone_edges ht hx q1)

theorem go_sub {s s':Tr} (he:∀ b y c,Edge s' b y c→Edge s b y c):∀ (L:List (List UInt8)) (b c:Nat),go s' L b=(0,some c)→go s L b=(0,some c)
 | [],b,c,hg=>by cases go_nil hg; rfl
 | y :: L,b,c,hg=>by
  obtain ⟨m,hm,h1⟩:=go_cons.1 hg
  exact go_cons.2 ⟨m,he b y m hm,go_sub he L m c h1⟩

theorem Pv.moved {s:Tr} {r n d d2 x:Nat} {t t2:Th} {z z2:List UInt8} {ms2:List (List UInt8)} (h:Pv s r) (hw:Wf s r n) (ht:s.T d=some t) (h2:t.k=2) (hc:t.ns.lookup z=some x) (ht2:s.T d2=some t2) (h22:t2.k=2) (hc2:t2.ns.lookup z2=none) (hdn:¬ Dn s x d2)
  (hd2:go s ms2 r=(0,some d2)) (hf:∀ ys c,go s ys x=(0,some c)→okN (ms2 ++ [z2] ++ ys)=true):Pv (s.moved d z d2 z2 x) r:=by
 intro L c hg
 rcases moved_ways ht ht2 L r hg with q | ⟨A,ys,rfl,qA,qy⟩
 ·exact h L c q
 ·rw [hw.path A.length A ms2 d2 t2 (Nat.le_refl _) ht2 h22 qA hd2]
  have:=hf ys c ((moved_down ht ht2 hc2 (hw.up ht hc) hdn ys x Dn.refl).2 qy)
  rwa [List.append_assoc] at this

theorem Wv.fits {s:Tr} {r n d x m:Nat} {t tx:Th} {z z2 q:List UInt8} {ms ms2:List (List UInt8)} {rk:Nat→Nat} (h:Wv s r n) (hd:go s ms r=(0,some d)) (ht:s.T d=some t) (h2:t.k=2) (hc:t.ns.lookup z=some x) (hx:s.T x=some tx) (hq:spl q=some (ms2 ++ [z2])) (hdp:Deep s rk) (hr:rk x < m) (hf:fitsB s m q x=true) :
  ∀ ys c,go s ys x=(0,some c)→okN (ms2 ++ [z2] ++ ys)=true:=by
 rw [(spl_some hq).2.1] at hf
 refine fits_paths h.wo.wf hdp m (ms2 ++ [z2]) x ⟨tx,hx⟩ hr (spl_some hq).1 (fun ys c hg y hy=>?_) hf
 have hgx:=go_cat ht h2 hc ms r hd
 have:=h.pv _ c (go_join hg (ms ++ [z]) r hgx)
 exact ((okN_iff _).1 this).2.1 y (List.mem_append_right _ hy)

theorem RenP.wv {s s':Tr} {r n:Nat} {p q:List UInt8} (h:Wv s r n) (hn:n ≤ 1700000000000) (hm:RenP s r p q s'):Wv s' r (n + 1):=by
 refine ⟨hm.wo h.wo hn,?_⟩
 obtain ⟨ms,z,d,t,x,tx,ms2,z2,d2,t2,hp,hq,e1,ht,h2,hc,hx,e2,ht2,h22,hcase⟩:=hm
 have hw:=h.wo.wf
 rcases hcase with ⟨_,rfl⟩ | ⟨hab,hne,⟨n2,rk,hdp,hr,hf⟩,hcase⟩
 ·exact h.pv
 ·have g1:=plc_go hw.ok e1
  have g2:=plc_go hw.ok e2
  have hdn:=hw.not_below g1 ht h2 hc g2 ht2 h22 hab
  have hfit:=h.fits g1 ht h2 hc hx hq hdp hr hf
  rcases hcase with ⟨hc2,rfl⟩ | ⟨y,ty,hc2,hy,hE,rfl⟩
  ·exact h.pv.moved hw ht h2 hc ht2 h22 hc2 hdn g2 hfit
  ·have hxd:x ≠ d2:=fun e=>by subst e; exact hdn Dn.refl
   have hxy:y ≠ x:=fun e=>by subst e; exact hne hc2
   obtain ⟨hw1,t1,t3,a1,a2,a3,a4,a5,a6,a7⟩:=hw.over hn ht h2 hc hx ht2 h22 hc2 hy hxy hE h.wo.h16 hxd
   obtain ⟨q1,_⟩:=hw.dropable (by omega) ht2 hc2 hy
   have hed:=gone_edges (z:=z2) ht2 hy q1
   refine (h.pv.sub hed).moved hw1 a1 a2 a3 a4 a5 a6 (fun q=>hdn (dn_gone ht2 hy q1 q)) ?_ (fun ys c hg=>hfit ys c (go_sub hed ys x c hg))
   exact gone_go ht2 hy q1 hc2 (yE_zero hE).1 q1 ms2 r g2

end Go.Proofs.YtknmgefpjdfenaaGreat

/- What Dump tells of a sound tree. -/
namespace Go.Proofs.YtknmgefpjdfenaaGreat
set_option maxRecDepth 100000
set_option maxHeartbeats 8000000
open Go.RowKit Go.Shelf Go.Maps
set_option linter.unusedVariables false

def nmN (ys:List Nd) (i:Nat):Nat:=(ys.map (fun y=>if y.t.n=i then 1 else 0)).sum

theorem fm_get {T:Nat→Option Th}:∀ (L:List Nat),(∀ c ∈ L,∃ t,T c=some t)→∀ j:Nat,(L.filterMap T)[j]?=(L[j]?).bind T
 | [],_,j=>by simp
 | a :: r,h,j=>by
  obtain ⟨t,ht⟩:=h a List.mem_cons_self
  rw [List.filterMap_cons,ht]
  cases j with
  | zero=>simp [ht]
  | succ j =>
   simp only [List.getElem?_cons_succ]
   exact fm_get r (fun c hc=>h c (List.mem_cons_of_mem _ hc)) j

theorem fm_count {s:Tr} {b:Nat} {t:Th} (hb:s.T b=some t) (hone:∀ c u,s.T c=some u→u.n=t.n→c=b):∀ (L:List Nat),(∀ c ∈ L,∃ u,s.T c=some u)→((L.filterMap s.T).map (fun u=>if u.n=t.n then 1 else 0)).sum=L.count b
 | [],_=>rfl
 | a :: r,h=>by
  obtain ⟨u,hu⟩:=h a List.mem_cons_self
  have ih:=fm_count hb hone r (fun c hc=>h c (List.mem_cons_of_mem _ hc))
  rw [List.filterMap_cons,hu,List.map_cons,List.sum_cons,ih]
  by_cases e:a=b
  ·subst e
   rw [hu] at hb
   cases hb
   rw [if_pos rfl,List.count_cons_self]
   omega
  ·rw [if_neg (fun q=>e (hone a u hu q)),List.count_cons_of_ne e,Nat.zero_add]

theorem Wf.byn {s:Tr} {r n b c:Nat} {t u:Th} (h:Wf s r n) (hb:s.T b=some t) (hc:s.T c=some u) (e:u.n=t.n):c=b:=by
 have h1:=h.num b t hb
 have h2:=h.num c u hc
 rw [e,h1] at h2
 cases h2
 rfl

theorem Wf.told {s:Tr} {r n:Nat} (h:Wf s r n) {rk:Nat→Nat} (hd:Deep s rk) {m:Nat} (hm:rk r < m) {ys:List Nd} (hy:ys.map (fun x=>(x.p,x.t))=dumpL s m [47] r) :
  ys.length=1 + s.all∧(∃ y,ys[0]?=some y∧y.p=[47]∧y.t.n=1∧y.t.k=2) ∧
   ∀ (k:Nat) (y:Nd),1 ≤ k→ys[k]?=some y→y.t.l=(nmN ys y.t.n:Int)∧(∀ y' ∈ ys,y'.t.n=y.t.n→y'.t.k=y.t.k)∧(y.t.k=1→sizeT y.t=(y.t.d.length:Int)):=by
 obtain ⟨tr,htr,hkr,hnr⟩:=h.root
 have hlen:ys.length=1 + s.all:=by
  have:=congrArg List.length hy
  rw [List.length_map,h.dump_len hd hm] at this
  exact this
 have hth:ys.map (·.t)=(dumpB s m r).filterMap s.T:=by
  rw [← dumpL_things s m [47] r,← hy,List.map_map]
  rfl
 have hlive:=fun c=>dumpB_live s m r c
 have hget:∀ (j:Nat) (y:Nd),ys[j]?=some y→∃ b,(dumpB s m r)[j]?=some b∧s.T b=some y.t:=fun j y hj=>by
  have h1:(ys.map (·.t))[j]?=some y.t:=by rw [List.getElem?_map,hj]; rfl
  rw [hth,fm_get _ hlive] at h1
  cases hb:(dumpB s m r)[j]? with
  | none=>rw [hb] at h1; cases h1
  | some b=>rw [hb] at h1; exact ⟨b,rfl,h1⟩
 obtain ⟨m',rfl⟩:∃ m',m=m' + 1:=⟨m - 1,by omega⟩
 refine ⟨hlen,?_,fun k y hk hyk=>?_⟩
 ·obtain ⟨y,hy0⟩:∃ y,ys[0]?=some y:=⟨_,List.getElem?_eq_getElem (by omega)⟩
  have h1:=congrArg (fun l=>l[0]?) hy
  simp only [List.getElem?_map,hy0,dumpL_some htr,List.getElem?_cons_zero,Option.map_some] at h1
  injection h1 with h1
  obtain ⟨q1,q2⟩:=Prod.mk.inj h1
  exact ⟨y,hy0,q1,by rw [q2]; exact hnr,by rw [q2]; exact hkr⟩
 ·obtain ⟨b,hb,hT⟩:=hget k y hyk
  have hbr:b ≠ r:=fun e=>by
   subst e
   have h1:=h.count_root hd hm
   rw [dumpB_some htr] at h1 hb
   rw [List.count_cons_self] at h1
   obtain ⟨k',rfl⟩:∃ k',k=k' + 1:=⟨k - 1,by omega⟩
   rw [List.getElem?_cons_succ] at hb
   have h2:=List.count_pos_iff.2 (List.mem_of_getElem? hb)
   omega
  refine ⟨?_,fun y' hy' e=>?_,fun h1=>?_⟩
  ·have h1:=(h.lnk b y.t hT hbr).1
   rw [h1]
   have h2:=h.count_cnt hd hm hbr
   have h3:nmN ys y.t.n=(dumpB s (m' + 1) r).count b:=by
    have h4:=fm_count hT (fun c u hu e=>h.byn hT hu e) (dumpB s (m' + 1) r) hlive
    rw [← hth,List.map_map] at h4
    exact h4
   rw [h3,h2]
  ·obtain ⟨j,hj⟩:=List.getElem?_of_mem hy'
   obtain ⟨c,hc,hT'⟩:=hget j y' hj
   have:=h.byn hT hT' e
   subst this
   rw [hT] at hT'
   injection hT' with hT'
   rw [hT']
  ·unfold sizeT
   rw [h.fil b y.t hT h1]
   simp

end Go.Proofs.YtknmgefpjdfenaaGreat

/- The walk of TreeRefuses. -/
namespace Go.Proofs.YtknmgefpjdfenaaGreat
set_option maxRecDepth 100000
set_option maxHeartbeats 8000000
open Go.RowKit Go.Shelf Go.Maps
set_option linter.unusedVariables false

theorem dump_wo {w:World} {S:Nat→Prop} {g r n:Nat} {s:Tr} (h:TM w S g s) (hw:Wo s r n) (hn:n ≤ 1700000000000) :
  Calls Tryz.prog 12 #[.pointer (some ⟨g,0,none⟩)] w fun e w'=>∃ v ys,e=.returned v∧DL w.heap.size w' v ys∧ys.map (fun x=>(x.p,x.t))=dumpL s 1700000000010 [47] r∧Below w.heap.size w w':=by
 obtain ⟨rk,hdp,hrk⟩:=hw.wf.deep (by omega)
 have hlt:rk r < 1700000000010:=by have:=hrk r; omega
 exact dump_ok h hw.wf.ok hdp 1700000000010 hlt (by omega) (by rw [hw.wf.dump_len hdp hlt]; have:=hw.wf.few; omega)

theorem Wo.told {s:Tr} {r n:Nat} (hw:Wo s r n) (hn:n ≤ 1700000000000) {ys:List Nd} (hy:ys.map (fun x=>(x.p,x.t))=dumpL s 1700000000010 [47] r) :
  ys.length=1 + s.all∧(∃ y,ys[0]?=some y∧y.p=[47]∧y.t.n=1∧y.t.k=2) ∧
   ∀ (k:Nat) (y:Nd),1 ≤ k→ys[k]?=some y→y.t.l=(nmN ys y.t.n:Int)∧(∀ y' ∈ ys,y'.t.n=y.t.n→y'.t.k=y.t.k)∧(y.t.k=1→sizeT y.t=(y.t.d.length:Int)):=by
 obtain ⟨rk,hdp,hrk⟩:=hw.wf.deep (by omega)
 exact hw.wf.told hdp (by have:=hrk r; omega) hy

end Go.Proofs.YtknmgefpjdfenaaGreat

/- Stat: all ways. -/
namespace Go.Proofs.YtknmgefpjdfenaaGreat
set_option maxRecDepth 100000
set_option maxHeartbeats 8000000
open Go.RowKit Go.Shelf Go.Maps
set_option linter.unusedVariables false

def zst:Value:=.agg #[.int .i64 0,.int .i64 0,.int .i64 0,.int .i64 0]

def stA (s:Tr) (r:Nat) (p:List UInt8):Value × Int:=match spl p with
 | none=>(zst,16)
 | some ns=>match (go s ns r).2 with
  | none=>(zst,(go s ns r).1)
  | some b=>match s.T b with
   | none=>(zst,0)
   | some t=>(statV t,0)

theorem stat_no {w:World} {S:Nat→Prop} {g r:Nat} {s:Tr} (h:TM w S g s) (hk:Ok s r) {p:List UInt8} (hpl:p.length ≤ 9223372036854775807) {E:Int} (hE:E ≠ 0) (he:(spl p=none∧E=16) ∨ ∃ ns,spl p=some ns∧go s ns r=(E,none)) :
  Calls Tryz.prog 15 #[.pointer (some ⟨g,0,none⟩),.string (St p)] w fun e w'=>e=.returned (.tuple #[zst,.int .i64 E])∧Below w.heap.size w w':=by
 have hb0:Below w.heap.size w (w.alloc (.cells #[.int .i64 0,.int .i64 0,.int .i64 0,.int .i64 0] 46)):=(Below.refl _ w).alloc (Nat.le_refl _) _
 have hlt:w.heap.size < (w.alloc (.cells #[.int .i64 0,.int .i64 0,.int .i64 0,.int .i64 0] 46)).heap.size:=by simp
 have hbl:=Bl.new w #[.int .i64 0,.int .i64 0,.int .i64 0,.int .i64 0] 46
 have K:=refuses_one (p:=p) (h.below hb0) hk.row_ne hpl (Below.refl _ _)
 rw [show (w.alloc (.cells #[.int .i64 0,.int .i64 0,.int .i64 0,.int .i64 0] 46)).heap.size=w.heap.size + 1 by simp] at K
 have HZ:Hid ((w.alloc (.cells #[.int .i64 0,.int .i64 0,.int .i64 0,.int .i64 0] 46)).heap.size=w.heap.size + 1):=by unfold Hid; simp
 have HT:=hide (h.below hb0)
 have HB:=hide hb0
 have HL:=hide hbl
 have HV:Hid (zst=.agg #[.int .i64 0,.int .i64 0,.int .i64 0,.int .i64 0]):=rfl
 rcases he with ⟨hs,rfl⟩ | ⟨ns,hs,hg⟩
 ·rw [splE_none hs] at K
  have K:=hide K
  clear h hk hs hb0 hbl
  generalize St p=sp at *
  go_enter Tryz.func15,Tryz.ntmps15
  go_wp2_with fail
  generalize w.alloc (.cells #[.int .i64 0,.int .i64 0,.int .i64 0,.int .i64 0] 46)=w0 at *
  generalize hm:w.heap.size=m at *
  refine (unhide K).mono ?_
  rintro e w1 ⟨rfl,hb⟩
  rw [← HZ.out] at hb
  have HB:=hide (HB.out.trans (hb.mono (Nat.le_of_lt hlt)))
  have HL:=hide (HL.out.call hb)
  clear K hb HT
  have l0:=HL.out.cell 0 _ rfl
  have l1:=HL.out.cell 1 _ rfl
  have l2:=HL.out.cell 2 _ rfl
  have l3:=HL.out.cell 3 _ rfl
  have lf:=HL.out.free
  have HF:Hid (Bl ((((w1.setCell ⟨m,0,none⟩ (.int .i64 0)).setCell ⟨m,1,none⟩ (.int .i64 0)).setCell ⟨m,2,none⟩ (.int .i64 0)).setCell ⟨m,3,none⟩ (.int .i64 0)) m #[.int .i64 0,.int .i64 0,.int .i64 0,.int .i64 0] 46∧Below m w ((((w1.setCell ⟨m,0,none⟩ (.int .i64 0)).setCell ⟨m,1,none⟩ (.int .i64 0)).setCell ⟨m,2,none⟩ (.int .i64 0)).setCell ⟨m,3,none⟩ (.int .i64 0))) :=
   ⟨setAll_whole [.int .i64 0,.int .i64 0,.int .i64 0,.int .i64 0] w1 _ HL.out rfl,below_setAll (Nat.le_refl m) [.int .i64 0,.int .i64 0,.int .i64 0,.int .i64 0] w w1 0 HB.out⟩
  go_wp2_with fail
  obtain ⟨hA,hW⟩:=HF.out
  change bodyPost _ _ _ _ _ ((((w1.setCell ⟨m,0,none⟩ (.int .i64 0)).setCell ⟨m,1,none⟩ (.int .i64 0)).setCell ⟨m,2,none⟩ (.int .i64 0)).setCell ⟨m,3,none⟩ (.int .i64 0))
  generalize (((w1.setCell ⟨m,0,none⟩ (.int .i64 0)).setCell ⟨m,1,none⟩ (.int .i64 0)).setCell ⟨m,2,none⟩ (.int .i64 0)).setCell ⟨m,3,none⟩ (.int .i64 0)=wf at *
  refine bodyPost_ret (v:=.tuple #[.agg #[.int .i64 0,.int .i64 0,.int .i64 0,.int .i64 0],.int .i64 16]) ?_ rfl ⟨by rw [HV.out],?_⟩
  ·simp [results,Tryz.results15,go_sem,hA.cell 0 _ rfl,hA.cell 1 _ rfl,hA.cell 2 _ rfl,hA.cell 3 _ rfl]
  ·rw [hm]; exact hW
 ·rw [splE_of hs] at K
  have K:=hide K
  have KF:Hid (∀ u,TM u S g s→Calls Tryz.prog 53 #[.pointer (some ⟨g,0,none⟩),.string (St p)] u fun e w'=>e=.returned (.tuple #[.pointer none,.int .i64 E])∧Below u.heap.size u w'):=fun u hu=>by
   have:=find_any hu hk hs
   rw [hg] at this
   exact this
  have d1:(E != 0)=true:=by simpa using hE
  clear h hk hs hb0 hbl hg
  generalize St p=sp at *
  go_enter Tryz.func15,Tryz.ntmps15
  go_wp2_with fail
  generalize w.alloc (.cells #[.int .i64 0,.int .i64 0,.int .i64 0,.int .i64 0] 46)=w0 at *
  generalize hm:w.heap.size=m at *
  refine (unhide K).mono ?_
  rintro e w1' ⟨rfl,hb⟩
  rw [← HZ.out] at hb
  have HT:=hide (HT.out.below hb)
  have HB:=hide (HB.out.trans (hb.mono (Nat.le_of_lt hlt)))
  have HL:=hide (HL.out.call hb)
  have KF:=hide (KF.out w1' HT.out)
  clear K hb hlt HZ
  go_wp2_with fail
  refine (unhide KF).mono ?_
  rintro e w1 ⟨rfl,hb⟩
  have HB:=hide (HB.out.trans (hb.mono (Nat.le_of_lt HL.out.lt)))
  have HL:=hide (HL.out.call hb)
  clear KF hb HT
  have l0:=HL.out.cell 0 _ rfl
  have l1:=HL.out.cell 1 _ rfl
  have l2:=HL.out.cell 2 _ rfl
  have l3:=HL.out.cell 3 _ rfl
  have lf:=HL.out.free
  have HF:Hid (Bl ((((w1.setCell ⟨m,0,none⟩ (.int .i64 0)).setCell ⟨m,1,none⟩ (.int .i64 0)).setCell ⟨m,2,none⟩ (.int .i64 0)).setCell ⟨m,3,none⟩ (.int .i64 0)) m #[.int .i64 0,.int .i64 0,.int .i64 0,.int .i64 0] 46∧Below m w ((((w1.setCell ⟨m,0,none⟩ (.int .i64 0)).setCell ⟨m,1,none⟩ (.int .i64 0)).setCell ⟨m,2,none⟩ (.int .i64 0)).setCell ⟨m,3,none⟩ (.int .i64 0))) :=
   ⟨setAll_whole [.int .i64 0,.int .i64 0,.int .i64 0,.int .i64 0] w1 _ HL.out rfl,below_setAll (Nat.le_refl m) [.int .i64 0,.int .i64 0,.int .i64 0,.int .i64 0] w w1 0 HB.out⟩
  go_wp2_with fail
  obtain ⟨hA,hW⟩:=HF.out
  change bodyPost _ _ _ _ _ ((((w1.setCell ⟨m,0,none⟩ (.int .i64 0)).setCell ⟨m,1,none⟩ (.int .i64 0)).setCell ⟨m,2,none⟩ (.int .i64 0)).setCell ⟨m,3,none⟩ (.int .i64 0))
  generalize (((w1.setCell ⟨m,0,none⟩ (.int .i64 0)).setCell ⟨m,1,none⟩ (.int .i64 0)).setCell ⟨m,2,none⟩ (.int .i64 0)).setCell ⟨m,3,none⟩ (.int .i64 0)=wf at *
  refine bodyPost_ret (v:=.tuple #[.agg #[.int .i64 0,.int .i64 0,.int .i64 0,.int .i64 0],.int .i64 E]) ?_ rfl ⟨by rw [HV.out],?_⟩
  ·simp [results,Tryz.results15,go_sem,hA.cell 0 _ rfl,hA.cell 1 _ rfl,hA.cell 2 _ rfl,hA.cell 3 _ rfl]
  ·rw [hm]; exact hW

theorem stat_any {w:World} {S:Nat→Prop} {g r n:Nat} {s:Tr} (h:TM w S g s) (hw:Wf s r n) (hn:n ≤ 1700000000000) {p:List UInt8} (hpl:p.length ≤ 9223372036854775807) :
  Calls Tryz.prog 15 #[.pointer (some ⟨g,0,none⟩),.string (St p)] w fun e w'=>e=.returned (.tuple #[(stA s r p).1,.int .i64 (stA s r p).2])∧Below w.heap.size w w':=by
 unfold stA
 cases hs:spl p with
 | none=>exact stat_no h hw.ok hpl (E:=16) (by decide) (.inl ⟨hs,rfl⟩)
 | some ns =>
  obtain ⟨tr,htr,_⟩:=hw.ok.dir
  rcases go_ends hw.ok ns r ⟨tr,htr⟩ with ⟨h1,b,t,h2,ht⟩ | ⟨h1,h2⟩
  ·simp only [h2,ht]
   obtain ⟨rk,hdp,_⟩:=hw.deep (by omega)
   exact stat_ok h hw.ok hs (Prod.ext h1 h2) ht (hdp.small b t ht)
  ·simp only [h2]
   exact stat_no h hw.ok hpl (E:=(go s ns r).1) (by omega) (.inr ⟨ns,hs,Prod.ext rfl h2⟩)

end Go.Proofs.YtknmgefpjdfenaaGreat

