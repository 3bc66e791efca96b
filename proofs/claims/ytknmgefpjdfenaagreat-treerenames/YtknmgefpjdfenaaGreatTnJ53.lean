/- Joined: TRenB, TRenW. -/
import Derived.Test.YtknmgefpjdfenaaGreatTnJ51
import Derived.Test.YtknmgefpjdfenaaGreatTnJ52
/- What Rename leaves, and Rename back. -/
namespace Go.Proofs.YtknmgefpjdfenaaGreat
open Go.RowKit Go.Shelf Go.Maps
set_option linter.unusedVariables false
set_option maxRecDepth 100000

theorem dumpL_congr {s s' : Tr} (h : ∀ k, s'.T k = s.T k) : ∀ (n : Nat) (p : List UInt8) (b : Nat), dumpL s' n p b = dumpL s n p b
  | 0, _, _ => rfl
  | n + 1, p, b => by
    cases ht : s.T b with
    | none =>
      unfold dumpL
      rw [h, ht]
    | some t =>
      rw [dumpL_some ht, dumpL_some ((h b).trans ht)]
      congr 1
      congr 1
      funext e
      exact dumpL_congr h n _ _

theorem stA_go {s : Tr} {r b : Nat} {t : Th} {p : List UInt8} {ns : List (List UInt8)} (hs : spl p = some ns) (hg : go s ns r = (0, some b)) (ht : s.T b = some t) : stA s r p = (statV t, 0) := by
  unfold stA
  simp only [hs, hg, ht]

theorem stA_no {s : Tr} {r : Nat} {p : List UInt8} {ns : List (List UInt8)} (hk : Ok s r) (hs : spl p = some ns) (hg : ∀ c, go s ns r ≠ (0, some c)) : (stA s r p).2 ≠ 0 ∧ (go s ns r).2 = none := by
  obtain ⟨tr, htr, _⟩ := hk.dir
  rcases go_ends hk ns r ⟨tr, htr⟩ with ⟨h1, c, t, h2, h3⟩ | ⟨h1, h2⟩
  · exact absurd (Prod.ext h1 h2) (hg c)
  · refine ⟨?_, h2⟩
    unfold stA
    simp only [hs, h2]
    omega

section
variable {s : Tr} {r n d d2 x : Nat} {t t2 tx : Th} {z z2 : List UInt8} {ms ms2 : List (List UInt8)}

/-- Behind a move x stands at its new place, and its old name is gone. -/
theorem Wf.moved_at (h : Wf s r n) (g1 : go s ms r = (0, some d)) (ht : s.T d = some t) (h2 : t.k = 2) (hc : t.ns.lookup z = some x) (hx : s.T x = some tx) (g2 : go s ms2 r = (0, some d2)) (ht2 : s.T d2 = some t2) (h22 : t2.k = 2) (hc2 : t2.ns.lookup z2 = none) (hdn : ¬ Dn s x d2) :
    go (s.moved d z d2 z2 x) (ms2 ++ [z2]) r = (0, some x) ∧ (s.moved d z d2 z2 x).T x = some tx ∧ (∀ c, go (s.moved d z d2 z2 x) (ms ++ [z]) r ≠ (0, some c)) ∧
      go (s.moved d z d2 z2 x) ms2 r = (0, some d2) ∧ go (s.moved d z d2 z2 x) ms r = (0, some d) ∧
      (∃ u2, (s.moved d z d2 z2 x).T d2 = some u2 ∧ u2.k = 2 ∧ u2.ns.lookup z2 = some x) ∧ ∃ u, (s.moved d z d2 z2 x).T d = some u ∧ u.k = 2 ∧ u.ns.lookup z = none := by
  have hd := h.up ht hc
  have hxd : x ≠ d := fun e => by subst e; exact hd Dn.refl
  have hxd2 : x ≠ d2 := fun e => by subst e; exact hdn Dn.refl
  have hT := moved_T (x := x) (z := z) (z2 := z2) ht ht2
  have p2 := moved_stay ht hc ht2 hc2 hdn ms2 r g2
  have p1 := moved_stay ht hc ht2 hc2 hd ms r g1
  have hnz : ¬ (d = d2 ∧ z = z2) := by
    rintro ⟨rfl, rfl⟩
    rw [ht] at ht2
    cases ht2
    rw [hc] at hc2
    cases hc2
  have u2 : ∃ u2, (s.moved d z d2 z2 x).T d2 = some u2 ∧ u2.k = 2 ∧ u2.ns.lookup z2 = some x := by
    refine ⟨{ t2 with ns := mvN d z d2 z2 x d2 t2.ns }, by rw [hT, ht2]; rfl, h22, ?_⟩
    show (mvN d z d2 z2 x d2 t2.ns).lookup z2 = some x
    rw [mvN_look, if_pos ⟨rfl, rfl⟩]
  have u1 : ∃ u, (s.moved d z d2 z2 x).T d = some u ∧ u.k = 2 ∧ u.ns.lookup z = none := by
    refine ⟨{ t with ns := mvN d z d2 z2 x d t.ns }, by rw [hT, ht]; rfl, h2, ?_⟩
    show (mvN d z d2 z2 x d t.ns).lookup z = none
    rw [mvN_look, if_neg hnz, if_pos ⟨rfl, rfl⟩]
  refine ⟨?_, ?_, ?_, p2, p1, u2, u1⟩
  · obtain ⟨v, hv, hk, hl⟩ := u2
    exact go_cat hv hk hl ms2 r p2
  · rw [hT, hx]
    show some { tx with ns := mvN d z d2 z2 x x tx.ns } = some tx
    unfold mvN
    rw [if_neg hxd2, if_neg hxd]
  · intro c hg
    obtain ⟨dd, u, q1, q2, _, q4⟩ := go_snoc ms r hg
    rw [p1] at q1
    cases q1
    obtain ⟨v, hv, _, hl⟩ := u1
    rw [hv] at q2
    cases q2
    rw [hl] at q4
    cases q4

/-- There and back is nothing. -/
theorem Wf.back (h : Wf s r n) (ht : s.T d = some t) (hc : t.ns.lookup z = some x) (ht2 : s.T d2 = some t2) (hc2 : t2.ns.lookup z2 = none) (k : Nat) : ((s.moved d z d2 z2 x).moved d2 z2 d z x).T k = s.T k := by
  have hT := moved_T (x := x) (z := z) (z2 := z2) ht ht2
  have h1 : (s.moved d z d2 z2 x).T d = some { t with ns := mvN d z d2 z2 x d t.ns } := by rw [hT, ht]; rfl
  have h2 : (s.moved d z d2 z2 x).T d2 = some { t2 with ns := mvN d z d2 z2 x d2 t2.ns } := by rw [hT, ht2]; rfl
  rw [moved_T h2 h1, hT]
  cases hk : s.T k with
  | none => rfl
  | some u =>
    show some { u with ns := mvN d2 z2 d z x k (mvN d z d2 z2 x k u.ns) } = some u
    have : mvN d2 z2 d z x k (mvN d z d2 z2 x k u.ns) = u.ns := by
      refine ns_ext (mvN_rise (mvN_rise (h.ris k u hk))) (h.ris k u hk) (fun y => ?_)
      rw [mvN_look, mvN_look]
      by_cases a1 : k = d ∧ y = z
      · rw [if_pos a1]
        obtain ⟨rfl, rfl⟩ := a1
        rw [ht] at hk
        cases hk
        exact hc.symm
      · rw [if_neg a1]
        by_cases a2 : k = d2 ∧ y = z2
        · rw [if_pos a2]
          obtain ⟨rfl, rfl⟩ := a2
          rw [ht2] at hk
          cases hk
          exact hc2.symm
        · rw [if_neg a2, if_neg a2, if_neg a1]
    rw [this]

end

theorem moved_row {s : Tr} {d d2 x : Nat} {z z2 : List UInt8} : (s.moved d z d2 z2 x).row = s.row := by
  unfold Tr.moved Tr.edit
  cases h : s.T d with
  | none =>
    simp only
    cases s.T d2 <;> rfl
  | some t =>
    simp only
    cases (s.upd d { t with ns := delN z t.ns }).T d2 <;> rfl

theorem go_prefix {s : Tr} {r x : Nat} {L : List (List UInt8)} (h : go s L r = (0, some x)) (j : Nat) : ∃ c, go s (L.take j) r = (0, some c) := by
  rw [← List.take_append_drop j L] at h
  obtain ⟨m, h1, _⟩ := go_cut (L.take j) r h
  exact ⟨m, h1⟩

set_option maxHeartbeats 1000000 in
/-- Rename back. -/
theorem ren_back {w : World} {S : Nat → Prop} {g r n d d2 x : Nat} {s : Tr} {t t2 tx : Th} {z z2 p q : List UInt8} {ms ms2 : List (List UInt8)} (hv : Wv s r n) (hn : n ≤ 900000) (hw' : Wf (s.moved d z d2 z2 x) r n) (h : TM w S g (s.moved d z d2 z2 x)) (hp : spl p = some (ms ++ [z])) (hq : spl q = some (ms2 ++ [z2])) (g1 : go s ms r = (0, some d)) (ht : s.T d = some t) (h2 : t.k = 2) (hc : t.ns.lookup z = some x) (hx : s.T x = some tx)
    (g2 : go s ms2 r = (0, some d2)) (ht2 : s.T d2 = some t2) (h22 : t2.k = 2) (hc2 : t2.ns.lookup z2 = none) (hdn : ¬ Dn s x d2) :
    Calls Tryz.prog 16 #[.pointer (some ⟨g, 0, none⟩), .string (St q), .string (St p)] w fun e w' => ∃ s'', e = .returned (.int .i64 0) ∧ TM w' (Up S w.heap.size w'.heap.size) g s'' ∧ Kp S w w' ∧ s''.row = s.row ∧ ∀ k, s''.T k = s.T k := by
  have hw := hv.wo.wf
  obtain ⟨m1, m2, m3, m4, m5, ⟨u2, b1, b2, b3⟩, u, b4, b5, b6⟩ := hw.moved_at g1 ht h2 hc hx g2 ht2 h22 hc2 hdn
  obtain ⟨rk, hdp, hrk⟩ := hw'.deep (by omega)
  have hab : abo (ms2 ++ [z2]) (ms ++ [z]) = false := by
    rw [Bool.eq_false_iff]
    intro hab
    unfold abo at hab
    obtain ⟨_, q2⟩ := Bool.and_eq_true_iff.1 hab
    have q3 := of_decide_eq_true q2
    have hgx := go_cat ht h2 hc ms r g1
    obtain ⟨c, hc'⟩ := go_prefix hgx (ms2 ++ [z2]).length
    rw [← q3] at hc'
    obtain ⟨dd, v, e1, e2, _, e4⟩ := go_snoc ms2 r hc'
    rw [g2] at e1
    cases e1
    rw [ht2] at e2
    cases e2
    rw [hc2] at e4
    cases e4
  have hfit : fitsB (s.moved d z d2 z2 x) (n + 3) p x = true := by
    unfold fitsB
    rw [List.all_eq_true, (spl_some hp).2.1]
    refine dump_paths hw' (n + 3) (ms ++ [z]) x (fun ys c hg => ?_)
    have hg' := (moved_down ht ht2 hc2 (hw.up ht hc) hdn ys x Dn.refl).2 hg
    exact hv.pv _ c (go_join hg' (ms ++ [z]) r (go_cat ht h2 hc ms r g1))
  have hlt : rk x < n + 3 := by have := hrk x; omega
  refine (ren_mov h hw' hn hq hp (go_plc m4 b1 b2) b1 b2 b3 (go_plc m5 b4 b5) b4 b5 hab b6 m2 hdp hlt (by omega) hfit).mono ?_
  rintro e w' ⟨rfl, htm, hkp⟩
  exact ⟨_, rfl, htm, hkp, by rw [moved_row, moved_row], fun k => hw.back ht hc ht2 hc2 k⟩

/-- What Rename leaves: nothing new, or a move. -/
theorem RenP.cases {s s' : Tr} {r n : Nat} {p q : List UInt8} (hv : Wv s r n) (hn : n ≤ 900000) (h : RenP s r p q s') :
    (∃ b t, s' = s ∧ s.T b = some t ∧ stA s r p = (statV t, 0) ∧ stA s r q = (statV t, 0)) ∨
      ∃ b t, s.T b = some t ∧ stA s r p = (statV t, 0) ∧ stA s' r q = (statV t, 0) ∧ (stA s' r p).2 ≠ 0 ∧
        ((∃ y ty, stA s r q = (statV ty, 0) ∧ s.T y = some ty ∧ y ≠ b) ∨
          ((stA s r q).2 ≠ 0 ∧ ∀ (w : World) (S : Nat → Prop) (g : Nat), TM w S g s' → Calls Tryz.prog 16 #[.pointer (some ⟨g, 0, none⟩), .string (St q), .string (St p)] w fun e w' => ∃ s'', e = .returned (.int .i64 0) ∧ TM w' (Up S w.heap.size w'.heap.size) g s'' ∧ Kp S w w' ∧ s''.row = s.row ∧ ∀ k, s''.T k = s.T k)) := by
  have hwf' := h.wf hv.wo.wf hn hv.wo.h16
  obtain ⟨ms, z, d, t, x, tx, ms2, z2, d2, t2, hp, hq, e1, ht, h2, hc, hx, e2, ht2, h22, hcase⟩ := h
  have hw := hv.wo.wf
  have g1 := plc_go hw.ok e1
  have g2 := plc_go hw.ok e2
  have sp : stA s r p = (statV tx, 0) := stA_go hp (go_cat ht h2 hc ms r g1) hx
  rcases hcase with ⟨hc2, rfl⟩ | ⟨hab, hne, _, hcase⟩
  · exact .inl ⟨x, tx, rfl, hx, sp, stA_go hq (go_cat ht2 h22 hc2 ms2 r g2) hx⟩
  · right
    have hdn := hw.not_below g1 ht h2 hc g2 ht2 h22 hab
    rcases hcase with ⟨hc2, rfl⟩ | ⟨y, ty, hc2, hy, hE, rfl⟩
    · obtain ⟨m1, m2, m3, _⟩ := hw.moved_at g1 ht h2 hc hx g2 ht2 h22 hc2 hdn
      refine ⟨x, tx, hx, sp, stA_go hq m1 m2, (stA_no hwf'.ok hp m3).1, .inr ⟨(stA_no hw.ok hq (fun c hg => ?_)).1, fun w S g htm => ren_back hv hn hwf' htm hp hq g1 ht h2 hc hx g2 ht2 h22 hc2 hdn⟩⟩
      obtain ⟨dd, v, a1, a2, _, a4⟩ := go_snoc ms2 r hg
      rw [g2] at a1
      cases a1
      rw [ht2] at a2
      cases a2
      rw [hc2] at a4
      cases a4
    · have hxd : x ≠ d2 := fun e => by subst e; exact hdn Dn.refl
      have hxy : y ≠ x := fun e => by subst e; exact hne hc2
      obtain ⟨hw1, t1, t3, a1, a2, a3, a4, a5, a6, a7⟩ := hw.over hn ht h2 hc hx ht2 h22 hc2 hy hxy hE hv.wo.h16 hxd
      obtain ⟨q1, _⟩ := hw.dropable (by omega) ht2 hc2 hy
      have hye := (yE_zero hE).1
      have hdy : d ≠ y := fun e => by
        subst e
        rw [ht] at hy
        cases hy
        rw [hye] at hc
        cases hc
      have k1 := gone_go ht2 hy q1 hc2 hye hdy ms r g1
      have k2 := gone_go ht2 hy q1 hc2 hye q1 ms2 r g2
      obtain ⟨m1, m2, m3, _⟩ := hw1.moved_at k1 a1 a2 a3 a7 k2 a4 a5 a6 (fun q => hdn (dn_gone ht2 hy q1 q))
      exact ⟨x, tx, hx, sp, stA_go hq m1 m2, (stA_no hwf'.ok hp m3).1, .inl ⟨y, ty, stA_go hq (go_cat ht2 h22 hc2 ms2 r g2) hy, hy, hxy⟩⟩

end Go.Proofs.YtknmgefpjdfenaaGreat

/- The walk of TreeRenames. -/
namespace Go.Proofs.YtknmgefpjdfenaaGreat
open Go.RowKit Go.Shelf Go.Maps
set_option linter.unusedVariables false
set_option maxRecDepth 100000

/-- Between the calls of a script. -/
def RV (W : World) (g r k : Nat) (w : World) : Prop := ∃ S s, TM w S g s ∧ Wv s r k ∧ (∀ j, S j → W.heap.size ≤ j) ∧ Below W.heap.size W w

theorem wv_new (mp r : Nat) (ra : Option Addr) (rc : Nat) : Wv (Tr0 5000 r mp ra rc) r 0 := by
  refine ⟨wo_new mp r ra rc, fun L c hg => ?_⟩
  cases L with
  | nil => rfl
  | cons y L =>
    obtain ⟨m, ⟨t, ht, _, hl⟩, _⟩ := go_cons.1 hg
    have e' : (if r = r then some (rootT mp) else none) = some t := ht
    rw [if_pos rfl] at e'
    cases e'
    cases hl

theorem stA_parts (s : Tr) (r : Nat) (p : List UInt8) : ∃ i0 i1 i2 i3 e : Int, stA s r p = (.agg #[.int .i64 i0, .int .i64 i1, .int .i64 i2, .int .i64 i3], e) := by
  unfold stA
  split
  · exact ⟨0, 0, 0, 0, _, rfl⟩
  · split
    · exact ⟨0, 0, 0, 0, _, rfl⟩
    · split
      · exact ⟨0, 0, 0, 0, _, rfl⟩
      · exact ⟨_, _, _, _, _, rfl⟩

theorem Bl.kp {S : Nat → Prop} {u w : World} {m t : Nat} {o : Array Value} (h : Bl u m o t) (hk : Kp S u w) (hm : ¬ S m) : Bl w m o t := (hk.block m (Array.getElem?_eq_some_iff.1 h).1 hm).trans h

/-- Ahead of Rename. -/
structure PA (W : World) (g B : Nat) (S1 : Nat → Prop) (s : Tr) (v1 : Value) (ys1 : List Nd) (w : World) : Prop where
  tm : TM w S1 g s
  bl : Below W.heap.size W w
  dl : DL B w v1 ys1
  sz : B ≤ w.heap.size

theorem PA.below {W w w' : World} {g B : Nat} {S1 : Nat → Prop} {s : Tr} {v1 : Value} {ys1 : List Nd} (h : PA W g B S1 s v1 ys1 w) (hb : Below w.heap.size w w') : PA W g B S1 s v1 ys1 w' :=
  ⟨h.tm.below hb, h.bl.trans (hb.mono h.bl.size), h.dl.below hb (Nat.le_refl _), Nat.le_trans h.sz hb.size⟩

/-- Behind it. -/
structure PB (S1 S' : Nat → Prop) (g : Nat) (s' : Tr) (w7 w : World) : Prop where
  tm : TM w S' g s'
  kp : Kp S1 w7 w

theorem PB.below {S1 S' : Nat → Prop} {g : Nat} {s' : Tr} {w7 w w' : World} (h : PB S1 S' g s' w7 w) (hb : Below w.heap.size w w') : PB S1 S' g s' w7 w' :=
  ⟨h.tm.below hb, h.kp.trans (Kp.of (S := S1) hb) (fun j hj => .inl hj)⟩

theorem same_dump {B1 B2 : Nat} {w : World} {v1 v2 : Value} {ys1 ys2 : List Nd} {L : List (List UInt8 × Th)} (h1 : DL B1 w v1 ys1) (h2 : DL B2 w v2 ys2) (e1 : ys1.map (fun x => (x.p, x.t)) = L) (e2 : ys2.map (fun x => (x.p, x.t)) = L) (hn : L.length ≤ 1000000) :
    Calls Tryz.prog 11 #[v1, v2] w fun e w' => e = .returned (.bool true) ∧ Below w.heap.size w w' := by
  have e : ys1.map (fun x => (x.p, x.t)) = ys2.map (fun x => (x.p, x.t)) := e1.trans e2.symm
  refine sameNodes_true h1 h2 ?_ ?_
  · have := congrArg (List.map (fun q : List UInt8 × Th => (q.1, q.2.k, q.2.n, q.2.l, sizeT q.2, q.2.d))) e
    rw [List.map_map, List.map_map] at this
    exact this
  · have := congrArg List.length e1
    rw [List.length_map] at this
    omega

/-- Dump of a tree that has the same things. -/
theorem dump_like {w : World} {S : Nat → Prop} {g r n : Nat} {s s' : Tr} (h : TM w S g s') (hw : Wo s r n) (hn : n ≤ 900000) (hT : ∀ k, s'.T k = s.T k) (hr : s'.row[1]? = some (some r)) :
    Calls Tryz.prog 12 #[.pointer (some ⟨g, 0, none⟩)] w fun e w' => ∃ v ys, e = .returned v ∧ DL w.heap.size w' v ys ∧ ys.map (fun x => (x.p, x.t)) = dumpL s 900010 [47] r ∧ Below w.heap.size w w' := by
  obtain ⟨rk, hdp, hrk⟩ := hw.wf.deep (by omega)
  have hlt : rk r < 900010 := by have := hrk r; omega
  have hok : Ok s' r := by
    refine ⟨hr, ?_, fun b t e => hw.wf.ok.kind b t ((hT b).symm.trans e), fun b t x c e hx => ?_⟩
    · obtain ⟨t, ht, hk⟩ := hw.wf.ok.dir
      exact ⟨t, (hT r).trans ht, hk⟩
    · obtain ⟨t', ht'⟩ := hw.wf.ok.live b t x c ((hT b).symm.trans e) hx
      exact ⟨t', (hT c).trans ht'⟩
  have hdp' : Deep s' rk := by
    refine ⟨fun b t e a ha => ?_, fun b t e => hdp.small b t ((hT b).symm.trans e)⟩
    obtain ⟨⟨t', ht'⟩, q⟩ := hdp.live b t ((hT b).symm.trans e) a ha
    exact ⟨⟨t', (hT a.2).trans ht'⟩, q⟩
  have hd := dumpL_congr hT 900010 [47] r
  have := dump_ok h hok hdp' 900010 hlt (by omega) (by rw [hd, hw.wf.dump_len hdp hlt]; have := hw.wf.few; omega)
  rw [hd] at this
  exact this

set_option maxHeartbeats 16000000 in
theorem renames_walk (a : Option Addr) (len cap : Nat) (p q : List UInt8) (W : World) (hO : OpsAt W a len) (hpl : p.length ≤ 9223372036854775807) (hql : q.length ≤ 9223372036854775807) :
    Calls Tryz.prog 5 #[.slice a len cap, .string (St p), .string (St q)] W fun e w' => e = .returned (.bool true) ∧ Below W.heap.size W w' := by
  have KWk := hide (wakes_any W)
  have hlm := hO.1
  have HO := hide hO
  have HPQ := hide (And.intro hpl hql)
  clear hO hpl hql
  generalize hsp : St p = sp at *
  generalize hsq : St q = sq at *
  go_enter Tryz.func5, Tryz.ntmps5
  go_wp2_with fail
  refine (unhide KWk).mono ?_
  rintro e w1 ⟨rfl, hb⟩
  have HB := hide hb
  have KN := hide (new_ok (n := 5000) (by decide) (by decide) w1)
  clear KWk hb
  go_wp2_with fail
  refine (unhide KN).mono ?_
  rintro e w2 ⟨g, r, mp, ra, rc, S, rfl, htm, hS, hb⟩
  have H0 : Hid (RV W g r 0 w2) := ⟨S, _, htm, wv_new mp r ra rc, fun j hj => Nat.le_trans HB.out.size (hS j hj), HB.out.trans (hb.mono HB.out.size)⟩
  clear KN htm hS hb HB
  go_wp2_with fail
  go_loopw [9] (fun iv wr => ∃ k : Nat, k ≤ len ∧ k ≤ 40 ∧ iv = .int .i64 (k : Int) ∧ Hid (RV W g r k wr)) (fun iv _ => (len : Int).toNat - (intOf iv).toNat)
  case atStart => exact ⟨0, Nat.zero_le _, Nat.zero_le _, rfl, H0⟩
  case round =>
    obtain ⟨k, hk, hk50, rfl, hJ⟩ := hrel
    clear H0
    by_cases hgo : k < len ∧ k < 40
    · obtain ⟨hlt, h50⟩ := hgo
      have d1 : decide ((k : Int) < (len : Int)) = true := by simp; omega
      have d2 : decide ((k : Int) < 40) = true := by simp; omega
      obtain ⟨S1, s1, h1, hw1, hS1, hB1⟩ := hJ.out
      obtain ⟨ab, aoff, rfl, habW, hops⟩ := HO.out.2 (by omega)
      obtain ⟨o, ho⟩ := hops k hlt
      have KP := play_v h1 hw1 (by omega) o ho.la ho.lb (ho.row.below hB1 hB1.size).has ho.row.2.2.1.1 (fun h0 x hx => by
        obtain ⟨b', off', e, hlt', _⟩ := ho.row.2.2.2.2 h0
        rw [hx] at e
        cases e
        exact ⟨fun q => by have := hS1 _ q; simp only at this hlt'; omega, Nat.lt_of_lt_of_le hlt' hB1.size⟩)
      have c0 := (hB1.cell (p := ⟨ab, aoff + k * 7, none⟩) habW).trans ho.c0
      have c1 := (hB1.cell (p := ⟨ab, aoff + k * 7 + 1, none⟩) habW).trans ho.c1
      have c2 := (hB1.cell (p := ⟨ab, aoff + k * 7 + 2, none⟩) habW).trans ho.c2
      have c3 := (hB1.cell (p := ⟨ab, aoff + k * 7 + 3, none⟩) habW).trans ho.c3
      have c4 := (hB1.cell (p := ⟨ab, aoff + k * 7 + 4, none⟩) habW).trans ho.c4
      have c5 := (hB1.cell (p := ⟨ab, aoff + k * 7 + 5, none⟩) habW).trans ho.c5
      have c6 := (hB1.cell (p := ⟨ab, aoff + k * 7 + 6, none⟩) habW).trans ho.c6
      have KP := hide KP
      unfold OpD.v at KP
      have HE := hide (And.intro hw1 (And.intro hS1 hB1))
      have hlt' : (k : Int) < (len : Int) := by omega
      have hk0 : (0 : Int) ≤ (k : Int) := by omega
      clear h1 hw1 hS1 hB1 hops ho hJ
      generalize o.kind = ok at *
      generalize St o.a = oa at *
      generalize St o.b = ob at *
      generalize o.f = of at *
      generalize o.n = on at *
      generalize o.m = om at *
      generalize o.da = oda at *
      generalize o.dl = odl at *
      generalize o.dc = odc at *
      go_wp2_with fail
      refine (unhide KP).mono ?_
      rintro e w4 ⟨E, s2, rfl, h2, hkp, hcase⟩
      have HN : Hid (RV W g r (k + 1) w4) := by
        obtain ⟨hw1, hS1, hB1⟩ := HE.out
        refine ⟨_, s2, h2, ?_, fun j hj => hj.elim (hS1 j) (fun q => Nat.le_trans hB1.size q.1), hB1.trans (hkp.below hB1.size hS1)⟩
        rcases hcase with ⟨_, rfl⟩ | ⟨_, q⟩
        · exact hw1.mono (by omega)
        · exact q
      clear KP h2 hkp hcase HE c0 c1 c2 c3 c4 c5 c6
      go_wp2_with fail
      go_roundw
      case rel => exact ⟨k + 1, by omega, by omega, by go_num, HN⟩
      case measure => simp [intOf]; omega
    · obtain ⟨S1, s, h1, hv, hS1, hB1⟩ := hJ.out
      have hgo' : (¬ k < len ∧ decide ((k : Int) < (len : Int)) = false) ∨ (decide ((k : Int) < (len : Int)) = true ∧ k < len ∧ ¬ k < 40 ∧ decide ((k : Int) < 40) = false) := by
        by_cases hlt : k < len
        · exact .inr ⟨by simp; omega, hlt, by omega, by simp; omega⟩
        · exact .inl ⟨hlt, by simp; omega⟩
      have KD := hide (dump_wo h1 hv.wo (by omega))
      have HK := hide (And.intro h1 (And.intro hv (And.intro hS1 hB1)))
      clear h1 hv hS1 hB1 hJ HO hgo
      have HL : Hid ((dumpL s 900010 [47] r).length ≤ 1000000) := by
        obtain ⟨h1, hv, _⟩ := HK.out
        obtain ⟨rk, hdp, hrk⟩ := hv.wo.wf.deep (by omega)
        unfold Hid
        rw [hv.wo.wf.dump_len hdp (by have := hrk r; omega)]
        have := hv.wo.wf.few
        omega
      rcases hgo' with ⟨n1, d1⟩ | ⟨d1, n1, n2, d2⟩
      all_goals
        obtain ⟨a0, a1, a2, a3, ei, ea⟩ := stA_parts s r p
        obtain ⟨b0, b1, b2, b3, fi, eb⟩ := stA_parts s r q
        have hWr : W.heap.size ≤ wr.heap.size := HK.out.2.2.2.size
        have hSwr : ∀ j, S1 j → j < wr.heap.size := HK.out.1.lt
        have hS1 := HK.out.2.2.1
        have hv := HK.out.2.1
        have HV := hide hv
        have HBW := hide HK.out.2.2.2
        have HT := hide HK.out.1
        clear HK
        go_wp2_with fail
        refine (unhide KD).mono ?_
        rintro e w3 ⟨v1, ys1, rfl, hD1, hm1, hb⟩
        have HM1 := hide hm1
        have HA : Hid (PA W g wr.heap.size S1 s v1 ys1 w3) := ⟨HT.out.below hb, HBW.out.trans (hb.mono hWr), hD1, hb.size⟩
        have KA := stat_any HA.out.tm hv.wo.wf (by omega) HPQ.out.1
        simp only [ea] at KA
        rw [hsp] at KA
        have KA := hide KA
        clear KD hD1 hm1 hb hv HT HBW
        generalize wr.heap.size = B at *
        go_wp2_with fail
        refine (unhide KA).mono ?_
        rintro e w4 ⟨rfl, hb⟩
        have hb2 := hb.alloc hb.size (.cells #[.int .i64 a0, .int .i64 a1, .int .i64 a2, .int .i64 a3] 46)
        have blA := hide (Bl.new w4 #[.int .i64 a0, .int .i64 a1, .int .i64 a2, .int .i64 a3] 46)
        have hm1S : ¬ S1 w4.heap.size := fun qq => by have := hSwr _ qq; have := HA.out.sz; have := hb.size; omega
        have HA := hide (HA.out.below hb2)
        have KB := stat_any HA.out.tm HV.out.wo.wf (by omega) HPQ.out.2
        simp only [eb] at KB
        rw [hsq] at KB
        have KB := hide KB
        clear KA hb hb2
        go_upto_region 12 with fail
        change Code.wp _ _ _ _ (w4.alloc (.cells #[.int .i64 a0, .int .i64 a1, .int .i64 a2, .int .i64 a3] 46))
        generalize w4.alloc (.cells #[.int .i64 a0, .int .i64 a1, .int .i64 a2, .int .i64 a3] 46) = w5 at *
        generalize w4.heap.size = m1 at *
        go_wp2_with fail
        refine (unhide KB).mono ?_
        rintro e w6 ⟨rfl, hb⟩
        have hb2 := hb.alloc hb.size (.cells #[.int .i64 b0, .int .i64 b1, .int .i64 b2, .int .i64 b3] 46)
        have blB := hide (Bl.new w6 #[.int .i64 b0, .int .i64 b1, .int .i64 b2, .int .i64 b3] 46)
        have hm2S : ¬ S1 w6.heap.size := fun qq => by have := hSwr _ qq; have := HA.out.sz; have := hb.size; omega
        have blA := hide (blA.out.call hb2)
        have HA := hide (HA.out.below hb2)
        have KR := rename_any HA.out.tm HV.out.wo.wf (by omega) HV.out.wo.h16 HPQ.out.1 HPQ.out.2
        rw [hsp, hsq] at KR
        have KR := hide KR
        clear KB hb hb2
        go_upto_region 13 with fail
        change Code.wp _ _ _ _ (w6.alloc (.cells #[.int .i64 b0, .int .i64 b1, .int .i64 b2, .int .i64 b3] 46))
        generalize w6.alloc (.cells #[.int .i64 b0, .int .i64 b1, .int .i64 b2, .int .i64 b3] 46) = w7 at *
        generalize w6.heap.size = m2 at *
        go_wp2_with fail
        refine (unhide KR).mono ?_
        rintro e w8 ⟨E, s', rfl, h2, hkp, hcase⟩
        have hSU : ∀ j, Up S1 w7.heap.size w8.heap.size j → S1 j ∨ w7.heap.size ≤ j := fun j hj => hj.elim .inl (fun qq => .inr qq.1)
        have HP : Hid (PB S1 (Up S1 w7.heap.size w8.heap.size) g s' w7 w8) := ⟨h2, hkp⟩
        have HD7 : Hid (∀ w, Kp S1 w7 w → DL B w v1 ys1) := fun w hk => HA.out.dl.kp hk hSwr
        have HF : Hid (∀ w, Kp S1 w7 w → Below W.heap.size W w) := fun w hk => HA.out.bl.trans (hk.below HA.out.bl.size hS1)
        have HXA : Hid (∀ w, Kp S1 w7 w → Bl w m1 #[.int .i64 a0, .int .i64 a1, .int .i64 a2, .int .i64 a3] 46) := fun w hk => blA.out.kp hk hm1S
        have HXB : Hid (∀ w, Kp S1 w7 w → Bl w m2 #[.int .i64 b0, .int .i64 b1, .int .i64 b2, .int .i64 b3] 46) := fun w hk => blB.out.kp hk hm2S
        have HC := hide hcase
        clear KR h2 hkp hcase blA blB hm1S hm2S HA
        by_cases hE : E = 0
        · subst hE
          obtain hR : RenP s r p q s' := by
            rcases HC.out with ⟨q1, _⟩ | ⟨_, q1⟩
            · exact absurd rfl q1
            · exact q1
          have hwf' := hR.wf HV.out.wo.wf (by omega) HV.out.wo.h16
          rcases RenP.cases HV.out (by omega) hR with ⟨b, t, rfl, hTb, sp1, sq1⟩ | ⟨b, t, hTb, sp1, sq2, sp2, hcs⟩
          · rw [sp1] at ea
            rw [sq1] at eb
            cases ea
            cases eb
            have KD := hide (dump_wo HP.out.tm HV.out.wo (by omega))
            have x1 := (HXA.out w8 HP.out.kp).cell 1 _ rfl
            have y1 := (HXB.out w8 HP.out.kp).cell 1 _ rfl
            have z1 : ((t.n : Int) == (t.n : Int)) = true := by simp
            clear HC hR hwf' sp1 sq1 HXA HXB
            go_wp2_with fail
            refine (unhide KD).mono ?_
            rintro e w9 ⟨v2, ys2, rfl, hD2, hm2, hb⟩
            have HP := hide (HP.out.below hb)
            have KS := hide (same_dump (HD7.out w9 HP.out.kp) hD2 HM1.out hm2 HL.out)
            clear KD hD2 hm2 hb x1 y1
            go_wp2_with fail
            refine (unhide KS).mono ?_
            rintro e w10 ⟨rfl, hb⟩
            have HB := hide (HF.out w10 (HP.out.below hb).kp)
            clear KS hb
            go_wp2_with fail
            go_ret
            exact ⟨rfl, HB.out⟩
          · rw [sp1] at ea
            cases ea
            have KZ := stat_any HP.out.tm hwf' (by omega) HPQ.out.2
            rw [sq2, hsq] at KZ
            have KZ := hide KZ
            obtain ⟨c0, c1, c2, c3, gi, ec⟩ := stA_parts s' r p
            have hgi : gi ≠ 0 := by rw [ec] at sp2; exact sp2
            have dg : (gi == 0) = false := by simpa using hgi
            have KG : Hid (∀ w, PB S1 (Up S1 w7.heap.size w8.heap.size) g s' w7 w → Calls Tryz.prog 15 #[.pointer (some ⟨g, 0, none⟩), .string sp] w fun e w' => e = .returned (.tuple #[.agg #[.int .i64 c0, .int .i64 c1, .int .i64 c2, .int .i64 c3], .int .i64 gi]) ∧ Below w.heap.size w w') := fun w hq => by
              have := stat_any hq.tm hwf' (by omega) HPQ.out.1
              simp only [ec] at this
              rw [hsp] at this
              exact this
            have hff : (fi = 0 ∧ ((t.n : Int) == b1) = false) ∨ (fi ≠ 0 ∧ Hid (∀ (w : World) (S : Nat → Prop) (g : Nat), TM w S g s' → Calls Tryz.prog 16 #[.pointer (some ⟨g, 0, none⟩), .string sq, .string sp] w fun e w' => ∃ s'', e = .returned (.int .i64 0) ∧ TM w' (Up S w.heap.size w'.heap.size) g s'' ∧ Kp S w w' ∧ s''.row = s.row ∧ ∀ k, s''.T k = s.T k)) := by
              rcases hcs with ⟨y, ty, sq1, hTy, hyb⟩ | ⟨hfn, hren⟩
              · left
                rw [sq1] at eb
                cases eb
                refine ⟨rfl, ?_⟩
                simpa using fun qq : (t.n : Int) = (ty.n : Int) => hyb (HV.out.wo.wf.byn hTb hTy (by omega))
              · right
                rw [eb] at hfn
                refine ⟨hfn, ?_⟩
                rw [← hsp, ← hsq]
                exact hren
            have x1 := (HXA.out w8 HP.out.kp).cell 1 _ rfl
            have y1 := (HXB.out w8 HP.out.kp).cell 1 _ rfl
            clear HC hR hwf' hcs sp1 sq2 sp2 ec hTb eb hgi
            have HSV : Hid (statV t = .agg #[.int .i64 t.k, .int .i64 (t.n : Int), .int .i64 t.l, .int .i64 (sizeT t)]) := rfl
            rw [HSV.out] at KZ
            clear HSV
            generalize hk1 : t.k = tk at *
            generalize hk2 : (t.n : Int) = tn at *
            generalize hk3 : t.l = tl at *
            generalize hk4 : sizeT t = tz at *
            clear hk1 hk2 hk3 hk4
            rcases hff with ⟨rfl, d18⟩ | ⟨hfi, KRB⟩
            · go_wp2_with fail
              refine (unhide KZ).mono ?_
              rintro e w9 ⟨rfl, hb⟩
              have hb2 := hb.alloc hb.size (.cells #[.int .i64 tk, .int .i64 tn, .int .i64 tl, .int .i64 tz] 46)
              have blZ := hide (Bl.new w9 #[.int .i64 tk, .int .i64 tn, .int .i64 tl, .int .i64 tz] 46)
              have HP := hide (HP.out.below hb2)
              have KG := hide (KG.out _ HP.out)
              clear KZ hb hb2 x1 y1 d18
              go_upto_region 21 with fail
              change Code.wp _ _ _ _ (w9.alloc (.cells #[.int .i64 tk, .int .i64 tn, .int .i64 tl, .int .i64 tz] 46))
              generalize w9.alloc (.cells #[.int .i64 tk, .int .i64 tn, .int .i64 tl, .int .i64 tz] 46) = w10 at *
              generalize w9.heap.size = m3 at *
              go_wp2_with fail
              refine (unhide KG).mono ?_
              rintro e w11 ⟨rfl, hb⟩
              have hb2 := hb.alloc hb.size (.cells #[.int .i64 c0, .int .i64 c1, .int .i64 c2, .int .i64 c3] 46)
              have blZ := hide (blZ.out.call hb2)
              have HP := hide (HP.out.below hb2)
              clear KG hb hb2
              go_upto_region 22 with fail
              change Code.wp _ _ _ _ (w11.alloc (.cells #[.int .i64 c0, .int .i64 c1, .int .i64 c2, .int .i64 c3] 46))
              generalize w11.alloc (.cells #[.int .i64 c0, .int .i64 c1, .int .i64 c2, .int .i64 c3] 46) = w12 at *
              have p0 := blZ.out.cell 0 _ rfl
              have p1 := blZ.out.cell 1 _ rfl
              have p2 := blZ.out.cell 2 _ rfl
              have p3 := blZ.out.cell 3 _ rfl
              have q0 := (HXA.out w12 HP.out.kp).cell 0 _ rfl
              have q1 := (HXA.out w12 HP.out.kp).cell 1 _ rfl
              have q2 := (HXA.out w12 HP.out.kp).cell 2 _ rfl
              have q3 := (HXA.out w12 HP.out.kp).cell 3 _ rfl
              clear blZ HXA HXB
              go_wp2_with fail
              go_ret
              exact ⟨rfl, HF.out _ HP.out.kp⟩
            · have d18 : (fi == 0) = false := by simpa using hfi
              go_wp2_with fail
              refine (unhide KZ).mono ?_
              rintro e w9 ⟨rfl, hb⟩
              have hb2 := hb.alloc hb.size (.cells #[.int .i64 tk, .int .i64 tn, .int .i64 tl, .int .i64 tz] 46)
              have blZ := hide (Bl.new w9 #[.int .i64 tk, .int .i64 tn, .int .i64 tl, .int .i64 tz] 46)
              have HP := hide (HP.out.below hb2)
              have KG := hide (KG.out _ HP.out)
              clear KZ hb hb2 x1 y1 d18
              go_upto_region 21 with fail
              change Code.wp _ _ _ _ (w9.alloc (.cells #[.int .i64 tk, .int .i64 tn, .int .i64 tl, .int .i64 tz] 46))
              generalize w9.alloc (.cells #[.int .i64 tk, .int .i64 tn, .int .i64 tl, .int .i64 tz] 46) = w10 at *
              generalize w9.heap.size = m3 at *
              go_wp2_with fail
              refine (unhide KG).mono ?_
              rintro e w11 ⟨rfl, hb⟩
              have hb2 := hb.alloc hb.size (.cells #[.int .i64 c0, .int .i64 c1, .int .i64 c2, .int .i64 c3] 46)
              have blZ := hide (blZ.out.call hb2)
              have HP := hide (HP.out.below hb2)
              clear KG hb hb2
              go_upto_region 22 with fail
              change Code.wp _ _ _ _ (w11.alloc (.cells #[.int .i64 c0, .int .i64 c1, .int .i64 c2, .int .i64 c3] 46))
              generalize w11.alloc (.cells #[.int .i64 c0, .int .i64 c1, .int .i64 c2, .int .i64 c3] 46) = w12 at *
              have p0 := blZ.out.cell 0 _ rfl
              have p1 := blZ.out.cell 1 _ rfl
              have p2 := blZ.out.cell 2 _ rfl
              have p3 := blZ.out.cell 3 _ rfl
              have q0 := (HXA.out w12 HP.out.kp).cell 0 _ rfl
              have q1 := (HXA.out w12 HP.out.kp).cell 1 _ rfl
              have q2 := (HXA.out w12 HP.out.kp).cell 2 _ rfl
              have q3 := (HXA.out w12 HP.out.kp).cell 3 _ rfl
              clear blZ HXA HXB
              have KRB := hide (KRB.out _ _ g HP.out.tm)
              go_wp2_with fail
              refine (unhide KRB).mono ?_
              rintro e w13 ⟨s'', rfl, h3, hk3, hrw, hTT⟩
              have hkF : Kp S1 w7 w13 := HP.out.kp.trans hk3 hSU
              have KD := hide (dump_like h3 HV.out.wo (by omega) hTT (by rw [hrw]; exact HV.out.wo.wf.ok.root))
              have HKF := hide hkF
              clear KRB h3 hk3 hrw hTT hkF
              go_wp2_with fail
              refine (unhide KD).mono ?_
              rintro e w14 ⟨v2, ys2, rfl, hD2, hm2, hb⟩
              have HKF : Hid (Kp S1 w7 w14) := HKF.out.trans (Kp.of (S := S1) hb) (fun j hj => .inl hj)
              have KS := hide (same_dump (HD7.out w14 HKF.out) hD2 HM1.out hm2 HL.out)
              clear KD hD2 hm2 hb
              go_wp2_with fail
              refine (unhide KS).mono ?_
              rintro e w15 ⟨rfl, hb⟩
              have HB := hide (HF.out w15 (HKF.out.trans (Kp.of (S := S1) hb) (fun j hj => .inl hj)))
              clear KS hb
              go_wp2_with fail
              go_ret
              exact ⟨rfl, HB.out⟩
        · have dE : (E != 0) = true := by simpa using hE
          have hs : s' = s := by
            rcases HC.out with ⟨_, q1⟩ | ⟨q1, _⟩
            · exact q1
            · exact absurd q1 hE
          subst hs
          have KD := hide (dump_wo HP.out.tm HV.out.wo (by omega))
          clear HC ea eb HXA HXB
          go_wp2_with fail
          refine (unhide KD).mono ?_
          rintro e w9 ⟨v2, ys2, rfl, hD2, hm2, hb⟩
          have HP := hide (HP.out.below hb)
          have KS := hide (same_dump (HD7.out w9 HP.out.kp) hD2 HM1.out hm2 HL.out)
          clear KD hD2 hm2 hb
          go_wp2_with fail
          refine (unhide KS).mono ?_
          rintro e w10 ⟨rfl, hb⟩
          have HB := hide (HF.out w10 (HP.out.below hb).kp)
          clear KS hb
          go_wp2_with fail
          go_ret
          exact ⟨rfl, HB.out⟩

end Go.Proofs.YtknmgefpjdfenaaGreat

