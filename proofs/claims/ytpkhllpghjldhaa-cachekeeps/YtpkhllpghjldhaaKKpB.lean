/- CacheKeeps: from New to Out, and the answers. -/
import Derived.Test.YtpkhllpghjldhaaKKpA
import Derived.Test.YtpkhllpghjldhaaKOpenO
namespace Go.Proofs.Ytpkhllpghjldhaa
open Go.RowKit Go.Shelf
set_option linter.unusedVariables false

/-- The cache is new; the picks p are the law's own. -/
def KP (B : Nat) (w : World) (g dg : Nat) (ps : List Int) (a : Option Addr) (len c : Nat) (u : World) : Prop :=
  ∃ S ns, KL B w g dg (Cac.new 4 ps) (Dev.new 64 8) u S ∧ IOwn B u a len c ns ∧ ∀ q, a = some ⟨q, 0, none⟩ → ¬ S q

theorem kp_new (w u : World) (hb : Below w.heap.size w u) (a : Option Addr) (len cap : Nat) (ps : List Int) (h : IArg w a len cap ps) :
    Calls Try.prog 8 #[.int .i64 64, .int .i64 8] u fun e u1 => ∃ dg, e = .returned (.tuple #[.pointer (some ⟨dg, 0, none⟩), .int .i64 0]) ∧
      Hid (∃ a1 c1 u2, (∀ ty, (Builtin.append_ #[22, 22] ty #[.slice (some ⟨u1.heap.size, 0, none⟩) 0 0, .slice a len cap]).run Try.prog (u1.alloc (.cells #[] 3)) = .ok (.slice a1 len c1) u2) ∧
        Calls Try.prog 9 #[.pointer (some ⟨dg, 0, none⟩), .int .i64 4, .slice a1 len c1] u2 fun e u3 => ∃ g, e = .returned (.tuple #[.pointer (some ⟨g, 0, none⟩), .int .i64 0]) ∧ Hid (KP w.heap.size w g dg ps a1 len c1 u3)) := by
  obtain ⟨i1, i2, i3, i4⟩ := h
  refine (new_ok 64 8 u (by decide)).mono ?_
  rintro e u1 ⟨dg, Sd, rfl, a1, a2, a3⟩
  have b1 : Below w.heap.size w u1 := hb.trans (a3.mono hb.size)
  obtain ⟨a', c', u2, r2, o2, b2⟩ := app_ints8 (c := cap) (i1.later b1) i2
  have hs1 := b1.size
  have hs2 := b2.size
  have h2 : Below w.heap.size w u2 := b1.trans (b2.mono b1.size)
  refine ⟨dg, rfl, a', c', u2, r2, ?_⟩
  refine (cnew_ok dg Sd (Dev.new 64 8) 4 a' len c' ps u2 (a1.below b2) (by omega) (iown_has8 o2) i2 (fun e => ?_)).mono ?_
  · rcases o2.2.2.2 with ⟨_, x1, x2⟩ | ⟨g, cur, x, _⟩
    · exact ⟨x2, x1⟩
    · rw [e] at x; cases x
  · rintro e u3 ⟨g, rfl, X⟩
    obtain ⟨S, k1, k2, k3⟩ := unhide X
    have hs3 := k3.size
    have hsu := hb.size
    refine ⟨g, rfl, S, ps, ⟨k1, fun k hk => ?_, by omega, h2.trans (k3.mono (by omega))⟩, (o2.below k3 (Nat.le_refl _)).base hs1, fun q e hq => ?_⟩
    · rcases k2 k hk with x | x
      · have := a2 k x
        omega
      · omega
    · have z1 := (o2.lt e).1
      have z2 := (o2.lt e).2.1
      rcases k2 q hq with x | x
      · have := a1.lt x
        omega
      · omega

theorem KP.store {B : Nat} {w : World} {g dg : Nat} {ps : List Int} {a : Option Addr} {len c : Nat} {u : World} (h : KP B w g dg ps a len c u) {j : Nat} (hj : j < len) (y : Int) :
    ∃ q z, a = some ⟨q, 0, none⟩ ∧ u.cell? ⟨q, j, none⟩ = some (.int .i64 z) ∧ u.frozen? ⟨q, j, none⟩ = false ∧ Hid (KP B w g dg ps a len c (u.setCell ⟨q, j, none⟩ (.int .i64 y))) := by
  obtain ⟨S, ns, h1, h2, h3⟩ := h
  obtain ⟨q, rfl, hq, c1, f1⟩ := h2.cell hj
  refine ⟨q, _, rfl, c1, f1, S, _, ⟨h1.kv.kept (fun k hk => Below.heap_setCell _ _ _ _ ?_) (by simp), h1.low, by simpa using h1.siz, h1.bel.setCell hq _⟩, h2.set j y, h3⟩
  rintro rfl
  exact h3 _ rfl hk

/-- The cache, the rows a and r, and the list l. -/
structure KQ (B : Nat) (w : World) (g dg ga gr : Nat) (x : Int) (pa : Option Addr) (lp cp : Nat) (ps : List Int) (u : World) (S : Nat → Prop) (zr : List Int) : Prop where
  ke : KE B w g dg ga x u S
  br : Block u gr zr
  lr : zr.length = 68
  nr : ¬ S gr
  nar : gr ≠ ga
  rB : B ≤ gr
  po : IOwn B u pa lp cp ps
  pn : ∀ q, pa = some ⟨q, 0, none⟩ → ¬ S q

theorem KQ.later {B : Nat} {w : World} {g dg ga gr : Nat} {x : Int} {pa : Option Addr} {lp cp : Nat} {ps : List Int} {u u' : World} {S : Nat → Prop} {zr : List Int} (h : KQ B w g dg ga gr x pa lp cp ps u S zr) (hb : Below u.heap.size u u') : KQ B w g dg ga gr x pa lp cp ps u' S zr :=
  ⟨h.ke.later hb, h.br.below hb h.br.lt, h.lr, h.nr, h.nar, h.rB, h.po.below hb (Nat.le_refl _), h.pn⟩

theorem KQ.store {B : Nat} {w : World} {g dg ga gr : Nat} {x : Int} {u : World} {S : Nat → Prop} {zr : List Int} (h : KQ B w g dg ga gr x none 0 0 [] u S zr) (k : Nat) (y : Int) : KQ B w g dg ga gr x none 0 0 [] (u.setCell ⟨gr, k, none⟩ (.int .u8 y)) S (zr.set k y) :=
  ⟨h.ke.kept (fun q hq => Below.heap_setCell _ _ _ _ (fun e => h.nr (by have e' : q = gr := e; rw [← e']; exact hq))) (Below.heap_setCell _ _ _ _ (fun e => h.nar e.symm)) ((Below.refl _ _).setCell (p := ⟨gr, k, none⟩) h.rB _), h.br.set k y, by rw [List.length_set]; exact h.lr, h.nr, h.nar, h.rB, IOwn.nil _ _, fun q e => by cases e⟩

theorem KQ.nx {B : Nat} {w : World} {g dg ga gr : Nat} {x : Int} {pa : Option Addr} {lp cp : Nat} {ps : List Int} {u u' : World} {S S' : Nat → Prop} {zr : List Int} (h : KQ B w g dg ga gr x pa lp cp ps u S zr) (hc : KC1 u' S' g dg (fl x)) (hx : Nx S u S' u') : KQ B w g dg ga gr x pa lp cp ps u' S' zr :=
  have ka := hx.keep h.ke.ba.lt h.ke.na
  have kr := hx.keep h.br.lt h.nr
  ⟨⟨hc, ka.1.trans h.ke.ba, ka.2.1, hx.base h.ke.low h.ke.siz, h.ke.gB, Nat.le_trans h.ke.siz hx.fr.size, h.ke.bel.trans (hx.below h.ke.low h.ke.siz)⟩, kr.1.trans h.br, h.lr, kr.2.1, h.nar, h.rB, h.po.kept (fun q e => (hx.keep (h.po.lt e).1 (h.pn q e)).1), fun q e => (hx.keep (h.po.lt e).1 (h.pn q e)).2.1⟩

theorem kp_pt (ps : List Int) (z : List Int) : (Cac.new 4 ps).ptE (Dev.new 64 8) 1 = 0 ∧ (Cac.new 4 ps).ptC (Dev.new 64 8) 1 z = (Cac.new 4 ps).set 1 ⟨z, true, 0⟩ ∧ (Cac.new 4 ps).ptD (Dev.new 64 8) 1 = Dev.new 64 8 := by
  have h1 : ((Cac.new 4 ps).those (Dev.new 64 8).n fHeld).length < (Cac.new 4 ps).cap := by
    show (List.filter (fun _ => false) (List.range 8)).length < 4
    decide
  have e1 : (Cac.new 4 ps).rmE (Dev.new 64 8) = 0 := if_pos h1
  have e2 : (Cac.new 4 ps).rmC (Dev.new 64 8) = Cac.new 4 ps := if_pos h1
  have e3 : (Cac.new 4 ps).rmD (Dev.new 64 8) = Dev.new 64 8 := if_pos h1
  have hl : (Cac.new 4 ps).L 1 = none := rfl
  refine ⟨?_, ?_, ?_⟩
  · simp [Cac.ptE, hl, e1]
  · simp [Cac.ptC, hl, e1, e2]
  · simp [Cac.ptD, hl, e3]

/-- full, Roomy, Put. -/
theorem k_put {B : Nat} {w : World} {g dg : Nat} {ps : List Int} {a : Option Addr} {len c : Nat} {u : World} (h : KP B w g dg ps a len c u) (x : Int) (h0 : 0 ≤ x) (h1 : x ≤ 255) :
    Calls Try.prog 11 #[.int .u8 x] u fun e u1 => ∃ ga, e = .returned (.slice (some ⟨ga, 0, none⟩) 64 64) ∧
      Hid (Calls Try.prog 25 #[.slice (some ⟨ga, 0, none⟩) 64 64] u1 fun e u2 => ∃ gr, e = .returned (.slice (some ⟨gr, 0, none⟩) 64 68) ∧
        Hid (Calls Try.prog 10 #[.pointer (some ⟨g, 0, none⟩), .int .i64 1, .slice (some ⟨gr, 0, none⟩) 64 68] u2 fun e u3 => e = .returned (.int .i64 0) ∧ Hid (∃ S zr, KQ B w g dg ga gr x none 0 0 [] u3 S zr))) := by
  obtain ⟨S, ns, kl, _, _⟩ := h
  refine (full_any x u).mono ?_
  rintro e u1 ⟨rfl, a1, b1⟩
  refine ⟨_, rfl, ?_⟩
  refine (roomy_any _ 64 64 (fl x) u1 (full_row h0 h1 a1)).mono ?_
  rintro e u2 ⟨rfl, a2, b2⟩
  refine ⟨_, rfl, ?_⟩
  have k1 := kl.later b1
  have k2 := k1.later b2
  have s1 := b1.size
  have s2 := b2.size
  have l1 := a1.lt
  have l2 := a2.lt
  have sB := kl.siz
  have hs : ∀ k, S k → k < u.heap.size := fun k hk => kl.kv.lt hk
  have := put_any g dg 1 ⟨u1.heap.size, 0, none⟩ 68 (fl x) S (Cac.new 4 ps) (Dev.new 64 8) u2 k2.kv (show 1 < 8 by omega) (room_row (len := 64) a2 (fl_len x) (by omega) (fl_byt h0 h1)) (fun _ y e => by cases e; exact fun hk => by have := hs _ hk; simp at this; omega)
  rw [(kp_pt ps (fl x)).1, (kp_pt ps (fl x)).2.1, (kp_pt ps (fl x)).2.2] at this
  refine Calls.mono this ?_
  rintro e u3 ⟨rfl, S3, k3, x3⟩
  refine ⟨rfl, S3, rm (fl x) 4, ?_⟩
  have na : ¬ S u.heap.size := fun hk => by have := hs _ hk; omega
  have nr : ¬ S u1.heap.size := fun hk => by have := hs _ hk; omega
  have ba : Block u2 u.heap.size (fl x) := a1.below b2 a1.lt
  have ka := x3.keep ba.lt na
  have kr := x3.keep a2.lt nr
  exact ⟨⟨⟨_, _, _, k3, rfl, rfl, by simp [Cac.set]; rfl, rfl⟩, ka.1.trans ba, ka.2.1, x3.base k2.low k2.siz, sB, Nat.le_trans k2.siz x3.fr.size, k2.bel.trans (x3.below k2.low k2.siz)⟩, kr.1.trans a2, by rw [rm_length _ _ (by omega), fl_len], kr.2.1, by omega, by omega, IOwn.nil _ _, fun q e => by cases e⟩

/-- The list l is laid. -/
theorem k_list {B : Nat} {w : World} {g dg ga gr : Nat} {x : Int} {u : World} {S : Nat → Prop} {zr : List Int} (h : KQ B w g dg ga gr x none 0 0 [] u S zr) {a : Option Addr} {len c : Nat} {ns : List Int} {u1 : World} (ho : IOwn u.heap.size u1 a len c ns) (hb : Below u.heap.size u u1) : KQ B w g dg ga gr x a len c ns u1 S zr := by
  have h1 := h.later hb
  refine ⟨h1.ke, h1.br, h1.lr, h1.nr, h1.nar, h1.rB, ho.base h.ke.siz, fun q e hq => ?_⟩
  have := (ho.lt e).2.1
  have := h.ke.cc.lt hq
  omega

/-- Out. -/
theorem k_out {B : Nat} {w : World} {g dg ga gr : Nat} {x : Int} {pa : Option Addr} {lp cp : Nat} {ps : List Int} {u : World} {S : Nat → Prop} {zr : List Int} (h : KQ B w g dg ga gr x pa lp cp ps u S zr) (hl : lp ≤ 17592186043904) :
    Calls Try.prog 12 #[.pointer (some ⟨g, 0, none⟩), .slice pa lp cp] u fun e u1 => ∃ n, e = .returned (.int .i64 n) ∧ Hid (∃ S, KQ B w g dg ga gr x pa lp cp ps u1 S zr) := by
  obtain ⟨C, D, l, k1, k2, k3, k4, k5⟩ := h.ke.cc
  have hI := iown_has8 h.po
  by_cases hz : ∀ z ∈ ps, 0 ≤ z ∧ z < D.n
  · refine (out_kv g dg S C D u k1 pa lp cp ps h.po.1 (by omega) hI hz).mono ?_
    rintro e u1 ⟨rfl, S1, y1, y2⟩
    obtain ⟨⟨l', e1, e2⟩, e3, e4⟩ := kout_one (nums ps) C D l k4
    exact ⟨_, rfl, S1, h.nx ⟨_, _, l', y1, e3.trans k2, e4.trans k3, e1, e2.trans k5⟩ y2⟩
  · obtain ⟨Sc, Sd, m, km⟩ := k1.open
    have hln := h.po.1
    subst hln
    refine (out_bad g dg S Sc Sd C D m u km pa cp ps (by omega) hI hz).mono ?_
    rintro e u1 ⟨rfl, rfl⟩
    exact ⟨_, rfl, S, h⟩

/-- What was answered. -/
def KA (B : Nat) (u : World) (S : Nat → Prop) (ga gr : Nat) (x : Int) (tb tg : Trip) (i1 i2 i3 i4 i5 : FA.ITrip) : Prop :=
  Has u tb.1 64 (fl x) ∧ (∀ t ∈ [tb, tg, (some ⟨gr, 0, none⟩, 64, 68)], BR B u S ga t) ∧ [tb, tg, (some ⟨gr, 0, none⟩, 64, 68)].Pairwise Aside ∧ (∀ t ∈ [i1, i2, i3, i4, i5], IR B u S t) ∧ [i1, i2, i3, i4, i5].Pairwise FA.IAside

theorem KA.later {B : Nat} {u u' : World} {S : Nat → Prop} {ga gr : Nat} {x : Int} {tb tg : Trip} {i1 i2 i3 i4 i5 : FA.ITrip} (h : KA B u S ga gr x tb tg i1 i2 i3 i4 i5) (hb : Below u.heap.size u u') : KA B u' S ga gr x tb tg i1 i2 i3 i4 i5 :=
  ⟨h.1.later8 hb, fun t ht => (h.2.1 t ht).later hb, h.2.2.1, fun t ht => (h.2.2.2.1 t ht).later hb, h.2.2.2.2⟩

theorem kblock_own {u : World} {g B : Nat} {zs : List Int} (h : Block u g zs) (hB : B ≤ g) {n c : Nat} (hn : n ≤ c) (hc : zs.length = c) (hm : c ≤ 10000) : Own B u (some ⟨g, 0, none⟩) n c (zs.take n) :=
  ⟨by simp; omega, hn, by unfold maxLen; omega, .inr ⟨g, _, rfl, hB, h, by simp [hc], by simp [List.map_take]⟩⟩

/-- Two Gets, Held and Dirty twice. -/
theorem k_answers {B : Nat} {w : World} {g dg ga gr : Nat} {x : Int} {pa : Option Addr} {lp cp : Nat} {ps : List Int} {u : World} {S : Nat → Prop} {zr : List Int} (h : KQ B w g dg ga gr x pa lp cp ps u S zr) (hlp : lp ≤ 17592186043904) :
    Calls Try.prog 13 #[.pointer (some ⟨g, 0, none⟩), .int .i64 1] u fun e w1 => ∃ ab cb, e = .returned (.tuple #[.slice ab 64 cb, .int .i64 0]) ∧
      Hid (Calls Try.prog 13 #[.pointer (some ⟨g, 0, none⟩), .int .i64 1] w1 fun e w2 => ∃ ag cg, e = .returned (.tuple #[.slice ag 64 cg, .int .i64 0]) ∧
        Hid (Calls Try.prog 15 #[.pointer (some ⟨g, 0, none⟩)] w2 fun e w3 => ∃ a1 l1 c1, e = .returned (.slice a1 l1 c1) ∧
          Hid (Calls Try.prog 16 #[.pointer (some ⟨g, 0, none⟩)] w3 fun e w4 => ∃ a2 l2 c2, e = .returned (.slice a2 l2 c2) ∧
            Hid (Calls Try.prog 15 #[.pointer (some ⟨g, 0, none⟩)] w4 fun e w5 => ∃ a3 l3 c3, e = .returned (.slice a3 l3 c3) ∧
              Hid (Calls Try.prog 16 #[.pointer (some ⟨g, 0, none⟩)] w5 fun e w6 => ∃ a4 l4 c4, e = .returned (.slice a4 l4 c4) ∧
                Hid (KQ B w g dg ga gr x pa lp cp ps w6 S zr ∧ KA B w6 S ga gr x (ab, 64, cb) (ag, 64, cg) (a1, l1, c1) (a2, l2, c2) (a3, l3, c3) (a4, l4, c4) (pa, lp, cp))))))) := by
  refine (k_get h.ke).mono ?_
  rintro e w1 ⟨ab, cb, rfl, ob, b1, e1, rb⟩
  refine ⟨ab, cb, rfl, (k_get e1).mono ?_⟩
  rintro e w2 ⟨ag, cg, rfl, og, b2, e2, rg⟩
  refine ⟨ag, cg, rfl, (k_lists e2).1.mono ?_⟩
  rintro e w3 ⟨a1, l1, c1, rfl, ⟨x1, o1⟩, b3, e3, r1⟩
  refine ⟨a1, l1, c1, rfl, (k_lists e3).2.mono ?_⟩
  rintro e w4 ⟨a2, l2, c2, rfl, ⟨x2, o2⟩, b4, e4, r2⟩
  refine ⟨a2, l2, c2, rfl, (k_lists e4).1.mono ?_⟩
  rintro e w5 ⟨a3, l3, c3, rfl, ⟨x3, o3⟩, b5, e5, r3⟩
  refine ⟨a3, l3, c3, rfl, (k_lists e5).2.mono ?_⟩
  rintro e w6 ⟨a4, l4, c4, rfl, ⟨x4, o4⟩, b6, e6, r4⟩
  have s1 := b1.size
  have s2 := b2.size
  have s3 := b3.size
  have s4 := b4.size
  have s5 := b5.size
  have hq := (((((h.later b1).later b2).later b3).later b4).later b5).later b6
  refine ⟨a4, l4, c4, rfl, hq, ?_, ?_, ?_, ?_, ?_⟩
  · exact (((((ob.has.later8 b2).later8 b3).later8 b4).later8 b5).later8 b6)
  · intro t ht
    simp only [List.mem_cons, List.not_mem_nil, or_false] at ht
    rcases ht with rfl | rfl | rfl
    · exact (((((rb.later b2).later b3).later b4).later b5).later b6)
    · exact ((((rg.later b3).later b4).later b5).later b6)
    · exact ⟨_, kblock_own (n := 64) (c := 68) hq.br hq.rB (by decide) hq.lr (by decide), (by show (64 : Nat) ≤ 10000; omega), fun k e => by cases e; exact ⟨hq.nr, hq.nar⟩⟩
  · have hbg : Aside (ab, 64, cb) (ag, 64, cg) := aside_of ob og (Nat.le_refl _)
    have hr : ∀ {n : Nat} {v : World} {t : Trip} {xs : List Int}, Own n v t.1 t.2.1 t.2.2 xs → u.heap.size ≤ n → Aside t (some ⟨gr, 0, none⟩, 64, 68) := by
      intro n v t xs ho hn k e e'
      cases e'
      have := (ho.lt e).2.1
      have := h.br.lt
      omega
    simp only [List.pairwise_cons, List.mem_cons, List.not_mem_nil, or_false, forall_eq_or_imp, forall_eq, false_implies, implies_true, List.Pairwise.nil, and_true]
    exact ⟨⟨hbg, hr ob (Nat.le_refl _)⟩, hr og s1⟩
  · intro t ht
    simp only [List.mem_cons, List.not_mem_nil, or_false] at ht
    rcases ht with rfl | rfl | rfl | rfl | rfl
    · exact ((r1.later b4).later b5).later b6
    · exact (r2.later b5).later b6
    · exact r3.later b6
    · exact r4
    · exact ⟨ps, hq.po, hlp, hq.pn⟩
  · have hp : ∀ {n : Nat} {v : World} {t : FA.ITrip} {xs : List Int}, IOwn n v t.1 t.2.1 t.2.2 xs → u.heap.size ≤ n → FA.IAside t (pa, lp, cp) := by
      intro n v t xs ho hn k e e'
      have := (ho.lt e).2.1
      have := (h.po.lt e').1
      omega
    simp only [List.pairwise_cons, List.mem_cons, List.not_mem_nil, or_false, forall_eq_or_imp, forall_eq, false_implies, implies_true, List.Pairwise.nil, and_true]
    exact ⟨⟨FA.iaside_of o1 o2 (Nat.le_refl _), FA.iaside_of o1 o3 s4, FA.iaside_of o1 o4 (by omega), hp o1 (by omega)⟩, ⟨FA.iaside_of o2 o3 (Nat.le_refl _), FA.iaside_of o2 o4 s5, hp o2 (by omega)⟩, ⟨FA.iaside_of o3 o4 (Nat.le_refl _), hp o3 (by omega)⟩, hp o4 (by omega)⟩

end Go.Proofs.Ytpkhllpghjldhaa
