/- A group, its cache, its log and its device in memory, side by side. -/
import Derived.Test.YtdfanhjnkjdngaaGreatDoorAtOBase
import Derived.Test.YtdfanhjnkjdngaaGreatDoorAtJ46
namespace Go.Proofs.YtdfanhjnkjdngaaGreatDoor
open Go.RowKit Go.Shelf Go.Maps
set_option linter.unusedVariables false

def Hd.old (a b : Hd) : Prop := a.seq < b.seq ∨ (a.seq = b.seq ∧ b.used = 0 ∧ 0 < a.used)

theorem Hd.old.ne {a b : Hd} (h : a.old b) : a ≠ b := by
  rintro rfl
  rcases h with h | ⟨_, h1, h2⟩ <;> omega

theorem Hd.old.trans {a b c : Hd} (h : a.old b) (h' : b.old c) : a.old c := by
  rcases h with h | ⟨h1, h2, h3⟩ <;> rcases h' with h' | ⟨h4, h5, h6⟩
  · exact .inl (by omega)
  · exact .inl (by omega)
  · exact .inl (by omega)
  · omega

def Seen (m : GMem) (G : Geo) (L : Lg) : Prop := (m.hc = L.h ∧ ∀ b, b < G.n → m.Qc b = L.Q b) ∨ m.hc.old L.h

def Lg.foll (L L' : Lg) : Prop := (L'.h = L.h ∧ L'.Q = L.Q) ∨ L.h.old L'.h

theorem Lg.foll.refl (L : Lg) : L.foll L := .inl ⟨rfl, rfl⟩

theorem Lg.foll.trans {a b c : Lg} (h : a.foll b) (h' : b.foll c) : a.foll c := by
  rcases h with ⟨h1, h2⟩ | h <;> rcases h' with ⟨h3, h4⟩ | h'
  · exact .inl ⟨h3.trans h1, h4.trans h2⟩
  · rw [h1] at h'; exact .inr h'
  · right; rw [h3]; exact h
  · exact .inr (h.trans h')

theorem Seen.foll {m : GMem} {G : Geo} {L L' : Lg} (h : Seen m G L) (h' : L.foll L') : Seen m G L' := by
  rcases h with ⟨h1, h2⟩ | h <;> rcases h' with ⟨h3, h4⟩ | h'
  · exact .inl ⟨by rw [h3]; exact h1, fun b hb => by rw [h4]; exact h2 b hb⟩
  · rw [← h1] at h'; exact .inr h'
  · right; rw [h3]; exact h
  · exact .inr (h.trans h')

theorem met_foll (L : Lg) (e : Int) : L.foll (L.met e) := by
  unfold Lg.met
  split <;> exact .inl ⟨rfl, rfl⟩

theorem apl_foll (G : Geo) (L : Lg) (D : Dev) : L.foll (apL G L D) := by
  unfold apL
  by_cases h : L.h.used = 0
  · rw [if_pos h]; exact .refl _
  · rw [if_neg h]
    split
    · exact .inr (.inr ⟨rfl, rfl, by omega⟩)
    · exact .refl _

theorem aply_foll (G : Geo) (L : Lg) (D : Dev) : L.foll (aplyL G L D) := by
  unfold aplyL
  split
  · exact .refl _
  · exact (apl_foll G L D).trans (met_foll _ _)

theorem cml0_foll {G : Geo} (hG : G.Ok) (L : Lg) (W : Wl) (D : Dev) (hW : W.length ≠ 0) : L.foll (cmL0 G L W D) := by
  unfold cmL0
  split
  · refine .inr (.inl ?_)
    have := Geo.parts_step hG (n := W.length) (by omega)
    show L.h.seq < L.h.seq + G.parts W.length
    omega
  · exact .refl _

theorem cmt_foll {G : Geo} (hG : G.Ok) (L : Lg) (V : List Wr) (D : Dev) : L.foll (cmtL G L V D) := by
  unfold cmtL
  split
  · split
    · exact .refl _
    · by_cases h0 : V.length = 0
      · rw [if_pos h0]; exact .refl _
      · rw [if_neg h0]
        refine Lg.foll.trans ?_ (met_foll _ _)
        have hW : (wl V).length ≠ 0 := by rw [wl_len]; exact h0
        unfold cmL
        split
        · split
          · exact (apl_foll G L D).trans (cml0_foll hG _ _ _ hW)
          · exact apl_foll G L D
        · exact cml0_foll hG _ _ _ hW
  · exact .refl _

structure AllM (u : World) (S Sg Sc Sl Sd : Nat → Prop) (g cg lg dg : Nat) (P : Nat → Int) (G : Geo) (X : Grp) (C : Cac) (L : Lg) (D : Dev) (m : GMem) (mk : KMem) (ml : LMem) : Prop where
  gr : GrM u Sg g dg lg cg P G X m
  cc : CcM u Sc cg dg D.n D.blk C mk
  ll : LgM u Sl lg dg P G L ml
  dd : Dv u Sd dg D
  gc : ∀ k, Sg k → ¬ Sc k
  gl : ∀ k, Sg k → ¬ Sl k
  gd : ∀ k, Sg k → ¬ Sd k
  cl : ∀ k, Sc k → ¬ Sl k
  cd : ∀ k, Sc k → ¬ Sd k
  ld : ∀ k, Sl k → ¬ Sd k
  all : ∀ k, S k ↔ (Sg k ∨ Sc k ∨ Sl k ∨ Sd k)
  bd : D.blk = G.blk
  nd : D.n = G.n
  tab : Tab u
  z0 : ¬ S 0
  seen : Seen m G L

def Gv (u : World) (S : Nat → Prop) (g cg lg dg : Nat) (P : Nat → Int) (G : Geo) (X : Grp) (C : Cac) (L : Lg) (D : Dev) : Prop := ∃ Sg Sc Sl Sd m mk ml, AllM u S Sg Sc Sl Sd g cg lg dg P G X C L D m mk ml

theorem AllM.gv {u : World} {S Sg Sc Sl Sd : Nat → Prop} {g cg lg dg : Nat} {P : Nat → Int} {G : Geo} {X : Grp} {C : Cac} {L : Lg} {D : Dev} {m : GMem} {mk : KMem} {ml : LMem} (h : AllM u S Sg Sc Sl Sd g cg lg dg P G X C L D m mk ml) : Gv u S g cg lg dg P G X C L D := ⟨Sg, Sc, Sl, Sd, m, mk, ml, h⟩

theorem AllM.kv {u : World} {S Sg Sc Sl Sd : Nat → Prop} {g cg lg dg : Nat} {P : Nat → Int} {G : Geo} {X : Grp} {C : Cac} {L : Lg} {D : Dev} {m : GMem} {mk : KMem} {ml : LMem} (h : AllM u S Sg Sc Sl Sd g cg lg dg P G X C L D m mk ml) : KvM u (fun k => Sc k ∨ Sd k) Sc Sd cg dg C D mk :=
  ⟨h.cc, h.dd, h.cd, fun k => Iff.rfl⟩

theorem AllM.lv {u : World} {S Sg Sc Sl Sd : Nat → Prop} {g cg lg dg : Nat} {P : Nat → Int} {G : Geo} {X : Grp} {C : Cac} {L : Lg} {D : Dev} {m : GMem} {mk : KMem} {ml : LMem} (h : AllM u S Sg Sc Sl Sd g cg lg dg P G X C L D m mk ml) : LvM u (fun k => Sl k ∨ Sd k) Sl Sd lg dg P G L D ml :=
  ⟨h.ll, h.dd, h.ld, fun k => Iff.rfl, h.bd, h.nd, h.tab, fun x => h.z0 ((h.all 0).2 (by rcases x with x | x; exact .inr (.inr (.inl x)); exact .inr (.inr (.inr x))))⟩

theorem AllM.lt {u : World} {S Sg Sc Sl Sd : Nat → Prop} {g cg lg dg : Nat} {P : Nat → Int} {G : Geo} {X : Grp} {C : Cac} {L : Lg} {D : Dev} {m : GMem} {mk : KMem} {ml : LMem} (h : AllM u S Sg Sc Sl Sd g cg lg dg P G X C L D m mk ml) {k : Nat} (hk : S k) : k < u.heap.size := by
  rcases (h.all k).1 hk with x | x | x | x
  · exact h.gr.lt k x
  · exact h.cc.lt k x
  · exact h.ll.lt k x
  · exact h.dd.lt x

theorem AllM.keptAll {u u' : World} {S Sg Sc Sl Sd : Nat → Prop} {g cg lg dg : Nat} {P : Nat → Int} {G : Geo} {X : Grp} {C : Cac} {L : Lg} {D : Dev} {m : GMem} {mk : KMem} {ml : LMem} (h : AllM u S Sg Sc Sl Sd g cg lg dg P G X C L D m mk ml) (hk : ∀ k, S k → u'.heap[k]? = u.heap[k]?) (h0 : u'.heap[0]? = u.heap[0]?) (hs : u.heap.size ≤ u'.heap.size) : AllM u' S Sg Sc Sl Sd g cg lg dg P G X C L D m mk ml :=
  ⟨h.gr.kept (fun k x => hk k ((h.all k).2 (.inl x))) (fun _ x => x) (fun k x => Nat.lt_of_lt_of_le (h.gr.lt k x) hs), h.cc.kept (fun k x => hk k ((h.all k).2 (.inr (.inl x)))) (fun _ x => x) (fun k x => Nat.lt_of_lt_of_le (h.cc.lt k x) hs),
   h.ll.kept (fun k x => hk k ((h.all k).2 (.inr (.inr (.inl x))))) (fun _ x => x) (fun k x => Nat.lt_of_lt_of_le (h.ll.lt k x) hs), h.dd.kept (fun k x => hk k ((h.all k).2 (.inr (.inr (.inr x))))) hs, h.gc, h.gl, h.gd, h.cl, h.cd, h.ld, h.all, h.bd, h.nd, h.tab.kept h0, h.z0, h.seen⟩

theorem AllM.below {u u' : World} {S Sg Sc Sl Sd : Nat → Prop} {g cg lg dg : Nat} {P : Nat → Int} {G : Geo} {X : Grp} {C : Cac} {L : Lg} {D : Dev} {m : GMem} {mk : KMem} {ml : LMem} (h : AllM u S Sg Sc Sl Sd g cg lg dg P G X C L D m mk ml) (hb : Below u.heap.size u u') : AllM u' S Sg Sc Sl Sd g cg lg dg P G X C L D m mk ml :=
  h.keptAll (fun k hk => hb.block k (h.lt hk)) (hb.block 0 h.tab.lt) hb.size

theorem Gv.below {u u' : World} {S : Nat → Prop} {g cg lg dg : Nat} {P : Nat → Int} {G : Geo} {X : Grp} {C : Cac} {L : Lg} {D : Dev} (h : Gv u S g cg lg dg P G X C L D) (hb : Below u.heap.size u u') : Gv u' S g cg lg dg P G X C L D := by
  obtain ⟨_, _, _, _, _, _, _, h⟩ := h
  exact (h.below hb).gv

theorem Gv.lt {u : World} {S : Nat → Prop} {g cg lg dg : Nat} {P : Nat → Int} {G : Geo} {X : Grp} {C : Cac} {L : Lg} {D : Dev} (h : Gv u S g cg lg dg P G X C L D) {k : Nat} (hk : S k) : k < u.heap.size := by
  obtain ⟨_, _, _, _, _, _, _, h⟩ := h
  exact h.lt hk

theorem Nx.wide {A A' S S' : Nat → Prop} {u u' : World} (hx : Nx A u A' u') (h1 : ∀ k, A k → S k) (h2 : ∀ k, k < u.heap.size → S' k → S k) : Nx S u S' u' :=
  ⟨⟨hx.fr.os, hx.fr.tape, hx.fr.output, hx.fr.size, fun k hk hn => hx.fr.block k hk (fun x => hn (h1 k x))⟩, h2⟩

theorem AllM.cache {u u' : World} {S Sg Sc Sl Sd S1 : Nat → Prop} {g cg lg dg : Nat} {P : Nat → Int} {G : Geo} {X : Grp} {C C' : Cac} {L : Lg} {D D' : Dev} {m : GMem} {mk : KMem} {ml : LMem} (h : AllM u S Sg Sc Sl Sd g cg lg dg P G X C L D m mk ml)
    (hK : Kv u' S1 cg dg C' D') (hx : Nx (fun k => Sc k ∨ Sd k) u S1 u') (he : D'.n = D.n ∧ D'.blk = D.blk) :
    ∃ S' Sc' Sd' mk', AllM u' S' Sg Sc' Sl Sd' g cg lg dg P G X C' L D' m mk' ml ∧ Nx S u S' u' ∧ (∀ k, S' k → S1 k ∨ k < u.heap.size) := by
  obtain ⟨Sc', Sd', mk', c1, d1, dis, a1⟩ := hK
  have kg : ∀ k, Sg k → u'.heap[k]? = u.heap[k]? ∧ ¬ S1 k ∧ k < u'.heap.size := fun k hk => hx.keep (h.gr.lt k hk) (fun x => by rcases x with x | x; exact h.gc k hk x; exact h.gd k hk x)
  have kl : ∀ k, Sl k → u'.heap[k]? = u.heap[k]? ∧ ¬ S1 k ∧ k < u'.heap.size := fun k hk => hx.keep (h.ll.lt k hk) (fun x => by rcases x with x | x; exact h.cl k x hk; exact h.ld k hk x)
  have k0 := hx.keep h.tab.lt (fun x => h.z0 ((h.all 0).2 (by rcases x with x | x; exact .inr (.inl x); exact .inr (.inr (.inr x)))))
  refine ⟨fun k => Sg k ∨ Sc' k ∨ Sl k ∨ Sd' k, Sc', Sd', mk', ⟨h.gr.kept (fun k hk => (kg k hk).1) (fun _ x => x) (fun k hk => (kg k hk).2.2), c1, h.ll.kept (fun k hk => (kl k hk).1) (fun _ x => x) (fun k hk => (kl k hk).2.2), d1,
    fun k hk x => (kg k hk).2.1 ((a1 k).2 (.inl x)), h.gl, fun k hk x => (kg k hk).2.1 ((a1 k).2 (.inr x)), fun k x hk => (kl k hk).2.1 ((a1 k).2 (.inl x)), dis, fun k hk x => (kl k hk).2.1 ((a1 k).2 (.inr x)), fun k => Iff.rfl, he.2.trans h.bd, he.1.trans h.nd, h.tab.kept k0.1, ?_, h.seen⟩, ?_⟩
  · rintro (x | x | x | x)
    · exact h.z0 ((h.all 0).2 (.inl x))
    · exact k0.2.1 ((a1 0).2 (.inl x))
    · exact h.z0 ((h.all 0).2 (.inr (.inr (.inl x))))
    · exact k0.2.1 ((a1 0).2 (.inr x))
  · have sub : ∀ k, k < u.heap.size → S1 k → S k := fun k hk x => (h.all k).2 (by rcases hx.sub k hk x with y | y; exact .inr (.inl y); exact .inr (.inr (.inr y)))
    refine ⟨hx.wide (fun k x => (h.all k).2 (by rcases x with y | y; exact .inr (.inl y); exact .inr (.inr (.inr y)))) (fun k hk x => ?_), fun k x => ?_⟩
    · rcases x with x | x | x | x
      · exact (h.all k).2 (.inl x)
      · exact sub k hk ((a1 k).2 (.inl x))
      · exact (h.all k).2 (.inr (.inr (.inl x)))
      · exact sub k hk ((a1 k).2 (.inr x))
    · rcases x with x | x | x | x
      · exact .inr (h.gr.lt k x)
      · exact .inl ((a1 k).2 (.inl x))
      · exact .inr (h.ll.lt k x)
      · exact .inl ((a1 k).2 (.inr x))

theorem AllM.wal {u u' : World} {S Sg Sc Sl Sd S1 : Nat → Prop} {g cg lg dg : Nat} {P : Nat → Int} {G : Geo} {X : Grp} {C : Cac} {L L' : Lg} {D D' : Dev} {m : GMem} {mk : KMem} {ml : LMem} (h : AllM u S Sg Sc Sl Sd g cg lg dg P G X C L D m mk ml)
    (hK : Lv u' S1 lg dg P G L' D') (hx : Nx (fun k => Sl k ∨ Sd k) u S1 u') (hf : L.foll L') :
    ∃ S' Sl' Sd' ml', AllM u' S' Sg Sc Sl' Sd' g cg lg dg P G X C L' D' m mk ml' ∧ Nx S u S' u' := by
  obtain ⟨Sl', Sd', ml', v⟩ := hK
  have a1 := v.all
  have kg : ∀ k, Sg k → u'.heap[k]? = u.heap[k]? ∧ ¬ S1 k ∧ k < u'.heap.size := fun k hk => hx.keep (h.gr.lt k hk) (fun x => by rcases x with x | x; exact h.gl k hk x; exact h.gd k hk x)
  have kc : ∀ k, Sc k → u'.heap[k]? = u.heap[k]? ∧ ¬ S1 k ∧ k < u'.heap.size := fun k hk => hx.keep (h.cc.lt k hk) (fun x => by rcases x with x | x; exact h.cl k hk x; exact h.cd k hk x)
  have hc : CcM u' Sc cg dg D'.n D'.blk C mk := by
    rw [v.nd, v.bd, ← h.nd, ← h.bd]
    exact h.cc.kept (fun k hk => (kc k hk).1) (fun _ x => x) (fun k hk => (kc k hk).2.2)
  refine ⟨fun k => Sg k ∨ Sc k ∨ Sl' k ∨ Sd' k, Sl', Sd', ml', ⟨h.gr.kept (fun k hk => (kg k hk).1) (fun _ x => x) (fun k hk => (kg k hk).2.2), hc, v.ll, v.dd,
    h.gc, fun k hk x => (kg k hk).2.1 ((a1 k).2 (.inl x)), fun k hk x => (kg k hk).2.1 ((a1 k).2 (.inr x)), fun k hk x => (kc k hk).2.1 ((a1 k).2 (.inl x)), fun k hk x => (kc k hk).2.1 ((a1 k).2 (.inr x)), v.dis, fun k => Iff.rfl, v.bd, v.nd, v.tab, ?_, h.seen.foll hf⟩, ?_⟩
  · rintro (x | x | x | x)
    · exact h.z0 ((h.all 0).2 (.inl x))
    · exact h.z0 ((h.all 0).2 (.inr (.inl x)))
    · exact v.z0 ((a1 0).2 (.inl x))
    · exact v.z0 ((a1 0).2 (.inr x))
  · have sub : ∀ k, k < u.heap.size → S1 k → S k := fun k hk x => (h.all k).2 (by rcases hx.sub k hk x with y | y; exact .inr (.inr (.inl y)); exact .inr (.inr (.inr y)))
    refine hx.wide (fun k x => (h.all k).2 (by rcases x with y | y; exact .inr (.inr (.inl y)); exact .inr (.inr (.inr y)))) (fun k hk x => ?_)
    rcases x with x | x | x | x
    · exact (h.all k).2 (.inl x)
    · exact (h.all k).2 (.inr (.inl x))
    · exact sub k hk ((a1 k).2 (.inl x))
    · exact sub k hk ((a1 k).2 (.inr x))

theorem AllM.dev {u u' : World} {S Sg Sc Sl Sd Sd' : Nat → Prop} {g cg lg dg : Nat} {P : Nat → Int} {G : Geo} {X : Grp} {C : Cac} {L : Lg} {D D' : Dev} {m : GMem} {mk : KMem} {ml : LMem} (h : AllM u S Sg Sc Sl Sd g cg lg dg P G X C L D m mk ml)
    (hd : Dv u' Sd' dg D') (hx : Nx Sd u Sd' u') (he : D'.n = D.n ∧ D'.blk = D.blk) : ∃ S', AllM u' S' Sg Sc Sl Sd' g cg lg dg P G X C L D' m mk ml ∧ Nx S u S' u' := by
  have kg : ∀ k, Sg k → u'.heap[k]? = u.heap[k]? ∧ ¬ Sd' k ∧ k < u'.heap.size := fun k hk => hx.keep (h.gr.lt k hk) (h.gd k hk)
  have kc : ∀ k, Sc k → u'.heap[k]? = u.heap[k]? ∧ ¬ Sd' k ∧ k < u'.heap.size := fun k hk => hx.keep (h.cc.lt k hk) (h.cd k hk)
  have kl : ∀ k, Sl k → u'.heap[k]? = u.heap[k]? ∧ ¬ Sd' k ∧ k < u'.heap.size := fun k hk => hx.keep (h.ll.lt k hk) (h.ld k hk)
  have k0 := hx.keep h.tab.lt (fun x => h.z0 ((h.all 0).2 (.inr (.inr (.inr x)))))
  have hc : CcM u' Sc cg dg D'.n D'.blk C mk := by
    rw [he.1, he.2]
    exact h.cc.kept (fun k hk => (kc k hk).1) (fun _ x => x) (fun k hk => (kc k hk).2.2)
  refine ⟨fun k => Sg k ∨ Sc k ∨ Sl k ∨ Sd' k, ⟨h.gr.kept (fun k hk => (kg k hk).1) (fun _ x => x) (fun k hk => (kg k hk).2.2), hc, h.ll.kept (fun k hk => (kl k hk).1) (fun _ x => x) (fun k hk => (kl k hk).2.2), hd,
    h.gc, h.gl, fun k hk => (kg k hk).2.1, h.cl, fun k hk => (kc k hk).2.1, fun k hk => (kl k hk).2.1, fun k => Iff.rfl, he.2.trans h.bd, he.1.trans h.nd, h.tab.kept k0.1, ?_, h.seen⟩, hx.wide (fun k x => (h.all k).2 (.inr (.inr (.inr x)))) (fun k hk x => ?_)⟩
  · rintro (x | x | x | x)
    · exact h.z0 ((h.all 0).2 (.inl x))
    · exact h.z0 ((h.all 0).2 (.inr (.inl x)))
    · exact h.z0 ((h.all 0).2 (.inr (.inr (.inl x))))
    · exact k0.2.1 x
  · rcases x with x | x | x | x
    · exact (h.all k).2 (.inl x)
    · exact (h.all k).2 (.inr (.inl x))
    · exact (h.all k).2 (.inr (.inr (.inl x)))
    · exact (h.all k).2 (.inr (.inr (.inr (hx.sub k hk x))))

theorem AllM.own {u u' : World} {S Sg Sg' Sc Sl Sd : Nat → Prop} {g cg lg dg : Nat} {P : Nat → Int} {G : Geo} {X X' : Grp} {C : Cac} {L : Lg} {D : Dev} {m m' : GMem} {mk : KMem} {ml : LMem} (h : AllM u S Sg Sc Sl Sd g cg lg dg P G X C L D m mk ml)
    (hg : GrM u' Sg' g dg lg cg P G X' m') (hx : Nx Sg u Sg' u') (hs : Seen m' G L) : ∃ S', AllM u' S' Sg' Sc Sl Sd g cg lg dg P G X' C L D m' mk ml ∧ Nx S u S' u' ∧ (∀ k, S' k ↔ (Sg' k ∨ Sc k ∨ Sl k ∨ Sd k)) := by
  have kc : ∀ k, Sc k → u'.heap[k]? = u.heap[k]? ∧ ¬ Sg' k ∧ k < u'.heap.size := fun k hk => hx.keep (h.cc.lt k hk) (fun x => h.gc k x hk)
  have kl : ∀ k, Sl k → u'.heap[k]? = u.heap[k]? ∧ ¬ Sg' k ∧ k < u'.heap.size := fun k hk => hx.keep (h.ll.lt k hk) (fun x => h.gl k x hk)
  have kd : ∀ k, Sd k → u'.heap[k]? = u.heap[k]? ∧ ¬ Sg' k ∧ k < u'.heap.size := fun k hk => hx.keep (h.dd.lt hk) (fun x => h.gd k x hk)
  have k0 := hx.keep h.tab.lt (fun x => h.z0 ((h.all 0).2 (.inl x)))
  refine ⟨fun k => Sg' k ∨ Sc k ∨ Sl k ∨ Sd k, ⟨hg, h.cc.kept (fun k hk => (kc k hk).1) (fun _ x => x) (fun k hk => (kc k hk).2.2), h.ll.kept (fun k hk => (kl k hk).1) (fun _ x => x) (fun k hk => (kl k hk).2.2), h.dd.kept (fun k hk => (kd k hk).1) hx.fr.size,
    fun k hk x => (kc k x).2.1 hk, fun k hk x => (kl k x).2.1 hk, fun k hk x => (kd k x).2.1 hk, h.cl, h.cd, h.ld, fun k => Iff.rfl, h.bd, h.nd, h.tab.kept k0.1, ?_, hs⟩, hx.wide (fun k x => (h.all k).2 (.inl x)) (fun k hk x => ?_), fun k => Iff.rfl⟩
  · rintro (x | x | x | x)
    · exact k0.2.1 x
    · exact h.z0 ((h.all 0).2 (.inr (.inl x)))
    · exact h.z0 ((h.all 0).2 (.inr (.inr (.inl x))))
    · exact h.z0 ((h.all 0).2 (.inr (.inr (.inr x))))
  · rcases x with x | x | x | x
    · exact (h.all k).2 (.inl (hx.sub k hk x))
    · exact (h.all k).2 (.inr (.inl x))
    · exact (h.all k).2 (.inr (.inr (.inl x)))
    · exact (h.all k).2 (.inr (.inr (.inr x)))

end Go.Proofs.YtdfanhjnkjdngaaGreatDoor
