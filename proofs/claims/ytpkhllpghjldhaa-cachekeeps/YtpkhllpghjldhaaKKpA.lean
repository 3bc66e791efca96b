/- CacheKeeps: its memory and its calls. -/
import Derived.Test.YtpkhllpghjldhaaKFull
import Derived.Test.YtpkhllpghjldhaaGApartK
import Derived.Test.YtpkhllpghjldhaaGRoom
namespace Go.Proofs.Ytpkhllpghjldhaa
open Go.RowKit Go.Shelf
set_option linter.unusedVariables false

theorem kwb_one (C : Cac) (D : Dev) (b : Nat) {l : Ln} (h : C.L 1 = some l) : ∃ l', (C.wbC D b).L 1 = some l' ∧ l'.z = l.z := by
  unfold Cac.wbC
  cases hb : C.L b with
  | none => exact ⟨l, h, rfl⟩
  | some l2 =>
    simp only
    split
    · by_cases e : 1 = b
      · subst e
        rw [h] at hb
        cases hb
        exact ⟨{ l with d := false }, by simp [Cac.set], rfl⟩
      · exact ⟨l, by simp [Cac.set, e, h], rfl⟩
    · exact ⟨l, h, rfl⟩

/-- Writing out keeps what block 1 holds. -/
theorem kout_one : ∀ (s : List Nat) (C : Cac) (D : Dev) (l : Ln), C.L 1 = some l → (∃ l', (outC s C D).L 1 = some l' ∧ l'.z = l.z) ∧ (outD s C D).n = D.n ∧ (outD s C D).blk = D.blk
  | [], C, D, l, h => ⟨⟨l, h, rfl⟩, rfl, rfl⟩
  | b :: s, C, D, l, h => by
    obtain ⟨l1, e1, e2⟩ := kwb_one C D b h
    obtain ⟨n1, n2⟩ := wbD_n C D b
    unfold outC outD
    split
    · obtain ⟨⟨l2, e3, e4⟩, n3, n4⟩ := kout_one s (C.wbC D b) (C.wbD D b) l1 e1
      exact ⟨⟨l2, e3, e4.trans e2⟩, n3.trans n1, n4.trans n2⟩
    · exact ⟨⟨l1, e1, e2⟩, n1, n2⟩

/-- A cache of a device of eight blocks, that holds z under 1. -/
def KC1 (u : World) (S : Nat → Prop) (g dg : Nat) (z : List Int) : Prop := ∃ C D l, Kv u S g dg C D ∧ D.n = 8 ∧ D.blk = 64 ∧ C.L 1 = some l ∧ l.z = z

/-- The cache and the row a. -/
structure KE (B : Nat) (w : World) (g dg ga : Nat) (x : Int) (u : World) (S : Nat → Prop) : Prop where
  cc : KC1 u S g dg (fl x)
  ba : Block u ga (fl x)
  na : ¬ S ga
  low : ∀ k, S k → B ≤ k
  gB : B ≤ ga
  siz : B ≤ u.heap.size
  bel : Below B w u

theorem KC1.lt {u : World} {S : Nat → Prop} {g dg : Nat} {z : List Int} (h : KC1 u S g dg z) {k : Nat} (hk : S k) : k < u.heap.size := by
  obtain ⟨C, D, l, h, _⟩ := h
  exact h.lt hk

theorem KC1.kept {u u' : World} {S : Nat → Prop} {g dg : Nat} {z : List Int} (h : KC1 u S g dg z) (hk : ∀ k, S k → u'.heap[k]? = u.heap[k]?) (hs : u.heap.size ≤ u'.heap.size) : KC1 u' S g dg z := by
  obtain ⟨C, D, l, h, r⟩ := h
  exact ⟨C, D, l, h.kept hk hs, r⟩

theorem KE.kept {B : Nat} {w : World} {g dg ga : Nat} {x : Int} {u u' : World} {S : Nat → Prop} (h : KE B w g dg ga x u S) (hk : ∀ k, S k → u'.heap[k]? = u.heap[k]?) (ha : u'.heap[ga]? = u.heap[ga]?) (hb : Below B u u') : KE B w g dg ga x u' S :=
  ⟨h.cc.kept hk hb.size, ha.trans h.ba, h.na, h.low, h.gB, Nat.le_trans h.siz hb.size, h.bel.trans hb⟩

theorem KE.later {B : Nat} {w : World} {g dg ga : Nat} {x : Int} {u u' : World} {S : Nat → Prop} (h : KE B w g dg ga x u S) (hb : Below u.heap.size u u') : KE B w g dg ga x u' S :=
  h.kept (fun k hk => hb.block k (h.cc.lt hk)) (hb.block ga h.ba.lt) (hb.mono h.siz)

/-- A row of bytes, of a row of numbers, that is neither the cache's nor a's. -/
def BR (B : Nat) (u : World) (S : Nat → Prop) (ga : Nat) (t : Trip) : Prop := ∃ xs, Own B u t.1 t.2.1 t.2.2 xs ∧ t.2.1 ≤ 10000 ∧ ∀ k, t.1 = some ⟨k, 0, none⟩ → ¬ S k ∧ k ≠ ga

def IR (B : Nat) (u : World) (S : Nat → Prop) (t : FA.ITrip) : Prop := ∃ xs, IOwn B u t.1 t.2.1 t.2.2 xs ∧ t.2.1 ≤ 17592186043904 ∧ ∀ k, t.1 = some ⟨k, 0, none⟩ → ¬ S k

theorem BR.later {B : Nat} {u u' : World} {S : Nat → Prop} {ga : Nat} {t : Trip} (h : BR B u S ga t) (hb : Below u.heap.size u u') : BR B u' S ga t := by
  obtain ⟨xs, h1, h2⟩ := h
  exact ⟨xs, h1.below hb (Nat.le_refl _), h2⟩

theorem IR.later {B : Nat} {u u' : World} {S : Nat → Prop} {t : FA.ITrip} (h : IR B u S t) (hb : Below u.heap.size u u') : IR B u' S t := by
  obtain ⟨xs, h1, h2⟩ := h
  exact ⟨xs, h1.below hb (Nat.le_refl _), h2⟩

theorem ftrip_mem {ts : List Trip} {B Lb k : Nat} (h : FA.T (listsOf B Lb ts) k) : ∃ t ∈ ts, t.1 = some ⟨k, 0, none⟩ := by
  obtain ⟨p, hp, hA⟩ := h
  have hp' : p < ts.length := hp
  have : (tripAt ts p).1 = some ⟨k, 0, none⟩ := hA
  rw [tripAt_eq hp'] at this
  exact ⟨_, List.getElem_mem hp', this⟩

theorem fitrip_mem {ts : List FA.ITrip} {B Lb k : Nat} (h : FA.TI (FA.ilistsOf B Lb ts) k) : ∃ t ∈ ts, t.1 = some ⟨k, 0, none⟩ := by
  obtain ⟨p, hp, hA⟩ := h
  have hp' : p < ts.length := hp
  have : (FA.itripAt ts p).1 = some ⟨k, 0, none⟩ := hA
  rw [FA.itripAt_eq hp'] at this
  exact ⟨_, List.getElem_mem hp', this⟩

/-- BytesApart of rows of the law. -/
theorem k_bapart {B : Nat} {w : World} {g dg ga : Nat} {x : Int} {u : World} {S : Nat → Prop} (h : KE B w g dg ga x u S) (ts : List Trip) (is : List FA.ITrip) (hts : ∀ t ∈ ts, BR B u S ga t) (his : ∀ t ∈ is, IR B u S t) (N : Nat) (hN : ts.length = N) (hN6 : N ≤ 64) (hp : ts.Pairwise Aside) (Lb : Nat) (hLb : Lb = u.heap.size) :
    Calls Try.prog 27 #[.slice (some ⟨Lb, 0, none⟩) N N] (u.alloc (.cells (ts.map sval).toArray 36)) fun e w1 => e = .returned (.bool true) ∧ Hid (KE B w g dg ga x w1 S ∧ ∀ t ∈ is, IR B w1 S t) := by
  subst hLb
  have hb := (Below.refl u.heap.size u).alloc (Nat.le_refl _) (.cells (ts.map sval).toArray 36)
  have hnew : (u.alloc (.cells (ts.map sval).toArray 36)).heap[u.heap.size]? = some (.cells (ts.map sval).toArray 36 (0, 0)) := World.alloc_heap_new _ _
  have h1 := h.later hb
  have t1 : ∀ t ∈ ts, BR B (u.alloc (.cells (ts.map sval).toArray 36)) S ga t := fun t ht => (hts t ht).later hb
  have i1 : ∀ t ∈ is, IR B (u.alloc (.cells (ts.map sval).toArray 36)) S t := fun t ht => (his t ht).later hb
  generalize u.alloc (.cells (ts.map sval).toArray 36) = v at *
  refine (FA.apart_list B u.heap.size N ts v hN hN6 (fun t ht => ?_) h.siz hp hnew (fun t ht => ?_)).mono ?_
  · obtain ⟨xs, _, h2, _⟩ := t1 t ht
    omega
  · obtain ⟨xs, h2, _⟩ := t1 t ht
    exact ⟨xs, h2⟩
  · rintro e w1 ⟨rfl, z1, z2⟩
    refine ⟨rfl, h1.kept (fun k hk => z2 k (h1.cc.lt hk) (fun hT => ?_)) (z2 ga h1.ba.lt (fun hT => ?_)) z1, fun t ht => ?_⟩
    · obtain ⟨t, ht, e⟩ := ftrip_mem hT
      obtain ⟨_, _, _, h3⟩ := t1 t ht
      exact (h3 k e).1 hk
    · obtain ⟨t, ht, e⟩ := ftrip_mem hT
      obtain ⟨_, _, _, h3⟩ := t1 t ht
      exact (h3 ga e).2 rfl
    · obtain ⟨xs, o1, o2⟩ := i1 t ht
      refine ⟨xs, o1.kept (fun k e => z2 k (o1.lt e).1 (fun hT => ?_)), o2⟩
      obtain ⟨t', ht', e'⟩ := ftrip_mem hT
      obtain ⟨_, h3, _⟩ := t1 t' ht'
      obtain ⟨c1, hc1⟩ := (h3.lt e').2.2
      obtain ⟨c2, hc2⟩ := (o1.lt e).2.2
      rw [hc1] at hc2
      simp at hc2

/-- IntsApart of rows of the law. -/
theorem k_iapart {B : Nat} {w : World} {g dg ga : Nat} {x : Int} {u : World} {S : Nat → Prop} (h : KE B w g dg ga x u S) (is : List FA.ITrip) (his : ∀ t ∈ is, IR B u S t) (N : Nat) (hN : is.length = N) (hN6 : N ≤ 64) (hp : is.Pairwise FA.IAside) (Lb : Nat) (hLb : Lb = u.heap.size) :
    Calls Try.prog 28 #[.slice (some ⟨Lb, 0, none⟩) N N] (u.alloc (.cells (is.map isval).toArray 22)) fun e w1 => e = .returned (.bool true) ∧ Hid (KE B w g dg ga x w1 S) := by
  subst hLb
  have hb := (Below.refl u.heap.size u).alloc (Nat.le_refl _) (.cells (is.map isval).toArray 22)
  have hnew : (u.alloc (.cells (is.map isval).toArray 22)).heap[u.heap.size]? = some (.cells (is.map isval).toArray 22 (0, 0)) := World.alloc_heap_new _ _
  have h1 := h.later hb
  have i1 : ∀ t ∈ is, IR B (u.alloc (.cells (is.map isval).toArray 22)) S t := fun t ht => (his t ht).later hb
  generalize u.alloc (.cells (is.map isval).toArray 22) = v at *
  refine (FA.iapart_list B u.heap.size N is v hN hN6 (fun t ht => ?_) h.siz hp hnew (fun t ht => ?_)).mono ?_
  · obtain ⟨xs, _, h2, _⟩ := i1 t ht
    exact h2
  · obtain ⟨xs, h2, _⟩ := i1 t ht
    exact ⟨xs, h2⟩
  · rintro e w1 ⟨rfl, z1, z2⟩
    refine ⟨rfl, h1.kept (fun k hk => z2 k (h1.cc.lt hk) (fun hT => ?_)) (z2 ga h1.ba.lt (fun hT => ?_)) z1⟩
    · obtain ⟨t, ht, e⟩ := fitrip_mem hT
      obtain ⟨_, _, _, h3⟩ := i1 t ht
      exact h3 k e hk
    · obtain ⟨t, ht, e⟩ := fitrip_mem hT
      obtain ⟨_, h3, _⟩ := i1 t ht
      obtain ⟨c1, hc1⟩ := (h3.lt e).2.2
      have := h1.ba
      unfold Block at this
      rw [hc1] at this
      simp at this

/-- Get(1). -/
theorem k_get {B : Nat} {w : World} {g dg ga : Nat} {x : Int} {u : World} {S : Nat → Prop} (h : KE B w g dg ga x u S) :
    Calls Try.prog 13 #[.pointer (some ⟨g, 0, none⟩), .int .i64 1] u fun e u1 => ∃ a c, e = .returned (.tuple #[.slice a 64 c, .int .i64 0]) ∧ Own u.heap.size u1 a 64 c (fl x) ∧ Below u.heap.size u u1 ∧ KE B w g dg ga x u1 S ∧ BR B u1 S ga (a, 64, c) := by
  obtain ⟨C, D, l, k1, k2, k3, k4, k5⟩ := h.cc
  have := get_held g dg 1 l S C D u k1 (by rw [k2]; decide) k4
  rw [k3, k5] at this
  refine this.mono ?_
  rintro e u1 ⟨a, c, rfl, X⟩
  obtain ⟨o1, b1, k6, n1⟩ := unhide X
  refine ⟨a, c, rfl, o1, b1, h.later b1, fl x, o1.base h.siz, (by show (64 : Nat) ≤ 10000; omega), fun k e => ⟨n1 k e, ?_⟩⟩
  have := (o1.lt e).2.1
  have := h.ba.lt
  omega

/-- Held, or Dirty. -/
theorem k_lists {B : Nat} {w : World} {g dg ga : Nat} {x : Int} {u : World} {S : Nat → Prop} (h : KE B w g dg ga x u S) :
    (Calls Try.prog 15 #[.pointer (some ⟨g, 0, none⟩)] u fun e u1 => ∃ a l c, e = .returned (.slice a l c) ∧ (∃ xs, IOwn u.heap.size u1 a l c xs) ∧ Below u.heap.size u u1 ∧ KE B w g dg ga x u1 S ∧ IR B u1 S (a, l, c)) ∧
    (Calls Try.prog 16 #[.pointer (some ⟨g, 0, none⟩)] u fun e u1 => ∃ a l c, e = .returned (.slice a l c) ∧ (∃ xs, IOwn u.heap.size u1 a l c xs) ∧ Below u.heap.size u u1 ∧ KE B w g dg ga x u1 S ∧ IR B u1 S (a, l, c)) := by
  obtain ⟨C, D, l, k1, k2, k3, k4, k5⟩ := h.cc
  have hl : ∀ f, (C.list D.n f).length ≤ 8 := fun f => by
    have := C.those_len D.n f
    rw [k2] at this
    rw [k2]
    simpa [Cac.list] using this
  constructor
  · refine (held_kv g dg S C D u k1).mono ?_
    rintro e u1 ⟨v, rfl, g1, b1⟩
    obtain ⟨a, c, rfl, o1⟩ := g1.own
    refine ⟨a, _, c, rfl, ⟨_, o1⟩, b1, h.later b1, _, o1.base h.siz, ?_, fun k e hk => ?_⟩
    · have := hl fHeld
      show (C.list D.n fHeld).length ≤ _
      omega
    · have := (o1.lt e).2.1
      have := h.cc.lt hk
      omega
  · refine (dirty_kv g dg S C D u k1).mono ?_
    rintro e u1 ⟨v, rfl, g1, b1⟩
    obtain ⟨a, c, rfl, o1⟩ := g1.own
    refine ⟨a, _, c, rfl, ⟨_, o1⟩, b1, h.later b1, _, o1.base h.siz, ?_, fun k e hk => ?_⟩
    · have := hl fDirty
      show (C.list D.n fDirty).length ≤ _
      omega
    · have := (o1.lt e).2.1
      have := h.cc.lt hk
      omega

/-- The last Get. -/
theorem k_end {B : Nat} {w : World} {g dg ga : Nat} {x : Int} {u : World} {S : Nat → Prop} (h : KE B w g dg ga x u S) :
    Calls Try.prog 13 #[.pointer (some ⟨g, 0, none⟩), .int .i64 1] u fun e u1 => ∃ a c, e = .returned (.tuple #[.slice a 64 c, .int .i64 0]) ∧
      Hid (Calls Try.prog 14 #[.slice a 64 c, .slice (some ⟨ga, 0, none⟩) 64 64] u1 fun e u2 => e = .returned (.bool true) ∧ u1 = u2) ∧ Hid (Below B w u1) := by
  refine (k_get h).mono ?_
  rintro e u1 ⟨a, c, rfl, o1, b1, k1, _⟩
  exact ⟨a, c, rfl, same_true _ _ 64 c 64 (fl x) u1 o1.has (k1.ba.has (fl_len x)), k1.bel⟩

end Go.Proofs.Ytpkhllpghjldhaa
