/- DeviceKeeps: two devices, the law's rows and list. -/
import Derived.Test.YtikpmchjlpobdaaDCrB
import Derived.Test.YtikpmchjlpobdaaGApartF
import Derived.Test.YtikpmchjlpobdaaGApartJ
import Derived.Test.YtikpmchjlpobdaaGRoom
namespace Go.Proofs.Ytikpmchjlpobdaa
open Go.RowKit Go.Shelf
set_option linter.unusedVariables false

theorem iown_has7 {B : Nat} {w : World} {a : Option Addr} {n c : Nat} {ns : List Int} (h : IOwn B w a n c ns) : IHas w a n ns := by
  refine ⟨h.1, fun hp => ?_⟩
  obtain ⟨g, e, _, _, _⟩ := h.cell (j := 0) hp
  refine ⟨g, 0, e, fun j hj => ?_⟩
  obtain ⟨g', e', _, hc, _⟩ := h.cell hj
  rw [e] at e'
  cases e'
  rw [Nat.zero_add]
  exact hc

theorem app_ints7 {w : World} {a : Option Addr} {n c : Nat} {ns : List Int} (h : IHas w a n ns) (hn : n ≤ 17592186043904) :
    ∃ a1 c1 w1, (∀ ty, (Builtin.append_ #[32, 32] ty #[.slice (some ⟨w.heap.size, 0, none⟩) 0 0, .slice a n c]).run Try.prog (w.alloc (.cells #[] 3)) = .ok (.slice a1 n c1) w1) ∧ IOwn w.heap.size w1 a1 n c1 ns ∧ Below w.heap.size w w1 := by
  obtain ⟨i0, hi, hz0, hz1, hz2⟩ := info_parts info3
  have hb0 : Below w.heap.size w (w.alloc (.cells #[] 3)) := (Below.refl _ w).alloc (Nat.le_refl _) _
  have hs : (w.alloc (.cells #[] 3)).heap.size = w.heap.size + 1 := by simp
  by_cases h0 : n = 0
  · subst h0
    obtain rfl : ns = [] := List.eq_nil_of_length_eq_zero h.1
    refine ⟨some ⟨w.heap.size, 0, none⟩, 0, w.alloc (.cells #[] 3), fun ty => ?_, ⟨rfl, by omega, by unfold maxLen; omega, .inr ⟨w.heap.size, #[], rfl, Nat.le_refl _, World.alloc_heap_new _ _, rfl, rfl⟩⟩, hb0⟩
    cases a <;> simp [Builtin.append_, run_underlying Try.underlying32, sizeOf, typeInfo, hi, Builtin.lenOf, Builtin.firstCells, storeCells, loadCells, loadCellsFrom]
  · obtain ⟨b, off, rfl, hc⟩ := h.2 (by omega)
    have hl := h.1
    have hown : (w.alloc (.cells #[] 3)).ownsRow w.heap.size 3 1 (.slice (some ⟨w.heap.size, 0, none⟩) 0 0) 0 [] := ⟨rfl, .inr ⟨_, 0, #[], rfl, Nat.le_refl _, World.alloc_heap_new _ _, Nat.le_refl _, by unfold maxLen; omega, rfl, rfl⟩⟩
    obtain ⟨v', w', hr, ho, hg, _⟩ := run_append_own (P := Try.prog) (w.alloc (.cells #[] 3)) w.heap.size 32 0 3 i0 (.int .i64 0) 1 8 Try.underlying32 hi hz0 hz1 hz2 rfl (by decide) _ 0 [] hown ⟨b, off, none⟩ n c (ns.map (Value.int .i64)) (by simp [hl]) (by
      intro j u hj
      have hjl : j < n := by have := (List.getElem?_eq_some_iff.1 hj).1; simp at this; omega
      rw [World.add_zero_spot, hb0.cell (p := ⟨b, off + j, none⟩) (cell_block_lt (hc j hjl)), hc j hjl]
      rw [List.getElem?_map, List.getElem?_eq_getElem (by omega)] at hj
      rw [List.getElem?_eq_getElem (by omega)]
      simpa using hj) (oneCell_ints ns) (by unfold maxLen; omega) (by omega) (by omega)
    rw [List.nil_append, Nat.zero_add] at ho
    have hgr : Gr w.heap.size w' v' ns := by unfold Gr; rw [hl]; exact ho
    obtain ⟨a1, c1, rfl, hO⟩ := hgr.own
    rw [hl] at hr hO
    refine ⟨a1, c1, w', fun ty => hr, hO, hb0.grown hg (by omega) (fun k e => ?_)⟩
    simp [Value.ownBlock] at e
    omega

/-- Two devices, the row a, the row r, the list p. -/
structure KJ (B : Nat) (w : World) (gd go ga gr : Nat) (x : Int) (pa : Option Addr) (lp cp : Nat) (ps : List Int) (u : World) (Sd So : Nat → Prop) (D : Dev) (zr : List Int) : Prop where
  dd : Dv u Sd gd D
  d2 : Dv u So go (Dev.new 64 4)
  dis : ∀ k, Sd k → ¬ So k
  ba : Block u ga (fl x)
  br : Block u gr zr
  lr : zr.length = 68
  na : ¬ Sd ga ∧ ¬ So ga
  nr : ¬ Sd gr ∧ ¬ So gr
  nar : ga ≠ gr
  po : IOwn B u pa lp cp ps
  pn : ∀ q, pa = some ⟨q, 0, none⟩ → ¬ Sd q ∧ ¬ So q
  low : (∀ k, Sd k → B ≤ k) ∧ (∀ k, So k → B ≤ k)
  gB : B ≤ ga ∧ B ≤ gr
  siz : B ≤ u.heap.size
  bel : Below B w u

theorem KJ.later {B : Nat} {w : World} {gd go ga gr : Nat} {x : Int} {pa : Option Addr} {lp cp : Nat} {ps : List Int} {u u' : World} {Sd So : Nat → Prop} {D : Dev} {zr : List Int} (h : KJ B w gd go ga gr x pa lp cp ps u Sd So D zr) (hb : Below u.heap.size u u') : KJ B w gd go ga gr x pa lp cp ps u' Sd So D zr :=
  ⟨h.dd.below hb, h.d2.below hb, h.dis, h.ba.below hb h.ba.lt, h.br.below hb h.br.lt, h.lr, h.na, h.nr, h.nar, h.po.below hb (Nat.le_refl _), h.pn, h.low, h.gB, Nat.le_trans h.siz hb.size, h.bel.trans (hb.mono h.siz)⟩

/-- Blocks that stay. -/
theorem KJ.same {B : Nat} {w : World} {gd go ga gr : Nat} {x : Int} {pa : Option Addr} {lp cp : Nat} {ps : List Int} {u u' : World} {Sd So : Nat → Prop} {D : Dev} {zr zr' : List Int} (h : KJ B w gd go ga gr x pa lp cp ps u Sd So D zr) (hk : ∀ k, k < u.heap.size → k ≠ gr → (Sd k ∨ So k ∨ k = ga ∨ pa = some ⟨k, 0, none⟩) → u'.heap[k]? = u.heap[k]?) (hr : Block u' gr zr') (hl : zr'.length = 68) (hb : Below B u u') : KJ B w gd go ga gr x pa lp cp ps u' Sd So D zr' :=
  ⟨h.dd.kept (fun k hk' => hk k (h.dd.lt hk') (fun e => h.nr.1 (e ▸ hk')) (.inl hk')) hb.size, h.d2.kept (fun k hk' => hk k (h.d2.lt hk') (fun e => h.nr.2 (e ▸ hk')) (.inr (.inl hk'))) hb.size, h.dis, (hk ga h.ba.lt h.nar (.inr (.inr (.inl rfl)))).trans h.ba, hr, hl, h.na, h.nr, h.nar,
   h.po.kept (fun g e => hk g (h.po.lt e).1 (fun e2 => by
    subst e2
    obtain ⟨cur, hc⟩ := (h.po.lt e).2.2
    have := h.br
    unfold Block at this
    rw [hc] at this
    simp at this) (.inr (.inr (.inr e)))), h.pn, h.low, h.gB, Nat.le_trans h.siz hb.size, h.bel.trans hb⟩

/-- A call of the first device. -/
theorem KJ.nx {B : Nat} {w : World} {gd go ga gr : Nat} {x : Int} {pa : Option Addr} {lp cp : Nat} {ps : List Int} {u u' : World} {Sd Sd' So : Nat → Prop} {D D' : Dev} {zr : List Int} (h : KJ B w gd go ga gr x pa lp cp ps u Sd So D zr) (hd : Dv u' Sd' gd D') (hx : Nx Sd u Sd' u') : KJ B w gd go ga gr x pa lp cp ps u' Sd' So D' zr := by
  have k1 : ∀ k, So k → ¬ Sd k := fun k h1 h2 => h.dis k h2 h1
  refine ⟨hd, h.d2.kept (fun k hk => (hx.keep (h.d2.lt hk) (k1 k hk)).1) hx.fr.size, fun k hs ho => ?_, ((hx.keep h.ba.lt h.na.1).1).trans h.ba, ((hx.keep h.br.lt h.nr.1).1).trans h.br, h.lr, ⟨(hx.keep h.ba.lt h.na.1).2.1, h.na.2⟩, ⟨(hx.keep h.br.lt h.nr.1).2.1, h.nr.2⟩, h.nar, h.po.kept (fun g e => (hx.keep (h.po.lt e).1 (h.pn g e).1).1), fun q e => ⟨(hx.keep (h.po.lt e).1 (h.pn q e).1).2.1, (h.pn q e).2⟩, ⟨hx.base h.low.1 h.siz, h.low.2⟩, h.gB, Nat.le_trans h.siz hx.fr.size, h.bel.trans (hx.below h.low.1 h.siz)⟩
  exact k1 k ho (hx.sub k (h.d2.lt ho) hs)

/-- Behind New, New, full, Roomy. -/
theorem k_new (w u : World) (hb : Below w.heap.size w u) (x : Int) (h0 : 0 ≤ x) (h1 : x ≤ 255) :
    Calls Try.prog 10 #[.int .i64 64, .int .i64 4] u fun e w1 => ∃ gd, e = .returned (.tuple #[.pointer (some ⟨gd, 0, none⟩), .int .i64 0]) ∧
      Hid (Calls Try.prog 10 #[.int .i64 64, .int .i64 4] w1 fun e w2 => ∃ go, e = .returned (.tuple #[.pointer (some ⟨go, 0, none⟩), .int .i64 0]) ∧
        Hid (Calls Try.prog 36 #[.int .i64 64, .int .u8 x] w2 fun e w3 => ∃ ga, e = .returned (.slice (some ⟨ga, 0, none⟩) 64 64) ∧
          Hid (Calls Try.prog 37 #[.slice (some ⟨ga, 0, none⟩) 64 64] w3 fun e w4 => ∃ gr, e = .returned (.slice (some ⟨gr, 0, none⟩) 64 68) ∧
            Hid (∃ Sd So, KJ w.heap.size w gd go ga gr x none 0 0 [] w4 Sd So (Dev.new 64 4) (rm (fl x) 4))))) := by
  have hs := hb.size
  refine (new4 u).mono ?_
  rintro e w1 ⟨gd, Sd, rfl, a1, a2, a3⟩
  refine ⟨gd, rfl, ?_⟩
  refine (new4 w1).mono ?_
  rintro e w2 ⟨go, So, rfl, b1, b2, b3⟩
  refine ⟨go, rfl, ?_⟩
  refine (full_any x w2).mono ?_
  rintro e w3 ⟨rfl, c1, c2⟩
  refine ⟨_, rfl, ?_⟩
  refine (roomy_any (some ⟨w2.heap.size, 0, none⟩) 64 64 (fl x) w3 (full_row h0 h1 c1)).mono ?_
  rintro e w4 ⟨rfl, d1, d2⟩
  have s1 := a3.size
  have s2 := b3.size
  have s3 := c2.size
  have s4 := d2.size
  have l3 := c1.lt
  refine ⟨_, rfl, Sd, So, ((a1.below b3).below c2).below d2, (b1.below c2).below d2, fun k hk ho => ?_, c1.below d2 c1.lt, d1, by rw [rm_length _ _ (by omega), fl_len], ⟨fun hx => ?_, fun hx => ?_⟩, ⟨fun hx => ?_, fun hx => ?_⟩, by omega, IOwn.nil _ _, fun q e => (by cases e), ⟨fun k hk => Nat.le_trans hs (a2 k hk), fun k hk => by have := b2 k hk; omega⟩, ⟨by omega, by omega⟩, by omega, ((((hb.trans (a3.mono hs)).trans (b3.mono (by omega))).trans (c2.mono (by omega))).trans (d2.mono (by omega)))⟩
  · have := a1.lt hk; have := b2 k ho; omega
  · have := a1.lt hx; omega
  · have := b1.lt hx; omega
  · have := a1.lt hx; omega
  · have := b1.lt hx; omega

theorem rm_row {u : World} {g : Nat} {zs : List Int} (h : Block u g (rm zs 4)) (hl : zs.length = 64) (hz : ∀ z ∈ zs, 0 ≤ z ∧ z ≤ 255) : Row u.heap.size u (some ⟨g, 0, none⟩) 64 68 zs := by
  refine ⟨hl, by omega, ⟨by omega, by omega⟩, hz, fun _ => ⟨g, 0, rfl, h.lt, fun j hj => ?_⟩⟩
  rw [Nat.zero_add, h.cell (by rw [rm_length _ _ (by omega)]; omega)]
  unfold rm
  rw [List.getElem?_append_left (by omega)]

/-- What the device is behind the Write and the Load. -/
def kD (x : Int) : Dev := ((Dev.new 64 4).burn.add 1 (fl x)).load 2 (fl x)

theorem kD_rd1 (x : Int) : (kD x).rd 1 = fl x := by simp [kD, Dev.rd, Dev.load, Dev.add, Dev.burn]

theorem kD_rd2 (x : Int) : (kD x).rd 2 = fl x := by simp [kD, Dev.rd, Dev.load]

theorem kD_crash (x : Int) (ps : List Int) : ((kD x).crash ps).rd 2 = fl x := by
  have h : (kD x).Y 2 = [] := by simp [kD, Dev.load]
  simp only [Dev.rd, Dev.crash, Dev.live, Dev.crashTo]
  rw [if_pos (show 2 < (kD x).n from (by decide : 2 < 4)), if_pos (show 2 < (kD x).n from (by decide : 2 < 4))]
  show (kD x).pick 2 _ = _
  rw [pick_low (.inr h)]
  simp [kD, Dev.load]

theorem k_write {B : Nat} {w : World} {gd go ga gr : Nat} {x : Int} {pa : Option Addr} {lp cp : Nat} {ps : List Int} {u : World} {Sd So : Nat → Prop} (h : KJ B w gd go ga gr x pa lp cp ps u Sd So (Dev.new 64 4) (rm (fl x) 4)) (h0 : 0 ≤ x) (h1 : x ≤ 255) :
    Calls Try.prog 15 #[.pointer (some ⟨gd, 0, none⟩), .int .i64 1, .slice (some ⟨gr, 0, none⟩) 64 68] u fun e w1 => e = .returned (.int .i64 0) ∧
      Hid (Calls Try.prog 23 #[.pointer (some ⟨gd, 0, none⟩), .int .i64 2, .slice (some ⟨gr, 0, none⟩) 64 68] w1 fun e w2 => e = .returned (.int .i64 0) ∧
        Hid (Calls Try.prog 38 #[.slice (some ⟨gr, 0, none⟩) 64 68, .slice (some ⟨ga, 0, none⟩) 64 64] w2 fun e w3 => e = .returned (.bool true) ∧ Hid (∃ Sd zr, KJ B w gd go ga gr x pa lp cp ps w3 Sd So (kD x) zr))) := by
  have hout : ∀ (S : Nat → Prop), ¬ S gr → Out S 64 (some ⟨gr, 0, none⟩) := fun S hs _ y e => by cases e; exact hs
  refine (write_ok gd 1 (some ⟨gr, 0, none⟩) 68 (fl x) Sd (Dev.new 64 4) u h.dd (by decide) (by unfold Dev.burnt Dev.new; decide) (rm_row h.br (fl_len x) (fl_byt h0 h1)) (hout Sd h.nr.1) (by decide)).mono ?_
  rintro e w1 ⟨rfl, S1, y1, y2⟩
  have k1 := h.nx y1 y2
  refine ⟨rfl, ?_⟩
  refine (load_ok gd 2 (some ⟨gr, 0, none⟩) 68 (fl x) S1 ((Dev.new 64 4).burn.add 1 (fl x)) w1 k1.dd (show 2 < ((Dev.new 64 4).burn.add 1 (fl x)).n from (by decide : 2 < 4)) (rm_row k1.br (fl_len x) (fl_byt h0 h1))).mono ?_
  rintro e w2 ⟨rfl, S2, z1, z2⟩
  have k2 := k1.nx z1 z2
  refine ⟨rfl, ?_⟩
  refine (kept_any gr (some ⟨ga, 0, none⟩) 64 64 (fl x) w2 (by omega) k2.br (k2.ba.has (fl_len x))).mono ?_
  rintro e w3 ⟨rfl, q⟩
  exact ⟨rfl, S2, _, k2.later q⟩

theorem KJ.store {B : Nat} {w : World} {gd go ga gr : Nat} {x : Int} {pa : Option Addr} {lp cp : Nat} {ps : List Int} {u : World} {Sd So : Nat → Prop} {D : Dev} {zr : List Int} (h : KJ B w gd go ga gr x pa lp cp ps u Sd So D zr) (k : Nat) (y : Int) : KJ B w gd go ga gr x pa lp cp ps (u.setCell ⟨gr, k, none⟩ (.int .u8 y)) Sd So D (zr.set k y) :=
  h.same (fun q _ hq _ => Below.heap_setCell _ _ _ _ hq) (h.br.set k y) (by rw [List.length_set]; exact h.lr) ((Below.refl _ _).setCell h.gB.2 _)

theorem KJ.rd {B : Nat} {w : World} {gd go ga gr : Nat} {x : Int} {pa : Option Addr} {lp cp : Nat} {ps : List Int} {u : World} {Sd So : Nat → Prop} {zr : List Int} (h : KJ B w gd go ga gr x pa lp cp ps u Sd So (kD x) zr) (i : Nat) (hi : i < 4) (hr : (kD x).rd i = fl x) :
    Calls Try.prog 12 #[.pointer (some ⟨gd, 0, none⟩), .int .i64 i] u fun e w' => e = .returned (.tuple #[.slice (some ⟨u.heap.size, 0, none⟩) 64 64, .int .i64 0]) ∧ Block w' u.heap.size (fl x) ∧ KJ B w gd go ga gr x pa lp cp ps w' Sd So (kD x) zr ∧ Below u.heap.size u w' := by
  refine (read64 gd i Sd (kD x) u h.dd rfl rfl hi).mono ?_
  rintro e w' ⟨rfl, y1, y2⟩
  rw [hr] at y1
  exact ⟨rfl, y1, h.later y2, y2⟩

/-- The three rows that were read. -/
def KR3 (u : World) (x : Int) (gr kb kc kg : Nat) (Sd So : Nat → Prop) (ga : Nat) (pa : Option Addr) : Prop :=
  Block u kb (fl x) ∧ Block u kc (fl x) ∧ Block u kg (fl x) ∧ gr < kb ∧ kb < kc ∧ kc < kg ∧ (∀ k, (k = kb ∨ k = kc ∨ k = kg) → ¬ Sd k ∧ ¬ So k ∧ k ≠ ga ∧ pa ≠ some ⟨k, 0, none⟩)

theorem KR3.later {u u' : World} {x : Int} {gr kb kc kg : Nat} {Sd So : Nat → Prop} {ga : Nat} {pa : Option Addr} (h : KR3 u x gr kb kc kg Sd So ga pa) (hb : Below u.heap.size u u') : KR3 u' x gr kb kc kg Sd So ga pa :=
  ⟨h.1.below hb h.1.lt, h.2.1.below hb h.2.1.lt, h.2.2.1.below hb h.2.2.1.lt, h.2.2.2⟩

/-- Three reads, two lists of what waits, and the three rows are what was written. -/
theorem k_reads {B : Nat} {w : World} {gd go ga gr : Nat} {x : Int} {pa : Option Addr} {lp cp : Nat} {ps : List Int} {u : World} {Sd So : Nat → Prop} {zr : List Int} (h : KJ B w gd go ga gr x pa lp cp ps u Sd So (kD x) zr) :
    Calls Try.prog 12 #[.pointer (some ⟨gd, 0, none⟩), .int .i64 1] u fun e w1 => ∃ kb, e = .returned (.tuple #[.slice (some ⟨kb, 0, none⟩) 64 64, .int .i64 0]) ∧
      Hid (Calls Try.prog 12 #[.pointer (some ⟨gd, 0, none⟩), .int .i64 2] w1 fun e w2 => ∃ kc, e = .returned (.tuple #[.slice (some ⟨kc, 0, none⟩) 64 64, .int .i64 0]) ∧
        Hid (Calls Try.prog 12 #[.pointer (some ⟨gd, 0, none⟩), .int .i64 1] w2 fun e w3 => ∃ kg, e = .returned (.tuple #[.slice (some ⟨kg, 0, none⟩) 64 64, .int .i64 0]) ∧
          Hid (Calls Try.prog 34 #[.pointer (some ⟨gd, 0, none⟩)] w3 fun e w4 => ∃ a1 l1 c1, e = .returned (.slice a1 l1 c1) ∧
            Hid (Calls Try.prog 34 #[.pointer (some ⟨gd, 0, none⟩)] w4 fun e w5 => ∃ a2 l2 c2, e = .returned (.slice a2 l2 c2) ∧
              Hid (KJ B w gd go ga gr x pa lp cp ps w5 Sd So (kD x) zr ∧ KR3 w5 x gr kb kc kg Sd So ga pa ∧ (∃ n1 n2 xs ys, IOwn n1 w5 a1 l1 c1 xs ∧ IOwn n2 w5 a2 l2 c2 ys ∧ IAside (a1, l1, c1) (a2, l2, c2) ∧ l1 ≤ 10000 ∧ l2 ≤ 10000 ∧ n1 ≤ n2 ∧ kg < n1 ∧ n1 ≤ w5.heap.size ∧ (∀ k, Sd k → k < n1) ∧ (∀ k, So k → k < n1) ∧ ga < n1 ∧ (∀ k, pa = some ⟨k, 0, none⟩ → k < n1))))))) := by
  refine (h.rd 1 (by omega) (kD_rd1 x)).mono ?_
  rintro e w1 ⟨rfl, r1, h1, b1⟩
  refine ⟨_, rfl, ?_⟩
  refine (h1.rd 2 (by omega) (kD_rd2 x)).mono ?_
  rintro e w2 ⟨rfl, r2, h2, b2⟩
  refine ⟨_, rfl, ?_⟩
  refine (h2.rd 1 (by omega) (kD_rd1 x)).mono ?_
  rintro e w3 ⟨rfl, r3, h3, b3⟩
  refine ⟨_, rfl, ?_⟩
  refine (waiting_any gd Sd (kD x) w3 h3.dd).mono ?_
  rintro e w4 ⟨a1, c1, rfl, o1, b4⟩
  refine ⟨a1, _, c1, rfl, ?_⟩
  have h4 := h3.later b4
  refine (waiting_any gd Sd (kD x) w4 h4.dd).mono ?_
  rintro e w5 ⟨a2, c2, rfl, o2, b5⟩
  refine ⟨a2, _, c2, rfl, h4.later b5, ?_, w3.heap.size, w4.heap.size, _, _, o1.below b5 (Nat.le_refl _), o2, iaside_of (t := (a1, (kD x).waitL.length, c1)) (u := (a2, (kD x).waitL.length, c2)) o1 o2 (Nat.le_refl _), ?_, ?_, b4.size, r3.lt, Nat.le_trans b4.size b5.size, fun k hk => ?_, fun k hk => ?_, ?_, fun k hk => ?_⟩
  · have s1 := r1.lt
    have s2 := r2.lt
    have s3 := h.br.lt
    have l1 := b1.size
    have l2 := b2.size
    refine ⟨(((r1.below b2 r1.lt).below b3 (by omega)).below b4 (by have := b3.size; omega)).below b5 (by have := b3.size; have := b4.size; omega), ((r2.below b3 r2.lt).below b4 (by have := b3.size; omega)).below b5 (by have := b3.size; have := b4.size; omega), (r3.below b4 r3.lt).below b5 (by have := r3.lt; have := b4.size; omega), s3, s1, s2, fun k hk => ⟨fun hx => ?_, fun hx => ?_, fun e => ?_, fun e => ?_⟩⟩
    · have := h.dd.lt hx; omega
    · have := h.d2.lt hx; omega
    · have := h.ba.lt; omega
    · have := (h.po.lt e).1; omega
  · have := waitTo_len (kD x) (kD x).n
    show ((kD x).waitTo (kD x).n).length ≤ 10000
    have e4 : (kD x).n = 4 := rfl
    omega
  · have := waitTo_len (kD x) (kD x).n
    show ((kD x).waitTo (kD x).n).length ≤ 10000
    have e4 : (kD x).n = 4 := rfl
    omega
  · exact h3.dd.lt hk
  · exact h3.d2.lt hk
  · exact h3.ba.lt
  · exact (h3.po.lt hk).1

theorem block_own {u : World} {g B : Nat} {zs : List Int} (h : Block u g zs) (hB : B ≤ g) {n c : Nat} (hn : n ≤ c) (hc : zs.length = c) (hm : c ≤ 10000) : Own B u (some ⟨g, 0, none⟩) n c (zs.take n) :=
  ⟨by simp; omega, hn, by unfold maxLen; omega, .inr ⟨g, _, rfl, hB, h, by simp [hc], by simp [List.map_take]⟩⟩

/-- Two devices, the row a and the list p. -/
structure KE (B : Nat) (w : World) (gd go ga : Nat) (x : Int) (pa : Option Addr) (lp cp : Nat) (ps : List Int) (u : World) (Sd So : Nat → Prop) (D : Dev) : Prop where
  dd : Dv u Sd gd D
  d2 : Dv u So go (Dev.new 64 4)
  dis : ∀ k, Sd k → ¬ So k
  ba : Block u ga (fl x)
  na : ¬ Sd ga ∧ ¬ So ga
  po : IOwn B u pa lp cp ps
  pn : ∀ q, pa = some ⟨q, 0, none⟩ → ¬ Sd q ∧ ¬ So q
  low : (∀ k, Sd k → B ≤ k) ∧ (∀ k, So k → B ≤ k)
  siz : B ≤ u.heap.size
  bel : Below B w u

theorem KE.later {B : Nat} {w : World} {gd go ga : Nat} {x : Int} {pa : Option Addr} {lp cp : Nat} {ps : List Int} {u u' : World} {Sd So : Nat → Prop} {D : Dev} (h : KE B w gd go ga x pa lp cp ps u Sd So D) (hb : Below u.heap.size u u') : KE B w gd go ga x pa lp cp ps u' Sd So D :=
  ⟨h.dd.below hb, h.d2.below hb, h.dis, h.ba.below hb h.ba.lt, h.na, h.po.below hb (Nat.le_refl _), h.pn, h.low, Nat.le_trans h.siz hb.size, h.bel.trans (hb.mono h.siz)⟩

theorem KE.nx {B : Nat} {w : World} {gd go ga : Nat} {x : Int} {pa : Option Addr} {lp cp : Nat} {ps : List Int} {u u' : World} {Sd Sd' So : Nat → Prop} {D D' : Dev} (h : KE B w gd go ga x pa lp cp ps u Sd So D) (hd : Dv u' Sd' gd D') (hx : Nx Sd u Sd' u') : KE B w gd go ga x pa lp cp ps u' Sd' So D' := by
  have k1 : ∀ k, So k → ¬ Sd k := fun k h1 h2 => h.dis k h2 h1
  refine ⟨hd, h.d2.kept (fun k hk => (hx.keep (h.d2.lt hk) (k1 k hk)).1) hx.fr.size, fun k hs ho => ?_, ((hx.keep h.ba.lt h.na.1).1).trans h.ba, ⟨(hx.keep h.ba.lt h.na.1).2.1, h.na.2⟩, h.po.kept (fun g e => (hx.keep (h.po.lt e).1 (h.pn g e).1).1), fun q e => ⟨(hx.keep (h.po.lt e).1 (h.pn q e).1).2.1, (h.pn q e).2⟩, ⟨hx.base h.low.1 h.siz, h.low.2⟩, Nat.le_trans h.siz hx.fr.size, h.bel.trans (hx.below h.low.1 h.siz)⟩
  exact k1 k ho (hx.sub k (h.d2.lt ho) hs)

/-- BytesApart, then IntsApart. -/
theorem k_apart {B : Nat} {w : World} {gd go ga gr : Nat} {x : Int} {pa : Option Addr} {lp cp : Nat} {ps : List Int} {u : World} {Sd So : Nat → Prop} {zr : List Int} {kb kc kg : Nat} (h : KJ B w gd go ga gr x pa lp cp ps u Sd So (kD x) zr) (h3 : KR3 u x gr kb kc kg Sd So ga pa)
    {a1 a2 : Option Addr} {l1 l2 c1 c2 n1 n2 : Nat} {xs ys : List Int} (o1 : IOwn n1 u a1 l1 c1 xs) (o2 : IOwn n2 u a2 l2 c2 ys) (has : IAside (a1, l1, c1) (a2, l2, c2)) (m1 : l1 ≤ 10000) (m2 : l2 ≤ 10000) (n12 : n1 ≤ n2) (nk : kg < n1) (nu : n1 ≤ u.heap.size) (q1 : ∀ k, Sd k → k < n1) (q2 : ∀ k, So k → k < n1) (q3 : ga < n1) (q4 : ∀ k, pa = some ⟨k, 0, none⟩ → k < n1) (Lb : Nat) (hLb : Lb = u.heap.size) :
    Calls Try.prog 39 #[.slice (some ⟨Lb, 0, none⟩) 4 4] (u.alloc (.cells #[.slice (some ⟨kb, 0, none⟩) 64 64, .slice (some ⟨kc, 0, none⟩) 64 64, .slice (some ⟨kg, 0, none⟩) 64 64, .slice (some ⟨gr, 0, none⟩) 64 68] 31)) fun e w1 => e = .returned (.bool true) ∧
      Hid (∀ L2, L2 = w1.heap.size → Calls Try.prog 40 #[.slice (some ⟨L2, 0, none⟩) 2 2] (w1.alloc (.cells #[.slice a1 l1 c1, .slice a2 l2 c2] 32)) fun e w2 => e = .returned (.bool true) ∧ Hid (KE B w gd go ga x pa lp cp ps w2 Sd So (kD x))) := by
  subst hLb
  have hb := (Below.refl u.heap.size u).alloc (Nat.le_refl _) (.cells #[.slice (some ⟨kb, 0, none⟩) 64 64, .slice (some ⟨kc, 0, none⟩) 64 64, .slice (some ⟨kg, 0, none⟩) 64 64, .slice (some ⟨gr, 0, none⟩) 64 68] 31)
  have hnew : (u.alloc (.cells #[.slice (some ⟨kb, 0, none⟩) 64 64, .slice (some ⟨kc, 0, none⟩) 64 64, .slice (some ⟨kg, 0, none⟩) 64 64, .slice (some ⟨gr, 0, none⟩) 64 68] 31)).heap[u.heap.size]? = some (.cells #[.slice (some ⟨kb, 0, none⟩) 64 64, .slice (some ⟨kc, 0, none⟩) 64 64, .slice (some ⟨kg, 0, none⟩) 64 64, .slice (some ⟨gr, 0, none⟩) 64 68] 31 (0, 0)) := World.alloc_heap_new _ _
  have hk := h.later hb
  have hk3 := h3.later hb
  have ob1 := o1.below hb (Nat.le_refl _)
  have ob2 := o2.below hb (Nat.le_refl _)
  have hsz : u.heap.size < (u.alloc (.cells #[.slice (some ⟨kb, 0, none⟩) 64 64, .slice (some ⟨kc, 0, none⟩) 64 64, .slice (some ⟨kg, 0, none⟩) 64 64, .slice (some ⟨gr, 0, none⟩) 64 68] 31)).heap.size := by simp
  generalize hv : u.alloc (.cells #[.slice (some ⟨kb, 0, none⟩) 64 64, .slice (some ⟨kc, 0, none⟩) 64 64, .slice (some ⟨kg, 0, none⟩) 64 64, .slice (some ⟨gr, 0, none⟩) 64 68] 31) = v at *
  obtain ⟨e1, e2, e3, e4, e5, e6, e7⟩ := hk3
  have gB := hk.gB
  have aside : ∀ (p q l c l' c' : Nat), p ≠ q → Aside (some ⟨p, 0, none⟩, l, c) (some ⟨q, 0, none⟩, l', c') := by
    intro p q l c l' c' hne g x1 x2
    simp at x1 x2
    omega
  refine (FA.apart_list B u.heap.size 4 [(some ⟨kb, 0, none⟩, 64, 64), (some ⟨kc, 0, none⟩, 64, 64), (some ⟨kg, 0, none⟩, 64, 64), (some ⟨gr, 0, none⟩, 64, 68)] v rfl (by omega) (fun t ht => ?_) h.siz ?_ hnew (fun t ht => ?_)).mono ?_
  · simp at ht
    rcases ht with rfl | rfl | rfl | rfl <;> simp
  · simp only [List.pairwise_cons, List.mem_cons, List.not_mem_nil, or_false, forall_eq_or_imp, forall_eq, false_implies, implies_true, List.Pairwise.nil, and_true]
    exact ⟨⟨aside _ _ _ _ _ _ (by omega), aside _ _ _ _ _ _ (by omega), aside _ _ _ _ _ _ (by omega)⟩, ⟨aside _ _ _ _ _ _ (by omega), aside _ _ _ _ _ _ (by omega)⟩, aside _ _ _ _ _ _ (by omega)⟩
  · simp at ht
    rcases ht with rfl | rfl | rfl | rfl
    · exact ⟨_, block_own (n := 64) (c := 64) e1 (by omega) (by decide) (fl_len x) (by decide)⟩
    · exact ⟨_, block_own (n := 64) (c := 64) e2 (by omega) (by decide) (fl_len x) (by decide)⟩
    · exact ⟨_, block_own (n := 64) (c := 64) e3 (by omega) (by decide) (fl_len x) (by decide)⟩
    · exact ⟨_, block_own (n := 64) (c := 68) hk.br gB.2 (by decide) hk.lr (by decide)⟩
  · rintro e w1 ⟨rfl, z1, z2⟩
    refine ⟨rfl, ?_⟩
    have hT : ∀ k, FA.T (listsOf B u.heap.size [(some ⟨kb, 0, none⟩, 64, 64), (some ⟨kc, 0, none⟩, 64, 64), (some ⟨kg, 0, none⟩, 64, 64), (some ⟨gr, 0, none⟩, 64, 68)]) k → k = kb ∨ k = kc ∨ k = kg ∨ k = gr := by
      rintro k ⟨p, hp, hA⟩
      have hp4 : p < 4 := hp
      have : p = 0 ∨ p = 1 ∨ p = 2 ∨ p = 3 := by omega
      rcases this with rfl | rfl | rfl | rfl
      · simp [listsOf, tripAt] at hA; omega
      · simp [listsOf, tripAt] at hA; omega
      · simp [listsOf, tripAt] at hA; omega
      · simp [listsOf, tripAt] at hA; omega
    have keep : ∀ k, k < v.heap.size → k ≠ kb → k ≠ kc → k ≠ kg → k ≠ gr → w1.heap[k]? = v.heap[k]? := fun k hk' x1 x2 x3 x4 => z2 k hk' (fun ht => by rcases hT k ht with h | h | h | h <;> contradiction)
    have kS : ∀ k, Sd k → w1.heap[k]? = v.heap[k]? := fun k hs => keep k (hk.dd.lt hs) (fun e => (e7 k (.inl e)).1 hs) (fun e => (e7 k (.inr (.inl e))).1 hs) (fun e => (e7 k (.inr (.inr e))).1 hs) (fun e => h.nr.1 (e ▸ hs))
    have kO : ∀ k, So k → w1.heap[k]? = v.heap[k]? := fun k hs => keep k (hk.d2.lt hs) (fun e => (e7 k (.inl e)).2.1 hs) (fun e => (e7 k (.inr (.inl e))).2.1 hs) (fun e => (e7 k (.inr (.inr e))).2.1 hs) (fun e => h.nr.2 (e ▸ hs))
    have kA : w1.heap[ga]? = v.heap[ga]? := keep ga hk.ba.lt (fun e => (e7 ga (.inl e)).2.2.1 rfl) (fun e => (e7 ga (.inr (.inl e))).2.2.1 rfl) (fun e => (e7 ga (.inr (.inr e))).2.2.1 rfl) h.nar
    have kP : ∀ k, pa = some ⟨k, 0, none⟩ → w1.heap[k]? = v.heap[k]? := fun k e => keep k (hk.po.lt e).1 (fun e' => (e7 k (.inl e')).2.2.2 e) (fun e' => (e7 k (.inr (.inl e'))).2.2.2 e) (fun e' => (e7 k (.inr (.inr e'))).2.2.2 e) (fun e' => by
      subst e'
      obtain ⟨cur, hc⟩ := (hk.po.lt e).2.2
      have := hk.br
      unfold Block at this
      rw [hc] at this
      simp at this)
    have t3 : ∀ k, (∃ cur, v.heap[k]? = some (Obj.cells cur 3 (0, 0))) → n1 ≤ k → w1.heap[k]? = v.heap[k]? := fun k hc hn => by
      obtain ⟨cur, hc⟩ := hc
      exact keep k (Array.getElem?_eq_some_iff.1 hc).1 (by omega) (by omega) (by omega) (by omega)
    have hE : KE B w gd go ga x pa lp cp ps w1 Sd So (kD x) := ⟨hk.dd.kept kS z1.size, hk.d2.kept kO z1.size, h.dis, kA.trans hk.ba, h.na, hk.po.kept kP, h.pn, h.low, Nat.le_trans hk.siz z1.size, hk.bel.trans z1⟩
    have p1 : IOwn n1 w1 a1 l1 c1 xs := ob1.kept (fun g e => t3 g (ob1.lt e).2.2 (ob1.lt e).2.1)
    have p2 : IOwn n2 w1 a2 l2 c2 ys := ob2.kept (fun g e => t3 g (ob2.lt e).2.2 (Nat.le_trans n12 (ob2.lt e).2.1))
    intro L2 hL2
    subst hL2
    have hb2 := (Below.refl w1.heap.size w1).alloc (Nat.le_refl _) (.cells #[.slice a1 l1 c1, .slice a2 l2 c2] 32)
    have hnew2 : (w1.alloc (.cells #[.slice a1 l1 c1, .slice a2 l2 c2] 32)).heap[w1.heap.size]? = some (.cells #[.slice a1 l1 c1, .slice a2 l2 c2] 32 (0, 0)) := World.alloc_heap_new _ _
    have hw1 : n1 ≤ w1.heap.size := Nat.le_trans nu (Nat.le_trans (Nat.le_of_lt hsz) z1.size)
    have hE2 := hE.later hb2
    refine (iapart_list n1 w1.heap.size 2 [(a1, l1, c1), (a2, l2, c2)] _ rfl (by omega) (fun t ht => ?_) hw1 ?_ hnew2 (fun t ht => ?_)).mono ?_
    · simp at ht
      rcases ht with rfl | rfl
      · show l1 ≤ _; omega
      · show l2 ≤ _; omega
    · simp only [List.pairwise_cons, List.mem_cons, List.not_mem_nil, or_false, forall_eq, false_implies, implies_true, List.Pairwise.nil, and_true]
      exact has
    · simp at ht
      rcases ht with rfl | rfl
      · exact ⟨xs, p1.below hb2 (Nat.le_refl _)⟩
      · exact ⟨ys, (p2.below hb2 (Nat.le_refl _)).base n12⟩
    · rintro e w2 ⟨rfl, zb⟩
      refine ⟨rfl, hE2.dd.kept (fun k hs => zb.block k (q1 k hs)) zb.size, hE2.d2.kept (fun k hs => zb.block k (q2 k hs)) zb.size, h.dis, hE2.ba.below zb q3, h.na, hE2.po.kept (fun g e => zb.block g (q4 g e)), h.pn, h.low, Nat.le_trans hE2.siz zb.size, hE2.bel.trans (zb.mono (Nat.le_trans gB.1 (Nat.le_of_lt q3)))⟩

end Go.Proofs.Ytikpmchjlpobdaa
