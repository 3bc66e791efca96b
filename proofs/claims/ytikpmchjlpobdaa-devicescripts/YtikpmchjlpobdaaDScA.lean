/- DeviceScripts: the two devices, call by call. -/
import Derived.Test.YtikpmchjlpobdaaDRWrite
import Derived.Test.YtikpmchjlpobdaaDRCrash2
import Derived.Test.YtikpmchjlpobdaaDRNew
import Derived.Test.YtikpmchjlpobdaaDFull
import Derived.Test.YtikpmchjlpobdaaDOpenO
namespace Go.Proofs.Ytikpmchjlpobdaa
open Go.RowKit Go.Shelf
set_option linter.unusedVariables false

/-- Both devices are D. -/
structure SJ (B : Nat) (w : World) (gd gw : Nat) (u : World) (S T : Nat → Prop) (D : Dev) : Prop where
  dd : Dv u S gd D
  rr : Rv u T gw D
  dis : ∀ k, S k → ¬ T k
  low : (∀ k, S k → B ≤ k) ∧ (∀ k, T k → B ≤ k)
  siz : B ≤ u.heap.size
  bel : Below B w u

def SD (B : Nat) (w : World) (gd gw : Nat) (u : World) (D : Dev) : Prop := ∃ S T, SJ B w gd gw u S T D

theorem SJ.later {B : Nat} {w : World} {gd gw : Nat} {u u' : World} {S T : Nat → Prop} {D : Dev} (h : SJ B w gd gw u S T D) (hb : Below u.heap.size u u') : SJ B w gd gw u' S T D :=
  ⟨h.dd.below hb, h.rr.below hb, h.dis, h.low, Nat.le_trans h.siz hb.size, h.bel.trans (hb.mono h.siz)⟩

/-- A call of the first device, then one of the second. -/
theorem SJ.both {B : Nat} {w : World} {gd gw : Nat} {u u1 u2 : World} {S S1 T T1 : Nat → Prop} {D D' : Dev} (h : SJ B w gd gw u S T D) (h1 : Dv u1 S1 gd D') (n1 : Nx S u S1 u1) (h2 : Rv u2 T1 gw D') (n2 : Nx T u1 T1 u2) : SJ B w gd gw u2 S1 T1 D' := by
  have k1 : ∀ k, T k → ¬ S k := fun k a b => h.dis k b a
  have k2 : ∀ k, S1 k → ¬ T k := fun k hs ht => k1 k ht (n1.sub k (h.rr.lt ht) hs)
  have lowS := n1.base h.low.1 h.siz
  have siz1 : B ≤ u1.heap.size := Nat.le_trans h.siz n1.fr.size
  refine ⟨h1.kept (fun k hk => (n2.keep (h1.lt hk) (k2 k hk)).1) n2.fr.size, h2, fun k hs ht => ?_, ⟨lowS, n2.base h.low.2 siz1⟩, Nat.le_trans siz1 n2.fr.size, (h.bel.trans (n1.below h.low.1 h.siz)).trans (n2.below h.low.2 siz1)⟩
  exact k2 k hs (n2.sub k (h1.lt hs) ht)

/-- The second device behind a call of the first. -/
theorem SJ.rr1 {B : Nat} {w : World} {gd gw : Nat} {u u1 : World} {S S1 T : Nat → Prop} {D : Dev} (h : SJ B w gd gw u S T D) (n1 : Nx S u S1 u1) : Rv u1 T gw D :=
  h.rr.kept (fun k hk => (n1.keep (h.rr.lt hk) (fun hs => h.dis k hs hk)).1) n1.fr.size

/-- What Write answers, and leaves. -/
def Dev.wrE (D : Dev) (b : Int) (len : Nat) : Int := if refE D b len ≠ 0 then refE D b len else if D.f = 0 ∨ D.dead = true then 7 else 0

theorem refE_in {D : Dev} {b : Int} {len : Nat} (h : refE D b len = 0) : ∃ i : Nat, b = i ∧ i < D.n ∧ len = D.blk := by
  unfold refE at h
  by_cases h1 : 0 ≤ b ∧ b < D.n
  · rw [if_neg (fun x => x h1)] at h
    by_cases h2 : len = D.blk
    · exact ⟨b.toNat, by omega, by omega, h2⟩
    · rw [if_pos h2] at h; omega
  · rw [if_pos h1] at h; omega

/-- The answer of both, and the devices behind it. -/
def SA (B : Nat) (w : World) (gd gw go : Nat) (f : Nat → Value) (f2 : Nat) (args2 : Array Value) (e : Ending) (u1 : World) : Prop := ∃ q, e = .returned (.int .i64 q) ∧ u1.rowIs go 34 4 f ∧ Hid (Calls Try.prog f2 args2 u1 fun e u2 => e = .returned (.int .i64 q) ∧ Hid (∃ D, SD B w gd gw u2 D))

theorem s_load {B : Nat} {w : World} {gd gw : Nat} {u : World} {S T : Nat → Prop} {D : Dev} (h : SJ B w gd gw u S T D) {go : Nat} {f : Nat → Value} (hg : u.rowIs go 34 4 f) (hS : ¬ S go) (b : Int) (a : Option Addr) (len cap : Nat) (zs : List Int) (hr : Row B w a len cap zs) :
    Calls Try.prog 23 #[.pointer (some ⟨gd, 0, none⟩), .int .i64 b, .slice a len cap] u (SA B w gd gw go f 24 #[.pointer (some ⟨gw, 0, none⟩), .int .i64 b, .slice a len cap]) := by
  have hru : Row u.heap.size u a len cap zs := (hr.below h.bel h.siz)
  have o1 : Out S len a := hr.out h.low.1
  by_cases h0 : refE D b len = 0
  · obtain ⟨i, rfl, hi, rfl⟩ := refE_in h0
    refine (load_ok gd i a cap zs S D u h.dd hi hru).mono ?_
    rintro e u1 ⟨rfl, S1, y1, y2⟩
    refine ⟨0, rfl, hg.of_block (y2.keep hg.lt hS).1, (rload_ok gw i a cap zs T D u1 (h.rr1 y2) hi (hru.nx y2 o1)).mono ?_⟩
    rintro e u2 ⟨rfl, T1, z1, z2⟩
    exact ⟨rfl, _, S1, T1, h.both y1 y2 z1 z2⟩
  · refine (load_bad gd b a len cap S D u h.dd h0).mono ?_
    rintro e u1 ⟨rfl, rfl⟩
    refine ⟨_, rfl, hg, (rload_bad gw b a len cap T D u h.rr h0).mono ?_⟩
    rintro e u2 ⟨rfl, rfl⟩
    exact ⟨rfl, D, S, T, h⟩

theorem s_flush {B : Nat} {w : World} {gd gw : Nat} {u : World} {S T : Nat → Prop} {D : Dev} (h : SJ B w gd gw u S T D) {go : Nat} {f : Nat → Value} (hg : u.rowIs go 34 4 f) (hS : ¬ S go) :
    Calls Try.prog 17 #[.pointer (some ⟨gd, 0, none⟩)] u (SA B w gd gw go f 18 #[.pointer (some ⟨gw, 0, none⟩)]) := by
  by_cases hb : D.burnt
  · refine (flush_dies gd S D u h.dd hb).mono ?_
    rintro e u1 ⟨rfl, y1, y2⟩
    refine ⟨7, rfl, hg.of_block (y2.keep hg.lt hS).1, (rflush_dies gw T D u1 (h.rr1 y2) hb).mono ?_⟩
    rintro e u2 ⟨rfl, z1, z2⟩
    exact ⟨rfl, _, S, T, h.both y1 y2 z1 z2⟩
  · refine (flush_ok gd S D u h.dd hb).mono ?_
    rintro e u1 ⟨rfl, y1, y2⟩
    refine ⟨0, rfl, hg.of_block (y2.keep hg.lt hS).1, (rflush_ok gw T D u1 (h.rr1 y2) hb).mono ?_⟩
    rintro e u2 ⟨rfl, T1, z1, z2⟩
    exact ⟨rfl, _, S, T1, h.both y1 y2 z1 z2⟩

theorem s_fuse {B : Nat} {w : World} {gd gw : Nat} {u : World} {S T : Nat → Prop} {D : Dev} (h : SJ B w gd gw u S T D) {go : Nat} {f : Nat → Value} (hg : u.rowIs go 34 4 f) (hS : ¬ S go) (n : Int) (hn : n ≤ 9223372036854775807) :
    Calls Try.prog 19 #[.pointer (some ⟨gd, 0, none⟩), .int .i64 n] u (SA B w gd gw go f 20 #[.pointer (some ⟨gw, 0, none⟩), .int .i64 n]) := by
  refine (fuse_any gd n S D u h.dd hn).mono ?_
  rintro e u1 ⟨rfl, y1, y2⟩
  refine ⟨_, rfl, hg.of_block (y2.keep hg.lt hS).1, (rfuse gw n T D u1 (h.rr1 y2) hn).mono ?_⟩
  rintro e u2 ⟨rfl, z1, z2⟩
  exact ⟨rfl, _, S, T, h.both y1 y2 z1 z2⟩

theorem s_crash {B : Nat} {w : World} {gd gw : Nat} {u : World} {S T : Nat → Prop} {D : Dev} (h : SJ B w gd gw u S T D) {go : Nat} {f : Nat → Value} (hg : u.rowIs go 34 4 f) (hS : ¬ S go) (hB : B = w.heap.size) (a : Option Addr) (len cap : Nat) (ps : List Int) (hp : IHas w a len ps) (hc : len ≤ cap ∧ cap ≤ 9223372036854775807) :
    Calls Try.prog 21 #[.pointer (some ⟨gd, 0, none⟩), .slice a len cap] u (SA B w gd gw go f 22 #[.pointer (some ⟨gw, 0, none⟩), .slice a len cap]) := by
  have hout : ∀ (X : Nat → Prop), (∀ k, X k → B ≤ k) → Out X len a := fun X hX hp0 x e hx => by
    obtain ⟨b, off, e', hcell⟩ := hp.2 hp0
    rw [e] at e'
    cases e'
    have := cell_block_lt (hcell 0 hp0)
    have h5 := hX _ hx
    simp only at this h5
    omega
  have hbel := h.bel
  rw [hB] at hbel
  have hpu := hp.later hbel
  refine (crash_any gd a len cap ps S D u h.dd hpu hc (hout S h.low.1)).mono ?_
  rintro e u1 ⟨rfl, y1, y2⟩
  refine ⟨0, rfl, hg.of_block (y2.keep hg.lt hS).1, (rcrash gw a len cap ps T D u1 (h.rr1 y2) (hpu.nx y2 (hout S h.low.1)) hc (hout T h.low.2)).mono ?_⟩
  rintro e u2 ⟨rfl, T1, z1, z2⟩
  exact ⟨rfl, _, S, T1, h.both y1 y2 z1 z2⟩

/-- Both read the same. -/
theorem s_read {B : Nat} {w : World} {gd gw : Nat} {u : World} {S T : Nat → Prop} {D : Dev} (h : SJ B w gd gw u S T D) {go : Nat} {f : Nat → Value} (hg : u.rowIs go 34 4 f) (hS : ¬ S go) (b : Int) :
    Calls Try.prog 12 #[.pointer (some ⟨gd, 0, none⟩), .int .i64 b] u fun e u1 => ∃ a1 l c1 q, e = .returned (.tuple #[.slice a1 l c1, .int .i64 q]) ∧ u1.rowIs go 34 4 f ∧
      Hid (Calls Try.prog 13 #[.pointer (some ⟨gw, 0, none⟩), .int .i64 b] u1 fun e u2 => ∃ a2 c2, e = .returned (.tuple #[.slice a2 l c2, .int .i64 q]) ∧
        Hid (Calls Try.prog 14 #[.slice a1 l c1, .slice a2 l c2] u2 fun e u3 => e = .returned (.bool true) ∧ u2 = u3) ∧ Hid (∃ D, SD B w gd gw u2 D)) := by
  by_cases hd : D.dead = true
  · refine (read_dead gd b S D u h.dd hd).mono ?_
    rintro e u1 ⟨rfl, rfl⟩
    refine ⟨none, 0, 0, 7, rfl, hg, (rread_dead gw b T D u h.rr hd).mono ?_⟩
    rintro e u2 ⟨rfl, rfl⟩
    exact ⟨none, 0, rfl, same_true _ _ 0 0 0 [] u (Has.nil u) (Has.nil u), D, S, T, h⟩
  · have hd' : D.dead = false := by simpa using hd
    by_cases hb : 0 ≤ b ∧ b < D.n
    · obtain ⟨i, rfl⟩ : ∃ i : Nat, b = i := ⟨b.toNat, by omega⟩
      have hi : i < D.n := by omega
      refine (read_ok gd i S D u h.dd hd' hi).mono ?_
      rintro e u1 ⟨rfl, y1, y2⟩
      have h1 := h.later y2
      refine ⟨_, D.blk, _, 0, rfl, hg.of_block (y2.block _ hg.lt), (rread_ok gw i T D u1 h1.rr hd' hi).mono ?_⟩
      rintro e u2 ⟨a2, c2, rfl, z1, z2⟩
      exact ⟨a2, c2, rfl, same_true _ _ D.blk D.blk c2 (D.rd i) u2 ((y1.has (by rw [z1.1])).later z2) z1, D, S, T, h1.later z2⟩
    · refine (read_range gd b S D u h.dd hd' hb).mono ?_
      rintro e u1 ⟨rfl, rfl⟩
      refine ⟨none, 0, 0, 2, rfl, hg, (rread_range gw b T D u h.rr hd' hb).mono ?_⟩
      rintro e u2 ⟨rfl, rfl⟩
      exact ⟨none, 0, rfl, same_true _ _ 0 0 0 [] u (Has.nil u) (Has.nil u), D, S, T, h⟩

/-- Neither can be made, or both are there. -/
theorem s_new_bad (b bl : Int) (w u : World) (hb : Below w.heap.size w u) (h : newE b bl ≠ 0) :
    Calls Try.prog 10 #[.int .i64 b, .int .i64 bl] u fun e u1 => ∃ q, e = .returned (.tuple #[.pointer none, .int .i64 q]) ∧ Hid (Calls Try.prog 11 #[.int .i64 b, .int .i64 bl] u1 fun e u2 => e = .returned (.tuple #[.pointer none, .int .i64 q]) ∧ Hid (Below w.heap.size w u2)) := by
  refine (new_bad b bl u h).mono ?_
  rintro e u1 ⟨rfl, y1⟩
  refine ⟨_, rfl, (rnew_bad b bl u1 h).mono ?_⟩
  rintro e u2 ⟨rfl, rfl⟩
  exact ⟨rfl, hb.trans (y1.mono hb.size)⟩

theorem s_new_ok (b bl : Int) (w u : World) (hb : Below w.heap.size w u) (h : newE b bl = 0) :
    Calls Try.prog 10 #[.int .i64 b, .int .i64 bl] u fun e u1 => ∃ gd, e = .returned (.tuple #[.pointer (some ⟨gd, 0, none⟩), .int .i64 0]) ∧ Hid (Calls Try.prog 11 #[.int .i64 b, .int .i64 bl] u1 fun e u2 => ∃ gw, e = .returned (.tuple #[.pointer (some ⟨gw, 0, none⟩), .int .i64 0]) ∧ Hid (∃ D, SD w.heap.size w gd gw u2 D)) := by
  obtain ⟨_, _, hsz, hn1, hn2, _⟩ := newE_ok h
  obtain ⟨blk, rfl⟩ : ∃ blk : Nat, b = blk := ⟨b.toNat, by unfold isSize at hsz; omega⟩
  obtain ⟨n, rfl⟩ : ∃ n : Nat, bl = n := ⟨bl.toNat, by omega⟩
  have hs := hb.size
  refine (new_ok blk n u h).mono ?_
  rintro e u1 ⟨gd, S, rfl, y1, y2, y3⟩
  refine ⟨gd, rfl, (rnew_ok blk n u1 h).mono ?_⟩
  rintro e u2 ⟨gw, T, rfl, z1, z2, z3⟩
  have s1 := y3.size
  refine ⟨gw, rfl, _, S, T, y1.below z3, z1, fun k hk ht => ?_, ⟨fun k hk => Nat.le_trans hs (y2 k hk), fun k hk => by have := z2 k hk; omega⟩, by have := z3.size; omega, (hb.trans (y3.mono hs)).trans (z3.mono (by omega))⟩
  have := y1.lt hk
  have := z2 k ht
  omega

/-- What both tell of themselves. -/
theorem s_asks {B : Nat} {w : World} {gd gw : Nat} {u : World} {D : Dev} (h : SD B w gd gw u D) :
    u.cell? ⟨gd, 0, none⟩ = some (.int .i64 D.blk) ∧ u.cell? ⟨gd, 4, none⟩ = some (.bool D.dead) ∧ u.cell? ⟨gd, 5, none⟩ = some (.int .i64 D.wr) ∧ (∃ h1, u.cell? ⟨gd, 1, none⟩ = some (.slice (some ⟨h1, 0, none⟩) D.n D.n)) ∧
      u.cell? ⟨gw, 0, none⟩ = some (.int .i64 D.blk) ∧ u.cell? ⟨gw, 3, none⟩ = some (.bool D.dead) ∧ u.cell? ⟨gw, 4, none⟩ = some (.int .i64 D.wr) ∧ (∃ h1 c1, u.cell? ⟨gw, 1, none⟩ = some (.slice (some ⟨h1, 0, none⟩) D.n c1)) := by
  obtain ⟨S, T, h⟩ := h
  obtain ⟨m, h1⟩ := h.dd
  obtain ⟨m', h2⟩ := h.rr
  obtain ⟨c0, c1, c2, c3, c4, c5⟩ := h1.cells
  obtain ⟨d0, d1, d2, d3, d4⟩ := h2.cells
  exact ⟨c0, c4, c5, ⟨_, c1⟩, d0, d3, d4, ⟨_, _, d1⟩⟩

theorem s_waits {B : Nat} {w : World} {gd gw : Nat} {u : World} {D : Dev} (h : SD B w gd gw u D) :
    Calls Try.prog 34 #[.pointer (some ⟨gd, 0, none⟩)] u fun e u1 => ∃ a1 l c1, e = .returned (.slice a1 l c1) ∧
      Hid (Calls Try.prog 35 #[.pointer (some ⟨gw, 0, none⟩)] u1 fun e u2 => ∃ a2 c2, e = .returned (.slice a2 l c2) ∧
        Hid (Calls Try.prog 33 #[.slice a1 l c1, .slice a2 l c2] u2 fun e u3 => e = .returned (.bool true) ∧ Hid (∃ D, SD B w gd gw u3 D))) := by
  obtain ⟨S, T, h⟩ := h
  have hw : D.waitL.length ≤ 10000 := by
    have := waitTo_len D D.n
    have := h.dd.ok.n2
    unfold Dev.waitL
    omega
  have ihas : ∀ {B : Nat} {w : World} {a : Option Addr} {n c : Nat} {ns : List Int}, IOwn B w a n c ns → IHas w a n ns := by
    intro B w a n c ns h
    refine ⟨h.1, fun hp => ?_⟩
    obtain ⟨g, e, _, _, _⟩ := h.cell (j := 0) hp
    refine ⟨g, 0, e, fun j hj => ?_⟩
    obtain ⟨g', e', _, hc, _⟩ := h.cell hj
    rw [e] at e'
    cases e'
    rw [Nat.zero_add]
    exact hc
  refine (waiting_any gd S D u h.dd).mono ?_
  rintro e u1 ⟨a1, c1, rfl, o1, y2⟩
  have h1 := h.later y2
  refine ⟨a1, _, c1, rfl, (rwaiting gw T D u1 h1.rr).mono ?_⟩
  rintro e u2 ⟨a2, c2, rfl, o2, z2⟩
  have h2 := h1.later z2
  refine ⟨a2, c2, rfl, (sameInts_any a1 a2 _ c1 c2 D.waitL u2 (ihas (o1.below z2 (Nat.le_refl _))) (ihas o2) (by omega)).mono ?_⟩
  rintro e u3 ⟨rfl, mm, rfl⟩
  exact ⟨rfl, D, S, T, h2.later (below_drewN (Below.refl _ _) mm)⟩

end Go.Proofs.Ytikpmchjlpobdaa
