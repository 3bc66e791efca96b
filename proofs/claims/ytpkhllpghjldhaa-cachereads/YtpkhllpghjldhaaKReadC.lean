/- CacheReads: its calls. -/
import Derived.Test.YtpkhllpghjldhaaKReadM
namespace Go.Proofs.Ytpkhllpghjldhaa
open Go.RowKit Go.Shelf
set_option linter.unusedVariables false

/-- var have [8]byte. -/
abbrev zero8 : Obj := .cells #[.int .u8 0, .int .u8 0, .int .u8 0, .int .u8 0, .int .u8 0, .int .u8 0, .int .u8 0, .int .u8 0] 32

theorem r_start {B : Nat} {w : World} {g dg cap : Nat} {ns : List Int} {u : World} (h : KD B w g dg (Cac.new cap ns) (Dev.new 64 8) u) (hc : 1 ≤ cap ∧ cap ≤ 512) : RS B w g dg cap u.heap.size (fun _ => 0) false (u.alloc zero8) := by
  obtain ⟨S, h⟩ := h
  have hb : Below u.heap.size u (u.alloc zero8) := (Below.refl _ u).alloc (Nat.le_refl _) _
  refine ⟨S, _, _, ⟨⟨rfl, rfl⟩, rfl, rfl, rfl, hc, (fun b l _ hl => by cases hl), ?_, (fun b l _ hl => by cases hl), fun b hb => rfl, fun b => by omega⟩, h.later hb, ?_, fun hs => Nat.lt_irrefl _ (h.kv.lt hs), h.siz, fun e => by cases e⟩
  · have hz : cnt ((Cac.new cap ns).wants fHeld) 8 ≤ cnt (fun _ => false) 8 := cnt_mono (fun b _ hw => by cases hw)
    have h8 : cnt (fun _ => false) 8 = 0 := by decide
    omega
  · exact World.rowIs_alloc u #[.int .u8 0, .int .u8 0, .int .u8 0, .int .u8 0, .int .u8 0, .int .u8 0, .int .u8 0, .int .u8 0] _ _ (fun i hi => by
      have : i = 0 ∨ i = 1 ∨ i = 2 ∨ i = 3 ∨ i = 4 ∨ i = 5 ∨ i = 6 ∨ i = 7 := by simp at hi; omega
      rcases this with rfl | rfl | rfl | rfl | rfl | rfl | rfl | rfl <;> rfl)

/-- Put, and the store behind it. -/
theorem r_put {B : Nat} {w : World} {g dg cap gh : Nat} {hv : Nat → Int} {u : World} (h : RS B w g dg cap gh hv false u) {b : Nat} (hb : b < 8) {x : Int} (hx : 0 ≤ x ∧ x ≤ 255) :
    Calls Try.prog 11 #[.int .u8 x] u fun e u1 => ∃ k, e = .returned (.slice (some ⟨k, 0, none⟩) 64 64) ∧
      Hid (Calls Try.prog 10 #[.pointer (some ⟨g, 0, none⟩), .int .i64 b, .slice (some ⟨k, 0, none⟩) 64 64] u1 fun e u2 => e = .returned (.int .i64 0) ∧ (∃ v, u2.cell? ⟨gh, b, none⟩ = some (.int .u8 v)) ∧ u2.frozen? ⟨gh, b, none⟩ = false ∧ Hid (Below B w u2) ∧
        Hid (RS B w g dg cap gh (fun j => if j = b then x else hv j) false (u2.setCell ⟨gh, b, none⟩ (.int .u8 x)))) := by
  obtain ⟨S, C, D, h⟩ := h
  obtain ⟨p1, p2⟩ := h.ri.put hb hx
  refine (full_any x u).mono ?_
  rintro e u1 ⟨rfl, a1, a2⟩
  refine ⟨_, rfl, ?_⟩
  have h1 := h.later a2
  have := put_any g dg b ⟨u.heap.size, 0, none⟩ 64 (fl x) S C D u1 h1.kl.kv (by rw [h.ri.nn]; exact hb) (by rw [h.ri.bk]; exact full_row hx.1 hx.2 a1) (fun _ y e => by cases e; exact fun hs => Nat.lt_irrefl _ (h.kl.kv.lt hs))
  rw [h.ri.bk, p1] at this
  refine this.mono ?_
  rintro e u2 ⟨rfl, S2, k2, x2⟩
  have hr := h1.row x2
  have hk := h1.kl.nx k2 x2
  exact ⟨rfl, ⟨_, hr.cell hb⟩, hr.frozen b, hk.bel, RS.set p2 hk hr (x2.keep h1.ar.lt h1.ns).2.1 h.gB⟩

theorem r_get {B : Nat} {w : World} {g dg cap gh : Nat} {hv : Nat → Int} {nd : Bool} {u : World} (h : RS B w g dg cap gh hv nd u) {b : Nat} (hb : b < 8) :
    Calls Try.prog 13 #[.pointer (some ⟨g, 0, none⟩), .int .i64 b] u fun e u1 => ∃ a c, e = .returned (.tuple #[.slice a 64 c, .int .i64 0]) ∧ Hid (Has u1 a 64 (fl (hv b)) ∧ RS B w g dg cap gh hv nd u1) := by
  obtain ⟨S, C, D, h⟩ := h
  obtain ⟨p1, p2, p3, p4⟩ := h.ri.get hb
  have := get_ok g dg b S C D u h.kl.kv (by rw [h.ri.nn]; exact hb) p1
  rw [h.ri.bk, p3] at this
  refine this.mono ?_
  rintro e u1 ⟨a, c, rfl, S1, o1, k1, x1, n1⟩
  exact ⟨a, c, rfl, o1.has, S1, _, _, h.nx p2 k1 x1 (fun e => p4 (h.dd e)) (h.row x1)⟩

theorem r_same {B : Nat} {w : World} {g dg cap gh : Nat} {hv : Nat → Int} {nd : Bool} {u : World} (h : RS B w g dg cap gh hv nd u) {a : Option Addr} {c : Nat} {x : Int} (ha : Has u a 64 (fl x)) :
    Calls Try.prog 11 #[.int .u8 x] u fun e u1 => ∃ k, e = .returned (.slice (some ⟨k, 0, none⟩) 64 64) ∧
      Hid (Calls Try.prog 14 #[.slice a 64 c, .slice (some ⟨k, 0, none⟩) 64 64] u1 fun e u2 => e = .returned (.bool true) ∧ u1 = u2) ∧ Hid (RS B w g dg cap gh hv nd u1) := by
  obtain ⟨S, C, D, h⟩ := h
  refine (full_any x u).mono ?_
  rintro e u1 ⟨rfl, a1, a2⟩
  exact ⟨_, rfl, same_true _ _ 64 c 64 (fl x) u1 (ha.later8 a2) (a1.has (fl_len x)), S, C, D, h.later a2⟩

theorem srt_two (b : Nat) : nums [(b : Int), (b : Int)] = [b, b] := by
  unfold nums
  rw [srt_eq (List.Perm.refl _) (by simp)]
  simp

/-- Out([]int{b, b}). -/
theorem r_out {B : Nat} {w : World} {g dg cap gh : Nat} {hv : Nat → Int} {u : World} (h : RS B w g dg cap gh hv false u) {b : Nat} (hb : b < 8) :
    Calls Try.prog 12 #[.pointer (some ⟨g, 0, none⟩), .slice (some ⟨u.heap.size, 0, none⟩) 2 2] (u.alloc (.cells #[.int .i64 b, .int .i64 b] 3)) fun e u1 => e = .returned (.int .i64 0) ∧ Hid (RS B w g dg cap gh hv false u1) := by
  obtain ⟨S, C, D, h⟩ := h
  have a2 : Below u.heap.size u (u.alloc (.cells #[.int .i64 b, .int .i64 b] 3)) := (Below.refl _ u).alloc (Nat.le_refl _) _
  have h1 := h.later a2
  have hr := World.rowIs_alloc u #[.int .i64 b, .int .i64 b] 3 (fun _ => .int .i64 b) (fun i hi => by
    have : i = 0 ∨ i = 1 := by simp at hi; omega
    rcases this with rfl | rfl <;> rfl)
  have hI : IHas (u.alloc (.cells #[.int .i64 b, .int .i64 b] 3)) (some ⟨u.heap.size, 0, none⟩) 2 [(b : Int), (b : Int)] := ⟨rfl, fun _ => ⟨_, 0, rfl, fun j hj => by
    have : j = 0 ∨ j = 1 := by omega
    rcases this with rfl | rfl
    · exact hr.cell (i := 0) (by simp)
    · exact hr.cell (i := 1) (by simp)⟩⟩
  obtain ⟨o1, o2, o3⟩ := h.ri.out (s := [b, b]) (fun c hc => by simp at hc; omega)
  have := out_kv g dg S C D _ h1.kl.kv (some ⟨u.heap.size, 0, none⟩) 2 2 [(b : Int), (b : Int)] rfl (by omega) hI (fun z hz => by
    simp at hz
    rw [h.ri.nn]
    omega)
  rw [srt_two, o1] at this
  refine this.mono ?_
  rintro e u2 ⟨rfl, S2, k2, x2⟩
  exact ⟨rfl, S2, _, _, h1.nx o2 k2 x2 (fun e => by cases e) (h1.row x2)⟩

/-- Held, Dirty, Held. -/
theorem r_asks {B : Nat} {w : World} {g dg cap gh : Nat} {hv : Nat → Int} {nd : Bool} {u : World} (h : RS B w g dg cap gh hv nd u) :
    Calls Try.prog 15 #[.pointer (some ⟨g, 0, none⟩)] u fun e u1 => ∃ a lh c, e = .returned (.slice a lh c) ∧ lh ≤ cap ∧
      Hid (Calls Try.prog 16 #[.pointer (some ⟨g, 0, none⟩)] u1 fun e u2 => ∃ a2 ld c2, e = .returned (.slice a2 ld c2) ∧ ld ≤ lh ∧
        Hid (Calls Try.prog 15 #[.pointer (some ⟨g, 0, none⟩)] u2 fun e u3 => ∃ a3 c3, e = .returned (.slice a3 lh c3) ∧ Hid (RS B w g dg cap gh hv nd u3))) := by
  obtain ⟨S, C, D, h⟩ := h
  obtain ⟨l1, l2⟩ := h.ri.lens
  have el : ∀ f, (C.list D.n f).length = (C.those D.n f).length := fun f => by simp [Cac.list]
  refine (held_kv g dg S C D u h.kl.kv).mono ?_
  rintro e u1 ⟨v, rfl, g1, b1⟩
  obtain ⟨a, c, rfl, _⟩ := g1.ihas
  rw [el]
  have h1 := h.later b1
  refine ⟨a, _, c, rfl, l1, (dirty_kv g dg S C D u1 h1.kl.kv).mono ?_⟩
  rintro e u2 ⟨v2, rfl, g2, b2⟩
  obtain ⟨a2, c2, rfl, _⟩ := g2.ihas
  rw [el]
  have h2 := h1.later b2
  refine ⟨a2, _, c2, rfl, l2, (held_kv g dg S C D u2 h2.kl.kv).mono ?_⟩
  rintro e u3 ⟨v3, rfl, g3, b3⟩
  obtain ⟨a3, c3, rfl, _⟩ := g3.ihas
  rw [el]
  exact ⟨a3, c3, rfl, S, C, D, h2.later b3⟩

/-- All, Flush, Crash(nil), Dirty. -/
theorem r_all {B : Nat} {w : World} {g dg cap gh : Nat} {hv : Nat → Int} {u : World} (h : RS B w g dg cap gh hv false u) :
    Calls Try.prog 17 #[.pointer (some ⟨g, 0, none⟩)] u fun e u1 => e = .returned (.int .i64 0) ∧
      Hid (Calls Try.prog 18 #[.pointer (some ⟨dg, 0, none⟩)] u1 fun e u2 => e = .returned (.int .i64 0) ∧
        Hid (Calls Try.prog 19 #[.pointer (some ⟨dg, 0, none⟩), .slice none 0 0] u2 fun e u3 => e = .returned (.int .i64 0) ∧
          Hid (Calls Try.prog 16 #[.pointer (some ⟨g, 0, none⟩)] u3 fun e u4 => ∃ a c, e = .returned (.slice a 0 c) ∧ Hid (RS B w g dg cap gh hv true u4)))) := by
  obtain ⟨S, C, D, h⟩ := h
  obtain ⟨o1, o2, o3⟩ := h.ri.all
  have ra := all_kv g dg S C D u h.kl.kv
  rw [o1] at ra
  refine ra.mono ?_
  rintro e u1 ⟨rfl, S1, k1, x1⟩
  have h1 : RD B w g dg cap gh hv true u1 S1 _ _ := h.nx o2 k1 x1 (fun _ => o3) (h.row x1)
  generalize outC (C.those D.n fDirty) C D = C1 at *
  generalize outD (C.those D.n fDirty) C D = D1 at *
  refine ⟨rfl, ?_⟩
  obtain ⟨Sc, Sd, m, km⟩ := h1.kl.kv.open
  have hnb : ¬ D1.burnt := by
    unfold Dev.burnt
    obtain ⟨q1, q2⟩ := h1.ri.al
    rintro (q | q)
    · omega
    · rw [q2] at q; cases q
  refine (flush_ok dg Sd D1 u1 km.dd hnb).mono ?_
  rintro e u2 ⟨rfl, d2, x2⟩
  obtain ⟨f1, f2, f3, f4, f5⟩ := ali_flush h1.ri.al
  obtain ⟨y1, y2, y3, y4⟩ := Kv.dev km.cc km.dd km.dis km.all d2 x2 ⟨f4, f5⟩
  have r2 := h1.ri.dev f1 f2 f4 f5
  have h2 : RD B w g dg cap gh hv true u2 _ C1 D1.burn.flush := h1.nx r2 y3 y4 (fun e => h1.dd e) (h1.row y4)
  refine ⟨rfl, ?_⟩
  refine (crash_any dg none 0 0 [] Sd D1.burn.flush u2 d2 ⟨rfl, fun h => by omega⟩ ⟨by omega, by omega⟩ (fun h => by omega)).mono ?_
  rintro e u3 ⟨rfl, d3, x3⟩
  obtain ⟨g1, g2, g4, g5⟩ := ali_crash (D := D1.burn.flush) (fun j hj => f3 j (by rw [f4] at hj; exact hj))
  obtain ⟨z1, z2, z3, z4⟩ := Kv.dev y1 d2 y2 (S := fun k => Sc k ∨ Sd k) (fun k => Iff.rfl) d3 x3 ⟨g4, g5⟩
  have r3 := r2.dev g1 g2 g4 g5
  have h3 : RD B w g dg cap gh hv true u3 _ C1 (D1.burn.flush.crash []) := h2.nx r3 z3 z4 (fun e => h1.dd e) (h2.row z4)
  refine ⟨rfl, (dirty_kv g dg _ C1 _ u3 h3.kl.kv).mono ?_⟩
  rintro e u4 ⟨v, rfl, q1, b4⟩
  obtain ⟨a, c, rfl, _⟩ := q1.ihas
  have hl : (C1.list (D1.burn.flush.crash []).n fDirty).length = 0 := by
    have := r3.none (h1.dd rfl)
    simpa [Cac.list] using this
  rw [hl]
  exact ⟨a, c, rfl, _, C1, _, h3.later b4⟩

/-- Read and Get of a block, and their bytes. -/
theorem r_last {B : Nat} {w : World} {g dg cap gh : Nat} {hv : Nat → Int} {u : World} (h : RS B w g dg cap gh hv true u) {b : Nat} (hb : b < 8) :
    Calls Try.prog 20 #[.pointer (some ⟨dg, 0, none⟩), .int .i64 b] u fun e u1 => ∃ k, e = .returned (.tuple #[.slice (some ⟨k, 0, none⟩) 64 64, .int .i64 0]) ∧
      Hid (Calls Try.prog 13 #[.pointer (some ⟨g, 0, none⟩), .int .i64 b] u1 fun e u2 => ∃ a c, e = .returned (.tuple #[.slice a 64 c, .int .i64 0]) ∧ u2.cell? ⟨gh, b, none⟩ = some (.int .u8 (hv b)) ∧
        Hid (Calls Try.prog 11 #[.int .u8 (hv b)] u2 fun e u3 => ∃ k2, e = .returned (.slice (some ⟨k2, 0, none⟩) 64 64) ∧
          Hid (Calls Try.prog 14 #[.slice (some ⟨k, 0, none⟩) 64 64, .slice (some ⟨k2, 0, none⟩) 64 64] u3 fun e u4 => e = .returned (.bool true) ∧ u3 = u4) ∧
          Hid (Calls Try.prog 14 #[.slice a 64 c, .slice (some ⟨k, 0, none⟩) 64 64] u3 fun e u4 => e = .returned (.bool true) ∧ u3 = u4) ∧ Hid (RS B w g dg cap gh hv true u3))) := by
  obtain ⟨S, C, D, h⟩ := h
  obtain ⟨Sc, Sd, m, km⟩ := h.kl.kv.open
  have hrd := h.ri.rd (h.dd rfl) hb
  have rr := read_ok dg b Sd D u km.dd h.ri.al.2 (by rw [h.ri.nn]; exact hb)
  rw [h.ri.bk, hrd] at rr
  refine rr.mono ?_
  rintro e u1 ⟨rfl, B1, b1⟩
  refine ⟨_, rfl, ?_⟩
  have h1 := h.later b1
  have nS : ¬ S u.heap.size := fun hs => Nat.lt_irrefl _ (h.kl.kv.lt hs)
  obtain ⟨p1, p2, p3, p4⟩ := h.ri.get hb
  have := get_ok g dg b S C D u1 h1.kl.kv (by rw [h.ri.nn]; exact hb) p1
  rw [h.ri.bk, p3] at this
  refine this.mono ?_
  rintro e u2 ⟨a, c, rfl, S2, o2, k2, x2, n2⟩
  have h2 : RD B w g dg cap gh hv true u2 S2 _ _ := h1.nx p2 k2 x2 (fun e => p4 (h.dd e)) (h1.row x2)
  have B2 : Block u2 u.heap.size (fl (hv b)) := ((x2.keep B1.lt nS).1).trans B1
  refine ⟨a, c, rfl, h2.ar.cell hb, (full_any (hv b) u2).mono ?_⟩
  rintro e u3 ⟨rfl, B3, b3⟩
  have hx : Has u3 (some ⟨u.heap.size, 0, none⟩) 64 (fl (hv b)) := (B2.has (fl_len _)).later8 b3
  exact ⟨_, rfl, same_true _ _ 64 64 64 _ u3 hx (B3.has (fl_len _)), same_true _ _ 64 c 64 _ u3 (o2.has.later8 b3) hx, S2, _, _, h2.later b3⟩

end Go.Proofs.Ytpkhllpghjldhaa
