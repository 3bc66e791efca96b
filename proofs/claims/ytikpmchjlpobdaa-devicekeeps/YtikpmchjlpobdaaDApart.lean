/- DeviceApart's walk. -/
import Derived.Test.YtikpmchjlpobdaaDFuses
import Derived.Test.YtikpmchjlpobdaaDOpenO
namespace Go.Proofs.Ytikpmchjlpobdaa
open Go.RowKit Go.Shelf
set_option linter.unusedVariables false

/-- A device of eight blocks behind k writes, and what the law has of each. -/
structure ADJ (B : Nat) (w : World) (g gh k : Nat) (u : World) (H : Nat → Int) (S : Nat → Prop) (D : Dev) : Prop where
  dv : Dv u S g D
  blk : D.blk = 64
  n : D.n = 8
  f : D.f = -1
  dead : D.dead = false
  y : ∀ b, b < 8 → (D.Y b).length ≤ k
  rd : ∀ b, b < 8 → D.rd b = fl (H b)
  byt : ∀ b, 0 ≤ H b ∧ H b ≤ 255
  row : u.rowIs gh 50 8 (fun j => .int .u8 (H j))
  out : ¬ S gh
  low : ∀ j, S j → B ≤ j
  gB : B ≤ gh
  siz : B ≤ u.heap.size
  bel : Below B w u

def AD (B : Nat) (w : World) (g gh k : Nat) (u : World) : Prop := ∃ H S D, ADJ B w g gh k u H S D

theorem ADJ.later {B : Nat} {w : World} {g gh k : Nat} {u u' : World} {H : Nat → Int} {S : Nat → Prop} {D : Dev} (h : ADJ B w g gh k u H S D) (hb : Below u.heap.size u u') : ADJ B w g gh k u' H S D :=
  ⟨h.dv.below hb, h.blk, h.n, h.f, h.dead, h.y, h.rd, h.byt, h.row.of_block (hb.block _ h.row.lt), h.out, h.low, h.gB, Nat.le_trans h.siz hb.size, h.bel.trans (hb.mono h.siz)⟩

theorem not_burnt {D : Dev} (h1 : D.f = -1) (h2 : D.dead = false) : ¬ D.burnt := by
  intro hb
  rcases hb with hb | hb
  · omega
  · rw [h2] at hb; cases hb

theorem burn_f {D : Dev} (h1 : D.f = -1) : D.burn.f = -1 := by simp only [Dev.burn]; rw [if_neg (by omega)]; exact h1

theorem flush_rd {D : Dev} {b : Nat} (h : b < D.n) : D.flush.rd b = D.rd b := by
  simp only [Dev.flush, Dev.flushTo, Dev.rd]
  rw [if_pos h, if_pos h]
  rfl

theorem ad_new (w u : World) (hb : Below w.heap.size w u) :
    Calls Try.prog 10 #[.int .i64 64, .int .i64 8] u fun e w' => ∃ g, e = .returned (.tuple #[.pointer (some ⟨g, 0, none⟩), .int .i64 0]) ∧ Hid (AD w.heap.size w g w'.heap.size 0 (w'.alloc (.cells #[.int .u8 0, .int .u8 0, .int .u8 0, .int .u8 0, .int .u8 0, .int .u8 0, .int .u8 0, .int .u8 0] 50))) := by
  refine (new_ok 64 8 u (by decide)).mono ?_
  rintro e w1 ⟨g, S, rfl, h1, h2, h3⟩
  have hs := hb.size
  have s1 : w.heap.size ≤ w1.heap.size := Nat.le_trans hs h3.size
  have hb2 := (Below.refl w1.heap.size w1).alloc (Nat.le_refl _) (.cells #[.int .u8 0, .int .u8 0, .int .u8 0, .int .u8 0, .int .u8 0, .int .u8 0, .int .u8 0, .int .u8 0] 50)
  refine ⟨g, rfl, fun _ => 0, S, _, h1.below hb2, rfl, rfl, rfl, rfl, fun b _ => by simp [Dev.new], fun b _ => rfl, fun b => by omega, ?_, fun hx => Nat.lt_irrefl _ (h1.lt hx), fun j hj => Nat.le_trans hs (h2 j hj), s1, Nat.le_trans s1 hb2.size, (hb.trans (h3.mono hs)).trans (hb2.mono s1)⟩
  exact World.rowIs_alloc w1 #[.int .u8 0, .int .u8 0, .int .u8 0, .int .u8 0, .int .u8 0, .int .u8 0, .int .u8 0, .int .u8 0] 50 (fun _ => .int .u8 0) (fun j hj => by
    have : j = 0 ∨ j = 1 ∨ j = 2 ∨ j = 3 ∨ j = 4 ∨ j = 5 ∨ j = 6 ∨ j = 7 := by simp at hj; omega
    rcases this with rfl | rfl | rfl | rfl | rfl | rfl | rfl | rfl <;> rfl)

theorem ad_write {B : Nat} {w : World} {g gh k : Nat} {u : World} (h : AD B w g gh k u) (i : Nat) (hi : i < 8) (x : Int) (h0 : 0 ≤ x) (h1 : x ≤ 255) (hk : k < 200) :
    Calls Try.prog 36 #[.int .i64 64, .int .u8 x] u fun e w' => ∃ kk, e = .returned (.slice (some ⟨kk, 0, none⟩) 64 64) ∧ Hid (Calls Try.prog 15 #[.pointer (some ⟨g, 0, none⟩), .int .i64 i, .slice (some ⟨kk, 0, none⟩) 64 64] w' fun e w' => e = .returned (.int .i64 0) ∧ (∃ z, w'.cell? ⟨gh, i, none⟩ = some (.int .u8 z)) ∧ w'.frozen? ⟨gh, i, none⟩ = false ∧ Hid (AD B w g gh (k + 1) (w'.setCell ⟨gh, i, none⟩ (.int .u8 x)))) := by
  obtain ⟨H, S, D, h⟩ := h
  refine (full_any x u).mono ?_
  rintro e u1 ⟨rfl, x1, x2⟩
  refine ⟨_, rfl, ?_⟩
  have h' := h.later x2
  have hs : ¬ S u.heap.size := fun hx => Nat.lt_irrefl _ (h.dv.lt hx)
  refine (write64 g i u.heap.size x S D u1 h'.dv h.blk (by rw [h.n]; exact hi) (not_burnt h.f h.dead) x1 h0 h1 hs (by have := h.y i hi; omega)).mono ?_
  rintro e w' ⟨rfl, S', y1, y2⟩
  have hk1 := y2.keep h'.row.lt h'.out
  have hrow := h'.row.of_block hk1.1
  refine ⟨rfl, ⟨_, hrow.cell hi⟩, hrow.frozen i, ?_⟩
  have hne : ∀ q, S' q → q ≠ gh := fun q hq e => hk1.2.1 (e ▸ hq)
  refine ⟨fun j => if j = i then x else H j, S', D.burn.add i (fl x), y1.kept (fun q hq => Below.heap_setCell _ _ _ _ (hne q hq)) (by simp [World.setCell]), h.blk, h.n, burn_f h.f, h.dead, fun b hb => ?_, fun b hb => ?_, fun b => ?_, (hrow.set i _).congr (fun j hj => ?_), hk1.2.1, y2.base h'.low h'.siz, h'.gB, ?_, ?_⟩
  · have := h.y b hb
    simp only [Dev.add]
    by_cases e : b = i
    · subst e
      simp only [if_true, Dev.burn, List.length_append, List.length_cons, List.length_nil]
      omega
    · simp only [if_neg e, Dev.burn]
      omega
  · by_cases e : b = i
    · subst e
      simp [Dev.rd, Dev.add]
    · have := h.rd b hb
      simp only [Dev.rd, Dev.add, if_neg e] at this ⊢
      exact this
  · by_cases e : b = i
    · simp only [if_pos e]; exact ⟨h0, h1⟩
    · simp only [if_neg e]; exact h.byt b
  · by_cases e : j = i
    · simp [e]
    · simp [e]
  · have := Nat.le_trans h'.siz y2.fr.size
    simpa [World.setCell] using this
  · exact (h'.bel.trans (y2.below h'.low h'.siz)).setCell h'.gB _

theorem ad_flush {B : Nat} {w : World} {g gh k : Nat} {u : World} (h : AD B w g gh k u) :
    Calls Try.prog 17 #[.pointer (some ⟨g, 0, none⟩)] u fun e w' => e = .returned (.int .i64 0) ∧ Hid (AD B w g gh k w') := by
  obtain ⟨H, S, D, h⟩ := h
  refine (flush_ok g S D u h.dv (not_burnt h.f h.dead)).mono ?_
  rintro e w' ⟨rfl, y1, y2⟩
  have hk1 := y2.keep h.row.lt h.out
  refine ⟨rfl, H, S, _, y1, h.blk, h.n, burn_f h.f, h.dead, fun b hb => ?_, fun b hb => ?_, h.byt, h.row.of_block hk1.1, h.out, h.low, h.gB, Nat.le_trans h.siz y2.fr.size, h.bel.trans (y2.below h.low h.siz)⟩
  · simp only [Dev.flush, Dev.flushTo]
    rw [if_pos (by show b < D.n; rw [h.n]; exact hb)]
    simp
  · rw [flush_rd (by show b < D.n; rw [h.n]; exact hb)]
    exact h.rd b hb

theorem ad_read {B : Nat} {w : World} {g gh k : Nat} {u : World} (h : AD B w g gh k u) (j : Nat) (hj : j < 8) :
    Calls Try.prog 12 #[.pointer (some ⟨g, 0, none⟩), .int .i64 j] u fun e w' => ∃ kk z, e = .returned (.tuple #[.slice (some ⟨kk, 0, none⟩) 64 64, .int .i64 0]) ∧ w'.cell? ⟨gh, j, none⟩ = some (.int .u8 z) ∧
      Hid (Calls Try.prog 36 #[.int .i64 64, .int .u8 z] w' fun e w2 => ∃ k2, e = .returned (.slice (some ⟨k2, 0, none⟩) 64 64) ∧
        Hid (Calls Try.prog 14 #[.slice (some ⟨kk, 0, none⟩) 64 64, .slice (some ⟨k2, 0, none⟩) 64 64] w2 fun e w3 => e = .returned (.bool true) ∧ w2 = w3) ∧ Hid (AD B w g gh k w2)) := by
  obtain ⟨H, S, D, h⟩ := h
  refine (read64 g j S D u h.dv h.blk h.dead (by rw [h.n]; exact hj)).mono ?_
  rintro e w1 ⟨rfl, x1, x2⟩
  rw [h.rd j hj] at x1
  have h' := h.later x2
  refine ⟨_, H j, rfl, h'.row.cell hj, ?_⟩
  refine (full_any (H j) w1).mono ?_
  rintro e w2 ⟨rfl, y1, y2⟩
  exact ⟨_, rfl, same_true _ _ 64 64 64 (fl (H j)) w2 ((x1.has (fl_len _)).later y2) (y1.has (fl_len _)), H, S, D, h'.later y2⟩

set_option maxRecDepth 100000 in
set_option maxHeartbeats 2000000 in
theorem apart_walk (a : Option Addr) (len cap : Nat) (w : World) (hO : OpsAt w a len) :
    Calls Try.prog 6 #[.slice a len cap] w fun e w' => e = .returned (.bool true) ∧ Below w.heap.size w w' := by
  have KW := hide (wakes_any w)
  have KN := hide (ad_new w)
  have KR : Hid (∀ g gh k u, AD w.heap.size w g gh k u → ∀ (i : Nat), i < 8 → k < 200 → Calls Try.prog 36 #[.int .i64 64, .int .u8 ((k : Int) + 1)] u _) := fun g gh k u h i hi hk => ad_write h i hi ((k : Int) + 1) (by omega) (by omega) hk
  have KF : Hid (∀ g gh k u, AD w.heap.size w g gh k u → Calls Try.prog 17 #[.pointer (some ⟨g, 0, none⟩)] u _) := fun g gh k u h => ad_flush h
  have KD : Hid (∀ g gh k u, AD w.heap.size w g gh k u → ∀ (j : Nat), j < 8 → Calls Try.prog 12 #[.pointer (some ⟨g, 0, none⟩), .int .i64 j] u _) := fun g gh k u h j hj => ad_read h j hj
  have KB : Hid (∀ g gh k u, AD w.heap.size w g gh k u → Below w.heap.size w u) := fun g gh k u ⟨H, S, D, h⟩ => h.bel
  have HO := hide hO
  have hlen := hO.1
  clear hO
  go_enter Try.func6, Try.ntmps6
  go_wp2_with fail
  go_at_call 9
  refine (unhide KW).mono ?_
  rintro e w1 ⟨rfl, h1⟩
  have K2 := hide (unhide KN w1 h1)
  clear KW h1 KN
  go_wp2_with fail
  go_at_call 10
  refine (unhide K2).mono ?_
  rintro e w2 ⟨g, rfl, HA⟩
  clear K2
  go_upto_region 7 with fail
  change Code.wp _ _ _ _ (w2.alloc (.cells #[.int .u8 0, .int .u8 0, .int .u8 0, .int .u8 0, .int .u8 0, .int .u8 0, .int .u8 0, .int .u8 0] 50))
  generalize w2.alloc (.cells #[.int .u8 0, .int .u8 0, .int .u8 0, .int .u8 0, .int .u8 0, .int .u8 0, .int .u8 0, .int .u8 0] 50) = w3 at *
  generalize w2.heap.size = gh at *
  go_upto_region 8 with fail
  go_loopw [6] (fun i wr => ∃ k : Nat, k ≤ 150 ∧ k ≤ len ∧ i = .int .i64 (k : Int) ∧ Hid (AD w.heap.size w g gh k wr)) (fun i _ => 150 - (intOf i).toNat)
  case atStart => exact ⟨0, by omega, by omega, rfl, HA⟩
  case round =>
    obtain ⟨k, hk, hk2, rfl, hA⟩ := hrel
    clear HA
    by_cases hlt : k < len
    · by_cases hlt2 : k < 150
      · obtain ⟨b, off, rfl, hbl, hops⟩ := (unhide HO).2 (by omega)
        obtain ⟨o, ho⟩ := hops k hlt
        have bel := unhide KB g gh k wr (unhide hA)
        have c0 : wr.cell? ⟨b, off + k * 4, none⟩ = some (.int .i64 o.kind) := (bel.cell (p := ⟨b, off + k * 4, none⟩) hbl).trans ho.c0
        have c1 : wr.cell? ⟨b, off + k * 4 + 1, none⟩ = some (.int .i64 o.n) := (bel.cell (p := ⟨b, off + k * 4 + 1, none⟩) hbl).trans ho.c1
        have KC : Hid (∀ k' u, AD w.heap.size w g gh k' u → u.cell? ⟨b, off + k * 4, none⟩ = some (.int .i64 o.kind)) := fun k' u h => ((unhide KB g gh k' u h).cell (p := ⟨b, off + k * 4, none⟩) hbl).trans ho.c0
        obtain ⟨i, hi8, hand⟩ : ∃ i : Nat, i < 8 ∧ bits .and .i64 o.n 7 = (i : Int) := ⟨(o.n % 8).toNat, by omega, by rw [and7]; omega⟩
        have a1 : wrap64 ((k : Int) + 1) = (k : Int) + 1 := by unfold wrap64; omega
        have a2 : IntKind.u8.wrap ((k : Int) + 1) = (k : Int) + 1 := by rw [IntKind.wrap_u8']; omega
        have a3 : ((k : Int) + 1) % 256 = (k : Int) + 1 := by omega
        have K3 := hide (unhide KR g gh k wr (unhide hA) i hi8 (by omega))
        generalize o.kind = kd at *
        generalize o.n = nn at *
        clear ho hops bel hA KR
        go_wp2_with fail
        go_at_call 36
        refine (unhide K3).mono ?_
        rintro e w4 ⟨kk, rfl, K4⟩
        clear K3
        go_wp2_with fail
        go_at_call 15
        refine (unhide K4).mono ?_
        rintro e w5 ⟨rfl, ⟨z, z1⟩, z2, hA5⟩
        clear K4 c0 c1
        go_upto_region 16 with fail
        generalize w5.setCell ⟨gh, i, none⟩ (.int .u8 ((k : Int) + 1)) = w6 at *
        have c0 := unhide KC _ w6 (unhide hA5)
        have K6 := hide (unhide KF g gh _ w6 (unhide hA5))
        clear KF KC z1 z2 hand a2 a3
        obtain ⟨rr, hrr⟩ : ∃ rr : Bool, rr = (kd == 3) := ⟨_, rfl⟩
        have HR : (kd == 3) = rr := hrr.symm
        clear hrr
        go_upto_if 58 with fail
        clear HR c0
        go_cut [] (fun wx => Hid (AD w.heap.size w g gh (k + 1) wx))
        case first =>
          clear KD KB
          cases rr with
          | true =>
            go_wp2_with fail
            go_at_call 17
            refine (unhide K6).mono ?_
            rintro e w7 ⟨rfl, h7⟩
            clear K6 hA5
            go_wp2_with fail
            go_meet
            exact h7
          | false =>
            clear K6
            go_wp2_with fail
            go_meet
            exact hA5
        case rest =>
          clear K6 hA5
          rename_i wx
          go_upto_region 21 with fail
          go_loopw [9] (fun i wr => ∃ j : Nat, j ≤ 8 ∧ i = .int .i64 (j : Int) ∧ Hid (AD w.heap.size w g gh (k + 1) wr)) (fun i _ => 8 - (intOf i).toNat)
          case atStart => exact ⟨0, by omega, rfl, hcut⟩
          case round =>
            obtain ⟨j, hj, rfl, hA⟩ := hrel
            clear hcut
            by_cases hj8 : j < 8
            · have K7 := hide (unhide KD g gh _ _ (unhide hA) j hj8)
              clear KD KB hA
              go_wp2_with fail
              go_at_call 12
              refine (unhide K7).mono ?_
              rintro e w7 ⟨kk2, z, rfl, c7, K8⟩
              clear K7
              go_wp2_with fail
              go_at_call 36
              refine (unhide K8).mono ?_
              rintro e w8 ⟨k2, rfl, K9, hA8⟩
              clear K8 c7
              go_wp2_with fail
              go_at_call 14
              refine (unhide K9).mono ?_
              rintro e w9 ⟨rfl, rfl⟩
              clear K9
              go_wp2_with fail
              exact ⟨⟨j + 1, by omega, by go_num, hA8⟩, by simp [intOf]; omega⟩
            · obtain rfl : j = 8 := by omega
              clear KD KB
              go_wp2_with fail
              exact ⟨⟨k + 1, by omega, by omega, by go_num, hA⟩, by simp [intOf]; omega⟩
      · have d1 : ¬ (k : Int) < 150 := by omega
        have XB := hide (unhide KB g gh k wr (unhide hA))
        clear KR KF KD KB hA HO
        go_wp2_with fail
        go_ret
        exact ⟨rfl, unhide XB⟩
    · have d1 : ¬ (k : Int) < (len : Int) := by omega
      have XB := hide (unhide KB g gh k wr (unhide hA))
      clear KR KF KD KB hA HO
      go_wp2_with fail
      go_ret
      exact ⟨rfl, unhide XB⟩

end Go.Proofs.Ytikpmchjlpobdaa
