/- DeviceFuses' walk. -/
import Derived.Test.YtikpmchjlpobdaaDFull
namespace Go.Proofs.Ytikpmchjlpobdaa
open Go.RowKit Go.Shelf
set_option linter.unusedVariables false

theorem Has.later {w w' : World} {a : Option Addr} {len : Nat} {zs : List Int} (h : Has w a len zs) (hb : Below w.heap.size w w') : Has w' a len zs := by
  refine ⟨h.1, fun hp => ?_⟩
  obtain ⟨b, off, e, hc⟩ := h.2 hp
  have hlt : b < w.heap.size := cell_block_lt (hc 0 hp)
  exact ⟨b, off, e, fun j hj => (hb.cell (p := ⟨b, off + j, none⟩) hlt).trans (hc j hj)⟩

/-- A device with a fuse of N, behind k writes and flushes. -/
def FJ (N k : Nat) (D : Dev) : Prop := D.blk = 64 ∧ D.n = 4 ∧ (∀ b, b < 4 → (D.Y b).length ≤ k) ∧ ((k ≤ N ∧ D.dead = false ∧ D.f = (N : Int) - k ∧ D.wr = k) ∨ (N < k ∧ D.dead = true ∧ D.wr = N))

theorem FJ.live {N k : Nat} {D : Dev} (h : FJ N k D) (hk : k < N) : ¬ D.burnt := by
  obtain ⟨_, _, _, h⟩ := h
  rcases h with ⟨a, b, c, d⟩ | ⟨a, _⟩
  · intro hb
    rcases hb with hb | hb
    · omega
    · rw [b] at hb; cases hb
  · omega

theorem FJ.dead {N k : Nat} {D : Dev} (h : FJ N k D) (hk : ¬ k < N) : D.burnt := by
  obtain ⟨_, _, _, h⟩ := h
  rcases h with ⟨a, b, c, d⟩ | ⟨a, b, _⟩
  · exact .inl (by omega)
  · exact .inr b

theorem FJ.die {N k : Nat} {D : Dev} (h : FJ N k D) (hk : ¬ k < N) : FJ N (k + 1) D.die := by
  obtain ⟨h1, h2, h3, h⟩ := h
  refine ⟨h1, h2, fun b hb => by have := h3 b hb; simp only [Dev.die]; omega, .inr ⟨by omega, rfl, ?_⟩⟩
  rcases h with ⟨a, b, c, d⟩ | ⟨a, b, c⟩
  · simp only [Dev.die]; omega
  · exact c

theorem wrap_small (k : Nat) (h : k ≤ 100) : wrap64 ((k : Int) + 1) = (k : Int) + 1 := by unfold wrap64; omega

theorem FJ.burn {N k : Nat} {D : Dev} (h : FJ N k D) (hk : k < N) (hN : N ≤ 100) : D.burn.blk = 64 ∧ D.burn.n = 4 ∧ D.burn.dead = false ∧ D.burn.f = (N : Int) - (k + 1 : Nat) ∧ D.burn.wr = (k + 1 : Nat) ∧ D.burn.Y = D.Y ∧ ∀ b, b < 4 → (D.Y b).length ≤ k := by
  obtain ⟨h1, h2, h3, h⟩ := h
  rcases h with ⟨a, b, c, d⟩ | ⟨a, b, c⟩
  · refine ⟨h1, h2, b, ?_, ?_, rfl, h3⟩
    · simp only [Dev.burn]; rw [if_pos (by omega)]; omega
    · simp only [Dev.burn]; rw [d, wrap_small k (by omega)]; omega
  · omega

theorem FJ.flush {N k : Nat} {D : Dev} (h : FJ N k D) (hk : k < N) (hN : N ≤ 100) : FJ N (k + 1) D.burn.flush := by
  obtain ⟨h1, h2, h3, h4, h5, h6, h7⟩ := h.burn hk hN
  refine ⟨h1, h2, fun b hb => ?_, .inl ⟨by omega, h3, h4, h5⟩⟩
  simp only [Dev.flush, Dev.flushTo]
  rw [if_pos (by omega)]
  simp

theorem FJ.add {N k : Nat} {D : Dev} (h : FJ N k D) (hk : k < N) (hN : N ≤ 100) (i : Nat) (zs : List Int) : FJ N (k + 1) (D.burn.add i zs) := by
  obtain ⟨h1, h2, h3, h4, h5, h6, h7⟩ := h.burn hk hN
  refine ⟨h1, h2, fun b hb => ?_, .inl ⟨by omega, h3, h4, h5⟩⟩
  simp only [Dev.add]
  have e1 := h7 b hb
  by_cases e : b = i
  · subst e
    simp only [if_true, h6, List.length_append, List.length_cons, List.length_nil]
    omega
  · simp only [if_neg e, h6]
    omega

/-- .. in memory. -/
def FD (B : Nat) (w : World) (g N k : Nat) (u : World) : Prop := ∃ S D, Dv u S g D ∧ FJ N k D ∧ (∀ j, S j → B ≤ j) ∧ B ≤ u.heap.size ∧ Below B w u

def fe (N k : Nat) : Int := if k < N then 0 else 7

theorem fd_flush {B : Nat} {w : World} {g N k : Nat} {u : World} (h : FD B w g N k u) (hN : N ≤ 100) :
    Calls Try.prog 17 #[.pointer (some ⟨g, 0, none⟩)] u fun e w' => e = .returned (.int .i64 (fe N k)) ∧ FD B w g N (k + 1) w' := by
  obtain ⟨S, D, h1, h2, h3, h4, h5⟩ := h
  unfold fe
  by_cases hk : k < N
  · rw [if_pos hk]
    refine (flush_ok g S D u h1 (h2.live hk)).mono ?_
    rintro e w' ⟨rfl, x1, x2⟩
    exact ⟨rfl, S, _, x1, h2.flush hk hN, h3, Nat.le_trans h4 x2.fr.size, h5.trans (x2.below h3 h4)⟩
  · rw [if_neg hk]
    refine (flush_dies g S D u h1 (h2.dead hk)).mono ?_
    rintro e w' ⟨rfl, x1, x2⟩
    exact ⟨rfl, S, _, x1, h2.die hk, h3, Nat.le_trans h4 x2.fr.size, h5.trans (x2.below h3 h4)⟩

theorem fd_write {B : Nat} {w : World} {g N k : Nat} {u : World} (h : FD B w g N k u) (hN : N ≤ 100) (i : Nat) (hi : i < 4) (x : Int) (h0 : 0 ≤ x) (h1 : x ≤ 255) (hk100 : k ≤ 100) :
    Calls Try.prog 36 #[.int .i64 64, .int .u8 x] u fun e w' => ∃ kk, e = .returned (.slice (some ⟨kk, 0, none⟩) 64 64) ∧ Hid (Calls Try.prog 15 #[.pointer (some ⟨g, 0, none⟩), .int .i64 i, .slice (some ⟨kk, 0, none⟩) 64 64] w' fun e w' => e = .returned (.int .i64 (fe N k)) ∧ FD B w g N (k + 1) w') := by
  obtain ⟨S, D, h2, h3, h4, h5, h6⟩ := h
  refine (full_any x u).mono ?_
  rintro e u1 ⟨rfl, x1, x2⟩
  refine ⟨_, rfl, ?_⟩
  have hd := h2.below x2
  have hs : ¬ S u.heap.size := fun hx => Nat.lt_irrefl _ (h2.lt hx)
  have b1 : B ≤ u1.heap.size := Nat.le_trans h5 x2.size
  have b2 : Below B w u1 := h6.trans (x2.mono h5)
  unfold fe
  by_cases hk : k < N
  · rw [if_pos hk]
    refine (write64 g i u.heap.size x S D u1 hd h3.1 (by rw [h3.2.1]; exact hi) (h3.live hk) x1 h0 h1 hs (by have := h3.2.2.1 i hi; omega)).mono ?_
    rintro e w' ⟨rfl, S', y1, y2⟩
    exact ⟨rfl, S', _, y1, h3.add hk hN i _, y2.base h4 b1, Nat.le_trans b1 y2.fr.size, b2.trans (y2.below h4 b1)⟩
  · rw [if_neg hk]
    have := write_dies g i (some ⟨u.heap.size, 0, none⟩) 64 S D u1 hd (by rw [h3.2.1]; exact hi) (h3.dead hk)
    rw [h3.1] at this
    refine this.mono ?_
    rintro e w' ⟨rfl, y1, y2⟩
    exact ⟨rfl, S, _, y1, h3.die hk, h4, Nat.le_trans b1 y2.fr.size, b2.trans (y2.below h4 b1)⟩

theorem fd_dead {B : Nat} {w : World} {g N k : Nat} {u : World} (h : FD B w g N k u) : u.cell? ⟨g, 4, none⟩ = some (.bool (decide (N < k))) := by
  obtain ⟨S, D, ⟨m, h2⟩, h3, _⟩ := h
  have := h2.cells.2.2.2.2.1
  rw [this]
  rcases h3.2.2.2 with ⟨a, b, _⟩ | ⟨a, b, _⟩
  · rw [b, decide_eq_false (by omega)]
  · rw [b, decide_eq_true (by omega)]

theorem fd_writes {B : Nat} {w : World} {g N k : Nat} {u : World} (h : FD B w g N k u) : u.cell? ⟨g, 5, none⟩ = some (.int .i64 ((min N k : Nat) : Int)) := by
  obtain ⟨S, D, ⟨m, h2⟩, h3, _⟩ := h
  have := h2.cells.2.2.2.2.2
  rw [this]
  rcases h3.2.2.2 with ⟨a, b, c, d⟩ | ⟨a, b, c⟩
  · rw [d, Nat.min_eq_right a]
  · rw [c, Nat.min_eq_left (by omega)]

theorem fd_new (w u : World) (hb : Below w.heap.size w u) (N : Nat) (hN : N ≤ 100) :
    Calls Try.prog 10 #[.int .i64 64, .int .i64 4] u fun e w' => ∃ g, e = .returned (.tuple #[.pointer (some ⟨g, 0, none⟩), .int .i64 0]) ∧ Hid (Calls Try.prog 19 #[.pointer (some ⟨g, 0, none⟩), .int .i64 N] w' fun e w' => e = .returned (.int .i64 0) ∧ FD w.heap.size w g N 0 w') := by
  refine (new4 u).mono ?_
  rintro e w1 ⟨g, S, rfl, h1, h2, h3⟩
  refine ⟨g, rfl, ?_⟩
  have hs := hb.size
  refine (fuse_any g N S _ w1 h1 (by omega)).mono ?_
  rintro e w2 ⟨rfl, y1, y2⟩
  have hS : ∀ j, S j → w.heap.size ≤ j := fun j hj => Nat.le_trans hs (h2 j hj)
  have e1 : (Dev.new 64 4).fuseE N = 0 := by unfold Dev.fuseE Dev.new; rw [if_neg (by omega)]; rfl
  have e2 : (Dev.new 64 4).fuseD N = { Dev.new 64 4 with f := N } := by unfold Dev.fuseD Dev.new; rw [if_neg (by omega)]; rfl
  rw [e2] at y1
  have s1 : w.heap.size ≤ w1.heap.size := Nat.le_trans hs h3.size
  refine ⟨by rw [e1], S, _, y1, ⟨rfl, rfl, fun b _ => by simp [Dev.new], .inl ⟨by omega, rfl, by simp, rfl⟩⟩, hS, Nat.le_trans s1 y2.fr.size, (hb.trans (h3.mono hs)).trans (y2.below hS s1)⟩

/-- What stands behind the loop. -/
theorem fd_end {B : Nat} {w : World} {g N k : Nat} {u : World} (h : FD B w g N k u) (hB : B = w.heap.size) :
    (Calls Try.prog 12 #[.pointer (some ⟨g, 0, none⟩), .int .i64 0] u fun e w' => (∃ v q, e = .returned (.tuple #[v, .int .i64 q]) ∧ Hid (q = if N < k then 7 else 0)) ∧ FD B w g N k w') := by
  obtain ⟨S, D, h2, h3, h4, h5, h6⟩ := h
  rcases h3.2.2.2 with ⟨a, b, _⟩ | ⟨a, b, _⟩
  · refine (read64 g 0 S D u h2 h3.1 b (by rw [h3.2.1]; omega)).mono ?_
    rintro e w' ⟨rfl, _, y2⟩
    exact ⟨⟨_, 0, rfl, by rw [if_neg (by omega)]; exact hide rfl⟩, S, D, h2.below y2, h3, h4, Nat.le_trans h5 y2.size, h6.trans (y2.mono h5)⟩
  · refine (read_dead g 0 S D u h2 b).mono ?_
    rintro e w' ⟨rfl, rfl⟩
    exact ⟨⟨_, 7, rfl, by rw [if_pos a]; exact hide rfl⟩, S, D, h2, h3, h4, h5, h6⟩

theorem fd_crash {B : Nat} {w : World} {g N k : Nat} {u : World} (h : FD B w g N k u) :
    Calls Try.prog 21 #[.pointer (some ⟨g, 0, none⟩), .slice none 0 0] u fun e w1 => e = .returned (.int .i64 0) ∧
      Hid (Calls Try.prog 36 #[.int .i64 64, .int .u8 9] w1 fun e w2 => ∃ kk, e = .returned (.slice (some ⟨kk, 0, none⟩) 64 64) ∧
        Hid (Calls Try.prog 15 #[.pointer (some ⟨g, 0, none⟩), .int .i64 0, .slice (some ⟨kk, 0, none⟩) 64 64] w2 fun e w3 => e = .returned (.int .i64 0) ∧
          Hid (Calls Try.prog 12 #[.pointer (some ⟨g, 0, none⟩), .int .i64 0] w3 fun e w4 => ∃ k4, e = .returned (.tuple #[.slice (some ⟨k4, 0, none⟩) 64 64, .int .i64 0]) ∧ w4.cell? ⟨g, 4, none⟩ = some (.bool false) ∧ Hid (Has w4 (some ⟨k4, 0, none⟩) 64 (fl 9)) ∧ Hid (B ≤ w4.heap.size) ∧ Hid (Below B w w4)))) := by
  obtain ⟨S, D, h2, h3, h4, h5, h6⟩ := h
  refine (crash_any g none 0 0 [] S D u h2 ⟨rfl, fun h => by omega⟩ ⟨by omega, by omega⟩ (fun _ x e => by cases e)).mono ?_
  rintro e w1 ⟨rfl, x1, x2⟩
  refine ⟨rfl, ?_⟩
  have s1 : B ≤ w1.heap.size := Nat.le_trans h5 x2.fr.size
  have b1 : Below B w w1 := h6.trans (x2.below h4 h5)
  refine (full_any 9 w1).mono ?_
  rintro e w2 ⟨rfl, y1, y2⟩
  refine ⟨_, rfl, ?_⟩
  have s2 : B ≤ w2.heap.size := Nat.le_trans s1 y2.size
  have b2 : Below B w w2 := b1.trans (y2.mono s1)
  have hs : ¬ S w1.heap.size := fun hx => Nat.lt_irrefl _ (x1.lt hx)
  have hY : ∀ i, i < 4 → (D.crash []).Y i = [] := fun i hi => by simp only [Dev.crash, Dev.live, Dev.crashTo]; rw [if_pos (by rw [h3.2.1]; exact hi)]
  refine (write64 g 0 w1.heap.size 9 S _ w2 (x1.below y2) h3.1 (by show 0 < D.n; rw [h3.2.1]; omega) (by unfold Dev.burnt; simp [Dev.crash, Dev.live]) y1 (by omega) (by omega) hs (by rw [hY 0 (by omega)]; simp)).mono ?_
  rintro e w3 ⟨rfl, S3, z1, z2⟩
  refine ⟨rfl, ?_⟩
  have s3 : B ≤ w3.heap.size := Nat.le_trans s2 z2.fr.size
  have b3 : Below B w w3 := b2.trans (z2.below h4 s2)
  refine (read64 g 0 S3 _ w3 z1 h3.1 rfl (by show 0 < D.n; rw [h3.2.1]; omega)).mono ?_
  rintro e w4 ⟨rfl, q1, q2⟩
  have hrd : ((D.crash []).burn.add 0 (fl 9)).rd 0 = fl 9 := by simp [Dev.rd, Dev.add]
  rw [hrd] at q1
  obtain ⟨m, z4⟩ := z1.below q2
  exact ⟨_, rfl, z4.cells.2.2.2.2.1, q1.has (fl_len 9), Nat.le_trans s3 q2.size, b3.trans (q2.mono s3)⟩

set_option maxRecDepth 100000 in
set_option maxHeartbeats 2000000 in
theorem fuses_walk (a0 a1 : Int) (w : World) :
    Calls Try.prog 5 #[.int .i64 a0, .int .i64 a1] w fun e w' => e = .returned (.bool true) ∧ Below w.heap.size w w' := by
  have KW := hide (wakes_any w)
  have KN := hide (fd_new w)
  have KF : Hid (∀ g N k u, FD w.heap.size w g N k u → N ≤ 100 → Calls Try.prog 17 #[.pointer (some ⟨g, 0, none⟩)] u fun e w' => e = .returned (.int .i64 (fe N k)) ∧ FD w.heap.size w g N (k + 1) w') := fun g N k u h hN => fd_flush h hN
  have KR : Hid (∀ g N k u, FD w.heap.size w g N k u → N ≤ 100 → k ≤ 100 → Calls Try.prog 36 #[.int .i64 64, .int .u8 (k : Int)] u fun e w' => ∃ kk, e = .returned (.slice (some ⟨kk, 0, none⟩) 64 64) ∧ Hid (Calls Try.prog 15 #[.pointer (some ⟨g, 0, none⟩), .int .i64 ((k % 4 : Nat) : Int), .slice (some ⟨kk, 0, none⟩) 64 64] w' fun e w' => e = .returned (.int .i64 (fe N k)) ∧ FD w.heap.size w g N (k + 1) w')) := fun g N k u h hN hk => fd_write h hN (k % 4) (by omega) k (by omega) (by omega) hk
  go_enter Try.func5, Try.ntmps5
  go_wp2_with fail
  go_at_call 9
  refine (unhide KW).mono ?_
  rintro e w1 ⟨rfl, h1⟩
  have HB := hide h1
  clear KW h1
  obtain ⟨q, hq⟩ : ∃ q : Bool, q = !decide (0 ≤ a0 ∧ a0 ≤ 100 ∧ 0 ≤ a1 ∧ a1 ≤ 100) := ⟨_, rfl⟩
  have HQ := hide hq
  clear hq
  go_upto_region 3 with fail
  go_cut [31] (fun v wx => v = .bool q ∧ Hid (Below w.heap.size w wx))
  case first =>
    clear KN KF KR
    have hg2 : (0 ≤ a0 ∧ a0 ≤ 100 ∧ 0 ≤ a1 ∧ a1 ≤ 100) ∨ a0 < 0 ∨ ¬ a0 < 0 ∧ 100 < a0 ∨ ¬ a0 < 0 ∧ ¬ 100 < a0 ∧ a1 < 0 ∨ ¬ a0 < 0 ∧ ¬ 100 < a0 ∧ ¬ a1 < 0 ∧ 100 < a1 := by omega
    rcases hg2 with ⟨h1, h2, h3, h4⟩ | h1 | ⟨h1, h2⟩ | ⟨h1, h2, h3⟩ | ⟨h1, h2, h3, h4⟩
    · have e : q = false := by rw [unhide HQ, decide_eq_true (by omega)]; rfl
      subst e
      go_wp2_with fail
      go_meet
      refine ⟨?_, HB⟩
      first | rfl | (congr 1; simp; omega)
    all_goals
      have e : q = true := by rw [unhide HQ, decide_eq_false (by omega)]; rfl
      subst e
      go_wp2_with fail
      go_meet
      exact ⟨rfl, HB⟩
  case rest =>
   obtain ⟨rfl, hX0⟩ := hcut
   go_upto_if 31 with fail
   go_cut [0, 1] (fun x y wx => ∃ N M : Nat, x = .int .i64 (N : Int) ∧ y = .int .i64 (M : Int) ∧ N ≤ 100 ∧ M ≤ 100 ∧ Hid (Below w.heap.size w wx))
   case first =>
    clear KN KF KR
    cases hq2 : q with
    | false =>
      have hg : 0 ≤ a0 ∧ a0 ≤ 100 ∧ 0 ≤ a1 ∧ a1 ≤ 100 := by
        have := unhide HQ
        rw [hq2] at this
        exact of_decide_eq_true (by simpa using this.symm)
      obtain ⟨N, rfl⟩ : ∃ N : Nat, a0 = N := ⟨a0.toNat, by omega⟩
      obtain ⟨M, rfl⟩ : ∃ M : Nat, a1 = M := ⟨a1.toNat, by omega⟩
      clear hq2
      go_wp2_with fail
      go_meet
      exact ⟨N, M, rfl, rfl, by omega, by omega, hX0⟩
    | true =>
      clear hq2
      go_wp2_with fail
      go_meet
      exact ⟨3, 7, rfl, rfl, by omega, by omega, hX0⟩
   case rest =>
    obtain ⟨N, M, rfl, rfl, hN, hM, hX⟩ := hcut
    rename_i wc
    have K2 := hide (unhide KN wc (unhide hX) N hN)
    clear KN HB
    go_wp2_with fail
    go_at_call 10
    refine (unhide K2).mono ?_
    rintro e w2 ⟨g, rfl, K3⟩
    clear K2
    go_wp2_with fail
    go_at_call 19
    refine (unhide K3).mono ?_
    rintro e w3 ⟨rfl, h3⟩
    have H3 := hide h3
    clear K3 h3 hX
    go_upto_region 13 with fail
    go_loopw [7] (fun i wr => ∃ k : Nat, k ≤ M ∧ i = .int .i64 (k : Int) ∧ Hid (FD w.heap.size w g N k wr)) (fun i _ => M - (intOf i).toNat)
    case atStart => exact ⟨0, Nat.zero_le _, rfl, H3⟩
    case round =>
      obtain ⟨k, hk, rfl, hF⟩ := hrel
      clear H3
      by_cases hlt : k < M
      · have K1 := hide (unhide KF g N k wr (unhide hF) hN)
        have K2 := hide (unhide KR g N k wr (unhide hF) hN (by omega))
        clear KF KR hF
        go_upto_region 16 with fail
        have D1 : Hid (∀ u, FD w.heap.size w g N (k + 1) u → u.cell? ⟨g, 4, none⟩ = some (.bool (decide (N < k + 1)))) := fun u h => fd_dead h
        obtain ⟨rr, hrr⟩ : ∃ rr : Bool, rr = decide (k % 3 = 2) := ⟨_, rfl⟩
        have m1 : ((k : Int) % 3 == 2) = rr := by rw [hrr]; by_cases hc : k % 3 = 2
                                                  · rw [decide_eq_true hc]; simp; omega
                                                  · rw [decide_eq_false hc]; simp; omega
        have m2 : (Int.tmod (k : Int) 3 == 2) = rr := by rw [Int.tmod_eq_emod_of_nonneg (by omega)]; exact m1
        have HR := hide hrr
        clear hrr
        go_upto_if 54 with fail
        clear m1 m2
        go_cut [8] (fun v wx => v = .int .i64 (fe N k) ∧ Hid (FD w.heap.size w g N (k + 1) wx))
        case first =>
          cases rr with
          | true =>
            clear K2
            go_wp2_with fail
            go_at_call 17
            refine (unhide K1).mono ?_
            rintro e w4 ⟨rfl, h4⟩
            have H4 := hide h4
            clear K1 h4
            generalize fe N k = q at *
            go_wp2_with fail
            go_meet
            exact ⟨rfl, H4⟩
          | false =>
            clear K1
            have a1 : bits .and .i64 (k : Int) 3 = ((k % 4 : Nat) : Int) := by rw [and3]; omega
            have a2 : IntKind.u8.wrap (k : Int) = k := by rw [IntKind.wrap_u8']; omega
            have a3 : (k : Int) % 256 = k := by omega
            generalize hk4 : k % 4 = k4 at *
            clear hk4
            go_wp2_with fail
            go_at_call 36
            refine (unhide K2).mono ?_
            rintro e w4 ⟨kk, rfl, K3⟩
            clear K2
            go_wp2_with fail
            go_at_call 15
            refine (unhide K3).mono ?_
            rintro e w5 ⟨rfl, h4⟩
            have H4 := hide h4
            clear K3 h4
            generalize fe N k = q at *
            go_wp2_with fail
            go_meet
            exact ⟨rfl, H4⟩
        case rest =>
          obtain ⟨rfl, hF2⟩ := hcut
          rename_i wx
          have c4 := unhide D1 _ (unhide hF2)
          clear K1 K2 HR D1
          by_cases hkN : k < N
          · have e0 : fe N k = 0 := if_pos hkN
            rw [decide_eq_false (by omega)] at c4
            rw [e0]
            have d1 : decide ((k : Int) < (N : Int)) = true := by simpa using hkN
            have d2 : decide ((N : Int) ≤ (k : Int)) = false := by simpa using hkN
            have KD := hide (dead_dev g _ _ c4)
            clear e0 c4
            go_wp2_with fail
            go_at_call 29
            refine (unhide KD).mono ?_
            rintro e w6 ⟨rfl, rfl⟩
            clear KD
            go_wp2_with fail
            exact ⟨⟨k + 1, by omega, by go_num, hF2⟩, by simp [intOf]; omega⟩
          · have e0 : fe N k = 7 := if_neg hkN
            rw [decide_eq_true (by omega)] at c4
            rw [e0]
            have d1 : decide ((k : Int) < (N : Int)) = false := by simpa using hkN
            have d2 : decide ((N : Int) ≤ (k : Int)) = true := by simpa using hkN
            have d3 : ¬ (k : Int) < (N : Int) := by omega
            have d4 : (N : Int) ≤ (k : Int) := by omega
            have d5 : N ≤ k := by omega
            have KD := hide (dead_dev g _ _ c4)
            clear e0 c4
            go_wp2_with fail
            go_at_call 29
            refine (unhide KD).mono ?_
            rintro e w6 ⟨rfl, rfl⟩
            clear KD
            go_wp2_with fail
            exact ⟨⟨k + 1, by omega, by go_num, hF2⟩, by simp [intOf]; omega⟩
      · obtain rfl : k = M := by omega
        have c5 := fd_writes (unhide hF)
        have KE := hide (fd_end (unhide hF) rfl)
        have KC : Hid (∀ u, FD w.heap.size w g N k u → _) := fun u h => fd_crash (u := u) h
        have KWr := hide (writes_dev g wr _ c5)
        clear KF KR c5 hF
        rcases Nat.lt_trichotomy k N with hkN | hkN | hkN
        · have e1 : min N k = k := by omega
          rw [e1] at KWr
          have i1 : (k : Int) < (N : Int) := by omega
          have i2 : (if N < k then 7 else 0 : Int) = 0 := if_neg (by omega)
          have i3 : ¬ (N : Int) < (k : Int) := by omega
          have i4 : decide ((N : Int) < (k : Int)) = false := decide_eq_false i3
          clear e1
          go_wp2_with fail
          go_at_call 31
          refine (unhide KWr).mono ?_
          rintro e w5 ⟨rfl, rfl⟩
          clear KWr
          go_wp2_with fail
          go_at_call 12
          refine (unhide KE).mono ?_
          rintro e w6 ⟨⟨v, q, rfl, hq⟩, h6⟩
          replace hq := (unhide hq).trans i2
          subst hq
          have K6 := hide (unhide KC w6 h6)
          clear KE KC h6 i2
          go_wp2_with fail
          go_at_call 21
          refine (unhide K6).mono ?_
          rintro e w7 ⟨rfl, K7⟩
          clear K6
          go_wp2_with fail
          go_at_call 36
          refine (unhide K7).mono ?_
          rintro e w8 ⟨kk, rfl, K8⟩
          clear K7
          go_wp2_with fail
          go_at_call 15
          refine (unhide K8).mono ?_
          rintro e w9 ⟨rfl, K9⟩
          clear K8
          go_wp2_with fail
          go_at_call 12
          refine (unhide K9).mono ?_
          rintro e wa ⟨k4, rfl, c4, hH, hs, hX⟩
          have KD := hide (dead_dev g wa _ c4)
          have KA := hide (full_any 9 wa)
          clear K9 c4
          go_wp2_with fail
          go_at_call 29
          refine (unhide KD).mono ?_
          rintro e wb ⟨rfl, rfl⟩
          clear KD
          go_wp2_with fail
          go_at_call 36
          refine (unhide KA).mono ?_
          rintro e wb ⟨rfl, x1, x2⟩
          have KS := hide (same_true (some ⟨k4, 0, none⟩) (some ⟨wa.heap.size, 0, none⟩) 64 64 64 (fl 9) wb ((unhide hH).later x2) (x1.has (fl_len 9)))
          have X2 := hide ((unhide hX).trans (x2.mono (unhide hs)))
          clear KA x1 x2 hH hs hX
          generalize wa.heap.size = ka at *
          go_wp2_with fail
          go_at_call 14
          refine (unhide KS).mono ?_
          rintro e wd ⟨rfl, rfl⟩
          clear KS
          go_wp2_with fail
          go_ret
          exact ⟨rfl, unhide X2⟩
        · have e1 : min N k = N := by omega
          rw [e1] at KWr
          have i1 : ¬ (k : Int) < (N : Int) := by omega
          have i2 : (if N < k then 7 else 0 : Int) = 0 := if_neg (by omega)
          have i3 : ¬ (N : Int) < (k : Int) := by omega
          have i4 : decide ((N : Int) < (k : Int)) = false := decide_eq_false i3
          have hkk := hide hkN
          clear hkN
          clear e1
          go_wp2_with fail
          go_at_call 31
          refine (unhide KWr).mono ?_
          rintro e w5 ⟨rfl, rfl⟩
          clear KWr
          go_wp2_with fail
          go_at_call 12
          refine (unhide KE).mono ?_
          rintro e w6 ⟨⟨v, q, rfl, hq⟩, h6⟩
          replace hq := (unhide hq).trans i2
          subst hq
          have K6 := hide (unhide KC w6 h6)
          clear KE KC h6 i2
          go_wp2_with fail
          go_at_call 21
          refine (unhide K6).mono ?_
          rintro e w7 ⟨rfl, K7⟩
          clear K6
          go_wp2_with fail
          go_at_call 36
          refine (unhide K7).mono ?_
          rintro e w8 ⟨kk, rfl, K8⟩
          clear K7
          go_wp2_with fail
          go_at_call 15
          refine (unhide K8).mono ?_
          rintro e w9 ⟨rfl, K9⟩
          clear K8
          go_wp2_with fail
          go_at_call 12
          refine (unhide K9).mono ?_
          rintro e wa ⟨k4, rfl, c4, hH, hs, hX⟩
          have KD := hide (dead_dev g wa _ c4)
          have KA := hide (full_any 9 wa)
          clear K9 c4
          go_wp2_with fail
          go_at_call 29
          refine (unhide KD).mono ?_
          rintro e wb ⟨rfl, rfl⟩
          clear KD
          go_wp2_with fail
          go_at_call 36
          refine (unhide KA).mono ?_
          rintro e wb ⟨rfl, x1, x2⟩
          have KS := hide (same_true (some ⟨k4, 0, none⟩) (some ⟨wa.heap.size, 0, none⟩) 64 64 64 (fl 9) wb ((unhide hH).later x2) (x1.has (fl_len 9)))
          have X2 := hide ((unhide hX).trans (x2.mono (unhide hs)))
          clear KA x1 x2 hH hs hX
          generalize wa.heap.size = ka at *
          go_wp2_with fail
          go_at_call 14
          refine (unhide KS).mono ?_
          rintro e wd ⟨rfl, rfl⟩
          clear KS
          go_wp2_with fail
          go_ret
          exact ⟨rfl, unhide X2⟩
        · have e1 : min N k = N := by omega
          rw [e1] at KWr
          have i1 : ¬ (k : Int) < (N : Int) := by omega
          have i2 : (if N < k then 7 else 0 : Int) = 7 := if_pos (by omega)
          have i3 : (N : Int) < (k : Int) := by omega
          have i4 : decide ((N : Int) < (k : Int)) = true := decide_eq_true i3
          clear e1
          go_wp2_with fail
          go_at_call 31
          refine (unhide KWr).mono ?_
          rintro e w5 ⟨rfl, rfl⟩
          clear KWr
          go_wp2_with fail
          go_at_call 12
          refine (unhide KE).mono ?_
          rintro e w6 ⟨⟨v, q, rfl, hq⟩, h6⟩
          replace hq := (unhide hq).trans i2
          subst hq
          have K6 := hide (unhide KC w6 h6)
          clear KE KC h6 i2
          go_wp2_with fail
          go_at_call 21
          refine (unhide K6).mono ?_
          rintro e w7 ⟨rfl, K7⟩
          clear K6
          go_wp2_with fail
          go_at_call 36
          refine (unhide K7).mono ?_
          rintro e w8 ⟨kk, rfl, K8⟩
          clear K7
          go_wp2_with fail
          go_at_call 15
          refine (unhide K8).mono ?_
          rintro e w9 ⟨rfl, K9⟩
          clear K8
          go_wp2_with fail
          go_at_call 12
          refine (unhide K9).mono ?_
          rintro e wa ⟨k4, rfl, c4, hH, hs, hX⟩
          have KD := hide (dead_dev g wa _ c4)
          have KA := hide (full_any 9 wa)
          clear K9 c4
          go_wp2_with fail
          go_at_call 29
          refine (unhide KD).mono ?_
          rintro e wb ⟨rfl, rfl⟩
          clear KD
          go_wp2_with fail
          go_at_call 36
          refine (unhide KA).mono ?_
          rintro e wb ⟨rfl, x1, x2⟩
          have KS := hide (same_true (some ⟨k4, 0, none⟩) (some ⟨wa.heap.size, 0, none⟩) 64 64 64 (fl 9) wb ((unhide hH).later x2) (x1.has (fl_len 9)))
          have X2 := hide ((unhide hX).trans (x2.mono (unhide hs)))
          clear KA x1 x2 hH hs hX
          generalize wa.heap.size = ka at *
          go_wp2_with fail
          go_at_call 14
          refine (unhide KS).mono ?_
          rintro e wd ⟨rfl, rfl⟩
          clear KS
          go_wp2_with fail
          go_ret
          exact ⟨rfl, unhide X2⟩

end Go.Proofs.Ytikpmchjlpobdaa
