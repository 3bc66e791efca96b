/- The contract of the document's Crash. -/
import Derived.Test.YtikpmchjlpobdaaDRCrash
namespace Go.Proofs.Ytikpmchjlpobdaa
open Go.RowKit Go.Shelf
set_option linter.unusedVariables false

theorem crash_put (D : Dev) (ps : List Int) (b : Nat) : (D.crashTo ps b).put b (D.pick b (ps[D.cnt b]?.getD 0)) [] = D.crashTo ps (b + 1) := by
  have hy : (D.crashTo ps b).Y b = D.Y b := by simp [Dev.crashTo]
  have hx : (D.crashTo ps b).X b = D.X b := by simp [Dev.crashTo]
  have hp : (D.crashTo ps b).pick b (ps[D.cnt b]?.getD 0) = D.pick b (ps[D.cnt b]?.getD 0) := by
    unfold Dev.pick
    rw [hy, hx]
  rw [← crash_step, ← put_settle, hp]

theorem meas_two {n2 wl : Nat} (h : n2 + 2 ≤ wl) : wl - (intOf (.int .i64 ((n2 : Int) + 2))).toNat < wl - (intOf (.int .i64 (n2 : Int))).toNat := by simp [intOf]; omega

theorem meas_two' {n2 wl : Nat} (h : n2 + 2 ≤ wl) : wl - (intOf (.int .i64 ((n2 + 2 : Nat) : Int))).toNat < wl - (intOf (.int .i64 (n2 : Int))).toNat := by simp [intOf]; omega

theorem clip_nums {pq : Int} {ly kj : Nat} (h : kj = min pq.toNat ly) : (kj : Int) = if (ly : Int) < (if pq < 0 then 0 else pq) then (ly : Int) else (if pq < 0 then 0 else pq) := by
  by_cases h1 : pq < 0
  · rw [if_pos h1]; split <;> omega
  · rw [if_neg h1]; split <;> omega

theorem crash_nums {n2 t n3 wl b nn kj ly : Nat} (hnt : n2 = 2 * t) (hn3 : n3 = n2 + 1) (z3 : n2 + 1 < wl) (hw : wl ≤ 8192) (hb : b < nn) (hk : kj ≤ ly) :
    (n2 : Int) / 2 = (t : Int) ∧ Int.tdiv (n2 : Int) 2 = (t : Int) ∧ wrap64 (t : Int) = (t : Int) ∧ (n2 : Int) + 1 = (n3 : Int) ∧ wrap64 ((n2 : Int) + 1) = (n3 : Int) ∧ (n3 : Int) < (wl : Int) ∧ (n2 : Int) < (wl : Int) ∧ (b : Int) < (nn : Int) ∧ (kj : Int) < ((ly + 1 : Nat) : Int) ∧ wrap64 ((n2 : Int) + 2) = ((n2 + 2 : Nat) : Int) ∧ n2 + 2 ≤ wl ∧ b + 1 ≤ nn ∧ wrap64 (n3 : Int) = (n3 : Int) := by
  have q1 : (n2 : Int) / 2 = (t : Int) := by omega
  refine ⟨q1, by rw [Int.tdiv_eq_ediv_of_nonneg (by omega)]; exact q1, by unfold wrap64; omega, by omega, by unfold wrap64; omega, by omega, by omega, by omega, by omega, by unfold wrap64; omega, by omega, by omega, by unfold wrap64; omega⟩

set_option maxRecDepth 100000 in
set_option maxHeartbeats 4000000 in
theorem rcrash (g : Nat) (a : Option Addr) (len cap : Nat) (ps : List Int) (S : Nat → Prop) (D : Dev) (w : World) (hD : Rv w S g D) (hp : IHas w a len ps) (hc : len ≤ cap ∧ cap ≤ 9223372036854775807) (ho : Out S len a) :
    Calls Try.prog 22 #[.pointer (some ⟨g, 0, none⟩), .slice a len cap] w fun e w' => e = .returned (.int .i64 0) ∧ ∃ S', Rv w' S' g (D.crash ps) ∧ Nx S w S' w' := by
  have hn := hD.ok.n2
  have KW := hide (rwaiting g S D w hD)
  have hSlt : Hid (∀ k, S k → k < w.heap.size) := fun k hk => hD.lt hk
  have KD : Hid (∀ w1, Below w.heap.size w w1 → Rv w1 S g D ∧ Nx S w S w1) := fun w1 hb => ⟨hD.below hb, ⟨Below.fr hb S, fun _ _ h => h⟩⟩
  have hE : Hid (D.crash ps = (D.crashTo ps D.n).live) := rfl
  have hlps := hide hp.1
  obtain ⟨nn, hN⟩ : ∃ nn, nn = D.n := ⟨_, rfl⟩
  have KPk : Hid (∀ wr S', Nx S w S' wr → ∀ j, j < len → ∃ b off, a = some ⟨b, off, none⟩ ∧ wr.cell? ⟨b, off + j, none⟩ = some (.int .i64 (ps[j]?.getD 0))) := by
    intro wr S' hx j hj
    obtain ⟨b, off, e, hcell⟩ := (hp.nx hx ho).2 (by omega)
    exact ⟨b, off, e, hcell j hj⟩
  have KO : Hid (∀ wr S1 b j, b < nn → j ≤ (D.Y b).length → j = min (ps[D.cnt b]?.getD 0).toNat (D.Y b).length → Rv wr S1 g (D.crashTo ps b) → ∃ hh hc kk c r1 r2, wr.cell? ⟨g, 1, none⟩ = some (.slice (some ⟨hh, 0, none⟩) nn hc) ∧ (∀ o, (wr.alloc o).cell? ⟨g, 1, none⟩ = some (.slice (some ⟨hh, 0, none⟩) nn hc)) ∧
      wr.cell? ⟨hh, b, none⟩ = some (.slice (some ⟨kk, 0, none⟩) ((D.Y b).length + 1) c) ∧ (∀ o, (wr.alloc o).cell? ⟨hh, b, none⟩ = some (.slice (some ⟨kk, 0, none⟩) ((D.Y b).length + 1) c)) ∧ (∀ o, (wr.alloc o).frozen? ⟨hh, b, none⟩ = false) ∧
      wr.cell? ⟨kk, j, none⟩ = some (.slice (some ⟨r1, 0, none⟩) D.blk r2) ∧ (∀ o, (wr.alloc o).cell? ⟨kk, j, none⟩ = some (.slice (some ⟨r1, 0, none⟩) D.blk r2)) ∧
      Hid (∃ S', Rv ((wr.alloc (.cells #[.slice (some ⟨r1, 0, none⟩) D.blk r2] 31)).setCell ⟨hh, b, none⟩ (.slice (some ⟨wr.heap.size, 0, none⟩) 1 1)).drew S' g (D.crashTo ps (b + 1)) ∧ Nx S1 wr S' ((wr.alloc (.cells #[.slice (some ⟨r1, 0, none⟩) D.blk r2] 31)).setCell ⟨hh, b, none⟩ (.slice (some ⟨wr.heap.size, 0, none⟩) 1 1)).drew)) := by
    intro wr S1 b j hb hj hj2 h
    have e2 : (D.crashTo ps b).Y b = D.Y b := by simp [Dev.crashTo]
    have e3 : (D.crashTo ps b).X b = D.X b := by simp [Dev.crashTo]
    obtain ⟨hh, hc, kk, c, r1, r2, x1, x2, x3, x4, x5, x6, x7, S', x8, x9⟩ := h.one (k := b) (by rw [hN] at hb; exact hb) j (by rw [e2]; exact hj)
    rw [e2] at x3 x4
    rw [e2, e3, hj2, pick_row, crash_put] at x8
    rw [hN]
    exact ⟨hh, hc, kk, c, r1, r2, x1, x2, x3, x4, x5, x6, x7, S', x8, x9⟩
  have KF : Hid (∀ wr S1 D1, Rv wr S1 g D1 → ∃ x2 x3, wr.cell? ⟨g, 2, none⟩ = some (.int .i64 x2) ∧ wr.cell? ⟨g, 3, none⟩ = some (.bool x3) ∧ (∀ k, wr.frozen? ⟨g, k, none⟩ = false) ∧
      Hid (Rv ((wr.setCell ⟨g, 3, none⟩ (.bool false)).setCell ⟨g, 2, none⟩ (.int .i64 (-1))) S1 g D1.live ∧ Nx S1 wr S1 ((wr.setCell ⟨g, 3, none⟩ (.bool false)).setCell ⟨g, 2, none⟩ (.int .i64 (-1))))) := by
    intro wr S1 D1 h
    obtain ⟨m, h⟩ := h
    obtain ⟨c0, c1, c2, c3, c4⟩ := h.cells
    exact ⟨_, _, c2, c3, h.free, h.setL2⟩
  have hyb : Hid (∀ k, k < nn → (D.Y k).length ≤ 400) := by rw [hN]; exact hD.ok.y
  have hcn : D.cnt nn ≤ 4096 := by have := cnt_leR D nn; omega
  have hWE : Hid (D.waitL = D.waitTo nn) := by rw [hN]; rfl
  have hWl : Hid (D.waitL.length = 2 * D.cnt nn) := by rw [unhide hWE]; exact waitTo_cnt D nn
  rw [← hN] at hn hE
  clear hN hD hp ho
  rw [unhide hE]
  clear hE
  go_enter Try.func22, Try.ntmps22
  go_wp2_with fail
  go_at_call 35
  refine (unhide KW).mono ?_
  rintro e w1 ⟨wa, wcap, rfl, hO, hB⟩
  obtain ⟨r0, n0⟩ := unhide KD w1 hB
  have F : Hid (∃ S', Rv w1 S' g (D.crashTo ps 0) ∧ Nx S w S' w1 ∧ Nx S w1 S' w1) := ⟨S, by rw [crash_start]; exact r0, n0, Nx.refl _ _⟩
  have HO := hide hO
  have KWL : Hid (∀ wr S', Nx S w1 S' wr → ∀ b, b < nn → D.Y b ≠ [] → ∃ q, wa = some ⟨q, 0, none⟩ ∧ wr.cell? ⟨q, 2 * D.cnt b, none⟩ = some (.int .i64 (b : Int)) ∧ wr.cell? ⟨q, 2 * D.cnt b + 1, none⟩ = some (.int .i64 ((D.Y b).length : Int)) ∧ 2 * D.cnt b + 1 < D.waitL.length) := by
    intro wr S' hx b hb hY
    obtain ⟨p1, p2⟩ := waitTo_pair D hb hY
    rw [← unhide hWE] at p1 p2
    have l1 := (List.getElem?_eq_some_iff.1 p2).1
    obtain ⟨q, e, hq, hc1, _⟩ := (unhide HO).cell (j := 2 * D.cnt b) (by omega)
    obtain ⟨q', e', hq', hc2, _⟩ := (unhide HO).cell (j := 2 * D.cnt b + 1) l1
    rw [e] at e'
    cases e'
    have hqlt : q < w1.heap.size := cell_block_lt hc1
    have hk := hx.keep hqlt (fun hs => by have := unhide hSlt q hs; omega)
    rw [p1] at hc1
    rw [p2] at hc2
    exact ⟨q, e, (World.cell?_of_block (a := ⟨q, 2 * D.cnt b, none⟩) hk.1).trans hc1, (World.cell?_of_block (a := ⟨q, 2 * D.cnt b + 1, none⟩) hk.1).trans hc2, l1⟩
  clear KW KD hO hB r0 n0 HO hSlt
  generalize hwl : D.waitL.length = wl at *
  clear hwl
  go_upto_region 3 with fail
  go_loopw [6] (fun i wr => ∃ (n2 b : Nat), i = .int .i64 (n2 : Int) ∧ n2 ≤ wl ∧ b ≤ nn ∧ Hid (n2 = 2 * D.cnt b) ∧ Hid (∃ S', Rv wr S' g (D.crashTo ps b) ∧ Nx S w S' wr ∧ Nx S w1 S' wr)) (fun i _ => wl - (intOf i).toNat)
  case atStart => exact ⟨0, 0, rfl, Nat.zero_le _, Nat.zero_le _, rfl, F⟩
  case round =>
    obtain ⟨n2, b0, rfl, hn2, hb0, HN2, hF⟩ := hrel
    clear F
    obtain ⟨S1, f1, f2, f3⟩ := unhide hF
    by_cases hlt : n2 < wl
    · have hcb : D.cnt b0 < D.cnt nn := by have := unhide HN2; have := unhide hWl; omega
      obtain ⟨b, y1, y2, y3, y4, y5⟩ := next_block D ps _ b0 rfl hb0 hcb
      rw [y5] at f1
      have HN3 := hide (show n2 = 2 * D.cnt b by rw [y4]; exact unhide HN2)
      obtain ⟨q, rfl, z1, z2, z3⟩ := unhide KWL wr S1 f3 b y2 y3
      rw [← unhide HN3] at z1 z2 z3
      have hly := unhide hyb b y2
      obtain ⟨t, ht⟩ : ∃ t, t = D.cnt b := ⟨_, rfl⟩
      have HT := hide ht
      have hnt : n2 = 2 * t := by rw [ht]; exact unhide HN3
      obtain ⟨pq, hpq⟩ : ∃ pq, pq = ps[D.cnt b]?.getD 0 := ⟨_, rfl⟩
      have HPQ := hide hpq
      obtain ⟨ly, hLy⟩ : ∃ ly, ly = (D.Y b).length := ⟨_, rfl⟩
      obtain ⟨kj, hkj⟩ : ∃ kj, kj = min pq.toNat ly := ⟨_, rfl⟩
      obtain ⟨hh, hc2, kk, c, r1, r2, x1, x2, x3, x4, x5, x6, x7, x8⟩ := unhide KO wr S1 b kj y2 (by rw [hkj, hLy]; exact Nat.min_le_right _ _) (by rw [hkj, hLy, hpq]) f1
      have X8 : Hid (∃ S', Rv ((wr.alloc (.cells #[.slice (some ⟨r1, 0, none⟩) D.blk r2] 31)).setCell ⟨hh, b, none⟩ (.slice (some ⟨wr.heap.size, 0, none⟩) 1 1)).drew S' g (D.crashTo ps (b + 1)) ∧ Nx S w S' ((wr.alloc (.cells #[.slice (some ⟨r1, 0, none⟩) D.blk r2] 31)).setCell ⟨hh, b, none⟩ (.slice (some ⟨wr.heap.size, 0, none⟩) 1 1)).drew ∧ Nx S w1 S' ((wr.alloc (.cells #[.slice (some ⟨r1, 0, none⟩) D.blk r2] 31)).setCell ⟨hh, b, none⟩ (.slice (some ⟨wr.heap.size, 0, none⟩) 1 1)).drew) := by
        obtain ⟨S', v1, v2⟩ := unhide x8
        exact ⟨S', v1, f2.trans v2, f3.trans v2⟩
      clear x8
      have hcnt : Hid (n2 + 2 = 2 * D.cnt (b + 1)) := by
        have e : D.cnt (b + 1) = D.cnt b + 1 := by simp [Dev.cnt, y3]
        have := unhide HN3
        show n2 + 2 = 2 * D.cnt (b + 1)
        omega
      rw [← hLy] at z2 hly x3 x4
      have hp0 : Hid (t < len → ∃ b6 o6, a = some ⟨b6, o6, none⟩ ∧ wr.cell? ⟨b6, o6 + t, none⟩ = some (.int .i64 pq)) := by
        intro htl
        obtain ⟨b6, o6, e6, c6⟩ := unhide KPk wr S1 f2 t htl
        rw [ht, ← hpq, ← ht] at c6
        exact ⟨b6, o6, e6, c6⟩
      have hp1 : Hid (¬ t < len → pq = 0) := by
        intro htl
        rw [hpq, ← ht, List.getElem?_eq_none (by rw [unhide hlps]; omega)]
        rfl
      have HKJ := hide hkj
      generalize D.blk = bb at *
      obtain ⟨n3, hn3⟩ : ∃ n3, n3 = n2 + 1 := ⟨_, rfl⟩
      have q9 : kj ≤ ly := by rw [hkj]; exact Nat.min_le_right _ _
      have hw8 : wl ≤ 8192 := by rw [unhide hWl]; exact Nat.mul_le_mul_left 2 hcn
      obtain ⟨q1, q2, q3, q4, q5, q6, q7, q8, qa, qb, HH0, hb10, q5b⟩ := crash_nums hnt hn3 z3 hw8 y2 q9
      rw [← hn3] at z2
      have HH := hide HH0
      have hb1 := hide hb10
      clear HH0 hb10
      clear KO KF KPk KWL hF f1 f2 f3 HT HPQ hkj hpq hn3 y1 y3 y4 y5 hLy hnt HN2 HN3 ht z3 hcb hb0 y2 hlps hWl hWE hyb hn2 hcn hn hlt hc hw8 hly q9
      go_upto_if 20 with fail
      go_cut [7] (fun v wx => v = .int .i64 pq ∧ wr = wx)
      case first =>
        by_cases hpt : t < len
        · obtain ⟨b6, o6, rfl, c6⟩ := unhide hp0 hpt
          have p1 : (t : Int) < (len : Int) := Int.ofNat_lt.2 hpt
          clear hp0 hp1 X8 x2 x4 x5 x7
          go_wp2_with fail
          go_meet
          exact ⟨rfl, rfl⟩
        · have p1 : ¬ (t : Int) < (len : Int) := fun h => hpt (Int.ofNat_lt.1 h)
          have p2 : pq = 0 := unhide hp1 hpt
          subst p2
          clear hp0 hp1 X8 x2 x4 x5 x7
          go_wp2_with fail
          go_meet
          exact ⟨rfl, rfl⟩
      case rest =>
        obtain ⟨rfl, rfl⟩ := hcut
        clear hp0 hp1
        obtain ⟨p2, hp2⟩ : ∃ p2 : Int, p2 = if pq < 0 then 0 else pq := ⟨_, rfl⟩
        have HP2 := hide hp2
        clear hp2
        go_upto_if 27 with fail
        go_cut [7] (fun v wx => v = .int .i64 p2 ∧ wr = wx)
        case first =>
          clear X8 x2 x4 x5 x7
          by_cases hneg : pq < 0
          · have e1 : p2 = 0 := by rw [unhide HP2, if_pos hneg]
            subst e1
            go_wp2_with fail
            go_meet
            exact ⟨rfl, rfl⟩
          · have e1 : p2 = pq := by rw [unhide HP2, if_neg hneg]
            subst e1
            go_wp2_with fail
            go_meet
            exact ⟨rfl, rfl⟩
        case rest =>
          obtain ⟨rfl, rfl⟩ := hcut
          go_upto_if 34 with fail
          go_cut [7] (fun v wx => v = .int .i64 (kj : Int) ∧ wr = wx)
          case first =>
            clear X8 x2 x4 x5 x7
            have hk2 : (kj : Int) = if (ly : Int) < p2 then (ly : Int) else p2 := by
              rw [unhide HP2]; exact clip_nums (unhide HKJ)
            have HK2 := hide hk2
            clear hk2
            by_cases hbig : (ly : Int) < p2
            · have e1 : (ly : Int) = (kj : Int) := by rw [unhide HK2, if_pos hbig]
              have e2 : ly = kj := Int.ofNat.inj e1
              subst e2
              clear e1
              go_wp2_with fail
              go_meet
              exact ⟨rfl, rfl⟩
            · have e1 : p2 = (kj : Int) := by rw [unhide HK2, if_neg hbig]
              subst e1
              go_wp2_with fail
              go_meet
              exact ⟨rfl, rfl⟩
          case rest =>
            obtain ⟨rfl, rfl⟩ := hcut
            have y1 : wr.drew.cell? ⟨g, 1, none⟩ = some (.slice (some ⟨hh, 0, none⟩) nn hc2) := x1
            have y3 : wr.drew.cell? ⟨hh, b, none⟩ = some (.slice (some ⟨kk, 0, none⟩) (ly + 1) c) := x3
            have y6 : wr.drew.cell? ⟨kk, kj, none⟩ = some (.slice (some ⟨r1, 0, none⟩) bb r2) := x6
            have z1' : wr.drew.cell? ⟨q, n2, none⟩ = some (.int .i64 (b : Int)) := z1
            have zal : ∀ o, (wr.alloc o).cell? ⟨q, n2, none⟩ = some (.int .i64 (b : Int)) := fun o => by
              have hb := (Below.refl wr.heap.size wr).alloc (Nat.le_refl _) o
              rw [hb.cell (p := ⟨q, n2, none⟩) (cell_block_lt z1)]
              exact z1
            clear HP2 HKJ
            go_upto_region 12 with fail
            clear x1 z1 z2
            go_region
            all_goals
              go_wp2_with fail
              refine ⟨⟨n2 + 2, b + 1, ?_, unhide HH, unhide hb1, hcnt, X8⟩, ?_⟩
              · first | rfl | (rw [qb]) | go_num
              · first | exact meas_two (unhide HH) | exact meas_two' (unhide HH) | (rw [qb]; exact meas_two' (unhide HH))
    · have hcb : D.cnt b0 = D.cnt nn := by
        have h1 := unhide HN2
        have h2 := unhide hWl
        have h3 := cnt_mono D hb0
        omega
      have hlast := last_block D ps _ b0 rfl hb0 hcb
      rw [hlast] at f1
      obtain ⟨x2, x3, y2, y3, y5, y6⟩ := unhide KF wr S1 _ f1
      have f2' := y5 2
      have f3' := y5 3
      have Y6 : Hid (∃ S', Rv ((wr.setCell ⟨g, 3, none⟩ (.bool false)).setCell ⟨g, 2, none⟩ (.int .i64 (-1))) S' g (D.crashTo ps nn).live ∧ Nx S w S' ((wr.setCell ⟨g, 3, none⟩ (.bool false)).setCell ⟨g, 2, none⟩ (.int .i64 (-1)))) := ⟨S1, (unhide y6).1, f2.trans (unhide y6).2⟩
      have nk : ¬ (n2 : Int) < (wl : Int) := by omega
      clear KO KF KPk KWL hF f1 f2 f3 y5 y6 hlast hcb
      go_wp2_with fail
      go_ret
      exact ⟨rfl, unhide Y6⟩

end Go.Proofs.Ytikpmchjlpobdaa
