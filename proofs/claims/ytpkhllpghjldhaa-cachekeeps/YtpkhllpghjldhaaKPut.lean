/- The contracts of Put. -/
import Derived.Test.YtpkhllpghjldhaaKGet2
namespace Go.Proofs.Ytpkhllpghjldhaa
open Go.RowKit Go.Shelf Go.Maps
set_option linter.unusedVariables false

theorem put_nil (b : Int) (x : Value) (w : World) : Calls Try.prog 10 #[.pointer none, .int .i64 b, x] w fun e w' => e = .returned (.int .i64 1) ∧ w = w' := by
  go_enter Try.func10, Try.ntmps10
  go_wp2_with (go_at_call 31; refine (refusesData_nil b x w).mono ?_; rintro e w' ⟨rfl, rfl⟩)
  go_ret
  exact ⟨rfl, rfl⟩

theorem clean_nil (b : Int) (x : Value) (w : World) : Calls Try.prog 24 #[.pointer none, .int .i64 b, x] w fun e w' => e = .returned (.int .i64 1) ∧ w = w' := by
  go_enter Try.func24, Try.ntmps24
  go_wp2_with (go_at_call 31; refine (refusesData_nil b x w).mono ?_; rintro e w' ⟨rfl, rfl⟩)
  go_ret
  exact ⟨rfl, rfl⟩

theorem put_bad (g dg : Nat) (b : Int) (a : Option Addr) (len cap : Nat) (S : Nat → Prop) (C : Cac) (D : Dev) (w : World) (h : Kv w S g dg C D) (he : refE D b len ≠ 0) :
    Calls Try.prog 10 #[.pointer (some ⟨g, 0, none⟩), .int .i64 b, .slice a len cap] w fun e w' => e = .returned (.int .i64 (refE D b len)) ∧ w = w' := by
  obtain ⟨Sc, Sd, m, km⟩ := h.open
  have K := hide (refusesData_cc g dg b a len cap Sc Sd C D m w km.cc km.dd)
  have d1 : (refE D b len != 0) = true := by simpa using he
  clear h km he
  generalize refE D b len = e1 at *
  go_enter Try.func10, Try.ntmps10
  go_wp2_with (go_at_call 31; refine (unhide K).mono ?_; rintro e w' ⟨rfl, rfl⟩; clear K)
  go_ret
  exact ⟨rfl, rfl⟩

theorem set_set (C : Cac) (b : Nat) (l l' : Ln) : (C.set b l).set b l' = C.set b l' := by
  unfold Cac.set
  congr 1
  funext j
  by_cases e : j = b <;> simp [e]

/-- A row that was made since, as a line's. -/
theorem Own.rowAt {B : Nat} {w : World} {a : Option Addr} {n c : Nat} {zs : List Int} (h : Own B w a n c zs) (hp : 0 < n) (hz : ∀ z ∈ zs, 0 ≤ z ∧ z ≤ 255) {S : Nat → Prop} (hS : ∀ k, B ≤ k → k < w.heap.size → S k) : ∃ k, a = some ⟨k, 0, none⟩ ∧ RowAt w S n (k, c) zs ∧ B ≤ k ∧ k < w.heap.size := by
  obtain ⟨h1, h2, h3, h4⟩ := h
  rcases h4 with ⟨_, h4, _⟩ | ⟨k, cur, rfl, hB, hh, hs, ht⟩
  · omega
  · have hl : k < w.heap.size := (Array.getElem?_eq_some_iff.1 hh).1
    exact ⟨k, rfl, ⟨⟨h1, cur, hh, ht⟩, hS k hB hl, h2, h3, hz⟩, hB, hl⟩

/-- Behind Clone: the two stores into a line that was there. -/
theorem KvM.relay {w w1 : World} {S Sc Sd : Nat → Prop} {g dg : Nat} {C : Cac} {D : Dev} {m : KMem} (h : KvM w S Sc Sd g dg C D m) {b : Nat} {l : Ln} (hb : b < D.n) (e : C.L b = some l) {a : Option Addr} {c : Nat} {zs : List Int} (ho : Own w.heap.size w1 a D.blk c zs) (hb1 : Below w.heap.size w w1) (hz : ∀ z ∈ zs, 0 ≤ z ∧ z ≤ 255) :
    (∃ v, w1.cell? ⟨m.q b, 0, none⟩ = some v) ∧ (∀ k, w1.frozen? ⟨m.q b, k, none⟩ = false) ∧ w1.cell? ⟨m.q b, 1, none⟩ = some (.bool l.d) ∧
      ∃ S2, Kv ((w1.setCell ⟨m.q b, 0, none⟩ (.slice a D.blk c)).setCell ⟨m.q b, 1, none⟩ (.bool true)) S2 g dg (C.set b ⟨zs, true, l.p⟩) D ∧ Nx S w S2 ((w1.setCell ⟨m.q b, 0, none⟩ (.slice a D.blk c)).setCell ⟨m.q b, 1, none⟩ (.bool true)) := by
  have h1 : CcM w1 (exS Sc w w1) g dg D.n D.blk C m := h.cc.kept (fun k hk => hb1.block k (h.cc.lt k hk)) (fun k hk => .inl hk) (fun k hk => by
    rcases hk with hk | hk
    · exact Nat.lt_of_lt_of_le (h.cc.lt k hk) hb1.size
    · exact hk.2)
  obtain ⟨k, rfl, hr, _⟩ := ho.rowAt (by have := h.dd.ok.b1; omega) hz (S := exS Sc w w1) (fun k h1 h2 => .inr ⟨h1, h2⟩)
  obtain ⟨x0, x1, _, x3⟩ := h1.line hb e
  have s1 := h1.setL (l' := ⟨zs, l.d, l.p⟩) (r' := (k, c)) hb e 0 (.slice (some ⟨k, 0, none⟩) D.blk c) (fun i hi => by
    have : i = 0 ∨ i = 1 ∨ i = 2 := by omega
    rcases this with rfl | rfl | rfl <;> simp [lcell]) hr
  have e1 : (C.set b ⟨zs, l.d, l.p⟩).L b = some ⟨zs, l.d, l.p⟩ := by simp [Cac.set]
  have s2 := s1.setL (l' := ⟨zs, true, l.p⟩) (r' := (k, c)) hb e1 1 (.bool true) (fun i hi => by
    have : i = 0 ∨ i = 1 ∨ i = 2 := by omega
    rcases this with rfl | rfl | rfl <;> simp [lcell]) (by have := s1.row b _ hb e1; simpa using this)
  rw [set_set] at s2
  have hs : exS Sc w w1 (m.q b) := .inl (h.cc.sl b l hb e)
  have hx : Nx Sc w (exS Sc w w1) ((w1.setCell ⟨m.q b, 0, none⟩ (.slice (some ⟨k, 0, none⟩) D.blk c)).setCell ⟨m.q b, 1, none⟩ (.bool true)) := ((Nx.grow hb1).trans (Nx.set (p := ⟨m.q b, 0, none⟩) hs _)).trans (Nx.set (p := ⟨m.q b, 1, none⟩) hs _)
  obtain ⟨y1, y2, y3, y4⟩ := Kv.own h.cc.lt h.dd h.dis h.all s2 hx
  exact ⟨⟨_, x0⟩, x3, x1, _, y3, y4⟩

set_option maxHeartbeats 1000000 in
theorem put_held (g dg b : Nat) (l : Ln) (x : Addr) (cap : Nat) (zs : List Int) (S : Nat → Prop) (C : Cac) (D : Dev) (w : World) (h : Kv w S g dg C D) (hb : b < D.n) (hl : C.L b = some l) (hr : Has w (some x) D.blk zs) (hz : ∀ z ∈ zs, 0 ≤ z ∧ z ≤ 255) :
    Calls Try.prog 10 #[.pointer (some ⟨g, 0, none⟩), .int .i64 b, .slice (some x) D.blk cap] w fun e w' => e = .returned (.int .i64 0) ∧ ∃ S', Kv w' S' g dg (C.set b ⟨zs, true, l.p⟩) D ∧ Nx S w S' w' := by
  obtain ⟨Sc, Sd, m, km⟩ := h.open
  have K := refusesData_cc g dg b (some x) D.blk cap Sc Sd C D m w km.cc km.dd
  rw [refE_ok hb] at K
  replace K := hide K
  obtain ⟨_, _, _, c3, _⟩ := km.cc.cells
  have hlk := km.cc.map.look km.dd.ok.n2 hb (km.cc.M_some hl)
  have hb2 := km.dd.ok.b2
  have KC : Hid (Calls Try.prog 33 #[.slice (some x) D.blk cap] w fun e w1 => ∃ a c, e = .returned (.slice a D.blk c) ∧ (∃ v, w1.cell? ⟨m.q b, 0, none⟩ = some v) ∧ (∀ k, w1.frozen? ⟨m.q b, k, none⟩ = false) ∧ w1.cell? ⟨m.q b, 1, none⟩ = some (.bool l.d) ∧
      Hid (∃ S2, Kv ((w1.setCell ⟨m.q b, 0, none⟩ (.slice a D.blk c)).setCell ⟨m.q b, 1, none⟩ (.bool true)) S2 g dg (C.set b ⟨zs, true, l.p⟩) D ∧ Nx S w S2 ((w1.setCell ⟨m.q b, 0, none⟩ (.slice a D.blk c)).setCell ⟨m.q b, 1, none⟩ (.bool true)))) := by
    refine (bclone_any x D.blk cap zs w hr (by omega)).mono ?_
    rintro e w1 ⟨a, c, rfl, o1, b1⟩
    exact ⟨a, c, rfl, km.relay hb hl o1 b1 hz⟩
  clear h km hb hl hr hz hb2
  generalize m.q b = q at *
  generalize m.mb = mb at *
  generalize D.blk = bb at *
  go_enter Try.func10, Try.ntmps10
  go_wp2_with fail
  go_at_call 31
  refine (unhide K).mono ?_
  rintro e w' ⟨rfl, rfl⟩
  clear K
  go_wp2_with fail
  go_at_call 33
  refine (unhide KC).mono ?_
  rintro e w1 ⟨a, c, rfl, ⟨v, x0⟩, x1, x2, X⟩
  clear KC
  go_wp2_with fail
  go_ret
  exact ⟨rfl, unhide X⟩

/-- A further line, laid in steps. -/
theorem CcM.more {u u' : World} {S S' : Nat → Prop} {g dg n blk : Nat} {C : Cac} {m : KMem} (h : CcM u S g dg n blk C m) {b q : Nat} {r : Nat × Nat} {l : Ln} (hk : ∀ k, S k → k ≠ m.mb → u'.heap[k]? = u.heap[k]?) (hM : MapIs u' m.mb n (fun j => if j = b then some q else C.M m j))
    (hq : u.heap.size ≤ q) (hl : u'.rowIs q 70 3 (lcell blk r l)) (hr : RowAt u' S' blk r l.z) (hS : ∀ k, S k → S' k) (hS' : ∀ k, S' k → k < u'.heap.size) (hsq : S' q) :
    CcM u' S' g dg n blk (C.set b l) { m with q := fun k => if k = b then q else m.q k, A := fun k => if k = b then r else m.A k } := by
  have old : ∀ b2 l2, b2 < n → C.L b2 = some l2 → m.q b2 < u.heap.size := fun b2 l2 h2 e2 => h.lt _ (h.sl b2 l2 h2 e2)
  have kr : ∀ {k t n' : Nat} {f : Nat → Value}, u.rowIs k t n' f → S k → u'.rowIs k t n' f := fun hh hs => hh.of_block (hk _ hs (fun e => map_ne h.map hh e.symm))
  have kc : ∀ k c t, S k → u.heap[k]? = some (Obj.cells c t (0, 0)) → u'.heap[k]? = u.heap[k]? := fun k c t hs hh => hk k hs (map_ne2 h.map hh)
  refine ⟨(kr h.str h.sg).congr (fun i hi => rfl), hM.congr (fun k hk => ?_), fun b2 l2 hb2 e2 => ?_, fun b2 l2 hb2 e2 => ?_, fun b1 b2 l1 l2 x1 x2 e1 e2 eq => ?_, hS _ h.sg, hS _ h.sm, fun b2 l2 hb2 e2 => ?_, ihas_kept h.pic (fun x ex => ?_), h.pcp, fun x ex => ?_, hS', h.cp⟩
  · unfold Cac.M Cac.set
    by_cases e : k = b <;> simp [e]
  · by_cases eb : b2 = b
    · simp [Cac.set, eb] at e2
      subst e2
      simp only [eb, if_true]
      exact hl
    · simp only [if_neg eb]
      have e2' : C.L b2 = some l2 := by simpa [Cac.set, eb] using e2
      exact kr (h.lin b2 l2 hb2 e2') (h.sl b2 l2 hb2 e2')
  · by_cases eb : b2 = b
    · simp [Cac.set, eb] at e2
      subst e2
      simp only [eb, if_true]
      exact hr
    · simp only [if_neg eb]
      have e2' : C.L b2 = some l2 := by simpa [Cac.set, eb] using e2
      exact (h.row b2 l2 hb2 e2').kept (fun k c hs hh => kc k c 5 hs hh) hS
  · by_cases f1 : b1 = b
    · by_cases f2 : b2 = b
      · omega
      · simp only [f1, if_true, if_neg f2] at eq
        have := old b2 l2 x2 (by simpa [Cac.set, f2] using e2)
        omega
    · by_cases f2 : b2 = b
      · simp only [f2, if_true, if_neg f1] at eq
        have := old b1 l1 x1 (by simpa [Cac.set, f1] using e1)
        omega
      · simp only [if_neg f1, if_neg f2] at eq
        exact h.one b1 b2 l1 l2 x1 x2 (by simpa [Cac.set, f1] using e1) (by simpa [Cac.set, f2] using e2) eq
  · by_cases eb : b2 = b
    · simp only [eb, if_true]; exact hsq
    · simp only [if_neg eb]
      exact hS _ (h.sl b2 l2 hb2 (by simpa [Cac.set, eb] using e2))
  · obtain ⟨hs, cur, hx⟩ := h.pbl x ex
    exact kc _ _ _ hs hx
  · obtain ⟨hs, cur, hx⟩ := h.pbl x ex
    exact ⟨hS _ hs, cur, (kc _ _ _ hs hx).trans hx⟩

/-- new(line). -/
abbrev rawL : Obj := .cells #[.slice none 0 0, .bool false, .int .i64 0] 70

/-- A new line: the map is told, the bytes are cloned, two stores. -/
theorem KvM.lays {w : World} {S Sc Sd : Nat → Prop} {g dg : Nat} {C : Cac} {D : Dev} {m : KMem} (h : KvM w S Sc Sd g dg C D m) {b : Nat} (hb : b < D.n) {x : Addr} {cap : Nat} {zs : List Int} (hr : Has w (some x) D.blk zs) (hbx : x.block ≠ m.mb) (hz : ∀ z ∈ zs, 0 ≤ z ∧ z ≤ 255) :
    (w.alloc rawL).cell? ⟨g, 3, none⟩ = some (.map (some m.mb)) ∧ ∃ w2, (Instr.mapUpdate 64 (.map (some m.mb)) (.int .i64 (b : Int)) (.pointer (some ⟨w.heap.size, 0, none⟩))).run Try.prog (w.alloc rawL) = .ok () w2 ∧
      Hid (Calls Try.prog 33 #[.slice (some x) D.blk cap] w2 fun e w3 => ∃ a c, e = .returned (.slice a D.blk c) ∧ w3.cell? ⟨w.heap.size, 0, none⟩ = some (.slice none 0 0) ∧ (∀ k, w3.frozen? ⟨w.heap.size, k, none⟩ = false) ∧ w3.cell? ⟨w.heap.size, 1, none⟩ = some (.bool false) ∧
        Hid (∃ S4, Kv ((w3.setCell ⟨w.heap.size, 0, none⟩ (.slice a D.blk c)).setCell ⟨w.heap.size, 1, none⟩ (.bool true)) S4 g dg (C.set b ⟨zs, true, 0⟩) D ∧ Nx S w S4 ((w3.setCell ⟨w.heap.size, 0, none⟩ (.slice a D.blk c)).setCell ⟨w.heap.size, 1, none⟩ (.bool true)))) := by
  have b1 : Below w.heap.size w (w.alloc rawL) := (Below.refl _ w).alloc (Nat.le_refl _) _
  have h1 : CcM (w.alloc rawL) Sc g dg D.n D.blk C m := h.cc.kept (fun k hk => b1.block k (h.cc.lt k hk)) (fun _ h => h) (fun k hk => Nat.lt_of_lt_of_le (h.cc.lt k hk) b1.size)
  obtain ⟨_, _, _, c3, _⟩ := h1.cells
  obtain ⟨w2, r2, M2, g2, z2⟩ := h1.map.put w.heap.size h.dd.ok.n2 hb
  have hmb := h.cc.lt _ h.cc.sm
  have k2 : ∀ k, k < w.heap.size → k ≠ m.mb → w2.heap[k]? = w.heap[k]? := fun k hk hne => (g2.block k (Nat.lt_of_lt_of_le hk b1.size) (fun e => hne (by simpa using e))).trans (b1.block k hk)
  have hq2 : w2.rowIs w.heap.size 70 3 (fun i => if i = 0 then .slice none 0 0 else if i = 1 then .bool false else .int .i64 0) := by
    have := World.rowIs_alloc w #[.slice none 0 0, .bool false, .int .i64 0] 70 (fun i => if i = 0 then .slice none 0 0 else if i = 1 then .bool false else .int .i64 0) (fun i hi => by
      have : i = 0 ∨ i = 1 ∨ i = 2 := by simp at hi; omega
      rcases this with rfl | rfl | rfl <;> rfl)
    exact this.of_block (g2.block _ (by simp) (fun e => by simp at e; omega))
  have s2 : w.heap.size < w2.heap.size := hq2.lt
  have hx2 : Has w2 (some x) D.blk zs := by
    refine ⟨hr.1, fun hp => ?_⟩
    obtain ⟨bb, off, e, hc⟩ := hr.2 hp
    refine ⟨bb, off, e, fun j hj => ?_⟩
    have hlt := cell_block_lt (hc j hj)
    cases e
    rw [← hc j hj]
    simp only [World.cell?]
    rw [k2 bb hlt hbx]
  have hb2 := h.dd.ok.b2
  refine ⟨c3, w2, r2, (bclone_any x D.blk cap zs w2 hx2 (by omega)).mono ?_⟩
  rintro e w3 ⟨a, c, rfl, o3, b3⟩
  have hq3 := hq2.of_block (b3.block _ s2)
  refine ⟨a, c, rfl, hq3.cell (i := 0) (by omega), fun k => hq3.frozen k, hq3.cell (i := 1) (by omega), ?_⟩
  have S4lt : ∀ k, (Sc k ∨ (w.heap.size ≤ k ∧ k < w3.heap.size)) → k < w3.heap.size := fun k hk => by
    rcases hk with hk | hk
    · have := h.cc.lt k hk
      have := b3.size
      omega
    · exact hk.2
  obtain ⟨kk, rfl, hrow, hk1, hk2⟩ := o3.rowAt (by have := h.dd.ok.b1; omega) hz (S := fun k => Sc k ∨ (w.heap.size ≤ k ∧ k < w3.heap.size)) (fun k h1 h2 => .inr ⟨by omega, h2⟩)
  have hq5 := (hq3.set 0 (.slice (some ⟨kk, 0, none⟩) D.blk c)).set 1 (.bool true)
  have ne5 : ∀ k, k ≠ w.heap.size → ((w3.setCell ⟨w.heap.size, 0, none⟩ (.slice (some ⟨kk, 0, none⟩) D.blk c)).setCell ⟨w.heap.size, 1, none⟩ (.bool true)).heap[k]? = w3.heap[k]? := fun k hk => (Below.heap_setCell _ _ _ _ hk).trans (Below.heap_setCell _ _ _ _ hk)
  have z5 : ((w3.setCell ⟨w.heap.size, 0, none⟩ (.slice (some ⟨kk, 0, none⟩) D.blk c)).setCell ⟨w.heap.size, 1, none⟩ (.bool true)).heap.size = w3.heap.size := by simp [World.setCell]
  have m5 := CcM.more (u' := (w3.setCell ⟨w.heap.size, 0, none⟩ (.slice (some ⟨kk, 0, none⟩) D.blk c)).setCell ⟨w.heap.size, 1, none⟩ (.bool true)) (S' := fun k => Sc k ∨ (w.heap.size ≤ k ∧ k < w3.heap.size)) h.cc (b := b) (q := w.heap.size) (r := (kk, c)) (l := ⟨zs, true, 0⟩)
    (fun k hk hne => by
      have hlt := h.cc.lt k hk
      exact ((ne5 k (by omega)).trans (b3.block k (by omega))).trans (k2 k hlt hne))
    (M2.kept ((ne5 _ (by omega)).trans (b3.block _ (by omega)))) (Nat.le_refl _)
    (hq5.congr (fun i hi => by
      have : i = 0 ∨ i = 1 ∨ i = 2 := by omega
      rcases this with rfl | rfl | rfl <;> simp [lcell]))
    (hrow.kept (fun k c' _ hh => ne5 k (fun e => by
      subst e
      obtain ⟨c9, hc9, _⟩ := hq3
      rw [hc9] at hh
      simp at hh)) (fun _ h => h))
    (fun k hk => .inl hk) (fun k hk => by rw [z5]; exact S4lt k hk) (.inr ⟨Nat.le_refl _, by omega⟩)
  have x5 : Nx Sc w (fun k => Sc k ∨ (w.heap.size ≤ k ∧ k < w3.heap.size)) ((w3.setCell ⟨w.heap.size, 0, none⟩ (.slice (some ⟨kk, 0, none⟩) D.blk c)).setCell ⟨w.heap.size, 1, none⟩ (.bool true)) := by
    refine ⟨⟨b3.os.trans (g2.os.trans b1.os), b3.tape.trans (g2.tape.trans b1.tape), b3.output.trans (g2.output.trans b1.output), by rw [z5]; omega, fun k hk hn => ?_⟩, fun k hk hs => ?_⟩
    · exact ((ne5 k (by omega)).trans (b3.block k (by omega))).trans (k2 k hk (fun e => hn (e ▸ h.cc.sm)))
    · rcases hs with hs | hs
      · exact hs
      · omega
  obtain ⟨y1, y2, y3, y4⟩ := Kv.own h.cc.lt h.dd h.dis h.all m5 x5
  exact ⟨_, y3, y4⟩

theorem put_full (g dg b : Nat) (x : Addr) (cap : Nat) (S : Nat → Prop) (C : Cac) (D : Dev) (w : World) (h : Kv w S g dg C D) (hb : b < D.n) (hl : C.L b = none) (he : C.rmE D ≠ 0) :
    Calls Try.prog 10 #[.pointer (some ⟨g, 0, none⟩), .int .i64 b, .slice (some x) D.blk cap] w fun e w' => e = .returned (.int .i64 (C.rmE D)) ∧ ∃ S', Kv w' S' g dg (C.rmC D) (C.rmD D) ∧ Nx S w S' w' := by
  obtain ⟨Sc, Sd, m, km⟩ := h.open
  have K := refusesData_cc g dg b (some x) D.blk cap Sc Sd C D m w km.cc km.dd
  rw [refE_ok hb] at K
  replace K := hide K
  obtain ⟨_, _, _, c3, _⟩ := km.cc.cells
  have hlk := km.cc.map.look_no km.dd.ok.n2 hb (by simp [Cac.M, hl])
  have KM := hide (room_any g dg S C D w h)
  have d1 : (C.rmE D != 0) = true := by simpa using he
  clear h km hb hl he
  generalize m.mb = mb at *
  generalize D.blk = bb at *
  generalize C.rmC D = C1 at *
  generalize C.rmD D = D1 at *
  generalize C.rmE D = e1 at *
  go_enter Try.func10, Try.ntmps10
  go_wp2_with fail
  go_at_call 31
  refine (unhide K).mono ?_
  rintro e w' ⟨rfl, rfl⟩
  clear K
  go_wp2_with fail
  go_at_call 32
  refine (unhide KM).mono ?_
  rintro e w1 ⟨rfl, X⟩
  have X1 := hide X
  clear KM X
  go_wp2_with fail
  go_ret
  exact ⟨rfl, unhide X1⟩

set_option maxHeartbeats 1000000 in
theorem put_new (g dg b : Nat) (x : Addr) (cap : Nat) (zs : List Int) (S : Nat → Prop) (C : Cac) (D : Dev) (w : World) (h : Kv w S g dg C D) (hb : b < D.n) (hl : C.L b = none) (he : C.rmE D = 0) (hr : Row w.heap.size w (some x) D.blk cap zs) (ho : Out S D.blk (some x)) :
    Calls Try.prog 10 #[.pointer (some ⟨g, 0, none⟩), .int .i64 b, .slice (some x) D.blk cap] w fun e w' => e = .returned (.int .i64 0) ∧ ∃ S', Kv w' S' g dg ((C.rmC D).set b ⟨zs, true, 0⟩) (C.rmD D) ∧ Nx S w S' w' := by
  obtain ⟨Sc, Sd, m, km⟩ := h.open
  have K := refusesData_cc g dg b (some x) D.blk cap Sc Sd C D m w km.cc km.dd
  rw [refE_ok hb] at K
  replace K := hide K
  obtain ⟨_, _, _, c3, _⟩ := km.cc.cells
  have hlk := km.cc.map.look_no km.dd.ok.n2 hb (by simp [Cac.M, hl])
  have KM := room_any g dg S C D w h
  rw [he] at KM
  replace KM := hide KM
  have hb1 := km.dd.ok.b1
  have hn := rmD_n C D
  have KL : Hid (∀ w1 S1, Kv w1 S1 g dg (C.rmC D) (C.rmD D) → Nx S w S1 w1 → ∃ mb w2, (w1.alloc rawL).cell? ⟨g, 3, none⟩ = some (.map (some mb)) ∧
      Hid ((Instr.mapUpdate 64 (.map (some mb)) (.int .i64 (b : Int)) (.pointer (some ⟨w1.heap.size, 0, none⟩))).run Try.prog (w1.alloc rawL) = .ok () w2) ∧
      Hid (Calls Try.prog 33 #[.slice (some x) D.blk cap] w2 fun e w3 => ∃ a c, e = .returned (.slice a D.blk c) ∧ w3.cell? ⟨w1.heap.size, 0, none⟩ = some (.slice none 0 0) ∧ (∀ k, w3.frozen? ⟨w1.heap.size, k, none⟩ = false) ∧ w3.cell? ⟨w1.heap.size, 1, none⟩ = some (.bool false) ∧
        Hid (∃ S4, Kv ((w3.setCell ⟨w1.heap.size, 0, none⟩ (.slice a D.blk c)).setCell ⟨w1.heap.size, 1, none⟩ (.bool true)) S4 g dg ((C.rmC D).set b ⟨zs, true, 0⟩) (C.rmD D) ∧ Nx S w S4 ((w3.setCell ⟨w1.heap.size, 0, none⟩ (.slice a D.blk c)).setCell ⟨w1.heap.size, 1, none⟩ (.bool true))))) := by
    intro w1 S1 k1 x1
    obtain ⟨Sc1, Sd1, m1, km1⟩ := k1.open
    have hr1 := hr.nx x1 ho
    have hx1 : ¬ S1 x.block := by
      obtain ⟨bb, off, e, hlt, _⟩ := hr.2.2.2.2 (by omega)
      cases e
      exact (x1.keep hlt (ho (by omega) _ rfl)).2.1
    have hq := km1.lays (b := b) (x := x) (cap := cap) (zs := zs) (by rw [hn.1]; exact hb) (by rw [hn.2]; exact hr1.has) (fun e => hx1 (by rw [e]; exact (km1.all _).2 (.inl km1.cc.sm))) hr.2.2.2.1
    rw [hn.2] at hq
    obtain ⟨q1, w2, q2, q3⟩ := hq
    refine ⟨m1.mb, w2, q1, q2, (unhide q3).mono ?_⟩
    rintro e w3 ⟨a, c, rfl, p1, p2, p3, S4, p4, p5⟩
    exact ⟨a, c, rfl, p1, p2, p3, S4, p4, x1.trans p5⟩
  clear h km hb hl he hr ho hb1 hn
  generalize m.mb = mb at *
  generalize D.blk = bb at *
  generalize C.rmC D = C1 at *
  generalize C.rmD D = D1 at *
  go_enter Try.func10, Try.ntmps10
  go_wp2_with fail
  go_at_call 31
  refine (unhide K).mono ?_
  rintro e w' ⟨rfl, rfl⟩
  clear K
  go_wp2_with fail
  go_at_call 32
  refine (unhide KM).mono ?_
  rintro e w1 ⟨rfl, S1, k1, x1⟩
  obtain ⟨mb1, w2, y1, Y2, Y3⟩ := unhide KL w1 S1 k1 x1
  clear KM KL k1 x1 c3 hlk
  go_wp2_with (at_mapUpdate; refine wpList_mapUpdate_run 64 rfl _ _ _ rfl _ _ _ rfl rfl rfl (unhide Y2) ?_; clear Y2 y1)
  go_at_call 33
  refine (unhide Y3).mono ?_
  rintro e w3 ⟨a, c, rfl, x0, x1, x2, X⟩
  clear Y3
  go_wp2_with fail
  go_ret
  exact ⟨rfl, unhide X⟩

/-- What Put answers, and leaves. -/
def Cac.ptE (C : Cac) (D : Dev) (b : Nat) : Int := match C.L b with | some _ => 0 | none => C.rmE D

def Cac.ptC (C : Cac) (D : Dev) (b : Nat) (zs : List Int) : Cac := match C.L b with | some l => C.set b ⟨zs, true, l.p⟩ | none => if C.rmE D = 0 then (C.rmC D).set b ⟨zs, true, 0⟩ else C.rmC D

def Cac.ptD (C : Cac) (D : Dev) (b : Nat) : Dev := match C.L b with | some _ => D | none => C.rmD D

theorem put_any (g dg b : Nat) (x : Addr) (cap : Nat) (zs : List Int) (S : Nat → Prop) (C : Cac) (D : Dev) (w : World) (h : Kv w S g dg C D) (hb : b < D.n) (hr : Row w.heap.size w (some x) D.blk cap zs) (ho : Out S D.blk (some x)) :
    Calls Try.prog 10 #[.pointer (some ⟨g, 0, none⟩), .int .i64 b, .slice (some x) D.blk cap] w fun e w' => e = .returned (.int .i64 (C.ptE D b)) ∧ ∃ S', Kv w' S' g dg (C.ptC D b zs) (C.ptD D b) ∧ Nx S w S' w' := by
  unfold Cac.ptE Cac.ptC Cac.ptD
  cases hl : C.L b with
  | some l =>
    simp only
    exact put_held g dg b l x cap zs S C D w h hb hl hr.has hr.2.2.2.1
  | none =>
    simp only
    by_cases he : C.rmE D = 0
    · rw [if_pos he, he]
      exact put_new g dg b x cap zs S C D w h hb hl he hr ho
    · rw [if_neg he]
      exact put_full g dg b x cap S C D w h hb hl he

end Go.Proofs.Ytpkhllpghjldhaa
