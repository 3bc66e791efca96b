/- DeviceCrashes: the lists at the beginning, behind a flush, and behind the crash. -/
import Derived.Test.YtikpmchjlpobdaaDCrA
namespace Go.Proofs.Ytikpmchjlpobdaa
open Go.RowKit Go.Shelf
set_option linter.unusedVariables false

/-- The first k lists are laid. -/
structure CI (B : Nat) (w : World) (g gl h0 k : Nat) (u : World) (S : Nat → Prop) : Prop where
  dv : Dv u S g (Dev.new 64 4)
  row : u.rowIs gl 46 4 (fun j => if j < k then .slice (some ⟨h0 + j, 0, none⟩) 1 1 else .slice none 0 0)
  blk : ∀ j, j < k → Block u (h0 + j) [0]
  siz : u.heap.size = h0 + k
  outl : ¬ S gl
  low : ∀ q, S q → B ≤ q ∧ q < h0
  gB : B ≤ gl
  gh : gl < h0
  bel : Below B w u

theorem CI.step {B : Nat} {w : World} {g gl h0 k : Nat} {u : World} {S : Nat → Prop} (h : CI B w g gl h0 k u S) (hk : k < 4) :
    CI B w g gl h0 (k + 1) ((u.alloc (.cells #[.int .u8 0] 5)).setCell ⟨gl, k, none⟩ (.slice (some ⟨u.heap.size, 0, none⟩) 1 1)) S := by
  have hs := h.siz
  have hb : Below u.heap.size u (u.alloc (.cells #[.int .u8 0] 5)) := (Below.refl _ _).alloc (Nat.le_refl _) _
  refine ⟨?_, ((h.row.alloc _).set k _).congr (fun j hj => ?_), fun j hj => ?_, ?_, h.outl, h.low, h.gB, h.gh, ?_⟩
  · exact (h.dv.below hb).kept (fun q hq => Below.heap_setCell _ _ _ _ (fun e => h.outl (by have e2 : q = gl := e; rw [← e2]; exact hq))) (by simp [World.setCell])
  · by_cases e : j = k
    · rw [if_pos e, if_pos (by omega), e, hs]
    · rw [if_neg e]
      by_cases e2 : j < k
      · rw [if_pos e2, if_pos (by omega)]
      · rw [if_neg e2, if_neg (by omega)]
  · unfold Block
    rw [Below.heap_setCell _ _ _ _ (by have := h.gh; simp only; omega)]
    by_cases e : j < k
    · rw [Below.heap_alloc _ _ _ (by omega)]
      exact h.blk j e
    · obtain rfl : j = k := by omega
      rw [← hs, World.alloc_heap_new]
      rfl
  · simp [World.setCell]; omega
  · have hb2 := h.bel
    exact (hb2.alloc (by have := h.gB; have := h.gh; omega) _).setCell h.gB _

theorem CI.done {B : Nat} {w : World} {g gl h0 : Nat} {u : World} {S : Nat → Prop} (h : CI B w g gl h0 4 u S) : C2 B w g gl 0 u := by
  have hgB := h.gB
  have hgh := h.gh
  refine ⟨fun _ => [0], _, S, _, h.dv, ⟨rfl, rfl, rfl, rfl, fun b _ => by simp, fun b _ => by simp, fun b _ => rfl, fun b _ => rfl, fun b _ z hz => by simp at hz; omega⟩, h.row, fun j hj => ?_, fun j q hj e => ?_, fun i j q hi hj e1 e2 => ?_, h.outl, fun q hq => (h.low q hq).1, h.gB, by rw [h.siz]; omega, h.bel⟩
  · refine ⟨some ⟨h0 + j, 0, none⟩, 1, by simp [hj], ?_⟩
    exact (h.blk j hj).own rfl (by omega) (by simp)
  · simp [hj, Value.ownBlock] at e
    intro hx
    have := (h.low q hx).2
    omega
  · simp [hi, Value.ownBlock] at e1
    simp [hj, Value.ownBlock] at e2
    omega

theorem c_new (w u : World) (hb : Below w.heap.size w u) :
    Calls Try.prog 10 #[.int .i64 64, .int .i64 4] u fun e w' => ∃ g S, e = .returned (.tuple #[.pointer (some ⟨g, 0, none⟩), .int .i64 0]) ∧ Hid (CI w.heap.size w g w'.heap.size (w'.heap.size + 1) 0 (w'.alloc (.cells #[.slice none 0 0, .slice none 0 0, .slice none 0 0, .slice none 0 0] 46)) S) := by
  refine (new4 u).mono ?_
  rintro e w1 ⟨g, S, rfl, h1, h2, h3⟩
  have hs := hb.size
  have s1 : w.heap.size ≤ w1.heap.size := Nat.le_trans hs h3.size
  have hb2 := (Below.refl w1.heap.size w1).alloc (Nat.le_refl _) (.cells #[.slice none 0 0, .slice none 0 0, .slice none 0 0, .slice none 0 0] 46)
  refine ⟨g, S, rfl, h1.below hb2, ?_, fun j hj => by omega, by simp, fun hx => Nat.lt_irrefl _ (h1.lt hx), fun q hq => ⟨Nat.le_trans hs (h2 q hq), by have := h1.lt hq; omega⟩, s1, by omega, (hb.trans (h3.mono hs)).trans (hb2.mono s1)⟩
  refine (World.rowIs_alloc w1 #[.slice none 0 0, .slice none 0 0, .slice none 0 0, .slice none 0 0] 46 (fun _ => .slice none 0 0) (fun j hj => by
    have : j = 0 ∨ j = 1 ∨ j = 2 ∨ j = 3 := by simp at hj; omega
    rcases this with rfl | rfl | rfl | rfl <;> rfl)).congr (fun j hj => by rw [if_neg (by omega)])

/-- The lists, to be read. -/
structure CW (B : Nat) (w : World) (gl : Nat) (u : World) (L : Nat → List Int) (S : Nat → Prop) (V : Nat → Value) : Prop where
  row : u.rowIs gl 46 4 V
  has : ∀ j, j < 4 → ∃ a c, V j = .slice a (L j).length c ∧ (L j).length ≤ c ∧ c ≤ maxLen ∧ 0 < (L j).length ∧ Has u a (L j).length (L j) ∧ (∀ x, a = some x → x.block ≠ gl ∧ ¬ S x.block ∧ x.block < u.heap.size)
  outl : ¬ S gl
  low : ∀ q, S q → B ≤ q
  gB : B ≤ gl
  siz : B ≤ u.heap.size
  bel : Below B w u

theorem Has.same {w w' : World} {a : Option Addr} {len : Nat} {zs : List Int} (h : Has w a len zs) (hb : ∀ x, a = some x → w'.heap[x.block]? = w.heap[x.block]?) : Has w' a len zs := by
  refine ⟨h.1, fun hp => ?_⟩
  obtain ⟨b, off, e, hc⟩ := h.2 hp
  exact ⟨b, off, e, fun j hj => (World.cell?_of_block (a := ⟨b, off + j, none⟩) (hb ⟨b, off, none⟩ e)).trans (hc j hj)⟩

theorem CW.nx {B : Nat} {w : World} {gl : Nat} {u u' : World} {L : Nat → List Int} {S : Nat → Prop} {V : Nat → Value} (h : CW B w gl u L S V) {S' : Nat → Prop} (hx : Nx S u S' u') : CW B w gl u' L S' V := by
  have hgl := hx.keep h.row.lt h.outl
  refine ⟨h.row.of_block hgl.1, fun j hj => ?_, hgl.2.1, hx.base h.low h.siz, h.gB, Nat.le_trans h.siz hx.fr.size, h.bel.trans (hx.below h.low h.siz)⟩
  obtain ⟨a, c, e1, e2, e3, e4, e5, e6⟩ := h.has j hj
  refine ⟨a, c, e1, e2, e3, e4, e5.same (fun x ex => ?_), fun x ex => ?_⟩
  · exact (hx.keep (e6 x ex).2.2 (e6 x ex).2.1).1
  · have := hx.keep (e6 x ex).2.2 (e6 x ex).2.1
    exact ⟨(e6 x ex).1, this.2.1, this.2.2⟩

theorem CW.later {B : Nat} {w : World} {gl : Nat} {u u' : World} {L : Nat → List Int} {S : Nat → Prop} {V : Nat → Value} (h : CW B w gl u L S V) (hb : Below u.heap.size u u') : CW B w gl u' L S V :=
  h.nx ⟨Below.fr hb S, fun _ _ h => h⟩

theorem CS.weak {B : Nat} {w : World} {g gl k : Nat} {u : World} {L : Nat → List Int} {V : Nat → Value} {S : Nat → Prop} {D : Dev} (h : CS B w g gl k u L V S D) : CW B w gl u L S V := by
  refine ⟨h.row, fun j hj => ?_, h.outl, h.low, h.gB, h.siz, h.bel⟩
  obtain ⟨a, c, e, ho⟩ := h.own j hj
  refine ⟨a, c, e, ho.2.1, ho.2.2.1, h.dl.ne j hj, ho.has, fun x ex => ?_⟩
  have hq : (V j).ownBlock = some x.block := by rw [e, ex]; rfl
  obtain ⟨x1, x2, cur, x3⟩ := h.lt hj hq
  exact ⟨row_ne h.row x3 (by decide), h.out j _ hj hq, x1⟩

/-- The last of a list. -/
def lastOf (l : List Int) : Int := l[l.length - 1]?.getD 0

def Lf (L : Nat → List Int) (j : Nat) : List Int := [lastOf (L j)]

theorem DL.flush {D : Dev} {L : Nat → List Int} {k : Nat} (h : DL D L k) : DL D.burn.flush (Lf L) 0 := by
  have hrd : ∀ b, b < 4 → D.rd b = fl (lastOf (L b)) := by
    intro b hb
    have hn := h.ne b hb
    unfold Dev.rd lastOf
    rw [h.y b hb, h.x b hb, List.getLast?_eq_getElem?, List.getElem?_map, List.length_map, List.length_drop, List.getElem?_drop]
    by_cases e : (L b).length = 1
    · rw [e]
      have e2 : (L b)[1 + (1 - 1 - 1)]? = none := List.getElem?_eq_none (by omega)
      rw [e2]
      rfl
    · have e2 : 1 + ((L b).length - 1 - 1) = (L b).length - 1 := by omega
      rw [e2, List.getElem?_eq_getElem (by omega)]
      rfl
  refine ⟨h.blk, h.n, burn_f h.f, h.dead, fun b _ => by simp [Lf], fun b _ => by simp [Lf], fun b hb => ?_, fun b hb => ?_, fun b hb z hz => ?_⟩
  · have hb2 : b < D.burn.n := by show b < D.n; rw [h.n]; exact hb
    simp only [Dev.flush, Dev.flushTo]
    rw [if_pos hb2]
    exact hrd b hb
  · have hb2 : b < D.burn.n := by show b < D.n; rw [h.n]; exact hb
    simp only [Dev.flush, Dev.flushTo]
    rw [if_pos hb2]
    rfl
  · simp only [Lf, List.mem_singleton] at hz
    subst hz
    have hn := h.ne b hb
    unfold lastOf
    rw [List.getElem?_eq_getElem (by omega)]
    exact h.byt b hb _ (List.getElem_mem _)

theorem waitL_nil {D : Dev} (h : ∀ b, b < D.n → D.Y b = []) : D.waitL = [] := by
  unfold Dev.waitL
  suffices H : ∀ k, k ≤ D.n → D.waitTo k = [] from H _ (Nat.le_refl _)
  intro k
  induction k with
  | zero => intro _; rfl
  | succ k ih => intro hk; simp [Dev.waitTo, ih (by omega), h k (by omega)]

/-- Behind the flush: the first k lists are cut. -/
def CFl (B : Nat) (w : World) (g gl k : Nat) (u : World) : Prop := ∃ L S V D, CW B w gl u (fun j => if j < k then Lf L j else L j) S V ∧ Dv u S g D ∧ DL D (Lf L) 0 ∧ (∀ j, j < 4 → (L j).length ≤ 300)

theorem c_flush {B : Nat} {w : World} {g gl k : Nat} {u : World} (h : C2 B w g gl k u) (hk : k ≤ 200) :
    Calls Try.prog 17 #[.pointer (some ⟨g, 0, none⟩)] u fun e w' => e = .returned (.int .i64 0) ∧ Hid (Calls Try.prog 34 #[.pointer (some ⟨g, 0, none⟩)] w' fun e w2 => ∃ a c, e = .returned (.slice a 0 c) ∧ Hid (CFl B w g gl 0 w2)) := by
  obtain ⟨L, V, S, D, h⟩ := h
  refine (flush_ok g S D u h.dv (not_burnt h.dl.f h.dl.dead)).mono ?_
  rintro e w' ⟨rfl, y1, y2⟩
  have hdl := h.dl.flush
  have hY : ∀ b, b < D.burn.flush.n → D.burn.flush.Y b = [] := fun b hb => by
    have hb2 : b < D.burn.n := hb
    simp only [Dev.flush, Dev.flushTo]
    rw [if_pos hb2]
  refine ⟨rfl, (waiting_any g S _ w' y1).mono ?_⟩
  rintro e w2 ⟨a, c, rfl, _, z2⟩
  rw [waitL_nil hY]
  refine ⟨a, c, rfl, L, S, V, _, ?_, y1.below z2, hdl, fun j hj => by have := h.dl.len j hj; omega⟩
  have := (h.weak.nx y2).later z2
  refine ⟨this.row, fun j hj => ?_, this.outl, this.low, this.gB, this.siz, this.bel⟩
  simp only [if_neg (Nat.not_lt_zero j)]
  exact this.has j hj

theorem cutAt_block {a : Option Addr} {cap l : Nat} {x : Addr} (e : cutAt a cap l = some x) : ∃ y, a = some y ∧ x.block = y.block := by
  unfold cutAt at e
  by_cases hc : cap = l
  · rw [if_pos hc] at e; exact ⟨x, e, rfl⟩
  · rw [if_neg hc] at e
    cases a with
    | none => simp at e
    | some y =>
      simp at e
      subst e
      exact ⟨y, rfl, by unfold Addr.add; split <;> rfl⟩

theorem CFl.step {B : Nat} {w : World} {g gl k : Nat} {u : World} (h : CFl B w g gl k u) (hk : k < 4) :
    ∃ a l c a1 c1, l ≤ 300 ∧ u.cell? ⟨gl, k, none⟩ = some (.slice a (l + 1) c) ∧ (∀ j, u.frozen? ⟨gl, j, none⟩ = false) ∧ (∀ w, (Instr.slice 31 (.slice a (l + 1) c) (some (.int .i64 (l : Int))) none none).run Try.prog w = .ok (.slice a1 1 c1) w) ∧ Hid (CFl B w g gl (k + 1) (u.setCell ⟨gl, k, none⟩ (.slice a1 1 c1))) := by
  obtain ⟨L, S, V, D, h1, h2, h3, h4⟩ := h
  obtain ⟨a, c, e1, e2, e3, e4, e5, e6⟩ := h1.has k hk
  simp only [if_neg (Nat.lt_irrefl k)] at e1 e2 e4 e5
  obtain ⟨l, hl⟩ : ∃ l, (L k).length = l + 1 := ⟨(L k).length - 1, by omega⟩
  have hlen := h4 k hk
  refine ⟨a, l, c, cutAt a c l, c - l, by omega, by rw [h1.row.cell hk, e1, hl], fun j => h1.row.frozen j, fun w => ?_, ?_⟩
  · have := run_cut_l a (l + 1) c l (by omega) w
    rwa [Nat.add_sub_cancel_left] at this
  · have hH : Has u (cutAt a c l) 1 ((L k).drop l) := by
      have := e5.cut (cap := c) (l := l) (k := 1) e2 (by omega)
      rwa [List.take_of_length_le (by simp; omega)] at this
    have hd : (L k).drop l = [lastOf (L k)] := by
      have hx : l < (L k).length := by omega
      rw [List.drop_eq_getElem_cons hx, List.drop_of_length_le (by omega)]
      unfold lastOf
      rw [show (L k).length - 1 = l by omega, List.getElem?_eq_getElem hx]
      rfl
    rw [hd] at hH
    have hne : ∀ q, S q → q ≠ gl := fun q hq e => h1.outl (e ▸ hq)
    refine ⟨L, S, fun j => if j = k then .slice (cutAt a c l) 1 (c - l) else V j, D, ⟨h1.row.set k _, fun j hj => ?_, h1.outl, h1.low, h1.gB, by simpa [World.setCell] using h1.siz, h1.bel.setCell h1.gB _⟩, h2.kept (fun q hq => Below.heap_setCell _ _ _ _ (hne q hq)) (by simp [World.setCell]), h3, h4⟩
    by_cases e : j = k
    · subst e
      refine ⟨cutAt a c l, c - l, by simp [Lf], by simp [Lf]; omega, by omega, by simp [Lf], ?_, fun x ex => ?_⟩
      · simp only [if_pos (Nat.lt_succ_self j)]
        refine Has.same (w := u) hH (fun x ex => Below.heap_setCell _ _ _ _ ?_)
        obtain ⟨y, ey, eb⟩ := cutAt_block ex
        rw [eb]; exact (e6 y ey).1
      · obtain ⟨y, ey, eb⟩ := cutAt_block ex
        rw [eb]
        have := e6 y ey
        exact ⟨this.1, this.2.1, by simpa [World.setCell] using this.2.2⟩
    · obtain ⟨a2, c2, f1, f2, f3, f4, f5, f6⟩ := h1.has j hj
      have e7 : (if j < k + 1 then Lf L j else L j) = (if j < k then Lf L j else L j) := by
        by_cases e8 : j < k
        · rw [if_pos e8, if_pos (by omega)]
        · rw [if_neg e8, if_neg (by omega)]
      refine ⟨a2, c2, ?_, ?_, f3, ?_, ?_, fun x ex => ?_⟩
      · simp only [if_neg e, e7]; exact f1
      · simp only [e7]; exact f2
      · simp only [e7]; exact f4
      · simp only [e7]
        exact f5.same (fun x ex => Below.heap_setCell _ _ _ _ (f6 x ex).1)
      · have := f6 x ex
        exact ⟨this.1, this.2.1, by simpa [World.setCell] using this.2.2⟩

theorem CFl.drew {B : Nat} {w : World} {g gl k : Nat} {u : World} (h : CFl B w g gl k u) : CFl B w g gl k u.drew := by
  obtain ⟨L, S, V, D, h1, h2, h3, h4⟩ := h
  have hb : Below u.heap.size u u.drew := (Below.refl _ _).drew
  exact ⟨L, S, V, D, h1.later hb, h2.below hb, h3, h4⟩

/-- Ahead of the crash. -/
def C3 (B : Nat) (w : World) (g gl : Nat) (u : World) : Prop := ∃ L S V D k, k ≤ 200 ∧ CW B w gl u L S V ∧ Dv u S g D ∧ DL D L k

theorem CFl.done {B : Nat} {w : World} {g gl : Nat} {u : World} (h : CFl B w g gl 4 u) : C3 B w g gl u := by
  obtain ⟨L, S, V, D, h1, h2, h3, h4⟩ := h
  refine ⟨Lf L, S, V, D, 0, by omega, ⟨h1.row, fun j hj => ?_, h1.outl, h1.low, h1.gB, h1.siz, h1.bel⟩, h2, h3⟩
  have := h1.has j hj
  simpa only [if_pos hj] using this

theorem C2.done {B : Nat} {w : World} {g gl k : Nat} {u : World} (h : C2 B w g gl k u) (hk : k ≤ 200) : C3 B w g gl u := by
  obtain ⟨L, V, S, D, h⟩ := h
  exact ⟨L, S, V, D, k, hk, h.weak, h.dv, h.dl⟩

/-- What the law wants of block b. -/
def wantV (L : Nat → List Int) (b : Nat) (q : Int) : Int := (L b)[min q.toNat ((L b).length - 1)]?.getD 0

theorem crash_rd {D : Dev} {L : Nat → List Int} {k : Nat} (h : DL D L k) (ps : List Int) {b : Nat} (hb : b < 4) : (D.crash ps).rd b = fl (wantV L b (ps[D.cnt b]?.getD 0)) := by
  have hn : b < D.n := by rw [h.n]; exact hb
  have hne := h.ne b hb
  have e1 : (D.crash ps).rd b = D.pick b (ps[D.cnt b]?.getD 0) := by
    simp only [Dev.rd, Dev.crash, Dev.live, Dev.crashTo]
    rw [if_pos hn, if_pos hn]
    rfl
  rw [e1]
  generalize ps[D.cnt b]?.getD 0 = q
  unfold Dev.pick wantV
  rw [h.x b hb, h.y b hb]
  by_cases h0 : q ≤ 0
  · rw [if_pos h0, show q.toNat = 0 by omega, Nat.zero_min]
  · rw [if_neg h0, List.length_map, List.length_drop, List.getElem?_map, List.getElem?_drop]
    by_cases h1 : (L b).length = 1
    · rw [h1, show min q.toNat (1 - 1) - 1 = 0 by omega, show min q.toNat (1 - 1) = 0 by omega]
      have e2 : (L b)[1 + 0]? = none := List.getElem?_eq_none (by omega)
      rw [e2]
      rfl
    · rw [show 1 + (min q.toNat ((L b).length - 1) - 1) = min q.toNat ((L b).length - 1) by omega, List.getElem?_eq_getElem (by omega)]
      rfl

theorem DL.cnt {D : Dev} {L : Nat → List Int} {k : Nat} (h : DL D L k) {b : Nat} (hb : b < 4) : D.cnt (b + 1) = D.cnt b + (if (L b).length ≤ 1 then 0 else 1) := by
  simp only [Dev.cnt]
  rw [h.y b hb]
  by_cases e : (L b).length ≤ 1
  · rw [if_pos e, if_pos (by rw [List.drop_of_length_le e]; rfl)]
  · rw [if_neg e, if_neg (by
      intro hx
      have := congrArg List.length hx
      simp at this
      omega)]

theorem cnt_le (D : Dev) : ∀ b, D.cnt b ≤ b
  | 0 => Nat.le_refl _
  | b + 1 => by
    have := cnt_le D b
    simp only [Dev.cnt]
    split <;> omega

theorem c_crash {B : Nat} {w : World} {g gl : Nat} {u : World} {L : Nat → List Int} {S : Nat → Prop} {V : Nat → Value} {D : Dev} {k : Nat} (hB : B = w.heap.size) (h1 : CW B w gl u L S V) (h2 : Dv u S g D) (h3 : DL D L k) (a : Option Addr) (len cap : Nat) (ps : List Int) (hp : IHas w a len ps) (hc : len ≤ cap ∧ cap ≤ 9223372036854775807) :
    Calls Try.prog 21 #[.pointer (some ⟨g, 0, none⟩), .slice a len cap] u fun e w' => e = .returned (.int .i64 0) ∧ Hid (Calls Try.prog 34 #[.pointer (some ⟨g, 0, none⟩)] w' fun e w2 => ∃ a c, e = .returned (.slice a 0 c) ∧ Hid (CW B w gl w2 L S V) ∧ Hid (Dv w2 S g (D.crash ps))) := by
  have hbel := h1.bel
  rw [hB] at hbel
  have hout : Out S len a := fun hp0 x e hx => by
    obtain ⟨b, off, e', hcell⟩ := hp.2 hp0
    rw [e] at e'
    cases e'
    have := cell_block_lt (hcell 0 hp0)
    have h5 := h1.low _ hx
    simp only at this h5
    omega
  refine (crash_any g a len cap ps S D u h2 (hp.later hbel) hc hout).mono ?_
  rintro e w' ⟨rfl, y1, y2⟩
  have hY : ∀ b, b < (D.crash ps).n → (D.crash ps).Y b = [] := fun b hb => by
    have hb2 : b < D.n := hb
    simp only [Dev.crash, Dev.live, Dev.crashTo]
    rw [if_pos hb2]
  refine ⟨rfl, (waiting_any g S _ w' y1).mono ?_⟩
  rintro e w2 ⟨a, c, rfl, _, z2⟩
  rw [waitL_nil hY]
  exact ⟨a, c, rfl, (h1.nx y2).later z2, y1.below z2⟩

theorem c_read {B : Nat} {w : World} {g gl : Nat} {u : World} {L : Nat → List Int} {S : Nat → Prop} {V : Nat → Value} {D : Dev} {k : Nat} (h1 : CW B w gl u L S V) (ps : List Int) (h2 : Dv u S g (D.crash ps)) (h3 : DL D L k) (j : Nat) (hj : j < 4) :
    Calls Try.prog 12 #[.pointer (some ⟨g, 0, none⟩), .int .i64 j] u fun e w' => ∃ kk, e = .returned (.tuple #[.slice (some ⟨kk, 0, none⟩) 64 64, .int .i64 0]) ∧
      Hid (Calls Try.prog 36 #[.int .i64 64, .int .u8 (wantV L j (ps[D.cnt j]?.getD 0))] w' fun e w2 => ∃ k2, e = .returned (.slice (some ⟨k2, 0, none⟩) 64 64) ∧
        Hid (Calls Try.prog 14 #[.slice (some ⟨kk, 0, none⟩) 64 64, .slice (some ⟨k2, 0, none⟩) 64 64] w2 fun e w3 => e = .returned (.bool true) ∧ w2 = w3) ∧ Hid (CW B w gl w2 L S V) ∧ Hid (Dv w2 S g (D.crash ps))) := by
  refine (read64 g j S (D.crash ps) u h2 h3.blk rfl (by show j < D.n; rw [h3.n]; exact hj)).mono ?_
  rintro e w1 ⟨rfl, x1, x2⟩
  rw [crash_rd h3 ps hj] at x1
  refine ⟨_, rfl, ?_⟩
  refine (full_any _ w1).mono ?_
  rintro e w2 ⟨rfl, y1, y2⟩
  exact ⟨_, rfl, same_true _ _ 64 64 64 _ w2 ((x1.has (fl_len _)).later y2) (y1.has (fl_len _)), (h1.later x2).later y2, (h2.below x2).below y2⟩

end Go.Proofs.Ytikpmchjlpobdaa
