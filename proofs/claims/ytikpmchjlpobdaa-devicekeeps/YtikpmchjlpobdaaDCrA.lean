/- DeviceCrashes: the law's lists beside the device. -/
import Derived.Test.YtikpmchjlpobdaaDApart
import Derived.Test.YtikpmchjlpobdaaDWaiting
namespace Go.Proofs.Ytikpmchjlpobdaa
open Go.RowKit Go.Shelf
set_option linter.unusedVariables false

/-- One byte more: it is told whether a new row was made. -/
theorem own_append {B : Nat} {w : World} {a : Option Addr} {n c : Nat} {xs : List Int} (h : Own B w a n c xs) (hB : B ≤ w.heap.size) (nb : Nat) (z : Int) (hz : w.cell? ⟨nb, 0, none⟩ = some (.int .u8 z)) (hn : n ≤ 10000) :
    ∃ a' c' w', (∀ ty, (Builtin.append_ #[31, 31] ty #[.slice a n c, .slice (some ⟨nb, 0, none⟩) 1 1]).run Try.prog w = .ok (.slice a' (n + 1) c') w') ∧ Own B w' a' (n + 1) c' (xs ++ [z]) ∧
      (∀ k, k < w.heap.size → (Value.slice a n c).ownBlock ≠ some k → w'.heap[k]? = w.heap[k]?) ∧ Below B w w' ∧
      ((Value.slice a' (n + 1) c').ownBlock = (Value.slice a n c).ownBlock ∨ ∃ k, (Value.slice a' (n + 1) c').ownBlock = some k ∧ w.heap.size ≤ k) := by
  have ho := h.owns
  have ho0 : w.ownsRow 0 5 1 (.slice a n c) n (xs.map (Value.int .u8)) := by
    refine ⟨ho.1, ?_⟩
    rcases ho.2 with h2 | ⟨g, cap, cur, e, _, r⟩
    · exact .inl h2
    · exact .inr ⟨g, cap, cur, e, Nat.zero_le _, r⟩
  obtain ⟨v', w', hr, ho', hg, hcase⟩ := run_append_vals 31 5 (.int .u8 0) 1 Try.underlying31 info5 rfl ho0 ⟨nb, 0, none⟩ 1 1 [.int .u8 z] rfl (by omega) (by
    intro j x hj
    cases j with
    | zero => simp at hj; subst hj; simpa [Addr.add] using hz
    | succ j => simp at hj) (by intro x hx; simp at hx; subst hx; rfl) (by unfold maxLen; omega) (by omega)
  have hBv : ∀ k, (Value.slice a n c).ownBlock = some k → B ≤ k := fun k e => (ho.lt k e).1
  have hBv' : ∀ k, v'.ownBlock = some k → B ≤ k := by
    intro k e
    rcases hcase with ⟨e1, _⟩ | ⟨k', e1, e2, _⟩
    · rw [e1] at e; exact hBv k e
    · rw [e1] at e; cases e; omega
  have ho2 : w'.ownsRow B 5 1 v' (n + 1) ((xs ++ [z]).map (Value.int .u8)) := by
    rw [List.map_append]
    refine ⟨ho'.1, ?_⟩
    rcases ho'.2 with h2 | ⟨g, cap, cur, e, _, r⟩
    · exact .inl h2
    · exact .inr ⟨g, cap, cur, e, hBv' g (by rw [e]; rfl), r⟩
  obtain ⟨a', c', rfl, hO⟩ := Own.of_owns ho2
  refine ⟨a', c', w', hr, hO, fun k hk hne => hg.block k hk (fun e => hne e.symm), (Below.refl B w).grown hg hB hBv, ?_⟩
  rcases hcase with ⟨e1, _⟩ | ⟨k', e1, e2, _⟩
  · exact .inl e1
  · exact .inr ⟨k', e1, e2⟩

/-- A device that has what the lists say: the first has arrived, the others wait. -/
structure DL (D : Dev) (L : Nat → List Int) (k : Nat) : Prop where
  blk : D.blk = 64
  n : D.n = 4
  f : D.f = -1
  dead : D.dead = false
  ne : ∀ b, b < 4 → 0 < (L b).length
  len : ∀ b, b < 4 → (L b).length ≤ k + 1
  x : ∀ b, b < 4 → D.X b = fl ((L b)[0]?.getD 0)
  y : ∀ b, b < 4 → D.Y b = ((L b).drop 1).map fl
  byt : ∀ b, b < 4 → ∀ z ∈ L b, 0 ≤ z ∧ z ≤ 255

theorem DL.add {D : Dev} {L : Nat → List Int} {k : Nat} (h : DL D L k) {i : Nat} (hi : i < 4) {x : Int} (h0 : 0 ≤ x) (h1 : x ≤ 255) : DL (D.burn.add i (fl x)) (fun j => if j = i then L i ++ [x] else L j) (k + 1) := by
  refine ⟨h.blk, h.n, burn_f h.f, h.dead, fun b hb => ?_, fun b hb => ?_, fun b hb => ?_, fun b hb => ?_, fun b hb z hz => ?_⟩
  · by_cases e : b = i
    · simp [e]
    · simp only [if_neg e]; exact h.ne b hb
  · have := h.len b hb
    by_cases e : b = i
    · subst e; simp; omega
    · simp only [if_neg e]; omega
  · have := h.x b hb
    by_cases e : b = i
    · subst e
      simp only [if_true, Dev.add, Dev.burn]
      rw [List.getElem?_append_left (h.ne b hb)]
      exact this
    · simp only [if_neg e, Dev.add, Dev.burn]; exact this
  · have := h.y b hb
    by_cases e : b = i
    · subst e
      have hn := h.ne b hb
      simp only [if_true, Dev.add, Dev.burn]
      rw [this, List.drop_append_of_le_length (by omega), List.map_append]
      rfl
    · simp only [if_neg e, Dev.add, Dev.burn]; exact this
  · by_cases e : b = i
    · simp only [if_pos e] at hz
      rcases List.mem_append.1 hz with hz | hz
      · exact h.byt i hi z hz
      · simp at hz; omega
    · simp only [if_neg e] at hz; exact h.byt b hb z hz

/-- The device, the lists, and all else. -/
structure CS (B : Nat) (w : World) (g gl k : Nat) (u : World) (L : Nat → List Int) (V : Nat → Value) (S : Nat → Prop) (D : Dev) : Prop where
  dv : Dv u S g D
  dl : DL D L k
  row : u.rowIs gl 46 4 V
  own : ∀ j, j < 4 → ∃ a c, V j = .slice a (L j).length c ∧ Own B u a (L j).length c (L j)
  out : ∀ j q, j < 4 → (V j).ownBlock = some q → ¬ S q
  dis : ∀ i j q, i < 4 → j < 4 → (V i).ownBlock = some q → (V j).ownBlock = some q → i = j
  outl : ¬ S gl
  low : ∀ j, S j → B ≤ j
  gB : B ≤ gl
  siz : B ≤ u.heap.size
  bel : Below B w u

def C2 (B : Nat) (w : World) (g gl k : Nat) (u : World) : Prop := ∃ L V S D, CS B w g gl k u L V S D

theorem CS.later {B : Nat} {w : World} {g gl k : Nat} {u u' : World} {L : Nat → List Int} {V : Nat → Value} {S : Nat → Prop} {D : Dev} (h : CS B w g gl k u L V S D) (hb : Below u.heap.size u u') : CS B w g gl k u' L V S D :=
  ⟨h.dv.below hb, h.dl, h.row.of_block (hb.block _ h.row.lt), fun j hj => by
    obtain ⟨a, c, e, ho⟩ := h.own j hj
    exact ⟨a, c, e, ho.below hb (Nat.le_refl _)⟩, h.out, h.dis, h.outl, h.low, h.gB, Nat.le_trans h.siz hb.size, h.bel.trans (hb.mono h.siz)⟩

theorem CS.lt {B : Nat} {w : World} {g gl k : Nat} {u : World} {L : Nat → List Int} {V : Nat → Value} {S : Nat → Prop} {D : Dev} (h : CS B w g gl k u L V S D) {j q : Nat} (hj : j < 4) (e : (V j).ownBlock = some q) : q < u.heap.size ∧ B ≤ q ∧ ∃ cur, u.heap[q]? = some (.cells cur 5 (0, 0)) := by
  obtain ⟨a, c, e1, ho⟩ := h.own j hj
  rw [e1] at e
  have ho2 := ho.owns
  rcases ho2.2 with ⟨e2, _⟩ | ⟨g', cap, cur, e2, hb, hh, _⟩
  · rw [e2] at e; simp [Value.ownBlock] at e
  · rw [e2] at e
    simp [Value.ownBlock] at e
    subst e
    exact ⟨(Array.getElem?_eq_some_iff.1 hh).1, hb, cur, hh⟩

/-- Behind the Write, and ahead of the append. -/
theorem CS.append {B : Nat} {w : World} {g gl k : Nat} {u : World} {L : Nat → List Int} {V : Nat → Value} {S : Nat → Prop} {D : Dev} (h : CS B w g gl k u L V S D) {S' : Nat → Prop} {w' : World} {i : Nat} (hi : i < 4) {x : Int} (h0 : 0 ≤ x) (h1 : x ≤ 255) (hk : k < 200)
    (y1 : Dv w' S' g (D.burn.add i (fl x))) (y2 : Nx S u S' w') :
    ∃ a l c a' c' w2, w'.cell? ⟨gl, i, none⟩ = some (.slice a l c) ∧ (∀ o, (w'.alloc o).cell? ⟨gl, i, none⟩ = some (.slice a l c)) ∧ (∀ j, w'.frozen? ⟨gl, j, none⟩ = false) ∧
      (∀ ty, (Builtin.append_ #[31, 31] ty #[.slice a l c, .slice (some ⟨w'.heap.size, 0, none⟩) 1 1]).run Try.prog (w'.alloc (.cells #[.int .u8 x] 5)).drew = .ok (.slice a' (l + 1) c') w2) ∧
      w2.cell? ⟨gl, i, none⟩ = some (.slice a l c) ∧ w2.frozen? ⟨gl, i, none⟩ = false ∧ Hid (C2 B w g gl (k + 1) (w2.setCell ⟨gl, i, none⟩ (.slice a' (l + 1) c'))) := by
  have hgl := y2.keep h.row.lt h.outl
  have hrow := h.row.of_block hgl.1
  have hlow' := y2.base h.low h.siz
  have hsiz' : B ≤ w'.heap.size := Nat.le_trans h.siz y2.fr.size
  have hbel' : Below B w w' := h.bel.trans (y2.below h.low h.siz)
  have hown' : ∀ j, j < 4 → ∃ a c, V j = .slice a (L j).length c ∧ Own B w' a (L j).length c (L j) := by
    intro j hj
    obtain ⟨a, c, e, ho⟩ := h.own j hj
    refine ⟨a, c, e, ho.kept (fun q eq => ?_)⟩
    have hq : (V j).ownBlock = some q := by rw [e, eq]; rfl
    exact (y2.keep (h.lt hj hq).1 (h.out j q hj hq)).1
  have hout' : ∀ j q, j < 4 → (V j).ownBlock = some q → ¬ S' q := fun j q hj hq => (y2.keep (h.lt hj hq).1 (h.out j q hj hq)).2.1
  have hlt' : ∀ j q, j < 4 → (V j).ownBlock = some q → q < w'.heap.size := fun j q hj hq => (y2.keep (h.lt hj hq).1 (h.out j q hj hq)).2.2
  have hty : ∀ j q, j < 4 → (V j).ownBlock = some q → ∃ cur, w'.heap[q]? = some (.cells cur 5 (0, 0)) := fun j q hj hq => by
    obtain ⟨x1, _, cur, x2⟩ := h.lt hj hq
    exact ⟨cur, ((y2.keep x1 (h.out j q hj hq)).1).trans x2⟩
  obtain ⟨a, c, eV, ho⟩ := hown' i hi
  have hb1 : Below w'.heap.size w' (w'.alloc (.cells #[.int .u8 x] 5)).drew := ((Below.refl _ w').alloc (Nat.le_refl _) _).drew
  have hz : (w'.alloc (.cells #[.int .u8 x] 5)).drew.cell? ⟨w'.heap.size, 0, none⟩ = some (.int .u8 x) :=
    (World.rowIs_alloc w' #[.int .u8 x] 5 (fun _ => .int .u8 x) (fun j hj => by simp at hj; subst hj; rfl)).cell (i := 0) (by simp)
  have hll := h.dl.len i hi
  obtain ⟨a', c', w2, hr, hO2, hsame, hB2, hcase⟩ := own_append (ho.below hb1 (Nat.le_refl _)) (Nat.le_trans hsiz' hb1.size) w'.heap.size x hz (by omega)
  have hrow1 : (w'.alloc (.cells #[.int .u8 x] 5)).drew.rowIs gl 46 4 V := hrow.of_block (hb1.block _ hrow.lt)
  have hs1 := hb1.size
  have eVi : (Value.slice a (L i).length c).ownBlock = (V i).ownBlock := by rw [eV]
  -- what the append leaves
  have keep2 : ∀ q, q < w'.heap.size → (V i).ownBlock ≠ some q → w2.heap[q]? = w'.heap[q]? := fun q hq hne => by
    rw [hsame q (Nat.lt_of_lt_of_le hq hs1) (by rw [eVi]; exact hne)]
    exact hb1.block q hq
  have hgl2 : w2.heap[gl]? = w'.heap[gl]? := keep2 gl hrow.lt (fun e => by
    obtain ⟨cur, hh⟩ := hty i gl hi e
    exact row_ne hrow hh (by decide) rfl)
  have hrow2 := hrow.of_block hgl2
  have hS2 : ∀ q, S' q → w2.heap[q]? = w'.heap[q]? := fun q hq => keep2 q (y1.lt hq) (fun e => hout' i q hi e hq)
  have hsz2 : w'.heap.size ≤ w2.heap.size := Nat.le_trans hs1 hB2.size
  refine ⟨a, (L i).length, c, a', c', w2, by rw [hrow.cell hi, eV], fun o => by rw [(hrow.alloc o).cell hi, eV], fun j => hrow.frozen j, hr, by rw [hrow2.cell hi, eV], hrow2.frozen i, ?_⟩
  have hne : ∀ q, S' q → q ≠ gl := fun q hq e => hgl.2.1 (e ▸ hq)
  have hnew : ∀ q, (Value.slice a' ((L i).length + 1) c').ownBlock = some q → (V i).ownBlock = some q ∨ w'.heap.size ≤ q := by
    intro q e
    rcases hcase with e1 | ⟨k1, e1, e2⟩
    · rw [e1, eVi] at e; exact .inl e
    · rw [e1] at e; cases e; exact .inr (by omega)
  have set5 : ∀ (q : Nat) (cur : Array Value), w2.heap[q]? = some (Obj.cells cur 5 (0, 0)) → (w2.setCell ⟨gl, i, none⟩ (.slice a' ((L i).length + 1) c')).heap[q]? = w2.heap[q]? := fun q cur hh => Below.heap_setCell _ _ _ _ (row_ne hrow2 hh (by decide))
  refine ⟨fun j => if j = i then L i ++ [x] else L j, fun j => if j = i then .slice a' ((L i).length + 1) c' else V j, S', D.burn.add i (fl x), ?_, h.dl.add hi h0 h1, ?_, fun j hj => ?_, fun j q hj e => ?_, fun j1 j2 q hj1 hj2 e1 e2 => ?_, hgl.2.1, hlow', h.gB, ?_, ?_⟩
  · exact y1.kept (fun q hq => (Below.heap_setCell _ _ _ _ (hne q hq)).trans (hS2 q hq)) (by simpa [World.setCell] using hsz2)
  · exact hrow2.set i _
  · by_cases e : j = i
    · subst e
      refine ⟨a', c', by simp, ?_⟩
      simp only [if_true, List.length_append, List.length_cons, List.length_nil]
      refine hO2.kept (fun q eq => ?_)
      obtain ⟨_, _, cur, hh⟩ := hO2.lt eq
      exact set5 q cur hh
    · obtain ⟨a3, c3, e3, ho3⟩ := hown' j hj
      refine ⟨a3, c3, by simp only [if_neg e]; exact e3, ?_⟩
      simp only [if_neg e]
      refine ho3.kept (fun q eq => ?_)
      have hq : (V j).ownBlock = some q := by rw [e3, eq]; rfl
      have k2 := keep2 q (hlt' j q hj hq) (fun e2 => e (h.dis j i q hj hi hq e2))
      obtain ⟨cur, hh⟩ := hty j q hj hq
      exact (set5 q cur (k2.trans hh)).trans k2
  · by_cases e5 : j = i
    · simp only [if_pos e5] at e
      rcases hnew q e with e | e
      · exact hout' i q hi e
      · intro hx; have := y1.lt hx; omega
    · simp only [if_neg e5] at e
      exact hout' j q hj e
  · by_cases f1 : j1 = i
    · by_cases f2 : j2 = i
      · omega
      · simp only [if_pos f1] at e1
        simp only [if_neg f2] at e2
        rcases hnew q e1 with e | e
        · exact absurd (h.dis j2 i q hj2 hi e2 e) f2
        · have := hlt' j2 q hj2 e2; omega
    · by_cases f2 : j2 = i
      · simp only [if_neg f1] at e1
        simp only [if_pos f2] at e2
        rcases hnew q e2 with e | e
        · exact absurd (h.dis j1 i q hj1 hi e1 e) f1
        · have := hlt' j1 q hj1 e1; omega
      · simp only [if_neg f1] at e1
        simp only [if_neg f2] at e2
        exact h.dis j1 j2 q hj1 hj2 e1 e2
  · simpa [World.setCell] using Nat.le_trans hsiz' hsz2
  · exact ((hbel'.trans (hb1.mono hsiz')).trans hB2).setCell h.gB _

theorem c_write {B : Nat} {w : World} {g gl k : Nat} {u : World} (h : C2 B w g gl k u) (i : Nat) (hi : i < 4) (x : Int) (h0 : 0 ≤ x) (h1 : x ≤ 255) (hk : k < 200) :
    Calls Try.prog 36 #[.int .i64 64, .int .u8 x] u fun e w' => ∃ kk, e = .returned (.slice (some ⟨kk, 0, none⟩) 64 64) ∧ Hid (Calls Try.prog 15 #[.pointer (some ⟨g, 0, none⟩), .int .i64 i, .slice (some ⟨kk, 0, none⟩) 64 64] w' fun e w' => e = .returned (.int .i64 0) ∧ Hid (Below B w w') ∧
      ∃ a l c a' c' w2, w'.cell? ⟨gl, i, none⟩ = some (.slice a l c) ∧ (∀ o, (w'.alloc o).cell? ⟨gl, i, none⟩ = some (.slice a l c)) ∧ (∀ j, w'.frozen? ⟨gl, j, none⟩ = false) ∧
      (∀ ty, (Builtin.append_ #[31, 31] ty #[.slice a l c, .slice (some ⟨w'.heap.size, 0, none⟩) 1 1]).run Try.prog (w'.alloc (.cells #[.int .u8 x] 5)).drew = .ok (.slice a' (l + 1) c') w2) ∧
      w2.cell? ⟨gl, i, none⟩ = some (.slice a l c) ∧ w2.frozen? ⟨gl, i, none⟩ = false ∧ Hid (C2 B w g gl (k + 1) (w2.setCell ⟨gl, i, none⟩ (.slice a' (l + 1) c')))) := by
  obtain ⟨L, V, S, D, h⟩ := h
  refine (full_any x u).mono ?_
  rintro e u1 ⟨rfl, x1, x2⟩
  refine ⟨_, rfl, ?_⟩
  have h' := h.later x2
  have hs : ¬ S u.heap.size := fun hx => Nat.lt_irrefl _ (h.dv.lt hx)
  refine (write64 g i u.heap.size x S D u1 h'.dv h.dl.blk (by rw [h.dl.n]; exact hi) (not_burnt h.dl.f h.dl.dead) x1 h0 h1 hs (by have := h.dl.len i hi; rw [h.dl.y i hi]; simp; omega)).mono ?_
  rintro e w' ⟨rfl, S', y1, y2⟩
  exact ⟨rfl, h'.bel.trans (y2.below h'.low h'.siz), h'.append hi h0 h1 hk y1 y2⟩

end Go.Proofs.Ytikpmchjlpobdaa
