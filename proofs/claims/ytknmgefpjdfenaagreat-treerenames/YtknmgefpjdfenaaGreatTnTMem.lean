/- A tree in memory: its own block, the row of things, the things, their maps and their bytes. A thing is named by its block. -/
import Derived.Test.YtknmgefpjdfenaaGreatTnTRow
import Derived.Deep.OwnRows
namespace Go.Proofs.YtknmgefpjdfenaaGreat
open Go.RowKit Go.Shelf Go.Maps
set_option linter.unusedVariables false
set_option maxRecDepth 100000

/-- A world that has grown, but for the blocks S. -/
structure Kp (S : Nat → Prop) (w w' : World) : Prop where
  os : w'.os = w.os
  tape : w'.tape = w.tape
  output : w'.output = w.output
  size : w.heap.size ≤ w'.heap.size
  block : ∀ k, k < w.heap.size → ¬ S k → w'.heap[k]? = w.heap[k]?

theorem Kp.of {S : Nat → Prop} {w w' : World} (h : Below w.heap.size w w') : Kp S w w' := ⟨h.os, h.tape, h.output, h.size, fun k hk _ => h.block k hk⟩

theorem Kp.trans {S S' : Nat → Prop} {a b c : World} (h : Kp S a b) (k : Kp S' b c) (hs : ∀ k, S' k → S k ∨ a.heap.size ≤ k) : Kp S a c :=
  ⟨k.os.trans h.os, k.tape.trans h.tape, k.output.trans h.output, Nat.le_trans h.size k.size, fun i hi hn => (k.block i (Nat.lt_of_lt_of_le hi h.size) (fun e => (hs i e).elim hn (fun q => by omega))).trans (h.block i hi hn)⟩

theorem Kp.below {S : Nat → Prop} {a b : World} (h : Kp S a b) {n : Nat} (hn : n ≤ a.heap.size) (hs : ∀ k, S k → n ≤ k) : Below n a b :=
  ⟨h.os, h.tape, h.output, h.size, fun k hk => h.block k (by omega) (fun e => by have := hs k e; omega)⟩

theorem Kp.setCell {S : Nat → Prop} {a b : World} (h : Kp S a b) {p : Addr} (hp : S p.block ∨ a.heap.size ≤ p.block) (v : Value) : Kp S a (b.setCell p v) :=
  ⟨h.os, h.tape, h.output, by simpa [World.setCell] using h.size, fun k hk hn => (Below.heap_setCell _ _ _ _ (fun e => by subst e; rcases hp with hp | hp; exact hn hp; omega)).trans (h.block k hk hn)⟩

theorem Kp.grown {S : Nat → Prop} {a b c : World} (h : Kp S a b) {m : Nat} (hg : b.grownBy c (some m)) (hm : S m ∨ a.heap.size ≤ m) : Kp S a c :=
  ⟨hg.os.trans h.os, hg.tape.trans h.tape, hg.output.trans h.output, Nat.le_trans h.size hg.size, fun k hk hn => (hg.block k (Nat.lt_of_lt_of_le hk h.size) (fun e => by cases e; rcases hm with hm | hm; exact hn hm; omega)).trans (h.block k hk hn)⟩

/-- A thing: kind, number, links, bytes and where they lie, the block of its map, its names. -/
structure Th where
  k : Int
  n : Nat
  l : Int
  d : List Int
  da : Option Addr
  dc : Nat
  mp : Nat
  ns : NS

def hcell (t : Th) (j : Nat) : Value :=
  if j = 0 then .int .i64 t.k else if j = 1 then .int .i64 t.n else if j = 2 then .int .i64 t.l else if j = 3 then .slice t.da t.d.length t.dc else if t.k = 2 then .map (some t.mp) else .map none

/-- A tree. -/
structure Tr where
  most : Int
  row : List (Option Nat)
  ra : Option Addr
  rc : Nat
  least : Nat
  opn : Nat → Option Nat
  T : Nat → Option Th

def tcell (s : Tr) (j : Nat) : Value :=
  if j = 0 then .int .i64 s.most else if j = 1 then .slice s.ra s.row.length s.rc else if j = 2 then .int .i64 s.least else ptrO (s.opn (j - 3))

structure TM (u : World) (S : Nat → Prop) (g : Nat) (s : Tr) : Prop where
  str : u.rowIs g 66 19 (tcell s)
  row : OwnP 0 u s.ra s.row.length s.rc s.row
  thg : ∀ b t, s.T b = some t → u.rowIs b 69 5 (hcell t)
  map : ∀ b t, s.T b = some t → t.k = 2 → MapS u t.mp t.ns
  dat : ∀ b t, s.T b = some t → Own 0 u t.da t.d.length t.dc t.d
  mp1 : ∀ b b' t t', s.T b = some t → s.T b' = some t' → t.k = 2 → t'.k = 2 → t.mp = t'.mp → b = b'
  da1 : ∀ b b' t t' x, s.T b = some t → s.T b' = some t' → t.da = some ⟨x, 0, none⟩ → t'.da = some ⟨x, 0, none⟩ → b = b'
  sg : S g
  sr : ∀ x, s.ra = some ⟨x, 0, none⟩ → S x
  sb : ∀ b t, s.T b = some t → S b
  sm : ∀ b t, s.T b = some t → t.k = 2 → S t.mp
  sd : ∀ b t x, s.T b = some t → t.da = some ⟨x, 0, none⟩ → S x
  lt : ∀ k, S k → k < u.heap.size

theorem TM.kept {u u' : World} {S S' : Nat → Prop} {g : Nat} {s : Tr} (h : TM u S g s) (hk : ∀ k, S k → u'.heap[k]? = u.heap[k]?) (hS : ∀ k, S k → S' k) (hl : ∀ k, S' k → k < u'.heap.size) : TM u' S' g s :=
  ⟨h.str.of_block (hk _ h.sg), h.row.kept (fun x e => hk _ (h.sr x e)), fun b t e => (h.thg b t e).of_block (hk _ (h.sb b t e)), fun b t e hd => (h.map b t e hd).kept (hk _ (h.sm b t e hd)), fun b t e => (h.dat b t e).kept (fun x ex => hk _ (h.sd b t x e ex)), h.mp1, h.da1,
   hS _ h.sg, fun x e => hS _ (h.sr x e), fun b t e => hS _ (h.sb b t e), fun b t e hd => hS _ (h.sm b t e hd), fun b t x e ex => hS _ (h.sd b t x e ex), hl⟩

theorem TM.below {u u' : World} {S : Nat → Prop} {g : Nat} {s : Tr} (h : TM u S g s) (hb : Below u.heap.size u u') : TM u' S g s :=
  h.kept (fun k hk => hb.block k (h.lt k hk)) (fun _ hk => hk) (fun k hk => Nat.lt_of_lt_of_le (h.lt k hk) hb.size)

/-- What has come since is counted among the tree's blocks. -/
def Up (S : Nat → Prop) (n m : Nat) (k : Nat) : Prop := S k ∨ (n ≤ k ∧ k < m)

theorem TM.tree_cells {u : World} {S : Nat → Prop} {g : Nat} {s : Tr} (h : TM u S g s) :
    u.cell? ⟨g, 0, none⟩ = some (.int .i64 s.most) ∧ u.cell? ⟨g, 1, none⟩ = some (.slice s.ra s.row.length s.rc) ∧ u.cell? ⟨g, 2, none⟩ = some (.int .i64 s.least) ∧ (∀ k, u.frozen? ⟨g, k, none⟩ = false) :=
  ⟨h.str.cell (i := 0) (by omega), h.str.cell (i := 1) (by omega), h.str.cell (i := 2) (by omega), fun k => h.str.frozen k⟩

theorem TM.open_cell {u : World} {S : Nat → Prop} {g : Nat} {s : Tr} (h : TM u S g s) {f : Nat} (hf : f < 16) : u.cell? ⟨g, 3 + f, none⟩ = some (ptrO (s.opn f)) := by
  have := h.str.cell (i := 3 + f) (by omega)
  rw [this]
  unfold tcell
  rw [if_neg (by omega), if_neg (by omega), if_neg (by omega)]
  congr 3
  omega

theorem TM.thing_cells {u : World} {S : Nat → Prop} {g : Nat} {s : Tr} (h : TM u S g s) {b : Nat} {t : Th} (e : s.T b = some t) :
    u.cell? ⟨b, 0, none⟩ = some (.int .i64 t.k) ∧ u.cell? ⟨b, 1, none⟩ = some (.int .i64 t.n) ∧ u.cell? ⟨b, 2, none⟩ = some (.int .i64 t.l) ∧ u.cell? ⟨b, 3, none⟩ = some (.slice t.da t.d.length t.dc) ∧
      u.cell? ⟨b, 4, none⟩ = some (if t.k = 2 then .map (some t.mp) else .map none) ∧ (∀ k, u.frozen? ⟨b, k, none⟩ = false) :=
  ⟨(h.thg b t e).cell (i := 0) (by omega), (h.thg b t e).cell (i := 1) (by omega), (h.thg b t e).cell (i := 2) (by omega), (h.thg b t e).cell (i := 3) (by omega), (h.thg b t e).cell (i := 4) (by omega), fun k => (h.thg b t e).frozen k⟩

theorem TM.dir_map {u : World} {S : Nat → Prop} {g : Nat} {s : Tr} (h : TM u S g s) {b : Nat} {t : Th} (e : s.T b = some t) (hd : t.k = 2) : u.cell? ⟨b, 4, none⟩ = some (.map (some t.mp)) := by
  have := (h.thing_cells e).2.2.2.2.1
  rwa [if_pos hd] at this

theorem row_neT {u : World} {b b' t t' n : Nat} {f : Nat → Value} {c : Array Value} (h : u.rowIs b t n f) (h' : u.heap[b']? = some (.cells c t' (0, 0))) (ht : t ≠ t') : b' ≠ b := by
  intro e
  subst e
  obtain ⟨c', hb, _⟩ := h
  rw [hb] at h'
  cases h'
  exact ht rfl

theorem rows_neT {u : World} {b b' t t' n n' : Nat} {f f' : Nat → Value} (h : u.rowIs b t n f) (h' : u.rowIs b' t' n' f') (ht : t ≠ t') : b' ≠ b := by
  obtain ⟨c, hb, _⟩ := h'
  exact row_neT h hb ht

theorem map_neT {u : World} {b t n m : Nat} {f : Nat → Value} {ns : NS} (h : u.rowIs b t n f) (h' : MapS u m ns) : m ≠ b := by
  intro e
  subst e
  obtain ⟨c', hb, _⟩ := h
  exact h'.ne hb rfl

theorem cells_ty {a c : Array Value} {t t' : TypeId} {q q' : Nat × Nat} (h : some (Obj.cells a t q) = some (Obj.cells c t' q')) : t = t' := by
  injection h with h
  injection h

/-- A store into the tree's own block. -/
theorem TM.setT {u : World} {S : Nat → Prop} {g : Nat} {s s' : Tr} (h : TM u S g s) (j : Nat) (v : Value) (hc : ∀ i, i < 19 → tcell s' i = if i = j then v else tcell s i) (hT : s'.T = s.T)
    (hr : OwnP 0 (u.setCell ⟨g, j, none⟩ v) s'.ra s'.row.length s'.rc s'.row) (hs : ∀ x, s'.ra = some ⟨x, 0, none⟩ → S x) : TM (u.setCell ⟨g, j, none⟩ v) S g s' := by
  have ko : ∀ k, k ≠ g → (u.setCell ⟨g, j, none⟩ v).heap[k]? = u.heap[k]? := fun k hk => Below.heap_setCell _ _ _ _ hk
  refine ⟨(h.str.set j v).congr (fun i hi => (hc i hi).symm), hr, ?_, ?_, ?_, ?_, ?_, h.sg, hs, ?_, ?_, ?_, fun k hk => by simpa [World.setCell] using h.lt k hk⟩
  · rw [hT]; exact fun b t e => (h.thg b t e).of_block (ko b (rows_neT h.str (h.thg b t e) (by decide)))
  · rw [hT]; exact fun b t e hd => (h.map b t e hd).kept (ko _ (map_neT h.str (h.map b t e hd)))
  · rw [hT]; exact fun b t e => (h.dat b t e).kept (fun x ex => by obtain ⟨_, _, cur, hcu⟩ := (h.dat b t e).lt ex; exact ko x (row_neT h.str hcu (by decide)))
  · rw [hT]; exact h.mp1
  · rw [hT]; exact h.da1
  · rw [hT]; exact h.sb
  · rw [hT]; exact h.sm
  · rw [hT]; exact h.sd

/-- A store into the row of things. -/
theorem TM.setR {u : World} {S : Nat → Prop} {g : Nat} {s : Tr} (h : TM u S g s) {r : Nat} (hr : s.ra = some ⟨r, 0, none⟩) (j : Nat) (o : Option Nat) : TM (u.setCell ⟨r, j, none⟩ (ptrO o)) S g { s with row := s.row.set j o } := by
  have hrow := h.row
  rw [hr] at hrow
  obtain ⟨_, _, cr, hcr⟩ := hrow.lt rfl
  have ko : ∀ k, k ≠ r → (u.setCell ⟨r, j, none⟩ (ptrO o)).heap[k]? = u.heap[k]? := fun k hk => Below.heap_setCell _ _ _ _ hk
  refine ⟨(h.str.of_block (ko g (fun e => (row_neT h.str hcr (by decide)) e.symm))).congr (fun i hi => ?_), ?_, ?_, ?_, ?_, h.mp1, h.da1, h.sg, h.sr, h.sb, h.sm, h.sd, fun k hk => by simpa [World.setCell] using h.lt k hk⟩
  · unfold tcell; simp
  · have := hrow.set j o
    simp only [List.length_set]
    rw [hr]
    exact this
  · exact fun b t e => (h.thg b t e).of_block (ko b (fun e' => (row_neT (h.thg b t e) hcr (by decide)) e'.symm))
  · exact fun b t e hd => (h.map b t e hd).kept (ko _ (fun e' => (h.map b t e hd).ne hcr e'.symm))
  · exact fun b t e => (h.dat b t e).kept (fun x ex => ko x (fun e' => by
      obtain ⟨_, _, cur, hcu⟩ := (h.dat b t e).lt ex
      rw [e', hcr] at hcu
      exact absurd (cells_ty hcu) (by decide)))

def Tr.upd (s : Tr) (b : Nat) (t : Th) : Tr := { s with T := fun k => if k = b then some t else s.T k }

theorem Tr.upd_T {s : Tr} {b : Nat} {t : Th} (k : Nat) : (s.upd b t).T k = if k = b then some t else s.T k := rfl

/-- A store into a thing: of links, or of its number. -/
theorem TM.setH {u : World} {S : Nat → Prop} {g : Nat} {s : Tr} (h : TM u S g s) {b : Nat} {t : Th} (e : s.T b = some t) (l' : Int) : TM (u.setCell ⟨b, 2, none⟩ (.int .i64 l')) S g (s.upd b { t with l := l' }) := by
  have ht := h.thg b t e
  have ko : ∀ k, k ≠ b → (u.setCell ⟨b, 2, none⟩ (.int .i64 l')).heap[k]? = u.heap[k]? := fun k hk => Below.heap_setCell _ _ _ _ hk
  have kd : ∀ b' t', s.T b' = some t' → Own 0 (u.setCell ⟨b, 2, none⟩ (.int .i64 l')) t'.da t'.d.length t'.dc t'.d := fun b' t' e' => (h.dat b' t' e').kept (fun x ex => by obtain ⟨_, _, cur, hcu⟩ := (h.dat b' t' e').lt ex; exact ko x (row_neT ht hcu (by decide)))
  have km : ∀ b' t', s.T b' = some t' → t'.k = 2 → MapS (u.setCell ⟨b, 2, none⟩ (.int .i64 l')) t'.mp t'.ns := fun b' t' e' hd => (h.map b' t' e' hd).kept (ko _ (map_neT ht (h.map b' t' e' hd)))
  have old : ∀ b' t', (s.upd b { t with l := l' }).T b' = some t' → ∃ t0, s.T b' = some t0 ∧ t'.k = t0.k ∧ t'.d = t0.d ∧ t'.da = t0.da ∧ t'.dc = t0.dc ∧ t'.mp = t0.mp ∧ t'.ns = t0.ns := fun b' t' e' => by
    rw [Tr.upd_T] at e'
    by_cases hb : b' = b
    · rw [if_pos hb] at e'
      cases e'
      exact ⟨t, by rw [hb]; exact e, rfl, rfl, rfl, rfl, rfl, rfl⟩
    · rw [if_neg hb] at e'
      exact ⟨t', e', rfl, rfl, rfl, rfl, rfl, rfl⟩
  refine ⟨(h.str.of_block (ko g (fun e' => (rows_neT ht h.str (by decide)) e'))).congr (fun i hi => rfl), ?_, ?_, ?_, ?_, ?_, ?_, h.sg, h.sr, ?_, ?_, ?_, fun k hk => by simpa [World.setCell] using h.lt k hk⟩
  · exact h.row.kept (fun x ex => by obtain ⟨_, _, cur, hcu⟩ := h.row.lt ex; exact ko x (row_neT ht hcu (by decide)))
  · intro b' t' e'
    rw [Tr.upd_T] at e'
    by_cases hb : b' = b
    · subst hb
      rw [if_pos rfl] at e'
      cases e'
      refine (ht.set 2 _).congr (fun i hi => ?_)
      unfold hcell
      match i, hi with
      | 0, _ => rfl
      | 1, _ => rfl
      | 2, _ => rfl
      | 3, _ => rfl
      | 4, _ => rfl
    · rw [if_neg hb] at e'
      exact (h.thg b' t' e').of_block (ko b' hb)
  · intro b' t' e' hd
    obtain ⟨t0, h0, h1, h2, h3, h4, h5, h6⟩ := old b' t' e'
    rw [h5, h6]
    exact km b' t0 h0 (by rw [← h1]; exact hd)
  · intro b' t' e'
    obtain ⟨t0, h0, h1, h2, h3, h4, h5, h6⟩ := old b' t' e'
    rw [h2, h3, h4]
    exact kd b' t0 h0
  · intro b1 b2 t1 t2 e1 e2 d1 d2 hm
    obtain ⟨x, h0, h1, _, _, _, h5, _⟩ := old b1 t1 e1
    obtain ⟨y, g0, g1, _, _, _, g5, _⟩ := old b2 t2 e2
    exact h.mp1 b1 b2 x y h0 g0 (by rw [← h1]; exact d1) (by rw [← g1]; exact d2) (by rw [← h5, ← g5]; exact hm)
  · intro b1 b2 t1 t2 z e1 e2 d1 d2
    obtain ⟨x, h0, _, _, h3, _⟩ := old b1 t1 e1
    obtain ⟨y, g0, _, _, g3, _⟩ := old b2 t2 e2
    exact h.da1 b1 b2 x y z h0 g0 (by rw [← h3]; exact d1) (by rw [← g3]; exact d2)
  · intro b' t' e'
    obtain ⟨t0, h0, _⟩ := old b' t' e'
    exact h.sb b' t0 h0
  · intro b' t' e' hd
    obtain ⟨t0, h0, h1, h2, h3, h4, h5, h6⟩ := old b' t' e'
    rw [h5]
    exact h.sm b' t0 h0 (by rw [← h1]; exact hd)
  · intro b' t' z e' hz
    obtain ⟨t0, h0, h1, h2, h3, h4, h5, h6⟩ := old b' t' e'
    exact h.sd b' t0 z h0 (by rw [← h3]; exact hz)

/-- A directory's map has turned. -/
theorem TM.setM {u u' : World} {S : Nat → Prop} {g : Nat} {s : Tr} (h : TM u S g s) {b : Nat} {t : Th} (e : s.T b = some t) (hd : t.k = 2) {ns' : NS} (hm : MapS u' t.mp ns') (hg : u.grownBy u' (some t.mp)) (hz : u'.heap.size = u.heap.size) : TM u' S g (s.upd b { t with ns := ns' }) := by
  have hmm := h.map b t e hd
  have ko : ∀ k, S k → k ≠ t.mp → u'.heap[k]? = u.heap[k]? := fun k hk hne => hg.block k (h.lt k hk) (fun e' => hne (by cases e'; rfl))
  have kd : ∀ b' t', s.T b' = some t' → Own 0 u' t'.da t'.d.length t'.dc t'.d := fun b' t' e' => (h.dat b' t' e').kept (fun x ex => by obtain ⟨_, _, cur, hcu⟩ := (h.dat b' t' e').lt ex; exact ko x (h.sd b' t' x e' ex) (hmm.ne hcu))
  have old : ∀ b' t', (s.upd b { t with ns := ns' }).T b' = some t' → ∃ t0, s.T b' = some t0 ∧ t'.k = t0.k ∧ t'.d = t0.d ∧ t'.da = t0.da ∧ t'.dc = t0.dc ∧ t'.mp = t0.mp := fun b' t' e' => by
    rw [Tr.upd_T] at e'
    by_cases hb : b' = b
    · rw [if_pos hb] at e'
      cases e'
      exact ⟨t, by rw [hb]; exact e, rfl, rfl, rfl, rfl, rfl⟩
    · rw [if_neg hb] at e'
      exact ⟨t', e', rfl, rfl, rfl, rfl, rfl⟩
  refine ⟨(h.str.of_block (ko g h.sg (fun e' => (map_neT h.str hmm) e'.symm))).congr (fun i hi => rfl), ?_, ?_, ?_, ?_, ?_, ?_, h.sg, h.sr, ?_, ?_, ?_, fun k hk => by rw [hz]; exact h.lt k hk⟩
  · exact h.row.kept (fun x ex => by obtain ⟨_, _, cur, hcu⟩ := h.row.lt ex; exact ko x (h.sr x ex) (hmm.ne hcu))
  · intro b' t' e'
    rw [Tr.upd_T] at e'
    by_cases hb : b' = b
    · subst hb
      rw [if_pos rfl] at e'
      cases e'
      exact ((h.thg b' t e).of_block (ko b' (h.sb b' t e) (fun e' => (map_neT (h.thg b' t e) hmm) e'.symm))).congr (fun i hi => rfl)
    · rw [if_neg hb] at e'
      exact (h.thg b' t' e').of_block (ko b' (h.sb b' t' e') (fun e'' => (map_neT (h.thg b' t' e') hmm) e''.symm))
  · intro b' t' e' hd'
    rw [Tr.upd_T] at e'
    by_cases hb : b' = b
    · subst hb
      rw [if_pos rfl] at e'
      cases e'
      exact hm
    · rw [if_neg hb] at e'
      exact (h.map b' t' e' hd').kept (ko _ (h.sm b' t' e' hd') (fun e'' => hb (h.mp1 b' b t' t e' e hd' hd e'')))
  · intro b' t' e'
    obtain ⟨t0, h0, h1, h2, h3, h4, h5⟩ := old b' t' e'
    rw [h2, h3, h4]
    exact kd b' t0 h0
  · intro b1 b2 t1 t2 e1 e2 d1 d2 hm'
    obtain ⟨x, h0, h1, _, _, _, h5⟩ := old b1 t1 e1
    obtain ⟨y, g0, g1, _, _, _, g5⟩ := old b2 t2 e2
    exact h.mp1 b1 b2 x y h0 g0 (by rw [← h1]; exact d1) (by rw [← g1]; exact d2) (by rw [← h5, ← g5]; exact hm')
  · intro b1 b2 t1 t2 z e1 e2 d1 d2
    obtain ⟨x, h0, _, _, h3, _⟩ := old b1 t1 e1
    obtain ⟨y, g0, _, _, g3, _⟩ := old b2 t2 e2
    exact h.da1 b1 b2 x y z h0 g0 (by rw [← h3]; exact d1) (by rw [← g3]; exact d2)
  · intro b' t' e'
    obtain ⟨t0, h0, _⟩ := old b' t' e'
    exact h.sb b' t0 h0
  · intro b' t' e' hd'
    obtain ⟨t0, h0, h1, h2, h3, h4, h5⟩ := old b' t' e'
    rw [h5]
    exact h.sm b' t0 h0 (by rw [← h1]; exact hd')
  · intro b' t' z e' hz'
    obtain ⟨t0, h0, h1, h2, h3, h4, h5⟩ := old b' t' e'
    exact h.sd b' t0 z h0 (by rw [← h3]; exact hz')

/-- A thing more, that lies beside the tree. -/
theorem TM.more {u : World} {S : Nat → Prop} {g : Nat} {s : Tr} (h : TM u S g s) {S' : Nat → Prop} (hS : ∀ k, S k → S' k) (hl : ∀ k, S' k → k < u.heap.size) {b : Nat} {t : Th} (hb : ¬ S b) (sb' : S' b) (ht : u.rowIs b 69 5 (hcell t))
    (hm : t.k = 2 → MapS u t.mp t.ns ∧ ¬ S t.mp ∧ S' t.mp) (hd : t.d = [] ∧ t.da = none ∧ t.dc = 0) : TM u S' g (s.upd b t) := by
  obtain ⟨hd0, hd1, hd2⟩ := hd
  refine ⟨h.str.congr (fun i hi => rfl), h.row, ?_, ?_, ?_, ?_, ?_, hS _ h.sg, fun x e => hS _ (h.sr x e), ?_, ?_, ?_, hl⟩
  · intro b' t' e'
    rw [Tr.upd_T] at e'
    by_cases hbb : b' = b
    · subst hbb
      rw [if_pos rfl] at e'
      cases e'
      exact ht
    · rw [if_neg hbb] at e'
      exact h.thg b' t' e'
  · intro b' t' e' hk
    rw [Tr.upd_T] at e'
    by_cases hbb : b' = b
    · rw [if_pos hbb] at e'
      cases e'
      exact (hm hk).1
    · rw [if_neg hbb] at e'
      exact h.map b' t' e' hk
  · intro b' t' e'
    rw [Tr.upd_T] at e'
    by_cases hbb : b' = b
    · rw [if_pos hbb] at e'
      cases e'
      rw [hd0, hd1, hd2]
      exact Own.nil _ _
    · rw [if_neg hbb] at e'
      exact h.dat b' t' e'
  · intro b1 b2 t1 t2 e1 e2 k1 k2 hmm
    rw [Tr.upd_T] at e1 e2
    by_cases h1 : b1 = b
    · by_cases h2 : b2 = b
      · rw [h1, h2]
      · rw [if_pos h1] at e1
        rw [if_neg h2] at e2
        cases e1
        exact absurd (h.sm b2 t2 e2 k2) (by rw [← hmm]; exact (hm k1).2.1)
    · by_cases h2 : b2 = b
      · rw [if_neg h1] at e1
        rw [if_pos h2] at e2
        cases e2
        exact absurd (h.sm b1 t1 e1 k1) (by rw [hmm]; exact (hm k2).2.1)
      · rw [if_neg h1] at e1
        rw [if_neg h2] at e2
        exact h.mp1 b1 b2 t1 t2 e1 e2 k1 k2 hmm
  · intro b1 b2 t1 t2 z e1 e2 d1 d2
    rw [Tr.upd_T] at e1 e2
    by_cases h1 : b1 = b
    · rw [if_pos h1] at e1
      cases e1
      rw [hd1] at d1
      cases d1
    · by_cases h2 : b2 = b
      · rw [if_pos h2] at e2
        cases e2
        rw [hd1] at d2
        cases d2
      · rw [if_neg h1] at e1
        rw [if_neg h2] at e2
        exact h.da1 b1 b2 t1 t2 z e1 e2 d1 d2
  · intro b' t' e'
    rw [Tr.upd_T] at e'
    by_cases hbb : b' = b
    · rw [hbb]; exact sb'
    · rw [if_neg hbb] at e'
      exact hS _ (h.sb b' t' e')
  · intro b' t' e' hk
    rw [Tr.upd_T] at e'
    by_cases hbb : b' = b
    · rw [if_pos hbb] at e'
      cases e'
      exact (hm hk).2.2
    · rw [if_neg hbb] at e'
      exact hS _ (h.sm b' t' e' hk)
  · intro b' t' z e' hz
    rw [Tr.upd_T] at e'
    by_cases hbb : b' = b
    · rw [if_pos hbb] at e'
      cases e'
      rw [hd1] at hz
      cases hz
    · rw [if_neg hbb] at e'
      exact hS _ (h.sd b' t' z e' hz)

end Go.Proofs.YtknmgefpjdfenaaGreat
