/- born: a new thing, that has the least number that is free. -/
import Derived.Test.YtknmgefpjdfenaaGreatTnTPlace
import Derived.BigRegion
import Derived.Deep.DeepCutAuto
namespace Go.Proofs.YtknmgefpjdfenaaGreat
open Go.RowKit Go.Shelf Go.Maps
set_option linter.unusedVariables false
set_option maxRecDepth 100000

def Tr.lst (s : Tr) (i : Nat) : Tr := { s with least := i }

theorem TM.lst {u : World} {S : Nat → Prop} {g : Nat} {s : Tr} (h : TM u S g s) (i : Nat) : TM (u.setCell ⟨g, 2, none⟩ (.int .i64 (i : Int))) S g (s.lst i) := by
  refine h.setT 2 _ (fun j hj => ?_) rfl (h.row.kept (fun x ex => ?_)) h.sr
  · unfold tcell Tr.lst
    by_cases h0 : j = 0
    · subst h0; rfl
    · by_cases h1 : j = 1
      · subst h1; rfl
      · by_cases h2 : j = 2
        · subst h2; rfl
        · rw [if_neg h0, if_neg h1, if_neg h2, if_neg h2, if_neg h0, if_neg h1, if_neg h2]
  · obtain ⟨_, _, cur, hcu⟩ := h.row.lt ex
    exact Below.heap_setCell _ _ _ _ (row_neT h.str hcu (by decide))

/-- append(t.things, nil), and its store. -/
theorem TM.app {u : World} {S S' : Nat → Prop} {g : Nat} {s : Tr} (h : TM u S g s) {a' : Option Addr} {c' : Nat} {w' : World} (ho : OwnP 0 w' a' (s.row.length + 1) c' (s.row ++ [none]))
    (hk : ∀ k, k < u.heap.size → (∀ x, s.ra = some ⟨x, 0, none⟩ → k ≠ x) → w'.heap[k]? = u.heap[k]?) (hz : u.heap.size ≤ w'.heap.size) (hS : ∀ k, S k → S' k) (hl : ∀ k, S' k → k < w'.heap.size) (ha : ∀ x, a' = some ⟨x, 0, none⟩ → S' x) :
    TM (w'.setCell ⟨g, 1, none⟩ (.slice a' (s.row.length + 1) c')) S' g { s with row := s.row ++ [none], ra := a', rc := c' } := by
  have kc : ∀ k t' (cs : Array Value), u.heap[k]? = some (Obj.cells cs t' (0, 0)) → t' ≠ 63 → w'.heap[k]? = u.heap[k]? := fun k t' cs hh ht => hk k (Array.getElem?_eq_some_iff.1 hh).1 (fun x ex e => by
    subst e
    obtain ⟨_, _, cur, hcu⟩ := h.row.lt ex
    rw [hcu] at hh
    exact ht (cells_ty hh).symm)
  have kr : ∀ k t' n f, u.rowIs k t' n f → t' ≠ 63 → w'.heap[k]? = u.heap[k]? := fun k t' n f hr ht => by
    obtain ⟨cs, hc, _⟩ := hr
    exact kc k t' cs hc ht
  have hstr := h.str.of_block (kr g _ _ _ h.str (by decide))
  have ko : ∀ k, k ≠ g → (w'.setCell ⟨g, 1, none⟩ (.slice a' (s.row.length + 1) c')).heap[k]? = w'.heap[k]? := fun k hk => Below.heap_setCell _ _ _ _ hk
  refine ⟨(hstr.set 1 _).congr (fun j hj => ?_), ?_, ?_, ?_, ?_, h.mp1, h.da1, hS _ h.sg, fun x e => ha x e, fun b t e => hS _ (h.sb b t e), fun b t e hd => hS _ (h.sm b t e hd), fun b t x e ex => hS _ (h.sd b t x e ex), fun k hk => by simpa [World.setCell] using hl k hk⟩
  · unfold tcell
    by_cases h0 : j = 0
    · subst h0; rfl
    · by_cases h1 : j = 1
      · subst h1; simp
      · rw [if_neg h1, if_neg h0, if_neg h1, if_neg h0, if_neg h1]
  · have hlen : (s.row ++ [none]).length = s.row.length + 1 := by simp
    show OwnP 0 _ a' (s.row ++ [none]).length c' (s.row ++ [none])
    rw [hlen]
    exact ho.kept (fun x ex => by obtain ⟨_, _, cur, hcu⟩ := ho.lt ex; exact ko x (row_neT hstr hcu (by decide)))
  · intro b t e
    have ht := h.thg b t e
    exact (ht.of_block (kr b _ _ _ ht (by decide))).of_block (ko b (rows_neT h.str ht (by decide)))
  · intro b t e hd
    have hm := h.map b t e hd
    exact (hm.kept (hk _ hm.lt (fun x ex e' => by obtain ⟨_, _, cur, hcu⟩ := h.row.lt ex; exact hm.ne hcu e'.symm))).kept (ko _ (map_neT h.str hm))
  · intro b t e
    have hd := h.dat b t e
    exact (hd.kept (fun x ex => by obtain ⟨_, _, cur, hcu⟩ := hd.lt ex; exact kc x _ cur hcu (by decide))).kept (fun x ex => by obtain ⟨_, _, cur, hcu⟩ := hd.lt ex; exact ko x (row_neT h.str hcu (by decide)))

/-- The first number that is free. -/
structure Free (s : Tr) (f : Nat) : Prop where
  le : s.least ≤ f
  full : ∀ i, s.least ≤ i → i < f → ∃ b, s.row[i]? = some (some b)
  free : s.row[f]? = none ∨ s.row[f]? = some none

theorem Free.lt {s : Tr} {f i : Nat} (h : Free s f) (hi : s.least ≤ i) (hf : i < f) : i < s.row.length := by
  obtain ⟨b, hb⟩ := h.full i hi hf
  exact (List.getElem?_eq_some_iff.1 hb).1

/-- A thing that was just made. -/
def newT (k : Int) (f mp : Nat) : Th := { k := k, n := f, l := 0, d := [], da := none, dc := 0, mp := mp, ns := [] }

/-- The row, so long that a number has a place. -/
def pad (row : List (Option Nat)) (f : Nat) : List (Option Nat) := row ++ List.replicate (f + 1 - row.length) none

/-- While born goes on: the new thing lies beside the tree. -/
structure BJ (w : World) (S : Nat → Prop) (g b mp : Nat) (k : Int) (s : Tr) (v : World) : Prop where
  tm : TM v (fun x => Up S w.heap.size v.heap.size x ∧ x ≠ b ∧ x ≠ mp) g s
  kp : Kp S w v
  lo : w.heap.size ≤ b
  hi : b < v.heap.size
  mo : w.heap.size ≤ mp
  mi : mp < v.heap.size
  th : v.rowIs b 69 5 (hcell (newT k 0 mp))
  mm : k = 2 → MapS v mp []

theorem up_mono {S : Nat → Prop} {n m m' x : Nat} (h : Up S n m x) (hm : m ≤ m') : Up S n m' x := h.elim .inl (fun q => .inr ⟨q.1, by omega⟩)

theorem BJ.drewN {w v : World} {S : Nat → Prop} {g b mp : Nat} {k : Int} {s : Tr} (h : BJ w S g b mp k s v) (q : Nat) : BJ w S g b mp k s (v.drewN q) :=
  ⟨h.tm.kept (fun _ _ => rfl) (fun _ hx => hx) h.tm.lt, ⟨h.kp.os, h.kp.tape, h.kp.output, h.kp.size, h.kp.block⟩, h.lo, h.hi, h.mo, h.mi, h.th.of_block rfl, fun e => (h.mm e).kept rfl⟩

theorem BJ.lst {w v : World} {S : Nat → Prop} {g b mp : Nat} {k : Int} {s : Tr} (h : BJ w S g b mp k s v) (i : Nat) : BJ w S g b mp k (s.lst i) (v.setCell ⟨g, 2, none⟩ (.int .i64 (i : Int))) := by
  have hz : (v.setCell ⟨g, 2, none⟩ (.int .i64 (i : Int))).heap.size = v.heap.size := by simp [World.setCell]
  refine ⟨by rw [hz]; exact h.tm.lst i, h.kp.setCell (p := ⟨g, 2, none⟩) (h.tm.sg.1.elim .inl (fun q => .inr q.1)) _, h.lo, by rw [hz]; exact h.hi, h.mo, by rw [hz]; exact h.mi, ?_, fun e => ?_⟩
  · exact h.th.setOther (fun e => h.tm.sg.2.1 e.symm) _
  · exact (h.mm e).kept (Below.heap_setCell _ _ _ _ (fun e' => h.tm.sg.2.2 e'.symm))

theorem BJ.app {w v : World} {S : Nat → Prop} {g b mp : Nat} {k : Int} {s : Tr} (h : BJ w S g b mp k s v) (hn : s.row.length + 1 ≤ 8796093022208) :
    ∃ a' c' w', (∀ ty, (Builtin.append_ #[62, 62] ty #[.slice s.ra s.row.length s.rc, .slice (some ⟨v.heap.size, 0, none⟩) 1 1]).run Tryz.prog (v.alloc (.cells #[.pointer none] 63)) = .ok (.slice a' (s.row.length + 1) c') w') ∧
      BJ w S g b mp k { s with row := s.row ++ [none], ra := a', rc := c' } (w'.setCell ⟨g, 1, none⟩ (.slice a' (s.row.length + 1) c')) ∧ (∀ j, w'.frozen? ⟨g, j, none⟩ = false) ∧ (∃ cc, w'.cell? ⟨g, 1, none⟩ = some cc) := by
  obtain ⟨a', c', w', R, ho, hk, hB, hx⟩ := run_appP h.tm.row (Nat.zero_le _) hn
  have hra : ∀ x, s.ra = some ⟨x, 0, none⟩ → (S x ∨ w.heap.size ≤ x) := fun x ex => (h.tm.sr x ex).1.elim .inl (fun q => .inr q.1)
  have kb : w'.heap[b]? = v.heap[b]? := hk b h.hi (fun x ex e => (h.tm.sr x ex).2.1 e.symm)
  have km : w'.heap[mp]? = v.heap[mp]? := hk mp h.mi (fun x ex e => (h.tm.sr x ex).2.2 e.symm)
  have kg : w'.heap[g]? = v.heap[g]? := hk g h.tm.str.lt (fun x ex e => by
    subst e
    obtain ⟨_, _, cur, hcu⟩ := h.tm.row.lt ex
    exact row_neT h.tm.str hcu (by decide) rfl)
  have hz : (w'.setCell ⟨g, 1, none⟩ (.slice a' (s.row.length + 1) c')).heap.size = w'.heap.size := by simp [World.setCell]
  have hstr := h.tm.str.of_block kg
  refine ⟨a', c', w', R, ⟨?_, ?_, h.lo, by rw [hz]; exact Nat.lt_of_lt_of_le h.hi hB.size, h.mo, by rw [hz]; exact Nat.lt_of_lt_of_le h.mi hB.size, ?_, fun e => ?_⟩, fun j => hstr.frozen j, ⟨_, hstr.cell (i := 1) (by omega)⟩⟩
  · rw [hz]
    refine h.tm.app ho hk hB.size (fun x hs => ⟨up_mono hs.1 hB.size, hs.2⟩) (fun x hs => ?_) (fun x ex => ?_)
    · rcases hs.1 with q | q
      · exact Nat.lt_of_lt_of_le (h.tm.lt x ⟨.inl q, hs.2⟩) hB.size
      · exact q.2
    · have hlt := (ho.lt ex).1
      rcases hx x ex with q | q
      · have := h.tm.sr x q
        exact ⟨up_mono this.1 hB.size, this.2⟩
      · have h1 := h.hi
        have h2 := h.mi
        have h3 := h.kp.size
        exact ⟨.inr ⟨by omega, hlt⟩, by omega, by omega⟩
  · refine Kp.setCell ⟨hB.os.trans h.kp.os, hB.tape.trans h.kp.tape, hB.output.trans h.kp.output, Nat.le_trans h.kp.size hB.size, fun x hx hs => ?_⟩ (p := ⟨g, 1, none⟩) (h.tm.sg.1.elim .inl (fun q => .inr q.1)) _
    refine (hk x (Nat.lt_of_lt_of_le hx h.kp.size) (fun y ey e => ?_)).trans (h.kp.block x hx hs)
    subst e
    rcases hra x ey with q | q
    · exact hs q
    · omega
  · exact (h.th.of_block kb).setOther (fun e => h.tm.sg.2.1 e.symm) _
  · exact ((h.mm e).kept km).kept (Below.heap_setCell _ _ _ _ (fun e' => h.tm.sg.2.2 e'.symm))

/-- The number is written, and the thing noted. -/
theorem BJ.last {w v : World} {S : Nat → Prop} {g b mp : Nat} {k : Int} {s : Tr} (h : BJ w S g b mp k s v) {r : Nat} (hr : s.ra = some ⟨r, 0, none⟩) (f : Nat) :
    TM ((v.setCell ⟨b, 1, none⟩ (.int .i64 (f : Int))).setCell ⟨r, f, none⟩ (.pointer (some ⟨b, 0, none⟩))) (Up S w.heap.size v.heap.size) g ({ s with row := s.row.set f (some b) }.upd b (newT k f mp)) ∧
      Kp S w ((v.setCell ⟨b, 1, none⟩ (.int .i64 (f : Int))).setCell ⟨r, f, none⟩ (.pointer (some ⟨b, 0, none⟩))) := by
  have h1 : TM (v.setCell ⟨b, 1, none⟩ (.int .i64 (f : Int))) (fun x => Up S w.heap.size v.heap.size x ∧ x ≠ b ∧ x ≠ mp) g s :=
    h.tm.kept (fun x hx => Below.heap_setCell _ _ _ _ hx.2.1) (fun _ hx => hx) (fun x hx => by simpa [World.setCell] using h.tm.lt x hx)
  have h2 := h1.setR hr f (some b)
  have hs := h.tm.sr r hr
  have hz : ((v.setCell ⟨b, 1, none⟩ (.int .i64 (f : Int))).setCell ⟨r, f, none⟩ (.pointer (some ⟨b, 0, none⟩))).heap.size = v.heap.size := by simp [World.setCell]
  have hsz := h.kp.size
  refine ⟨h2.more (fun x hx => hx.1) (fun x hx => ?_) (b := b) (t := newT k f mp) (fun hb => hb.2.1 rfl) (.inr ⟨h.lo, h.hi⟩) ?_ (fun e => ⟨?_, fun hm => hm.2.2 rfl, .inr ⟨h.mo, h.mi⟩⟩) ⟨rfl, rfl, rfl⟩, ?_⟩
  · show x < ((v.setCell ⟨b, 1, none⟩ (.int .i64 (f : Int))).setCell ⟨r, f, none⟩ (.pointer (some ⟨b, 0, none⟩))).heap.size
    rw [hz]
    by_cases hb : x = b
    · rw [hb]; exact h.hi
    · by_cases hm : x = mp
      · rw [hm]; exact h.mi
      · exact h.tm.lt x ⟨hx, hb, hm⟩
  · refine ((h.th.set 1 (.int .i64 (f : Int))).congr (fun j hj => ?_)).setOther (fun e => hs.2.1 e.symm) _
    match j, hj with
    | 0, _ => rfl
    | 1, _ => rfl
    | 2, _ => rfl
    | 3, _ => rfl
    | 4, _ => rfl
  · refine ((h.mm e).kept (Below.heap_setCell _ _ _ _ (fun e' => ?_))).kept (Below.heap_setCell _ _ _ _ (fun e' => hs.2.2 e'.symm))
    exact map_neT h.th (h.mm e) e'
  · exact (h.kp.setCell (p := ⟨b, 1, none⟩) (.inr h.lo) _).setCell (p := ⟨r, f, none⟩) (hs.1.elim .inl (fun q => .inr q.1)) _

theorem bj_file {w : World} {S : Nat → Prop} {g : Nat} {s : Tr} (h : TM w S g s) : BJ w S g w.heap.size w.heap.size 1 s (w.alloc (.cells #[.int .i64 1, .int .i64 0, .int .i64 0, .slice none 0 0, .map none] 69)) := by
  have hb0 : Below w.heap.size w (w.alloc (.cells #[.int .i64 1, .int .i64 0, .int .i64 0, .slice none 0 0, .map none] 69)) := (Below.refl _ w).alloc (Nat.le_refl _) _
  have hlt : w.heap.size < (w.alloc (.cells #[.int .i64 1, .int .i64 0, .int .i64 0, .slice none 0 0, .map none] 69)).heap.size := by simp
  refine ⟨?_, Kp.of hb0, Nat.le_refl _, hlt, Nat.le_refl _, hlt, World.rowIs_alloc w _ _ _ (fun i hi => ?_), fun e => absurd e (by decide)⟩
  · refine h.kept (fun x hx => hb0.block x (h.lt x hx)) (fun x hx => ⟨.inl hx, ?_, ?_⟩) (fun x hx => hx.1.elim (fun q => Nat.lt_trans (h.lt x q) hlt) (fun q => q.2))
    · have := h.lt x hx; omega
    · have := h.lt x hx; omega
  · match i, hi with
    | 0, _ => rfl
    | 1, _ => rfl
    | 2, _ => rfl
    | 3, _ => rfl
    | 4, _ => rfl

theorem bj_dir {w : World} {S : Nat → Prop} {g : Nat} {s : Tr} (h : TM w S g s) : BJ w S g w.heap.size (w.heap.size + 1) 2 s (((w.alloc (.cells #[.int .i64 2, .int .i64 0, .int .i64 0, .slice none 0 0, .map none] 69)).alloc (.map #[] 0)).setCell ⟨w.heap.size, 4, none⟩ (.map (some (w.heap.size + 1)))) := by
  have hb0 : Below w.heap.size w (w.alloc (.cells #[.int .i64 2, .int .i64 0, .int .i64 0, .slice none 0 0, .map none] 69)) := (Below.refl _ w).alloc (Nat.le_refl _) _
  have hr0 : (w.alloc (.cells #[.int .i64 2, .int .i64 0, .int .i64 0, .slice none 0 0, .map none] 69)).rowIs w.heap.size 69 5 (fun i => #[.int .i64 2, .int .i64 0, .int .i64 0, .slice none 0 0, .map none].getD i (.map none)) := World.rowIs_alloc w _ _ _ (fun i hi => by
    match i, hi with
    | 0, _ => rfl
    | 1, _ => rfl
    | 2, _ => rfl
    | 3, _ => rfl
    | 4, _ => rfl)
  have hsz : (w.alloc (.cells #[.int .i64 2, .int .i64 0, .int .i64 0, .slice none 0 0, .map none] 69)).heap.size = w.heap.size + 1 := by simp
  have hm0 := MapS.made (w.alloc (.cells #[.int .i64 2, .int .i64 0, .int .i64 0, .slice none 0 0, .map none] 69))
  rw [hsz] at hm0
  generalize w.alloc (.cells #[.int .i64 2, .int .i64 0, .int .i64 0, .slice none 0 0, .map none] 69) = w1 at *
  have hb1 : Below w.heap.size w1 (w1.alloc (.map #[] 0)) := (Below.refl _ w1).alloc (by omega) _
  have hr1 := hr0.alloc (.map #[] 0)
  have hsz2 : ((w1.alloc (.map #[] 0)).setCell ⟨w.heap.size, 4, none⟩ (.map (some (w.heap.size + 1)))).heap.size = w.heap.size + 2 := by simp [World.setCell, hsz]
  have hb2 := (hb0.trans hb1).setCell (p := ⟨w.heap.size, 4, none⟩) (Nat.le_refl _) (.map (some (w.heap.size + 1)))
  refine ⟨?_, Kp.of hb2, Nat.le_refl _, by omega, by omega, by omega, (hr1.set 4 _).congr (fun i hi => ?_), fun _ => hm0.kept (Below.heap_setCell _ _ _ _ (fun e => by have e' : w.heap.size + 1 = w.heap.size := e; omega))⟩
  · refine h.kept (fun x hx => hb2.block x (h.lt x hx)) (fun x hx => ⟨.inl hx, ?_, ?_⟩) (fun x hx => hx.1.elim (fun q => by have := h.lt x q; omega) (fun q => q.2))
    · have := h.lt x hx; omega
    · have := h.lt x hx; omega
  · match i, hi with
    | 0, _ => rfl
    | 1, _ => rfl
    | 2, _ => rfl
    | 3, _ => rfl
    | 4, _ => rfl

def leastOf (g : Nat) (w : World) : Nat := (intOf ((w.cell? ⟨g, 2, none⟩).getD undef)).toNat

def lenOf' (g : Nat) (w : World) : Nat := match w.cell? ⟨g, 1, none⟩ with
  | some (.slice _ n _) => n
  | _ => 0

theorem leastOf_eq {w : World} {S : Nat → Prop} {g : Nat} {s : Tr} (h : TM w S g s) : leastOf g w = s.least := by
  unfold leastOf
  rw [h.tree_cells.2.2.1]
  simp [intOf]

theorem lenOf_eq {w : World} {S : Nat → Prop} {g : Nat} {s : Tr} (h : TM w S g s) : lenOf' g w = s.row.length := by
  unfold lenOf'
  rw [h.tree_cells.2.1]

set_option maxHeartbeats 4000000 in
theorem born_any {w : World} {S : Nat → Prop} {g f : Nat} {s : Tr} {k : Int} (h : TM w S g s) (hf : Free s f) (hk : k = 1 ∨ k = 2) (hfm : f ≤ 1000000) (hrm : s.row.length ≤ 1000000) :
    Calls Tryz.prog 23 #[.pointer (some ⟨g, 0, none⟩), .int .i64 k] w fun e w' => ∃ b mp ra rc, e = .returned (.pointer (some ⟨b, 0, none⟩)) ∧ w.heap.size ≤ b ∧ b < w'.heap.size ∧
      TM w' (Up S w.heap.size w'.heap.size) g ({ s with row := (pad s.row f).set f (some b), ra := ra, rc := rc, least := f }.upd b (newT k f mp)) ∧ Kp S w w' := by
  have HK := hide hk
  have HT := hide h
  have HFr := hide hf
  have hw1 := World.rowIs_alloc w #[.int .i64 k, .int .i64 0, .int .i64 0, .slice none 0 0, .map none] 69 (fun i => #[.int .i64 k, .int .i64 0, .int .i64 0, .slice none 0 0, .map none].getD i (.map none)) (fun i hi => by
    match i, hi with
    | 0, _ => rfl
    | 1, _ => rfl
    | 2, _ => rfl
    | 3, _ => rfl
    | 4, _ => rfl)
  have hw2 := hw1.alloc (.map #[] 0)
  have f4 := fun j => hw2.frozen j
  have c4 := hw2.cell (i := 4) (by simp)
  have hmk := @run_makeMap Tryz.prog
  have hsz1 : (w.alloc (.cells #[.int .i64 k, .int .i64 0, .int .i64 0, .slice none 0 0, .map none] 69)).heap.size = w.heap.size + 1 := by simp
  have HF : Hid (k = 1 → BJ w S g w.heap.size w.heap.size 1 s (w.alloc (.cells #[.int .i64 k, .int .i64 0, .int .i64 0, .slice none 0 0, .map none] 69))) := fun e => by rw [e]; exact bj_file h
  have HD : Hid (k = 2 → BJ w S g w.heap.size (w.heap.size + 1) 2 s (((w.alloc (.cells #[.int .i64 k, .int .i64 0, .int .i64 0, .slice none 0 0, .map none] 69)).alloc (.map #[] 0)).setCell ⟨w.heap.size, 4, none⟩ (.map (some (w.heap.size + 1))))) := fun e => by rw [e]; exact bj_dir h
  clear h hk hf hw1 hw2
  go_enter Tryz.func23, Tryz.ntmps23
  go_upto_if 10 with fail
  change Code.wp _ _ _ _ (w.alloc (.cells #[.int .i64 k, .int .i64 0, .int .i64 0, .slice none 0 0, .map none] 69))
  generalize w.alloc (.cells #[.int .i64 k, .int .i64 0, .int .i64 0, .slice none 0 0, .map none] 69) = w1 at *
  go_cut [] (fun wx => Hid (∃ mp, BJ w S g w.heap.size mp k s wx))
  case first =>
    rcases HK.out with e | e
    · have HF := hide (HF.out e)
      have d1 : (k == 2) = false := by rw [e]; rfl
      clear HD
      go_wp2_with fail
      go_meet
      exact ⟨_, by rw [e]; exact HF.out⟩
    · have HD := hide (HD.out e)
      have d1 : (k == 2) = true := by rw [e]; rfl
      clear HF
      go_wp2_with fail
      go_meet
      have hx := HD.out
      rw [World.setCell_alloc_past _ _ _ _ (by omega)] at hx
      exact ⟨_, by rw [e]; exact hx⟩
  case rest =>
    obtain ⟨mp, hJ⟩ := hcut.out
    have hlf := HFr.out.le
    have HJ := hide hJ
    clear HF HD HK HT f4 c4 hmk hsz1 hcut hJ
    go_wp2_with fail
    go_loopw [] (fun wr => Hid (∃ i, s.least ≤ i ∧ i ≤ f ∧ BJ w S g w.heap.size mp k (s.lst i) wr)) (fun wr => f - leastOf g wr)
    case atStart => exact ⟨s.least, Nat.le_refl _, hlf, HJ.out⟩
    case round =>
      obtain ⟨i, hi1, hi2, hJ⟩ := hrel.out
      clear HJ
      obtain ⟨_, c1, c2, cf⟩ := hJ.tm.tree_cells
      have hL := leastOf_eq hJ.tm
      go_upto_region 4 with fail
      go_cut [37] (fun c wx => c = .bool (decide (i < f)) ∧ ∃ q, wr.drewN q = wx)
      case first => as_aux_lemma =>
        by_cases hlt : i < f
        · obtain ⟨bb, hbb⟩ := HFr.out.full i hi1 hlt
          have hil := HFr.out.lt hi1 hlt
          obtain ⟨r, hra, _, cr, _⟩ := hJ.tm.row.cell (j := i) hil
          have hrow : (s.lst i).row = s.row := rfl
          rw [hrow, hbb] at cr
          rw [hra, hrow] at c1
          simp only [Option.getD_some, ptrO, Option.map_some] at cr
          have e2 : (s.lst i).least = i := rfl
          rw [e2] at c2
          have i0 : (0 : Int) ≤ (i : Int) := by omega
          have i1 : (i : Int) < (s.row.length : Int) := by omega
          clear hJ hbb hra hrow e2 HFr cf hL hrel
          generalize s.row.length = n at *
          generalize (s.lst i).rc = c at *
          go_quiet (fail)
          go_wp2_with fail
          go_meet
          exact ⟨by simp [hlt], _, rfl⟩
        · obtain rfl : i = f := by omega
          have e2 : (s.lst i).least = i := rfl
          have hrow : (s.lst i).row = s.row := rfl
          rw [e2] at c2
          by_cases hil : i < s.row.length
          · obtain ⟨r, hra, _, cr, _⟩ := hJ.tm.row.cell (j := i) hil
            have hbb : s.row[i]?.getD none = none := by rcases HFr.out.free with e | e <;> rw [e] <;> rfl
            rw [hrow, hbb] at cr
            rw [hra, hrow] at c1
            simp only [ptrO, Option.map_none] at cr
            have i0 : (0 : Int) ≤ (i : Int) := by omega
            have i1 : (i : Int) < (s.row.length : Int) := by omega
            clear hJ hbb hra hrow e2 HFr cf hL hrel
            generalize s.row.length = n at *
            generalize (s.lst i).rc = c at *
            go_quiet (fail)
            go_wp2_with fail
            go_meet
            exact ⟨by simp, _, rfl⟩
          · rw [hrow] at c1
            have i1 : decide (i < s.row.length) = false := by simp; omega
            clear hJ hrow e2 HFr cf hL hrel hil
            generalize s.row.length = n at *
            generalize (s.lst i).rc = c at *
            generalize (s.lst i).ra = ra at *
            go_quiet (fail)
            go_wp2_with fail
            go_meet
            exact ⟨by simp, _, rfl⟩
      case rest =>
        obtain ⟨rfl, q, rfl⟩ := hcut
        have hJq := hJ.drewN q
        obtain ⟨_, c1, c2, cf⟩ := hJq.tm.tree_cells
        have e2 : (s.lst i).least = i := rfl
        rw [e2] at c2
        by_cases hlt : i < f
        · have d1 : decide (i < f) = true := by simpa using hlt
          have e3 : ((i + 1 : Nat) : Int) = (i : Int) + 1 := by omega
          have hJ' := hJq.lst (i + 1)
          rw [e3] at hJ'
          have hL' := leastOf_eq hJ'.tm
          have HJ : Hid (s.least ≤ i + 1 ∧ i + 1 ≤ f ∧ BJ w S g w.heap.size mp k (s.lst (i + 1)) ((wr.drewN q).setCell ⟨g, 2, none⟩ (.int .i64 ((i : Int) + 1)))) := ⟨by omega, by omega, hJ'⟩
          have HL : Hid (f - leastOf g ((wr.drewN q).setCell ⟨g, 2, none⟩ (.int .i64 ((i : Int) + 1))) < f - leastOf g wr) := by
            show _ - _ < _ - _
            rw [hL, hL']
            show f - (i + 1) < f - i
            omega
          clear hJ hJq hJ' hL hL' c1 e2 HFr hrel
          rw [d1]
          go_wp2_with fail
          go_roundw
          case rel => exact ⟨i + 1, HJ.out⟩
          case measure => exact HL.out
        · obtain rfl : i = f := by omega
          have d1 : decide (i < i) = false := by simp
          have HJ : Hid (∃ j ra rc, j ≤ i + 1 - s.row.length ∧ BJ w S g w.heap.size mp k { s with row := s.row ++ List.replicate j none, ra := ra, rc := rc, least := i } (wr.drewN q)) := ⟨0, s.ra, s.rc, by omega, by
            have e : ({ s with row := s.row ++ List.replicate 0 none, ra := s.ra, rc := s.rc, least := i } : Tr) = s.lst i := by simp [Tr.lst]
            rw [e]
            exact hJq⟩
          clear hJ hJq c1 c2 cf e2 hL hrel
          generalize wr.drewN q = w2 at *
          rw [d1]
          go_wp2_with fail
          go_loopw [] (fun wr => Hid (∃ j ra rc, j ≤ i + 1 - s.row.length ∧ BJ w S g w.heap.size mp k { s with row := s.row ++ List.replicate j none, ra := ra, rc := rc, least := i } wr)) (fun wr => i + 1 - lenOf' g wr)
          case atStart => exact HJ.out
          case round =>
            obtain ⟨j, ra, rc, hj, hJ⟩ := hrel.out
            clear HJ
            obtain ⟨_, c1, c2, cf⟩ := hJ.tm.tree_cells
            have hL := lenOf_eq hJ.tm
            have hlen : (s.row ++ List.replicate j none).length = s.row.length + j := by simp
            simp only [hlen] at c1 hL
            go_upto_region 6 with fail
            go_cut [54] (fun c wx => c = .bool (decide (s.row.length + j ≤ i)) ∧ ∃ q, wr.drewN q = wx)
            case first => as_aux_lemma =>
              clear hJ hL hrel
              generalize s.row.length + j = n at *
              by_cases hle : n ≤ i
              · have d2 : decide (n ≤ i) = true := by simpa using hle
                go_quiet (fail)
                go_wp2_with fail
                go_meet
                exact ⟨by simp [d2], _, rfl⟩
              · have d2 : decide (n ≤ i) = false := by simpa using hle
                go_quiet (fail)
                go_wp2_with fail
                go_meet
                exact ⟨by simp [d2], _, rfl⟩
            case rest =>
              obtain ⟨rfl, q, rfl⟩ := hcut
              have hJq := hJ.drewN q
              obtain ⟨_, c1, c2, cf⟩ := hJq.tm.tree_cells
              simp only [hlen] at c1
              by_cases hle : s.row.length + j ≤ i
              · have d2 : decide (s.row.length + j ≤ i) = true := by simpa using hle
                obtain ⟨a', c', w1, R, hJ', f1, cc, hcc⟩ := hJq.app (by simp only [hlen]; omega)
                simp only [hlen] at R hJ'
                have hL' := lenOf_eq hJ'.tm
                have e4 : (s.row ++ List.replicate j none) ++ [none] = s.row ++ List.replicate (j + 1) none := by
                  rw [List.append_assoc]
                  congr 1
                  exact (List.replicate_succ' ..).symm
                simp only [e4] at hJ' hL'
                have hlen' : (s.row ++ List.replicate (j + 1) none).length = s.row.length + j + 1 := by simp; omega
                simp only [hlen'] at hL'
                have R := hide R
                have HJ : Hid (∃ j' ra rc, j' ≤ i + 1 - s.row.length ∧ BJ w S g w.heap.size mp k { s with row := s.row ++ List.replicate j' none, ra := ra, rc := rc, least := i } (w1.setCell ⟨g, 1, none⟩ (.slice a' (s.row.length + j + 1) c'))) := ⟨j + 1, a', c', by omega, hJ'⟩
                have HL : Hid (i + 1 - lenOf' g (w1.setCell ⟨g, 1, none⟩ (.slice a' (s.row.length + j + 1) c')) < i + 1 - lenOf' g wr) := by
                  show _ - _ < _ - _
                  rw [hL, hL']
                  omega
                clear hJ hJq hJ' hL hL' HFr hrel hlen hlen' e4
                generalize s.row.length + j = n at *
                generalize wr.drewN q = w2 at *
                rw [d2]
                go_wp2_with (at_builtin; refine wpList_append_run 62 rfl _ _ rfl _ _ _ rfl rfl (unhide R) ?_; clear R)
                go_roundw
                case rel => exact HJ.out
                case measure => exact HL.out
              · have d2 : decide (s.row.length + j ≤ i) = false := by simpa using hle
                have hpad : s.row ++ List.replicate j none = pad s.row i := by
                  unfold pad
                  congr 2
                  omega
                have hif : i < s.row.length + j := by omega
                obtain ⟨r, hra, _, cr, crf⟩ := hJq.tm.row.cell (j := i) (by simp only [hlen]; exact hif)
                simp only [hpad] at hJq cr
                have hra' : ra = some ⟨r, 0, none⟩ := hra
                have hlast := hJq.last hra i
                rw [hra'] at c1
                have t1 := hJq.th.cell (i := 1) (by omega)
                have tf := fun j => hJq.th.frozen j
                have HR : Hid (w.heap.size < (wr.drewN q).heap.size ∧
                    TM (((wr.drewN q).setCell ⟨w.heap.size, 1, none⟩ (.int .i64 (i : Int))).setCell ⟨r, i, none⟩ (.pointer (some ⟨w.heap.size, 0, none⟩))) (Up S w.heap.size (wr.drewN q).heap.size) g ({ s with row := (pad s.row i).set i (some w.heap.size), ra := ra, rc := rc, least := i }.upd w.heap.size (newT k i mp)) ∧
                    Kp S w (((wr.drewN q).setCell ⟨w.heap.size, 1, none⟩ (.int .i64 (i : Int))).setCell ⟨r, i, none⟩ (.pointer (some ⟨w.heap.size, 0, none⟩)))) :=
                  ⟨hJq.hi, hlast.1, hlast.2⟩
                have HZ : Hid ((((wr.drewN q).setCell ⟨w.heap.size, 1, none⟩ (.int .i64 (i : Int))).setCell ⟨r, i, none⟩ (.pointer (some ⟨w.heap.size, 0, none⟩))).heap.size = (wr.drewN q).heap.size) := by unfold Hid; simp [World.setCell]
                have i0 : (0 : Int) ≤ (i : Int) := by omega
                have i1 : (i : Int) < ((s.row.length + j : Nat) : Int) := by omega
                have hne : r ≠ w.heap.size := (hJq.tm.sr r hra).2.1
                clear hJ hJq hL hpad hra hra' hlast HFr hrel hlen hle hj hif
                generalize hn : s.row.length + j = n at *
                generalize wr.drewN q = w2 at *
                rw [d2]
                go_wp2_with fail
                go_region
                go_wp2_with fail
                go_ret
                obtain ⟨h1, h2, h3⟩ := HR.out
                have hz := HZ.out
                generalize (w2.setCell ⟨w.heap.size, 1, none⟩ (.int .i64 (i : Int))).setCell ⟨r, i, none⟩ (.pointer (some ⟨w.heap.size, 0, none⟩)) = wf at *
                rw [← hz] at h1 h2
                exact ⟨w.heap.size, mp, ra, rc, rfl, Nat.le_refl _, h1, h2.kept (fun _ _ => rfl) (fun _ h => h) h2.lt, h3.os, h3.tape, h3.output, h3.size, h3.block⟩

end Go.Proofs.YtknmgefpjdfenaaGreat
