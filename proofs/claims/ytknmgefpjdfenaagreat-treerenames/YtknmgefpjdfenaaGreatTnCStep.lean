/- Steps of a region that draws its order and only grows memory: what an operation leaves, by kinds. -/
import Derived.Test.YtknmgefpjdfenaaGreatTnGGrow
import Derived.Test.YtknmgefpjdfenaaGreatTnCNum
namespace Go.Proofs.YtknmgefpjdfenaaGreat
open Go.RowKit Go.Shelf
set_option linter.unusedVariables false
set_option maxRecDepth 100000

/-- Memory has grown: what was there reads as it did. -/
def Grw (n0 : Nat) (w w' : World) : Prop := Below n0 w w' ∧ (∀ p v, w.cell? p = some v → w'.cell? p = some v) ∧ ∀ g s, w.shape? g = some s → w'.shape? g = some s

theorem Grw.refl (n0 : Nat) (w : World) : Grw n0 w w := ⟨Below.refl _ _, fun _ _ h => h, fun _ _ h => h⟩

theorem Grw.trans {n0 : Nat} {w w1 w2 : World} (h1 : Grw n0 w w1) (h2 : Grw n0 w1 w2) : Grw n0 w w2 := ⟨h1.1.trans h2.1, fun p v h => h2.2.1 p v (h1.2.1 p v h), fun g s h => h2.2.2 g s (h1.2.2 g s h)⟩

theorem Grw.of_below {n0 : Nat} {w w' : World} (hn : n0 ≤ w.heap.size) (h : Below w.heap.size w w') : Grw n0 w w' := by
  refine ⟨h.mono hn, fun p v hp => (h.cell (cell_block_lt hp)).trans hp, fun g s hs => ?_⟩
  have hlt : g < w.heap.size := by
    rcases Nat.lt_or_ge g w.heap.size with h' | h'
    · exact h'
    · simp [World.shape?, Array.getElem?_eq_none h'] at hs
  unfold World.shape? at *
  rw [h.block g hlt]
  exact hs

theorem Grw.alloc (n0 : Nat) (w : World) (o : Obj) (hn : n0 ≤ w.heap.size) : Grw n0 w (w.alloc o) := Grw.of_below hn ((Below.refl _ w).alloc (Nat.le_refl _) o)

theorem Grw.size {n0 : Nat} {w w' : World} (h : Grw n0 w w') : w.heap.size ≤ w'.heap.size := h.1.size

theorem Has.grw {n0 : Nat} {w w' : World} {a : Option Addr} {len : Nat} {zs : List Int} (h : Has w a len zs) (hg : Grw n0 w w') : Has w' a len zs :=
  ⟨h.1, fun hp => by obtain ⟨b, off, e, hc⟩ := h.2 hp; exact ⟨b, off, e, fun j hj => hg.2.1 _ _ (hc j hj)⟩⟩

theorem IHas.grw {n0 : Nat} {w w' : World} {a : Option Addr} {len : Nat} {zs : List Int} (h : IHas w a len zs) (hg : Grw n0 w w') : IHas w' a len zs :=
  ⟨h.1, fun hp => by obtain ⟨b, off, e, hc⟩ := h.2 hp; exact ⟨b, off, e, fun j hj => hg.2.1 _ _ (hc j hj)⟩⟩

theorem PHas.grw {n0 : Nat} {w w' : World} {a : Option Addr} {n : Nat} {ps : List Prt} (h : PHas w a n ps) (hg : Grw n0 w w') : PHas w' a n ps :=
  ⟨h.1, fun hp => by obtain ⟨b, off, e, hl, hc⟩ := h.2.1 hp; exact ⟨b, off, e, Nat.lt_of_lt_of_le hl hg.size, fun j hj => hg.2.1 _ _ (hc j hj)⟩, fun p hp => (h.2.2 p hp).grw hg⟩

/-- Kinds of what an operation leaves. -/
def spVal (u v : Value) (w : World) : Prop := v = u

def spBytes (n : Nat) (xs : List Int) (v : Value) (w : World) : Prop := ∃ a c, v = .slice a n c ∧ Has w a n xs ∧ (∀ z ∈ xs, 0 ≤ z ∧ z ≤ 255) ∧ n ≤ c ∧ c ≤ 9223372036854775807

def spLit (n0 : Nat) (xs : List Int) (v : Value) (w : World) : Prop := ∃ g, v = .slice (some ⟨g, 0, none⟩) xs.length xs.length ∧ n0 ≤ g ∧ Has w (some ⟨g, 0, none⟩) xs.length xs ∧ w.shape? g = some (5, xs.length)

def spInts (ns : List Int) (v : Value) (w : World) : Prop := ∃ a c, v = .slice a ns.length c ∧ IHas w a ns.length ns

def spParts (n : Nat) (L : List Int) (v : Value) (w : World) : Prop := ∃ a c ps, v = .slice a n c ∧ PHas w a n ps ∧ allP ps = L

def Mono (n0 : Nat) (S : Value → World → Prop) : Prop := ∀ v w w', S v w → Grw n0 w w' → S v w'

theorem mono_val (n0 : Nat) (u : Value) : Mono n0 (spVal u) := fun _ _ _ h _ => h

theorem mono_bytes (n0 n : Nat) (xs : List Int) : Mono n0 (spBytes n xs) := fun _ _ _ ⟨a, c, e, h, r⟩ hg => ⟨a, c, e, h.grw hg, r⟩

theorem mono_lit (n0 : Nat) (xs : List Int) : Mono n0 (spLit n0 xs) := fun _ _ _ ⟨g, e, hn, h, hs⟩ hg => ⟨g, e, hn, h.grw hg, hg.2.2 _ _ hs⟩

theorem mono_ints (n0 : Nat) (ns : List Int) : Mono n0 (spInts ns) := fun _ _ _ ⟨a, c, e, h⟩ hg => ⟨a, c, e, h.grw hg⟩

theorem mono_parts (n0 n : Nat) (L : List Int) : Mono n0 (spParts n L) := fun _ _ _ ⟨a, c, ps, e, h, r⟩ hg => ⟨a, c, ps, e, h.grw hg, r⟩

/-- What operation i leaves, by a list. -/
def RL (specs : List (Value → World → Prop)) (i : Nat) (v : Value) (w : World) : Prop := (specs[i]?.getD (fun _ _ => True)) v w

theorem RL.mono {n0 : Nat} {specs : List (Value → World → Prop)} (h : ∀ S ∈ specs, Mono n0 S) : ∀ i v w w', RL specs i v w → Grw n0 w w' → RL specs i v w' := by
  intro i v w w' hv hg
  unfold RL at *
  cases hi : specs[i]? with
  | none => exact True.intro
  | some S => rw [hi] at hv; exact h S (List.mem_of_getElem? hi) v w w' hv hg

theorem ahead_at {ops : Array Oper} {R : Nat → Value → World → Prop} {o : Oper} {a : Act} {w : World} (h : Ahead ops R o a w) (j d : Nat) (hj : (o.after.any fun e => e.on == j && Region.binds .any e) = true) (hd : (ops[j]?).bind (·.dst) = some d) : R j (a.tmps[d]?.getD undef) w := by
  rw [← Array.getD_eq_getD_getElem?]
  rw [Array.any_eq_true'] at hj
  obtain ⟨e, he, hb⟩ := hj
  rw [Bool.and_eq_true] at hb
  obtain ⟨h1, h2⟩ := hb
  have h1' : e.on = j := by simpa using h1
  cases ho : ops[j]? with
  | none => rw [ho] at hd; cases hd
  | some oe =>
    rw [ho] at hd
    have := h e he h2 oe d (by rw [h1']; exact ho) hd
    rwa [h1'] at this

theorem fr_at {ops : Array Oper} {a0 a : Act} (h : Frm ops a0 a) (j : Nat) (hj : (ops.any fun o => o.dst == some j) = false) : a.tmps[j]?.getD undef = a0.tmps[j]?.getD undef := by
  rw [← Array.getD_eq_getD_getElem?, ← Array.getD_eq_getD_getElem?]
  refine h.2.2 j fun i o hi hd => ?_
  have := Array.any_eq_false.1 hj
  obtain ⟨hlt, e⟩ := Array.getElem?_eq_some_iff.1 hi
  have := this i hlt
  rw [e, hd] at this
  simp at this

theorem wp_region_sp {P : Program} {ops : Array Oper} {Q : Exit → Act → World → Prop} {id : Nat} {a0 : Act} {w0 : World} (hm : P.follows .mixedOrders = true) (n0 : Nat) (specs : List (Value → World → Prop))
    (hmono : ∀ S ∈ specs, Mono n0 S) (hd : dstsOk ops a0.tmps.size = true) (ha : aftersOk ops = true)
    (hstep : ∀ i o a w, ops[i]? = some o → Frm ops a0 a → Ahead ops (RL specs) o a w → Grw n0 w0.drew w → wpOp P ops Q i (fun a' w' => ∃ v, a' = a.put o.dst v ∧ RL specs i v w' ∧ Grw n0 w w') a w)
    (hend : ∀ a w, Frm ops a0 a → (∀ i o d, ops[i]? = some o → o.dst = some d → RL specs i (a.tmps.getD d undef) w) → Grw n0 w0.drew w → Q .normal a w) :
    (Code.region id ops true).wp P Q a0 w0 :=
  wp_region_grow hm (RL specs) (Grw n0 w0.drew) (Grw n0) (RL.mono hmono) hd ha (Grw.refl _ _)
    (fun i o a w hi hF hA hB => wpOp_mono (fun a' w' ⟨v, e, h1, h2⟩ => ⟨v, e, h1, hB.trans h2, h2⟩) (hstep i o a w hi hF hA hB)) hend

theorem st_val {P : Program} {ops : Array Oper} {Q : Exit → Act → World → Prop} {i : Nat} {o : Oper} {a : Act} {w w' : World} {n0 : Nat} {S : Value → World → Prop} (hi : ops[i]? = some o) (hg : o.guard = none) (v : Value)
    (hr : (execOp a.eval o).run P w = .ok (.value v) w') (hS : S v w') (hG : Grw n0 w w') : wpOp P ops Q i (fun a' w' => ∃ v, a' = a.put o.dst v ∧ S v w' ∧ Grw n0 w w') a w := by
  unfold wpOp
  simp only [hi, Region.wanted, hg, if_true]
  refine .inl ?_
  unfold Oper.wp
  rw [hr]
  exact ⟨v, rfl, hS, hG⟩

theorem st_call {P : Program} {ops : Array Oper} {Q : Exit → Act → World → Prop} {i : Nat} {o : Oper} {a : Act} {w : World} {n0 : Nat} {S : Value → World → Prop} (hi : ops[i]? = some o) (hg : o.guard = none) (f : FuncId) (args : Array Value)
    (hr : (execOp a.eval o).run P w = .ok (.enter f args) w) (hn : n0 ≤ w.heap.size) (hc : Calls P f args w fun e w' => ∃ v, e = .returned v ∧ S v w' ∧ Below w.heap.size w w') : wpOp P ops Q i (fun a' w' => ∃ v, a' = a.put o.dst v ∧ S v w' ∧ Grw n0 w w') a w := by
  unfold wpOp
  simp only [hi, Region.wanted, hg, if_true]
  refine .inl ?_
  unfold Oper.wp
  rw [hr]
  refine Calls.mono hc ?_
  rintro e w' ⟨v, rfl, hS, hb⟩
  exact ⟨v, rfl, hS, Grw.of_below hn hb⟩

theorem ihas_list (w : World) (ns : List Int) : IHas (w.alloc (.cells (ns.map (Value.int .i64)).toArray 3)) (some ⟨w.heap.size, 0, none⟩) ns.length ns := by
  refine ⟨rfl, fun _ => ⟨w.heap.size, 0, rfl, fun j hj => ?_⟩⟩
  have h := World.alloc_heap_new w (.cells (ns.map (Value.int .i64)).toArray 3)
  simp only [World.cell?, h, Nat.zero_add]
  simp [List.getElem?_eq_getElem hj]

theorem has_list (w : World) (xs : List Int) (fr : Nat × Nat) : Has (w.alloc (.cells (xs.map (Value.int .u8)).toArray 5 fr)) (some ⟨w.heap.size, 0, none⟩) xs.length xs := by
  refine ⟨rfl, fun _ => ⟨w.heap.size, 0, rfl, fun j hj => ?_⟩⟩
  have h := World.alloc_heap_new w (.cells (xs.map (Value.int .u8)).toArray 5 fr)
  simp only [World.cell?, h, Nat.zero_add]
  simp [List.getElem?_eq_getElem hj]

theorem phas_list (w : World) (ps : List Prt) (h : ∀ p ∈ ps, Has w p.1 p.2.1 p.2.2.2) : PHas (w.alloc (.cells (ps.map pv).toArray 34)) (some ⟨w.heap.size, 0, none⟩) ps.length ps := by
  refine ⟨rfl, fun _ => ⟨w.heap.size, 0, rfl, by simp, fun j hj => ?_⟩, fun p hp => (h p hp).later ((Below.refl _ w).alloc (Nat.le_refl _) _)⟩
  have h := World.alloc_heap_new w (.cells (ps.map pv).toArray 34)
  simp only [World.cell?, h, Nat.zero_add]
  simp [hj]

theorem shape_new (w : World) (cs : Array Value) (t : TypeId) : (w.alloc (.cells cs t)).shape? w.heap.size = some (t, cs.size) := by
  have h := World.alloc_heap_new w (.cells cs t)
  simp only [World.shape?, h]

/-- The frame's slots, all of them. -/
theorem tmps_eq (t : Array Value) (n : Nat) (h : t.size = n) : t = ((List.range n).map fun j => t[j]?.getD undef).toArray := by
  apply Array.ext
  · simp [h]
  · intro i h1 h2
    simp [h1]

/-- The mark of []byte("..") of a constant. -/
theorem lit_conv {n0 : Nat} {w : World} {xs : List Int} {v : Value} (h : spLit n0 xs v w) : ∃ w', (convert 34 34 v).run Tryz.prog w = .ok v w' ∧ Grw n0 w w' := by
  obtain ⟨g, rfl, hn, hh, hs⟩ := h
  refine ⟨w.freeze ⟨g, xs.length, none⟩ 1, ?_, ?_⟩
  · simp [convert, run_underlying Tryz.underlying34, run_underlying Tryz.underlying5, markStringish, hs]
  · have hcell : ∀ p, (w.freeze ⟨g, xs.length, none⟩ 1).cell? p = w.cell? p := fun p => by
      unfold World.freeze
      rw [if_neg (by decide)]
      simp only [World.cell?, Array.getElem?_modify]
      by_cases hp : g = p.block
      · rw [if_pos hp]
        cases w.heap[p.block]? with
        | none => rfl
        | some o => cases o <;> rfl
      · rw [if_neg hp]
    have hshape : ∀ k, (w.freeze ⟨g, xs.length, none⟩ 1).shape? k = w.shape? k := fun k => by
      unfold World.freeze
      rw [if_neg (by decide)]
      simp only [World.shape?, Array.getElem?_modify]
      by_cases hp : g = k
      · rw [if_pos hp]
        cases w.heap[k]? with
        | none => rfl
        | some o => cases o <;> rfl
      · rw [if_neg hp]
    have hblock : ∀ k, k < n0 → (w.freeze ⟨g, xs.length, none⟩ 1).heap[k]? = w.heap[k]? := fun k hk => by
      unfold World.freeze
      rw [if_neg (by decide)]
      simp only [Array.getElem?_modify]
      rw [if_neg (by omega)]
    have hsz : (w.freeze ⟨g, xs.length, none⟩ 1).heap.size = w.heap.size := by
      unfold World.freeze
      rw [if_neg (by decide)]
      simp
    refine ⟨⟨?_, ?_, ?_, by omega, hblock⟩, fun p v hp => (hcell p).trans hp, fun k s hk => (hshape k).trans hk⟩
    all_goals (unfold World.freeze; rw [if_neg (by decide)])

end Go.Proofs.YtknmgefpjdfenaaGreat
