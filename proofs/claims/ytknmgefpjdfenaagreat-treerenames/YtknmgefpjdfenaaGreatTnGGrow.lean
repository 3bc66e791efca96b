/- A region that draws its order, and only grows memory: what each operation leaves, whatever order is drawn. -/
import Derived.Test.YtknmgefpjdfenaaGreatTnCLay
import Derived.Orders
import Derived.Lib.SlBytesConst
namespace Go.Proofs.YtknmgefpjdfenaaGreat
open Go.RowKit Go.Shelf
set_option linter.unusedVariables false
set_option maxRecDepth 100000

theorem ready_spec {md : Region.Mode} {ops : Array Oper} {listed : Array Bool} {i : Nat} (h : i ∈ Region.ready md ops listed) :
    ∃ o, ops[i]? = some o ∧ listed.getD i true = false ∧ ∀ e ∈ o.after, Region.binds md e = true → listed.getD e.on false = true := by
  unfold Region.ready at h
  rw [List.mem_filter] at h
  obtain ⟨_, h2⟩ := h
  rw [Bool.and_eq_true] at h2
  obtain ⟨h3, h4⟩ := h2
  cases ho : ops[i]? with
  | none => rw [ho] at h4; simp at h4
  | some o =>
    refine ⟨o, rfl, by simpa using h3, fun e he hb => ?_⟩
    rw [ho] at h4
    simp only [Option.map_some, Option.getD_some, Array.all_eq_true_iff_forall_mem] at h4
    have := h4 e he
    rw [hb] at this
    simpa using this

/-- What is known of the frame: no slot but those of the operations has turned. -/
def Frm (ops : Array Oper) (a0 a : Act) : Prop :=
  a.tmps.size = a0.tmps.size ∧ a.defers = a0.defers ∧ ∀ j, (∀ (i : Nat) (o : Oper), ops[i]? = some o → o.dst ≠ some j) → a.tmps.getD j undef = a0.tmps.getD j undef

theorem put_same (a : Act) (d : Nat) (v : Value) (h : d < a.tmps.size) : (a.put (some d) v).tmps.getD d undef = v := by
  simp [Act.put, Array.getD, h]

theorem put_other' (a : Act) (d j : Nat) (v : Value) (h : d ≠ j) : (a.put (some d) v).tmps.getD j undef = a.tmps.getD j undef := by
  simp only [Act.put, Array.getD_eq_getD_getElem?, Array.getElem?_setIfInBounds]
  rw [if_neg h]

theorem Frm.put {ops : Array Oper} {a0 a : Act} (h : Frm ops a0 a) {i : Nat} {o : Oper} (hi : ops[i]? = some o) (v : Value) : Frm ops a0 (a.put o.dst v) := by
  obtain ⟨h1, h2, h3⟩ := h
  cases hd : o.dst with
  | none => exact ⟨h1, h2, h3⟩
  | some d =>
    refine ⟨by simpa [Act.put] using h1, h2, fun j hj => ?_⟩
    rw [put_other' a d j v (fun e => hj i o hi (by rw [hd, e]))]
    exact h3 j hj

/-- No two operations leave their values in one slot, and all slots are there. -/
def dstsOk (ops : Array Oper) (n : Nat) : Bool :=
  (List.range ops.size).all fun i => (List.range ops.size).all fun j =>
    match (ops[i]?).bind (·.dst), (ops[j]?).bind (·.dst) with
    | some d, some d' => decide (d < n) && (decide (d ≠ d') || decide (i = j))
    | _, _ => true

theorem dstsOk_spec {ops : Array Oper} {n : Nat} (h : dstsOk ops n = true) {i j : Nat} {oi oj : Oper} {d d' : Nat} (hi : ops[i]? = some oi) (hj : ops[j]? = some oj) (hdi : oi.dst = some d) (hdj : oj.dst = some d') : d < n ∧ (d = d' → i = j) := by
  have li : i < ops.size := (Array.getElem?_eq_some_iff.1 hi).1
  have lj : j < ops.size := (Array.getElem?_eq_some_iff.1 hj).1
  simp only [dstsOk, List.all_eq_true, List.mem_range] at h
  have := h i li j lj
  rw [hi, hj] at this
  simp only [Option.bind_some, hdi, hdj] at this
  simp at this
  refine ⟨this.1, fun e => ?_⟩
  rcases this.2 with h' | h'
  · exact absurd e h'
  · exact h'

/-- What is known ahead of operation i. -/
def Ahead (ops : Array Oper) (R : Nat → Value → World → Prop) (o : Oper) (a : Act) (w : World) : Prop :=
  ∀ e ∈ o.after, Region.binds .any e = true → ∀ oe d, ops[e.on]? = some oe → oe.dst = some d → R e.on (a.tmps.getD d undef) w

theorem wpAny_grow {P : Program} {ops : Array Oper} {Q : Exit → Act → World → Prop} (a0 : Act) (R : Nat → Value → World → Prop) (B : World → Prop) (G : World → World → Prop)
    (hR : ∀ i v w w', R i v w → G w w' → R i v w') (hd : dstsOk ops a0.tmps.size = true)
    (hstep : ∀ i o a w, ops[i]? = some o → Frm ops a0 a → Ahead ops R o a w → B w → wpOp P ops Q i (fun a' w' => ∃ v, a' = a.put o.dst v ∧ R i v w' ∧ B w' ∧ G w w') a w)
    (hend : ∀ a w, Frm ops a0 a → (∀ i o d, ops[i]? = some o → o.dst = some d → R i (a.tmps.getD d undef) w) → B w → Q .normal a w) :
    ∀ (fuel : Nat) (listed : Array Bool) (a : Act) (w : World), listed.size = ops.size → Frm ops a0 a → B w →
      (∀ i o d, ops[i]? = some o → o.dst = some d → listed.getD i false = true → R i (a.tmps.getD d undef) w) →
      (Region.ready .any ops listed = [] → ∀ i, i < ops.size → listed.getD i false = true) → (fuel = 0 → Region.ready .any ops listed = []) →
      (∀ l : Array Bool, l.size = ops.size → Region.ready .any ops l = [] → ∀ i, i < ops.size → l.getD i false = true) →
      (∀ l : Array Bool, (l.toList.filter (fun x => !x)).length = 0 → Region.ready .any ops l = []) → (listed.toList.filter (fun x => !x)).length ≤ fuel →
      wpAny P .any ops Q fuel listed a w := by
  intro fuel
  induction fuel with
  | zero =>
    intro listed a w hs hF hB hL hE h0 _ _ _
    exact ⟨h0 rfl, hend a w hF (fun i o d hi hdo => hL i o d hi hdo (hE (h0 rfl) i (Array.getElem?_eq_some_iff.1 hi).1)) hB⟩
  | succ fuel ih =>
    intro listed a w hs hF hB hL hE h0 hA hZ hC
    refine ⟨fun hr => hend a w hF (fun i o d hi hdo => hL i o d hi hdo (hE hr i (Array.getElem?_eq_some_iff.1 hi).1)) hB, fun i hi => ?_⟩
    obtain ⟨o, ho, hun, haft⟩ := ready_spec hi
    have hlt : i < ops.size := (Array.getElem?_eq_some_iff.1 ho).1
    refine wpOp_mono ?_ (hstep i o a w ho hF (fun e he hb oe d hoe hde => hL e.on oe d hoe hde (haft e he hb)) hB)
    rintro a' w' ⟨v, rfl, hRv, hB', hG⟩
    have hset : (listed.setIfInBounds i true).size = ops.size := by simpa using hs
    have hcount : ((listed.setIfInBounds i true).toList.filter (fun x => !x)).length ≤ fuel := by
      have key : ∀ (l : List Bool) (k : Nat), l[k]? = some false → ((l.set k true).filter (fun x => !x)).length + 1 = (l.filter (fun x => !x)).length := by
        intro l
        induction l with
        | nil => intro k h; simp at h
        | cons x xs ihx =>
          intro k h
          cases k with
          | zero => simp at h; subst h; simp
          | succ k =>
            have := ihx k (by simpa using h)
            cases x <;> simp <;> omega
      have hget : listed.toList[i]? = some false := by
        have : i < listed.size := by omega
        rw [Array.getD_eq_getD_getElem?, Array.getElem?_eq_getElem this] at hun
        simp only [Option.getD_some] at hun
        rw [Array.getElem?_toList, Array.getElem?_eq_getElem this, hun]
      have := key listed.toList i hget
      rw [Array.toList_setIfInBounds]
      omega
    refine ih _ _ _ hset (hF.put ho v) hB' ?_ (hA _ hset) (fun hf => ?_) hA hZ hcount
    · intro j oj d hj hdj hlj
      by_cases hij : i = j
      · subst hij
        obtain rfl : o = oj := Option.some.inj (ho.symm.trans hj)
        have hsz : d < a.tmps.size := by rw [hF.1]; exact (dstsOk_spec hd ho ho hdj hdj).1
        rw [hdj, put_same a d v hsz]
        exact hRv
      · have hlj' : listed.getD j false = true := by
          rw [Array.getD_eq_getD_getElem?, Array.getElem?_setIfInBounds, if_neg hij] at hlj
          rw [Array.getD_eq_getD_getElem?]; exact hlj
        have hold := hR _ _ _ _ (hL j oj d hj hdj hlj') hG
        cases hdo : o.dst with
        | none => exact hold
        | some d' =>
          rw [put_other' a d' d v (fun e => hij ((dstsOk_spec hd ho hj hdo hdj).2 e))]
          exact hold
    · refine hZ _ (by omega)

/-- Is each operation bound only by ones ahead of it? Then none is left out. -/
def aftersOk (ops : Array Oper) : Bool := (List.range ops.size).all fun i => match ops[i]? with
  | some o => o.after.all fun e => decide (e.on < i)
  | none => true

theorem ready_all {ops : Array Oper} (h : aftersOk ops = true) (l : Array Bool) (hl : l.size = ops.size) (hr : Region.ready .any ops l = []) : ∀ i, i < ops.size → l.getD i false = true := by
  have main : ∀ n i, i < n → i < ops.size → l.getD i false = true := by
    intro n
    induction n with
    | zero => intro i h; omega
    | succ n ih =>
      intro i hi hlt
      by_cases hin : i < n
      · exact ih i hin hlt
      · cases hb : l.getD i false with
        | true => rfl
        | false =>
          exfalso
          have hmem : i ∈ Region.ready .any ops l := by
            unfold Region.ready
            rw [List.mem_filter]
            refine ⟨List.mem_range.2 hlt, ?_⟩
            have hli : i < l.size := by omega
            rw [Bool.and_eq_true]
            refine ⟨?_, ?_⟩
            · rw [Array.getD_eq_getD_getElem?, Array.getElem?_eq_getElem hli] at hb ⊢
              simpa using hb
            · rw [Array.getElem?_eq_getElem hlt]
              simp only [Option.map_some, Option.getD_some, Array.all_eq_true_iff_forall_mem]
              intro e he
              have ho := (List.all_eq_true.1 h) i (List.mem_range.2 hlt)
              rw [Array.getElem?_eq_getElem hlt] at ho
              simp only [Array.all_eq_true_iff_forall_mem] at ho
              have hlt' := ho e he
              simp only [decide_eq_true_eq] at hlt'
              rw [ih e.on (by omega) (by omega)]
              simp
          rw [hr] at hmem
          cases hmem
  exact fun i hi => main (i + 1) i (by omega) hi

theorem ready_none {ops : Array Oper} (l : Array Bool) (h : (l.toList.filter (fun x => !x)).length = 0) : Region.ready .any ops l = [] := by
  unfold Region.ready
  rw [List.filter_eq_nil_iff]
  intro i _ hc
  rw [Bool.and_eq_true] at hc
  have h1 : l.getD i true = false := by simpa using hc.1
  have hlt : i < l.size := by
    rcases Nat.lt_or_ge i l.size with h' | h'
    · exact h'
    · rw [Array.getD_eq_getD_getElem?, Array.getElem?_eq_none h'] at h1; simp at h1
  rw [Array.getD_eq_getD_getElem?, Array.getElem?_eq_getElem hlt] at h1
  have hm : l[i] ∈ l.toList := Array.mem_toList_iff.2 (Array.getElem_mem hlt)
  have hf : l[i] ∈ l.toList.filter (fun x => !x) := List.mem_filter.2 ⟨hm, by simpa using h1⟩
  rw [List.length_eq_zero_iff.1 h] at hf
  cases hf

/-- **The law.** -/
theorem wp_region_grow {P : Program} {ops : Array Oper} {Q : Exit → Act → World → Prop} {id : Nat} {a0 : Act} {w0 : World} (hm : P.follows .mixedOrders = true) (R : Nat → Value → World → Prop) (B : World → Prop) (G : World → World → Prop)
    (hR : ∀ i v w w', R i v w → G w w' → R i v w') (hd : dstsOk ops a0.tmps.size = true) (ha : aftersOk ops = true) (hB : B w0.drew)
    (hstep : ∀ i o a w, ops[i]? = some o → Frm ops a0 a → Ahead ops R o a w → B w → wpOp P ops Q i (fun a' w' => ∃ v, a' = a.put o.dst v ∧ R i v w' ∧ B w' ∧ G w w') a w)
    (hend : ∀ a w, Frm ops a0 a → (∀ i o d, ops[i]? = some o → o.dst = some d → R i (a.tmps.getD d undef) w) → B w → Q .normal a w) :
    (Code.region id ops true).wp P Q a0 w0 := by
  refine wp_region_any hm (wpAny_grow a0 R B G hR hd hstep hend ops.size _ a0 _ (by simp) ⟨rfl, rfl, fun _ _ => rfl⟩ hB ?_ (ready_all ha _ (by simp)) ?_ (ready_all ha) ready_none ?_)
  · intro i o d hi _ hl
    have hlt : i < ops.size := (Array.getElem?_eq_some_iff.1 hi).1
    rw [Array.getD_eq_getD_getElem?, Array.getElem?_replicate, if_pos hlt] at hl
    simp at hl
  · intro h0
    refine ready_none _ ?_
    rw [h0]; rfl
  · simp

end Go.Proofs.YtknmgefpjdfenaaGreat
