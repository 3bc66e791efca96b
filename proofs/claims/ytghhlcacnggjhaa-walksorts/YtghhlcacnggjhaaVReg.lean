/- A region that draws its order, in a round as well: its first operations only read, the others stand in one order behind them. -/
import Derived.Test.YtghhlcacnggjhaaGBase
import Derived.Sort.BigQuietIn
import Derived.OwnWalkIn
namespace Go.Proofs.Ytghhlcacnggjhaa
set_option linter.unusedVariables false

section
variable {F : Fence} {n : Nat} {P : Program} {ops : Array Oper} {md : Region.Mode} {C : World → Prop}

def rgNoDefer (ops : Array Oper) : Bool := ops.all fun o => match o.op with | .defer .. => false | _ => true

theorem rgNoDefer_spec (h : rgNoDefer ops = true) {j : Nat} {o : Oper} (ho : ops[j]? = some o) (c : Call) : o.op ≠ .defer c := by
  intro heq
  have := Array.all_eq_true_iff_forall_mem.1 h o (Array.mem_of_getElem? ho)
  simp [heq] at this

def rgMask (s k : Nat) : Array Bool := ((List.range s).map fun j => decide (j < k)).toArray

def rgOver (m : Nat) (L : Array Bool) : Array Bool := L.mapIdx fun j b => b || decide (m ≤ j)

def rgPreds (md : Region.Mode) (ops : Array Oper) (k : Nat) : List Nat := match ops[k]? with
  | some o => (o.after.toList.filter (Region.binds md)).map (·.on)
  | none => []

def rgSweep (md : Region.Mode) (ops : Array Oper) : Nat → List Nat → List Nat
  | 0, S => S
  | k + 1, S => rgSweep md ops k (if S.contains k then rgPreds md ops k ++ S else S)

def rgLower (md : Region.Mode) (ops : Array Oper) : Bool := (List.range ops.size).all fun j => match ops[j]? with
  | some o => o.after.all fun e => !Region.binds md e || decide (e.on < j)
  | none => true

theorem rgLower_spec (h : rgLower md ops = true) (j : Nat) (o : Oper) (ho : ops[j]? = some o) (e : Edge) (he : e ∈ o.after) (hb : Region.binds md e = true) : e.on < j := by
  have hjs := (Array.getElem?_eq_some_iff.1 ho).1
  simp only [rgLower, List.all_eq_true, List.mem_range] at h
  have h := h j hjs
  rw [ho] at h
  have h := Array.all_eq_true_iff_forall_mem.1 h e he
  simpa [hb] using h

def rgTail (md : Region.Mode) (ops : Array Oper) (m : Nat) : Bool :=
  Region.noSelect ops && rgNoDefer ops && rgLower md ops && decide (m ≤ ops.size) && Region.lexFrom md ops m 0 (rgMask ops.size 0 |> rgOver m)
    && ((List.range ops.size).all fun k => decide (k < m) || (List.range m).all fun j => (rgSweep md ops ops.size (rgPreds md ops k)).contains j)
    && ((List.range ops.size).all fun k => decide (k < m) || Region.ready md ops (rgMask ops.size k) == [k])
    && (Region.ready md ops (rgMask ops.size ops.size)).isEmpty

def rgInv (md : Region.Mode) (ops : Array Oper) (L : Array Bool) : Prop := ∀ j o, ops[j]? = some o → L.getD j false = true → ∀ e ∈ o.after, Region.binds md e = true → L.getD e.on false = true

theorem rg_bool {L : Array Bool} {j : Nat} (h : j < L.size) : L.getD j true = L.getD j false := by simp [h]

theorem rg_false {L : Array Bool} {j : Nat} (h : L.getD j true = false) : L.getD j false = false := by
  rcases Nat.lt_or_ge j L.size with h' | h'
  · rw [← rg_bool h']; exact h
  · simp [Array.getElem?_eq_none h'] at h

theorem rg_sweep {L : Array Bool} (hI : rgInv md ops L) : ∀ (t : Nat) (S : List Nat), (∀ x ∈ S, L.getD x false = true) → ∀ x ∈ rgSweep md ops t S, L.getD x false = true
  | 0, S, h => h
  | k + 1, S, h => by
    refine rg_sweep hI k _ ?_
    split
    · rename_i hk
      intro x hx
      rcases List.mem_append.1 hx with hx | hx
      · unfold rgPreds at hx
        cases ho : ops[k]? with
        | none => rw [ho] at hx; cases hx
        | some o =>
          rw [ho] at hx
          obtain ⟨e, he, rfl⟩ := List.mem_map.1 hx
          obtain ⟨he, hb⟩ := List.mem_filter.1 he
          exact hI k o ho (h k (by simpa using hk)) e (Array.mem_toList_iff.1 he) hb
      · exact h x hx
    · exact h

theorem rg_over_get {L : Array Bool} {m j : Nat} (d : Bool) (h : j < L.size) : (rgOver m L).getD j d = (L.getD j d || decide (m ≤ j)) := by
  simp [rgOver, h]

theorem rg_over_set {L : Array Bool} {m i : Nat} : rgOver m (L.setIfInBounds i true) = (rgOver m L).setIfInBounds i true := by
  apply Array.ext
  · simp [rgOver]
  · intro j h1 h2
    have hj : j < L.size := by simpa [rgOver] using h1
    have e1 := Array.getElem_setIfInBounds (xs := L) (i := i) (a := true) hj
    have e2 := Array.getElem_setIfInBounds (xs := rgOver m L) (i := i) (a := true) (j := j) (by simpa [rgOver] using hj)
    rw [e2]
    simp only [rgOver, Array.getElem_mapIdx]
    rw [e1]
    split <;> simp

theorem rg_mask_set {s k : Nat} : (rgMask s k).setIfInBounds k true = rgMask s (k + 1) := by
  apply Array.ext
  · simp [rgMask]
  · intro j h1 h2
    have hj : j < (rgMask s k).size := by simpa using h1
    have e1 := Array.getElem_setIfInBounds (xs := rgMask s k) (i := k) (a := true) hj
    rw [e1]
    simp only [rgMask, List.getElem_toArray, List.getElem_map, List.getElem_range]
    split
    · rename_i h; subst h; simp
    · rename_i h
      have : (j < k) = (j < k + 1) := propext ⟨fun q => by omega, fun q => by omega⟩
      simp only [this]

theorem rg_of_mask {L : Array Bool} {s k : Nat} (hs : L.size = s) (h1 : ∀ j, j < k → j < s → L.getD j true = true) (h2 : ∀ j, k ≤ j → j < s → L.getD j true = false) : L = rgMask s k := by
  apply Array.ext
  · simp [rgMask, hs]
  · intro j g1 g2
    simp only [rgMask, List.getElem_toArray, List.getElem_map, List.getElem_range]
    rcases Nat.lt_or_ge j k with h | h
    · have := h1 j h (by omega)
      simpa [g1, h] using this
    · have := h2 j h (by omega)
      simp [g1] at this
      rw [this]
      simp; omega

theorem rg_wp_of_quiet {o : Oper} {a : Act} {K : Act → Prop} {K' : Act → World → Prop} {Q' : Exit → Act → World → Prop} {w : World} (hnd : ∀ c, o.op ≠ .defer c) (hw : C w) (h : ∀ a w', C w' → K a → K' a w')
    (ha : o.askedIn F P a C) (hh : o.quietIn F n P a C K) : o.wpIn F n P a w K' Q' := by
  obtain ⟨v, h1, h2⟩ := hh
  have h3 := h1 w hw
  unfold Oper.quietAtIn at h3
  unfold Oper.wpIn
  refine ⟨ha w hw, ?_⟩
  rw [Oper.semAt_plain F _ _ hnd]
  generalize (execOp a.eval o).run P w = r at *
  cases r with
  | ok x w' =>
    cases x <;> simp only [Oper.quietUponIn] at h3 <;> simp only [Oper.uponIn]
    case value u => obtain ⟨rfl, rfl⟩ := h3; exact h _ _ hw h2
    case skip => obtain ⟨rfl, rfl⟩ := h3; exact h _ _ hw h2
    case enter f args =>
      obtain ⟨rfl, hd, hc⟩ := h3
      exact ⟨hd, hc.mono fun e w'' ⟨he, hw''⟩ => by subst he; exact h _ _ hw'' h2⟩
  | halt x w' => simp only [Oper.quietUponIn] at h3

theorem rg_op_of_q {i : Nat} {a : Act} {K : Act → Prop} {K' : Act → World → Prop} {Q' : Exit → Act → World → Prop} {w : World} (hnd : rgNoDefer ops = true) (hC : C w) (h : ∀ a w', C w' → K a → K' a w')
    (hh : qOpIn F n P ops C i K a) : wpOpIn F n P ops Q' i K' a w := by
  unfold qOpIn at hh
  unfold wpOpIn
  split
  · rename_i ho; simp only [ho] at hh; exact h _ _ hC hh
  · rename_i o ho
    simp only [ho] at hh
    obtain ⟨ha, hh⟩ := hh
    split
    · rename_i hw; simp only [hw, if_true] at hh; exact rg_wp_of_quiet (rgNoDefer_spec hnd ho) hC h ha hh
    · rename_i hw; simp only [hw] at hh; exact ⟨ha w hC, h _ _ hC hh⟩

theorem rg_lex {Q : Act → Prop} (hs : Region.noSelect ops = true) : ∀ (l : List Oper) (k : Nat) (listed : Array Bool) (a : Act), (∀ j, j < l.length → l[j]? = ops[k + j]?) →
    Region.lexFrom md ops l.length k listed = true → wpQuietIn F n P ops C Q l a → wpAnyQIn F n P md ops C Q l.length listed a
  | [], _, _, _, _, hB, h => ⟨by simpa [Region.lexFrom] using hB, h⟩
  | o :: l, k, listed, a, hl, hB, h => by
    have h0 : ops[k]? = some o := by simpa using (hl 0 (by simp)).symm
    simp only [List.length_cons, Region.lexFrom, Bool.and_eq_true] at hB
    obtain ⟨⟨hr, hf⟩, hB'⟩ := hB
    have hst : qOpIn F n P ops C k (wpQuietIn F n P ops C Q l) a := by unfold qOpIn; simp only [h0]; exact h
    obtain ⟨v, hy, hK⟩ := yieldsQuiet_of_qOpIn h0 hst
    exact wpAnyQIn_first h0 (Region.noSelect_spec hs) l.length listed a (Region.free_spec h0 hf) (by simpa using hr) hy
      (rg_lex hs l (k + 1) _ _ (fun j hj => by have := hl (j + 1) (by simpa using hj); simpa [Nat.add_assoc, Nat.add_comm 1 j] using this) hB' hK)

theorem rg_tail {Q : Exit → Act → World → Prop} {m : Nat} (hT : ∀ k, m ≤ k → k < ops.size → Region.ready md ops (rgMask ops.size k) = [k]) (hE : Region.ready md ops (rgMask ops.size ops.size) = []) :
    ∀ (t k fuel : Nat) (a : Act) (w : World), k + t = ops.size → m ≤ k → wpListIn F n P ops Q (ops.toList.drop k) a w → wpAnyIn F n P md ops Q (fuel + t) (rgMask ops.size k) a w
  | 0, k, fuel, a, w, hk, hm, h => by
    have e : k = ops.size := by omega
    subst e
    rw [List.drop_eq_nil_of_le (by simp)] at h
    exact wpAnyIn_done hE h _
  | t + 1, k, fuel, a, w, hk, hm, h => by
    have hlt : k < ops.size := by omega
    rw [List.drop_eq_getElem_cons (by simpa using hlt)] at h
    refine wpAnyIn_all (hT k hm hlt) (by simp) (fun i hi => ?_)
    have ei : i = k := by simpa using hi
    subst ei
    rw [rg_mask_set]
    unfold wpOpIn
    have ho : ops[i]? = some (ops.toList[i]'(by simpa using hlt)) := by simp [hlt]
    rw [ho]
    unfold wpListIn at h
    simp only
    split
    · rename_i hw
      rw [if_pos hw] at h
      exact Oper.wpIn_mono (fun a' w' h' => rg_tail hT hE t (i + 1) fuel a' w' (by omega) (by omega) h') h
    · rename_i hw
      rw [if_neg hw] at h
      exact ⟨h.1, rg_tail hT hE t (i + 1) fuel _ _ (by omega) (by omega) h.2⟩

theorem rg_bridge {Q : Exit → Act → World → Prop} {m t : Nat} {T : Act → World → Prop} (htail : ∀ fuel a w, T a w → wpAnyIn F n P md ops Q (fuel + t) (rgMask ops.size m) a w) (hmz : m ≤ ops.size) (hnd : rgNoDefer ops = true) (hlow : ∀ (j : Nat) (o : Oper), ops[j]? = some o → ∀ e ∈ o.after, Region.binds md e = true → e.on < j)
    (hcov : ∀ k, m ≤ k → k < ops.size → ∀ j, j < m → j ∈ rgSweep md ops ops.size (rgPreds md ops k)) :
    ∀ (fuel : Nat) (L : Array Bool) (a : Act) (w : World), L.size = ops.size → (∀ j, m ≤ j → j < ops.size → L.getD j true = false) → rgInv md ops L → C w →
      wpAnyQIn F n P md ops C (fun a' => ∀ w', C w' → T a' w') fuel (rgOver m L) a → wpAnyIn F n P md ops Q (fuel + t) L a w := by
  intro fuel
  induction fuel with
  | zero =>
    intro L a w hs hun hI hw h
    have hall : ∀ j, j < m → j < ops.size → L.getD j true = true := by
      intro j
      induction j using Nat.strongRecOn with
      | _ j ih =>
        intro hj hjs
        rcases hb : L.getD j true with _ | _
        · exfalso
          have : j ∈ Region.ready md ops (rgOver m L) := by
            refine mem_ready.2 ⟨?_, ops[j], by simp [hjs], fun e he hbe => ?_⟩
            · rw [rg_over_get _ (by omega), hb]; simp; omega
            · have hlt := hlow j ops[j] (by simp [hjs]) e he hbe
              have := ih e.on hlt (by omega) (by omega)
              rw [rg_bool (by omega)] at this
              rw [rg_over_get _ (by omega), this]; rfl
          rw [h.1] at this
          cases this
        · rfl
    rw [rg_of_mask hs hall hun]
    exact htail 0 a w (h.2 w hw)
  | succ fuel ihf =>
    intro L a w hs hun hI hw h
    by_cases hr : Region.ready md ops (rgOver m L) = []
    · have hall : ∀ j, j < m → j < ops.size → L.getD j true = true := by
        intro j
        induction j using Nat.strongRecOn with
        | _ j ih =>
          intro hj hjs
          rcases hb : L.getD j true with _ | _
          · exfalso
            have : j ∈ Region.ready md ops (rgOver m L) := by
              refine mem_ready.2 ⟨?_, ops[j], by simp [hjs], fun e he hbe => ?_⟩
              · rw [rg_over_get _ (by omega), hb]; simp; omega
              · have hlt := hlow j ops[j] (by simp [hjs]) e he hbe
                have := ih e.on hlt (by omega) (by omega)
                rw [rg_bool (by omega)] at this
                rw [rg_over_get _ (by omega), this]; rfl
            rw [hr] at this
            cases this
          · rfl
      rw [rg_of_mask hs hall hun]
      exact htail (fuel + 1) a w (h.1 hr w hw)
    · rw [Nat.add_right_comm]
      refine ⟨fun h0 => ?_, fun i hi => ?_⟩
      · exfalso
        obtain ⟨j, hj⟩ := List.exists_mem_of_ne_nil _ hr
        obtain ⟨hjf, o, ho, hall⟩ := mem_ready.1 hj
        have hjs : j < ops.size := (Array.getElem?_eq_some_iff.1 ho).1
        rw [rg_over_get _ (by omega)] at hjf
        simp only [Bool.or_eq_false_iff, decide_eq_false_iff_not] at hjf
        have : j ∈ Region.ready md ops L := by
          refine mem_ready.2 ⟨hjf.1, o, ho, fun e he hb => ?_⟩
          have hlt := hlow j o ho e he hb
          have := hall e he hb
          rw [rg_over_get _ (by omega)] at this
          simp only [Bool.or_eq_true, decide_eq_true_eq] at this
          rcases this with this | this
          · exact this
          · omega
        rw [h0] at this
        cases this
      · obtain ⟨hif, o, ho, hall⟩ := mem_ready.1 hi
        have his : i < ops.size := (Array.getElem?_eq_some_iff.1 ho).1
        have him : i < m := by
          rcases Nat.lt_or_ge i m with q | q
          · exact q
          · exfalso
            refine hr (List.eq_nil_iff_forall_not_mem.2 fun j hj => ?_)
            obtain ⟨hjf, oj, hoj, _⟩ := mem_ready.1 hj
            have hjs : j < ops.size := (Array.getElem?_eq_some_iff.1 hoj).1
            rw [rg_over_get _ (by omega)] at hjf
            simp only [Bool.or_eq_false_iff, decide_eq_false_iff_not] at hjf
            have h3 := rg_sweep hI ops.size (rgPreds md ops i) (fun x hx => by
              unfold rgPreds at hx
              rw [ho] at hx
              obtain ⟨e, he, rfl⟩ := List.mem_map.1 hx
              obtain ⟨he, hb⟩ := List.mem_filter.1 he
              exact hall e (Array.mem_toList_iff.1 he) hb) j (hcov i q his j (by omega))
            rw [rg_bool (by omega), h3] at hjf
            exact Bool.noConfusion hjf.1
        have hi2 : i ∈ Region.ready md ops (rgOver m L) := by
          refine mem_ready.2 ⟨?_, o, ho, fun e he hb => ?_⟩
          · rw [rg_over_get _ (by omega), hif]; simp; omega
          · have hlt := hlow i o ho e he hb
            rw [rg_over_get _ (by omega), hall e he hb]; rfl
        refine rg_op_of_q hnd hw (fun a' w' hw' h' => ?_) (h.2 i hi2)
        refine ihf (L.setIfInBounds i true) a' w' (by simpa using hs) (fun j hj hjs => ?_) ?_ hw' (by rw [rg_over_set]; exact h')
        · rw [getD_set_ne true (by omega)]; exact hun j hj hjs
        · intro j oj hoj hjt e he hb
          by_cases hij : i = j
          · subst hij
            rw [ho] at hoj
            cases hoj
            exact getD_set_true (hall e he hb)
          · rw [getD_set_ne false hij] at hjt
            exact getD_set_true (hI j oj hoj hjt e he hb)

/-- A region that draws its order: its first m operations only read; the others, each behind all that stand ahead of it, are walked as in a region that draws none. -/
theorem wpIn_region_tail {id : Nat} {Q : Exit → Act → World → Prop} {a : Act} {w : World} {l : List Oper} (m : Nat) (hm : P.follows .mixedOrders = true) (hB : rgTail .any l.toArray m = true)
    (h : wpQuietIn F n P l.toArray (fun w' => ∃ n, w' = w.drewN n) (fun a' => ∀ w', (∃ n, w' = w.drewN n) → wpListIn F n P l.toArray Q (l.drop m) a' w') (l.take m) a) : (Code.region id l.toArray true).wpIn F n P Q a w := by
  simp only [rgTail, Bool.and_eq_true, List.all_eq_true, List.mem_range, Bool.or_eq_true, decide_eq_true_eq, beq_iff_eq, List.isEmpty_iff, List.contains_iff_mem] at hB
  obtain ⟨⟨⟨⟨⟨⟨⟨hs, hnd⟩, hlow⟩, hmz⟩, hlex⟩, hcov⟩, hT⟩, hE⟩ := hB
  refine wpIn_region_any hm ?_
  have e0 : (Array.replicate l.toArray.size false) = rgMask l.toArray.size 0 := rg_of_mask (by simp) (fun j hj => by omega) (fun j _ hj => by simp at hj; simp [hj])
  rw [e0]
  have hz : l.toArray.size = m + (l.toArray.size - m) := by omega
  have hlen : (l.take m).length = m := by simp at hmz ⊢; omega
  have key := rg_bridge (F := F) (n := n) (P := P) (C := fun w' => ∃ n, w' = w.drewN n) (Q := Q) (md := .any) (ops := l.toArray) (m := m) (T := fun a' w' => wpListIn F n P l.toArray Q (l.toArray.toList.drop m) a' w') (fun fuel a w h => rg_tail (fun k hk hks => (hT k hks).resolve_left (by omega)) hE (l.toArray.size - m) m fuel a w (by omega) (Nat.le_refl _) h) hmz hnd (rgLower_spec hlow) (fun k hk hks j hj => (hcov k hks).resolve_left (by omega) j hj) m (rgMask l.toArray.size 0) a (w.drewN 1) (by simp [rgMask]) (fun j _ hj => by simp at hj; simp [rgMask, hj]) (fun j o ho hj => by
      exfalso
      have hjs : j < l.length := by simpa using (Array.getElem?_eq_some_iff.1 ho).1
      simp [rgMask, hjs] at hj) ⟨1, rfl⟩ ?_
  · rw [← hz] at key
    exact key
  · have := rg_lex (F := F) (n := n) (P := P) (C := fun w' => ∃ n, w' = w.drewN n) (md := .any) hs (l.take m) 0 (rgMask l.toArray.size 0 |> rgOver m) a (fun j hj => by
      rw [hlen] at hj
      simp [hj]) (by rw [hlen]; exact hlex) h
    rw [hlen] at this
    exact this

/-- The post of an operation, with what follows it. -/
def rgChk (Q : Exit → Act → World → Prop) (K : Act → World → Prop) : Exit → Act → World → Prop
  | .normal, a, w => K a w
  | e, a, w => Q e a w

theorem rgChk_normal {Q : Exit → Act → World → Prop} {K : Act → World → Prop} {a : Act} {w : World} (h : K a w) : rgChk Q K .normal a w := h

theorem rg_chk_op {Q : Exit → Act → World → Prop} {o : Oper} {a : Act} {w : World} {K K' : Act → World → Prop} (h : o.wpIn F n P a w K (rgChk Q K')) : o.wpIn F n P a w K Q := by
  unfold Oper.wpIn at *
  refine ⟨h.1, ?_⟩
  have hh := h.2
  generalize (o.semAt F.round a.eval).run P w = r at *
  cases r with
  | ok x w' =>
    cases x <;> simp only [Oper.uponIn] at hh ⊢ <;>
      first
        | exact hh
        | exact ⟨hh.1, CallsIn.mono hh.2 (fun e w'' he => by cases e <;> exact he)⟩
        | exact ⟨hh.1, RoundIn.mono hh.2 (fun e w'' he => by cases e <;> exact he)⟩
  | halt x w' => cases x <;> simp only [Oper.uponIn] at hh ⊢ <;> exact hh

theorem rg_any_of_quiet {Q : Act → Prop} {Q' : Exit → Act → World → Prop} (hnd : rgNoDefer ops = true) (hQ : ∀ a w, C w → Q a → Q' .normal a w) : ∀ (fuel : Nat) (listed : Array Bool) (a : Act) (w : World), C w →
    wpAnyQIn F n P md ops C Q fuel listed a → wpAnyIn F n P md ops Q' fuel listed a w
  | 0, _, _, _, hw, h => ⟨h.1, hQ _ _ hw h.2⟩
  | fuel + 1, _, _, _, hw, h => ⟨fun h0 => hQ _ _ hw (h.1 h0), fun i hi => rg_op_of_q hnd hw (fun a' w' hw' => rg_any_of_quiet hnd hQ fuel _ a' w' hw') (h.2 i hi)⟩

theorem rg_any_more {Q : Exit → Act → World → Prop} : ∀ (fuel k : Nat) (L : Array Bool) (a : Act) (w : World), wpAnyIn F n P md ops Q fuel L a w → wpAnyIn F n P md ops Q (k + fuel) L a w
  | 0, k, L, a, w, h => wpAnyIn_done h.1 h.2 _
  | fuel + 1, k, L, a, w, h => ⟨h.1, fun i hi => wpOpIn_mono (fun a' w' h' => rg_any_more fuel k _ a' w' h') (h.2 i hi)⟩

def rgCall (md : Region.Mode) (ops : Array Oper) (m : Nat) : Bool :=
  Region.noSelect ops && rgNoDefer ops && rgLower md ops && decide (m < ops.size) && Region.lexFrom md ops m 0 (rgMask ops.size 0 |> rgOver m)
    && ((List.range ops.size).all fun k => decide (k < m) || (List.range m).all fun j => (rgSweep md ops ops.size (rgPreds md ops k)).contains j)
    && Region.ready md ops (rgMask ops.size m) == [m] && Region.lexFrom md ops (ops.size - (m + 1)) (m + 1) (rgMask ops.size (m + 1))

/-- A region that draws its order: its first m operations only read, then comes one (a call, say), behind it all others only read. -/
theorem wpIn_region_call {id : Nat} {Q : Exit → Act → World → Prop} {a : Act} {w : World} {l : List Oper} (m : Nat) (hm : P.follows .mixedOrders = true) (hB : rgCall .any l.toArray m = true)
    (h : wpQuietIn F n P l.toArray (fun w' => ∃ n, w' = w.drewN n) (fun a' => ∀ w', (∃ n, w' = w.drewN n) → wpListIn F n P l.toArray (rgChk Q fun a2 w2 => wpQuietIn F n P l.toArray (fun w' => ∃ n, w' = w2.drewN n) (fun a3 => ∀ w3, (∃ n, w3 = w2.drewN n) → Q .normal a3 w3) (l.drop (m + 1)) a2) ((l.drop m).take 1) a' w') (l.take m) a) : (Code.region id l.toArray true).wpIn F n P Q a w := by
  simp only [rgCall, Bool.and_eq_true, List.all_eq_true, List.mem_range, Bool.or_eq_true, decide_eq_true_eq, beq_iff_eq, List.contains_iff_mem] at hB
  obtain ⟨⟨⟨⟨⟨⟨⟨hs, hnd⟩, hlow⟩, hmz⟩, hlex⟩, hcov⟩, hT⟩, hL2⟩ := hB
  refine wpIn_region_any hm ?_
  have e0 : (Array.replicate l.toArray.size false) = rgMask l.toArray.size 0 := rg_of_mask (by simp) (fun j hj => by omega) (fun j _ hj => by simp at hj; simp [hj])
  rw [e0]
  have hml : m < l.length := by simpa using hmz
  have hz : l.toArray.size = m + ((l.toArray.size - (m + 1)) + 1) := by omega
  have hlen : (l.take m).length = m := by simp; omega
  have hd1 : (l.drop m).take 1 = [l[m]] := by rw [List.drop_eq_getElem_cons hml]; rfl
  have ho : l.toArray[m]? = some l[m] := by simp [hml]
  rw [hd1] at h
  have key := rg_bridge (F := F) (n := n) (P := P) (C := fun w' => ∃ n, w' = w.drewN n) (Q := Q) (md := .any) (ops := l.toArray) (m := m) (t := (l.toArray.size - (m + 1)) + 1) (T := fun a' w' => wpListIn F n P l.toArray (rgChk Q fun a2 w2 => wpQuietIn F n P l.toArray (fun w' => ∃ n, w' = w2.drewN n) (fun a3 => ∀ w3, (∃ n, w3 = w2.drewN n) → Q .normal a3 w3) (l.drop (m + 1)) a2) [l[m]] a' w') (fun fuel a w h => ?_) (by omega) hnd (rgLower_spec hlow) (fun k hk hks j hj => (hcov k hks).resolve_left (by omega) j hj) m (rgMask l.toArray.size 0) a (w.drewN 1) (by simp [rgMask]) (fun j _ hj => by simp at hj; simp [rgMask, hj]) (fun j o ho hj => by
      exfalso
      have hjs : j < l.length := by simpa using (Array.getElem?_eq_some_iff.1 ho).1
      simp [rgMask, hjs] at hj) ⟨1, rfl⟩ ?_
  · rw [← hz] at key
    exact key
  · have suf : ∀ a2 w2, wpQuietIn F n P l.toArray (fun w' => ∃ n, w' = w2.drewN n) (fun a3 => ∀ w3, (∃ n, w3 = w2.drewN n) → Q .normal a3 w3) (l.drop (m + 1)) a2 → wpAnyIn F n P .any l.toArray Q (fuel + (l.toArray.size - (m + 1))) (rgMask l.toArray.size (m + 1)) a2 w2 := fun a2 w2 h2 => by
      have hl2 : (l.drop (m + 1)).length = l.toArray.size - (m + 1) := by simp
      have := rg_lex (F := F) (n := n) (P := P) (C := fun w' => ∃ n, w' = w2.drewN n) (md := .any) hs (l.drop (m + 1)) (m + 1) (rgMask l.toArray.size (m + 1)) a2 (fun j hj => by simp) (by rw [hl2]; exact hL2) h2
      rw [hl2] at this
      exact rg_any_more _ _ _ _ _ (rg_any_of_quiet (C := fun w' => ∃ n, w' = w2.drewN n) hnd (fun a w hw h => h w hw) _ _ _ _ ⟨0, rfl⟩ this)
    rw [← Nat.add_assoc]
    refine wpAnyIn_all hT (by simp) (fun i hi => ?_)
    have ei : i = m := by simpa using hi
    subst ei
    rw [rg_mask_set]
    unfold wpOpIn
    rw [ho]
    simp only [wpListIn] at h
    simp only
    split
    · rename_i hw
      rw [if_pos hw] at h
      exact Oper.wpIn_mono suf (rg_chk_op h)
    · rename_i hw
      rw [if_neg hw] at h
      exact ⟨h.1, suf _ _ h.2⟩
  · have := rg_lex (F := F) (n := n) (P := P) (C := fun w' => ∃ n, w' = w.drewN n) (md := .any) hs (l.take m) 0 (rgMask l.toArray.size 0 |> rgOver m) a (fun j hj => by
      rw [hlen] at hj
      simp [hj]) (by rw [hlen]; exact hlex) h
    rw [hlen] at this
    exact this

end
end Go.Proofs.Ytghhlcacnggjhaa
