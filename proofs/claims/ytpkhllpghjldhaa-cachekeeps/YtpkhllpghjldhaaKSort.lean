/- slices.Sort at numbers, and what a range over the lines collects. -/
import Derived.Test.YtpkhllpghjldhaaKWrite
import Derived.Test.YtpkhllpghjldhaaDWaiting
import Derived.Shelf.SortM.Plain
import Derived.Shelf.SortM.SortNone
import Derived.Sort.OwnSortedInts
namespace Go.Proofs.Ytpkhllpghjldhaa
open Go.RowKit Go.Shelf Go.Maps
set_option linter.unusedVariables false

shelf_lay_g SlLaysM.n5 Slgm 5 at Try 57 as Try.sortL

/-- Sorted. -/
def srt (zs : List Int) : List Int := zs.mergeSort fun x y => decide (x ≤ y)

theorem srt_len (zs : List Int) : (srt zs).length = zs.length := List.length_mergeSort zs

theorem srt_perm (zs : List Int) : (srt zs).Perm zs := List.mergeSort_perm _ _

theorem le_tr : ∀ a b c : Int, decide (a ≤ b) = true → decide (b ≤ c) = true → decide (a ≤ c) = true := fun a b c h1 h2 => by simp only [decide_eq_true_eq] at *; omega

theorem le_to : ∀ a b : Int, (decide (a ≤ b) || decide (b ≤ a)) = true := fun a b => by simp only [Bool.or_eq_true, decide_eq_true_eq]; omega

theorem srt_rising (zs : List Int) : (srt zs).Pairwise (fun a b => decide (a ≤ b) = true) := List.pairwise_mergeSort le_tr le_to zs

theorem srt_eq {zs ts : List Int} (h : zs.Perm ts) (hs : ts.Pairwise (· ≤ ·)) : srt zs = ts := by
  refine List.Perm.eq_of_pairwise (le := fun a b => decide (a ≤ b) = true) (fun a b _ _ h1 h2 => ?_) (srt_rising zs) (hs.imp (fun h => by simpa using h)) ((srt_perm zs).trans h)
  simp only [decide_eq_true_eq] at h1 h2
  omega

/-- slices.Sort of a row of the call's own. -/
theorem sort_any (B : Nat) (v : Value) (zs : List Int) (w : World) (h : Gr B w v zs) (hn : zs.length ≤ 17592186044416) (hB : B ≤ w.heap.size) :
    Calls Try.prog 57 #[v] w fun e w' => e = .returned (.tuple #[]) ∧ Gr B w' v (srt zs) ∧ Below B w w' := by
  obtain ⟨h1, h2⟩ := h
  rcases h2 with ⟨rfl, h0⟩ | ⟨g, cap, cur, rfl, hg, hh, h2, h3, hc, ht⟩
  · obtain rfl : zs = [] := List.eq_nil_of_length_eq_zero h0
    have := AnyM.slices_Sort_int_none Try.sortL none 0 w
    change Calls Try.prog 57 _ _ _ at this
    refine this.mono ?_
    rintro e w' ⟨rfl, rfl⟩
    have e0 : srt [] = [] := by simp [srt]
    exact ⟨rfl, by rw [e0]; exact World.ownsRow_nil _ _ _ _, Below.refl _ _⟩
  · have hH : Go.Sort.Holds (Value.int .i64) w g 0 zs.toArray := holds_of_blockI hh (by simpa using ht)
    have hl : g < w.heap.size := (Array.getElem?_eq_some_iff.1 hh).1
    have := AnyM.slices_Sort_int Try.sortL g 0 cap zs w hH hl (by omega)
    change Calls Try.prog 57 _ _ _ at this
    refine this.mono ?_
    rintro e w' ⟨rfl, n, os, rfl⟩
    refine ⟨rfl, ?_, (Below.refl B w).grown (grownBy_sortedI _) hB (fun k e => by cases e; exact hg)⟩
    have := ownsRow_sortedI (n := n) (os := os) (ss := zs) (ts := srt zs) (srt_len zs) hg hh h2 h3 hc
    unfold Gr
    rw [srt_len]
    exact this

theorem Gr.one {B : Nat} {u : World} {v : Value} {L : List Int} (h : Gr B u v L) (hB : B ≤ u.heap.size) (hl : L.length + 1 ≤ 17592186044416) (x : Int) :
    ∃ v' w', (∀ ty, (Builtin.append_ #[22, 22] ty #[v, .slice (some ⟨u.heap.size, 0, none⟩) 1 1]).run Try.prog (u.alloc (.cells #[.int .i64 x] 3)) = .ok v' w') ∧ Gr B w' v' (L ++ [x]) ∧ Below B u w' ∧ (∀ k, k < u.heap.size → v.ownBlock ≠ some k → w'.heap[k]? = u.heap[k]?) := by
  obtain ⟨i0, hi, hz0, hz1, hz2⟩ := info_parts info3
  have hb : Below u.heap.size u (u.alloc (.cells #[.int .i64 x] 3)) := (Below.refl _ _).alloc (Nat.le_refl _) _
  have hr := World.rowIs_alloc u #[.int .i64 x] 3 (fun j => .int .i64 x) (fun j hj => by
    have : j = 0 := by simp at hj; omega
    subst this; rfl)
  obtain ⟨v', w', hrun, ho, hg, _⟩ := run_append_own (P := Try.prog) (u.alloc (.cells #[.int .i64 x] 3)) B 22 0 3 i0 (.int .i64 0) 1 8 Try.underlying22 hi hz0 hz1 hz2 rfl (by decide) v L.length _ (h.later hb) ⟨u.heap.size, 0, none⟩ 1 1 [.int .i64 x] rfl (by
      intro j z hj
      rw [World.add_zero_spot, Nat.zero_add]
      have hj2 : j = 0 := by have := (List.getElem?_eq_some_iff.1 hj).1; simp at this; omega
      rw [hr.cell (i := j) (by simp; omega)]
      subst hj2; simpa using hj) (by intro z hz; simp at hz; subst hz; rfl) (by unfold maxLen; omega) (by omega) (Nat.le_trans hB hb.size)
  refine ⟨v', w', fun ty => hrun, ?_, ?_, fun k hk hne => ?_⟩
  · unfold Gr
    rw [List.map_append, List.length_append]
    exact ho
  · exact (hb.mono hB).grown hg (Nat.le_trans hB hb.size) (fun k e => ((h.later hb).lt k e).1)
  · exact (hg.block k (Nat.lt_of_lt_of_le hk hb.size) (fun e => hne e.symm)).trans (hb.block k hk)

/-- Is the line of block b wanted? -/
def Cac.wants (C : Cac) (f : Ln → Bool) (b : Nat) : Bool := match C.L b with | some l => f l | none => false

theorem Cac.those_eq (C : Cac) (n : Nat) (f : Ln → Bool) : C.those n f = (List.range n).filter (C.wants f) := rfl

theorem Cac.mem_those {C : Cac} {n : Nat} {f : Ln → Bool} {b : Nat} : b ∈ C.those n f ↔ b < n ∧ C.wants f b = true := by rw [Cac.those_eq]; simp

theorem Cac.those_rising (C : Cac) (n : Nat) (f : Ln → Bool) : (C.those n f).Pairwise (· < ·) := (List.pairwise_lt_range).filter _

/-- The list that is answered. -/
def Cac.list (C : Cac) (n : Nat) (f : Ln → Bool) : List Int := (C.those n f).map (fun b : Nat => (b : Int))

theorem Cac.those_len (C : Cac) (n : Nat) (f : Ln → Bool) : (C.those n f).length ≤ n := by
  have := List.length_filter_le (C.wants f) (List.range n)
  simpa [Cac.those_eq] using this

/-- What a range has collected. -/
def Coll (C : Cac) (n : Nat) (f : Ln → Bool) (left : Lit → Bool) (ks : List Int) : Prop :=
  ks.Nodup ∧ ∀ x : Int, x ∈ ks ↔ ∃ b : Nat, x = b ∧ b < n ∧ C.wants f b = true ∧ left (.int .i64 (b : Int)) = false

theorem Coll.len {C : Cac} {n : Nat} {f : Ln → Bool} {left : Lit → Bool} {ks : List Int} (h : Coll C n f left ks) : ks.length ≤ n := by
  have hr : ((List.range n).map (fun b : Nat => (b : Int))).Nodup := by
    unfold List.Nodup
    rw [List.pairwise_map]
    exact (List.pairwise_lt_range (n := n)).imp (fun h => by omega)
  have h1 : ks.Perm (((List.range n).map (fun b : Nat => (b : Int))).filter (fun x => decide (x ∈ ks))) := by
    refine (List.perm_ext_iff_of_nodup h.1 (hr.filter _)).2 (fun x => ?_)
    rw [List.mem_filter, decide_eq_true_eq]
    refine ⟨fun hx => ⟨?_, hx⟩, fun hx => hx.2⟩
    obtain ⟨b, rfl, hb, _⟩ := (h.2 x).1 hx
    exact List.mem_map.2 ⟨b, by simpa using hb, rfl⟩
  rw [h1.length_eq]
  refine Nat.le_trans (List.length_filter_le _ _) ?_
  simp

theorem Coll.start (C : Cac) (m : KMem) (n : Nat) (f : Ln → Bool) : Coll C n f (Maps.has (mD n (C.M m))) [] := by
  refine ⟨List.nodup_nil, fun x => ⟨fun h => by simp at h, ?_⟩⟩
  rintro ⟨b, rfl, hb, hw, hl⟩
  rw [mD_has_at hb] at hl
  unfold Cac.wants at hw
  unfold Cac.M at hl
  cases e : C.L b <;> simp [e] at hw hl

theorem Coll.skip {C : Cac} {n : Nat} {f : Ln → Bool} {left : Lit → Bool} {ks : List Int} (h : Coll C n f left ks) {b : Nat} (hw : C.wants f b = false) : Coll C n f (fun z => left z && !z.sameKey (.int .i64 (b : Int))) ks := by
  refine ⟨h.1, fun x => (h.2 x).trans ⟨?_, ?_⟩⟩
  · rintro ⟨c, rfl, hc, hv, hl⟩
    exact ⟨c, rfl, hc, hv, by simp [hl]⟩
  · rintro ⟨c, rfl, hc, hv, hl⟩
    refine ⟨c, rfl, hc, hv, ?_⟩
    have hcb : c ≠ b := fun e => by rw [e, hw] at hv; cases hv
    have : (Lit.int .i64 (c : Int)).sameKey (.int .i64 (b : Int)) = false := by
      simp [Lit.sameKey]; omega
    simpa [this] using hl

theorem Coll.take {C : Cac} {n : Nat} {f : Ln → Bool} {left : Lit → Bool} {ks : List Int} (h : Coll C n f left ks) {b : Nat} (hb : b < n) (hw : C.wants f b = true) (hl : left (.int .i64 (b : Int)) = true) : Coll C n f (fun z => left z && !z.sameKey (.int .i64 (b : Int))) (ks ++ [(b : Int)]) := by
  have hnot : (b : Int) ∉ ks := fun hx => by
    obtain ⟨c, e, _, _, hc⟩ := (h.2 _).1 hx
    have : b = c := by omega
    rw [← this, hl] at hc
    cases hc
  refine ⟨?_, fun x => ?_⟩
  · rw [List.nodup_append]
    refine ⟨h.1, by simp, fun a ha c hc => ?_⟩
    simp at hc
    subst hc
    exact fun e => hnot (e ▸ ha)
  · rw [List.mem_append, List.mem_singleton, h.2 x]
    constructor
    · rintro (⟨c, rfl, hc, hv, hl'⟩ | rfl)
      · exact ⟨c, rfl, hc, hv, by simp [hl']⟩
      · exact ⟨b, rfl, hb, hw, by simp [Lit.sameKey]⟩
    · rintro ⟨c, rfl, hc, hv, hl'⟩
      by_cases e : c = b
      · subst e; exact .inr rfl
      · refine .inl ⟨c, rfl, hc, hv, ?_⟩
        have : (Lit.int .i64 (c : Int)).sameKey (.int .i64 (b : Int)) = false := by
          simp [Lit.sameKey]; omega
        simpa [this] using hl'

theorem Coll.done {C : Cac} {n : Nat} {f : Ln → Bool} {left : Lit → Bool} {ks : List Int} (h : Coll C n f left ks) (hl : ∀ kl, left kl = false) : srt ks = C.list n f := by
  have hr : (C.list n f).Pairwise (· < ·) := by
    unfold Cac.list
    rw [List.pairwise_map]
    exact (C.those_rising n f).imp (fun h => by omega)
  refine srt_eq ?_ (hr.imp (fun h => by omega))
  refine (List.perm_ext_iff_of_nodup h.1 (hr.imp (fun h => by omega))).2 (fun x => ?_)
  rw [h.2 x]
  unfold Cac.list
  rw [List.mem_map]
  constructor
  · rintro ⟨b, rfl, hb, hw, _⟩
    exact ⟨b, Cac.mem_those.2 ⟨hb, hw⟩, rfl⟩
  · rintro ⟨b, hb, rfl⟩
    obtain ⟨h1, h2⟩ := Cac.mem_those.1 hb
    exact ⟨b, rfl, h1, h2, hl _⟩

end Go.Proofs.Ytpkhllpghjldhaa
