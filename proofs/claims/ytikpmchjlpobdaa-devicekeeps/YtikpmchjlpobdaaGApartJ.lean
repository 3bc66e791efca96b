/- The contract of skerryref01.IntsApart: the walk. -/
import Derived.Test.YtikpmchjlpobdaaGApartI
namespace Go.Proofs.Ytikpmchjlpobdaa
open Go.RowKit Go.Shelf
set_option linter.unusedVariables false
set_option maxRecDepth 100000

theorem infoIs : (Try.prog.info? 32).map (fun i => (i.zero, i.size, i.bytes)) = some (some (.slice none 0 0), 1, 24) := by kernel_rfl

set_option maxRecDepth 100000 in
set_option maxHeartbeats 4000000 in
theorem iapart_any (N Lb : Nat) (S : ILists) (hS : S.Good) (w : World) (hN : S.N = N) (hLb : S.Lb = Lb) (h0 : IPh1 S w w 0 0) (hB : S.B ≤ w.heap.size) :
    Calls Try.prog 40 #[.slice (some ⟨Lb, 0, none⟩) N N] w fun e w' => e = .returned (.bool true) ∧ Below S.B w w' := by
  have HS := hide hS
  have H0 := hide h0
  have hNb : N ≤ 64 := by rw [← hN]; exact hS.few
  have HN := hide hN
  have HL := hide hLb
  have HO0 := hide hS.off0
  clear hS h0 hN hLb
  go_enter Try.func40, Try.ntmps40
  go_wp2
  go_loopw [3, 4] (fun n i wr => ∃ p o : Nat, p ≤ N ∧ i = .int .i64 p ∧ n = .int .i64 o ∧ Hid (o = S.off p) ∧ Hid (IPh1 S w wr p 0)) (fun _ i _ => N - (intOf i).toNat)
  case atStart => exact ⟨0, 0, Nat.zero_le _, rfl, rfl, (unhide HO0).symm, H0⟩
  case round =>
    obtain ⟨p, o, hp, rfl, rfl, ho, hPh⟩ := hrel
    by_cases hlt : p < N
    · have hSg := unhide HS
      obtain ⟨A, hA⟩ : ∃ A, S.A p = A := ⟨_, rfl⟩
      obtain ⟨L, hL⟩ : ∃ L, S.L p = L := ⟨_, rfl⟩
      obtain ⟨C, hC⟩ : ∃ C, S.C p = C := ⟨_, rfl⟩
      have hob := hSg.off_bd p (by rw [unhide HN]; omega)
      rw [← ho.out] at hob
      have hLb : L ≤ 17592186043904 := by rw [← hL]; exact hSg.fit p (by rw [unhide HN]; exact hlt)
      have HA := hide hA
      have HLL := hide hL
      have HC := hide hC
      clear hA hL hC hSg
      go_wp2
      go_loopw [3, 5] (fun n j wr => ∃ q : Nat, q ≤ L ∧ j = .int .i64 q ∧ n = .int .i64 ((o + q : Nat) : Int) ∧ Hid (IPh1 S w wr p q)) (fun _ j _ => L - (intOf j).toNat)
      case atStart => exact ⟨0, Nat.zero_le _, rfl, rfl, hPh⟩
      case round =>
        obtain ⟨q, hq, rfl, rfl, hPh2⟩ := hrel
        have hls : wr.cell? ⟨Lb, p, none⟩ = some (.slice A L C) := by
          have := (unhide hPh2).ls (unhide HS) (p := p) (by rw [unhide HN]; exact hlt)
          rwa [unhide HL, unhide HA, unhide HLL, unhide HC] at this
        by_cases hlt2 : q < L
        · obtain ⟨g, v, eA, hcell, hfr, hPh3⟩ := (unhide hPh2).store (unhide HS) (by rw [unhide HN]; exact hlt) (by rw [unhide HLL]; exact hlt2)
          rw [unhide HA] at eA
          subst eA
          rw [← ho.out] at hPh3
          have HPh3 := hide hPh3
          clear hPh3
          have hltI : (q : Int) < (L : Int) := by omega
          go_wp2
          exact ⟨⟨q + 1, by omega, by go_num, by go_num, (by have h := unhide HPh3; unfold imk at h; exact h)⟩, by simp [intOf]; omega⟩
        · obtain rfl : q = L := by omega
          go_wp2
          exact ⟨⟨p + 1, o + q, by omega, by go_num, rfl, by show o + q = S.off (p + 1); rw [(unhide HS).offS p (by rw [unhide HN]; exact hlt), unhide HLL, ho.out], by have h := unhide hPh2; rw [← unhide HLL] at h; exact h.next⟩, by simp [intOf]; omega⟩
    · obtain rfl : p = N := by omega
      have hPhN := unhide hPh
      rw [← unhide HN] at hPhN
      have HPN := hide hPhN
      obtain ⟨B2, hB2⟩ : ∃ B2, wr.heap.size = B2 := ⟨_, rfl⟩
      have HB2 := hide hB2
      have HLt : Hid (S.Lb < B2 ∧ S.B ≤ B2) := by
        refine ⟨?_, ?_⟩
        · rw [← hB2]; exact (Array.getElem?_eq_some_iff.1 hPhN.1).1
        · rw [← hB2]; exact Nat.le_trans hB hPhN.2.1.size
      have hob := (unhide HS).off_bd p (by rw [unhide HN]; omega)
      rw [← ho.out] at hob
      obtain ⟨i22, hi, hz0, hz1, hz2⟩ := info_parts infoIs
      have HI := hide (⟨hi, hz0, hz1, hz2⟩ : Try.prog.info? 32 = some i22 ∧ i22.zero = some (.slice none 0 0) ∧ i22.size = 1 ∧ i22.bytes = 24)
      have HST : Hid (IPh2 S B2 w wr 0 [] (.slice none 0 0)) := IPh2.start hPhN
      clear hi hz0 hz1 hz2 hB2 hPh hPhN HPN H0 hlt
      go_wp2
      go_loopw [6, 7, 8] (fun gr kk i wr => ∃ (m : Nat) (us : List (Option Addr × Nat × Nat)), m ≤ p ∧ i = .int .i64 m ∧ kk = .int .i64 ((o + 6 * m : Nat) : Int) ∧ Hid (IPh2 S B2 w wr m us gr) ∧ Hid (B2 ≤ wr.heap.size)) (fun _ _ i _ => p - (intOf i).toNat)
      case atStart => exact ⟨0, [], Nat.zero_le _, rfl, rfl, HST, Nat.le_of_eq (unhide HB2).symm⟩
      case round =>
        obtain ⟨m, us, hm, rfl, rfl, hPh2, hsz⟩ := hrel
        clear HB2 HST
        by_cases hlt : m < p
        · obtain ⟨A, hA⟩ : ∃ A, S.A m = A := ⟨_, rfl⟩
          obtain ⟨L, hL⟩ : ∃ L, S.L m = L := ⟨_, rfl⟩
          obtain ⟨C, hC⟩ : ∃ C, S.C m = C := ⟨_, rfl⟩
          have hls : wr.cell? ⟨Lb, m, none⟩ = some (.slice A L C) := by
            have := (unhide hPh2).1.ls (unhide HS) (p := m) (by rw [unhide HN]; exact hlt)
            rwa [unhide HL, hA, hL, hC] at this
          have hLb : L ≤ 17592186043904 := by rw [← hL]; exact (unhide HS).fit m (by rw [unhide HN]; exact hlt)
          have HLL := hide hL
          have HI0 : Hid (IPh2i S B2 w wr m us u6 A C 0) := by
            have := IPh2i.start (unhide HS) (unhide hPh2) (by rw [unhide HN]; exact hlt)
            rwa [hA, hC] at this
          clear hA hL hC
          go_wp2
          go_loopw [7, 9, 10] (fun kk g j wr => ∃ (q : Nat) (ga : Option Addr) (gc : Nat), q ≤ 6 ∧ j = .int .i64 q ∧ kk = .int .i64 ((o + 6 * m + q : Nat) : Int) ∧ g = .slice ga (L + q) gc ∧ Hid (IPh2i S B2 w wr m us u6 ga gc q) ∧ Hid (B2 ≤ wr.heap.size)) (fun _ _ j _ => 6 - (intOf j).toNat)
          case atStart => exact ⟨0, A, C, by omega, rfl, rfl, rfl, HI0, hsz⟩
          case round =>
            obtain ⟨q, ga, gc, hq, rfl, rfl, rfl, hPi, hsz2⟩ := hrel
            by_cases hlt2 : q < 6
            · have hzz : iext S m q = (o : Int) + 6 * (m : Int) + (q : Int) := by
                unfold iext imk
                rw [unhide HN, ← ho.out]
                omega
              obtain ⟨a', c', w', hrun, hPi', hsz3⟩ := (unhide hPi).step (unhide HS) (by rw [unhide HN]; exact hlt) hlt2 (Nat.le_trans (unhide HLt).2 hsz2.out)
              rw [hzz, unhide HLL] at hrun
              have HR := hide hrun
              have HP' := hide hPi'
              have HZ3 : Hid (B2 ≤ w'.heap.size) := Nat.le_trans hsz2.out hsz3
              clear hrun hPi' hsz3 hzz
              go_wp2_with (at_builtin; refine wpList_append_run 32 rfl _ _ rfl _ _ _ rfl rfl (unhide HR) ?_)
              exact ⟨⟨q + 1, a', c', by omega, by go_num, by go_num, rfl, HP', HZ3⟩, by simp [intOf]; omega⟩
            · obtain rfl : q = 6 := by omega
              have hrw := (unhide hPi).1.2.2.1
              have HRW : Hid ((wr.alloc (.cells #[.slice ga (L + 6) gc] 32)).ownsRow B2 32 1 u6 m (us.map isval)) := hrw.alloc _
              have HNW : Hid (∀ (j : Nat) (u : Value), [Value.slice ga (L + 6) gc][j]? = some u → (wr.alloc (.cells #[.slice ga (L + 6) gc] 32)).cell? ((⟨wr.heap.size, 0, none⟩ : Addr).add j) = some u) := by
                intro j u hj
                cases j with
                | zero => simp at hj; subst hj; rw [World.add_zero_spot]; exact (Boxed.new wr 32 _).cell
                | succ j => simp at hj
              have HM : Hid (m + 1 ≤ maxLen ∧ (m + 1) * 24 ≤ 140737488355328) := ⟨by unfold maxLen; omega, by omega⟩
              have HBs : Hid (B2 ≤ (wr.alloc (.cells #[.slice ga (L + 6) gc] 32)).heap.size) := Nat.le_trans hsz2.out (by simp)
              have HOC : Hid (∀ u ∈ [Value.slice ga (L + 6) gc], u.oneCell' = true) := by intro u hu; simp at hu; subst hu; rfl
              clear hrw
              go_wp2_with (at_builtin; refine wpList_append_own _ rfl _ _ 56 rfl B2 32 i22 (.slice none 0 0) 1 24 Try.underlying56 (unhide HI).1 (unhide HI).2.1 (unhide HI).2.2.1 (unhide HI).2.2.2 rfl (by decide) u6 m (us.map isval) rfl (unhide HRW) ⟨wr.heap.size, 0, none⟩ 1 1 [.slice ga (L + 6) gc] rfl rfl (unhide HNW) (unhide HOC) (unhide HM).1 (unhide HM).2 (unhide HBs) ?_; intro gv' w5 hrow hgrow _)
              refine ⟨⟨m + 1, us ++ [(ga, S.L m + 6, gc)], by omega, by go_num, by go_num, ?_, Nat.le_trans (unhide HBs) hgrow.size⟩, by simp [intOf]; omega⟩
              rw [← unhide HLL] at hrow
              exact (unhide hPi).done (unhide HS) (by rw [unhide HN]; exact hlt) (Nat.le_trans (unhide HLt).2 hsz2.out) (unhide HLt).1 (unhide HLt).2 _ hrow hgrow
        · obtain rfl : m = p := by omega
          obtain ⟨gva, gvc, rfl⟩ := (unhide hPh2).shape
          clear HLt HI hsz hlt
          go_wp2
          go_loopw [3, 11] (fun n i wr => ∃ k oo : Nat, k ≤ m ∧ i = .int .i64 k ∧ n = .int .i64 oo ∧ Hid (oo = S.off k) ∧ Hid (IPh2 S B2 w wr m us (.slice gva m gvc))) (fun _ i _ => m - (intOf i).toNat)
          case atStart => exact ⟨0, 0, Nat.zero_le _, rfl, rfl, (unhide HO0).symm, hPh2⟩
          case round =>
            obtain ⟨k, oo, hk, rfl, rfl, hoo, hP3⟩ := hrel
            clear hPh2
            by_cases hlt : k < m
            · obtain ⟨A, hA⟩ : ∃ A, S.A k = A := ⟨_, rfl⟩
              obtain ⟨L, hL⟩ : ∃ L, S.L k = L := ⟨_, rfl⟩
              obtain ⟨C, hC⟩ : ∃ C, S.C k = C := ⟨_, rfl⟩
              have hLb : L ≤ 17592186043904 := by rw [← hL]; exact (unhide HS).fit k (by rw [unhide HN]; exact hlt)
              have hob2 := (unhide HS).off_bd k (by rw [unhide HN]; omega)
              rw [← hoo.out] at hob2
              have HA := hide hA
              have HLL := hide hL
              have HC := hide hC
              clear hA hL hC
              go_wp2
              go_loopw [3, 12] (fun n j wr => ∃ q : Nat, q ≤ L ∧ j = .int .i64 q ∧ n = .int .i64 ((oo + q : Nat) : Int) ∧ Hid (IPh2 S B2 w wr m us (.slice gva m gvc))) (fun _ j _ => L - (intOf j).toNat)
              case atStart => exact ⟨0, Nat.zero_le _, rfl, rfl, hP3⟩
              case round =>
                obtain ⟨q, hq, rfl, rfl, hP4⟩ := hrel
                clear hP3
                have hls : wr.cell? ⟨Lb, k, none⟩ = some (.slice A L C) := by
                  have := (unhide hP4).1.ls (unhide HS) (p := k) (by rw [unhide HN]; exact hlt)
                  rwa [unhide HL, unhide HA, unhide HLL, unhide HC] at this
                by_cases hlt2 : q < L
                · obtain ⟨g, eA, hcell⟩ := (unhide hP4).byte (k := k) (q := q) (by rw [unhide HN]; exact hlt) (by rw [unhide HLL]; exact hlt2)
                  rw [unhide HA] at eA
                  subst eA
                  rw [← hoo.out, Int.natCast_add] at hcell
                  unfold imk at hcell
                  have hltI : (q : Int) < (L : Int) := by omega
                  have hltK : (k : Int) < (m : Int) := by omega
                  go_wp2
                  exact ⟨⟨q + 1, by omega, by go_num, by go_num, hP4⟩, by simp [intOf]; omega⟩
                · obtain rfl : q = L := by omega
                  go_wp2
                  exact ⟨⟨k + 1, oo + q, by omega, by go_num, rfl, by show oo + q = S.off (k + 1); rw [(unhide HS).offS k (by rw [unhide HN]; exact hlt), unhide HLL, hoo.out], hP4⟩, by simp [intOf]; omega⟩
            · obtain rfl : k = m := by omega
              have hoe : oo = o := by rw [hoo.out, ho.out]
              subst hoe
              clear hoo hlt
              go_wp2
              go_loopw [3, 13] (fun n i wr => ∃ m : Nat, m ≤ k ∧ i = .int .i64 m ∧ n = .int .i64 ((oo + 6 * m : Nat) : Int) ∧ Hid (IPh2 S B2 w wr k us (.slice gva k gvc))) (fun _ i _ => k - (intOf i).toNat)
              case atStart => exact ⟨0, Nat.zero_le _, rfl, rfl, hP3⟩
              case round =>
                obtain ⟨m, hm4, rfl, rfl, hP5⟩ := hrel
                clear hP3
                by_cases hlt : m < k
                · obtain ⟨A, hA⟩ : ∃ A, S.A m = A := ⟨_, rfl⟩
                  obtain ⟨L, hL⟩ : ∃ L, S.L m = L := ⟨_, rfl⟩
                  obtain ⟨C, hC⟩ : ∃ C, S.C m = C := ⟨_, rfl⟩
                  have hLb : L ≤ 17592186043904 := by rw [← hL]; exact (unhide HS).fit m (by rw [unhide HN]; exact hlt)
                  have hls : wr.cell? ⟨Lb, m, none⟩ = some (.slice A L C) := by
                    have := (unhide hP5).1.ls (unhide HS) (p := m) (by rw [unhide HN]; exact hlt)
                    rwa [unhide HL, hA, hL, hC] at this
                  have HLL := hide hL
                  clear hA hL hC
                  go_wp2
                  go_loopw [3, 14] (fun n j wr => ∃ q : Nat, q ≤ 6 ∧ j = .int .i64 ((L + q : Nat) : Int) ∧ n = .int .i64 ((oo + 6 * m + q : Nat) : Int) ∧ Hid (IPh2 S B2 w wr k us (.slice gva k gvc))) (fun _ j _ => L + 6 - (intOf j).toNat)
                  case atStart => exact ⟨0, by omega, rfl, rfl, hP5⟩
                  case round =>
                    obtain ⟨q, hq, rfl, rfl, hP6⟩ := hrel
                    clear hP5 hls
                    obtain ⟨gb, ua, uc, e, hgc, hgx⟩ := (unhide hP6).grown hlt
                    subst e
                    rw [unhide HLL] at hgc
                    have HGX := hide hgx
                    clear hgx
                    have hltK : (m : Int) < (k : Int) := by omega
                    by_cases hlt2 : q < 6
                    · obtain ⟨g, e2, hcell⟩ := unhide HGX q hlt2
                      subst e2
                      have hext : iext S m q = (oo : Int) + 6 * (m : Int) + (q : Int) := by
                        unfold iext imk
                        rw [unhide HN, ← ho.out]
                        omega
                      rw [unhide HLL, hext] at hcell
                      clear hext HGX
                      have hltI : ((L + q : Nat) : Int) < ((L + 6 : Nat) : Int) := by omega
                      go_wp2
                      exact ⟨⟨q + 1, by omega, by go_num, by go_num, hP6⟩, by simp [intOf]; omega⟩
                    · obtain rfl : q = 6 := by omega
                      clear HGX
                      go_wp2
                      exact ⟨⟨m + 1, by omega, by go_num, by go_num, hP6⟩, by simp [intOf]; omega⟩
                · obtain rfl : m = k := by omega
                  go_wp2
                  go_ret
                  exact ⟨rfl, (unhide hP5).1.2.1⟩

abbrev ITrip := Option Addr × Nat × Nat

def itripAt (ts : List ITrip) (p : Nat) : ITrip := ts[p]?.getD (none, 0, 0)

def isumTo (ts : List ITrip) : Nat → Nat
  | 0 => 0
  | p + 1 => isumTo ts p + (itripAt ts p).2.1

def ilistsOf (B Lb : Nat) (ts : List ITrip) : ILists :=
  { N := ts.length, B := B, Lb := Lb, ca := (ts.map isval).toArray, A := fun p => (itripAt ts p).1, L := fun p => (itripAt ts p).2.1, C := fun p => (itripAt ts p).2.2, off := isumTo ts }

/-- Two slices have rows of their own. -/
def IAside (t u : ITrip) : Prop := ∀ g, t.1 = some ⟨g, 0, none⟩ → u.1 ≠ some ⟨g, 0, none⟩

theorem itripAt_eq {ts : List ITrip} {p : Nat} (h : p < ts.length) : itripAt ts p = ts[p] := by simp [itripAt, List.getElem?_eq_getElem h]

theorem ilistsOf_good {B Lb : Nat} {ts : List ITrip} (h1 : ts.length ≤ 64) (h2 : ∀ t ∈ ts, t.2.1 ≤ 17592186043904) (h3 : B ≤ Lb) (h4 : ts.Pairwise IAside) : (ilistsOf B Lb ts).Good where
  few := h1
  size := by simp [ilistsOf]
  at' := fun p hp => by
    have hp' : p < ts.length := hp
    simp [ilistsOf, itripAt, List.getElem?_eq_getElem hp', isval]
  off0 := rfl
  offS := fun p hp => rfl
  fit := fun p hp => by
    have hp' : p < ts.length := hp
    show (itripAt ts p).2.1 ≤ _
    rw [itripAt_eq hp']; exact h2 _ (List.getElem_mem hp')
  base := h3
  apart := fun p p' hp hp' hne g e e' => by
    have hq : p < ts.length := hp
    have hq' : p' < ts.length := hp'
    have k1 : (itripAt ts p).1 = some ⟨g, 0, none⟩ := e
    have k2 : (itripAt ts p').1 = some ⟨g, 0, none⟩ := e'
    rw [itripAt_eq hq] at k1
    rw [itripAt_eq hq'] at k2
    rcases Nat.lt_or_ge p p' with hlt | hge
    · exact List.pairwise_iff_getElem.1 h4 p p' hq hq' hlt g k1 k2
    · exact List.pairwise_iff_getElem.1 h4 p' p hq' hq (by omega) g k2 k1

theorem ilistsOf_ph1 {B Lb : Nat} {ts : List ITrip} {w : World} (hL : w.heap[Lb]? = some (.cells (ts.map isval).toArray 32 (0, 0))) (ho : ∀ t ∈ ts, ∃ xs, IOwn B w t.1 t.2.1 t.2.2 xs) : IPh1 (ilistsOf B Lb ts) w w 0 0 := by
  refine ⟨hL, Below.refl _ _, fun p hp => ?_⟩
  have hp' : p < ts.length := hp
  obtain ⟨xs, hx⟩ := ho _ (List.getElem_mem hp')
  refine ⟨xs, ?_, fun q _ h => by omega⟩
  show IOwn B w (itripAt ts p).1 (itripAt ts p).2.1 (itripAt ts p).2.2 xs
  rw [itripAt_eq hp']
  exact hx

/-- **IntsApart answers true where each slice starts a row of its own, and writes nothing below B.** -/
theorem iapart_list (B Lb N : Nat) (ts : List ITrip) (w : World) (hN : ts.length = N) (h1 : N ≤ 64) (h2 : ∀ t ∈ ts, t.2.1 ≤ 17592186043904) (h3 : B ≤ Lb) (h4 : ts.Pairwise IAside) (hL : w.heap[Lb]? = some (.cells (ts.map isval).toArray 32 (0, 0)))
    (ho : ∀ t ∈ ts, ∃ xs, IOwn B w t.1 t.2.1 t.2.2 xs) :
    Calls Try.prog 40 #[.slice (some ⟨Lb, 0, none⟩) N N] w fun e w' => e = .returned (.bool true) ∧ Below B w w' :=
  iapart_any N Lb (ilistsOf B Lb ts) (ilistsOf_good (by omega) h2 h3 h4) w hN rfl (ilistsOf_ph1 hL ho) (by
    have := (Array.getElem?_eq_some_iff.1 hL).1
    show B ≤ _
    omega)

/-- Two slices of which the second was made when the first was there. -/
theorem iaside_of {w w' : World} {t u : ITrip} {xs ys : List Int} {B n : Nat} (h1 : IOwn B w t.1 t.2.1 t.2.2 xs) (h2 : IOwn n w' u.1 u.2.1 u.2.2 ys) (hn : w.heap.size ≤ n) : IAside t u := by
  intro g e e'
  have k1 := (h1.lt e).1
  have k2 := (h2.lt e').2.1
  omega

/-- What a call has answered: nil, or a slice at the start of a new row. -/
def IMade (w w' : World) (a : Option Addr) (l c : Nat) : Prop := l ≤ 17592186043904 ∧ ∃ xs, IOwn w.heap.size w' a l c xs

end Go.Proofs.Ytikpmchjlpobdaa
