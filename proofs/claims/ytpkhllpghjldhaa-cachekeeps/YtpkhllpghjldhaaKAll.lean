/- The contracts of Out where a number is no block, and of All. -/
import Derived.Test.YtpkhllpghjldhaaKOut
namespace Go.Proofs.Ytpkhllpghjldhaa
open Go.RowKit Go.Shelf Go.Maps
set_option linter.unusedVariables false

set_option maxRecDepth 100000 in
set_option maxHeartbeats 4000000 in
theorem out_bad (g dg : Nat) (S Sc Sd : Nat → Prop) (C : Cac) (D : Dev) (m : KMem) (w : World) (h : KvM w S Sc Sd g dg C D m) (a : Option Addr) (cap : Nat) (zs : List Int) (hreach : zs.length * 8 ≤ 140737488351232) (hI : IHas w a zs.length zs) (hz : ¬ ∀ z ∈ zs, 0 ≤ z ∧ z < D.n) :
    Calls Try.prog 12 #[.pointer (some ⟨g, 0, none⟩), .slice a zs.length cap] w fun e w' => e = .returned (.int .i64 2) ∧ w = w' := by
  have KR : Hid (∀ j, j < zs.length → (Calls Try.prog 34 #[.pointer (some ⟨g, 0, none⟩), .int .i64 (zs[j]?.getD 0)] w fun e w' => e = .returned (.int .i64 (rangeE D.n (zs[j]?.getD 0))) ∧ w = w')) := by
    intro j hj
    exact refuses_cc g dg (zs[j]?.getD 0) Sc Sd C D m w h.cc h.dd
  have KE : Hid (∀ j, j < zs.length → rangeE D.n (zs[j]?.getD 0) = 0 ∨ rangeE D.n (zs[j]?.getD 0) = 2) := by
    intro j _
    unfold rangeE
    split <;> simp
  have KF : Hid (¬ ∀ j, j < zs.length → rangeE D.n (zs[j]?.getD 0) = 0) := by
    intro hall
    refine hz (fun z hz' => ?_)
    obtain ⟨j, hj, rfl⟩ := List.getElem_of_mem hz'
    have := hall j hj
    rw [List.getElem?_eq_getElem hj] at this
    unfold rangeE at this
    simp only [Option.getD_some] at this
    by_cases hr : 0 ≤ zs[j] ∧ zs[j] < (D.n : Int)
    · exact hr
    · rw [if_pos hr] at this
      omega
  have KC : Hid (∀ j, j < zs.length → ∃ k off, a = some ⟨k, off, none⟩ ∧ w.cell? ⟨k, off + j, none⟩ = some (.int .i64 (zs[j]?.getD 0))) := by
    intro j hj
    obtain ⟨k, off, e, hc⟩ := hI.2 (by omega)
    exact ⟨k, off, e, hc j hj⟩
  generalize D.n = nn at *
  have hlen : zs.length ≤ 17592186043904 := by omega
  generalize zs.length = len at *
  clear h hI hz hreach
  go_enter Try.func12, Try.ntmps12
  go_wp2
  go_step3
  go_wp2
  go_loop [14] (fun i => ∃ k : Nat, k ≤ len ∧ i = .int .i64 (k : Int) ∧ Hid (∀ j, j < k → rangeE nn (zs[j]?.getD 0) = 0)) (fun i => len - (intOf i).toNat)
  case atStart => exact ⟨0, Nat.zero_le _, rfl, fun j hj => by omega⟩
  case round =>
    obtain ⟨k, hk, rfl, HA⟩ := hrel
    by_cases hlt : k < len
    · obtain ⟨kb, off, rfl, ck⟩ := unhide KC k hlt
      have K1 := unhide KR k hlt
      rcases unhide KE k hlt with e0 | e0
      · have HB : Hid (∀ j, j < k + 1 → rangeE nn (zs[j]?.getD 0) = 0) := fun j hj => by
          by_cases e : j = k
          · rw [e]; exact e0
          · exact unhide HA j (by omega)
        rw [e0] at K1
        replace K1 := hide K1
        clear HA KR KC KF KE e0
        generalize zs[k]?.getD 0 = z at *
        go_wp2_with (go_at_call 34; refine (unhide K1).mono ?_; rintro e w' ⟨rfl, rfl⟩; clear K1)
        go_round
        case rel => exact ⟨k + 1, by omega, by go_num, HB⟩
        case measure => simp [intOf]; omega
      · rw [e0] at K1
        replace K1 := hide K1
        clear HA KR KC KF KE e0
        generalize zs[k]?.getD 0 = z at *
        go_wp2_with (go_at_call 34; refine (unhide K1).mono ?_; rintro e w' ⟨rfl, rfl⟩; clear K1)
        rw [Exit.noGoto_ret]
        go_ret
        exact ⟨rfl, rfl⟩
    · exact absurd (fun j hj => unhide HA j (by omega)) (unhide KF)

/-- Out of a list whose numbers are blocks. -/
theorem out_kv (g dg : Nat) (S : Nat → Prop) (C : Cac) (D : Dev) (w : World) (h : Kv w S g dg C D) (a : Option Addr) (len cap : Nat) (zs : List Int) (hl : zs.length = len) (hreach : len * 8 ≤ 140737488351232) (hI : IHas w a len zs) (hz : ∀ z ∈ zs, 0 ≤ z ∧ z < D.n) :
    Calls Try.prog 12 #[.pointer (some ⟨g, 0, none⟩), .slice a len cap] w fun e w' => e = .returned (.int .i64 (outE (nums zs) C D)) ∧ ∃ S', Kv w' S' g dg (outC (nums zs) C D) (outD (nums zs) C D) ∧ Nx S w S' w' := by
  subst hl
  obtain ⟨Sc, Sd, m, km⟩ := h.open
  exact out_good g dg S Sc Sd C D m w km a cap zs hreach hI hz

theorem list_nums (C : Cac) (n : Nat) (f : Ln → Bool) : nums (C.list n f) = C.those n f := by
  unfold nums
  have hr : (C.list n f).Pairwise (· ≤ ·) := by
    unfold Cac.list
    rw [List.pairwise_map]
    exact (C.those_rising n f).imp (fun h => by omega)
  rw [srt_eq (List.Perm.refl _) hr]
  unfold Cac.list
  rw [List.map_map]
  conv => rhs; rw [← List.map_id (C.those n f)]
  exact List.map_congr_left (fun z _ => by simp)

theorem list_in (C : Cac) (n : Nat) (f : Ln → Bool) : ∀ z ∈ C.list n f, 0 ≤ z ∧ z < n := by
  intro z hz
  obtain ⟨b, hb, rfl⟩ := List.mem_map.1 hz
  have := (Cac.mem_those.1 hb).1
  omega

theorem all_nil (w : World) : Calls Try.prog 17 #[.pointer none] w fun e w' => e = .returned (.int .i64 1) ∧ w = w' := by
  go_enter Try.func17, Try.ntmps17
  go_wp2_with fail
  go_at_call 16
  refine (dirty_nil w).mono ?_
  rintro e w' ⟨rfl, rfl⟩
  go_wp2_with fail
  go_at_call 12
  refine (out_nil _ w).mono ?_
  rintro e w' ⟨rfl, rfl⟩
  go_wp2_with fail
  go_ret
  exact ⟨rfl, rfl⟩

/-- All. -/
theorem all_kv (g dg : Nat) (S : Nat → Prop) (C : Cac) (D : Dev) (w : World) (h : Kv w S g dg C D) :
    Calls Try.prog 17 #[.pointer (some ⟨g, 0, none⟩)] w fun e w' => e = .returned (.int .i64 (outE (C.those D.n fDirty) C D)) ∧ ∃ S', Kv w' S' g dg (outC (C.those D.n fDirty) C D) (outD (C.those D.n fDirty) C D) ∧ Nx S w S' w' := by
  have K : Hid (Calls Try.prog 16 #[.pointer (some ⟨g, 0, none⟩)] w fun e w1 => ∃ v, e = .returned v ∧ Hid (Calls Try.prog 12 #[.pointer (some ⟨g, 0, none⟩), v] w1 fun e w' => e = .returned (.int .i64 (outE (C.those D.n fDirty) C D)) ∧ Hid (∃ S', Kv w' S' g dg (outC (C.those D.n fDirty) C D) (outD (C.those D.n fDirty) C D) ∧ Nx S w S' w'))) := by
    refine (dirty_kv g dg S C D w h).mono ?_
    rintro e w1 ⟨v, rfl, g1, b1⟩
    obtain ⟨a, c, rfl, i1, i2, i3⟩ := g1.ihas
    refine ⟨_, rfl, ?_⟩
    have hn := h.ok.n2
    have hl : (C.list D.n fDirty).length ≤ D.n := by
      have := C.those_len D.n fDirty
      simpa [Cac.list] using this
    have := out_kv g dg S C D w1 (h.below b1) a _ c (C.list D.n fDirty) rfl (by omega) i1 (list_in C D.n fDirty)
    rw [list_nums] at this
    refine this.mono ?_
    rintro e w2 ⟨rfl, S', k2, x2⟩
    exact ⟨rfl, S', k2, ((Nx.refl S w).below' b1).trans x2⟩
  clear h
  generalize outE (C.those D.n fDirty) C D = eE at *
  generalize outC (C.those D.n fDirty) C D = eC at *
  generalize outD (C.those D.n fDirty) C D = eD at *
  go_enter Try.func17, Try.ntmps17
  go_wp2_with fail
  go_at_call 16
  refine (unhide K).mono ?_
  rintro e w1 ⟨v, rfl, K1⟩
  clear K
  go_wp2_with fail
  go_at_call 12
  refine (unhide K1).mono ?_
  rintro e w2 ⟨rfl, X⟩
  clear K1
  go_wp2_with fail
  go_ret
  exact ⟨rfl, unhide X⟩

end Go.Proofs.Ytpkhllpghjldhaa
