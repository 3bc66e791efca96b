/- The fixed call of the laws. -/
import Derived.Test.YtknmgefpjdfenaaGreatTnJ37
namespace Go.Proofs.YtknmgefpjdfenaaGreat
open Go.RowKit Go.Shelf Go.Maps
set_option linter.unusedVariables false
set_option maxRecDepth 100000

theorem nmB_of' {x : List UInt8} (h : (decide (1 ≤ x.length) && decide (x.length ≤ 13) && !(x == [46]) && !(x == [46, 46]) && (x.map (fun b => (b.toNat : Int))).all inName) = true) : nmB x = true := by
  unfold nmB nameB byts
  rw [St_size, St_toList, data_St]
  exact h

theorem spl_d : spl [47, 100] = some ([] ++ [[100]]) := by
  have h : okN [[100]] = true := by
    rw [okN_iff]
    refine ⟨by decide, fun n hn => ?_, by decide⟩
    simp only [List.mem_cons, List.not_mem_nil, or_false] at hn
    subst hn
    exact nmB_of' (by decide)
  exact spl_jn h

theorem spl_a : spl [47, 97] = some ([] ++ [[97]]) := by
  have h : okN [[97]] = true := by
    rw [okN_iff]
    refine ⟨by decide, fun n hn => ?_, by decide⟩
    simp only [List.mem_cons, List.not_mem_nil, or_false] at hn
    subst hn
    exact nmB_of' (by decide)
  exact spl_jn h

theorem spl_da : spl [47, 100, 47, 97] = some ([[100]] ++ [[97]]) := by
  have h : okN [[100], [97]] = true := by
    rw [okN_iff]
    refine ⟨by decide, fun n hn => ?_, by decide⟩
    simp only [List.mem_cons, List.not_mem_nil, or_false] at hn
    rcases hn with rfl | rfl
    · exact nmB_of' (by decide)
    · exact nmB_of' (by decide)
  exact spl_jn h

theorem made_T {s : Tr} {f : Nat} {k : Int} {d : Nat} {t : Th} {z : List UInt8} {b mp : Nat} {ra : Option Addr} {rc : Nat} (c : Nat) : (s.made f k d t z b mp ra rc).T c = if c = d then some { t with ns := putN z b t.ns } else if c = b then some { newT k f mp with l := 1 } else s.T c := rfl

theorem pad_get {row : List (Option Nat)} {f i : Nat} (o : Option Nat) (hi : i ≠ f) {x : Option Nat} (h : row[i]? = some x) : ((pad row f).set f o)[i]? = some x := by
  rw [List.getElem?_set_ne (fun e => hi e.symm)]
  unfold pad
  rw [List.getElem?_append_left (List.getElem?_eq_some_iff.1 h).1]
  exact h

theorem Ok.made {s : Tr} {r : Nat} (h : Ok s r) {f : Nat} {k : Int} {d : Nat} {t : Th} {z : List UInt8} {b mp : Nat} {ra : Option Addr} {rc : Nat} (hf : Free s f) (hk : k = 1 ∨ k = 2) (ht : s.T d = some t) (h2 : t.k = 2) (hb : s.T b = none) : Ok (s.made f k d t z b mp ra rc) r := by
  have hbd : b ≠ d := fun e => by rw [e, ht] at hb; cases hb
  have hlive : ∀ c, (∃ t', s.T c = some t') → ∃ t', (s.made f k d t z b mp ra rc).T c = some t' := fun c ⟨t', e⟩ => by
    rw [made_T]
    by_cases h1 : c = d
    · rw [if_pos h1]; exact ⟨_, rfl⟩
    · rw [if_neg h1]
      by_cases h3 : c = b
      · rw [if_pos h3]; exact ⟨_, rfl⟩
      · rw [if_neg h3]; exact ⟨t', e⟩
  have hbl : ∃ t', (s.made f k d t z b mp ra rc).T b = some t' := by
    rw [made_T, if_neg hbd, if_pos rfl]; exact ⟨_, rfl⟩
  refine ⟨?_, ?_, fun c u e => ?_, fun c u x j e hx => ?_⟩
  · refine pad_get _ (fun e => ?_) h.root
    rcases hf.free with q | q <;> rw [← e, h.root] at q <;> cases q
  · obtain ⟨tr, htr, hkr⟩ := h.dir
    by_cases h1 : r = d
    · exact ⟨{ t with ns := putN z b t.ns }, by rw [made_T, if_pos h1], h2⟩
    · refine ⟨tr, ?_, hkr⟩
      rw [made_T, if_neg h1, if_neg (fun e => by rw [e, hb] at htr; cases htr)]
      exact htr
  · rw [made_T] at e
    by_cases h1 : c = d
    · rw [if_pos h1] at e; cases e; exact .inr h2
    · rw [if_neg h1] at e
      by_cases h3 : c = b
      · rw [if_pos h3] at e; cases e; exact hk
      · rw [if_neg h3] at e; exact h.kind c u e
  · rw [made_T] at e
    by_cases h1 : c = d
    · rw [if_pos h1] at e
      cases e
      rw [look_put] at hx
      by_cases hz : x = z
      · rw [if_pos hz] at hx; cases hx; exact hbl
      · rw [if_neg hz] at hx; exact hlive j (h.live d t x j ht hx)
    · rw [if_neg h1] at e
      by_cases h3 : c = b
      · rw [if_pos h3] at e; cases e; cases hx
      · rw [if_neg h3] at e; exact hlive j (h.live c u x j e hx)

theorem plc_here {s : Tr} {r : Nat} {t : Th} (ht : s.T r = some t) (h2 : t.k = 2) : plc s [] r = (0, some r) := by
  have h1 : ¬ t.k = 1 := by omega
  unfold plc go
  simp [ht, h1]

theorem plc_step {s : Tr} {r c : Nat} {t u : Th} {x : List UInt8} (ht : s.T r = some t) (h2 : t.k = 2) (hx : t.ns.lookup x = some c) (hu : s.T c = some u) (hk : u.k = 2) : plc s [x] r = (0, some c) := by
  have h1 : ¬ u.k = 1 := by omega
  unfold plc
  rw [go_step ht h2 hx]
  unfold go
  simp [hu, h1]

set_option maxHeartbeats 4000000 in
theorem wakes_any (w : World) : Calls Tryz.prog 7 #[] w fun e w' => e = .returned (.bool true) ∧ Below w.heap.size w w' := by
  have KN := hide (new_ok (n := 1000) (by decide) (by decide) w)
  go_enter Tryz.func7, Tryz.ntmps7
  go_wp2_with fail
  refine (unhide KN).mono ?_
  rintro e w1 ⟨g, r, mp, ra, rc, S, rfl, htm, hS, hb⟩
  have hok := ok_root 1000 r mp ra rc
  have htr : (Tr0 1000 r mp ra rc).T r = some (rootT mp) := if_pos rfl
  have hf : Free (Tr0 1000 r mp ra rc) 2 := ⟨by show 1 ≤ 2; omega, fun i h1 h2 => by
    have h1' : 1 ≤ i := h1
    obtain rfl : i = 1 := by omega
    exact ⟨r, rfl⟩, .inl rfl⟩
  have KM := hide (mkdir_new htm hok spl_d (plc_here htr rfl) htr rfl rfl (by show 0 < 1000000000; omega) hf (by omega) (by show 2 ≤ 1000000; omega))
  have hrS : r < w1.heap.size := htm.lt r (htm.sb r _ htr)
  have HB := hide hb
  have HO := hide hok
  have HS := hide hS
  have HF := hide hf
  clear KN htm hb hok hS hf
  change Hid (Calls Tryz.prog 21 #[.pointer (some ⟨g, 0, none⟩), .string ⟨#[47, 100]⟩] w1 _) at KM
  go_wp2_with fail
  refine (unhide KM).mono ?_
  rintro e w2 ⟨b1, m1, ra1, rc1, rfl, hb1, htm, hkp⟩
  have hbr : b1 ≠ r := by omega
  have hnb : (Tr0 1000 r mp ra rc).T b1 = none := if_neg hbr
  have hok := HO.out.made HF.out (z := [100]) (mp := m1) (ra := ra1) (rc := rc1) (.inr rfl) htr rfl hnb
  have hS2 : ∀ k, Up S w1.heap.size w2.heap.size k → w.heap.size ≤ k := fun k hk => hk.elim (HS.out k) (fun q => Nat.le_trans HB.out.size q.1)
  have hB2 : Below w.heap.size w w2 := HB.out.trans (hkp.below HB.out.size HS.out)
  have ht1 : ((Tr0 1000 r mp ra rc).made 2 2 r (rootT mp) [100] b1 m1 ra1 rc1).T r = some { rootT mp with ns := [([100], b1)] } := by rw [made_T, if_pos rfl]; rfl
  have ht2 : ((Tr0 1000 r mp ra rc).made 2 2 r (rootT mp) [100] b1 m1 ra1 rc1).T b1 = some { newT 2 2 m1 with l := 1 } := by rw [made_T, if_neg hbr, if_pos rfl]
  have hlk : ([([100], b1)] : NS).lookup [100] = some b1 := rfl
  have hf : Free ((Tr0 1000 r mp ra rc).made 2 2 r (rootT mp) [100] b1 m1 ra1 rc1) 3 := ⟨by show 2 ≤ 3; omega, fun i h1 h2 => by
    have h1' : 2 ≤ i := h1
    obtain rfl : i = 2 := by omega
    exact ⟨b1, rfl⟩, .inl rfl⟩
  have KC := hide (create_new htm hok spl_da (plc_step ht1 rfl hlk ht2 rfl) ht2 rfl rfl (by show 0 < 1000000000; omega) hf (by omega) (by show 3 ≤ 1000000; omega))
  have hrS2 : r < w2.heap.size := htm.lt r (htm.sb r _ ht1)
  have hbS2 : b1 < w2.heap.size := htm.lt b1 (htm.sb b1 _ ht2)
  have HB := hide hB2
  have HO := hide hok
  have HS := hide hS2
  have HF := hide hf
  clear KM htm hkp hb1 hok hS2 hB2 hf hnb
  change Hid (Calls Tryz.prog 22 #[.pointer (some ⟨g, 0, none⟩), .string ⟨#[47, 100, 47, 97]⟩] w2 _) at KC
  go_wp2_with fail
  refine (unhide KC).mono ?_
  rintro e w3 ⟨b2, m2, ra2, rc2, rfl, hb2, htm, hkp⟩
  have hb2r : b2 ≠ r := by omega
  have hb2b : b2 ≠ b1 := by omega
  have hnb : ((Tr0 1000 r mp ra rc).made 2 2 r (rootT mp) [100] b1 m1 ra1 rc1).T b2 = none := by rw [made_T, if_neg hb2r, if_neg hb2b]; exact if_neg hb2r
  have hok := HO.out.made HF.out (z := [97]) (mp := m2) (ra := ra2) (rc := rc2) (.inl rfl) ht2 rfl hnb
  have hB3 : Below w.heap.size w w3 := HB.out.trans (hkp.below HB.out.size HS.out)
  have hu1 : (((Tr0 1000 r mp ra rc).made 2 2 r (rootT mp) [100] b1 m1 ra1 rc1).made 3 1 b1 { newT 2 2 m1 with l := 1 } [97] b2 m2 ra2 rc2).T r = some { rootT mp with ns := [([100], b1)] } := by rw [made_T, if_neg (fun e => hbr e.symm), if_neg (fun e => hb2r e.symm)]; exact ht1
  have hu2 : (((Tr0 1000 r mp ra rc).made 2 2 r (rootT mp) [100] b1 m1 ra1 rc1).made 3 1 b1 { newT 2 2 m1 with l := 1 } [97] b2 m2 ra2 rc2).T b1 = some { newT 2 2 m1 with l := 1, ns := [([97], b2)] } := by rw [made_T, if_pos rfl]; rfl
  have hu3 : (((Tr0 1000 r mp ra rc).made 2 2 r (rootT mp) [100] b1 m1 ra1 rc1).made 3 1 b1 { newT 2 2 m1 with l := 1 } [97] b2 m2 ra2 rc2).T b2 = some { newT 1 3 m2 with l := 1 } := by rw [made_T, if_neg hb2b, if_pos rfl]
  have hgo : go (((Tr0 1000 r mp ra rc).made 2 2 r (rootT mp) [100] b1 m1 ra1 rc1).made 3 1 b1 { newT 2 2 m1 with l := 1 } [97] b2 m2 ra2 rc2) ([[100]] ++ [[97]]) r = (0, some b2) := by
    show go _ [[100], [97]] r = _
    rw [go_step hu1 rfl (show ([([100], b1)] : NS).lookup [100] = some b1 from rfl), go_step hu2 rfl (show ([([97], b2)] : NS).lookup [97] = some b2 from rfl)]
    rfl
  have KS := hide (stat_ok htm hok spl_da hgo hu3 ⟨by show 0 ≤ 1000000; omega, by show 0 ≤ 1000000; omega, .inr rfl⟩)
  have HB := hide hB3
  clear KC htm hkp hb2 hok hB3 hnb HO HS HF ht1 ht2 hu1 hu2 hu3 hgo hlk
  change Hid (Calls Tryz.prog 15 #[.pointer (some ⟨g, 0, none⟩), .string ⟨#[47, 100, 47, 97]⟩] w3 fun e w' => e = .returned (.tuple #[.agg #[.int .i64 1, .int .i64 3, .int .i64 1, .int .i64 0], .int .i64 0]) ∧ Below w3.heap.size w3 w') at KS
  go_wp2_with fail
  refine (unhide KS).mono ?_
  rintro e w4 ⟨rfl, hb⟩
  have HB := hide (HB.out.trans (hb.mono HB.out.size))
  have HB2 := hide (HB.out.alloc HB.out.size (.cells #[.int .i64 1, .int .i64 3, .int .i64 1, .int .i64 0] 46))
  clear KS hb
  go_wp2_with fail
  go_ret
  exact ⟨rfl, HB2.out⟩

end Go.Proofs.YtknmgefpjdfenaaGreat
