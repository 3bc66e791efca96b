/- Joined: TOpen, TRead. -/
import Derived.Test.YtknmgefpjdfenaaGreatTnTWakes
import Derived.Test.YtknmgefpjdfenaaGreatTnGClone
/- slices.Index over the handles, Open, file, Close. -/
namespace Go.Proofs.YtknmgefpjdfenaaGreat
open Go.RowKit Go.Shelf Go.Maps
set_option linter.unusedVariables false
set_option maxRecDepth 100000

/-- The least handle that is not open. -/
structure FreeH (s : Tr) (f : Nat) : Prop where
  lt : f < 16
  free : s.opn f = none
  full : ∀ i, i < f → ∃ b, s.opn i = some b

set_option maxHeartbeats 1000000 in
theorem index_free {w : World} {S : Nat → Prop} {g f : Nat} {s : Tr} (h : TM w S g s) (hf : FreeH s f) :
    Calls Tryz.prog 63 #[.slice (some ⟨g, 3, none⟩) 16 16, .pointer none] w fun e w' => e = .returned (.int .i64 (f : Int)) ∧ w' = w := by
  have HC : Hid (∀ i, i < 16 → w.cell? ⟨g, 3 + i, none⟩ = some (ptrO (s.opn i))) := fun i hi => h.open_cell hi
  have HF := hide hf
  have hlt := hf.lt
  clear h hf
  go_enter Tryz.func63, Tryz.ntmps63
  go_wp2_with fail
  go_loopw [8] (fun iv wr => ∃ k : Nat, k ≤ f ∧ iv = .int .i64 (k : Int) ∧ wr = w) (fun iv _ => 16 - (intOf iv).toNat)
  case atStart => exact ⟨0, Nat.zero_le _, rfl, rfl⟩
  case round =>
    obtain ⟨k, hk, rfl, rfl⟩ := hrel
    have c := HC.out k (by omega)
    have l1 : (k : Int) < 16 := by omega
    have l0 : (0 : Int) ≤ (k : Int) := by omega
    by_cases hlt : k < f
    · obtain ⟨b, hb⟩ := HF.out.full k hlt
      rw [hb] at c
      simp only [ptrO, Option.map_some] at c
      have hn : ∀ w : World, (binOp .eql 63 (.pointer none) (.pointer (some ⟨b, 0, none⟩))).run Tryz.prog w = .ok (.bool false) w := fun w => by kernel_rfl
      clear HC HF hb
      go_wp2_with fail
      go_roundw
      case rel => exact ⟨k + 1, by omega, by go_num, trivial⟩
      case measure => simp [intOf]; omega
    · obtain rfl : k = f := by omega
      rw [HF.out.free] at c
      simp only [ptrO, Option.map_none] at c
      clear HC HF
      go_wp2_with fail
      go_ret
      exact ⟨rfl, rfl⟩

def Tr.opened (s : Tr) (f : Nat) (o : Option Nat) : Tr := { s with opn := fun i => if i = f then o else s.opn i }

theorem TM.opened {u : World} {S : Nat → Prop} {g : Nat} {s : Tr} (h : TM u S g s) {f : Nat} (hf : f < 16) (o : Option Nat) : TM (u.setCell ⟨g, 3 + f, none⟩ (ptrO o)) S g (s.opened f o) := by
  refine h.setT (3 + f) _ (fun j hj => ?_) rfl (h.row.kept (fun x ex => ?_)) h.sr
  · unfold tcell Tr.opened
    by_cases h0 : j = 0
    · subst h0; rw [if_pos rfl, if_neg (by omega), if_pos rfl]
    · by_cases h1 : j = 1
      · subst h1; rw [if_neg h0, if_pos rfl, if_neg (by omega), if_neg h0, if_pos rfl]
      · by_cases h2 : j = 2
        · subst h2; rw [if_neg h0, if_neg h1, if_pos rfl, if_neg (by omega), if_neg h0, if_neg h1, if_pos rfl]
        · rw [if_neg h0, if_neg h1, if_neg h2, if_neg h0, if_neg h1, if_neg h2]
          by_cases h3 : j = 3 + f
          · subst h3
            rw [if_pos rfl]
            show ptrO (if 3 + f - 3 = f then o else s.opn (3 + f - 3)) = ptrO o
            rw [if_pos (by omega)]
          · rw [if_neg h3]
            show ptrO (if j - 3 = f then o else s.opn (j - 3)) = ptrO (s.opn (j - 3))
            rw [if_neg (by omega)]
  · obtain ⟨_, _, cur, hcu⟩ := h.row.lt ex
    exact Below.heap_setCell _ _ _ _ (row_neT h.str hcu (by decide))

theorem Ok.opened {s : Tr} {r : Nat} (h : Ok s r) (f : Nat) (o : Option Nat) : Ok (s.opened f o) r := ⟨h.root, h.dir, h.kind, h.live⟩

set_option maxHeartbeats 2000000 in
theorem open_ok {w : World} {S : Nat → Prop} {g r b f : Nat} {s : Tr} {t : Th} (h : TM w S g s) (hk : Ok s r) {p : List UInt8} {ns : List (List UInt8)} (hp : spl p = some ns) (hg : go s ns r = (0, some b)) (ht : s.T b = some t) (h1 : t.k = 1) (hf : FreeH s f) :
    Calls Tryz.prog 18 #[.pointer (some ⟨g, 0, none⟩), .string (St p)] w fun e w' => e = .returned (.tuple #[.int .i64 (f : Int), .int .i64 0]) ∧ TM w' S g (s.opened f (some b)) ∧ Kp S w w' := by
  have K := hide (refuses_one (p := p) h hk.row_ne (by have := spl_len hp; omega) (Below.refl _ _))
  rw [splE_of hp] at K
  have KF : Hid (∀ u, TM u S g s → Calls Tryz.prog 53 #[.pointer (some ⟨g, 0, none⟩), .string (St p)] u fun e w' => e = .returned (.tuple #[.pointer (some ⟨b, 0, none⟩), .int .i64 0]) ∧ Below u.heap.size u w') := fun u hu => by
    have := find_any hu hk hp
    rw [hg] at this
    exact this
  have KI : Hid (∀ u, TM u S g s → Calls Tryz.prog 63 #[.slice (some ⟨g, 3, none⟩) 16 16, .pointer none] u fun e w' => e = .returned (.int .i64 (f : Int)) ∧ w' = u) := fun u hu => index_free hu hf
  have HT := hide h
  have HX := hide (And.intro ht h1)
  have hlt := hf.lt
  clear h hk hp hg ht h1 hf
  generalize St p = sp at *
  go_enter Tryz.func18, Tryz.ntmps18
  go_wp2_with fail
  refine (unhide K).mono ?_
  rintro e w1 ⟨rfl, hb⟩
  have HT := hide (HT.out.below hb)
  have HB := hide hb
  have KF := hide (KF.out w1 HT.out)
  clear K hb
  go_wp2_with fail
  refine (unhide KF).mono ?_
  rintro e w2 ⟨rfl, hb⟩
  have HT := hide (HT.out.below hb)
  have HB := hide (HB.out.trans (hb.mono HB.out.size))
  have t0 := (HT.out.thing_cells HX.out.1).1
  rw [HX.out.2] at t0
  have KI := hide (KI.out w2 HT.out)
  clear KF hb
  go_wp2_with fail
  refine (unhide KI).mono ?_
  rintro e w3 ⟨rfl, rfl⟩
  clear KI
  have c3 := HT.out.open_cell hlt
  have cf := HT.out.tree_cells.2.2.2
  have l0 : (0 : Int) ≤ (f : Int) := by omega
  have l1 : (f : Int) < 16 := by omega
  have d0 : decide ((f : Int) < 0) = false := by simp
  have HR : Hid (TM (w3.setCell ⟨g, 3 + f, none⟩ (.pointer (some ⟨b, 0, none⟩))) S g (s.opened f (some b)) ∧ Kp S w (w3.setCell ⟨g, 3 + f, none⟩ (.pointer (some ⟨b, 0, none⟩)))) := ⟨HT.out.opened hlt (some b), (Kp.of HB.out).setCell (p := ⟨g, 3 + f, none⟩) (.inl HT.out.sg) _⟩
  clear HT HB HX hlt
  go_wp2_with fail
  go_ret2
  exact ⟨rfl, HR.out⟩

end Go.Proofs.YtknmgefpjdfenaaGreat

/- file and Read. -/
namespace Go.Proofs.YtknmgefpjdfenaaGreat
open Go.RowKit Go.Shelf Go.Maps
set_option linter.unusedVariables false
set_option maxRecDepth 100000

theorem bclone_nil (cap : Nat) (w : World) : Calls Tryz.prog 50 #[.slice none 0 cap] w fun e w' => e = .returned (.slice none 0 0) ∧ w' = w := by
  have q : ∀ (w : World) (a : Option Addr) (n c n' c' : Nat), (binOp .eql 34 (.slice a n c) (.slice none n' c')).run Tryz.prog w = .ok (.bool a.isNone) w := fun w a n c n' c' => Lib.run_eql_slice_nil w _ _ a n c n' c' Tryz.underlying34
  go_enter Tryz.func50, Tryz.ntmps50
  go_wp2_with fail
  go_ret
  exact ⟨rfl, rfl⟩

/-- bytes.Clone, of nil too. -/
theorem bclone_all (a : Option Addr) (len cap : Nat) (zs : List Int) (w : World) (hr : Has w a len zs) (hn : len ≤ 140737488351232) :
    Calls Tryz.prog 50 #[.slice a len cap] w fun e w' => ∃ a' c', e = .returned (.slice a' len c') ∧ Own w.heap.size w' a' len c' zs ∧ Below w.heap.size w w' := by
  cases a with
  | some x => exact bclone_any x len cap zs w hr hn
  | none =>
    have h0 : len = 0 := by
      by_cases h : 0 < len
      · obtain ⟨b, off, e, _⟩ := hr.2 h
        cases e
      · omega
    subst h0
    obtain rfl : zs = [] := List.eq_nil_of_length_eq_zero hr.1
    refine (bclone_nil cap w).mono ?_
    rintro e w' ⟨rfl, rfl⟩
    exact ⟨none, 0, rfl, Own.nil _ _, Below.refl _ _⟩

theorem file_ok {w : World} {S : Nat → Prop} {g f b : Nat} {s : Tr} (h : TM w S g s) (hf : f < 16) (ho : s.opn f = some b) (hr : s.row ≠ []) :
    Calls Tryz.prog 64 #[.pointer (some ⟨g, 0, none⟩), .int .i64 (f : Int)] w fun e w' => e = .returned (.tuple #[.pointer (some ⟨b, 0, none⟩), .int .i64 0]) ∧ w' = w := by
  have K := hide (isnone_no h hr)
  have c := h.open_cell hf
  rw [ho] at c
  simp only [ptrO, Option.map_some] at c
  have l0 : (0 : Int) ≤ (f : Int) := by omega
  have l1 : (f : Int) < 16 := by omega
  clear h ho hr hf
  go_enter Tryz.func64, Tryz.ntmps64
  go_wp2_with fail
  refine (unhide K).mono ?_
  rintro e w1 ⟨rfl, rfl⟩
  clear K
  go_wp2_with fail
  go_ret2
  exact ⟨rfl, rfl⟩

set_option maxHeartbeats 4000000 in
theorem read_ok {w : World} {S : Nat → Prop} {g f b : Nat} {s : Tr} {t : Th} (h : TM w S g s) (hf : f < 16) (ho : s.opn f = some b) (hr : s.row ≠ []) (ht : s.T b = some t) (hd : t.d.length ≤ 1000000) (at0 n : Nat) (ha : at0 ≤ 9223372036854775807) (hn : n ≤ 4096) :
    Calls Tryz.prog 19 #[.pointer (some ⟨g, 0, none⟩), .int .i64 (f : Int), .int .i64 (at0 : Int), .int .i64 (n : Int)] w fun e w' => ∃ a c, e = .returned (.tuple #[.slice a (min n (t.d.length - min at0 t.d.length)) c, .int .i64 0]) ∧
      Own w.heap.size w' a (min n (t.d.length - min at0 t.d.length)) c ((t.d.drop (min at0 t.d.length)).take (min n (t.d.length - min at0 t.d.length))) ∧ Below w.heap.size w w' := by
  have K := hide (file_ok h hf ho hr)
  have c3 := (h.thing_cells ht).2.2.2.1
  have hO := h.dat b t ht
  obtain ⟨a1, z1, R1, hz1, hH1⟩ := cut_l hO.has (l := min at0 t.d.length) hO.2.1 (by omega)
  obtain ⟨a2, z2, R2, hz2, hH2⟩ := cut_h hH1 (k := min n (t.d.length - min at0 t.d.length)) hz1 (by omega)
  have KC : Hid (∀ q, Calls Tryz.prog 50 #[.slice a2 (min n (t.d.length - min at0 t.d.length)) z2] (w.drewN q) fun e w' => ∃ a c, e = .returned (.slice a (min n (t.d.length - min at0 t.d.length)) c) ∧ Own w.heap.size w' a (min n (t.d.length - min at0 t.d.length)) c ((t.d.drop (min at0 t.d.length)).take (min n (t.d.length - min at0 t.d.length))) ∧ Below w.heap.size w w') := fun q => by
    refine (bclone_all a2 _ z2 _ (w.drewN q) hH2 (by omega)).mono ?_
    rintro e w' ⟨a, c, rfl, o, bb⟩
    exact ⟨a, c, rfl, o, bb.os, bb.tape, bb.output, bb.size, bb.block⟩
  have m1 : min (at0 : Int) (t.d.length : Int) = ((min at0 t.d.length : Nat) : Int) := by omega
  have m2 : min (n : Int) ((t.d.length - min at0 t.d.length : Nat) : Int) = ((min n (t.d.length - min at0 t.d.length) : Nat) : Int) := by omega
  have d1 : decide ((n : Int) > 4096) = false := by simp; omega
  clear h hf ho hr ht hO hH1 hH2 hz1 hz2
  generalize min n (t.d.length - min at0 t.d.length) = k2 at *
  generalize t.d.length - min at0 t.d.length = l2 at *
  generalize min at0 t.d.length = k1 at *
  generalize t.d.length = l1 at *
  go_enter Tryz.func19, Tryz.ntmps19
  go_wp2_with fail
  refine (unhide K).mono ?_
  rintro e w1 ⟨rfl, rfl⟩
  clear K
  go_wp2_with fail
  go_region
  go_wp2_with fail
  refine (unhide KC 1).mono ?_
  rintro e w2 ⟨a, c, rfl, ho, hb⟩
  have HR := hide (And.intro ho hb)
  clear KC ho hb
  go_wp2_with fail
  go_ret2
  exact ⟨a, c, rfl, HR.out⟩

end Go.Proofs.YtknmgefpjdfenaaGreat

