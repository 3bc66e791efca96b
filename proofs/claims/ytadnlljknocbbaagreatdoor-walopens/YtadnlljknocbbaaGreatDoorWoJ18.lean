/- Joined: DNew, DFull, DFuses, DRBase, DRLeaf. -/
import Derived.Test.YtadnlljknocbbaaGreatDoorWoJ14
import Derived.Test.YtadnlljknocbbaaGreatDoorWoJ10
import Derived.BigRegion
import Derived.Test.YtadnlljknocbbaaGreatDoorWoJ4
/- The contract of New. -/
namespace Go.Proofs.YtadnlljknocbbaaGreatDoor
open Go.RowKit Go.Shelf
set_option linter.unusedVariables false

/-- What New answers beside the device. -/
def newE (b bl : Int) : Int := if badB b bl 2 4 = true then 1 else if 1048576 < b * bl then 5 else 0

theorem newE_makeE {b bl : Int} (h : newE b bl ≠ 0) : makeE b bl 2 4 = newE b bl := by
  unfold newE at *
  unfold makeE
  by_cases h1 : badB b bl 2 4 = true
  · rw [if_pos h1, if_pos h1]
  · rw [if_neg h1, if_neg h1]
    by_cases h2 : 1048576 < b * bl
    · rw [if_pos h2, if_pos h2]
    · rw [if_neg h1, if_neg h2] at h
      exact absurd rfl h

theorem newE_ok {b bl : Int} (h : newE b bl = 0) : makeE b bl 2 4 ≠ 1 ∧ makeE b bl 2 4 ≠ 5 ∧ isSize b ∧ 1 ≤ bl ∧ bl ≤ 4096 ∧ b * bl ≤ 1048576 := by
  unfold newE at h
  unfold makeE
  by_cases h1 : badB b bl 2 4 = true
  · rw [if_pos h1] at h; omega
  · rw [if_neg h1] at h
    by_cases h2 : 1048576 < b * bl
    · rw [if_pos h2] at h; omega
    · rw [if_neg h1, if_neg h2]
      have h3 : ¬ badArg b bl 2 4 := fun x => h1 (badB_iff.2 x)
      unfold badArg at h3
      simp only [not_or, Classical.not_not] at h3
      refine ⟨by split <;> omega, by split <;> omega, h3.1, by omega, by omega, by omega⟩

theorem newE_vals (b bl : Int) : newE b bl = 1 ∨ newE b bl = 5 ∨ newE b bl = 0 := by
  unfold newE
  split
  · exact .inl rfl
  · split
    · exact .inr (.inl rfl)
    · exact .inr (.inr rfl)

set_option maxRecDepth 100000 in
theorem new_bad (b bl : Int) (w : World) (h : newE b bl ≠ 0) :
    Calls Tryz.prog 36 #[.int .i64 b, .int .i64 bl] w fun e w' => e = .returned (.tuple #[.pointer none, .int .i64 (newE b bl)]) ∧ Below w.heap.size w w' := by
  have K := make_any b bl 2 4 w
  rw [newE_makeE h] at K
  replace K := hide K
  have hv : newE b bl = 1 ∨ newE b bl = 5 := by rcases newE_vals b bl with x | x | x; · exact .inl x
                                                · exact .inr x
                                                · exact absurd x h
  have c1 : (newE b bl == 1 || newE b bl == 5) = true := by rcases hv with x | x <;> rw [x] <;> rfl
  generalize hP : makeP b bl 2 4 = P at *
  generalize newE b bl = q at *
  clear h hP
  rcases hv with rfl | rfl
  all_goals
    go_enter Tryz.func36, Tryz.ntmps36
    go_wp2_with fail
    go_at_call 84
    refine (unhide K).mono ?_
    rintro e w1 ⟨rfl, hb⟩
    have X := hide hb
    clear K hb
    go_wp2_with fail
    go_ret2
    exact ⟨rfl, (unhide X).alloc (unhide X).size _⟩

/-- A new device. -/
def Dev.new (blk n : Nat) : Dev := ⟨blk, n, fun _ => List.replicate blk 0, fun _ => [], -1, false, 0⟩

def nmem (h h0 blk : Nat) : Mem := ⟨h, fun i => (h0 + i, blk), fun _ => .slice none 0 0, false, 0⟩

/-- A device of which k blocks are laid. -/
structure NewI (w : World) (g h h0 blk n k : Nat) (u : World) : Prop where
  dev : u.rowIs g 106 6 (dcell (Dev.new blk n) (nmem h h0 blk))
  pla : u.rowIs h 109 (2 * n) (fun j => if j % 2 = 0 ∧ j / 2 < k then .slice (some ⟨h0 + j / 2, 0, none⟩) blk blk else .slice none 0 0)
  row : ∀ i, i < k → Block u (h0 + i) (List.replicate blk 0)
  siz : u.heap.size = h0 + k
  bel : Below w.heap.size w u
  g1 : w.heap.size ≤ g
  g2 : w.heap.size ≤ h
  g3 : g < h0
  g4 : h < h0

theorem NewI.step {w : World} {g h h0 blk n k : Nat} {u : World} (H : NewI w g h h0 blk n k u) (hk : k < n) :
    NewI w g h h0 blk n (k + 1) ((u.alloc (.cells (madeCells #[.int .u8 0] blk) 5)).setCell ⟨h, k * 2, none⟩ (.slice (some ⟨u.heap.size, 0, none⟩) blk blk)) := by
  have hs := H.siz
  have hne : g ≠ h := rows_ne H.pla H.dev (by decide)
  refine ⟨(H.dev.alloc _).setOther hne _, ((H.pla.alloc _).set (k * 2) _).congr (fun j hj => ?_), fun i hi => ?_, ?_, ?_, H.g1, H.g2, H.g3, H.g4⟩
  · by_cases e : j = k * 2
    · have e1 : j % 2 = 0 ∧ j / 2 < k + 1 := by omega
      have e2 : h0 + j / 2 = u.heap.size := by omega
      rw [if_pos e, if_pos e1, e2]
    · rw [if_neg e]
      by_cases e1 : j % 2 = 0 ∧ j / 2 < k
      · rw [if_pos e1, if_pos (by omega)]
      · rw [if_neg e1, if_neg (by omega)]
  · unfold Block
    rw [Below.heap_setCell _ _ _ _ (by have := H.g4; simp only; omega)]
    by_cases e : i < k
    · rw [Below.heap_alloc _ _ _ (by omega)]
      exact H.row i e
    · obtain rfl : i = k := by omega
      rw [← hs, World.alloc_heap_new, ← Array.toArray_toList (xs := madeCells #[.int .u8 0] blk), toList_madeCells_one]
      simp
  · simp [World.setCell]; omega
  · exact (H.bel.alloc H.bel.size _).setCell H.g2 _

theorem NewI.drew {w : World} {g h h0 blk n k : Nat} {u : World} (H : NewI w g h h0 blk n k u) : NewI w g h h0 blk n k u.drew := ⟨H.dev.drew, H.pla.drew, H.row, H.siz, H.bel.drew, H.g1, H.g2, H.g3, H.g4⟩

theorem NewI.done {w : World} {g h h0 blk n : Nat} {u : World} (H : NewI w g h h0 blk n n u) (h1 : 1 ≤ n) (h2 : n ≤ 4096) (h3 : 1 ≤ blk) (h4 : blk ≤ 4096) :
    Dv u (fun k => w.heap.size ≤ k ∧ k < u.heap.size) g (Dev.new blk n) := by
  have hb := H.bel.size
  have hs := H.siz
  refine ⟨nmem h h0 blk, H.dev, H.pla.congr (fun j hj => ?_), ⟨H.g1, H.dev.lt⟩, ⟨H.g2, H.pla.lt⟩, fun i hi => ?_, fun i hi => WR.nil _ _ _, fun i j k _ _ e _ => ?_, fun k hk => hk.2, .inr ⟨rfl, rfl, by simp [nmem], by simp [nmem]⟩, ⟨h1, h2, h3, h4, fun i hi => by simp [Dev.new], by simp [Dev.new], by simp [Dev.new]⟩⟩
  · simp only [pcell, nmem, Dev.new]
    by_cases e : j % 2 = 0
    · rw [if_pos e, if_pos ⟨e, by omega⟩]
    · rw [if_neg e, if_neg (fun x => e x.1)]
  · have hr := H.row i hi
    have g3 := H.g3
    have g1 := H.g1
    exact ⟨⟨by simp [Dev.new], _, hr, by simp [Dev.new, List.take_replicate]⟩, ⟨by simp only [nmem]; omega, hr.lt⟩, Nat.le_refl _, by simp only [nmem]; unfold maxLen; omega, fun z hz => by
      simp only [Dev.new] at hz
      have := List.eq_of_mem_replicate hz
      omega⟩
  · simp [nmem, Value.ownBlock] at e

theorem infoP : (Tryz.prog.info? 109).map (fun i => (i.zero, i.size, i.bytes)) = some (some (.agg #[.slice none 0 0, .slice none 0 0]), 2, 48) := by kernel_rfl

theorem make_places (n : Nat) (hn : n ≤ 4096) (w : World) : (Instr.makeSlice 104 (.int .i64 (n : Int)) (.int .i64 (n : Int))).run Tryz.prog w = .ok (.slice (some ⟨w.heap.size, 0, none⟩) n n) (w.alloc (.cells (madeCells #[.slice none 0 0, .slice none 0 0] (n * 2)) 109)) := by
  obtain ⟨i0, hi, hz0, hz1, hz2⟩ := info_parts infoP
  have hr := run_make (P := Tryz.prog) w 104 109 i0 _ Tryz.underlying104 hi hz0 .i64 .i64 n n (by omega) (Int.le_refl _) (by rw [hz2]; omega) (by omega)
  simp only [Int.toNat_natCast, hz1] at hr
  exact hr

theorem NewI.start (w w1 : World) (hb : Below w.heap.size w w1) (blk n : Nat) :
    NewI w (w1.heap.size + 1) w1.heap.size (w1.heap.size + 2) blk n 0 ((w1.alloc (.cells (madeCells #[.slice none 0 0, .slice none 0 0] (n * 2)) 109)).alloc (.cells #[.int .i64 blk, .slice (some ⟨w1.heap.size, 0, none⟩) n n, .bool false, .int .i64 0, .bool false, .int .i64 0] 106)) := by
  have hs := hb.size
  have e1 : (w1.alloc (.cells (madeCells #[.slice none 0 0, .slice none 0 0] (n * 2)) 109)).heap.size = w1.heap.size + 1 := by simp
  refine ⟨?_, ?_, fun i hi => by omega, by simp, (hb.alloc hs _).alloc (by rw [e1]; omega) _, by omega, hs, by omega, by omega⟩
  · have := World.rowIs_alloc (w1.alloc (.cells (madeCells #[.slice none 0 0, .slice none 0 0] (n * 2)) 109)) #[.int .i64 blk, .slice (some ⟨w1.heap.size, 0, none⟩) n n, .bool false, .int .i64 0, .bool false, .int .i64 0] 106 (dcell (Dev.new blk n) (nmem w1.heap.size (w1.heap.size + 2) blk)) (fun j hj => by
      have : j = 0 ∨ j = 1 ∨ j = 2 ∨ j = 3 ∨ j = 4 ∨ j = 5 := by simp at hj; omega
      rcases this with rfl | rfl | rfl | rfl | rfl | rfl <;> rfl)
    rwa [e1] at this
  · refine World.rowIs.alloc ?_ _
    refine ⟨madeCells #[.slice none 0 0, .slice none 0 0] (n * 2), World.alloc_heap_new _ _, by rw [size_madeCells, Nat.mul_comm], fun j hj => ?_⟩
    have hj2 : j % 2 = 0 ∨ j % 2 = 1 := by omega
    have e0 : ¬ (j % 2 = 0 ∧ j / 2 < 0) := by omega
    simp only [if_neg e0]
    simp [madeCells, show j < n * 2 by omega]
    rcases hj2 with e | e <;> simp [e]

set_option maxRecDepth 100000 in
set_option maxHeartbeats 1000000 in
theorem new_ok (blk n : Nat) (w : World) (h : newE blk n = 0) :
    Calls Tryz.prog 36 #[.int .i64 blk, .int .i64 n] w fun e w' => ∃ g S, e = .returned (.tuple #[.pointer (some ⟨g, 0, none⟩), .int .i64 0]) ∧ Dv w' S g (Dev.new blk n) ∧ (∀ k, S k → w.heap.size ≤ k) ∧ Below w.heap.size w w' := by
  have K := hide (make_any blk n 2 4 w)
  obtain ⟨q1, q2, hsz, hn1, hn2, _⟩ := newE_ok h
  have hb12 : 1 ≤ blk ∧ blk ≤ 4096 := by unfold isSize at hsz; omega
  have hn12 : 1 ≤ n ∧ n ≤ 4096 := by omega
  have d1 : (makeE blk n 2 4 == 1) = false := by simpa using q1
  have d2 : (makeE blk n 2 4 == 5) = false := by simpa using q2
  have hmk := make_places n hn12.2
  have hrow := run_make_row' (P := Tryz.prog) 50 5 (.int .u8 0) 1 Tryz.underlying50 info5 rfl .i64 .i64 blk (by omega) (by omega)
  have KI : Hid (∀ w1, Below w.heap.size w w1 → NewI w (w1.heap.size + 1) w1.heap.size (w1.heap.size + 2) blk n 0 _) := fun w1 hb => NewI.start w w1 hb blk n
  have KS : Hid (∀ u g h h0 k, NewI w g h h0 blk n k u → k < n → NewI w g h h0 blk n (k + 1) ((u.alloc (.cells (madeCells #[.int .u8 0] blk) 5)).setCell ⟨h, k * 2, none⟩ (.slice (some ⟨u.heap.size, 0, none⟩) blk blk))) := fun u g h h0 k H hk => H.step hk
  have KD : Hid (∀ u g h h0, NewI w g h h0 blk n n u → ∃ S, Dv u S g (Dev.new blk n) ∧ (∀ k, S k → w.heap.size ≤ k) ∧ Below w.heap.size w u) := fun u g h h0 H => ⟨_, H.done hn12.1 hn12.2 hb12.1 hb12.2, fun k hk => hk.1, H.bel⟩
  generalize hP : makeP blk n 2 4 = P at *
  generalize makeE blk n 2 4 = q at *
  clear h hP q1 q2 hsz hn1 hn2
  go_enter Tryz.func36, Tryz.ntmps36
  go_wp2_with fail
  go_at_call 84
  refine (unhide K).mono ?_
  rintro e w1 ⟨rfl, hb⟩
  have X := hide hb
  clear K hb
  go_upto_region 4 with fail
  have X2 := hide ((unhide X).alloc (unhide X).size (.cells (Pc P) 25))
  change Code.wp _ _ _ _ (w1.alloc (.cells (Pc P) 25))
  generalize w1.alloc (.cells (Pc P) 25) = w2 at *
  clear X
  have I0 := hide (unhide KI w2 (unhide X2))
  clear KI X2
  go_upto_region 5 with fail
  change Code.wp _ _ _ _ ((w2.alloc (.cells (madeCells #[.slice none 0 0, .slice none 0 0] (n * 2)) 109)).alloc (.cells #[.int .i64 blk, .slice (some ⟨w2.heap.size, 0, none⟩) n n, .bool false, .int .i64 0, .bool false, .int .i64 0] 106))
  generalize (w2.alloc (.cells (madeCells #[.slice none 0 0, .slice none 0 0] (n * 2)) 109)).alloc (.cells #[.int .i64 blk, .slice (some ⟨w2.heap.size, 0, none⟩) n n, .bool false, .int .i64 0, .bool false, .int .i64 0] 106) = w3 at *
  generalize w2.heap.size + 1 = g at *
  generalize w2.heap.size + 2 = h0 at *
  generalize w2.heap.size = h at *
  have c1 : w3.cell? ⟨g, 1, none⟩ = some (.slice (some ⟨h, 0, none⟩) n n) := (unhide I0).dev.cell (i := 1) (by omega)
  go_upto_region 6 with fail
  clear c1 hmk d1 d2
  go_loopw [33] (fun i wr => ∃ k : Nat, k ≤ n ∧ i = .int .i64 (k : Int) ∧ Hid (NewI w g h h0 blk n k wr)) (fun i _ => n - (intOf i).toNat)
  case atStart => exact ⟨0, Nat.zero_le _, rfl, I0⟩
  case round =>
    obtain ⟨k, hk, rfl, hI⟩ := hrel
    clear I0
    by_cases hlt : k < n
    · have I2 := hide (unhide KS wr g h h0 k (unhide hI) hlt)
      have c1 : wr.drew.cell? ⟨g, 1, none⟩ = some (.slice (some ⟨h, 0, none⟩) n n) := (unhide hI).dev.cell (i := 1) (by omega)
      have c2 : ∀ o, (wr.alloc o).cell? ⟨g, 1, none⟩ = some (.slice (some ⟨h, 0, none⟩) n n) := fun o => ((unhide hI).dev.alloc o).cell (i := 1) (by omega)
      obtain ⟨v0, c3⟩ : ∃ v0, ∀ o, (wr.alloc o).cell? ⟨h, k * 2, none⟩ = some v0 := ⟨_, fun o => ((unhide hI).pla.alloc o).cell (i := k * 2) (by omega)⟩
      have c4 : ∀ o, (wr.alloc o).frozen? ⟨h, k * 2, none⟩ = false := fun o => ((unhide hI).pla.alloc o).frozen _
      clear KS KD hI
      go_upto_region 8 with fail
      have I3 := hide (unhide I2).drew
      clear I2
      go_region
      go_wp2_with fail
      exact ⟨⟨k + 1, by omega, by go_num, I3⟩, by simp [intOf]; omega⟩
    · obtain rfl : k = n := by omega
      obtain ⟨S, x1, x2, x3⟩ := unhide KD wr g h h0 (unhide hI)
      have F := hide x1
      have F2 := hide x2
      have F3 := hide x3
      clear KS KD x1 x2 x3 hI
      go_wp2_with fail
      go_ret2
      exact ⟨g, S, rfl, unhide F, unhide F2, unhide F3⟩

end Go.Proofs.YtadnlljknocbbaaGreatDoor

/- The contract of full, and of wakes. -/
namespace Go.Proofs.YtadnlljknocbbaaGreatDoor
open Go.RowKit Go.Shelf
set_option linter.unusedVariables false

/-- A block of one byte. -/
def fl (x : Int) : List Int := List.replicate 64 x

theorem fl_len (x : Int) : (fl x).length = 64 := by simp [fl]

theorem fl_byt {x : Int} (h0 : 0 ≤ x) (h1 : x ≤ 255) : ∀ z ∈ fl x, 0 ≤ z ∧ z ≤ 255 := fun z hz => by
  have := List.eq_of_mem_replicate hz
  omega

theorem fl_set (x : Int) (k : Nat) (hk : k < 64) : (List.replicate k x ++ List.replicate (64 - k) 0).set k x = List.replicate (k + 1) x ++ List.replicate (64 - (k + 1)) 0 := by
  rw [List.set_append_right _ _ (by simp), List.length_replicate, Nat.sub_self, show 64 - k = (64 - (k + 1)) + 1 by omega, List.replicate_succ, List.set_cons_zero, List.replicate_succ', List.append_assoc]
  rfl

theorem full_row {x : Int} (h0 : 0 ≤ x) (h1 : x ≤ 255) {w : World} {g : Nat} (h : Block w g (fl x)) : Row w.heap.size w (some ⟨g, 0, none⟩) 64 64 (fl x) := h.row (fl_len x) (by omega) (fl_byt h0 h1)

theorem and_mask (x : Int) (j : Nat) (hj : j ≤ 60) : bits .and .i64 x ((2 ^ j - 1 : Nat) : Int) = x % ((2 ^ j : Nat) : Int) := by
  have h0 : 0 < 2 ^ j := Nat.two_pow_pos j
  have hp : 2 ^ j ≤ 2 ^ 60 := Nat.pow_le_pow_right (by omega) hj
  have hd : (2 ^ j : Nat) ∣ 2 ^ 64 := Nat.pow_dvd_pow 2 (by omega)
  have e1 : (BitVec.ofInt 64 x &&& BitVec.ofInt 64 ((2 ^ j - 1 : Nat) : Int)).toNat = (x % ((2 ^ 64 : Nat) : Int)).toNat % 2 ^ j := by
    rw [BitVec.toNat_and, BitVec.toNat_ofInt, BitVec.toNat_ofInt, ← Nat.and_two_pow_sub_one_eq_mod]
    congr 1
    rw [Int.emod_eq_of_lt (by omega) (by have : (2 ^ j - 1 : Nat) < 2 ^ 64 := by omega
                                         exact Int.ofNat_lt.2 this)]
    exact Int.toNat_natCast _
  have hw : ∀ n : Nat, n < 2 ^ 60 → IntKind.i64.wrap (n : Int) = n := by intro n hn; rw [IntKind.wrap_i64]; omega
  have hlt : (x % ((2 ^ 64 : Nat) : Int)).toNat % 2 ^ j < 2 ^ 60 := Nat.lt_of_lt_of_le (Nat.mod_lt _ h0) hp
  show IntKind.i64.wrap ((BitVec.ofInt 64 x &&& BitVec.ofInt 64 ((2 ^ j - 1 : Nat) : Int)).toNat : Int) = _
  rw [e1, hw _ hlt, Int.natCast_emod, Int.toNat_of_nonneg (Int.emod_nonneg _ (by decide)), Int.emod_emod_of_dvd _ (Int.natCast_dvd_natCast.2 hd)]

theorem and3 (x : Int) : bits .and .i64 x 3 = x % 4 := and_mask x 2 (by omega)

theorem and7 (x : Int) : bits .and .i64 x 7 = x % 8 := and_mask x 3 (by omega)

/-- New(64, 4). -/
theorem new4 (w : World) :
    Calls Tryz.prog 36 #[.int .i64 64, .int .i64 4] w fun e w' => ∃ g S, e = .returned (.tuple #[.pointer (some ⟨g, 0, none⟩), .int .i64 0]) ∧ Dv w' S g (Dev.new 64 4) ∧ (∀ k, S k → w.heap.size ≤ k) ∧ Below w.heap.size w w' := new_ok 64 4 w (by decide)

/-- Write(i, full(64, x)), i and x numbers, where it is done. -/
theorem write64 (g i k : Nat) (x : Int) (S : Nat → Prop) (D : Dev) (w : World) (hD : Dv w S g D) (hk : D.blk = 64) (hi : i < D.n) (hb : ¬ D.burnt) (hB : Block w k (fl x)) (h0 : 0 ≤ x) (h1 : x ≤ 255) (hS : ¬ S k) (hy : (D.Y i).length < 400) :
    Calls Tryz.prog 101 #[.pointer (some ⟨g, 0, none⟩), .int .i64 i, .slice (some ⟨k, 0, none⟩) 64 64] w fun e w' => e = .returned (.int .i64 0) ∧ ∃ S', Dv w' S' g (D.burn.add i (fl x)) ∧ Nx S w S' w' := by
  have := write_ok g i (some ⟨k, 0, none⟩) 64 (fl x) S D w hD hi hb (by rw [hk]; exact full_row h0 h1 hB) (fun _ y e => by cases e; exact hS) hy
  rwa [hk] at this

theorem read64 (g i : Nat) (S : Nat → Prop) (D : Dev) (w : World) (hD : Dv w S g D) (hk : D.blk = 64) (hd : D.dead = false) (hi : i < D.n) :
    Calls Tryz.prog 80 #[.pointer (some ⟨g, 0, none⟩), .int .i64 i] w fun e w' => e = .returned (.tuple #[.slice (some ⟨w.heap.size, 0, none⟩) 64 64, .int .i64 0]) ∧ Block w' w.heap.size (D.rd i) ∧ Below w.heap.size w w' := by
  have := read_ok g i S D w hD hd hi
  rwa [hk] at this

end Go.Proofs.YtadnlljknocbbaaGreatDoor

/- DeviceFuses' walk. -/
namespace Go.Proofs.YtadnlljknocbbaaGreatDoor
open Go.RowKit Go.Shelf
set_option linter.unusedVariables false


/-- A device with a fuse of N, behind k writes and flushes. -/
def FJ (N k : Nat) (D : Dev) : Prop := D.blk = 64 ∧ D.n = 4 ∧ (∀ b, b < 4 → (D.Y b).length ≤ k) ∧ ((k ≤ N ∧ D.dead = false ∧ D.f = (N : Int) - k ∧ D.wr = k) ∨ (N < k ∧ D.dead = true ∧ D.wr = N))

theorem FJ.live {N k : Nat} {D : Dev} (h : FJ N k D) (hk : k < N) : ¬ D.burnt := by
  obtain ⟨_, _, _, h⟩ := h
  rcases h with ⟨a, b, c, d⟩ | ⟨a, _⟩
  · intro hb
    rcases hb with hb | hb
    · omega
    · rw [b] at hb; cases hb
  · omega

theorem FJ.dead {N k : Nat} {D : Dev} (h : FJ N k D) (hk : ¬ k < N) : D.burnt := by
  obtain ⟨_, _, _, h⟩ := h
  rcases h with ⟨a, b, c, d⟩ | ⟨a, b, _⟩
  · exact .inl (by omega)
  · exact .inr b

theorem FJ.die {N k : Nat} {D : Dev} (h : FJ N k D) (hk : ¬ k < N) : FJ N (k + 1) D.die := by
  obtain ⟨h1, h2, h3, h⟩ := h
  refine ⟨h1, h2, fun b hb => by have := h3 b hb; simp only [Dev.die]; omega, .inr ⟨by omega, rfl, ?_⟩⟩
  rcases h with ⟨a, b, c, d⟩ | ⟨a, b, c⟩
  · simp only [Dev.die]; omega
  · exact c

theorem wrap_small (k : Nat) (h : k ≤ 100) : wrap64 ((k : Int) + 1) = (k : Int) + 1 := by unfold wrap64; omega

theorem FJ.burn {N k : Nat} {D : Dev} (h : FJ N k D) (hk : k < N) (hN : N ≤ 100) : D.burn.blk = 64 ∧ D.burn.n = 4 ∧ D.burn.dead = false ∧ D.burn.f = (N : Int) - (k + 1 : Nat) ∧ D.burn.wr = (k + 1 : Nat) ∧ D.burn.Y = D.Y ∧ ∀ b, b < 4 → (D.Y b).length ≤ k := by
  obtain ⟨h1, h2, h3, h⟩ := h
  rcases h with ⟨a, b, c, d⟩ | ⟨a, b, c⟩
  · refine ⟨h1, h2, b, ?_, ?_, rfl, h3⟩
    · simp only [Dev.burn]; rw [if_pos (by omega)]; omega
    · simp only [Dev.burn]; rw [d, wrap_small k (by omega)]; omega
  · omega

theorem FJ.flush {N k : Nat} {D : Dev} (h : FJ N k D) (hk : k < N) (hN : N ≤ 100) : FJ N (k + 1) D.burn.flush := by
  obtain ⟨h1, h2, h3, h4, h5, h6, h7⟩ := h.burn hk hN
  refine ⟨h1, h2, fun b hb => ?_, .inl ⟨by omega, h3, h4, h5⟩⟩
  simp only [Dev.flush, Dev.flushTo]
  rw [if_pos (by omega)]
  simp

theorem FJ.add {N k : Nat} {D : Dev} (h : FJ N k D) (hk : k < N) (hN : N ≤ 100) (i : Nat) (zs : List Int) : FJ N (k + 1) (D.burn.add i zs) := by
  obtain ⟨h1, h2, h3, h4, h5, h6, h7⟩ := h.burn hk hN
  refine ⟨h1, h2, fun b hb => ?_, .inl ⟨by omega, h3, h4, h5⟩⟩
  simp only [Dev.add]
  have e1 := h7 b hb
  by_cases e : b = i
  · subst e
    simp only [if_true, h6, List.length_append, List.length_cons, List.length_nil]
    omega
  · simp only [if_neg e, h6]
    omega

/-- .. in memory. -/
def FD (B : Nat) (w : World) (g N k : Nat) (u : World) : Prop := ∃ S D, Dv u S g D ∧ FJ N k D ∧ (∀ j, S j → B ≤ j) ∧ B ≤ u.heap.size ∧ Below B w u

def fe (N k : Nat) : Int := if k < N then 0 else 7

theorem fd_flush {B : Nat} {w : World} {g N k : Nat} {u : World} (h : FD B w g N k u) (hN : N ≤ 100) :
    Calls Tryz.prog 116 #[.pointer (some ⟨g, 0, none⟩)] u fun e w' => e = .returned (.int .i64 (fe N k)) ∧ FD B w g N (k + 1) w' := by
  obtain ⟨S, D, h1, h2, h3, h4, h5⟩ := h
  unfold fe
  by_cases hk : k < N
  · rw [if_pos hk]
    refine (flush_ok g S D u h1 (h2.live hk)).mono ?_
    rintro e w' ⟨rfl, x1, x2⟩
    exact ⟨rfl, S, _, x1, h2.flush hk hN, h3, Nat.le_trans h4 x2.fr.size, h5.trans (x2.below h3 h4)⟩
  · rw [if_neg hk]
    refine (flush_dies g S D u h1 (h2.dead hk)).mono ?_
    rintro e w' ⟨rfl, x1, x2⟩
    exact ⟨rfl, S, _, x1, h2.die hk, h3, Nat.le_trans h4 x2.fr.size, h5.trans (x2.below h3 h4)⟩

theorem fd_dead {B : Nat} {w : World} {g N k : Nat} {u : World} (h : FD B w g N k u) : u.cell? ⟨g, 4, none⟩ = some (.bool (decide (N < k))) := by
  obtain ⟨S, D, ⟨m, h2⟩, h3, _⟩ := h
  have := h2.cells.2.2.2.2.1
  rw [this]
  rcases h3.2.2.2 with ⟨a, b, _⟩ | ⟨a, b, _⟩
  · rw [b, decide_eq_false (by omega)]
  · rw [b, decide_eq_true (by omega)]

theorem fd_writes {B : Nat} {w : World} {g N k : Nat} {u : World} (h : FD B w g N k u) : u.cell? ⟨g, 5, none⟩ = some (.int .i64 ((min N k : Nat) : Int)) := by
  obtain ⟨S, D, ⟨m, h2⟩, h3, _⟩ := h
  have := h2.cells.2.2.2.2.2
  rw [this]
  rcases h3.2.2.2 with ⟨a, b, c, d⟩ | ⟨a, b, c⟩
  · rw [d, Nat.min_eq_right a]
  · rw [c, Nat.min_eq_left (by omega)]

theorem fd_new (w u : World) (hb : Below w.heap.size w u) (N : Nat) (hN : N ≤ 100) :
    Calls Tryz.prog 36 #[.int .i64 64, .int .i64 4] u fun e w' => ∃ g, e = .returned (.tuple #[.pointer (some ⟨g, 0, none⟩), .int .i64 0]) ∧ Hid (Calls Tryz.prog 19 #[.pointer (some ⟨g, 0, none⟩), .int .i64 N] w' fun e w' => e = .returned (.int .i64 0) ∧ FD w.heap.size w g N 0 w') := by
  refine (new4 u).mono ?_
  rintro e w1 ⟨g, S, rfl, h1, h2, h3⟩
  refine ⟨g, rfl, ?_⟩
  have hs := hb.size
  refine (fuse_any g N S _ w1 h1 (by omega)).mono ?_
  rintro e w2 ⟨rfl, y1, y2⟩
  have hS : ∀ j, S j → w.heap.size ≤ j := fun j hj => Nat.le_trans hs (h2 j hj)
  have e1 : (Dev.new 64 4).fuseE N = 0 := by unfold Dev.fuseE Dev.new; rw [if_neg (by omega)]; rfl
  have e2 : (Dev.new 64 4).fuseD N = { Dev.new 64 4 with f := N } := by unfold Dev.fuseD Dev.new; rw [if_neg (by omega)]; rfl
  rw [e2] at y1
  have s1 : w.heap.size ≤ w1.heap.size := Nat.le_trans hs h3.size
  refine ⟨by rw [e1], S, _, y1, ⟨rfl, rfl, fun b _ => by simp [Dev.new], .inl ⟨by omega, rfl, by simp, rfl⟩⟩, hS, Nat.le_trans s1 y2.fr.size, (hb.trans (h3.mono hs)).trans (y2.below hS s1)⟩

/-- What stands behind the loop. -/
theorem fd_end {B : Nat} {w : World} {g N k : Nat} {u : World} (h : FD B w g N k u) (hB : B = w.heap.size) :
    (Calls Tryz.prog 80 #[.pointer (some ⟨g, 0, none⟩), .int .i64 0] u fun e w' => (∃ v q, e = .returned (.tuple #[v, .int .i64 q]) ∧ Hid (q = if N < k then 7 else 0)) ∧ FD B w g N k w') := by
  obtain ⟨S, D, h2, h3, h4, h5, h6⟩ := h
  rcases h3.2.2.2 with ⟨a, b, _⟩ | ⟨a, b, _⟩
  · refine (read64 g 0 S D u h2 h3.1 b (by rw [h3.2.1]; omega)).mono ?_
    rintro e w' ⟨rfl, _, y2⟩
    exact ⟨⟨_, 0, rfl, by rw [if_neg (by omega)]; exact hide rfl⟩, S, D, h2.below y2, h3, h4, Nat.le_trans h5 y2.size, h6.trans (y2.mono h5)⟩
  · refine (read_dead g 0 S D u h2 b).mono ?_
    rintro e w' ⟨rfl, rfl⟩
    exact ⟨⟨_, 7, rfl, by rw [if_pos a]; exact hide rfl⟩, S, D, h2, h3, h4, h5, h6⟩

end Go.Proofs.YtadnlljknocbbaaGreatDoor

/- The document's device in memory: its own block, the block of its lists, and the rows. -/
namespace Go.Proofs.YtadnlljknocbbaaGreatDoor
open Go.RowKit Go.Shelf
set_option linter.unusedVariables false

/-- Block i is x, and ys wait. -/
def Dev.put (D : Dev) (i : Nat) (x : List Int) (ys : List (List Int)) : Dev := { D with X := fun j => if j = i then x else D.X j, Y := fun j => if j = i then ys else D.Y j }

theorem put_load (D : Dev) (i : Nat) (zs : List Int) : D.put i zs [] = D.load i zs := rfl

theorem put_settle (D : Dev) (i : Nat) (k : Int) : D.put i (D.pick i k) [] = D.settle i k := rfl

theorem put_add (D : Dev) (i : Nat) (zs : List Int) : D.put i (D.X i) (D.Y i ++ [zs]) = D.add i zs := by
  unfold Dev.put Dev.add
  congr 1
  funext j
  by_cases e : j = i
  · simp [e]
  · simp [e]

/-- Where it lies. -/
structure RMem where
  h : Nat
  hc : Nat
  V : Nat → Value

def rcell (D : Dev) (m : RMem) (k : Nat) : Value :=
  if k = 0 then .int .i64 D.blk else if k = 1 then .slice (some ⟨m.h, 0, none⟩) D.n m.hc else if k = 2 then .int .i64 D.f else if k = 3 then .bool D.dead else .int .i64 D.wr

structure RvM (u : World) (S : Nat → Prop) (g : Nat) (D : Dev) (m : RMem) : Prop where
  dev : u.rowIs g 87 5 (rcell D m)
  lis : u.rowIs m.h 80 m.hc m.V
  hn : D.n ≤ m.hc ∧ m.hc ≤ maxLen
  sg : S g
  sh : S m.h
  row : ∀ i, i < D.n → WR u S D.blk (m.V i) (D.X i :: D.Y i)
  one : ∀ i j k, i < D.n → j < D.n → (m.V i).ownBlock = some k → (m.V j).ownBlock = some k → i = j
  lt : ∀ k, S k → k < u.heap.size
  ok : D.Ok

/-- The document's device in memory: S are its blocks. -/
def Rv (u : World) (S : Nat → Prop) (g : Nat) (D : Dev) : Prop := ∃ m, RvM u S g D m

theorem WR.own {u : World} {S : Nat → Prop} {blk : Nat} {v : Value} {Z : List (List Int)} (h : WR u S blk v Z) {k : Nat} (e : v.ownBlock = some k) : S k ∧ ∃ cur, u.heap[k]? = some (.cells cur 50 (0, 0)) := by
  obtain ⟨a, c, e1, _, _, _, hx⟩ := h.shape
  rw [e1] at e
  cases a with
  | none => simp [Value.ownBlock] at e
  | some x =>
    obtain ⟨k2, cur, rfl, hs, hh, _⟩ := hx x rfl
    simp [Value.ownBlock] at e
    subst e
    exact ⟨hs, cur, hh⟩

theorem RvM.kept {u u' : World} {S S' : Nat → Prop} {g : Nat} {D : Dev} {m : RMem} (h : RvM u S g D m) (hk : ∀ k, S k → u'.heap[k]? = u.heap[k]?) (hS : ∀ k, S k → S' k) (hl : ∀ k, S' k → k < u'.heap.size) : RvM u' S' g D m :=
  ⟨h.dev.of_block (hk _ h.sg), h.lis.of_block (hk _ h.sh), h.hn, hS _ h.sg, hS _ h.sh,
   fun i hi => (h.row i hi).kept (fun k _ hs _ => hk k hs) (fun k e => hk k ((h.row i hi).own e).1) hS, h.one, hl, h.ok⟩

theorem Rv.kept {u u' : World} {S : Nat → Prop} {g : Nat} {D : Dev} (h : Rv u S g D) (hk : ∀ k, S k → u'.heap[k]? = u.heap[k]?) (hs : u.heap.size ≤ u'.heap.size) : Rv u' S g D := by
  obtain ⟨m, h⟩ := h
  exact ⟨m, h.kept hk (fun _ h => h) (fun k hk => Nat.lt_of_lt_of_le (h.lt k hk) hs)⟩

theorem Rv.lt {u : World} {S : Nat → Prop} {g : Nat} {D : Dev} (h : Rv u S g D) {k : Nat} (hk : S k) : k < u.heap.size := by obtain ⟨m, h⟩ := h; exact h.lt k hk

theorem Rv.below {u u' : World} {S : Nat → Prop} {g : Nat} {D : Dev} (h : Rv u S g D) (hb : Below u.heap.size u u') : Rv u' S g D := h.kept (fun k hk => hb.block k (h.lt hk)) hb.size

theorem Rv.ok {u : World} {S : Nat → Prop} {g : Nat} {D : Dev} (h : Rv u S g D) : D.Ok := by obtain ⟨m, h⟩ := h; exact h.ok

theorem RvM.grow {w w' : World} {S : Nat → Prop} {g : Nat} {D : Dev} {m : RMem} (h : RvM w S g D m) (hb : Below w.heap.size w w') : RvM w' (exS S w w') g D m :=
  h.kept (fun k hk => hb.block k (h.lt k hk)) (fun k hk => .inl hk) (fun k hk => by
    rcases hk with hk | hk
    · exact Nat.lt_of_lt_of_le (h.lt k hk) hb.size
    · exact hk.2)

theorem RvM.cells {u : World} {S : Nat → Prop} {g : Nat} {D : Dev} {m : RMem} (h : RvM u S g D m) :
    u.cell? ⟨g, 0, none⟩ = some (.int .i64 D.blk) ∧ u.cell? ⟨g, 1, none⟩ = some (.slice (some ⟨m.h, 0, none⟩) D.n m.hc) ∧ u.cell? ⟨g, 2, none⟩ = some (.int .i64 D.f) ∧ u.cell? ⟨g, 3, none⟩ = some (.bool D.dead) ∧ u.cell? ⟨g, 4, none⟩ = some (.int .i64 D.wr) :=
  ⟨h.dev.cell (i := 0) (by omega), h.dev.cell (i := 1) (by omega), h.dev.cell (i := 2) (by omega), h.dev.cell (i := 3) (by omega), h.dev.cell (i := 4) (by omega)⟩

theorem RvM.free {u : World} {S : Nat → Prop} {g : Nat} {D : Dev} {m : RMem} (h : RvM u S g D m) (k : Nat) : u.frozen? ⟨g, k, none⟩ = false := h.dev.frozen k

theorem five : ∀ j, j < 5 → j = 0 ∨ j = 1 ∨ j = 2 ∨ j = 3 ∨ j = 4 := by omega

/-- A store into a cell of the device's own block. -/
theorem RvM.setG {u : World} {S : Nat → Prop} {g : Nat} {D D' : Dev} {m : RMem} (h : RvM u S g D m) (k : Nat) (v : Value) (hD : D'.blk = D.blk ∧ D'.n = D.n ∧ D'.X = D.X ∧ D'.Y = D.Y)
    (hc : ∀ j, j < 5 → rcell D' m j = if j = k then v else rcell D m j) (ho : D'.Ok) : RvM (u.setCell ⟨g, k, none⟩ v) S g D' m := by
  obtain ⟨d1, d2, d3, d4⟩ := hD
  have ne : ∀ (k' : Nat) (c : Array Value) (t : TypeId), t ≠ 87 → u.heap[k']? = some (Obj.cells c t (0, 0)) → (u.setCell ⟨g, k, none⟩ v).heap[k']? = u.heap[k']? := fun k' c t ht hh =>
    Below.heap_setCell _ _ _ _ (row_ne h.dev hh (fun e => ht e.symm))
  refine ⟨(h.dev.set k v).congr (fun j hj => (hc j hj).symm), h.lis.setOther (rows_ne h.dev h.lis (by decide)) v, by rw [d2]; exact h.hn, h.sg, h.sh, ?_, by rw [d2]; exact h.one, fun k' hk' => by simpa [World.setCell] using h.lt k' hk', ho⟩
  intro i hi
  rw [d1, d3, d4]
  refine (h.row i (by omega)).kept (fun k' c _ hh => ne k' c 5 (by decide) hh) (fun k' e => ?_) (fun _ h => h)
  obtain ⟨_, cur, hh⟩ := (h.row i (by omega)).own e
  exact ne _ _ _ (by decide) hh

/-- A store into the list of block i. -/
theorem RvM.setL {u : World} {S : Nat → Prop} {g : Nat} {D : Dev} {m : RMem} (h : RvM u S g D m) {i : Nat} (hi : i < D.n) {v : Value} {x : List Int} {ys : List (List Int)} (hv : WR u S D.blk v (x :: ys)) (hy : ys.length ≤ 400)
    (hone : ∀ j k, j < D.n → j ≠ i → (m.V j).ownBlock = some k → v.ownBlock ≠ some k) :
    RvM (u.setCell ⟨m.h, i, none⟩ v) S g (D.put i x ys) { m with V := fun j => if j = i then v else m.V j } := by
  have ne : ∀ (k' : Nat) (c : Array Value) (t : TypeId), t ≠ 80 → u.heap[k']? = some (Obj.cells c t (0, 0)) → (u.setCell ⟨m.h, i, none⟩ v).heap[k']? = u.heap[k']? := fun k' c t ht hh =>
    Below.heap_setCell _ _ _ _ (row_ne h.lis hh (fun e => ht e.symm))
  have kv : ∀ {v' : Value} {Z' : List (List Int)}, WR u S D.blk v' Z' → WR (u.setCell ⟨m.h, i, none⟩ v) S D.blk v' Z' := by
    intro v' Z' hw
    refine hw.kept (fun k' c _ hh => ne k' c 5 (by decide) hh) (fun k' e => ?_) (fun _ h => h)
    obtain ⟨_, cur, hh⟩ := hw.own e
    exact ne _ _ _ (by decide) hh
  refine ⟨(h.dev.setOther (rows_ne h.lis h.dev (by decide)) _).congr (fun j hj => rfl), (h.lis.set i _), h.hn, h.sg, h.sh, ?_, ?_, fun k' hk' => by simpa [World.setCell] using h.lt k' hk', ⟨h.ok.n1, h.ok.n2, h.ok.b1, h.ok.b2, fun j hj => ?_, h.ok.f1, h.ok.f2⟩⟩
  · intro j hj
    simp only [Dev.put]
    by_cases e : j = i
    · subst e
      simp only [if_true]
      exact kv hv
    · simp only [if_neg e]
      exact kv (h.row j hj)
  · intro a b k ha hb ea eb
    by_cases e1 : a = i
    · by_cases e2 : b = i
      · omega
      · simp only [e1, if_true] at ea
        simp only [if_neg e2] at eb
        exact absurd ea (hone b k hb e2 eb)
    · by_cases e2 : b = i
      · simp only [e2, if_true] at eb
        simp only [if_neg e1] at ea
        exact absurd eb (hone a k ha e1 ea)
      · simp only [if_neg e1] at ea
        simp only [if_neg e2] at eb
        exact h.one a b k ha hb ea eb
  · simp only [Dev.put]
    by_cases e : j = i
    · simp only [e, if_true]; exact hy
    · simp only [if_neg e]; exact h.ok.y j hj

/-- The list of block i. -/
theorem RvM.list {u : World} {S : Nat → Prop} {g : Nat} {D : Dev} {m : RMem} (h : RvM u S g D m) {i : Nat} (hi : i < D.n) :
    ∃ k c, m.V i = .slice (some ⟨k, 0, none⟩) ((D.Y i).length + 1) c ∧ (D.Y i).length + 1 ≤ c ∧ c ≤ maxLen ∧ S k ∧ u.cell? ⟨m.h, i, none⟩ = some (.slice (some ⟨k, 0, none⟩) ((D.Y i).length + 1) c) ∧ (∀ j, u.frozen? ⟨m.h, j, none⟩ = false) ∧
      ∀ j, j < (D.Y i).length + 1 → ∃ r, u.cell? ⟨k, j, none⟩ = some (rv D.blk r) ∧ RowAt u S D.blk r ((D.X i :: D.Y i)[j]?.getD []) := by
  have hw := h.row i hi
  obtain ⟨a, c, e, hc, hm, _⟩ := hw.shape
  simp only [List.length_cons] at e hc
  have hw2 := hw
  rw [e] at hw2
  obtain ⟨k, r, rfl, hs, _⟩ := hw2.elem (j := 0) (by simp)
  refine ⟨k, c, e, hc, hm, hs, by rw [h.lis.cell (by have := h.hn.1; omega), e], fun j => h.lis.frozen j, fun j hj => ?_⟩
  obtain ⟨k', r', e', _, ck, _, hr⟩ := hw2.elem (j := j) (by simpa using hj)
  cases e'
  exact ⟨r', ck, hr⟩

/-- What is read of block i. -/
theorem rd_last (D : Dev) (i : Nat) : (D.X i :: D.Y i)[(D.Y i).length]?.getD [] = D.rd i := by
  unfold Dev.rd
  rw [List.getLast?_eq_getElem?]
  by_cases h : D.Y i = []
  · rw [h]; rfl
  · have hl : 0 < (D.Y i).length := List.length_pos_iff.2 h
    obtain ⟨l, hl2⟩ : ∃ l, (D.Y i).length = l + 1 := ⟨(D.Y i).length - 1, by omega⟩
    rw [hl2, List.getElem?_cons_succ, Nat.add_sub_cancel, List.getElem?_eq_getElem (by omega)]
    rfl

end Go.Proofs.YtadnlljknocbbaaGreatDoor

/- The contracts of the document's device: the small ones. -/
namespace Go.Proofs.YtadnlljknocbbaaGreatDoor
open Go.RowKit Go.Shelf
set_option linter.unusedVariables false

set_option maxRecDepth 100000 in
theorem rblock (g : Nat) (w : World) (x : Int) (c0 : w.cell? ⟨g, 0, none⟩ = some (.int .i64 x)) :
    Calls Tryz.prog 88 #[.pointer (some ⟨g, 0, none⟩)] w fun e w' => e = .returned (.int .i64 x) ∧ w = w' := by
  go_enter Tryz.func88, Tryz.ntmps88
  go_wp2
  go_ret
  exact ⟨rfl, rfl⟩

set_option maxRecDepth 100000 in
theorem rblocks (g h n c : Nat) (w : World) (c1 : w.cell? ⟨g, 1, none⟩ = some (.slice (some ⟨h, 0, none⟩) n c)) :
    Calls Tryz.prog 79 #[.pointer (some ⟨g, 0, none⟩)] w fun e w' => e = .returned (.int .i64 n) ∧ w = w' := by
  go_enter Tryz.func79, Tryz.ntmps79
  go_wp2
  go_ret
  exact ⟨rfl, rfl⟩

set_option maxRecDepth 100000 in
theorem rdead (g : Nat) (w : World) (x : Bool) (c3 : w.cell? ⟨g, 3, none⟩ = some (.bool x)) :
    Calls Tryz.prog 76 #[.pointer (some ⟨g, 0, none⟩)] w fun e w' => e = .returned (.bool x) ∧ w = w' := by
  go_enter Tryz.func76, Tryz.ntmps76
  go_wp2
  go_ret
  exact ⟨rfl, rfl⟩

set_option maxRecDepth 100000 in
theorem rwrites (g : Nat) (w : World) (x : Int) (c4 : w.cell? ⟨g, 4, none⟩ = some (.int .i64 x)) :
    Calls Tryz.prog 75 #[.pointer (some ⟨g, 0, none⟩)] w fun e w' => e = .returned (.int .i64 x) ∧ w = w' := by
  go_enter Tryz.func75, Tryz.ntmps75
  go_wp2
  go_ret
  exact ⟨rfl, rfl⟩

set_option maxRecDepth 100000 in
theorem rburn_dies (g : Nat) (S : Nat → Prop) (D : Dev) (w : World) (hD : Rv w S g D) (hb : D.burnt) :
    Calls Tryz.prog 93 #[.pointer (some ⟨g, 0, none⟩)] w fun e w' => e = .returned (.bool false) ∧ Rv w' S g D.die ∧ Nx S w S w' := by
  obtain ⟨m, hD⟩ := hD
  obtain ⟨c0, c1, c2, c3, c4⟩ := hD.cells
  have f3 := hD.free 3
  by_cases h0 : D.f = 0
  · rw [h0] at c2
    have fin : RvM (w.setCell ⟨g, 3, none⟩ (.bool true)) S g D.die m := hD.setG 3 (.bool true) ⟨rfl, rfl, rfl, rfl⟩ (fun j hj => by
      rcases five j hj with rfl | rfl | rfl | rfl | rfl <;> simp [rcell, Dev.die]) hD.ok.die
    have F := hide fin
    have Nn := hide (Nx.set (w := w) (p := ⟨g, 3, none⟩) hD.sg (.bool true))
    generalize D.dead = dd at *
    generalize D.blk = bb at *
    generalize D.n = nn at *
    generalize m.h = hh at *
    generalize m.hc = hc at *
    clear h0 fin hD hb
    go_enter Tryz.func93, Tryz.ntmps93
    go_wp2
    go_ret
    exact ⟨rfl, ⟨m, unhide F⟩, unhide Nn⟩
  · have hd : D.dead = true := by rcases hb with hb | hb; · omega
                                  · exact hb
    rw [hd] at c3
    have F := hide (show Rv w S g D.die by rw [Dev.die_dead hd]; exact ⟨m, hD⟩)
    generalize D.f = ff at *
    clear hD hd
    go_enter Tryz.func93, Tryz.ntmps93
    go_wp2
    go_ret
    exact ⟨rfl, unhide F, Nx.refl _ _⟩

set_option maxRecDepth 100000 in
theorem rburn_burns (g : Nat) (S : Nat → Prop) (D : Dev) (w : World) (hD : Rv w S g D) (hb : ¬ D.burnt) :
    Calls Tryz.prog 93 #[.pointer (some ⟨g, 0, none⟩)] w fun e w' => e = .returned (.bool true) ∧ Rv w' S g D.burn ∧ Nx S w S w' := by
  obtain ⟨m, hD⟩ := hD
  obtain ⟨c0, c1, c2, c3, c4⟩ := hD.cells
  have f2 := hD.free 2
  have f4 := hD.free 4
  have hd : D.dead = false := by cases h : D.dead with
    | false => rfl
    | true => exact absurd (.inr h) hb
  have hf : ¬ D.f = 0 := fun h => hb (.inl h)
  rw [hd] at c3
  by_cases hp : 0 < D.f
  · have ho1 : Dev.Ok { D with f := D.f - 1 } := ⟨hD.ok.n1, hD.ok.n2, hD.ok.b1, hD.ok.b2, hD.ok.y, by simp only; omega, by have := hD.ok.f2; simp only; omega⟩
    have s1 : RvM (w.setCell ⟨g, 2, none⟩ (.int .i64 (D.f - 1))) S g { D with f := D.f - 1 } m := hD.setG 2 _ ⟨rfl, rfl, rfl, rfl⟩ (fun j hj => by
      rcases five j hj with rfl | rfl | rfl | rfl | rfl <;> simp [rcell]) ho1
    have s2 : RvM ((w.setCell ⟨g, 2, none⟩ (.int .i64 (D.f - 1))).setCell ⟨g, 4, none⟩ (.int .i64 (wrap64 (D.wr + 1)))) S g D.burn m := s1.setG 4 _ ⟨rfl, rfl, rfl, rfl⟩ (fun j hj => by
      rcases five j hj with rfl | rfl | rfl | rfl | rfl <;> simp [rcell, Dev.burn, hp]) hD.ok.burn
    have F := hide s2
    have Nn := hide ((Nx.set (w := w) (p := ⟨g, 2, none⟩) hD.sg (.int .i64 (D.f - 1))).trans (Nx.set (p := ⟨g, 4, none⟩) hD.sg (.int .i64 (wrap64 (D.wr + 1)))))
    have hv1 : wrap64 (D.f - 1) = D.f - 1 := wrap_pred _ hp hD.ok.f2
    generalize D.f = ff at *
    generalize D.wr = wr at *
    generalize D.blk = bb at *
    generalize D.n = nn at *
    generalize m.h = hh at *
    generalize m.hc = hc at *
    clear s1 s2 hD hb ho1
    go_enter Tryz.func93, Tryz.ntmps93
    go_wp2
    go_ret
    exact ⟨rfl, ⟨_, unhide F⟩, unhide Nn⟩
  · have s2 : RvM (w.setCell ⟨g, 4, none⟩ (.int .i64 (wrap64 (D.wr + 1)))) S g D.burn m := hD.setG 4 _ ⟨rfl, rfl, rfl, rfl⟩ (fun j hj => by
      rcases five j hj with rfl | rfl | rfl | rfl | rfl <;> simp [rcell, Dev.burn, hp]) hD.ok.burn
    have F := hide s2
    have Nn := hide (Nx.set (w := w) (p := ⟨g, 4, none⟩) hD.sg (.int .i64 (wrap64 (D.wr + 1))))
    generalize D.f = ff at *
    generalize D.wr = wr at *
    generalize D.blk = bb at *
    generalize D.n = nn at *
    generalize m.h = hh at *
    generalize m.hc = hc at *
    clear s2 hD hb
    go_enter Tryz.func93, Tryz.ntmps93
    go_wp2
    go_ret
    exact ⟨rfl, ⟨_, unhide F⟩, unhide Nn⟩

set_option maxRecDepth 100000 in
theorem rfuse (g : Nat) (n : Int) (S : Nat → Prop) (D : Dev) (w : World) (hD : Rv w S g D) (hn : n ≤ 9223372036854775807) :
    Calls Tryz.prog 20 #[.pointer (some ⟨g, 0, none⟩), .int .i64 n] w fun e w' => e = .returned (.int .i64 (D.fuseE n)) ∧ Rv w' S g (D.fuseD n) ∧ Nx S w S w' := by
  by_cases h0 : n < 0
  · rw [Dev.fuseE, Dev.fuseD, if_pos h0, if_pos h0]
    have F := hide hD
    clear hD
    go_enter Tryz.func20, Tryz.ntmps20
    go_wp2
    go_ret
    exact ⟨rfl, unhide F, Nx.refl _ _⟩
  · rw [Dev.fuseE, Dev.fuseD, if_neg h0, if_neg h0]
    obtain ⟨m, hD⟩ := hD
    obtain ⟨c0, c1, c2, c3, c4⟩ := hD.cells
    have f2 := hD.free 2
    by_cases hd : D.dead = true
    · rw [if_pos hd, if_pos hd]
      have F := hide (show Rv w S g D from ⟨m, hD⟩)
      rw [hd] at c3
      clear hD hd
      go_enter Tryz.func20, Tryz.ntmps20
      go_wp2
      go_ret
      exact ⟨rfl, unhide F, Nx.refl _ _⟩
    · rw [if_neg hd, if_neg hd]
      have hd' : D.dead = false := by simpa using hd
      rw [hd'] at c3
      have s1 : RvM (w.setCell ⟨g, 2, none⟩ (.int .i64 n)) S g { D with f := n } m := hD.setG 2 _ ⟨rfl, rfl, rfl, rfl⟩ (fun j hj => by
        rcases five j hj with rfl | rfl | rfl | rfl | rfl <;> simp [rcell]) ⟨hD.ok.n1, hD.ok.n2, hD.ok.b1, hD.ok.b2, hD.ok.y, by simp only; omega, hn⟩
      have F := hide s1
      have Nn := hide (Nx.set (w := w) (p := ⟨g, 2, none⟩) hD.sg (.int .i64 n))
      clear hD hd hd' hn s1
      go_enter Tryz.func20, Tryz.ntmps20
      go_wp2
      go_ret
      exact ⟨rfl, ⟨m, unhide F⟩, unhide Nn⟩

set_option maxRecDepth 100000 in
theorem rread_dead (g : Nat) (b : Int) (S : Nat → Prop) (D : Dev) (w : World) (hD : Rv w S g D) (hd : D.dead = true) :
    Calls Tryz.prog 53 #[.pointer (some ⟨g, 0, none⟩), .int .i64 b] w fun e w' => e = .returned (.tuple #[.slice none 0 0, .int .i64 7]) ∧ w = w' := by
  obtain ⟨m, hD⟩ := hD
  obtain ⟨c0, c1, c2, c3, c4⟩ := hD.cells
  rw [hd] at c3
  clear hD hd
  go_enter Tryz.func53, Tryz.ntmps53
  go_wp2
  go_ret2
  exact ⟨rfl, rfl⟩

set_option maxRecDepth 100000 in
theorem rread_range (g : Nat) (b : Int) (S : Nat → Prop) (D : Dev) (w : World) (hD : Rv w S g D) (hd : D.dead = false) (hb : ¬ (0 ≤ b ∧ b < D.n)) :
    Calls Tryz.prog 53 #[.pointer (some ⟨g, 0, none⟩), .int .i64 b] w fun e w' => e = .returned (.tuple #[.slice none 0 0, .int .i64 2]) ∧ w = w' := by
  obtain ⟨m, hD⟩ := hD
  obtain ⟨c0, c1, c2, c3, c4⟩ := hD.cells
  rw [hd] at c3
  clear hD hd
  generalize D.n = nn at *
  by_cases h0 : b < 0
  · clear hb
    go_enter Tryz.func53, Tryz.ntmps53
    go_wp2
    go_ret2
    exact ⟨rfl, rfl⟩
  · have h1 : (nn : Int) ≤ b := by omega
    clear hb
    go_enter Tryz.func53, Tryz.ntmps53
    go_wp2
    go_ret2
    exact ⟨rfl, rfl⟩

end Go.Proofs.YtadnlljknocbbaaGreatDoor

