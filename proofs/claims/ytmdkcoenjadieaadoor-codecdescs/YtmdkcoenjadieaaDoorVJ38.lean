/- Joined: CEq, CIno, CTakeI. -/
import Derived.Test.YtmdkcoenjadieaaDoorVCDir
import Derived.Test.YtmdkcoenjadieaaDoorVJ25
import Derived.ChangeKeysEq
import Derived.Test.YtmdkcoenjadieaaDoorVJ21
import Derived.Test.YtmdkcoenjadieaaDoorVJ8
/- Structs with arrays and texts in them, compared. -/
namespace Go.Proofs.YtmdkcoenjadieaaDoor
open Go.RowKit Go.Shelf
set_option linter.unusedVariables false
set_option maxRecDepth 100000

/-- An inode's thirteen numbers. -/
abbrev Iv (X : Nat → Int) : Value := .agg #[.int .i64 (X 0), .int .i64 (X 1), .int .i64 (X 2), .int .i64 (X 3), .int .i64 (X 4), .int .i64 (X 5), .int .i64 (X 6), .int .i64 (X 7), .int .i64 (X 8), .int .i64 (X 9), .int .i64 (X 10), .int .i64 (X 11), .int .i64 (X 12)]
abbrev Ic (X : Nat → Int) : Array Value := #[.int .i64 (X 0), .int .i64 (X 1), .int .i64 (X 2), .int .i64 (X 3), .int .i64 (X 4), .int .i64 (X 5), .int .i64 (X 6), .int .i64 (X 7), .int .i64 (X 8), .int .i64 (X 9), .int .i64 (X 10), .int .i64 (X 11), .int .i64 (X 12)]
abbrev Iz : Array Value := #[.int .i64 0, .int .i64 0, .int .i64 0, .int .i64 0, .int .i64 0, .int .i64 0, .int .i64 0, .int .i64 0, .int .i64 0, .int .i64 0, .int .i64 0, .int .i64 0, .int .i64 0]

theorem underI : Tryd.prog.underlying 55 = some (.struct (Tryd.prog.fieldsOf 55)) := by kernel_rfl
theorem stoodI : Tryd.prog.stoodInHeld 55 = false := by kernel_rfl
theorem underA8 : Tryd.prog.underlying 53 = some (.array 8 3) := by kernel_rfl
theorem cellsA8 : Tryd.prog.cellsOf 53 = 8 := by kernel_rfl
theorem infoA8 : (Tryd.prog.info? 53).isSome = true := by kernel_rfl
theorem info3e : (Tryd.prog.info? 3).isSome = true := by kernel_rfl
theorem cells3e : Tryd.prog.cellsOf 3 = 1 := by kernel_rfl

theorem fieldsI : (Tryd.prog.fieldsOf 55).toList.map (fun f => (f.name, f.type, f.offset)) = [("Kind", 3, 0), ("Links", 3, 1), ("Size", 3, 2), ("Direct", 53, 3), ("Single", 3, 11), ("Double", 3, 12)] := by kernel_rfl

theorem part_i {xs : Array Value} {k : Nat} {z : Int} (h : xs[k]? = some (.int .i64 z)) (w : World) : (part 3 xs k).run Tryd.prog w = .ok (.int .i64 z) w := by
  simp only [part, isAgg, Sem.run_bind, run_underlying Tryd.underlying3, Result.andThen_ok, Sem.run_pure]
  rw [h]
  rfl

theorem part_a8 (xs : Array Value) (k : Nat) (w : World) : (part 53 xs k).run Tryd.prog w = .ok (.agg (xs.extract k (k + 8))) w := by
  obtain ⟨i, hi⟩ := Option.isSome_iff_exists.1 infoA8
  simp only [part, isAgg, Sem.run_bind, run_underlying underA8, Result.andThen_ok, Sem.run_pure, run_sizeOf w hi, if_true, cellsA8]

theorem items_int (xs ys : Array Value) (X Y : Nat → Int) (n : Nat) (hx : ∀ i, i < n → xs[i]? = some (.int .i64 (X i))) (hy : ∀ i, i < n → ys[i]? = some (.int .i64 (Y i))) (d : Nat) (w : World) :
    ∀ is : List Nat, (∀ i ∈ is, i < n) → (Op.eqItems (d + 1) 3 1 xs ys is).run Tryd.prog w = .ok (is.all fun i => X i == Y i) w
  | [], _ => by simp [Op.eqItems]
  | i :: is, h => by
    have hi := h i (by simp)
    have ih := items_int xs ys X Y n hx hy d w is (fun j hj => h j (by simp [hj]))
    have e1 : (part 3 xs (i * 1)).run Tryd.prog w = .ok (.int .i64 (X i)) w := by rw [Nat.mul_one]; exact part_i (hx i hi) w
    have e2 : (part 3 ys (i * 1)).run Tryd.prog w = .ok (.int .i64 (Y i)) w := by rw [Nat.mul_one]; exact part_i (hy i hi) w
    simp only [Op.eqItems, Sem.run_bind, e1, e2, Result.andThen_ok, run_equalIn_int w d 3 .i64 .i64 _ _ Tryd.underlying3, List.all_cons]
    cases X i == Y i
    · simp
    · simpa using ih

theorem eqF_all {w : World} {d : Nat} {xs ys : Array Value} (G : Nat → Bool) : ∀ fs : List Field, (∀ f ∈ fs, f.name ≠ "_" ∧ ∃ a b, (part f.type xs f.offset).run Tryd.prog w = .ok a w ∧ (part f.type ys f.offset).run Tryd.prog w = .ok b w ∧ (Op.equalIn d f.type a b).run Tryd.prog w = .ok (G f.offset) w) →
    (Op.eqFields d xs ys fs).run Tryd.prog w = .ok (fs.all fun f => G f.offset) w
  | [], _ => by simp [Op.eqFields]
  | f :: fs, h => by
    obtain ⟨h1, a, b, ha, hb, he⟩ := h f (by simp)
    have ih := eqF_all G fs (fun g hg => h g (by simp [hg]))
    simp only [Op.eqFields, h1, ne_eq, not_false_eq_true, if_true, Sem.run_bind, ha, hb, Result.andThen_ok, he, List.all_cons]
    cases G f.offset
    · simp
    · simpa using ih

theorem all_offs {fs : List Field} {L : List (String × TypeId × Nat)} (h : fs.map (fun f => (f.name, f.type, f.offset)) = L) (G : Nat → Bool) : (fs.all fun f => G f.offset) = L.all fun p => G p.2.2 := by
  subst h
  rw [List.all_map]
  rfl

theorem ic_get (X : Nat → Int) (k : Nat) (hk : k < 13) : (Ic X)[k]? = some (.int .i64 (X k)) := by
  have : k = 0 ∨ k = 1 ∨ k = 2 ∨ k = 3 ∨ k = 4 ∨ k = 5 ∨ k = 6 ∨ k = 7 ∨ k = 8 ∨ k = 9 ∨ k = 10 ∨ k = 11 ∨ k = 12 := by omega
  rcases this with rfl | rfl | rfl | rfl | rfl | rfl | rfl | rfl | rfl | rfl | rfl | rfl | rfl <;> rfl

/-- Are two inodes the same? -/
def inoSame (X Y : Nat → Int) : Bool := (List.range 13).all fun k => X k == Y k

theorem inoSame_iff {X Y : Nat → Int} : inoSame X Y = true ↔ ∀ k, k < 13 → X k = Y k := by simp [inoSame]

theorem inoSame_refl (X : Nat → Int) : inoSame X X = true := by simp [inoSame]

theorem equal_inode (X Y : Nat → Int) (w : World) : (Op.equalIn 10000 55 (Iv X) (Iv Y)).run Tryd.prog w = .ok (inoSame X Y) w := by
  rw [run_equalIn_struct w 9999 55 _ _ underI stoodI]
  have hG : ∀ f ∈ (Tryd.prog.fieldsOf 55).toList, f.name ≠ "_" ∧ ∃ a b, (part f.type (Ic X) f.offset).run Tryd.prog w = .ok a w ∧ (part f.type (Ic Y) f.offset).run Tryd.prog w = .ok b w ∧ (Op.equalIn 9999 f.type a b).run Tryd.prog w = .ok ((fun k => if k = 3 then (List.range 8).all (fun i => X (3 + i) == Y (3 + i)) else X k == Y k) f.offset) w := by
    intro f hf
    have hm : (f.name, f.type, f.offset) ∈ (Tryd.prog.fieldsOf 55).toList.map (fun f => (f.name, f.type, f.offset)) := List.mem_map.2 ⟨f, hf, rfl⟩
    rw [fieldsI] at hm
    have one : ∀ k, k < 13 → k ≠ 3 → f.type = 3 → f.offset = k → ∃ a b, (part f.type (Ic X) f.offset).run Tryd.prog w = .ok a w ∧ (part f.type (Ic Y) f.offset).run Tryd.prog w = .ok b w ∧ (Op.equalIn 9999 f.type a b).run Tryd.prog w = .ok ((fun k => if k = 3 then (List.range 8).all (fun i => X (3 + i) == Y (3 + i)) else X k == Y k) f.offset) w := by
      intro k hk hk3 h1 h2
      rw [h1, h2]
      refine ⟨_, _, part_i (ic_get X k hk) w, part_i (ic_get Y k hk) w, ?_⟩
      rw [run_equalIn_int w 9998 3 .i64 .i64 _ _ Tryd.underlying3]
      simp only [if_neg hk3]
    simp only [List.mem_cons, List.not_mem_nil, or_false, Prod.mk.injEq] at hm
    rcases hm with ⟨a, b, c⟩ | ⟨a, b, c⟩ | ⟨a, b, c⟩ | ⟨a, b, c⟩ | ⟨a, b, c⟩ | ⟨a, b, c⟩
    · exact ⟨by rw [a]; decide, one 0 (by omega) (by omega) b c⟩
    · exact ⟨by rw [a]; decide, one 1 (by omega) (by omega) b c⟩
    · exact ⟨by rw [a]; decide, one 2 (by omega) (by omega) b c⟩
    · refine ⟨by rw [a]; decide, ?_⟩
      rw [b, c]
      refine ⟨_, _, part_a8 _ _ w, part_a8 _ _ w, ?_⟩
      obtain ⟨i, hi⟩ := Option.isSome_iff_exists.1 info3e
      rw [run_equalIn_array w 9998 _ _ underA8 hi, cells3e]
      refine items_int _ _ (fun i => X (3 + i)) (fun i => Y (3 + i)) 8 (fun i hi => ?_) (fun i hi => ?_) 9997 w _ (fun j hj => by simpa using hj)
      · have : i = 0 ∨ i = 1 ∨ i = 2 ∨ i = 3 ∨ i = 4 ∨ i = 5 ∨ i = 6 ∨ i = 7 := by omega
        rcases this with rfl | rfl | rfl | rfl | rfl | rfl | rfl | rfl <;> rfl
      · have : i = 0 ∨ i = 1 ∨ i = 2 ∨ i = 3 ∨ i = 4 ∨ i = 5 ∨ i = 6 ∨ i = 7 := by omega
        rcases this with rfl | rfl | rfl | rfl | rfl | rfl | rfl | rfl <;> rfl
    · exact ⟨by rw [a]; decide, one 11 (by omega) (by omega) b c⟩
    · exact ⟨by rw [a]; decide, one 12 (by omega) (by omega) b c⟩
  refine (eqF_all (fun k => if k = 3 then (List.range 8).all (fun i => X (3 + i) == Y (3 + i)) else X k == Y k) _ hG).trans (congrArg (fun r => Result.ok r w) ((all_offs fieldsI (fun k => if k = 3 then (List.range 8).all (fun i => X (3 + i) == Y (3 + i)) else X k == Y k)).trans ?_))
  have e8 : List.range 8 = [0, 1, 2, 3, 4, 5, 6, 7] := rfl
  have e13 : List.range 13 = [0, 1, 2, 3, 4, 5, 6, 7, 8, 9, 10, 11, 12] := rfl
  simp only [inoSame, e8, e13, List.all_cons, List.all_nil, Bool.and_true]
  simp [Bool.and_assoc]

theorem eql_inode (X Y : Nat → Int) (w : World) : (binOp .eql 55 (Iv X) (Iv Y)).run Tryd.prog w = .ok (.bool (inoSame X Y)) w := by
  rw [run_eql_struct, equal_inode]; rfl

theorem neq_inode (X Y : Nat → Int) (w : World) : (binOp .neq 55 (Iv X) (Iv Y)).run Tryd.prog w = .ok (.bool (!inoSame X Y)) w := by
  rw [run_neq_struct, equal_inode]; rfl

theorem underD : Tryd.prog.underlying 60 = some (.struct (Tryd.prog.fieldsOf 60)) := by kernel_rfl
theorem stoodD : Tryd.prog.stoodInHeld 60 = false := by kernel_rfl
theorem fieldsD : (Tryd.prog.fieldsOf 60).toList.map (fun f => (f.name, f.type, f.offset)) = [("Inode", 3, 0), ("Name", 9, 1)] := by kernel_rfl

theorem part_s {xs : Array Value} {k : Nat} {s : ByteArray} (h : xs[k]? = some (.string s)) (w : World) : (part 9 xs k).run Tryd.prog w = .ok (.string s) w := by
  simp only [part, isAgg, Sem.run_bind, run_underlying Tryd.underlying9, Result.andThen_ok, Sem.run_pure]
  rw [h]
  rfl

theorem eql_dirent (i : Int) (s : ByteArray) (w : World) : (binOp .eql 60 (Dv i s) (Dv i s)).run Tryd.prog w = .ok (.bool true) w := by
  rw [run_eql_struct]
  have h : (Op.equalIn 10000 60 (Dv i s) (Dv i s)).run Tryd.prog w = .ok true w := by
    rw [run_equalIn_struct w 9999 60 _ _ underD stoodD]
    refine (eqF_all (fun _ => true) _ (fun f hf => ?_)).trans (congrArg (fun r => Result.ok r w) ((all_offs fieldsD (fun _ => true)).trans rfl))
    · have hm : (f.name, f.type, f.offset) ∈ (Tryd.prog.fieldsOf 60).toList.map (fun f => (f.name, f.type, f.offset)) := List.mem_map.2 ⟨f, hf, rfl⟩
      rw [fieldsD] at hm
      simp only [List.mem_cons, List.not_mem_nil, or_false, Prod.mk.injEq] at hm
      rcases hm with ⟨a, b, c⟩ | ⟨a, b, c⟩
      · refine ⟨by rw [a]; decide, ?_⟩
        rw [b, c]
        exact ⟨_, _, part_i (z := i) rfl w, part_i (z := i) rfl w, by rw [run_equalIn_int w 9998 3 .i64 .i64 _ _ Tryd.underlying3]; simp⟩
      · refine ⟨by rw [a]; decide, ?_⟩
        rw [b, c]
        exact ⟨_, _, part_s (s := s) rfl w, part_s (s := s) rfl w, by rw [run_equalIn_string w 9998 9 _ _ Tryd.underlying9]; simp⟩
  rw [h]; rfl

end Go.Proofs.YtmdkcoenjadieaaDoor

/- Contracts of codec.isKind and codec.Inode. -/
namespace Go.Proofs.YtmdkcoenjadieaaDoor
open Go.RowKit Go.Shelf
set_option linter.unusedVariables false
set_option maxRecDepth 100000

/-- The zero inode. -/
def zeroX : Nat → Int := fun _ => 0

/-- Is it a kind of inode? -/
def kindB (k : Int) : Bool := decide (k = 0) || decide (k = 1) || decide (k = 2)

set_option maxHeartbeats 2000000 in
theorem isKind_any (k : Int) (w : World) : Calls Tryd.prog 63 #[.int .i64 k] w fun e w' => e = .returned (.bool (kindB k)) ∧ w = w' := by
  obtain ⟨b, hb⟩ : ∃ b, kindB k = b := ⟨_, rfl⟩
  rw [hb]
  unfold kindB at hb
  by_cases h0 : k = 0
  · subst h0
    obtain rfl : b = true := by rw [← hb]; rfl
    clear hb
    go_enter Tryd.func63, Tryd.ntmps63
    go_wp2
    go_ret
    exact ⟨rfl, rfl⟩
  · by_cases h1 : k = 1
    · subst h1
      obtain rfl : b = true := by rw [← hb]; rfl
      clear hb h0
      go_enter Tryd.func63, Tryd.ntmps63
      go_wp2
      go_ret
      exact ⟨rfl, rfl⟩
    · by_cases h2 : k = 2
      · subst h2
        obtain rfl : b = true := by rw [← hb]; rfl
        clear hb h0 h1
        go_enter Tryd.func63, Tryd.ntmps63
        go_wp2
        go_ret
        exact ⟨rfl, rfl⟩
      · obtain rfl : b = false := by rw [← hb]; simp [h0, h1, h2]
        have d0 : (k == 0) = false := by simpa using h0
        have d1 : (k == 1) = false := by simpa using h1
        have d2 : (k == 2) = false := by simpa using h2
        clear hb h0 h1 h2
        go_enter Tryd.func63, Tryd.ntmps63
        go_wp2
        go_ret
        exact ⟨rfl, rfl⟩

theorem fit_lst (wd : Nat) (hw : wd = 2 ∨ wd = 4) (ns : List Int) (u : World) (hl : ns.length ≤ 1000) (r : Bool) (hr : fitB wd ns = r) :
    Calls Tryd.prog 44 #[.int .i64 (wd : Int), .slice (some ⟨u.heap.size, 0, none⟩) ns.length ns.length] (u.alloc (.cells (ns.map (Value.int .i64)).toArray 3)) fun e w' => e = .returned (.bool r) ∧ Below u.heap.size u w' := by
  subst hr
  refine (fit_any wd hw _ ns.length ns.length ns _ (ihas_list u ns) (by omega)).mono ?_
  rintro e w' ⟨rfl, rfl⟩
  exact ⟨rfl, (Below.refl _ u).alloc (Nat.le_refl _) _⟩

/-- An inode's blocks. -/
def dirs (X : Nat → Int) : List Int := [X 3, X 4, X 5, X 6, X 7, X 8, X 9, X 10]

theorem dirs_has {w u : World} {X : Nat → Int} (h : Bx w (Ic X) u) : IHas u (some ⟨w.heap.size, 3, none⟩) 8 (dirs X) := by
  refine ⟨rfl, fun _ => ⟨w.heap.size, 3, rfl, fun j hj => ?_⟩⟩
  have : j = 0 ∨ j = 1 ∨ j = 2 ∨ j = 3 ∨ j = 4 ∨ j = 5 ∨ j = 6 ∨ j = 7 := by omega
  rcases this with rfl | rfl | rfl | rfl | rfl | rfl | rfl | rfl
  all_goals exact h.1 _ _ rfl

theorem fit_dirs {w u : World} {X : Nat → Int} (h : Bx w (Ic X) u) (r : Bool) (hr : fitB 2 (dirs X) = r) :
    Calls Tryd.prog 44 #[.int .i64 2, .slice (some ⟨w.heap.size, 3, none⟩) 8 8] u fun e w' => e = .returned (.bool r) ∧ u = w' := by
  subst hr
  exact fit_any 2 (.inl rfl) _ 8 8 (dirs X) u (dirs_has h) (by omega)

/-- Is it an inode that can't be? -/
def inoBad (X : Nat → Int) : Bool := !kindB (X 0) || (X 0 == 0 && !inoSame X zeroX)

/-- Do its numbers fit? -/
def inoF (X : Nat → Int) : Bool := fitB 4 [X 2] && fitB 2 [X 1, X 11, X 12] && fitB 2 (dirs X)

/-- An inode's bytes, but the last four. -/
def inoL (X : Nat → Int) : List Int := numsB 1 [X 0, 0] ++ (numsB 2 [X 1] ++ (numsB 4 [X 2] ++ (numsB 2 (dirs X) ++ numsB 2 [X 11, X 12])))

theorem inoL_length (X : Nat → Int) : (inoL X).length = 28 := by simp [inoL, length_numsB, dirs]

theorem inoL_byts (X : Nat → Int) : ∀ z ∈ inoL X, 0 ≤ z ∧ z ≤ 255 := by
  intro z hz
  simp only [inoL, List.mem_append] at hz
  rcases hz with hz | hz | hz | hz | hz
  all_goals exact numsB_byte _ _ z hz

set_option maxHeartbeats 800000 in
theorem inode_kind (X : Nat → Int) (w : World) (hk : kindB (X 0) = false) :
    Calls Tryd.prog 27 #[Iv X] w fun e w' => e = .returned (.tuple #[.slice none 0 0, .int .i64 4]) ∧ Below w.heap.size w w' := by
  have HK := hide (Bx.start w (Ic X) 55)
  have KK : Hid (∀ u, Calls Tryd.prog 63 #[.int .i64 (X 0)] u fun e w' => e = .returned (.bool false) ∧ Below u.heap.size u w') := fun u => (isKind_any (X 0) u).mono fun e w' ⟨h1, h2⟩ => ⟨by rw [h1, hk], h2 ▸ Below.refl _ _⟩
  clear hk
  go_enter Tryd.func27, Tryd.ntmps27
  go_wp2_with fail
  go_at_call 63
  refine (unhide KK _).mono ?_
  rintro e w1 ⟨rfl, hb⟩
  replace HK := hide ((unhide HK).call hb)
  clear KK hb
  go_wp2_with fail
  go_ret2
  exact ⟨rfl, HK.out.2.1⟩

set_option maxHeartbeats 800000 in
theorem inode_free (X : Nat → Int) (w : World) (h0 : X 0 = 0) (hs : inoSame X zeroX = false) :
    Calls Tryd.prog 27 #[Iv X] w fun e w' => e = .returned (.tuple #[.slice none 0 0, .int .i64 4]) ∧ Below w.heap.size w w' := by
  have HK := hide (Bx.start w (Ic X) 55)
  have hk : kindB (X 0) = true := by rw [h0]; rfl
  have KK : Hid (∀ u, Calls Tryd.prog 63 #[.int .i64 (X 0)] u fun e w' => e = .returned (.bool true) ∧ Below u.heap.size u w') := fun u => (isKind_any (X 0) u).mono fun e w' ⟨h1, h2⟩ => ⟨by rw [h1, hk], h2 ▸ Below.refl _ _⟩
  have hq : ∀ u : World, (binOp .neq 55 (Iv X) (.agg Iz)).run Tryd.prog u = .ok (.bool true) u := fun u => by
    have := neq_inode X zeroX u
    rw [hs] at this
    exact this
  have h0' : (X 0 == 0) = true := by simpa using h0
  clear hk hs h0
  go_enter Tryd.func27, Tryd.ntmps27
  go_wp2_with fail
  go_at_call 63
  refine (unhide KK _).mono ?_
  rintro e w1 ⟨rfl, hb⟩
  replace HK := hide ((unhide HK).call hb)
  clear KK hb
  have f0 := HK.out.1 0 _ rfl
  have f1 := HK.out.1 1 _ rfl
  have f2 := HK.out.1 2 _ rfl
  have f3 := HK.out.1 3 _ rfl
  have f4 := HK.out.1 4 _ rfl
  have f5 := HK.out.1 5 _ rfl
  have f6 := HK.out.1 6 _ rfl
  have f7 := HK.out.1 7 _ rfl
  have f8 := HK.out.1 8 _ rfl
  have f9 := HK.out.1 9 _ rfl
  have f10 := HK.out.1 10 _ rfl
  have f11 := HK.out.1 11 _ rfl
  have f12 := HK.out.1 12 _ rfl
  go_wp2_with fail
  go_ret2
  exact ⟨rfl, HK.out.2.1⟩

set_option maxHeartbeats 800000 in
theorem inode_v4 (X : Nat → Int) (w : World) (hk : kindB (X 0) = true) (h0 : (X 0 == 0) = false) (h4 : fitB 4 [X 2] = false) :
    Calls Tryd.prog 27 #[Iv X] w fun e w' => e = .returned (.tuple #[.slice none 0 0, .int .i64 3]) ∧ Below w.heap.size w w' := by
  have HK := hide (Bx.start w (Ic X) 55)
  have KK : Hid (∀ u, Calls Tryd.prog 63 #[.int .i64 (X 0)] u fun e w' => e = .returned (.bool true) ∧ Below u.heap.size u w') := fun u => (isKind_any (X 0) u).mono fun e w' ⟨h1, h2⟩ => ⟨by rw [h1, hk], h2 ▸ Below.refl _ _⟩
  have F4 : Hid (∀ u : World, Calls Tryd.prog 44 #[.int .i64 4, .slice (some ⟨u.heap.size, 0, none⟩) 1 1] (u.alloc (.cells #[.int .i64 (X 2)] 3)) fun e w' => e = .returned (.bool false) ∧ Below u.heap.size u w') :=
    fun u => fit_lst 4 (.inr rfl) [X 2] u (by simp) _ h4
  clear hk h4
  go_enter Tryd.func27, Tryd.ntmps27
  go_wp2_with fail
  go_at_call 63
  refine (unhide KK _).mono ?_
  rintro e w1 ⟨rfl, hb⟩
  replace HK := hide ((unhide HK).call hb)
  clear KK hb
  have f0 := HK.out.1 0 _ rfl
  have f2 := HK.out.1 2 _ rfl
  go_wp2_with fail
  go_at_call 44
  refine (unhide F4 _).mono ?_
  rintro e w2 ⟨rfl, hb⟩
  replace HK := hide ((unhide HK).call hb)
  clear hb F4 f0 f2
  go_wp2_with fail
  go_ret2
  exact ⟨rfl, HK.out.2.1⟩

set_option maxHeartbeats 800000 in
theorem inode_v2 (X : Nat → Int) (w : World) (hk : kindB (X 0) = true) (h0 : (X 0 == 0) = false) (h4 : fitB 4 [X 2] = true) (h2 : fitB 2 [X 1, X 11, X 12] = false) :
    Calls Tryd.prog 27 #[Iv X] w fun e w' => e = .returned (.tuple #[.slice none 0 0, .int .i64 3]) ∧ Below w.heap.size w w' := by
  have HK := hide (Bx.start w (Ic X) 55)
  have KK : Hid (∀ u, Calls Tryd.prog 63 #[.int .i64 (X 0)] u fun e w' => e = .returned (.bool true) ∧ Below u.heap.size u w') := fun u => (isKind_any (X 0) u).mono fun e w' ⟨h1, h2⟩ => ⟨by rw [h1, hk], h2 ▸ Below.refl _ _⟩
  have F4 : Hid (∀ u : World, Calls Tryd.prog 44 #[.int .i64 4, .slice (some ⟨u.heap.size, 0, none⟩) 1 1] (u.alloc (.cells #[.int .i64 (X 2)] 3)) fun e w' => e = .returned (.bool true) ∧ Below u.heap.size u w') :=
    fun u => fit_lst 4 (.inr rfl) [X 2] u (by simp) _ h4
  have F2 : Hid (∀ u : World, Calls Tryd.prog 44 #[.int .i64 2, .slice (some ⟨u.heap.size, 0, none⟩) 3 3] (u.alloc (.cells #[.int .i64 (X 1), .int .i64 (X 11), .int .i64 (X 12)] 3)) fun e w' => e = .returned (.bool false) ∧ Below u.heap.size u w') :=
    fun u => fit_lst 2 (.inl rfl) [X 1, X 11, X 12] u (by simp) _ h2
  clear hk h4 h2
  go_enter Tryd.func27, Tryd.ntmps27
  go_wp2_with fail
  go_at_call 63
  refine (unhide KK _).mono ?_
  rintro e w1 ⟨rfl, hb⟩
  replace HK := hide ((unhide HK).call hb)
  clear KK hb
  have f0 := HK.out.1 0 _ rfl
  have f2 := HK.out.1 2 _ rfl
  go_wp2_with fail
  go_at_call 44
  refine (unhide F4 _).mono ?_
  rintro e w2 ⟨rfl, hb⟩
  replace HK := hide ((unhide HK).call hb)
  clear hb F4 f0 f2
  have f1 := HK.out.1 1 _ rfl
  have f11 := HK.out.1 11 _ rfl
  have f12 := HK.out.1 12 _ rfl
  go_wp2_with fail
  go_at_call 44
  refine (unhide F2 _).mono ?_
  rintro e w3 ⟨rfl, hb⟩
  replace HK := hide ((unhide HK).call hb)
  clear hb F2 f1 f11 f12
  go_wp2_with fail
  go_ret2
  exact ⟨rfl, HK.out.2.1⟩

set_option maxHeartbeats 800000 in
theorem inode_v8 (X : Nat → Int) (w : World) (hk : kindB (X 0) = true) (h0 : (X 0 == 0) = false) (h4 : fitB 4 [X 2] = true) (h2 : fitB 2 [X 1, X 11, X 12] = true) (h8 : fitB 2 (dirs X) = false) :
    Calls Tryd.prog 27 #[Iv X] w fun e w' => e = .returned (.tuple #[.slice none 0 0, .int .i64 3]) ∧ Below w.heap.size w w' := by
  have HK := hide (Bx.start w (Ic X) 55)
  have KK : Hid (∀ u, Calls Tryd.prog 63 #[.int .i64 (X 0)] u fun e w' => e = .returned (.bool true) ∧ Below u.heap.size u w') := fun u => (isKind_any (X 0) u).mono fun e w' ⟨h1, h2⟩ => ⟨by rw [h1, hk], h2 ▸ Below.refl _ _⟩
  have F4 : Hid (∀ u : World, Calls Tryd.prog 44 #[.int .i64 4, .slice (some ⟨u.heap.size, 0, none⟩) 1 1] (u.alloc (.cells #[.int .i64 (X 2)] 3)) fun e w' => e = .returned (.bool true) ∧ Below u.heap.size u w') :=
    fun u => fit_lst 4 (.inr rfl) [X 2] u (by simp) _ h4
  have F2 : Hid (∀ u : World, Calls Tryd.prog 44 #[.int .i64 2, .slice (some ⟨u.heap.size, 0, none⟩) 3 3] (u.alloc (.cells #[.int .i64 (X 1), .int .i64 (X 11), .int .i64 (X 12)] 3)) fun e w' => e = .returned (.bool true) ∧ Below u.heap.size u w') :=
    fun u => fit_lst 2 (.inl rfl) [X 1, X 11, X 12] u (by simp) _ h2
  have F8 : Hid (∀ u : World, Bx w (Ic X) u → Calls Tryd.prog 44 #[.int .i64 2, .slice (some ⟨w.heap.size, 3, none⟩) 8 8] u fun e w' => e = .returned (.bool false) ∧ u = w') :=
    fun u hB => fit_dirs hB _ h8
  clear hk h4 h2 h8
  go_enter Tryd.func27, Tryd.ntmps27
  go_wp2_with fail
  go_at_call 63
  refine (unhide KK _).mono ?_
  rintro e w1 ⟨rfl, hb⟩
  replace HK := hide ((unhide HK).call hb)
  clear KK hb
  have f0 := HK.out.1 0 _ rfl
  have f2 := HK.out.1 2 _ rfl
  go_wp2_with fail
  go_at_call 44
  refine (unhide F4 _).mono ?_
  rintro e w2 ⟨rfl, hb⟩
  replace HK := hide ((unhide HK).call hb)
  clear hb F4 f0 f2
  have f1 := HK.out.1 1 _ rfl
  have f11 := HK.out.1 11 _ rfl
  have f12 := HK.out.1 12 _ rfl
  go_wp2_with fail
  go_at_call 44
  refine (unhide F2 _).mono ?_
  rintro e w3 ⟨rfl, hb⟩
  replace HK := hide ((unhide HK).call hb)
  clear hb F2 f1 f11 f12
  go_wp2_with fail
  go_at_call 44
  refine (unhide F8 _ HK.out).mono ?_
  rintro e w' ⟨rfl, rfl⟩
  clear F8
  go_wp2_with fail
  go_ret2
  exact ⟨rfl, HK.out.2.1⟩

end Go.Proofs.YtmdkcoenjadieaaDoor

/- Contracts of codec.takeInode and codec.takeDirent. -/
namespace Go.Proofs.YtmdkcoenjadieaaDoor
open Go.RowKit Go.Shelf
set_option linter.unusedVariables false
set_option maxRecDepth 100000

/-- X, but z at k. -/
def updX (X : Nat → Int) (k : Nat) (z : Int) : Nat → Int := fun j => if j = k then z else X j

theorem ic_set (X : Nat → Int) (k : Nat) (z : Int) (hk : k < 13) : (Ic X).setIfInBounds k (.int .i64 z) = Ic (updX X k z) := by
  have : k = 0 ∨ k = 1 ∨ k = 2 ∨ k = 3 ∨ k = 4 ∨ k = 5 ∨ k = 6 ∨ k = 7 ∨ k = 8 ∨ k = 9 ∨ k = 10 ∨ k = 11 ∨ k = 12 := by omega
  rcases this with rfl | rfl | rfl | rfl | rfl | rfl | rfl | rfl | rfl | rfl | rfl | rfl | rfl <;> rfl

/-- An inode's numbers but its blocks, as bytes have them. -/
def inoBase (zs : List Int) : Nat → Int
  | 0 => getVal zs 0 1
  | 1 => getVal zs 2 2
  | 2 => getVal zs 4 4
  | 11 => getVal zs 24 2
  | 12 => getVal zs 26 2
  | _ => 0

/-- With the first k blocks. -/
def inoTake (zs : List Int) : Nat → Nat → Int
  | 0 => inoBase zs
  | k + 1 => updX (inoTake zs k) (3 + k) (getVal zs (8 + 2 * (k : Int)) 2)

/-- What is found in bytes as an inode. -/
def inoOf (zs : List Int) : Nat → Int := inoTake zs 8

theorem eight {k : Nat} (hk : k < 8) : k = 0 ∨ k = 1 ∨ k = 2 ∨ k = 3 ∨ k = 4 ∨ k = 5 ∨ k = 6 ∨ k = 7 := by omega

theorem Bl.ino {u : World} {g : Nat} {zs : List Int} {k : Nat} (h : Bl u g (Ic (inoTake zs k)) 55) (hk : k < 8) : Bl (u.setCell ⟨g, 3 + k, none⟩ (.int .i64 (getVal zs (8 + 2 * (k : Int)) 2))) g (Ic (inoTake zs (k + 1))) 55 := by
  have := h.set (3 + k) (.int .i64 (getVal zs (8 + 2 * (k : Int)) 2))
  rw [ic_set _ _ _ (by omega)] at this
  exact this

set_option maxHeartbeats 8000000 in
theorem takeInode_any (a : Option Addr) (len cap : Nat) (zs : List Int) (w : World) (hr : Row w.heap.size w a len cap zs) :
    Calls Tryd.prog 65 #[.slice a len cap] w fun e w' => e = .returned (Iv (inoOf zs)) ∧ Below w.heap.size w w' := by
  have KG : Hid (∀ (at' n : Int) (u : World), at' ≤ 1000 → Below w.heap.size w u → Calls Tryd.prog 74 #[.slice a len cap, .int .i64 at', .int .i64 n] u fun e w' => e = .returned (.int .i64 (getVal zs at' n)) ∧ Below u.heap.size u w') :=
    fun at' n u h1 hb => get_drop a len cap zs at' n u (hr.below hb hb.size) (by omega)
  have HZ := hide (Bl.new w Iz 55)
  have HB := hide ((Below.refl _ w).alloc (Nat.le_refl _) (.cells Iz 55))
  clear hr
  unfold inoOf
  go_enter Tryd.func65, Tryd.ntmps65
  go_wp2_with fail
  go_at_call 74
  refine (unhide KG _ _ _ (by omega) HB.out).mono ?_
  rintro e w1 ⟨rfl, hb⟩
  replace HB := hide (bchain HB.out hb (Nat.le_refl _))
  replace HZ := hide (HZ.out.call hb)
  clear hb
  go_wp2_with fail
  go_at_call 74
  refine (unhide KG _ _ _ (by omega) HB.out).mono ?_
  rintro e w2 ⟨rfl, hb⟩
  replace HB := hide (bchain HB.out hb (Nat.le_refl _))
  replace HZ := hide (HZ.out.call hb)
  clear hb
  go_wp2_with fail
  go_at_call 74
  refine (unhide KG _ _ _ (by omega) HB.out).mono ?_
  rintro e w3 ⟨rfl, hb⟩
  replace HB := hide (bchain HB.out hb (Nat.le_refl _))
  replace HZ := hide (HZ.out.call hb)
  clear hb
  go_wp2_with fail
  go_at_call 74
  refine (unhide KG _ _ _ (by omega) HB.out).mono ?_
  rintro e w4 ⟨rfl, hb⟩
  replace HB := hide (bchain HB.out hb (Nat.le_refl _))
  replace HZ := hide (HZ.out.call hb)
  clear hb
  go_wp2_with fail
  go_at_call 74
  refine (unhide KG _ _ _ (by omega) HB.out).mono ?_
  rintro e w5 ⟨rfl, hb⟩
  replace HB := hide (bchain HB.out hb (Nat.le_refl _))
  replace HZ := hide (HZ.out.call hb)
  clear hb
  have HZ0 := hide HZ.out
  replace HB := hide (HB.out.alloc HB.out.size (.cells (Ic (inoTake zs 0)) 55))
  replace HZ := hide (HZ.out.alloc (.cells (Ic (inoTake zs 0)) 55))
  have HV := hide (Bl.new w5 (Ic (inoTake zs 0)) 55)
  have hg : Hid (w.heap.size < w5.heap.size) := by
    exact HZ0.out.lt
  clear HZ0
  go_upto_region 2 with fail
  change Code.wp _ _ _ _ (w5.alloc (.cells (Ic (inoTake zs 0)) 55))
  generalize w5.alloc (.cells (Ic (inoTake zs 0)) 55) = W at *
  generalize w5.heap.size = g1 at *
  go_upto_region 3 with fail
  go_loopw [16] (fun i wr => ∃ k : Nat, k ≤ 8 ∧ i = .int .i64 (k : Int) ∧ Hid (Bl wr g1 (Ic (inoTake zs k)) 55) ∧ Hid (Bl wr w.heap.size Iz 55) ∧ Hid (Below w.heap.size w wr)) (fun i _ => 8 - (intOf i).toNat)
  case atStart => exact ⟨0, by omega, rfl, HV, HZ, HB⟩
  case round =>
    obtain ⟨k, hk, rfl, hV, hZ, hB⟩ := hrel
    clear HV HZ HB
    by_cases hlt : k < 8
    · have HX : Hid (∀ w2, Below wr.heap.size wr w2 → Bl (w2.setCell ⟨g1, 3 + k, none⟩ (.int .i64 (getVal zs (8 + 2 * (k : Int)) 2))) g1 (Ic (inoTake zs (k + 1))) 55 ∧ Bl (w2.setCell ⟨g1, 3 + k, none⟩ (.int .i64 (getVal zs (8 + 2 * (k : Int)) 2))) w.heap.size Iz 55 ∧ Below w.heap.size w (w2.setCell ⟨g1, 3 + k, none⟩ (.int .i64 (getVal zs (8 + 2 * (k : Int)) 2)))) := fun w2 hb =>
        ⟨(hV.out.call hb).ino hlt, (hZ.out.call hb).other _ _ (by have := hg.out; simp; omega), (bchain hB.out hb (Nat.le_refl _)).setCell (by have := hg.out; simp; omega) _⟩
      have HC : Hid (∀ w2, Below wr.heap.size wr w2 → (∃ v, w2.cell? ⟨g1, 3 + k, none⟩ = some (.int .i64 v)) ∧ ∀ i, w2.frozen? ⟨g1, i, none⟩ = false) := fun w2 hb =>
        ⟨⟨_, (hV.out.call hb).cell (3 + k) _ (ic_get _ _ (by omega))⟩, (hV.out.call hb).free⟩
      rcases eight hlt with rfl | rfl | rfl | rfl | rfl | rfl | rfl | rfl
      all_goals
        go_wp2_with fail
        go_at_call 74
        refine (unhide KG _ _ _ (by omega) hB.out).mono ?_
        rintro e w2 ⟨rfl, hb⟩
        obtain ⟨⟨v, hc⟩, hz⟩ := HC.out w2 hb
        obtain ⟨x1, x2, x3⟩ := HX.out w2 hb
        have X1 := hide x1
        have X2 := hide x2
        have X3 := hide x3
        clear hb HC HX x1 x2 x3 hV hZ hB
        go_wp2_with fail
        exact ⟨⟨_, by decide, rfl, X1, X2, X3⟩, by simp [intOf]⟩
    · obtain rfl : k = 8 := by omega
      have HZ := hide hZ.out
      have HB := hide hB.out
      generalize hX : inoTake zs 8 = X at *
      have HX := hide hX
      clear hX
      have v0 := hV.out.cell 0 _ rfl
      have v1 := hV.out.cell 1 _ rfl
      have v2 := hV.out.cell 2 _ rfl
      have v3 := hV.out.cell 3 _ rfl
      have v4 := hV.out.cell 4 _ rfl
      have v5 := hV.out.cell 5 _ rfl
      have v6 := hV.out.cell 6 _ rfl
      have v7 := hV.out.cell 7 _ rfl
      have v8 := hV.out.cell 8 _ rfl
      have v9 := hV.out.cell 9 _ rfl
      have v10 := hV.out.cell 10 _ rfl
      have v11 := hV.out.cell 11 _ rfl
      have v12 := hV.out.cell 12 _ rfl
      have z0 := HZ.out.cell 0 _ rfl
      have z1 := HZ.out.cell 1 _ rfl
      have z2 := HZ.out.cell 2 _ rfl
      have z3 := HZ.out.cell 3 _ rfl
      have z4 := HZ.out.cell 4 _ rfl
      have z5 := HZ.out.cell 5 _ rfl
      have z6 := HZ.out.cell 6 _ rfl
      have z7 := HZ.out.cell 7 _ rfl
      have z8 := HZ.out.cell 8 _ rfl
      have z9 := HZ.out.cell 9 _ rfl
      have z10 := HZ.out.cell 10 _ rfl
      have z11 := HZ.out.cell 11 _ rfl
      have z12 := HZ.out.cell 12 _ rfl
      have hz := HZ.out.free
      clear KG
      go_wp2_with fail
      have hW : Below w.heap.size w (setAll wr w.heap.size 0 [.int .i64 (X 0), .int .i64 (X 1), .int .i64 (X 2), .int .i64 (X 3), .int .i64 (X 4), .int .i64 (X 5), .int .i64 (X 6), .int .i64 (X 7), .int .i64 (X 8), .int .i64 (X 9), .int .i64 (X 10), .int .i64 (X 11), .int .i64 (X 12)]) := below_setAll (Nat.le_refl _) _ _ _ _ HB.out
      have hA : Bl (setAll wr w.heap.size 0 [.int .i64 (X 0), .int .i64 (X 1), .int .i64 (X 2), .int .i64 (X 3), .int .i64 (X 4), .int .i64 (X 5), .int .i64 (X 6), .int .i64 (X 7), .int .i64 (X 8), .int .i64 (X 9), .int .i64 (X 10), .int .i64 (X 11), .int .i64 (X 12)]) w.heap.size #[.int .i64 (X 0), .int .i64 (X 1), .int .i64 (X 2), .int .i64 (X 3), .int .i64 (X 4), .int .i64 (X 5), .int .i64 (X 6), .int .i64 (X 7), .int .i64 (X 8), .int .i64 (X 9), .int .i64 (X 10), .int .i64 (X 11), .int .i64 (X 12)] 55 := setAll_whole [.int .i64 (X 0), .int .i64 (X 1), .int .i64 (X 2), .int .i64 (X 3), .int .i64 (X 4), .int .i64 (X 5), .int .i64 (X 6), .int .i64 (X 7), .int .i64 (X 8), .int .i64 (X 9), .int .i64 (X 10), .int .i64 (X 11), .int .i64 (X 12)] _ _ HZ.out rfl
      change bodyPost _ _ _ _ _ (setAll wr w.heap.size 0 [.int .i64 (X 0), .int .i64 (X 1), .int .i64 (X 2), .int .i64 (X 3), .int .i64 (X 4), .int .i64 (X 5), .int .i64 (X 6), .int .i64 (X 7), .int .i64 (X 8), .int .i64 (X 9), .int .i64 (X 10), .int .i64 (X 11), .int .i64 (X 12)])
      generalize setAll wr w.heap.size 0 [.int .i64 (X 0), .int .i64 (X 1), .int .i64 (X 2), .int .i64 (X 3), .int .i64 (X 4), .int .i64 (X 5), .int .i64 (X 6), .int .i64 (X 7), .int .i64 (X 8), .int .i64 (X 9), .int .i64 (X 10), .int .i64 (X 11), .int .i64 (X 12)] = wf at *
      refine bodyPost_ret (v := Iv X) ?_ rfl ⟨by first | rfl | rw [HX.out], hW⟩
      simp [results, Tryd.results65, go_sem, hA.cell 0 _ rfl, hA.cell 1 _ rfl, hA.cell 2 _ rfl, hA.cell 3 _ rfl, hA.cell 4 _ rfl, hA.cell 5 _ rfl, hA.cell 6 _ rfl, hA.cell 7 _ rfl, hA.cell 8 _ rfl, hA.cell 9 _ rfl, hA.cell 10 _ rfl, hA.cell 11 _ rfl, hA.cell 12 _ rfl]

set_option maxHeartbeats 4000000 in
theorem takeDirent_any (a : Option Addr) (len cap : Nat) (zs : List Int) (w : World) (hr : Row w.heap.size w a len cap zs) :
    Calls Tryd.prog 67 #[.slice a len cap] w fun e w' => e = .returned (Dv (getVal zs 0 2) (textVal zs 2 13)) ∧ Below w.heap.size w w' := by
  have KG : Hid (∀ (at' n : Int) (u : World), at' ≤ 1000 → Below w.heap.size w u → Calls Tryd.prog 74 #[.slice a len cap, .int .i64 at', .int .i64 n] u fun e w' => e = .returned (.int .i64 (getVal zs at' n)) ∧ Below u.heap.size u w') :=
    fun at' n u h1 hb => get_drop a len cap zs at' n u (hr.below hb hb.size) (by omega)
  have KT : Hid (∀ u, Below w.heap.size w u → Calls Tryd.prog 80 #[.slice a len cap, .int .i64 2, .int .i64 13] u fun e w' => ∃ q, e = .returned (.tuple #[.string (textVal zs 2 13), .int .i64 q]) ∧ Below u.heap.size u w') :=
    fun u hb => (text_any a len cap zs 2 13 u (hr.below hb hb.size).has hr.2.1 hr.2.2.1.1 (by omega) (by omega)).mono fun e w' ⟨h1, h2⟩ => ⟨_, h1, h2 ▸ Below.refl _ _⟩
  have HZ := hide (Bl.new w #[.int .i64 0, .string ⟨#[]⟩] 60)
  have HB := hide ((Below.refl _ w).alloc (Nat.le_refl _) (.cells #[.int .i64 0, .string ⟨#[]⟩] 60))
  clear hr
  generalize textVal zs 2 13 = S at *
  go_enter Tryd.func67, Tryd.ntmps67
  go_wp2_with fail
  go_at_call 80
  refine (unhide KT _ HB.out).mono ?_
  rintro e w1 ⟨q, rfl, hb⟩
  replace HB := hide (bchain HB.out hb (Nat.le_refl _))
  replace HZ := hide (HZ.out.call hb)
  clear hb KT
  go_wp2_with fail
  go_at_call 74
  refine (unhide KG _ _ _ (by omega) HB.out).mono ?_
  rintro e w2 ⟨rfl, hb⟩
  replace HB := hide (bchain HB.out hb (Nat.le_refl _))
  replace HZ := hide (HZ.out.call hb)
  clear hb
  have z0 := HZ.out.cell 0 _ rfl
  have z1 := HZ.out.cell 1 _ rfl
  have hz := HZ.out.free
  clear KG
  go_wp2_with fail
  have hW : Below w.heap.size w (setAll w2 w.heap.size 0 [.int .i64 (getVal zs 0 2), .string S]) := below_setAll (Nat.le_refl _) _ _ _ _ HB.out
  have hA : Bl (setAll w2 w.heap.size 0 [.int .i64 (getVal zs 0 2), .string S]) w.heap.size #[.int .i64 (getVal zs 0 2), .string S] 60 := setAll_whole [.int .i64 (getVal zs 0 2), .string S] _ _ HZ.out rfl
  change bodyPost _ _ _ _ _ (setAll w2 w.heap.size 0 [.int .i64 (getVal zs 0 2), .string S])
  generalize setAll w2 w.heap.size 0 [.int .i64 (getVal zs 0 2), .string S] = wf at *
  refine bodyPost_ret (v := Dv (getVal zs 0 2) S) ?_ rfl ⟨by first | rfl | rw [HX.out], hW⟩
  simp [results, Tryd.results67, go_sem, hA.cell 0 _ rfl, hA.cell 1 _ rfl]

end Go.Proofs.YtmdkcoenjadieaaDoor

