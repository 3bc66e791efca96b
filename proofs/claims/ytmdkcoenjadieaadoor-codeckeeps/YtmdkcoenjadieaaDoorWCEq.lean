/- Structs with arrays and texts in them, compared. -/
import Derived.Test.YtmdkcoenjadieaaDoorWJ30
import Derived.Test.YtmdkcoenjadieaaDoorWJ29
import Derived.ChangeKeysEq
namespace Go.Proofs.YtmdkcoenjadieaaDoor
open Go.RowKit Go.Shelf
set_option linter.unusedVariables false
set_option maxRecDepth 100000

/-- An inode's thirteen numbers. -/
abbrev Iv (X : Nat → Int) : Value := .agg #[.int .i64 (X 0), .int .i64 (X 1), .int .i64 (X 2), .int .i64 (X 3), .int .i64 (X 4), .int .i64 (X 5), .int .i64 (X 6), .int .i64 (X 7), .int .i64 (X 8), .int .i64 (X 9), .int .i64 (X 10), .int .i64 (X 11), .int .i64 (X 12)]
abbrev Ic (X : Nat → Int) : Array Value := #[.int .i64 (X 0), .int .i64 (X 1), .int .i64 (X 2), .int .i64 (X 3), .int .i64 (X 4), .int .i64 (X 5), .int .i64 (X 6), .int .i64 (X 7), .int .i64 (X 8), .int .i64 (X 9), .int .i64 (X 10), .int .i64 (X 11), .int .i64 (X 12)]
abbrev Iz : Array Value := #[.int .i64 0, .int .i64 0, .int .i64 0, .int .i64 0, .int .i64 0, .int .i64 0, .int .i64 0, .int .i64 0, .int .i64 0, .int .i64 0, .int .i64 0, .int .i64 0, .int .i64 0]

theorem underI : Tryd.prog.underlying 55 = some (.struct (Tryd.prog.fieldsOf 55)) := by kernel_rfl
theorem stoodI : Tryd.prog.stoodInHeld 55 = false := by kernel_rfl
theorem underA8 : Tryd.prog.underlying 53 = some (.array 8 3) := by kernel_rfl
theorem cellsA8 : Tryd.prog.cellsOf 53 = 8 := by kernel_rfl
theorem infoA8 : (Tryd.prog.info? 53).isSome = true := by kernel_rfl
theorem info3e : (Tryd.prog.info? 3).isSome = true := by kernel_rfl
theorem cells3e : Tryd.prog.cellsOf 3 = 1 := by kernel_rfl

theorem fieldsI : (Tryd.prog.fieldsOf 55).toList.map (fun f => (f.name, f.type, f.offset)) = [("Kind", 3, 0), ("Links", 3, 1), ("Size", 3, 2), ("Direct", 53, 3), ("Single", 3, 11), ("Double", 3, 12)] := by kernel_rfl

theorem part_i {xs : Array Value} {k : Nat} {z : Int} (h : xs[k]? = some (.int .i64 z)) (w : World) : (part 3 xs k).run Tryd.prog w = .ok (.int .i64 z) w := by
  simp only [part, isAgg, Sem.run_bind, run_underlying Tryd.underlying3, Result.andThen_ok, Sem.run_pure]
  rw [h]
  rfl

theorem part_a8 (xs : Array Value) (k : Nat) (w : World) : (part 53 xs k).run Tryd.prog w = .ok (.agg (xs.extract k (k + 8))) w := by
  obtain ⟨i, hi⟩ := Option.isSome_iff_exists.1 infoA8
  simp only [part, isAgg, Sem.run_bind, run_underlying underA8, Result.andThen_ok, Sem.run_pure, run_sizeOf w hi, if_true, cellsA8]

theorem items_int (xs ys : Array Value) (X Y : Nat → Int) (n : Nat) (hx : ∀ i, i < n → xs[i]? = some (.int .i64 (X i))) (hy : ∀ i, i < n → ys[i]? = some (.int .i64 (Y i))) (d : Nat) (w : World) :
    ∀ is : List Nat, (∀ i ∈ is, i < n) → (Op.eqItems (d + 1) 3 1 xs ys is).run Tryd.prog w = .ok (is.all fun i => X i == Y i) w
  | [], _ => by simp [Op.eqItems]
  | i :: is, h => by
    have hi := h i (by simp)
    have ih := items_int xs ys X Y n hx hy d w is (fun j hj => h j (by simp [hj]))
    have e1 : (part 3 xs (i * 1)).run Tryd.prog w = .ok (.int .i64 (X i)) w := by rw [Nat.mul_one]; exact part_i (hx i hi) w
    have e2 : (part 3 ys (i * 1)).run Tryd.prog w = .ok (.int .i64 (Y i)) w := by rw [Nat.mul_one]; exact part_i (hy i hi) w
    simp only [Op.eqItems, Sem.run_bind, e1, e2, Result.andThen_ok, run_equalIn_int w d 3 .i64 .i64 _ _ Tryd.underlying3, List.all_cons]
    cases X i == Y i
    · simp
    · simpa using ih

theorem eqF_all {w : World} {d : Nat} {xs ys : Array Value} (G : Nat → Bool) : ∀ fs : List Field, (∀ f ∈ fs, f.name ≠ "_" ∧ ∃ a b, (part f.type xs f.offset).run Tryd.prog w = .ok a w ∧ (part f.type ys f.offset).run Tryd.prog w = .ok b w ∧ (Op.equalIn d f.type a b).run Tryd.prog w = .ok (G f.offset) w) →
    (Op.eqFields d xs ys fs).run Tryd.prog w = .ok (fs.all fun f => G f.offset) w
  | [], _ => by simp [Op.eqFields]
  | f :: fs, h => by
    obtain ⟨h1, a, b, ha, hb, he⟩ := h f (by simp)
    have ih := eqF_all G fs (fun g hg => h g (by simp [hg]))
    simp only [Op.eqFields, h1, ne_eq, not_false_eq_true, if_true, Sem.run_bind, ha, hb, Result.andThen_ok, he, List.all_cons]
    cases G f.offset
    · simp
    · simpa using ih

theorem all_offs {fs : List Field} {L : List (String × TypeId × Nat)} (h : fs.map (fun f => (f.name, f.type, f.offset)) = L) (G : Nat → Bool) : (fs.all fun f => G f.offset) = L.all fun p => G p.2.2 := by
  subst h
  rw [List.all_map]
  rfl

theorem ic_get (X : Nat → Int) (k : Nat) (hk : k < 13) : (Ic X)[k]? = some (.int .i64 (X k)) := by
  have : k = 0 ∨ k = 1 ∨ k = 2 ∨ k = 3 ∨ k = 4 ∨ k = 5 ∨ k = 6 ∨ k = 7 ∨ k = 8 ∨ k = 9 ∨ k = 10 ∨ k = 11 ∨ k = 12 := by omega
  rcases this with rfl | rfl | rfl | rfl | rfl | rfl | rfl | rfl | rfl | rfl | rfl | rfl | rfl <;> rfl

/-- Are two inodes the same? -/
def inoSame (X Y : Nat → Int) : Bool := (List.range 13).all fun k => X k == Y k

theorem inoSame_iff {X Y : Nat → Int} : inoSame X Y = true ↔ ∀ k, k < 13 → X k = Y k := by simp [inoSame]

theorem inoSame_refl (X : Nat → Int) : inoSame X X = true := by simp [inoSame]

theorem equal_inode (X Y : Nat → Int) (w : World) : (Op.equalIn 10000 55 (Iv X) (Iv Y)).run Tryd.prog w = .ok (inoSame X Y) w := by
  rw [run_equalIn_struct w 9999 55 _ _ underI stoodI]
  have hG : ∀ f ∈ (Tryd.prog.fieldsOf 55).toList, f.name ≠ "_" ∧ ∃ a b, (part f.type (Ic X) f.offset).run Tryd.prog w = .ok a w ∧ (part f.type (Ic Y) f.offset).run Tryd.prog w = .ok b w ∧ (Op.equalIn 9999 f.type a b).run Tryd.prog w = .ok ((fun k => if k = 3 then (List.range 8).all (fun i => X (3 + i) == Y (3 + i)) else X k == Y k) f.offset) w := by
    intro f hf
    have hm : (f.name, f.type, f.offset) ∈ (Tryd.prog.fieldsOf 55).toList.map (fun f => (f.name, f.type, f.offset)) := List.mem_map.2 ⟨f, hf, rfl⟩
    rw [fieldsI] at hm
    have one : ∀ k, k < 13 → k ≠ 3 → f.type = 3 → f.offset = k → ∃ a b, (part f.type (Ic X) f.offset).run Tryd.prog w = .ok a w ∧ (part f.type (Ic Y) f.offset).run Tryd.prog w = .ok b w ∧ (Op.equalIn 9999 f.type a b).run Tryd.prog w = .ok ((fun k => if k = 3 then (List.range 8).all (fun i => X (3 + i) == Y (3 + i)) else X k == Y k) f.offset) w := by
      intro k hk hk3 h1 h2
      rw [h1, h2]
      refine ⟨_, _, part_i (ic_get X k hk) w, part_i (ic_get Y k hk) w, ?_⟩
      rw [run_equalIn_int w 9998 3 .i64 .i64 _ _ Tryd.underlying3]
      simp only [if_neg hk3]
    simp only [List.mem_cons, List.not_mem_nil, or_false, Prod.mk.injEq] at hm
    rcases hm with ⟨a, b, c⟩ | ⟨a, b, c⟩ | ⟨a, b, c⟩ | ⟨a, b, c⟩ | ⟨a, b, c⟩ | ⟨a, b, c⟩
    · exact ⟨by rw [a]; decide, one 0 (by omega) (by omega) b c⟩
    · exact ⟨by rw [a]; decide, one 1 (by omega) (by omega) b c⟩
    · exact ⟨by rw [a]; decide, one 2 (by omega) (by omega) b c⟩
    · refine ⟨by rw [a]; decide, ?_⟩
      rw [b, c]
      refine ⟨_, _, part_a8 _ _ w, part_a8 _ _ w, ?_⟩
      obtain ⟨i, hi⟩ := Option.isSome_iff_exists.1 info3e
      rw [run_equalIn_array w 9998 _ _ underA8 hi, cells3e]
      refine items_int _ _ (fun i => X (3 + i)) (fun i => Y (3 + i)) 8 (fun i hi => ?_) (fun i hi => ?_) 9997 w _ (fun j hj => by simpa using hj)
      · have : i = 0 ∨ i = 1 ∨ i = 2 ∨ i = 3 ∨ i = 4 ∨ i = 5 ∨ i = 6 ∨ i = 7 := by omega
        rcases this with rfl | rfl | rfl | rfl | rfl | rfl | rfl | rfl <;> rfl
      · have : i = 0 ∨ i = 1 ∨ i = 2 ∨ i = 3 ∨ i = 4 ∨ i = 5 ∨ i = 6 ∨ i = 7 := by omega
        rcases this with rfl | rfl | rfl | rfl | rfl | rfl | rfl | rfl <;> rfl
    · exact ⟨by rw [a]; decide, one 11 (by omega) (by omega) b c⟩
    · exact ⟨by rw [a]; decide, one 12 (by omega) (by omega) b c⟩
  refine (eqF_all (fun k => if k = 3 then (List.range 8).all (fun i => X (3 + i) == Y (3 + i)) else X k == Y k) _ hG).trans (congrArg (fun r => Result.ok r w) ((all_offs fieldsI (fun k => if k = 3 then (List.range 8).all (fun i => X (3 + i) == Y (3 + i)) else X k == Y k)).trans ?_))
  have e8 : List.range 8 = [0, 1, 2, 3, 4, 5, 6, 7] := rfl
  have e13 : List.range 13 = [0, 1, 2, 3, 4, 5, 6, 7, 8, 9, 10, 11, 12] := rfl
  simp only [inoSame, e8, e13, List.all_cons, List.all_nil, Bool.and_true]
  simp [Bool.and_assoc]

theorem eql_inode (X Y : Nat → Int) (w : World) : (binOp .eql 55 (Iv X) (Iv Y)).run Tryd.prog w = .ok (.bool (inoSame X Y)) w := by
  rw [run_eql_struct, equal_inode]; rfl

theorem neq_inode (X Y : Nat → Int) (w : World) : (binOp .neq 55 (Iv X) (Iv Y)).run Tryd.prog w = .ok (.bool (!inoSame X Y)) w := by
  rw [run_neq_struct, equal_inode]; rfl

theorem underD : Tryd.prog.underlying 60 = some (.struct (Tryd.prog.fieldsOf 60)) := by kernel_rfl
theorem stoodD : Tryd.prog.stoodInHeld 60 = false := by kernel_rfl
theorem fieldsD : (Tryd.prog.fieldsOf 60).toList.map (fun f => (f.name, f.type, f.offset)) = [("Inode", 3, 0), ("Name", 9, 1)] := by kernel_rfl

theorem part_s {xs : Array Value} {k : Nat} {s : ByteArray} (h : xs[k]? = some (.string s)) (w : World) : (part 9 xs k).run Tryd.prog w = .ok (.string s) w := by
  simp only [part, isAgg, Sem.run_bind, run_underlying Tryd.underlying9, Result.andThen_ok, Sem.run_pure]
  rw [h]
  rfl

theorem eql_dirent (i : Int) (s : ByteArray) (w : World) : (binOp .eql 60 (Dv i s) (Dv i s)).run Tryd.prog w = .ok (.bool true) w := by
  rw [run_eql_struct]
  have h : (Op.equalIn 10000 60 (Dv i s) (Dv i s)).run Tryd.prog w = .ok true w := by
    rw [run_equalIn_struct w 9999 60 _ _ underD stoodD]
    refine (eqF_all (fun _ => true) _ (fun f hf => ?_)).trans (congrArg (fun r => Result.ok r w) ((all_offs fieldsD (fun _ => true)).trans rfl))
    · have hm : (f.name, f.type, f.offset) ∈ (Tryd.prog.fieldsOf 60).toList.map (fun f => (f.name, f.type, f.offset)) := List.mem_map.2 ⟨f, hf, rfl⟩
      rw [fieldsD] at hm
      simp only [List.mem_cons, List.not_mem_nil, or_false, Prod.mk.injEq] at hm
      rcases hm with ⟨a, b, c⟩ | ⟨a, b, c⟩
      · refine ⟨by rw [a]; decide, ?_⟩
        rw [b, c]
        exact ⟨_, _, part_i (z := i) rfl w, part_i (z := i) rfl w, by rw [run_equalIn_int w 9998 3 .i64 .i64 _ _ Tryd.underlying3]; simp⟩
      · refine ⟨by rw [a]; decide, ?_⟩
        rw [b, c]
        exact ⟨_, _, part_s (s := s) rfl w, part_s (s := s) rfl w, by rw [run_equalIn_string w 9998 9 _ _ Tryd.underlying9]; simp⟩
  rw [h]; rfl

end Go.Proofs.YtmdkcoenjadieaaDoor
