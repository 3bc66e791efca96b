/- Joined: CRef, RefFrame. -/
import Derived.Test.YtmdkcoenjadieaaDoorWJ24
import Derived.Test.YtmdkcoenjadieaaDoorWGRefGet
import Derived.Test.YtmdkcoenjadieaaDoorWJ12
/- Contracts of skerryref06.put, padded, fits and num, of codec.get and of bytes.Equal. -/
namespace Go.Proofs.YtmdkcoenjadieaaDoor
open Go.RowKit Go.Shelf
set_option linter.unusedVariables false
set_option maxRecDepth 100000

theorem strOfNums_inj {xs ys : List Int} (hx : ∀ z ∈ xs, 0 ≤ z ∧ z ≤ 255) (hy : ∀ z ∈ ys, 0 ≤ z ∧ z ≤ 255) (h : strOfNums xs = strOfNums ys) : xs = ys := by
  have h2 := congrArg byts h
  have back : ∀ zs : List Int, (∀ z ∈ zs, 0 ≤ z ∧ z ≤ 255) → byts (strOfNums zs) = zs := by
    intro zs hz
    apply List.ext_getElem
    · simp [byts, strOfNums]
    · intro i h1 h2
      have := hz zs[i] (List.getElem_mem _)
      simp [byts, strOfNums]
      omega
  rwa [back xs hx, back ys hy] at h2

theorem str_eq_decide {xs ys : List Int} (hx : ∀ z ∈ xs, 0 ≤ z ∧ z ≤ 255) (hy : ∀ z ∈ ys, 0 ≤ z ∧ z ≤ 255) : ((strOfNums xs).toList == (strOfNums ys).toList) = decide (xs = ys) := by
  by_cases h : xs = ys
  · subst h; simp
  · have h2 : (strOfNums xs).toList ≠ (strOfNums ys).toList := fun e => by
      rw [ByteArray.toList_eq, ByteArray.toList_eq] at e
      exact h (strOfNums_inj hx hy (ByteArray.ext (Array.toList_inj.1 e)))
    rw [decide_eq_false h]
    exact beq_false_of_ne h2

theorem cell_one (w : World) (z : Int) : (w.alloc (.cells #[.int .u8 z] 5)).cell? ⟨w.heap.size, 0, none⟩ = some (.int .u8 z) := by
  have h := World.alloc_heap_new w (.cells #[.int .u8 z] 5)
  simp only [World.cell?, h]
  rfl

set_option maxHeartbeats 1000000 in
theorem equal_any (a1 a2 : Option Addr) (l1 c1 l2 c2 : Nat) (xs ys : List Int) (w : World) (h1 : Has w a1 l1 xs) (h2 : Has w a2 l2 ys) (hx : ∀ z ∈ xs, 0 ≤ z ∧ z ≤ 255) (hy : ∀ z ∈ ys, 0 ≤ z ∧ z ≤ 255) :
    Calls Tryd.prog 73 #[.slice a1 l1 c1, .slice a2 l2 c2] w fun e w' => e = .returned (.bool (decide (xs = ys))) ∧ w = w' := by
  have e1 := h1.conv c1
  have e2 := h2.conv c2
  have e3 := hide (str_eq_decide hx hy)
  clear h1 h2 hx hy
  go_enter Tryd.func73, Tryd.ntmps73
  go_wp2
  go_ret
  exact ⟨ret_bool e3.out, rfl⟩

set_option maxHeartbeats 1000000 in
theorem get_drop (a : Option Addr) (len cap : Nat) (zs : List Int) (at' n : Int) (w : World) (hr : Row w.heap.size w a len cap zs) (ha : at' ≤ 9223372036854775807) :
    Calls Tryd.prog 74 #[.slice a len cap, .int .i64 at', .int .i64 n] w fun e w' => e = .returned (.int .i64 (getVal zs at' n)) ∧ Below w.heap.size w w' := by
  have K := hide (get_any a len cap zs at' n w hr ha)
  generalize getVal zs at' n = v at *
  generalize numErr len at' n = q at *
  clear hr ha
  go_enter Tryd.func74, Tryd.ntmps74
  go_wp2_with (go_at_call 79; refine (unhide K).mono ?_; rintro e w' ⟨rfl, hb⟩)
  go_ret
  exact ⟨rfl, hb⟩

set_option maxHeartbeats 1000000 in
theorem num_drop0 (a : Option Addr) (len cap : Nat) (zs : List Int) (at' n : Int) (w : World) (hr : Row w.heap.size w a len cap zs) (ha : at' ≤ 9223372036854775807) :
    Calls Tryd.prog 50 #[.slice a len cap, .int .i64 at', .int .i64 n] w fun e w' => e = .returned (.int .i64 (getVal zs at' n)) ∧ w = w' := by
  have K := hide (refGet_any a len cap zs at' n w hr ha)
  generalize getVal zs at' n = v at *
  generalize numErr len at' n = q at *
  clear hr ha
  go_enter Tryd.func50, Tryd.ntmps50
  go_wp2_with (go_at_call 76; refine (unhide K).mono ?_; rintro e w' ⟨rfl, rfl⟩)
  go_ret
  exact ⟨rfl, rfl⟩

set_option maxHeartbeats 1000000 in
theorem fits_any (v : Int) (wd : Nat) (w : World) (hw : wd ≤ 4) :
    Calls Tryd.prog 46 #[.int .i64 v, .int .i64 (wd : Int)] w fun e w' => e = .returned (.bool (fitB wd [v])) ∧ w = w' := by
  go_enter Tryd.func46, Tryd.ntmps46
  go_wp2
  go_loop [5, 6] (fun m i => ∃ (k : Nat) (M : Int), k ≤ wd ∧ i = .int .i64 (k : Int) ∧ m = .int .i64 M ∧ 0 ≤ M ∧ M ≤ 4294967296 ∧ Hid (M = 256 ^ k)) (fun _ i => wd - (intOf i).toNat)
  case atStart => exact ⟨0, 1, Nat.zero_le _, rfl, rfl, by omega, by omega, rfl⟩
  case round =>
    obtain ⟨k, M, hk, rfl, rfl, hM0, hM1, hM⟩ := hrel
    by_cases hlt : k < wd
    · have hM2 : M ≤ 16777216 := by
        rw [hM.out]
        have : k = 0 ∨ k = 1 ∨ k = 2 ∨ k = 3 := by omega
        rcases this with rfl | rfl | rfl | rfl <;> omega
      have hS : Hid (M * 256 = 256 ^ (k + 1)) := by rw [hM.out]; exact (Int.pow_succ _ _).symm
      clear hM
      go_wp2
      exact ⟨⟨k + 1, M * 256, by omega, by go_num, by go_num, by omega, by omega, hS⟩, by simp [intOf]; omega⟩
    · obtain rfl : k = wd := by omega
      have HF : Hid (fitB k [v] = (decide (0 ≤ v) && decide (v < M))) := by
        show fitB k [v] = _
        rw [hM.out]
        simp [fitB]
      clear hM
      by_cases h1 : 0 ≤ v
      · have hd : decide (v ≥ 0) = true := by simpa using h1
        by_cases h2 : v < M
        · go_wp2
          go_ret
          exact ⟨ret_bool (by rw [HF.out]; simp [h1, h2]), rfl⟩
        · go_wp2
          go_ret
          exact ⟨ret_bool (by rw [HF.out]; simp; omega), rfl⟩
      · have hd : decide (v ≥ 0) = false := by simpa using h1
        go_wp2
        go_ret
        exact ⟨ret_bool (by rw [HF.out]; simp; omega), rfl⟩

/-- A slice that may be grown: the start of a row of the call's own, or one with no room behind it. -/
def Src (B : Nat) (w : World) (a : Option Addr) (n c : Nat) (xs : List Int) : Prop := Own B w a n c xs ∨ (Has w a n xs ∧ c = n ∧ 0 < n)

theorem Src.has {B : Nat} {w : World} {a : Option Addr} {n c : Nat} {xs : List Int} (h : Src B w a n c xs) : Has w a n xs := by
  rcases h with h | h
  · exact h.has
  · exact h.1

theorem Src.below {B n : Nat} {w w' : World} {a : Option Addr} {l c : Nat} {xs : List Int} (h : Src B w a l c xs) (hb : Below n w w') (hn : w.heap.size ≤ n) : Src B w' a l c xs := by
  rcases h with h | h
  · exact .inl (h.below hb hn)
  · exact .inr ⟨h.1.later (hb.mono hn), h.2⟩

theorem append_src {B : Nat} {w : World} {a : Option Addr} {n c : Nat} {xs : List Int} (h : Src B w a n c xs) (hB : B ≤ w.heap.size) (nb : Nat) (z : Int) (hz : w.cell? ⟨nb, 0, none⟩ = some (.int .u8 z)) (hn : n + 1 ≤ 140737488355328) :
    ∃ a' c' w', (∀ ty, (Builtin.append_ #[26, 26] ty #[.slice a n c, .slice (some ⟨nb, 0, none⟩) 1 1]).run Tryd.prog w = .ok (.slice a' (n + 1) c') w') ∧ Own B w' a' (n + 1) c' (xs ++ [z]) ∧ Below B w w' := by
  have h1 : Has w (some ⟨nb, 0, none⟩) 1 [z] := ⟨rfl, fun _ => ⟨nb, 0, rfl, fun j hj => by
    obtain rfl : j = 0 := by omega
    simpa using hz⟩⟩
  rcases h with h | ⟨h, rfl, hp⟩
  · obtain ⟨a', c', w', r, o, _, b⟩ := run_append_bytes h hB 1 h1 hn
    exact ⟨a', c', w', r, o, b⟩
  · obtain ⟨i0, hi, hz0, hz1, hz2⟩ := info_parts info5
    obtain ⟨b, off, rfl, hc⟩ := h.2 hp
    have hlen := h.1
    have holds : ∀ (j : Nat) (u : Value), (xs.map (Value.int .u8))[j]? = some u → w.cell? ((⟨b, off, none⟩ : Addr).add j) = some u := by
      intro j u hj
      have hjl : j < xs.length := by have := (List.getElem?_eq_some_iff.1 hj).1; simpa using this
      rw [World.add_zero_spot, hc j (by omega)]
      rw [List.getElem?_map, List.getElem?_eq_getElem hjl] at hj
      rw [List.getElem?_eq_getElem hjl]
      simpa using hj
    have hnews : ∀ (j : Nat) (u : Value), [Value.int .u8 z][j]? = some u → w.cell? ((⟨nb, 0, none⟩ : Addr).add j) = some u := by
      intro j u hj
      cases j with
      | zero => simp at hj; subst hj; simpa [Addr.add] using hz
      | succ j => simp at hj
    have hg : ∀ ty, ∃ v w', (Builtin.append_ #[26, 26] ty #[.slice (some ⟨b, off, none⟩) c c, .slice (some ⟨nb, 0, none⟩) 1 1]).run Tryd.prog w = .ok v w' ∧ w'.ownsRow w.heap.size 5 1 v (c + 1) (xs.map (Value.int .u8) ++ [Value.int .u8 z]) ∧ w.grownBy w' none := fun ty =>
      run_append_arg_grows (P := Tryd.prog) w 26 ty 5 i0 (.int .u8 0) 1 1 Tryd.underlying26 hi hz0 hz1 hz2 rfl (by decide) ⟨b, off, none⟩ c c (xs.map (Value.int .u8)) (by simp [hlen]) holds ⟨nb, 0, none⟩ 1 1 [Value.int .u8 z] rfl hnews (by omega) (by unfold maxLen; omega) (by omega)
    have hty : ∀ ty, (Builtin.append_ #[26, 26] ty #[.slice (some ⟨b, off, none⟩) c c, .slice (some ⟨nb, 0, none⟩) 1 1]).run Tryd.prog w = (Builtin.append_ #[26, 26] 0 #[.slice (some ⟨b, off, none⟩) c c, .slice (some ⟨nb, 0, none⟩) 1 1]).run Tryd.prog w := fun ty => rfl
    obtain ⟨v, w', hr, ho, hgr⟩ := hg 0
    have ho' : w'.ownsRow w.heap.size 5 1 v (c + 1) ((xs ++ [z]).map (Value.int .u8)) := by simpa using ho
    obtain ⟨a', c', rfl, hO⟩ := Own.of_owns ho'
    exact ⟨a', c', w', fun ty => (hty ty).trans hr, hO.base hB, ⟨hgr.os, hgr.tape, hgr.output, hgr.size, fun k hk => hgr.block k (by omega) (by simp)⟩⟩

theorem digits_zero_iff (v : Int) : digits 0 v = [] := rfl

theorem digits_next (wd k : Nat) (v : Int) (h0 : 0 ≤ v) (hk : k < wd) : digits (k + 1) v = digits k v ++ [v / 256 ^ k % 256] := digits_succ k v

set_option maxHeartbeats 2000000 in
/-- **skerryref06.put**. -/
theorem refput_any (B : Nat) (a : Option Addr) (n c : Nat) (xs : List Int) (wd : Nat) (v : Int) (w : World) (h : Src B w a n c xs) (hB : B ≤ w.heap.size) (hw : 1 ≤ wd ∧ wd ≤ 4) (h0 : 0 ≤ v) (h1 : v ≤ 4294967296) (hn : n ≤ 140737488351232) :
    Calls Tryd.prog 40 #[.slice a n c, .int .i64 (wd : Int), .int .i64 v] w fun e w' => ∃ a' c', e = .returned (.slice a' (n + wd) c') ∧ Hid (Own B w' a' (n + wd) c' (xs ++ digits wd v)) ∧ Below B w w' := by
  have H := hide h
  have HB := hide hB
  clear h hB
  go_enter Tryd.func40, Tryd.ntmps40
  go_wp2
  go_loopw [0, 2, 7] (fun s x i wr => ∃ (k m : Nat) (q : Int) (a : Option Addr) (c : Nat), k ≤ wd ∧ i = .int .i64 (k : Int) ∧ s = .slice a m c ∧ x = .int .i64 q ∧ 0 ≤ q ∧ q ≤ 4294967296 ∧ Hid (m = n + k ∧ q = v / 256 ^ k) ∧ Hid (Src B wr a m c (xs ++ digits k v) ∧ (0 < k → Own B wr a m c (xs ++ digits k v))) ∧ Hid (Below B w wr)) (fun _ _ i _ => wd - (intOf i).toNat)
  case atStart => exact ⟨0, n, v, a, c, Nat.zero_le _, rfl, rfl, rfl, h0, h1, ⟨rfl, by simp⟩, ⟨by rw [digits_zero_iff, List.append_nil]; exact H.out, fun h => by omega⟩, Below.refl _ _⟩
  case round =>
    obtain ⟨k, m, q, a1, c1, hk, rfl, rfl, rfl, hq0, hq1, hmq, hS, hb⟩ := hrel
    by_cases hlt : k < wd
    · have hbA : Below wr.heap.size wr (wr.alloc (.cells #[.int .u8 (q % 256)] 5)) := (Below.refl _ wr).alloc (Nat.le_refl _) _
      have hcell : (wr.alloc (.cells #[.int .u8 (q % 256)] 5)).cell? ⟨wr.heap.size, 0, none⟩ = some (.int .u8 (q % 256)) := cell_one wr _
      have hBw : B ≤ wr.heap.size := Nat.le_trans HB.out hb.out.size
      obtain ⟨a2, c2, w2, r2, o2, b2⟩ := append_src (hS.out.1.below hbA (Nat.le_refl _)) (Nat.le_trans hBw hbA.size) wr.heap.size (q % 256) hcell (by have := hmq.out.1; omega)
      have HN : Hid (m + 1 = n + (k + 1) ∧ q / 256 = v / 256 ^ (k + 1)) := ⟨by have := hmq.out.1; omega, by rw [hmq.out.2, Int.ediv_ediv_of_nonneg (Int.le_of_lt (Int.pow_pos (by omega))), Int.pow_succ]⟩
      have HO : Hid (Own B w2 a2 (m + 1) c2 (xs ++ digits (k + 1) v)) := by
        rw [digits_succ, ← List.append_assoc, ← hmq.out.2]
        exact o2
      have HBn : Hid (Below B w w2) := hb.out.trans ((hbA.mono hBw).trans b2)
      have R2 := hide r2
      have hm1 : q % 256 % 256 = q % 256 := by omega
      have hq2 : 0 ≤ q % 256 ∧ q % 256 ≤ 255 := by omega
      clear r2 o2 b2 hcell hbA hBw hS hb hmq
      go_wp2_with (at_builtin; refine wpList_append_run 26 rfl _ _ rfl _ _ _ rfl rfl (unhide R2) ?_; clear R2)
      exact ⟨⟨k + 1, m + 1, q / 256, a2, c2, by omega, by go_num, rfl, rfl, by omega, by omega, HN, ⟨.inl HO, fun _ => HO⟩, HBn⟩, by simp [intOf]; omega⟩
    · obtain rfl : k = wd := by omega
      have HR : Hid (Own B wr a1 (n + k) c1 (xs ++ digits k v)) := by
        have := hS.out.2 (by omega)
        rw [hmq.out.1] at this
        exact this
      obtain rfl : m = n + k := hmq.out.1
      clear hS hmq
      go_wp2
      go_ret
      exact ⟨a1, c1, rfl, HR, hb.out⟩

theorem layB_succ (xs : List Int) (k : Nat) : xs ++ List.replicate (k + 1) 0 = (xs ++ List.replicate k 0) ++ [(0 : Int)] := by
  rw [List.replicate_succ', List.append_assoc]

set_option maxHeartbeats 2000000 in
/-- **skerryref06.padded**, where there is room. -/
theorem padded_any (B : Nat) (a : Option Addr) (n c size : Nat) (xs : List Int) (w : World) (h : Own B w a n c xs) (hB : B ≤ w.heap.size) (hn : n ≤ size) (hs : size ≤ 65536) :
    Calls Tryd.prog 42 #[.slice a n c, .int .i64 (size : Int)] w fun e w' => ∃ a' c', e = .returned (.slice a' size c') ∧ Hid (Own B w' a' size c' (layB size xs)) ∧ Below B w w' := by
  have H := hide h
  have HB := hide hB
  have hlen := h.1
  clear h hB
  go_enter Tryd.func42, Tryd.ntmps42
  go_wp2
  go_loopw [0] (fun s wr => ∃ (k m : Nat) (a : Option Addr) (c : Nat), s = .slice a m c ∧ m ≤ size ∧ Hid (m = n + k ∧ Own B wr a m c (xs ++ List.replicate k 0)) ∧ Hid (Below B w wr)) (fun s _ => match s with | .slice _ m _ => size - m | _ => 0)
  case atStart => exact ⟨0, n, a, c, rfl, hn, ⟨rfl, by simpa using H.out⟩, Below.refl _ _⟩
  case round =>
    obtain ⟨k, m, a1, c1, rfl, hm, hO, hb⟩ := hrel
    by_cases hlt : m < size
    · have hbA : Below wr.heap.size wr (wr.alloc (.cells #[.int .u8 0] 5)) := (Below.refl _ wr).alloc (Nat.le_refl _) _
      have hcell : (wr.alloc (.cells #[.int .u8 0] 5)).cell? ⟨wr.heap.size, 0, none⟩ = some (.int .u8 0) := cell_one wr _
      have hBw : B ≤ wr.heap.size := Nat.le_trans HB.out hb.out.size
      obtain ⟨a2, c2, w2, r2, o2, b2⟩ := append_src (Src.below (B := B) (Or.inl hO.out.2) hbA (Nat.le_refl _)) (Nat.le_trans hBw hbA.size) wr.heap.size 0 hcell (by omega)
      have HO : Hid (m + 1 = n + (k + 1) ∧ Own B w2 a2 (m + 1) c2 (xs ++ List.replicate (k + 1) 0)) := ⟨by have := hO.out.1; omega, by rw [layB_succ]; exact o2⟩
      have HBn : Hid (Below B w w2) := hb.out.trans ((hbA.mono hBw).trans b2)
      have R2 := hide r2
      clear r2 o2 b2 hcell hbA hBw hO hb
      go_wp2_with (at_builtin; refine wpList_append_run 26 rfl _ _ rfl _ _ _ rfl rfl (unhide R2) ?_; clear R2)
      exact ⟨⟨k + 1, m + 1, a2, c2, rfl, by omega, HO, HBn⟩, by simp; omega⟩
    · obtain rfl : m = size := by omega
      have HR : Hid (Own B wr a1 m c1 (layB m xs)) := by
        have h1 := hO.out.1
        have h2 := hO.out.2
        obtain rfl : k = m - xs.length := by omega
        exact h2
      clear hO
      go_wp2
      go_ret
      exact ⟨a1, c1, rfl, HR, hb.out⟩

end Go.Proofs.YtmdkcoenjadieaaDoor

/- The contract of the document's Frame. -/
namespace Go.Proofs.YtmdkcoenjadieaaDoor
open Go.RowKit Go.Shelf
set_option linter.unusedVariables false
set_option maxRecDepth 100000

set_option maxHeartbeats 1000000 in
theorem refFrame_bad (a : Option Addr) (len cap : Nat) (w : World) (h : 65535 < len) (hl : len ≤ 140737488351232) :
    Calls Tryd.prog 59 #[.slice a len cap] w fun e w' => e = .returned (.tuple #[.slice none 0 0, .int .i64 5]) ∧ w = w' := by
  go_enter Tryd.func59, Tryd.ntmps59
  go_wp2
  go_ret2
  exact ⟨rfl, rfl⟩

theorem list_block (w : World) (zs : List Int) : Block (w.alloc (.cells (zs.map (Value.int .u8)).toArray 5)) w.heap.size zs := World.alloc_heap_new w _

theorem own_list (w : World) (x y : Int) : Own w.heap.size (w.alloc (.cells #[.int .u8 x, .int .u8 y] 5)) (some ⟨w.heap.size, 0, none⟩) 2 2 [x, y] :=
  (list_block w [x, y]).own rfl (Nat.le_refl _) (by omega)

theorem has_one (w : World) (x : Int) : Has (w.alloc (.cells #[.int .u8 x] 5)) (some ⟨w.heap.size, 0, none⟩) 1 [x] := (list_block w [x]).has rfl

set_option maxHeartbeats 2000000 in
theorem refFrame_good (a : Option Addr) (len cap : Nat) (zs : List Int) (w : World) (hr : Row w.heap.size w a len cap zs) (h : len ≤ 65535) :
    Calls Tryd.prog 59 #[.slice a len cap] w fun e w' => ∃ a' c', e = .returned (.tuple #[.slice a' (len + 6) c', .int .i64 0]) ∧ Hid (Own w.heap.size w' a' (len + 6) c' (frameB zs)) ∧ Below w.heap.size w w' := by
  have hlen := hr.1
  have hby := hr.byts
  have hd1 : ((len : Int) / 256) % 256 = (len : Int) / 256 := by omega
  have hdig : digits 2 (len : Int) = [(len : Int) % 256, (len : Int) / 256] := by
    show [(len : Int) % 256, (len : Int) / 256 % 256] = _
    rw [hd1]
  obtain ⟨a1, c1, w1, r1, h1⟩ : ∃ a1 c1 w1, (∀ ty, (Builtin.append_ #[26, 26] ty #[.slice (some ⟨w.heap.size, 0, none⟩) 2 2, .slice a len cap]).run Tryd.prog (w.alloc (.cells #[.int .u8 ((len : Int) % 256), .int .u8 ((len : Int) / 256)] 5)) = .ok (.slice a1 (2 + len) c1) w1) ∧ Hid (Own w.heap.size w1 a1 (2 + len) c1 (headB zs) ∧ Below w.heap.size w w1) := by
    have hb0 : Below w.heap.size w (w.alloc (.cells #[.int .u8 ((len : Int) % 256), .int .u8 ((len : Int) / 256)] 5)) := (Below.refl _ w).alloc (Nat.le_refl _) _
    obtain ⟨a1, c1, w1, r1, o1, _, b1⟩ := run_append_bytes (own_list w ((len : Int) % 256) ((len : Int) / 256)) hb0.size cap (hr.below hb0 hb0.size).has (by omega)
    refine ⟨a1, c1, w1, r1, ?_, hb0.trans b1⟩
    rw [headB, hlen, hdig]
    exact o1
  have hS := sumS_lt (headB_byts hby)
  have K : Hid (Calls Tryd.prog 41 #[.slice a1 (2 + len) c1] w1 fun e w' => e = .returned (.int .i64 ((sumS (headB zs) : Nat) : Int)) ∧ w1 = w') :=
    refSum_any a1 (2 + len) c1 (headB zs) w1 (unhide h1).1.has (by omega) (headB_byts hby)
  have R1 := hide r1
  have HF : Hid (frameB zs = headB zs ++ digits 4 ((sumS (headB zs) : Nat) : Int)) := rfl
  have hhl := headB_length zs
  generalize sumS (headB zs) = S at *
  generalize headB zs = hb at *
  have HD := hide digits_succ
  clear r1 hr hby hdig
  go_enter Tryd.func59, Tryd.ntmps59
  go_wp2_with (first
    | (at_builtin; refine wpList_append_run 26 rfl _ _ rfl _ _ _ rfl rfl (unhide R1) ?_)
    | (go_at_call 41; refine (unhide K).mono ?_; rintro e w5 ⟨rfl, rfl⟩))
  go_loopw [4, 5, 6] (fun f s i wr => ∃ (k : Nat) (u : Int) (a2 : Option Addr) (c2 : Nat), k ≤ 4 ∧ i = .int .i64 (k : Int) ∧ s = .int .i64 u ∧ f = .slice a2 (2 + len + k) c2 ∧ 0 ≤ u ∧ u ≤ 4294967295 ∧ Hid (u = (S : Int) / 256 ^ k) ∧ Hid (Own w.heap.size wr a2 (2 + len + k) c2 (hb ++ digits k (S : Int)) ∧ Below w.heap.size w wr)) (fun _ _ i _ => 4 - (intOf i).toNat)
  case atStart => exact ⟨0, S, a1, c1, by omega, rfl, rfl, rfl, by omega, by omega, (by show (S : Int) = (S : Int) / 256 ^ 0; simp), (by rw [show digits 0 (S : Int) = [] from rfl, List.append_nil]; exact unhide h1)⟩
  case round =>
    obtain ⟨k, u, a2, c2, hk, rfl, rfl, rfl, hu0, hu1, hu, h2⟩ := hrel
    by_cases hlt : k < 4
    · have hm : u % 256 % 256 = u % 256 := by omega
      obtain ⟨a3, c3, w3, r3, h3⟩ : ∃ a3 c3 w3, (∀ ty, (Builtin.append_ #[26, 26] ty #[.slice a2 (2 + len + k) c2, .slice (some ⟨wr.heap.size, 0, none⟩) 1 1]).run Tryd.prog (wr.alloc (.cells #[.int .u8 (u % 256)] 5)) = .ok (.slice a3 (2 + len + (k + 1)) c3) w3) ∧ Hid (Own w.heap.size w3 a3 (2 + len + (k + 1)) c3 (hb ++ digits (k + 1) (S : Int)) ∧ Below w.heap.size w w3) := by
        obtain ⟨o2, b2⟩ := unhide h2
        have hb0 : Below wr.heap.size wr (wr.alloc (.cells #[.int .u8 (u % 256)] 5)) := (Below.refl _ wr).alloc (Nat.le_refl _) _
        have hb2 := b2.trans (hb0.mono b2.size)
        obtain ⟨a3, c3, w3, r3, o3, _, b3⟩ := run_append_bytes (o2.below hb0 (Nat.le_refl _)) hb2.size 1 (has_one wr (u % 256)) (by omega)
        refine ⟨a3, c3, w3, r3, ?_, hb2.trans b3⟩
        rw [unhide HD k, ← hu.out, ← List.append_assoc]
        exact o3
      have R3 := hide r3
      have HU : Hid (u / 256 = (S : Int) / 256 ^ (k + 1)) := by
        show u / 256 = (S : Int) / 256 ^ (k + 1)
        rw [hu.out, Int.ediv_ediv_of_nonneg (Int.le_of_lt (Int.pow_pos (by omega))), Int.pow_succ]
      clear r3 h2 hu
      go_wp2_with (at_builtin; refine wpList_append_run 26 rfl _ _ rfl _ _ _ rfl rfl (unhide R3) ?_)
      exact ⟨⟨k + 1, u / 256, a3, c3, by omega, by go_num, rfl, rfl, by omega, by omega, HU, h3⟩, by simp [intOf]; omega⟩
    · obtain rfl : k = 4 := by omega
      have e : 2 + len + 4 = len + 6 := by omega
      obtain ⟨o2, b2⟩ := unhide h2
      have h2' : Hid (Own w.heap.size wr a2 (len + 6) c2 (frameB zs)) := by rw [unhide HF, ← e]; exact o2
      clear o2 h2
      rw [e]
      clear e
      go_wp2
      go_ret2
      exact ⟨a2, c2, rfl, h2', b2⟩

end Go.Proofs.YtmdkcoenjadieaaDoor

