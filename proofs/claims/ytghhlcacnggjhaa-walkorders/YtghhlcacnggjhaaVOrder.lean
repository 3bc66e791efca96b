/- walk.Order: every list of texts. -/
import Derived.Test.YtghhlcacnggjhaaVBy
import Derived.Test.YtghhlcacnggjhaaVAbove
import Derived.Shelf.SlicesG.CompactS
namespace Go.Proofs.Ytghhlcacnggjhaa
open Go.RowKit Go.Shelf Go.Sort
set_option linter.unusedVariables false
set_option maxRecDepth 100000

shelf_lay_g SlLaysN.n44 Slgn 44 at Try 30 as Try.cpL

theorem OwnS.take {B : Nat} {w : World} {a : Option Addr} {n c : Nat} {xs : List (List UInt8)} (h : OwnS B w a n c xs) {m : Nat} (hm : m ≤ n) : OwnS B w a m c (xs.take m) := by
  obtain ⟨h1, h2, h3, h4⟩ := h
  refine ⟨by simp; omega, by omega, h3, ?_⟩
  rcases h4 with ⟨e, e1, e2⟩ | ⟨g, cur, e, hg, hh, hc, ht⟩
  · exact .inl ⟨e, by omega, e2⟩
  · refine .inr ⟨g, cur, e, hg, hh, hc, ?_⟩
    rw [List.map_take, ← ht, List.take_take, Nat.min_eq_left hm]

theorem own_put {α : Type} [Inhabited α] (f : α → List UInt8) (enc : α → Value) (he : ∀ x, enc x = sv (f x)) {B : Nat} {w : World} {g n c : Nat} {xs : List (List UInt8)} (h : OwnS B w (some ⟨g, 0, none⟩) n c xs) (q : Nat) (d : Array α) (hd : d.size = n) (os : Array Obj) :
    OwnS B (grow (putRow enc (Sort.ahead w q) g 0 d) os) (some ⟨g, 0, none⟩) n c (d.toList.map f) ∧ (B ≤ g → Below B w (grow (putRow enc (Sort.ahead w q) g 0 d) os)) := by
  obtain ⟨h1, h2, h3, h4⟩ := h
  rcases h4 with ⟨e, _⟩ | ⟨g', cur, e, hg, hh, hc, ht⟩
  · cases e
  · cases e
    have hlt : g < w.heap.size := (Array.getElem?_eq_some_iff.1 hh).1
    have hlt' : g < (putRow enc (Sort.ahead w q) g 0 d).heap.size := by simpa [Sort.ahead] using hlt
    have hcell : (grow (putRow enc (Sort.ahead w q) g 0 d) os).heap[g]? = some (.cells (putCells enc 0 d cur) 9 (0, 0)) := by
      rw [heap_grow_old _ _ hlt']
      have hh' : (Sort.ahead w q).heap[g]? = some (.cells cur 9 (0, 0)) := hh
      simp only [putRow, mapBlock, Array.getElem?_modify, if_true, hh', Option.map_some, onCells]
    refine ⟨⟨by simp [hd], h2, h3, .inr ⟨g, _, rfl, hg, hcell, by simp [putCells, hc], ?_⟩⟩, fun hB => ⟨rfl, rfl, rfl, by simp [Sort.ahead], fun k hk => ?_⟩⟩
    · refine List.ext_getElem? (fun i => ?_)
      by_cases hi : i < n
      · rw [List.getElem?_take_of_lt hi, List.map_map, List.getElem?_map, Array.getElem?_toList, Array.getElem?_toList]
        unfold putCells
        rw [Array.getElem?_mapIdx, Array.getElem?_eq_getElem (by omega : i < cur.size), Array.getElem?_eq_getElem (by omega : i < d.size)]
        simp only [Option.map_some, Nat.zero_le, true_and, Nat.zero_add, Nat.sub_zero]
        rw [if_pos (by omega), getElem!_pos d i (by omega), he]
        rfl
      · rw [List.getElem?_eq_none (by simp; omega), List.getElem?_eq_none (by simp; omega)]
    · have hk' : k < (putRow enc (Sort.ahead w q) g 0 d).heap.size := by simp [Sort.ahead]; omega
      rw [heap_grow_old _ _ hk']
      simp only [putRow, mapBlock, Array.getElem?_modify]
      rw [if_neg (by omega)]
      rfl

theorem OwnS.holds {α : Type} [Inhabited α] (f : α → List UInt8) (enc : α → Value) (he : ∀ x, enc x = sv (f x)) {B : Nat} {w : World} {g n c : Nat} {d : Array α} (h : OwnS B w (some ⟨g, 0, none⟩) n c (d.toList.map f)) : Holds enc w g 0 d := by
  intro j hj
  have hn : d.size = n := by have := h.1; simpa using this
  obtain ⟨g', e, _, _, hc, hf⟩ := h.cell (j := j) (by omega)
  cases e
  rw [Nat.zero_add]
  refine ⟨?_, hf⟩
  rw [hc, he, List.getElem?_map, Array.getElem?_toList, Array.getElem?_eq_getElem hj, getElem!_pos d j hj]
  rfl

theorem okP_len {p : List UInt8} (h : okP p) : p.length ≤ 200 := by
  unfold okP at h
  cases hs : spl p with
  | none => rw [hs] at h; cases h
  | some ns => exact spl_len hs

/-- The list of a sorted row. -/
theorem sorted_ord {xs : List (List UInt8)} (hok : ∀ p ∈ xs, okP p) (d d' : Array P200) (hx : d.toList.map (·.1) = xs) (hp : PermIn 0 d.size d d') (hs : SortedIn (ltOf cfP) 0 d.size d') : IsOrd xs (Lib.compact (d'.toList.map (·.1))) ∧ d'.size = d.size := by
  have hsz := hp.1
  have hperm : (d'.toList.map (·.1)).Perm xs := by
    have := hp.2.2
    rw [← hx]
    have e1 : d'.extract 0 d.size = d' := by rw [← hsz]; exact Array.extract_size
    have e2 : d.extract 0 d.size = d := Array.extract_size
    rw [e1, e2] at this
    exact this.map _
  have hok' : ∀ p ∈ d'.toList.map (·.1), okP p := fun p h => hok p (hperm.mem_iff.1 h)
  have hl : (d'.toList.map (·.1)).length = d.size := by simp [hsz]
  have hget : ∀ i, i < d.size → (d'.toList.map (·.1))[i]! = (d'[i]!).1 := by
    intro i hi
    rw [getElem!_pos _ i (by omega), getElem!_pos d' i (by omega), List.getElem_map, Array.getElem_toList]
  have := compact_ord hok' (fun i j hij hj => by
    rw [hl] at hj
    have h1 := hs i j (Nat.zero_le _) hij hj
    unfold ltOf cfP at h1
    simp only [decide_eq_false_iff_not] at h1
    rw [hget i (by omega), hget j hj]
    exact h1)
  refine ⟨⟨this.1, fun p => by rw [this.2.1, hperm.mem_iff], ?_⟩, hsz⟩
  rw [← hperm.length_eq]
  exact this.2.2

theorem compact_any (g c : Nat) (zs : List (List UInt8)) (B : Nat) (w : World) (h : OwnS B w (some ⟨g, 0, none⟩) zs.length c zs) (hB : B ≤ g) :
    Calls Try.prog 30 #[.slice (some ⟨g, 0, none⟩) zs.length c] w fun e w' => e = .returned (.slice (some ⟨g, 0, none⟩) (Lib.compact zs).length c) ∧ OwnS B w' (some ⟨g, 0, none⟩) (Lib.compact zs).length c (Lib.compact zs) ∧ Below B w w' := by
  have hle : (Lib.compact zs).length ≤ zs.length := by
    unfold Lib.compact Lib.compactUpTo
    rw [List.length_map]
    refine Nat.le_trans (List.length_filter_le _ _) ?_
    simp
  have hH : Holds encStr w g 0 zs.toArray := OwnS.holds (fun x => x) encStr (fun x => rfl) (n := zs.length) (c := c) (B := B) (by simpa using h)
  refine (AnyG.slices_Compact_string Try.cpL g 0 c zs w hH (by have := h.2.1; have := h.2.2.1; unfold maxLen at this; omega) h.2.1).mono ?_
  rintro e w' ⟨rfl, q, rfl⟩
  refine ⟨rfl, ?_⟩
  have hp := own_put (fun x : List UInt8 => x) encStr (fun x => rfl) h q (Lib.compact zs ++ List.replicate (zs.length - (Lib.compact zs).length) []).toArray (by simp; omega) #[]
  rw [grow_empty] at hp
  refine ⟨?_, hp.2 hB⟩
  have ht := hp.1.take hle
  simpa using ht

set_option maxHeartbeats 4000000 in
theorem order_any (a : Option Addr) (n c : Nat) (xs : List (List UInt8)) (w : World) (h : HasS w a n xs) (hn : n ≤ 8796093021952) (hm : ∀ j : Nat, (xs[j]?.getD []).length ≤ 9223372036854775807) :
    Calls Try.prog 18 #[.slice a n c] w fun e w' => ((∀ p ∈ xs, okP p) ∧ (∃ a' c' ys, e = .returned (.tuple #[.slice a' ys.length c', .int .i64 0]) ∧ IsOrd xs ys ∧ OwnS w.heap.size w' a' ys.length c' ys) ∨ (¬ ∀ p ∈ xs, okP p) ∧ e = .returned (.tuple #[.slice none 0 0, .int .i64 16])) ∧ Below w.heap.size w w' := by
  obtain ⟨i0, hi, hz0, hz1, hz2⟩ := info_parts info9
  have hmk0 : ∀ w : World, (Instr.makeSlice 22 (.int .i64 0) (.int .i64 (n : Int))).run Try.prog w = .ok (.slice (some ⟨w.heap.size, 0, none⟩) 0 n) (w.alloc (.cells (madeCells #[.string ByteArray.empty] n) 9)) := by
    intro w
    have := run_make (P := Try.prog) w 22 9 i0 (.string ByteArray.empty) Try.underlying22 hi hz0 .i64 .i64 0 (n : Int) (by omega) (by omega) (by rw [hz2]; omega) (by omega)
    rw [this, hz1, show ((n : Nat) : Int).toNat = n by omega, Nat.mul_one]
    rfl
  have hb0 : Below w.heap.size w (w.alloc (.cells (madeCells #[.string ByteArray.empty] n) 9)) := (Below.refl _ w).alloc (Nat.le_refl _) _
  have HO : Hid (OwnS w.heap.size (w.alloc (.cells (madeCells #[.string ByteArray.empty] n) 9)) (some ⟨w.heap.size, 0, none⟩) 0 n (xs.take 0) ∧ Below w.heap.size w (w.alloc (.cells (madeCells #[.string ByteArray.empty] n) 9)) ∧ ∀ j, j < 0 → okP (xs[j]?.getD [])) :=
    ⟨⟨rfl, by omega, by unfold maxLen; omega, .inr ⟨w.heap.size, _, rfl, Nat.le_refl _, World.alloc_heap_new w _, by rw [← Array.length_toList, toList_madeCells_one, List.length_replicate], by simp⟩⟩, hb0, fun j hj => by omega⟩
  have HH := hide h
  have HM := hide hm
  have hlen := h.1
  clear h hm hb0 hi hz0 hz1 hz2
  generalize hB : w.heap.size = B at *
  go_enter Try.func18, Try.ntmps18
  go_wp2_with fail
  generalize w.alloc (.cells (madeCells #[.string ByteArray.empty] n) 9) = w0 at *
  go_loopw [14, 4] (fun iv l wr => ∃ (k g c' : Nat), k ≤ n ∧ iv = .int .i64 (k : Int) ∧ l = .slice (some ⟨g, 0, none⟩) k c' ∧ Hid (OwnS B wr (some ⟨g, 0, none⟩) k c' (xs.take k) ∧ Below B w wr ∧ ∀ j, j < k → okP (xs[j]?.getD []))) (fun iv _ _ => n - (intOf iv).toNat)
  case atStart => exact ⟨0, B, n, Nat.zero_le _, rfl, rfl, HO⟩
  case round =>
    obtain ⟨k, g, c', hk, rfl, rfl, hI⟩ := hrel
    clear HO
    obtain ⟨hO, hBl, hok⟩ := hI.out
    by_cases hlt : k < n
    · obtain ⟨b, o, rfl, hcl⟩ := (HH.out.below hBl (by rw [hB]; exact Nat.le_refl _)).cell hlt
      unfold sv at hcl
      have hp := HM.out k
      have HX : Hid (xs.take k ++ [xs[k]?.getD []] = xs.take (k + 1)) := by
        rw [List.take_add_one, List.getElem?_eq_getElem (by omega)]; rfl
      have HN : Hid (¬ okP (xs[k]?.getD []) → ¬ ∀ p ∈ xs, okP p) := by
        intro h1 h2
        exact h1 (h2 _ (by rw [List.getElem?_eq_getElem (by omega)]; exact List.getElem_mem _))
      have HY : Hid (okP (xs[k]?.getD []) → ∀ j, j < k + 1 → okP (xs[j]?.getD [])) := by
        intro h1 j hj
        by_cases e : j = k
        · subst e; exact h1
        · exact hok j (by omega)
      have HI : Hid (OwnS B wr (some ⟨g, 0, none⟩) k c' (xs.take k) ∧ Below B w wr) := ⟨hO, hBl⟩
      clear hI hO hBl hok HH HM
      generalize xs[k]?.getD [] = p at *
      have hlt' : (k : Int) < (n : Int) := by omega
      cases hs : spl p with
      | none =>
        have K := hide (split_no wr hp hs)
        have HN := hide (HN.out (by unfold okP; rw [hs]; simp))
        clear hs HX HY
        generalize St p = s at *
        go_wp2_with fail
        refine (unhide K).mono ?_
        rintro e w1 ⟨⟨x, cx, rfl⟩, hb⟩
        have HF : Hid (Below B w w1) := HI.out.2.trans (hb.mono (by have := HI.out.2.size; omega))
        clear K hb hcl
        go_wp2_with fail
        go_ret2
        exact ⟨.inr ⟨HN.out, rfl⟩, HF.out⟩
      | some ns =>
        have K := hide (split_yes wr hs)
        have HY := hide (HY.out (by unfold okP; rw [hs]; rfl))
        have KC : Hid (∀ u, Calls Try.prog 21 #[.string (St p)] u fun e w' => e = .returned (.string (St p)) ∧ Below u.heap.size u w') := fun u => clone_any p u (by have := spl_len hs; omega)
        clear hs HN
        generalize hsp : St p = s at *
        generalize ns.length = m at *
        go_wp2_with fail
        refine (unhide K).mono ?_
        rintro e w1 ⟨x, cx, rfl, _, hb⟩
        have HI : Hid (OwnS B w1 (some ⟨g, 0, none⟩) k c' (xs.take k) ∧ Below B w w1) := ⟨HI.out.1.below hb (Nat.le_refl _), HI.out.2.trans (hb.mono (by have := HI.out.2.size; omega))⟩
        clear K hb hcl
        go_wp2_with fail
        refine (unhide KC _).mono ?_
        rintro e w2 ⟨rfl, hb⟩
        have hO2 := HI.out.1.below hb (Nat.le_refl _)
        have hB2 := HI.out.2.trans (hb.mono (by have := HI.out.2.size; omega))
        obtain ⟨a3, c3, w3, R3, o3, _, b3⟩ := app1S hO2 (by have := hB2.size; omega) p (by omega)
        obtain ⟨g3, rfl, _, _, _, _⟩ := o3.cell (j := 0) (by omega)
        rw [HX.out] at o3
        rw [hsp] at R3
        have HI : Hid (OwnS B w3 (some ⟨g3, 0, none⟩) (k + 1) c3 (xs.take (k + 1)) ∧ Below B w w3 ∧ ∀ j, j < k + 1 → okP (xs[j]?.getD [])) := ⟨o3, hB2.trans b3, HY.out⟩
        have R3 := hide R3
        clear KC hb hO2 hB2 o3 b3 HX HY
        go_wp2_with (at_builtin; refine wpList_append_run 22 rfl _ _ rfl _ _ _ rfl rfl (unhide R3) ?_; clear R3)
        go_roundw
        case rel => exact ⟨k + 1, g3, c3, by omega, by go_num, rfl, HI⟩
        case measure => simp [intOf]; omega
    · obtain rfl : k = n := by omega
      rw [List.take_of_length_le (by omega)] at hO
      have hall : ∀ p ∈ xs, okP p := by
        intro p hp
        obtain ⟨j, hj, rfl⟩ := List.getElem_of_mem hp
        have := hok j (by omega)
        rwa [List.getElem?_eq_getElem hj] at this
      have hl : ∀ p ∈ xs, p.length ≤ 200 := fun p hp => okP_len (hall p hp)
      obtain ⟨d, hd⟩ : ∃ d : Array P200, d.toList.map (·.1) = xs := ⟨(xs.pmap (fun p h => (⟨p, h⟩ : P200)) hl).toArray, by rw [List.toList_toArray, List.map_pmap]; simp⟩
      have hdn : d.size = k := by rw [← hlen, ← hd]; simp
      have hO' := hO
      rw [← hd] at hO'
      have hgl := hO.lt rfl
      have KS := sort_any g c' d wr (OwnS.holds (·.1) encP (fun x => rfl) hO') hgl.1 (by omega)
      rw [hdn] at KS
      have KC : Hid (∀ d' q os, PermIn 0 d.size d d' → SortedIn (ltOf cfP) 0 d.size d' → Calls Try.prog 30 #[.slice (some ⟨g, 0, none⟩) k c'] (sortWorld encP wr g 0 q d' os) fun e w' => ∃ ys, e = .returned (.slice (some ⟨g, 0, none⟩) ys.length c') ∧ IsOrd xs ys ∧ OwnS B w' (some ⟨g, 0, none⟩) ys.length c' ys ∧ Below B w w') := by
        intro d' q os hp hs
        obtain ⟨ho, hsz⟩ := sorted_ord hall d d' hd hp hs
        have hpt := own_put (·.1) encP (fun x => rfl) hO q d' (by omega) os
        have hl' : (d'.toList.map (·.1)).length = k := by simp [hsz, hdn]
        have hcp := compact_any g c' (d'.toList.map (·.1)) B (sortWorld encP wr g 0 q d' os) (by rw [hl']; exact hpt.1) hgl.2
        rw [hl'] at hcp
        refine hcp.mono ?_
        rintro e w' ⟨rfl, h1, h2⟩
        exact ⟨_, rfl, ho, h1, hBl.trans ((hpt.2 hgl.2).trans h2)⟩
      have HA := hide hall
      have KS := hide KS
      rw [hdn] at KC
      clear hall hl hd hO hO' hI hgl HH HM hok
      go_wp2_with fail
      refine (unhide KS).mono ?_
      rintro e w1 ⟨rfl, d', q, os, hp, hs, rfl⟩
      have KC := hide (KC.out d' q os hp hs)
      clear KS hp hs
      generalize sortWorld encP wr g 0 q d' os = w1 at *
      go_wp2_with fail
      refine (unhide KC).mono ?_
      rintro e w2 ⟨ys, rfl, ho, hw, hb⟩
      have HW := hide (And.intro ho (And.intro hw hb))
      clear KC ho hw hb
      generalize hyl : ys.length = m at *
      go_wp2_with fail
      go_ret2
      obtain ⟨h1, h2, h3⟩ := HW.out
      refine ⟨.inl ⟨HA.out, some ⟨g, 0, none⟩, c', ys, ?_, h1, ?_⟩, h3⟩
      · exact congrArg (fun m => Ending.returned (.tuple #[.slice (some ⟨g, 0, none⟩) m c', .int .i64 0])) hyl.symm
      · rw [hyl]; exact h2

end Go.Proofs.Ytghhlcacnggjhaa
