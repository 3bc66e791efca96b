/- Joined: Fol, GApp. -/
import Derived.Test.YtmdkcoenjadieaaDoorVGBase
import Derived.Test.YtmdkcoenjadieaaDoorVSum
/- The contracts of follow, Sum and Add. -/
namespace Go.Proofs.YtmdkcoenjadieaaDoor
open Go.RowKit Go.Shelf
set_option linter.unusedVariables false

/-- The table lies where the program looks it up. -/
def Tab (w : World) : Prop := ∀ k, k < 16 → w.cell? ⟨0, k, none⟩ = some (.int .u32 ((tab k : Nat) : Int))

theorem look (w : World) (hT : Tab w) (X : Nat) (hX : X < 4294967296) : ∃ r t Y : Nat, r < 16 ∧ w.cell? ⟨0, r, none⟩ = some (.int .u32 (t : Int)) ∧ bits .and .u32 (X : Int) 15 = (r : Int) ∧ bits .xor .u32 ((X : Int) / 16) (t : Int) = (Y : Int) ∧ Y < 4294967296 ∧ Hid (Y = st4 X) := by
  refine ⟨X % 16, tab (X % 16), st4 X, by omega, hT _ (by omega), ?_, ?_, st4_lt hX, rfl⟩
  · have := u32_and_nat X 15 hX (by omega)
    rw [nat_mask4] at this
    exact this
  · rw [st4_look]
    have := u32_xor_nat (X / 16) (tab (X % 16)) (by omega) (tab_lt _)
    rw [← this]
    congr 1

set_option maxHeartbeats 1000000 in
theorem follow_some (b off len cap : Nat) (zs : List Int) (s : Nat) (w : World) (hs : s < 4294967296) (hT : Tab w) (hlen : zs.length = len) (hl : len ≤ 140737488355328) (hby : Byts zs)
    (hcs : ∀ j, j < len → w.cell? ⟨b, off + j, none⟩ = some (.int .u8 (zs[j]?.getD 0))) :
    Calls Tryd.prog 77 #[.int .u32 (s : Int), .slice (some ⟨b, off, none⟩) len cap] w fun e w' => e = .returned (.int .u32 ((addS s zs : Nat) : Int)) ∧ w = w' := by
  obtain ⟨c0, hc0, hs1, hx0⟩ : ∃ c0 : Nat, Hid (s ^^^ 4294967295 = c0) ∧ c0 < 4294967296 ∧ bits .xor .u32 (s : Int) 4294967295 = (c0 : Int) := ⟨_, rfl, lt_xor hs (by omega), u32_xor_nat s 4294967295 hs (by omega)⟩
  have HE : Hid (addS s zs = fol c0 zs ^^^ 4294967295) := by unfold addS; rw [hc0.out]; rfl
  have HT := hide hT
  have HB := hide hby
  have HC := hide hcs
  clear hc0 hT hby hcs
  go_enter Tryd.func77, Tryd.ntmps77
  go_wp2
  go_loop [5, 12] (fun c i => ∃ k : Nat, k ≤ len ∧ i = .int .i64 (k : Int) ∧ c = .int .u32 ((fol c0 (zs.take k) : Nat) : Int)) (fun _ i => len - (intOf i).toNat)
  case atStart => exact ⟨0, Nat.zero_le _, rfl, rfl⟩
  case round =>
    obtain ⟨k, hk, rfl, rfl⟩ := hrel
    have hC : fol c0 (zs.take k) < 4294967296 := fol_lt (fun z hz => HB.out z (List.mem_of_mem_take hz)) hs1
    by_cases hlt : k < len
    · have hz := HB.out (zs[k]?.getD 0) (by rw [List.getElem?_eq_getElem (by omega)]; exact List.getElem_mem _)
      have HS := hide (fol_succ c0 zs k (by omega))
      have hck := HC.out k hlt
      generalize fol c0 (zs.take k) = C at *
      generalize zs[k]?.getD 0 = xi at *
      obtain ⟨x, rfl⟩ := Int.eq_ofNat_of_zero_le hz.1
      have hx1 : (x : Int) % 4294967296 = x := by omega
      obtain ⟨X, hXe, hX, h1⟩ : ∃ X : Nat, Hid (X = C ^^^ x) ∧ X < 4294967296 ∧ bits .xor .u32 (C : Int) (x : Int) = (X : Int) := ⟨_, rfl, lt_xor hC (by omega), u32_xor_nat C x hC (by omega)⟩
      obtain ⟨r, t, Y, hr, ht, h2, h3, hY, hYe⟩ := look w HT.out X hX
      obtain ⟨r', t', Z, hr', ht', h2', h3', hZ, hZe⟩ := look w HT.out Y hY
      have HF : Hid (fol c0 (zs.take (k + 1)) = Z) := by
        show _ = _
        rw [HS.out, hZe.out, hYe.out, hXe.out]
        rfl
      clear hXe hYe hZe HS
      go_wp2
      exact ⟨⟨k + 1, by omega, by go_num, by rw [HF.out]⟩, by simp [intOf]; omega⟩
    · have hX := u32_xor_nat (fol c0 (zs.take k)) 4294967295 hC (by omega)
      have HX := hide hX
      obtain rfl : k = len := by omega
      clear hX
      go_wp2
      go_ret
      refine ⟨?_, rfl⟩
      rw [HE.out]
      refine ret_int ?_
      have HX' := HX.out
      have e : zs.take k = zs := List.take_of_length_le (by omega)
      rw [e] at HX' ⊢
      exact HX'

set_option maxHeartbeats 1000000 in
theorem follow_none (a : Option Addr) (cap : Nat) (s : Nat) (w : World) (hs : s < 4294967296) :
    Calls Tryd.prog 77 #[.int .u32 (s : Int), .slice a 0 cap] w fun e w' => e = .returned (.int .u32 ((addS s [] : Nat) : Int)) ∧ w = w' := by
  obtain ⟨c0, hc0, hs1, hx0⟩ : ∃ c0 : Nat, Hid (s ^^^ 4294967295 = c0) ∧ c0 < 4294967296 ∧ bits .xor .u32 (s : Int) 4294967295 = (c0 : Int) := ⟨_, rfl, lt_xor hs (by omega), u32_xor_nat s 4294967295 hs (by omega)⟩
  have HE : Hid (addS s [] = c0 ^^^ 4294967295) := by unfold addS; rw [hc0.out]; rfl
  have hX := u32_xor_nat c0 4294967295 hs1 (by omega)
  have HX := hide hX
  clear hc0 hX
  go_enter Tryd.func77, Tryd.ntmps77
  go_wp2
  go_loop [5, 12] (fun c i => i = .int .i64 0 ∧ c = .int .u32 (c0 : Int)) (fun _ i => 0 - (intOf i).toNat)
  case atStart => exact ⟨rfl, rfl⟩
  case round =>
    obtain ⟨rfl, rfl⟩ := hrel
    go_wp2
    go_ret
    refine ⟨?_, rfl⟩
    rw [HE.out]
    exact ret_int HX.out

theorem follow_any (a : Option Addr) (len cap : Nat) (zs : List Int) (s : Nat) (w : World) (hs : s < 4294967296) (hT : Tab w) (hh : Has w a len zs) (hl : len ≤ 140737488355328) (hby : Byts zs) :
    Calls Tryd.prog 77 #[.int .u32 (s : Int), .slice a len cap] w fun e w' => e = .returned (.int .u32 ((addS s zs : Nat) : Int)) ∧ w = w' := by
  by_cases h0 : len = 0
  · subst h0
    obtain rfl : zs = [] := List.eq_nil_of_length_eq_zero hh.1
    exact follow_none a cap s w hs
  · obtain ⟨b, off, rfl, hc⟩ := hh.2 (by omega)
    exact follow_some b off len cap zs s w hs hT hh.1 hl hby hc

set_option maxHeartbeats 1000000 in
/-- Sum. -/
theorem sum_any (a : Option Addr) (len cap : Nat) (zs : List Int) (w : World) (hT : Tab w) (hh : Has w a len zs) (hl : len ≤ 140737488355328) (hby : Byts zs) :
    Calls Tryd.prog 54 #[.slice a len cap] w fun e w' => e = .returned (.int .i64 ((sumS zs : Nat) : Int)) ∧ w = w' := by
  have hlt := sumS_lt hby
  have K : Hid (Calls Tryd.prog 77 #[.int .u32 0, .slice a len cap] w fun e w' => e = .returned (.int .u32 ((sumS zs : Nat) : Int)) ∧ w = w') := by
    have := follow_any a len cap zs 0 w (by omega) hT hh hl hby
    rw [addS_zero] at this
    exact this
  generalize sumS zs = S at *
  clear hT hh hby
  go_enter Tryd.func54, Tryd.ntmps54
  go_wp2_with (go_at_call 77; refine (unhide K).mono ?_; rintro e w' ⟨rfl, rfl⟩)
  go_ret
  exact ⟨ret_int (by first | rfl | omega), rfl⟩

/-- What Add answers. -/
def addV (s : Int) (zs : List Int) : Int := if s < 0 ∨ 4294967295 < s then 0 else ((addS s.toNat zs : Nat) : Int)

def addE (s : Int) : Int := if s < 0 ∨ 4294967295 < s then 3 else 0

end Go.Proofs.YtmdkcoenjadieaaDoor

/- An append of bytes to a row of the call's own, from whatever source. -/
namespace Go.Proofs.YtmdkcoenjadieaaDoor
open Go.RowKit Go.Shelf
set_option linter.unusedVariables false

theorem Own.owns {B : Nat} {w : World} {a : Option Addr} {n c : Nat} {xs : List Int} (h : Own B w a n c xs) : w.ownsRow B 5 1 (.slice a n c) n (xs.map (Value.int .u8)) := by
  obtain ⟨h1, h2, h3, h4⟩ := h
  refine ⟨by simp [h1], ?_⟩
  rcases h4 with ⟨rfl, rfl, rfl⟩ | ⟨g, cur, rfl, hg, hh, hc, ht⟩
  · exact .inl ⟨rfl, rfl⟩
  · exact .inr ⟨g, c, cur, rfl, hg, hh, h2, h3, by simpa using hc, by simpa using ht⟩

theorem Own.of_owns {B : Nat} {w : World} {v : Value} {n : Nat} {xs : List Int} (h : w.ownsRow B 5 1 v n (xs.map (Value.int .u8))) : ∃ a c, v = .slice a n c ∧ Own B w a n c xs := by
  obtain ⟨h1, h2⟩ := h
  have hl : xs.length = n := by simpa using h1
  rcases h2 with ⟨rfl, rfl⟩ | ⟨g, cap, cur, rfl, hg, hh, h2, h3, hc, ht⟩
  · exact ⟨none, 0, rfl, hl, Nat.le_refl _, by unfold maxLen; omega, .inl ⟨rfl, rfl, rfl⟩⟩
  · exact ⟨_, cap, rfl, hl, h2, h3, .inr ⟨g, cur, rfl, hg, hh, by simpa using hc, by simpa using ht⟩⟩

theorem Own.has {B : Nat} {w : World} {a : Option Addr} {n c : Nat} {xs : List Int} (h : Own B w a n c xs) : Has w a n xs := by
  refine ⟨h.1, fun hp => ?_⟩
  obtain ⟨g, e, _, _, _⟩ := h.cell (j := 0) hp
  refine ⟨g, 0, e, fun j hj => ?_⟩
  obtain ⟨g', e', _, hc, _⟩ := h.cell hj
  rw [e] at e'
  cases e'
  rw [Nat.zero_add]
  exact hc

theorem run_append_nothing (w : World) (ty : TypeId) (a a2 : Option Addr) (n c c2 : Nat) (hn : n ≤ c) (ha : a = none → n = 0 ∧ c = 0) : (Builtin.append_ #[26, 26] ty #[.slice a n c, .slice a2 0 c2]).run Tryd.prog w = .ok (.slice a n c) w := by
  obtain ⟨i0, hi, hz0, hz1, hz2⟩ := info_parts info5
  cases a with
  | none =>
    obtain ⟨rfl, rfl⟩ := ha rfl
    cases a2 <;> simp [Builtin.append_, run_underlying Tryd.underlying26, sizeOf, typeInfo, hi, Builtin.lenOf, Builtin.firstCells, loadCells, loadCellsFrom]
  | some x => cases a2 <;> simp [Builtin.append_, run_underlying Tryd.underlying26, sizeOf, typeInfo, hi, Builtin.lenOf, Builtin.firstCells, storeCells, loadCells, loadCellsFrom, hn]

/-- **append(x, y...)**, x a row of the call's own. -/
theorem run_append_bytes {B : Nat} {w : World} {a : Option Addr} {n c : Nat} {xs : List Int} (h : Own B w a n c xs) (hB : B ≤ w.heap.size) {a2 : Option Addr} {m : Nat} {ys : List Int} (c2 : Nat) (h2 : Has w a2 m ys) (hn : n + m ≤ 140737488355328) :
    ∃ a' c' w', (∀ ty, (Builtin.append_ #[26, 26] ty #[.slice a n c, .slice a2 m c2]).run Tryd.prog w = .ok (.slice a' (n + m) c') w') ∧ Own B w' a' (n + m) c' (xs ++ ys) ∧
      (∀ k, k < w.heap.size → (∀ g, a = some ⟨g, 0, none⟩ → k ≠ g) → w'.heap[k]? = w.heap[k]?) ∧ Below B w w' := by
  obtain ⟨i0, hi, hz0, hz1, hz2⟩ := info_parts info5
  by_cases h0 : m = 0
  · subst h0
    obtain rfl : ys = [] := List.eq_nil_of_length_eq_zero h2.1
    refine ⟨a, c, w, fun ty => run_append_nothing w ty a a2 n c c2 h.2.1 (fun e => ?_), by rw [List.append_nil]; exact h, fun _ _ _ => rfl, Below.refl _ _⟩
    rcases h.2.2.2 with ⟨_, e1, e2⟩ | ⟨g, _, e', _⟩
    · exact ⟨e1, e2⟩
    · rw [e] at e'; cases e'
  · obtain ⟨b, off, rfl, hc⟩ := h2.2 (by omega)
    have hl := h2.1
    have hnews : ∀ (j : Nat) (u : Value), (ys.map (Value.int .u8))[j]? = some u → w.cell? ((⟨b, off, none⟩ : Addr).add j) = some u := by
      intro j u hj
      have hjl : j < m := by have := (List.getElem?_eq_some_iff.1 hj).1; simp at this; omega
      rw [World.add_zero_spot, hc j hjl]
      rw [List.getElem?_map, List.getElem?_eq_getElem (by omega)] at hj
      rw [List.getElem?_eq_getElem (by omega)]
      simpa using hj
    have hmax : n + m ≤ maxLen := by unfold maxLen; omega
    obtain ⟨v', w', hr, ho, hg, _⟩ := run_append_own (P := Tryd.prog) w B 26 0 5 i0 (.int .u8 0) 1 1 Tryd.underlying26 hi hz0 hz1 hz2 rfl (by decide) (.slice a n c) n _ h.owns ⟨b, off, none⟩ m c2 (ys.map (Value.int .u8)) (by simp [hl]) hnews (oneCell_bytes ys) hmax (by omega) hB
    rw [← List.map_append] at ho
    obtain ⟨a', c', rfl, ho'⟩ := Own.of_owns ho
    refine ⟨a', c', w', fun ty => hr, ho', fun k hk hne => ?_, ?_⟩
    · refine hg.block k hk (fun e => ?_)
      rcases h.2.2.2 with ⟨ha, _, _⟩ | ⟨g, _, ha, _⟩
      · rw [ha] at e; simp [Value.ownBlock] at e
      · rw [ha] at e
        simp [Value.ownBlock] at e
        exact hne g ha e
    · refine (Below.refl B w).grown hg hB (fun k e => ?_)
      rcases h.2.2.2 with ⟨ha, _, _⟩ | ⟨g, _, ha, hgB, _⟩
      · rw [ha] at e; simp [Value.ownBlock] at e
      · rw [ha] at e
        simp [Value.ownBlock] at e
        omega

theorem Own.byt {B : Nat} {w : World} {a : Option Addr} {n c : Nat} {xs : List Int} (h : Own B w a n c xs) : xs.length = n := h.1

end Go.Proofs.YtmdkcoenjadieaaDoor

