/- The contract of field.Get. -/
import Derived.Test.YtmdkcoenjadieaaGBack
import Derived.Test.YtmdkcoenjadieaaGCheck
import Derived.Test.YtmdkcoenjadieaaGNum
namespace Go.Proofs.Ytmdkcoenjadieaa
open Go.RowKit Go.Shelf
set_option linter.unusedVariables false
attribute [local go_sem] Oper.semAt_some

/-- What Get reads. -/
def getVal (zs : List Int) (at' n : Int) : Int := if numErr zs.length at' n = 0 then num ((zs.drop at'.toNat).take n.toNat) else 0

theorem came_vals {len : Nat} {l : List Int} {ys : List (Pt len)} (h : Came len (fun j z => z = l[j]?.getD 0) len ys) (hl : l.length = len) : ys.map (fun x => x.1.2) = l.reverse := by
  have h1 : ys.map (fun x => x.1.2) = (ys.map (fun x => x.1.1)).map (fun j => l[j]?.getD 0) := by
    rw [List.map_map]
    exact List.map_congr_left (fun x hx => h.2 x hx)
  rw [h1, h.1, desc]
  apply List.ext_getElem
  · simp [hl]
  · intro i h2 h3
    have : i < len := by simpa using h2
    have h4 : len - 1 - i < l.length := by omega
    simp only [List.getElem_map, List.getElem_range, List.getElem_reverse, List.getElem?_eq_getElem h4, Option.getD_some]
    congr 1; omega

set_option maxRecDepth 100000 in
set_option maxHeartbeats 2000000 in
theorem get_ok (b off len cap wd at0 : Nat) (zs : List Int) (w : World) (hr : Row w.heap.size w (some ⟨b, off, none⟩) len cap zs) (hw : wd = 1 ∨ wd = 2 ∨ wd = 4) (hat : at0 + wd ≤ len) :
    CallsIn Fence.wide 3 Try.prog 39 #[.slice (some ⟨b, off, none⟩) len cap, .int .i64 (at0 : Int), .int .i64 (wd : Int)] w fun e w' =>
      e = .returned (.tuple #[.int .i64 (num ((zs.drop at0).take wd)), .int .i64 0]) ∧ Below w.heap.size w w' := by
  obtain ⟨hlen, hlc, hcm, hby, hcell⟩ := hr
  have he : numErr len (at0 : Int) (wd : Int) = 0 := by
    unfold numErr
    rcases hw with rfl | rfl | rfl
    · rw [if_pos (by omega)]; exact partErr_ok (by omega) (by omega) (by omega)
    · rw [if_neg (by omega), if_pos (by omega)]; exact partErr_ok (by omega) (by omega) (by omega)
    · rw [if_neg (by omega), if_neg (by omega), if_pos (by omega)]; exact partErr_ok (by omega) (by omega) (by omega)
  have h1 : 1 ≤ 3 := by omega
  refine callsIn_of_wp_marks Try.func39 rfl trivial ?_ rfl
  simp only [Try.ntmps39, List.size_toArray, List.length_cons, List.length_nil, Nat.reduceAdd, Nat.reduceSub, Array.replicate_succ, Array.replicate_zero, List.push_toArray, List.append_toArray, List.nil_append, List.cons_append]
  gi_wp2_with (first
    | (refine ⟨trivial, ?_⟩; gi_at_call 36; refine (callsIn_wide.2 (checkNumber_any _ _ _ _ _ _ (by unfold maxLen; omega) (by omega))).mono ?_; rintro e w' ⟨rfl, rfl⟩; rw [he])
    | (refine ⟨trivial, ?_⟩; gi_at_call 38; refine (back_in _ _ trivial rfl _ _ _ _).mono ?_; rintro e w' ⟨rfl, rfl⟩))
  have bV := Boxed.new w 3 (.int .i64 0)
  have bN := Boxed.new (w.alloc (.cells #[.int .i64 0] 3)) 27 (.slice (some ⟨b, off + at0, none⟩) wd (cap - at0))
  rw [World.size_alloc] at bN
  have hB0 : Below w.heap.size w ((w.alloc (.cells #[.int .i64 0] 3)).alloc (.cells #[.slice (some ⟨b, off + at0, none⟩) wd (cap - at0)] 27)) := ((Below.refl _ w).alloc (Nat.le_refl _) _).alloc (by simp) _
  obtain ⟨b', off', e, hbl, hcs⟩ := hcell (by omega)
  cases e
  have hR : Reads (w.heap.size + 1) b (off + at0) wd (cap - at0) (fun j z => z = ((zs.drop at0).take wd)[j]?.getD 0) ((w.alloc (.cells #[.int .i64 0] 3)).alloc (.cells #[.slice (some ⟨b, off + at0, none⟩) wd (cap - at0)] 27)) := by
    refine ⟨bN.cell, fun j hj => ⟨zs[at0 + j]?.getD 0, ?_, ?_, ?_, ?_⟩⟩
    · rw [List.getElem?_eq_getElem (by omega)]; exact (hby _ (List.getElem_mem _)).1
    · rw [List.getElem?_eq_getElem (by omega)]; exact (hby _ (List.getElem_mem _)).2
    · show _ = ((zs.drop at0).take wd)[j]?.getD 0
      rw [List.getElem?_take_of_lt hj, List.getElem?_drop]
    · rw [hB0.cell (p := ⟨b, off + at0 + j, none⟩) hbl, Nat.add_assoc]; exact hcs _ (by omega)
  have hpow : ∀ pre : List (Pt wd), pre.length < wd → 0 ≤ horn (pre.map (fun x => x.1.2)) ∧ horn (pre.map (fun x => x.1.2)) < 16777216 := by
    intro pre hp
    have hb := horn_bound (pre.map (fun x => x.1.2)) (by intro z hz; simp only [List.mem_map] at hz; obtain ⟨x, _, rfl⟩ := hz; exact x.2.2)
    refine ⟨hb.1, Int.lt_of_lt_of_le hb.2 ?_⟩
    rw [List.length_map]
    have h3 : pre.length ≤ 3 := by omega
    have : (256 : Int) ^ pre.length ≤ 256 ^ 3 := by exact_mod_cast Nat.pow_le_pow_right (by omega) h3
    omega
  refine wpIn_rangeFunc_ownG rfl h1 (gf := 45) (lb := #[.pointer (some ⟨w.heap.size + 1, 0, none⟩)]) rfl trivial (enters_of Try.func45 (by kernel_rfl) rfl)
    (back_stops Fence.wide 2 trivial rfl (by omega) (w.heap.size + 1) b (off + at0) wd (cap - at0) (fun j z => z = ((zs.drop at0).take wd)[j]?.getD 0) (by unfold maxLen; omega) _ (by simp) (by simp; omega)
      (fun A B => Below w.heap.size A B ∧ B.heap[w.heap.size + 1]? = A.heap[w.heap.size + 1]?)
      (fun A B hk hr => ⟨(World.cell?_of_block hk.2).trans hr.1, fun j hj => by
        obtain ⟨z, h1, h2, h3, h4⟩ := hr.2 j hj
        exact ⟨z, h1, h2, h3, (hk.1.cell (p := ⟨b, off + at0 + j, none⟩) hbl).trans h4⟩⟩) hR)
    (fun h k => ⟨h.1.trans k.1, k.2.trans h.2⟩) (fun W l o o' hl h1 h2 h3 => ⟨belowK_b (w := w) (Nat.le_refl _) W l o o' (by simp at hl; omega) h1 h2 h3, World.putObj_heap_other (by simp at hl; omega)⟩) (Below.refl _ _) (fun _ => rfl)
    (fun pre W => (W.cell? ⟨w.heap.size, 0, none⟩ = some (.int .i64 (horn (pre.map (fun x => x.1.2)))) ∧ W.frozen? ⟨w.heap.size, 0, none⟩ = false) ∧ Below w.heap.size w W)
    (fun _ _ _ => False)
    (OwnFrom.and (Own.from (fun s A B row hs hg hr => ⟨cell_kept hs.1 hg hr, (frozen_kept hs.1 hg hr).trans hs.2⟩) _) (ownFrom_below (Nat.le_refl _) (by simp; omega)))
    (fun _ _ _ _ _ hs _ _ => hs)
    ⟨⟨(bV.alloc _).cell, (bV.alloc _).frozen⟩, hB0⟩
    (fun x => { tmps := #[.slice (some ⟨b, off, none⟩) len cap, .int .i64 at0, .int .i64 wd, undef, undef, undef, .int .i64 0, .int .i64 0, .int .i64 0, .pointer (some ⟨w.heap.size, 0, none⟩), undef, .int .u8 x.1.2,
      .slice (some ⟨b, off, none⟩) len cap, .int .i64 at0, .int .i64 wd, .int .i64 0, .int .i64 0, .bool false, undef, .slice (some ⟨b, off, none⟩) len cap, .int .i64 at0, .int .i64 at0, .int .i64 wd, .int .i64 (at0 + wd),
      .slice (some ⟨b, off + at0, none⟩) wd (cap - at0), .func (.func 45) #[] #[.pointer (some ⟨w.heap.size + 1, 0, none⟩)], .int .i64 (x.1.1 : Int), .int .u8 x.1.2, undef, undef, undef, undef, undef, undef], defers := [] }) ?assign ?body ?done ?stop
  case assign =>
    intro l x W K hK
    gi_wp2
    exact hK
  case body =>
    rintro l pre x W ⟨⟨hc, hf⟩, hB⟩ hlt
    have hp := hpow pre hlt
    have hx := x.2.2
    have ho := or_byte _ _ hp.1 hp.2 hx.1 hx.2
    gi_wp2
    exact ⟨(KeepsOthers.setCell _ _ _).from _, ⟨(Below.refl w.heap.size W).setCell (p := ⟨w.heap.size, 0, none⟩) (Nat.le_refl _) _, Below.heap_setCell _ _ _ _ (by simp)⟩,
      ⟨by rw [List.map_append, List.map_cons, List.map_nil, horn_snoc]; exact World.cell?_setCell_same' _ _ _ (by rw [hc]; rfl), by rw [World.frozen?_setCell]; exact hf⟩, hB.setCell (p := ⟨w.heap.size, 0, none⟩) (Nat.le_refl _) _⟩
  case done =>
    rintro D ys W hD hS ⟨⟨hc, _⟩, hB⟩ hK
    gi_wp2
    refine ⟨by simp, .inl ⟨_, _, rfl, run_takeDeferred hK, ?_⟩⟩
    have hv : horn (ys.map (fun x => x.1.2)) = num ((zs.drop at0).take wd) := by rw [came_vals hS (by simp; omega), horn_reverse]
    rw [hv] at *
    refine ⟨_, ?_, rfl, hB.trans (belowK_b (w := w) (Nat.le_refl _) W D _ _ (by simp at hD; omega) hK rfl rfl)⟩
    simp [results, Try.results39, go_sem]
  case stop =>
    rintro D c pre W _ _ h _
    exact h.elim

set_option maxHeartbeats 1000000 in
theorem get_err (a : Option Addr) (len cap : Nat) (at' n : Int) (w : World) (hl : len ≤ maxLen) (ha : at' ≤ 9223372036854775807) (he : (numErr len at' n == 0) = false) :
    Calls Try.prog 39 #[.slice a len cap, .int .i64 at', .int .i64 n] w fun e w' => e = .returned (.tuple #[.int .i64 0, .int .i64 (numErr len at' n)]) ∧ w = w' := by
  obtain ⟨q, hq⟩ : ∃ q, numErr len at' n = q := ⟨_, rfl⟩
  have hc := checkNumber_any a len cap at' n w hl ha
  rw [hq] at hc he ⊢
  clear hq
  refine (callsIn_wide (n := 3)).1 ?_
  refine callsIn_of_wp_marks Try.func39 rfl trivial ?_ rfl
  simp only [Try.ntmps39, List.size_toArray, List.length_cons, List.length_nil, Nat.reduceAdd, Nat.reduceSub, Array.replicate_succ, Array.replicate_zero, List.push_toArray, List.append_toArray, List.nil_append, List.cons_append]
  have hne : (q != 0) = true := by simpa using he
  have HC : Hid _ := hc
  clear hc
  gi_wp2_with (refine ⟨trivial, ?_⟩; gi_at_call 36; refine (callsIn_wide.2 HC.out).mono ?_; rintro e w' ⟨rfl, rfl⟩)
  refine ⟨_, ?_, rfl, rfl⟩
  simp [results, Try.results39, go_sem]

/-- **field.Get**: the number, and the error; nothing that was there has turned. -/
theorem get_any (a : Option Addr) (len cap : Nat) (zs : List Int) (at' n : Int) (w : World) (hr : Row w.heap.size w a len cap zs) (ha : at' ≤ 9223372036854775807) :
    Calls Try.prog 39 #[.slice a len cap, .int .i64 at', .int .i64 n] w fun e w' => e = .returned (.tuple #[.int .i64 (getVal zs at' n), .int .i64 (numErr len at' n)]) ∧ Below w.heap.size w w' := by
  have hlen := hr.1
  have hcap := hr.2.2.1
  have hlc := hr.2.1
  rcases numErr_cases len at' n with h | h | ⟨h, at0, wd, rfl, rfl, hw, hat⟩
  · refine (get_err a len cap at' n w (by unfold maxLen; omega) ha (by rw [h]; rfl)).mono ?_
    rintro e w' ⟨rfl, rfl⟩
    exact ⟨ret_two (by unfold getVal; rw [hlen, h, if_neg (by omega)]) rfl, Below.refl _ _⟩
  · refine (get_err a len cap at' n w (by unfold maxLen; omega) ha (by rw [h]; rfl)).mono ?_
    rintro e w' ⟨rfl, rfl⟩
    exact ⟨ret_two (by unfold getVal; rw [hlen, h, if_neg (by omega)]) rfl, Below.refl _ _⟩
  · obtain ⟨b, off, rfl, _, _⟩ := hr.2.2.2.2 (by omega)
    refine (callsIn_wide.1 (get_ok b off len cap wd at0 zs w hr hw hat)).mono ?_
    rintro e w' ⟨rfl, hb⟩
    exact ⟨ret_two (by unfold getVal; rw [hlen, h, if_pos rfl, Int.toNat_natCast, Int.toNat_natCast]) h.symm, hb⟩

end Go.Proofs.Ytmdkcoenjadieaa
