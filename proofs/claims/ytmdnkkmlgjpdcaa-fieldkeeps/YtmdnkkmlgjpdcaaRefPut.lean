/- The contract of the document's Put. -/
import Derived.Test.YtmdnkkmlgjpdcaaRefGet
import Derived.Test.YtmdnkkmlgjpdcaaPutAll
namespace Go.Proofs.Ytmdnkkmlgjpdcaa
open Go.RowKit Go.Shelf
set_option linter.unusedVariables false

/-- Block g is a row of the call's own whose first len cells are these bytes. -/
def Owns (w : World) (g len : Nat) (zs : List Int) : Prop := zs.length = len ∧ ∃ cur, w.heap[g]? = some (.cells cur 5 (0, 0)) ∧ cur.toList.take len = zs.map (Value.int .u8)
theorem Owns.lt {w : World} {g len : Nat} {zs : List Int} (h : Owns w g len zs) : g < w.heap.size := by obtain ⟨_, cur, hg, _⟩ := h; exact (Array.getElem?_eq_some_iff.1 hg).1
theorem Owns.cell {w : World} {g len : Nat} {zs : List Int} (h : Owns w g len zs) {i : Nat} (hi : i < len) : w.cell? ⟨g, i, none⟩ = some (.int .u8 (zs[i]?.getD 0)) := by
  obtain ⟨hl, cur, hg, ht⟩ := h
  have h1 : (cur.toList.take len)[i]? = some (.int .u8 (zs[i]?.getD 0)) := by
    rw [ht, List.getElem?_map, List.getElem?_eq_getElem (by omega)]; rfl
  rw [List.getElem?_take_of_lt hi] at h1
  simp only [World.cell?, hg]
  simpa using h1
theorem Owns.free {w : World} {g len : Nat} {zs : List Int} (h : Owns w g len zs) (i : Nat) : w.frozen? ⟨g, i, none⟩ = false := by
  obtain ⟨_, cur, hg, _⟩ := h
  simp [World.frozen?, hg]
theorem Owns.set {w : World} {g len : Nat} {zs : List Int} (h : Owns w g len zs) (i : Nat) (z : Int) : Owns (w.setCell ⟨g, i, none⟩ (.int .u8 z)) g len (zs.set i z) := by
  obtain ⟨hl, cur, hg, ht⟩ := h
  refine ⟨by simp [hl], _, by rw [setCell_eq_setRow w g i _ 5 (0, 0) _ hg]; exact setRow_heap w g _ _ 5 _ hg, ?_⟩
  rw [Array.toList_setIfInBounds, List.take_set, ht, List.map_set]
theorem Owns.has {w : World} {g len : Nat} {zs : List Int} (h : Owns w g len zs) : Has w (some ⟨g, 0, none⟩) len zs :=
  ⟨h.1, fun _ => ⟨g, 0, rfl, fun j hj => by rw [Nat.zero_add]; exact h.cell hj⟩⟩
theorem Owns.below {w w' : World} {g len n : Nat} {zs : List Int} (h : Owns w g len zs) (hb : Below n w w') (hg : g < n) : Owns w' g len zs := by
  obtain ⟨hl, cur, hh, ht⟩ := h
  exact ⟨hl, cur, (hb.block g hg).trans hh, ht⟩
theorem owns_of_row {w : World} {base g len cap : Nat} {zs : List Int} (h : w.ownsRow base 5 1 (.slice (some ⟨g, 0, none⟩) len cap) len (zs.map (Value.int .u8))) : base ≤ g ∧ Owns w g len zs := by
  obtain ⟨h1, h2⟩ := h
  rcases h2 with ⟨h2, _⟩ | ⟨g', cap', cur, e, hb, hh, _, _, _, ht⟩
  · cases h2
  · cases e
    exact ⟨hb, by simpa using h1, cur, hh, by simpa using ht⟩

theorem digits_succ (k : Nat) : ∀ v : Int, digits (k + 1) v = digits k v ++ [v / 256 ^ k % 256] := by
  induction k with
  | zero => intro v; simp [digits]
  | succ k ih =>
    intro v
    rw [digits, ih, digits, Int.ediv_ediv_of_nonneg (by omega), Int.pow_succ, Int.mul_comm]
    rfl
theorem put_digits_succ (zs : List Int) (at' k : Nat) (v : Int) (h : at' + k < zs.length) : put zs at' (digits (k + 1) v) = (put zs at' (digits k v)).set (at' + k) (v / 256 ^ k % 256) := by
  have hl := length_digits k v
  have h1 : (zs.take at' ++ digits k v).length = at' + k := by rw [List.length_append, hl]; simp; omega
  have hd : zs.drop (at' + k) = zs[at' + k] :: zs.drop (at' + k + 1) := List.drop_eq_getElem_cons h
  rw [put, put, digits_succ, hl, List.set_append_right _ _ (by omega), h1, Nat.sub_self, hd, List.set_cons_zero]
  simp [hl, Nat.add_assoc]

/-- What an append to a new empty slice leaves. -/
theorem grown_own {w w1 : World} {v' : Value} {len : Nat} {zs : List Int} (hp : 0 < len) (h : w1.ownsRow w.heap.size 5 1 v' (0 + len) ([] ++ zs.map (Value.int .u8))) (hg : (w.alloc (.cells #[] 5)).grownBy w1 (some w.heap.size)) :
    ∃ g cap, v' = .slice (some ⟨g, 0, none⟩) len cap ∧ w.heap.size ≤ g ∧ Owns w1 g len zs ∧ Below w.heap.size w w1 := by
  rw [Nat.zero_add, List.nil_append] at h
  have hb : Below w.heap.size w w1 := ((Below.refl _ w).alloc (Nat.le_refl _) _).grown hg (by simp) (fun k e => by cases e; exact Nat.le_refl _)
  rcases h.2 with ⟨_, h0⟩ | ⟨g, cap, cur, rfl, _⟩
  · omega
  · have := owns_of_row h
    exact ⟨g, cap, rfl, this.1, this.2, hb⟩

theorem own_empty (w : World) : (w.alloc (.cells #[] 5)).ownsRow w.heap.size 5 1 (.slice (some ⟨w.heap.size, 0, none⟩) 0 0) 0 [] :=
  ⟨rfl, .inr ⟨w.heap.size, 0, #[], rfl, Nat.le_refl _, World.alloc_heap_new w _, Nat.le_refl _, by unfold maxLen; omega, rfl, rfl⟩⟩

theorem own_base (w : World) : w.heap.size ≤ (w.alloc (.cells #[] 5)).heap.size := by simp

theorem news_row {w : World} {b off len : Nat} {zs : List Int} (hlen : zs.length = len) (hbl : b < w.heap.size) (hcs : ∀ j, j < len → w.cell? ⟨b, off + j, none⟩ = some (.int .u8 (zs[j]?.getD 0))) (o : Obj) :
    ∀ (j : Nat) (u : Value), (zs.map (Value.int .u8))[j]? = some u → (w.alloc o).cell? ((⟨b, off, none⟩ : Addr).add j) = some u := by
  intro j u hv
  rw [World.add_zero_spot, ((Below.refl _ w).alloc (Nat.le_refl _) o).cell (p := ⟨b, off + j, none⟩) hbl]
  have hj : j < zs.length := by
    have := (List.getElem?_eq_some_iff.1 hv).1
    simpa using this
  rw [hcs j (by omega)]
  rw [List.getElem?_map, List.getElem?_eq_getElem hj] at hv
  rw [List.getElem?_eq_getElem hj]
  simpa using hv

set_option maxRecDepth 100000 in
set_option maxHeartbeats 2000000 in
theorem refPut_ok (b off len cap wd at0 : Nat) (v : Int) (zs : List Int) (w : World) (hr : Row w.heap.size w (some ⟨b, off, none⟩) len cap zs) (hw : wd = 1 ∨ wd = 2 ∨ wd = 4) (hat : at0 + wd ≤ len) (h0 : 0 ≤ v) (h1 : v < 256 ^ wd) :
    Calls Try.prog 12 #[.slice (some ⟨b, off, none⟩) len cap, .int .i64 (at0 : Int), .int .i64 (wd : Int), .int .i64 v] w fun e w' =>
      ∃ g cap', e = .returned (.tuple #[.slice (some ⟨g, 0, none⟩) len cap', .int .i64 0]) ∧ w.heap.size ≤ g ∧ Owns w' g len (put zs at0 (digits wd v)) ∧ Below w.heap.size w w' := by
  have hr0 := hr
  obtain ⟨hlen, hlc, hcm, hby, hcell⟩ := hr
  obtain ⟨b', off', e, hbl, hcs⟩ := hcell (by omega)
  cases e
  have hget : ∀ w1, w1 = w → Calls Try.prog 10 #[.slice (some ⟨b, off, none⟩) len cap, .int .i64 (at0 : Int), .int .i64 (wd : Int)] w1 fun e w' => (∃ u, e = .returned (.tuple #[.int .i64 u, .int .i64 0])) ∧ w = w' := by
    rintro w1 rfl
    refine (refGet_ok b off len cap wd at0 zs w1 hr0 hw hat).mono ?_
    rintro e w' ⟨rfl, rfl⟩
    exact ⟨⟨_, rfl⟩, rfl⟩
  have hpow : ∀ k, k < wd → (256 : Int) ^ k ≤ 16777216 := by
    intro k hk
    have h3 : k ≤ 3 := by omega
    have : (256 : Int) ^ k ≤ 256 ^ 3 := by exact_mod_cast Nat.pow_le_pow_right (by omega) h3
    omega
  have hpos : ∀ k, (0 : Int) < 256 ^ k := fun k => Int.pow_pos (by omega)
  obtain ⟨i0, hi, hz0, hz1, hz2⟩ := info_parts info5
  have hw1 : 1 ≤ wd := by omega
  have hw4 : wd ≤ 4 := by omega
  have HP := hide hpow
  have HQ := hide hpos
  have HG := hide hget
  have H1 := hide h1
  have HC := hide hcs
  have HI := hide (⟨hi, hz0, hz1, hz2⟩ : Try.prog.info? 5 = some i0 ∧ i0.zero = some (.int .u8 0) ∧ i0.size = 1 ∧ i0.bytes = 1)
  clear hpow hpos hget h1 hr0 hcell hcs hi hz0 hz1 hz2 hw hby
  go_enter Try.func12, Try.ntmps12
  go_wp2_with (go_at_call 10; refine (unhide HG _ rfl).mono ?_; rintro e w' ⟨⟨u, rfl⟩, rfl⟩)
  go_loop [12, 13] (fun t i => ∃ k : Nat, 1 ≤ k ∧ k ≤ wd ∧ i = .int .i64 k ∧ t = .int .i64 (256 ^ k)) (fun _ i => wd - (intOf i).toNat)
  case atStart => exact ⟨1, by omega, hw1, rfl, rfl⟩
  case round =>
    obtain ⟨k, hk1, hk, rfl, rfl⟩ := hrel
    by_cases hlt : k < wd
    · have hp := unhide HP k hlt
      have hp0 := unhide HQ k
      go_wp2
      exact ⟨⟨k + 1, by omega, by omega, by go_num, val_int (by rw [Int.pow_succ])⟩, by simp [intOf]; omega⟩
    · obtain rfl : k = wd := by omega
      have hvb : v ≤ 4294967295 := by
        have h := unhide H1
        have : (256 : Int) ^ k ≤ 256 ^ 4 := by exact_mod_cast Nat.pow_le_pow_right (by omega) hw4
        omega
      have d1 : decide (v < 0) = false := by simp; omega
      have d2 : decide ((256 : Int) ^ k ≤ v) = false := by have := unhide H1; simp; omega
      have hml : (zs.map (Value.int .u8)).length = len * 1 := by simp [hlen]
      have HM := hide hml
      have HB : Hid (0 + len ≤ maxLen) := by show 0 + len ≤ maxLen; unfold maxLen; omega
      have HY : Hid ((0 + len) * 1 ≤ 140737488355328) := by show (0 + len) * 1 ≤ 140737488355328; omega
      have HN := hide (news_row hlen hbl (unhide HC) (.cells #[] 5))
      clear hml
      have hlp : 0 < len := by omega
      go_wp2_with (at_builtin; refine wpList_append_own _ rfl _ _ 22 rfl w.heap.size 5 i0 (.int .u8 0) 1 1 Try.underlying22 (unhide HI).1 (unhide HI).2.1 (unhide HI).2.2.1 (unhide HI).2.2.2 rfl (by decide) _ 0 [] rfl (own_empty w) ⟨b, off, none⟩ len cap (zs.map (Value.int .u8)) rfl (unhide HM) (unhide HN) (oneCell_bytes zs) (unhide HB) (unhide HY) (own_base w) ?_; intro v' w1 hown' hgrow _; obtain ⟨g, cap', rfl, hgl, hO, hb1⟩ := grown_own hlp hown' hgrow; clear hown' hgrow)
      have HO := hide hO
      clear hO HG HN HM HB HY HI HC d1 d2
      go_loopw [3, 15] (fun x i wr => ∃ (q : Nat) (u : Int), q ≤ k ∧ i = .int .i64 q ∧ x = .int .i64 u ∧ Hid (u = v / 256 ^ q) ∧ 0 ≤ u ∧ u ≤ 4294967295 ∧ Owns wr g len (put zs at0 (digits q v)) ∧ Below w.heap.size w wr) (fun _ i _ => k - (intOf i).toNat)
      case atStart => exact ⟨0, v, Nat.zero_le _, rfl, rfl, (by show v = v / 256 ^ 0; simp), h0, hvb, by have h := unhide HO; rwa [show put zs at0 (digits 0 v) = zs by simp [put, digits]], hb1⟩
      case round =>
        obtain ⟨q, u', hq, rfl, rfl, hu, hu0, hu1, hOr, hbr⟩ := hrel
        by_cases hlt2 : q < k
        · have hcg := hOr.cell (i := at0 + q) (by omega)
          have hfg := hOr.free (at0 + q)
          have hset := hOr.set (at0 + q) (u' % 256)
          have hwrap : IntKind.u8.wrap (u' % 256) = u' % 256 := by rw [IntKind.wrap_u8']; omega
          have HS : Hid (Owns (wr.setCell ⟨g, at0 + q, none⟩ (.int .u8 (u' % 256))) g len (put zs at0 (digits (q + 1) v))) := by
            have e := put_digits_succ zs at0 q v (by omega)
            rw [← hu.out] at e
            rw [e]; exact hset
          have HU : Hid (u' / 256 = v / 256 ^ (q + 1)) := by
            show u' / 256 = v / 256 ^ (q + 1)
            rw [hu.out, Int.ediv_ediv_of_nonneg (Int.le_of_lt (unhide HQ q)), Int.pow_succ]
          clear hset hOr hu
          go_wp2
          exact ⟨⟨q + 1, _, by omega, by go_num, rfl, HU, by omega, by omega, unhide HS, hbr.setCell (p := ⟨g, at0 + q, none⟩) hgl _⟩, by simp [intOf]; omega⟩
        · obtain rfl : q = k := by omega
          go_wp2
          go_ret2
          exact ⟨g, cap', rfl, hgl, hOr, hbr⟩

set_option maxRecDepth 100000 in
set_option maxHeartbeats 1000000 in
theorem refPut_err (a : Option Addr) (len cap : Nat) (zs : List Int) (at' n v : Int) (w : World) (hr : Row w.heap.size w a len cap zs) (ha : at' ≤ 9223372036854775807) (he : numErr len at' n ≠ 0) :
    Calls Try.prog 12 #[.slice a len cap, .int .i64 at', .int .i64 n, .int .i64 v] w fun e w' => e = .returned (.tuple #[.slice none 0 0, .int .i64 (numErr len at' n)]) ∧ w = w' := by
  have hg := refGet_any a len cap zs at' n w hr ha
  obtain ⟨q, hq⟩ : ∃ q, numErr len at' n = q := ⟨_, rfl⟩
  rw [hq] at hg he ⊢
  clear hq
  have hne : (q != 0) = true := by simpa using he
  have HG := hide hg
  clear hg he hr
  go_enter Try.func12, Try.ntmps12
  go_wp2_with (go_at_call 10; refine (unhide HG).mono ?_; rintro e w' ⟨rfl, rfl⟩)
  go_ret2
  exact ⟨rfl, rfl⟩

set_option maxRecDepth 100000 in
set_option maxHeartbeats 1000000 in
theorem refPut_val (b off len cap wd at0 : Nat) (v : Int) (zs : List Int) (w : World) (hr : Row w.heap.size w (some ⟨b, off, none⟩) len cap zs) (hw : wd = 1 ∨ wd = 2 ∨ wd = 4) (hat : at0 + wd ≤ len) (hv : v < 0 ∨ 256 ^ wd ≤ v) :
    Calls Try.prog 12 #[.slice (some ⟨b, off, none⟩) len cap, .int .i64 (at0 : Int), .int .i64 (wd : Int), .int .i64 v] w fun e w' => e = .returned (.tuple #[.slice none 0 0, .int .i64 3]) ∧ w = w' := by
  have hget : ∀ w1, w1 = w → Calls Try.prog 10 #[.slice (some ⟨b, off, none⟩) len cap, .int .i64 (at0 : Int), .int .i64 (wd : Int)] w1 fun e w' => (∃ u, e = .returned (.tuple #[.int .i64 u, .int .i64 0])) ∧ w = w' := by
    rintro w1 rfl
    refine (refGet_ok b off len cap wd at0 zs w1 hr hw hat).mono ?_
    rintro e w' ⟨rfl, rfl⟩
    exact ⟨⟨_, rfl⟩, rfl⟩
  have hpow : ∀ k, k < wd → (256 : Int) ^ k ≤ 16777216 := by
    intro k hk
    have h3 : k ≤ 3 := by omega
    have : (256 : Int) ^ k ≤ 256 ^ 3 := by exact_mod_cast Nat.pow_le_pow_right (by omega) h3
    omega
  have hpos : ∀ k, (0 : Int) < 256 ^ k := fun k => Int.pow_pos (by omega)
  have hw1 : 1 ≤ wd := by omega
  have hw4 : wd ≤ 4 := by omega
  have HP := hide hpow
  have HQ := hide hpos
  have HG := hide hget
  have HV := hide hv
  clear hpow hpos hget hr hw hv
  go_enter Try.func12, Try.ntmps12
  go_wp2_with (go_at_call 10; refine (unhide HG _ rfl).mono ?_; rintro e w' ⟨⟨u, rfl⟩, rfl⟩)
  go_loop [12, 13] (fun t i => ∃ k : Nat, 1 ≤ k ∧ k ≤ wd ∧ i = .int .i64 k ∧ t = .int .i64 (256 ^ k)) (fun _ i => wd - (intOf i).toNat)
  case atStart => exact ⟨1, by omega, hw1, rfl, rfl⟩
  case round =>
    obtain ⟨k, hk1, hk, rfl, rfl⟩ := hrel
    by_cases hlt : k < wd
    · have hp := unhide HP k hlt
      have hp0 := unhide HQ k
      go_wp2
      exact ⟨⟨k + 1, by omega, by omega, by go_num, val_int (by rw [Int.pow_succ])⟩, by simp [intOf]; omega⟩
    · obtain rfl : k = wd := by omega
      by_cases hv0 : v < 0
      · have d1 : decide (v < 0) = true := by simp; omega
        go_wp2_with fail
        go_ret2
        exact ⟨rfl, rfl⟩
      · have d1 : decide (v < 0) = false := by simp; omega
        have d2 : decide ((256 : Int) ^ k ≤ v) = true := by have := unhide HV; simp; omega
        go_wp2_with fail
        go_ret2
        exact ⟨rfl, rfl⟩

/-- **The document's Put.** -/
theorem refPut_any (a : Option Addr) (len cap : Nat) (zs : List Int) (at' n v : Int) (w : World) (hr : Row w.heap.size w a len cap zs) (ha : at' ≤ 9223372036854775807) :
    Calls Try.prog 12 #[.slice a len cap, .int .i64 at', .int .i64 n, .int .i64 v] w fun e w' => Below w.heap.size w w' ∧
      ((putErr len at' n v ≠ 0 ∧ e = .returned (.tuple #[.slice none 0 0, .int .i64 (putErr len at' n v)])) ∨
       (putErr len at' n v = 0 ∧ ∃ g cap', e = .returned (.tuple #[.slice (some ⟨g, 0, none⟩) len cap', .int .i64 0]) ∧ w.heap.size ≤ g ∧ Owns w' g len (put zs at'.toNat (digits n.toNat v)))) := by
  have hlen := hr.1
  have hcap := hr.2.2.1
  have hlc := hr.2.1
  rcases numErr_cases len at' n with h | h | ⟨h, at0, wd, rfl, rfl, hw, hat⟩
  · refine (refPut_err a len cap zs at' n v w hr ha (by omega)).mono ?_
    rintro e w' ⟨rfl, rfl⟩
    have : putErr len at' n v = 1 := by unfold putErr; rw [h, if_neg (by omega)]
    exact ⟨Below.refl _ _, .inl ⟨by omega, ret_put (by omega)⟩⟩
  · refine (refPut_err a len cap zs at' n v w hr ha (by omega)).mono ?_
    rintro e w' ⟨rfl, rfl⟩
    have : putErr len at' n v = 2 := by unfold putErr; rw [h, if_neg (by omega)]
    exact ⟨Below.refl _ _, .inl ⟨by omega, ret_put (by omega)⟩⟩
  · obtain ⟨b, off, rfl, _, _⟩ := hr.2.2.2.2 (by omega)
    by_cases hv : v < 0 ∨ 256 ^ wd ≤ v
    · refine (refPut_val b off len cap wd at0 v zs w hr hw hat hv).mono ?_
      rintro e w' ⟨rfl, rfl⟩
      have : putErr len at0 wd v = 3 := by
        unfold putErr
        rw [if_pos h, Int.toNat_natCast]
        by_cases h0 : v < 0
        · rw [if_pos h0]
        · rw [if_neg h0, if_neg (by omega)]
      exact ⟨Below.refl _ _, .inl ⟨by omega, ret_put (by omega)⟩⟩
    · have : putErr len at0 wd v = 0 := by
        unfold putErr
        rw [if_pos h, Int.toNat_natCast, if_neg (by omega), if_pos (by omega)]
      refine (refPut_ok b off len cap wd at0 v zs w hr hw hat (by omega) (by omega)).mono ?_
      rintro e w' ⟨g, cap', rfl, hg, hB, hb⟩
      exact ⟨hb, .inr ⟨this, g, cap', rfl, hg, by rw [Int.toNat_natCast, Int.toNat_natCast]; exact hB⟩⟩

end Go.Proofs.Ytmdnkkmlgjpdcaa
