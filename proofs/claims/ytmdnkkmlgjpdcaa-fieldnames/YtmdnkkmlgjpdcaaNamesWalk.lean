/- FieldNames' walk. -/
import Derived.Test.YtmdnkkmlgjpdcaaTextWalk
import Derived.Deep.QuietTactic
import Derived.BigQuiet
namespace Go.Proofs.Ytmdnkkmlgjpdcaa
open Go.RowKit Go.Shelf
set_option linter.unusedVariables false

theorem lead_zeros (l : List Int) (m : Nat) (h : ∀ z ∈ l, isz z = false) : lead isz (l ++ List.replicate m 0) = l.length := by
  induction l with
  | nil =>
    cases m with
    | zero => rfl
    | succ m => simp [List.replicate_succ, lead, isz]
  | cons c r ih =>
    rw [List.cons_append, lead, if_neg (by simp [h c (by simp)]), ih (fun z hz => h z (by simp [hz]))]
    simp
theorem lead_replicate (m : Nat) : lead nz (List.replicate m 0) = m := by
  induction m with
  | zero => rfl
  | succ m ih => rw [List.replicate_succ, lead, if_neg (by simp [nz]), ih]
theorem no_zero_of (p : Int → Bool) (l : List Int) (h : lead p l = l.length) : ∀ z ∈ l, p z = false := by
  induction l with
  | nil => simp
  | cons c r ih =>
    simp only [lead, List.length_cons] at h
    by_cases hc : p c = true
    · rw [if_pos hc] at h; omega
    · rw [if_neg hc] at h
      intro z hz
      rcases List.mem_cons.1 hz with rfl | hz
      · simpa using hc
      · exact ih (by omega) z hz

/-- What PutText has written Text reads. -/
theorem textVal_put (zs : List Int) (at0 n0 : Nat) (s : ByteArray) (hat : at0 + n0 ≤ zs.length) (hs : s.size ≤ n0) (hz : hasZ s = false) :
    textErr (put zs at0 (ptData n0 s)) at0 n0 = 0 ∧ textVal (put zs at0 (ptData n0 s)) at0 n0 = s := by
  have hl := ptData_length hs
  have hp : partOf (put zs at0 (ptData n0 s)) at0 n0 = ptData n0 s := by
    unfold partOf
    rw [Int.toNat_natCast, Int.toNat_natCast]
    have := part_put zs at0 (ptData n0 s) (by omega)
    rwa [hl] at this
  have h0 : partErr (put zs at0 (ptData n0 s)).length at0 n0 = 0 := by
    rw [length_put _ _ _ (by omega)]; exact partErr_ok (by omega) (by omega) (by omega)
  have hlead : lead isz (byts s) = (byts s).length := by
    have h1 : ¬ lead isz (byts s) < s.size := of_decide_eq_false hz
    have h2 := lead_le isz (byts s)
    have h3 := byts_length s
    omega
  have hk : lead isz (ptData n0 s) = s.size := by
    rw [ptData, lead_zeros _ _ (no_zero_of isz _ hlead), byts_length]
  have hd : (ptData n0 s).drop s.size = List.replicate (n0 - s.size) 0 := by
    rw [ptData, List.drop_append_of_le_length (by rw [byts_length]; omega), List.drop_of_length_le (by rw [byts_length]; omega), List.nil_append]
  have ht : (ptData n0 s).take s.size = byts s := by
    rw [ptData, List.take_append_of_le_length (by rw [byts_length]; omega), List.take_of_length_le (by rw [byts_length]; omega)]
  have hzb : zeroB ((ptData n0 s).drop (lead isz (ptData n0 s))) = true := by
    rw [hk, hd]; unfold zeroB; rw [lead_replicate, List.length_replicate]; simp
  have he : textErr (put zs at0 (ptData n0 s)) at0 n0 = 0 := by
    unfold textErr; rw [hp, if_pos h0, if_pos hzb]
  refine ⟨he, ?_⟩
  unfold textVal
  rw [he, if_pos rfl, hp, hk, ht, strOfNums_byts]

theorem put_over (zs D E : List Int) (at0 : Nat) (hl : D.length = E.length) (h : at0 + D.length ≤ zs.length) : put (put zs at0 D) at0 E = put zs at0 E := by
  have h1 : (zs.take at0).length = at0 := by simp; omega
  have e1 : (put zs at0 D).take at0 = zs.take at0 := by
    rw [put, List.append_assoc, List.take_append_of_le_length (by omega), List.take_of_length_le (by omega)]
  have e2 : (put zs at0 D).drop (at0 + E.length) = zs.drop (at0 + E.length) := by
    have h2 : (zs.take at0 ++ D).length = at0 + E.length := by rw [List.length_append, h1, hl]
    rw [put, List.drop_append, List.drop_of_length_le (by omega), List.nil_append, h2, Nat.sub_self, List.drop_zero, hl]
  rw [put, e1, e2, put]

set_option maxRecDepth 100000 in
set_option maxHeartbeats 1000000 in
theorem names_bad (a : Option Addr) (len cap : Nat) (zs : List Int) (at' n : Int) (s t : ByteArray) (w : World) (hr : Row w.heap.size w a len cap zs) (ha : at' ≤ 9223372036854775807) (hn : -9223372036854775808 ≤ n) (hs0 : s.size ≤ 140737488351232) (h0 : ptErr len at' n s ≠ 0) :
    Calls Try.prog 6 #[.slice a len cap, .int .i64 at', .int .i64 n, .string s, .string t] w fun e w' => e = .returned (.bool true) ∧ Below w.heap.size w w' := by
  obtain ⟨q, hq⟩ : ∃ q, ptErr len at' n s = q := ⟨_, rfl⟩
  rw [hq] at h0
  have K3 : Hid (∀ w1, Below w.heap.size w w1 → Calls Try.prog 16 #[.slice a len cap, .int .i64 at', .int .i64 n, .string s] w1 fun e w' =>
      e = .returned (.tuple #[.slice none 0 0, .int .i64 q]) ∧ Below w.heap.size w w') := by
    intro w1 hb
    refine (putText_bad' _ len cap zs at' n s q w1 (hr.below hb hb.size) ha hn hs0 hq h0).mono ?_
    rintro e w' ⟨rfl, hb'⟩
    exact ⟨rfl, hb.trans (hb'.mono hb.size)⟩
  have hne : (q != 0) = true := by simpa using h0
  clear hr hq h0
  go_enter Try.func6, Try.ntmps6
  go_wp2_with (first
    | (go_at_call 8; refine (wakes_any _).mono ?_; rintro e w1 ⟨rfl, hb1⟩)
    | (go_at_call 16; refine (unhide K3 _ hb1).mono ?_; rintro e w4 ⟨rfl, hb4⟩))
  go_ret
  exact ⟨rfl, hb4⟩

set_option maxRecDepth 100000 in
set_option maxHeartbeats 2000000 in
theorem names_good (a : Option Addr) (len cap at0 n0 : Nat) (zs : List Int) (s t : ByteArray) (w : World) (hr : Row w.heap.size w a len cap zs) (hat : at0 + n0 ≤ len) (hs : s.size ≤ n0) (hz : hasZ s = false) (hs0 : s.size ≤ 140737488351232) (ht0 : t.size ≤ 140737488351232) (h0 : ptErr len at0 n0 s = 0) :
    Calls Try.prog 6 #[.slice a len cap, .int .i64 (at0 : Int), .int .i64 (n0 : Int), .string s, .string t] w fun e w' => e = .returned (.bool true) ∧ Below w.heap.size w w' := by
  have hlen := hr.1
  have hlc := hr.2.1
  have hcm := hr.2.2.1
  have hby := hr.2.2.2.1
  obtain ⟨pt, hpt⟩ : ∃ pt, put zs at0 (ptData n0 s) = pt := ⟨_, rfl⟩
  have hpl : pt.length = len := by rw [← hpt, length_put _ _ _ (by rw [ptData_length hs, hlen]; exact hat), hlen]
  have hpb : ∀ z ∈ pt, 0 ≤ z ∧ z ≤ 255 := by rw [← hpt]; exact put_byte _ _ _ hby (ptData_byte _ _)
  have K1 : Hid (∀ w1, Below w.heap.size w w1 → Calls Try.prog 16 #[.slice a len cap, .int .i64 (at0 : Int), .int .i64 (n0 : Int), .string s] w1 fun e w' =>
      ∃ g, e = .returned (.tuple #[.slice (some ⟨g, 0, none⟩) len len, .int .i64 0]) ∧ Hid (w.heap.size ≤ g ∧ Block w' g pt) ∧ Below w.heap.size w w') := by
    intro w1 hb
    refine (putText_good _ len cap zs at0 n0 s w1 (hr.below hb hb.size) (by omega) (by omega) hs0 h0).mono ?_
    rintro e w' ⟨g, rfl, hg, hB, hb'⟩
    have := hb.size
    exact ⟨g, rfl, ⟨by omega, by rw [← hpt]; simpa using hB⟩, hb.trans (hb'.mono hb.size)⟩
  have hte := textVal_put zs at0 n0 s (by omega) hs hz
  rw [hpt] at hte
  have K2 : Hid (∀ g w1, Hid (w.heap.size ≤ g ∧ Block w1 g pt) → Calls Try.prog 14 #[.slice (some ⟨g, 0, none⟩) len len, .int .i64 (at0 : Int), .int .i64 (n0 : Int)] w1 fun e w' => e = .returned (.tuple #[.string s, .int .i64 0]) ∧ w1 = w') := by
    intro g w1 hB
    have := text_any (some ⟨g, 0, none⟩) len len pt at0 n0 w1 (hB.out.2.has hpl) (Nat.le_refl _) (by omega) (by omega) (by omega)
    rwa [hte.1, hte.2] at this
  have hother : ∀ k, k < len → (k < at0 ∨ at0 + n0 ≤ k) → pt[k]?.getD 0 = zs[k]?.getD 0 := by
    intro k hk ho
    rw [← hpt, put_other _ _ _ _ (by rw [ptData_length hs]; omega) (by rw [ptData_length hs]; exact ho)]
  have HO := hide hother
  have HLP := hide hpl
  have HC := hide (fun hp => hr.2.2.2.2 hp)
  obtain ⟨q, hq⟩ : ∃ q, ptErr len at0 n0 t = q := ⟨_, rfl⟩
  -- the second text, over the first one and over the bytes as they were
  have K3 : Hid (∀ g w1, Hid (w.heap.size ≤ g ∧ Block w1 g pt) → Below w.heap.size w w1 → Calls Try.prog 16 #[.slice (some ⟨g, 0, none⟩) len len, .int .i64 (at0 : Int), .int .i64 (n0 : Int), .string t] w1 fun e w' =>
      ∃ a' l' c', e = .returned (.tuple #[.slice a' l' c', .int .i64 q]) ∧ Hid ((q ≠ 0 → a' = none ∧ l' = 0) ∧ (q = 0 → l' = len ∧ ∃ g', a' = some ⟨g', 0, none⟩ ∧ Block w' g' (put zs at0 (ptData n0 t)))) ∧ Below w.heap.size w w') := by
    intro g w1 hB hb
    have hrow := hB.out.2.row (len := len) hpl (by omega) hpb
    refine (putText_any (some ⟨g, 0, none⟩) len len pt at0 n0 t w1 hrow (by omega) (by omega) ht0).mono ?_
    rw [hq]
    rintro e w' ⟨hb', ⟨h, rfl⟩ | ⟨h, rfl, hBl⟩⟩
    · exact ⟨none, 0, 0, rfl, ⟨fun _ => ⟨rfl, rfl⟩, fun hx => absurd hx h⟩, hb.trans (hb'.mono hb.size)⟩
    · refine ⟨_, len, len, ret_put h.symm, ⟨fun hx => absurd h hx, fun _ => ⟨rfl, w1.heap.size, rfl, ?_⟩⟩, hb.trans (hb'.mono hb.size)⟩
      obtain ⟨at1, n1, e1, e2, _, hts, _⟩ := ptErr_zero (hq.trans h)
      have : n1 = n0 := by omega
      subst this
      rw [Int.toNat_natCast, Int.toNat_natCast, ← hpt, put_over _ _ _ _ (by rw [ptData_length hs, ptData_length hts]) (by rw [ptData_length hs]; omega)] at hBl
      exact hBl
  have K4 : Hid (∀ a' l' w1, Hid ((q ≠ 0 → a' = none ∧ l' = 0) ∧ (q = 0 → l' = len ∧ ∃ g', a' = some ⟨g', 0, none⟩ ∧ Block w1 g' (put zs at0 (ptData n0 t)))) → Below w.heap.size w w1 →
      Calls Try.prog 16 #[.slice a len cap, .int .i64 (at0 : Int), .int .i64 (n0 : Int), .string t] w1 fun e w' =>
      ∃ a2 c2, e = .returned (.tuple #[.slice a2 l' c2, .int .i64 q]) ∧ Hid (∃ es, Has w' a' l' es ∧ Has w' a2 l' es) ∧ Below w.heap.size w w') := by
    intro a' l' w1 hB hb
    refine (putText_any a len cap zs at0 n0 t w1 (hr.below hb hb.size) (by omega) (by omega) ht0).mono ?_
    rw [hq]
    rintro e w' ⟨hb', ⟨h, rfl⟩ | ⟨h, rfl, hBl⟩⟩
    · obtain ⟨rfl, rfl⟩ := hB.out.1 h
      exact ⟨none, 0, rfl, ⟨[], Has.nil _, Has.nil _⟩, hb.trans (hb'.mono hb.size)⟩
    · obtain ⟨rfl, g', rfl, hBg⟩ := hB.out.2 h
      obtain ⟨at1, n1, e1, e2, _, hts, _⟩ := ptErr_zero (hq.trans h)
      have hn1 : n1 = n0 := by omega
      subst hn1
      have hl2 : (put zs at0 (ptData n1 t)).length = l' := by rw [length_put _ _ _ (by rw [ptData_length hts]; omega)]; exact hlen
      refine ⟨_, l', ret_put h.symm, ⟨_, (hBg.below hb' hBg.lt).has hl2, ?_⟩, hb.trans (hb'.mono hb.size)⟩
      rw [Int.toNat_natCast, Int.toNat_natCast] at hBl
      exact hBl.has hl2
  clear hr hpt hpl hpb hte hother hq hby hz h0
  go_enter Try.func6, Try.ntmps6
  go_wp2_with (first
    | (go_at_call 8; refine (wakes_any _).mono ?_; rintro e w1 ⟨rfl, hb1⟩)
    | (go_at_call 16; refine (unhide K1 _ hb1).mono ?_; rintro e w2 ⟨g, rfl, hB2, hb2⟩)
    | (go_at_call 14; refine (unhide K2 _ _ hB2).mono ?_; rintro e w3 ⟨rfl, rfl⟩))
  go_loopw [15] (fun i wr => ∃ k : Nat, k ≤ len ∧ i = .int .i64 k ∧ Below w2.heap.size w2 wr) (fun i _ => len - (intOf i).toNat)
  case atStart => exact ⟨0, Nat.zero_le _, rfl, Below.refl _ _⟩
  case round =>
    obtain ⟨k, hk, rfl, hbr⟩ := hrel
    have hgz := (unhide hB2).2.lt
    have hsz2 := hb2.size
    by_cases hlt : k < len
    · obtain ⟨b, off, e, hbl, hcs⟩ := unhide HC (by omega)
      subst e
      have hcb : wr.cell? ⟨b, off + k, none⟩ = some (.int .u8 (zs[k]?.getD 0)) := by
        rw [hbr.cell (p := ⟨b, off + k, none⟩) (by show b < _; omega), hb2.cell (p := ⟨b, off + k, none⟩) hbl]; exact hcs k hlt
      have hcg : wr.cell? ⟨g, k, none⟩ = some (.int .u8 (pt[k]?.getD 0)) := by
        rw [hbr.cell (p := ⟨g, k, none⟩) hgz]; exact (unhide hB2).2.cell (by rw [unhide HLP]; exact hlt)
      have hltI : (k : Int) < (len : Int) := by omega
      clear hcs
      by_cases hA : k < at0
      · have hd : decide ((k : Int) < (at0 : Int)) = true := by simpa using hA
        rw [unhide HO k hlt (.inl hA)] at hcg
        go_wp2
        go_quiet (fail)
        go_wp2
        exact ⟨⟨k + 1, by omega, by go_num, below_drewN hbr _⟩, by simp [intOf]; omega⟩
      · have hd : decide ((k : Int) < (at0 : Int)) = false := by simpa using hA
        by_cases hC : at0 + n0 ≤ k
        · have hd2 : decide ((n0 : Int) ≤ (k : Int) - (at0 : Int)) = true := by simp; omega
          rw [unhide HO k hlt (.inr hC)] at hcg
          go_wp2
          go_quiet (fail)
          go_wp2
          exact ⟨⟨k + 1, by omega, by go_num, below_drewN hbr _⟩, by simp [intOf]; omega⟩
        · have hd2 : decide ((n0 : Int) ≤ (k : Int) - (at0 : Int)) = false := by simp; omega
          go_wp2
          go_quiet (fail)
          go_wp2
          exact ⟨⟨k + 1, by omega, by go_num, below_drewN hbr _⟩, by simp [intOf]; omega⟩
    · obtain rfl : k = len := by omega
      have hB3 : Hid (w.heap.size ≤ g ∧ Block wr g pt) := ⟨(unhide hB2).1, (unhide hB2).2.below hbr hgz⟩
      have hb3 : Below w.heap.size w wr := hb2.trans (hbr.mono hsz2)
      go_wp2_with fail
      refine (unhide K3 _ _ hB3 hb3).mono ?_
      rintro e w4 ⟨a', l', c', rfl, hB4, hb4⟩
      go_wp2_with fail
      refine (unhide K4 _ _ _ hB4 hb4).mono ?_
      rintro e w5 ⟨a2, c2, rfl, hB5, hb5⟩
      go_wp2_with (go_at_call 13; obtain ⟨es, he1, he2⟩ := hB5.out; refine (same_true _ _ _ _ _ es _ he1 he2).mono ?_; rintro e w6 ⟨rfl, rfl⟩)
      go_ret
      exact ⟨rfl, hb5⟩

/-- **FieldNames returns true, and nothing that was there has turned.** -/
theorem names_walk (a : Option Addr) (len cap : Nat) (zs : List Int) (at' n : Int) (s t : ByteArray) (w : World) (hr : Row w.heap.size w a len cap zs) (ha : at' ≤ 9223372036854775807) (hn : -9223372036854775808 ≤ n) (hs0 : s.size ≤ 140737488351232) (ht0 : t.size ≤ 140737488351232) :
    Calls Try.prog 6 #[.slice a len cap, .int .i64 at', .int .i64 n, .string s, .string t] w fun e w' => e = .returned (.bool true) ∧ Below w.heap.size w w' := by
  by_cases h0 : ptErr len at' n s = 0
  · obtain ⟨at0, n0, rfl, rfl, hat, hs, hz⟩ := ptErr_zero h0
    exact names_good a len cap at0 n0 zs s t w hr hat hs hz hs0 ht0 h0
  · exact names_bad a len cap zs at' n s t w hr ha hn hs0 h0

end Go.Proofs.Ytmdnkkmlgjpdcaa
