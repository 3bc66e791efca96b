/- The contract of the document's PutText. -/
import Derived.Test.YtmdnkkmlgjpdcaaPutText
import Derived.Test.YtmdnkkmlgjpdcaaRefPut
namespace Go.Proofs.Ytmdnkkmlgjpdcaa
open Go.RowKit Go.Shelf
set_option linter.unusedVariables false

theorem put_take_succ (zs D : List Int) (at' k : Nat) (hk : k < D.length) (h : at' + D.length ≤ zs.length) : put zs at' (D.take (k + 1)) = (put zs at' (D.take k)).set (at' + k) (D[k]?.getD 0) := by
  have hl : (D.take k).length = k := by simp; omega
  have h1 : (zs.take at' ++ D.take k).length = at' + k := by rw [List.length_append, hl]; simp; omega
  have hd : zs.drop (at' + k) = zs[at' + k] :: zs.drop (at' + k + 1) := List.drop_eq_getElem_cons (by omega)
  have hl' : (D.take (k + 1)).length = k + 1 := by simp; omega
  rw [put, put, hl, hl', List.take_succ_eq_append_getElem hk, List.set_append_right _ _ (by omega), h1, Nat.sub_self, hd, List.set_cons_zero, List.getElem?_eq_getElem hk, Option.getD_some, Nat.add_assoc]
  simp only [List.append_assoc, List.singleton_append]

theorem span_ok (a : Option Addr) (len cap at0 n0 : Nat) (w : World) (hl : len ≤ 140737488351232) (hat : at0 + n0 ≤ len) :
    Calls Try.prog 31 #[.slice a len cap, .int .i64 (at0 : Int), .int .i64 (n0 : Int)] w fun e w' => e = .returned (.int .i64 0) ∧ w = w' := by
  refine (span_any a len cap at0 n0 w hl (by omega)).mono ?_
  rintro e w' ⟨rfl, rfl⟩
  exact ⟨ret_int (partErr_ok (by omega) (by omega) (by omega)), rfl⟩

set_option maxRecDepth 100000 in
set_option maxHeartbeats 1000000 in
theorem refPutText_err (a : Option Addr) (len cap : Nat) (at' n : Int) (s : ByteArray) (w : World) (hl : len ≤ 140737488351232) (ha : at' ≤ 9223372036854775807) (he : partErr len at' n ≠ 0) :
    Calls Try.prog 17 #[.slice a len cap, .int .i64 at', .int .i64 n, .string s] w fun e w' => e = .returned (.tuple #[.slice none 0 0, .int .i64 (partErr len at' n)]) ∧ w = w' := by
  have hc := span_any a len cap at' n w hl ha
  obtain ⟨q, hq⟩ : ∃ q, partErr len at' n = q := ⟨_, rfl⟩
  rw [hq] at hc he ⊢
  clear hq
  have hne : (q != 0) = true := by simpa using he
  have HC := hide hc
  clear hc he
  go_enter Try.func17, Try.ntmps17
  go_wp2_with (go_at_call 31; refine (unhide HC).mono ?_; rintro e w' ⟨rfl, rfl⟩)
  go_ret2
  exact ⟨rfl, rfl⟩

set_option maxRecDepth 100000 in
set_option maxHeartbeats 1000000 in
theorem refPutText_large (a : Option Addr) (len cap at0 n0 : Nat) (s : ByteArray) (w : World) (hl : len ≤ 140737488351232) (hs0 : s.size ≤ 140737488351232) (hat : at0 + n0 ≤ len) (h : n0 < s.size) :
    Calls Try.prog 17 #[.slice a len cap, .int .i64 (at0 : Int), .int .i64 (n0 : Int), .string s] w fun e w' => e = .returned (.tuple #[.slice none 0 0, .int .i64 5]) ∧ w = w' := by
  have K0 := hide (span_ok a len cap at0 n0 w hl hat)
  go_enter Try.func17, Try.ntmps17
  go_wp2_with (go_at_call 31; refine (unhide K0).mono ?_; rintro e w' ⟨rfl, rfl⟩)
  go_ret2
  exact ⟨rfl, rfl⟩

set_option maxRecDepth 100000 in
set_option maxHeartbeats 1000000 in
theorem refPutText_zero (a : Option Addr) (len cap at0 n0 : Nat) (s : ByteArray) (w : World) (hl : len ≤ 140737488351232) (hat : at0 + n0 ≤ len) (h : s.size ≤ n0) (hz : hasZ s = true) :
    Calls Try.prog 17 #[.slice a len cap, .int .i64 (at0 : Int), .int .i64 (n0 : Int), .string s] w fun e w' => e = .returned (.tuple #[.slice none 0 0, .int .i64 3]) ∧ w = w' := by
  have K0 := hide (span_ok a len cap at0 n0 w hl hat)
  have HL := hide (of_decide_eq_true hz : lead isz (byts s) < s.size)
  have HM := hide (fun k => lead_miss isz (byts s) k)
  have HG := hide (byts_get s)
  have HB := hide (byts_length s)
  clear hz
  go_enter Try.func17, Try.ntmps17
  go_wp2_with (go_at_call 31; refine (unhide K0).mono ?_; rintro e w' ⟨rfl, rfl⟩)
  go_loop [11] (fun i => ∃ k : Nat, k ≤ s.size ∧ Hid (k ≤ lead isz (byts s)) ∧ i = .int .i64 k) (fun i => s.size - (intOf i).toNat)
  case atStart => exact ⟨0, Nat.zero_le _, Nat.zero_le _, rfl⟩
  case round =>
    obtain ⟨k, hk, hle, rfl⟩ := hrel
    have hlt : k < s.size := by have := hle.out; have := unhide HL; omega
    by_cases hp : isz (s[k].toNat : Int) = true
    · have hb : ((s[k].toNat : Int) == 0) = true := hp
      go_wp2
      go_ret2
      exact ⟨rfl, rfl⟩
    · have hp' : isz (s[k].toNat : Int) = false := by simpa using hp
      have hb : ((s[k].toNat : Int) == 0) = false := hp'
      go_wp2
      exact ⟨⟨k + 1, by omega, unhide HM k hle.out (by rw [unhide HB]; exact hlt) (by rw [unhide HG k hlt]; exact hp'), by go_num⟩, by simp [intOf]; omega⟩

set_option maxRecDepth 100000 in
set_option maxHeartbeats 2000000 in
theorem refPutText_ok (b off len cap at0 n0 : Nat) (zs : List Int) (s : ByteArray) (w : World) (hr : Row w.heap.size w (some ⟨b, off, none⟩) len cap zs) (hp : 0 < len) (hat : at0 + n0 ≤ len) (hs : s.size ≤ n0) (hz : hasZ s = false) :
    Calls Try.prog 17 #[.slice (some ⟨b, off, none⟩) len cap, .int .i64 (at0 : Int), .int .i64 (n0 : Int), .string s] w fun e w' =>
      ∃ g cap', e = .returned (.tuple #[.slice (some ⟨g, 0, none⟩) len cap', .int .i64 0]) ∧ w.heap.size ≤ g ∧ Owns w' g len (put zs at0 (ptData n0 s)) ∧ Below w.heap.size w w' := by
  obtain ⟨hlen, hlc, hcm, hby, hcell⟩ := hr
  obtain ⟨b', off', e, hbl, hcs⟩ := hcell hp
  cases e
  have K0 := hide (span_ok (some ⟨b, off, none⟩) len cap at0 n0 w (by omega) hat)
  have HZ := hide (of_decide_eq_false hz : ¬ lead isz (byts s) < s.size)
  have HB := hide (byts_length s)
  have HL := hide (lead_le isz (byts s))
  have HH := hide (fun k => lead_hit isz (byts s) k)
  have HG := hide (byts_get s)
  obtain ⟨D, hD⟩ : ∃ D, ptData n0 s = D := ⟨_, rfl⟩
  have hDl : D.length = n0 := by rw [← hD]; exact ptData_length hs
  have hDs : ∀ k (h : k < s.size), D[k]?.getD 0 = (s[k].toNat : Int) := by
    intro k h; rw [← hD, ptData, List.getElem?_append_left (by rw [byts_length]; exact h)]; exact byts_get s k h
  have hDz : ∀ k, s.size ≤ k → D[k]?.getD 0 = 0 := by
    intro k h; rw [← hD, ptData, List.getElem?_append_right (by rw [byts_length]; exact h), List.getElem?_replicate]; split <;> rfl
  obtain ⟨i0, hi, hz0, hz1, hz2⟩ := info_parts info5
  have HI := hide (⟨hi, hz0, hz1, hz2⟩ : Try.prog.info? 5 = some i0 ∧ i0.zero = some (.int .u8 0) ∧ i0.size = 1 ∧ i0.bytes = 1)
  have HM : Hid ((zs.map (Value.int .u8)).length = len * 1) := by show (zs.map (Value.int .u8)).length = len * 1; simp [hlen]
  have HX : Hid (0 + len ≤ maxLen) := by show 0 + len ≤ maxLen; unfold maxLen; omega
  have HY : Hid ((0 + len) * 1 ≤ 140737488355328) := by show (0 + len) * 1 ≤ 140737488355328; omega
  have HN := hide (news_row hlen hbl hcs (.cells #[] 5))
  have HP := hide (fun k hk => put_take_succ zs D at0 k hk (by omega))
  have HDs := hide hDs
  have HDz := hide hDz
  rw [hD]
  clear hz hi hz0 hz1 hz2 hcs hcell hby hD hDs hDz
  go_enter Try.func17, Try.ntmps17
  go_wp2_with (go_at_call 31; refine (unhide K0).mono ?_; rintro e w' ⟨rfl, rfl⟩)
  go_loop [11] (fun i => ∃ k : Nat, k ≤ s.size ∧ i = .int .i64 k) (fun i => s.size - (intOf i).toNat)
  case atStart => exact ⟨0, Nat.zero_le _, rfl⟩
  case round =>
    obtain ⟨k, hk, rfl⟩ := hrel
    by_cases hlt : k < s.size
    · have hb : ((s[k].toNat : Int) == 0) = false := by
        have h1 := unhide HZ
        have h2 := unhide HB
        have h3 := unhide HL
        by_cases h : isz (s[k].toNat : Int) = true
        · have := unhide HH k (by omega) (by omega) (by rw [unhide HG k hlt]; exact h)
          omega
        · simpa [isz] using h
      go_wp2
      exact ⟨⟨k + 1, by omega, by go_num⟩, by simp [intOf]; omega⟩
    · obtain rfl : k = s.size := by omega
      go_wp2_with (at_builtin; refine wpList_append_own _ rfl _ _ 22 rfl w.heap.size 5 i0 (.int .u8 0) 1 1 Try.underlying22 (unhide HI).1 (unhide HI).2.1 (unhide HI).2.2.1 (unhide HI).2.2.2 rfl (by decide) _ 0 [] rfl (own_empty w) ⟨b, off, none⟩ len cap (zs.map (Value.int .u8)) rfl (unhide HM) (unhide HN) (oneCell_bytes zs) (unhide HX) (unhide HY) (own_base w) ?_; intro v' w1 hown' hgrow _; obtain ⟨g, cap', rfl, hgl, hO, hb1⟩ := grown_own hp hown' hgrow; clear hown' hgrow)
      have HO := hide hO
      clear hO HN HM HX HY HI HZ HB HL HH HG K0
      go_loopw [13] (fun i wr => ∃ q : Nat, q ≤ n0 ∧ i = .int .i64 q ∧ Owns wr g len (put zs at0 (D.take q)) ∧ Below w.heap.size w wr) (fun i _ => n0 - (intOf i).toNat)
      case atStart => exact ⟨0, Nat.zero_le _, rfl, by have h := unhide HO; rwa [show put zs at0 (D.take 0) = zs by simp [put]], hb1⟩
      case round =>
        obtain ⟨q, hq, rfl, hOr, hbr⟩ := hrel
        clear HO
        by_cases hlt2 : q < n0
        · have hcg := hOr.cell (i := at0 + q) (by omega)
          have hfg := hOr.free (at0 + q)
          have hset0 := hOr.set (at0 + q) 0
          by_cases hsz : q < s.size
          · have hset1 := hset0.set (at0 + q) (s[q].toNat : Int)
            have hcg2 := hset0.cell (i := at0 + q) (by omega)
            have hfg2 := hset0.free (at0 + q)
            rw [List.set_set, ← unhide HDs q hsz, ← unhide HP q (by omega)] at hset1
            rw [unhide HDs q hsz] at hset1
            have HS := hide hset1
            clear hset1 hset0 hOr
            go_wp2
            exact ⟨⟨q + 1, by omega, by go_num, unhide HS, (hbr.setCell (p := ⟨g, at0 + q, none⟩) hgl _).setCell (p := ⟨g, at0 + q, none⟩) hgl _⟩, by simp [intOf]; omega⟩
          · rw [← unhide HDz q (by omega), ← unhide HP q (by omega), unhide HDz q (by omega)] at hset0
            have HS := hide hset0
            clear hset0 hOr
            go_wp2
            exact ⟨⟨q + 1, by omega, by go_num, unhide HS, hbr.setCell (p := ⟨g, at0 + q, none⟩) hgl _⟩, by simp [intOf]; omega⟩
        · obtain rfl : q = n0 := by omega
          go_wp2
          go_ret2
          refine ⟨g, cap', rfl, hgl, ?_, hbr⟩
          rwa [List.take_of_length_le (by omega)] at hOr

theorem run_append_zero (w : World) (ty : TypeId) (g cap : Nat) (a : Option Addr) : (Builtin.append_ #[22, 22] ty #[.slice (some ⟨g, 0, none⟩) 0 0, .slice a 0 cap]).run Try.prog w = .ok (.slice (some ⟨g, 0, none⟩) 0 0) w := by
  obtain ⟨i0, hi, hz0, hz1, hz2⟩ := info_parts info5
  cases a <;> simp [Builtin.append_, run_underlying Try.underlying22, sizeOf, typeInfo, hi, Builtin.lenOf, Builtin.firstCells, storeCells, loadCells, loadCellsFrom]

theorem wpList_append_zero {w : World} {ops : Array Oper} {rest : List Oper} {o : Oper} {a : Act} {Q : Exit → Act → World → Prop} (hgd : o.guard = none) (d s : Operand)
    (ho : o.op = .call { callee := .builtin .append, args := #[d, s], argTypes := #[22, 22] }) (g cap : Nat) (ao : Option Addr) (hd : a.eval d = .slice (some ⟨g, 0, none⟩) 0 0) (hs : a.eval s = .slice ao 0 cap)
    (h : wpList Try.prog ops Q rest (a.put o.dst (.slice (some ⟨g, 0, none⟩) 0 0)) w) : wpList Try.prog ops Q (o :: rest) a w := by
  refine wpList_plain hgd fun K hK => ?_
  have hrun := run_append_zero w o.type g cap ao
  unfold Oper.wp
  simp [execOp, ho, resolve, invoke, builtin, hd, hs, hrun, Result.andThen]
  exact hK _ _ h

set_option maxRecDepth 100000 in
set_option maxHeartbeats 2000000 in
theorem refPutText_empty (a : Option Addr) (cap : Nat) (s : ByteArray) (w : World) (hcm : cap ≤ 281474976710656) (hs : s.size = 0) :
    Calls Try.prog 17 #[.slice a 0 cap, .int .i64 0, .int .i64 0, .string s] w fun e w' =>
      ∃ a' cap', e = .returned (.tuple #[.slice a' 0 cap', .int .i64 0]) ∧ Below w.heap.size w w' := by
  have K0 := hide (span_ok a 0 cap 0 0 w (by omega) (by omega))
  go_enter Try.func17, Try.ntmps17
  go_wp2_with (go_at_call 31; refine (unhide K0).mono ?_; rintro e w' ⟨rfl, rfl⟩)
  go_loop [11] (fun i => i = .int .i64 0) (fun i => 0)
  case atStart => rfl
  case round =>
    subst hrel
    go_wp2_with (at_builtin; refine wpList_append_zero rfl _ _ rfl w.heap.size cap a rfl rfl ?_)
    go_loopw [13] (fun i wr => i = .int .i64 0 ∧ Below w.heap.size w wr) (fun i _ => 0)
    case atStart => exact ⟨rfl, (Below.refl _ w).alloc (Nat.le_refl _) _⟩
    case round =>
      obtain ⟨rfl, hb⟩ := hrel
      go_wp2
      go_ret2
      exact ⟨_, _, rfl, hb⟩

/-- **The document's PutText.** -/
theorem refPutText_any (a : Option Addr) (len cap : Nat) (zs : List Int) (at' n : Int) (s : ByteArray) (w : World) (hr : Row w.heap.size w a len cap zs) (ha : at' ≤ 9223372036854775807) (hs0 : s.size ≤ 140737488351232) :
    Calls Try.prog 17 #[.slice a len cap, .int .i64 at', .int .i64 n, .string s] w fun e w' => Below w.heap.size w w' ∧
      ((ptErr len at' n s ≠ 0 ∧ e = .returned (.tuple #[.slice none 0 0, .int .i64 (ptErr len at' n s)])) ∨
       (ptErr len at' n s = 0 ∧ ∃ a' cap', e = .returned (.tuple #[.slice a' len cap', .int .i64 0]) ∧ Has w' a' len (put zs at'.toNat (ptData n.toNat s)))) := by
  have hlen := hr.1
  have hcap := hr.2.2.1
  have hlc := hr.2.1
  rcases ptErr_cases len at' n s with ⟨h, he⟩ | ⟨at0, n0, rfl, rfl, hat, h, (⟨h1, he⟩ | ⟨h1, h2, he⟩ | ⟨h1, h2, he⟩)⟩
  · refine (refPutText_err a len cap at' n s w (by omega) ha h).mono ?_
    rintro e w' ⟨rfl, rfl⟩
    exact ⟨Below.refl _ _, .inl ⟨by omega, ret_put (by omega)⟩⟩
  · refine (refPutText_large a len cap at0 n0 s w (by omega) hs0 hat h1).mono ?_
    rintro e w' ⟨rfl, rfl⟩
    exact ⟨Below.refl _ _, .inl ⟨by omega, ret_put (by omega)⟩⟩
  · refine (refPutText_zero a len cap at0 n0 s w (by omega) hat h1 h2).mono ?_
    rintro e w' ⟨rfl, rfl⟩
    exact ⟨Below.refl _ _, .inl ⟨by omega, ret_put (by omega)⟩⟩
  · by_cases hp : 0 < len
    · obtain ⟨b, off, rfl, _, _⟩ := hr.2.2.2.2 hp
      refine (refPutText_ok b off len cap at0 n0 zs s w hr hp hat h1 h2).mono ?_
      rintro e w' ⟨g, cap', rfl, hg, hO, hb⟩
      exact ⟨hb, .inr ⟨he, _, cap', rfl, by rw [Int.toNat_natCast, Int.toNat_natCast]; exact hO.has⟩⟩
    · obtain rfl : len = 0 := by omega
      obtain rfl : at0 = 0 := by omega
      obtain rfl : n0 = 0 := by omega
      refine (refPutText_empty a cap s w hcap.2 (by omega)).mono ?_
      rintro e w' ⟨a', cap', rfl, hb⟩
      refine ⟨hb, .inr ⟨he, a', cap', rfl, ?_, fun h => by omega⟩⟩
      have e1 : zs = [] := List.eq_nil_of_length_eq_zero hlen
      have e2 : byts s = [] := List.eq_nil_of_length_eq_zero (by rw [byts_length]; omega)
      simp [e1, e2, put, ptData]

end Go.Proofs.Ytmdnkkmlgjpdcaa
