/- Text and Zero, all errors; the document's Text and Zero. -/
import Derived.Test.YtmdnkkmlgjpdcaaText
import Derived.Test.YtmdnkkmlgjpdcaaRefGet
namespace Go.Proofs.Ytmdnkkmlgjpdcaa
open Go.RowKit Go.Shelf
set_option linter.unusedVariables false

theorem part_ok {len : Nat} {at' n : Int} (h : partErr len at' n = 0) : ∃ at0 n0 : Nat, at' = at0 ∧ n = n0 ∧ at0 + n0 ≤ len := by
  rcases partErr_cases len at' n with g | g | g | g
  · omega
  · omega
  · omega
  · exact ⟨at'.toNat, n.toNat, by omega, by omega, by omega⟩

/-- **field.Text** -/
theorem text_any (a : Option Addr) (len cap : Nat) (zs : List Int) (at' n : Int) (w : World) (h : Has w a len zs) (hc : len ≤ cap) (hl : len ≤ 140737488351232) (ha : at' ≤ 9223372036854775807) (hn : -9223372036854775808 ≤ n) :
    Calls Try.prog 14 #[.slice a len cap, .int .i64 at', .int .i64 n] w fun e w' => e = .returned (.tuple #[.string (textVal zs at' n), .int .i64 (textErr zs at' n)]) ∧ w = w' := by
  by_cases he : partErr len at' n = 0
  · obtain ⟨at0, n0, rfl, rfl, hat⟩ := part_ok he
    refine (text_ok a len cap at0 n0 zs _ w h hc hl hat rfl _ rfl).mono ?_
    rintro e w' ⟨rfl, rfl⟩
    refine ⟨?_, rfl⟩
    unfold textVal textErr partOf
    rw [h.1, he, if_pos rfl, Int.toNat_natCast, Int.toNat_natCast]
    by_cases hz : zeroB (((zs.drop at0).take n0).drop (lead isz ((zs.drop at0).take n0))) = true
    · rw [if_pos hz, if_pos hz, if_pos rfl]
    · rw [if_neg hz, if_neg hz, if_neg (by omega)]
  · refine (text_err a len cap at' n w hl ha hn he).mono ?_
    rintro e w' ⟨rfl, rfl⟩
    refine ⟨ret_str ?_ ?_, rfl⟩
    · unfold textVal textErr; rw [h.1, if_neg he, if_neg he]
    · unfold textErr; rw [h.1, if_neg he]

/-- **field.Zero** -/
theorem zero_any (a : Option Addr) (len cap : Nat) (zs : List Int) (at' n : Int) (w : World) (h : Has w a len zs) (hc : len ≤ cap) (hl : len ≤ 140737488351232) (ha : at' ≤ 9223372036854775807) (hn : -9223372036854775808 ≤ n) :
    Calls Try.prog 18 #[.slice a len cap, .int .i64 at', .int .i64 n] w fun e w' => e = .returned (.tuple #[.bool (zeroVal zs at' n), .int .i64 (partErr len at' n)]) ∧ w = w' := by
  by_cases he : partErr len at' n = 0
  · obtain ⟨at0, n0, rfl, rfl, hat⟩ := part_ok he
    refine (zero_ok a len cap at0 n0 zs w h hc hl hat).mono ?_
    rintro e w' ⟨rfl, rfl⟩
    exact ⟨ret_zero (by unfold zeroVal partOf; rw [h.1, if_pos he, Int.toNat_natCast, Int.toNat_natCast]) he.symm, rfl⟩
  · refine (zero_err a len cap at' n w hl ha hn he).mono ?_
    rintro e w' ⟨rfl, rfl⟩
    exact ⟨ret_zero (by unfold zeroVal; rw [h.1, if_neg he]) rfl, rfl⟩

set_option maxHeartbeats 1000000 in
theorem span_any (a : Option Addr) (len cap : Nat) (at' n : Int) (w : World) (hl : len ≤ 140737488351232) (ha : at' ≤ 9223372036854775807) :
    Calls Try.prog 31 #[.slice a len cap, .int .i64 at', .int .i64 n] w fun e w' => e = .returned (.int .i64 (partErr len at' n)) ∧ w = w' := by
  by_cases hN : n < 0
  · rw [partErr_arg hN]
    go_enter Try.func31, Try.ntmps31
    go_wp2_with fail
    go_ret
    exact ⟨rfl, rfl⟩
  have hi := inside_any a len cap at' n w hl ha
  by_cases he : partErr len at' n = 0
  · rw [he] at hi ⊢
    have HI := hide hi
    clear hi he
    go_enter Try.func31, Try.ntmps31
    go_wp2_with (go_at_call 25; refine (unhide HI).mono ?_; rintro e w' ⟨rfl, rfl⟩)
    go_ret
    exact ⟨rfl, rfl⟩
  · have h2 : partErr len at' n = 2 := by rcases partErr_cases len at' n with g | g | g | g <;> omega
    rw [h2] at hi ⊢
    have HI := hide hi
    clear hi he h2
    go_enter Try.func31, Try.ntmps31
    go_wp2_with (go_at_call 25; refine (unhide HI).mono ?_; rintro e w' ⟨rfl, rfl⟩)
    go_ret
    exact ⟨rfl, rfl⟩

set_option maxRecDepth 100000 in
set_option maxHeartbeats 1000000 in
theorem refZero_any (a : Option Addr) (len cap : Nat) (zs : List Int) (at' n : Int) (w : World) (h : Has w a len zs) (hl : len ≤ 140737488351232) (ha : at' ≤ 9223372036854775807) :
    Calls Try.prog 19 #[.slice a len cap, .int .i64 at', .int .i64 n] w fun e w' => e = .returned (.tuple #[.bool (zeroVal zs at' n), .int .i64 (partErr len at' n)]) ∧ w = w' := by
  have hs := span_any a len cap at' n w hl ha
  by_cases he : partErr len at' n = 0
  · obtain ⟨at0, n0, rfl, rfl, hat⟩ := part_ok he
    have hv : zeroVal zs at0 n0 = zeroB ((zs.drop at0).take n0) := by unfold zeroVal partOf; rw [h.1, if_pos he, Int.toNat_natCast, Int.toNat_natCast]
    rw [he] at hs ⊢
    rw [hv]
    obtain ⟨pt, hpt⟩ : ∃ pt, (zs.drop at0).take n0 = pt := ⟨_, rfl⟩
    have hpl : pt.length = n0 := by rw [← hpt]; simp [h.1]; omega
    have hpg : ∀ j, j < n0 → pt[j]?.getD 0 = zs[at0 + j]?.getD 0 := by
      intro j hj; rw [← hpt, List.getElem?_take_of_lt hj, List.getElem?_drop]
    rw [hpt]
    have HG := hide hpg
    have HS := hide hs
    have H := hide h.2
    have HH := hide (fun k => lead_hit nz pt k)
    have HM := hide (fun k => lead_miss nz pt k)
    have HE := hide (lead_end nz pt)
    clear h hs hpg hpt hv he
    go_enter Try.func19, Try.ntmps19
    go_wp2_with (go_at_call 31; refine (unhide HS).mono ?_; rintro e w' ⟨rfl, rfl⟩)
    go_loop [9] (fun i => ∃ k : Nat, k ≤ n0 ∧ Hid (k ≤ lead nz pt) ∧ i = .int .i64 k) (fun i => n0 - (intOf i).toNat)
    case atStart => exact ⟨0, Nat.zero_le _, Nat.zero_le _, rfl⟩
    case round =>
      obtain ⟨k, hk, hle, rfl⟩ := hrel
      by_cases hlt : k < n0
      · obtain ⟨b, off, rfl, hcs⟩ := unhide H (by omega)
        have hc := hcs (at0 + k) (by omega)
        rw [← unhide HG k hlt] at hc
        obtain ⟨z, hz⟩ : ∃ z, pt[k]?.getD 0 = z := ⟨_, rfl⟩
        rw [hz] at hc
        have HZ := hide hz
        clear hcs hz
        by_cases hp : nz z = true
        · have hb : (z != 0) = true := hp
          go_wp2
          go_ret2
          refine ⟨ret_zero ?_ rfl, rfl⟩
          have e := unhide HH k hle.out (by omega) (by rw [unhide HZ]; exact hp)
          unfold zeroB; rw [e, hpl]; simp; omega
        · have hp' : nz z = false := by simpa using hp
          have hb : (z != 0) = false := hp'
          go_wp2
          exact ⟨⟨k + 1, by omega, unhide HM k hle.out (by omega) (by rw [unhide HZ]; exact hp'), by go_num⟩, by simp [intOf]; omega⟩
      · obtain rfl : k = n0 := by omega
        go_wp2
        go_ret2
        refine ⟨ret_zero ?_ rfl, rfl⟩
        unfold zeroB; rw [unhide HE (by rw [hpl]; exact hle.out)]; simp
  · obtain ⟨q, hq⟩ : ∃ q, partErr len at' n = q := ⟨_, rfl⟩
    have hv : zeroVal zs at' n = false := by unfold zeroVal; rw [h.1, if_neg he]
    rw [hq] at hs he ⊢
    rw [hv]
    have hne : (q != 0) = true := by simpa using he
    have HS := hide hs
    clear hs h he hq hv
    go_enter Try.func19, Try.ntmps19
    go_wp2_with (go_at_call 31; refine (unhide HS).mono ?_; rintro e w' ⟨rfl, rfl⟩)
    go_ret2
    exact ⟨rfl, rfl⟩

end Go.Proofs.Ytmdnkkmlgjpdcaa
