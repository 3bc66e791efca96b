/- Contracts of field.Text and field.Zero. -/
import Derived.Test.YtmdkcoenjadieaaGSeek
import Derived.Test.YtmdkcoenjadieaaGCheck
namespace Go.Proofs.Ytmdkcoenjadieaa
open Go.RowKit Go.Shelf
set_option linter.unusedVariables false
set_option maxRecDepth 100000

/-- The n bytes from at on. -/
def partOf (zs : List Int) (at' n : Int) : List Int := (zs.drop at'.toNat).take n.toNat

def textErr (zs : List Int) (at' n : Int) : Int := if partErr zs.length at' n = 0 then (if zeroB ((partOf zs at' n).drop (lead isz (partOf zs at' n))) = true then 0 else 4) else partErr zs.length at' n

def textVal (zs : List Int) (at' n : Int) : ByteArray := if textErr zs at' n = 0 then strOfNums ((partOf zs at' n).take (lead isz (partOf zs at' n))) else strOfNums []

def zeroVal (zs : List Int) (at' n : Int) : Bool := if partErr zs.length at' n = 0 then zeroB (partOf zs at' n) else false

set_option maxRecDepth 100000 in
set_option maxHeartbeats 1000000 in
theorem text_err (a : Option Addr) (len cap : Nat) (at' n : Int) (w : World) (hl : len ≤ 140737488351232) (ha : at' ≤ 9223372036854775807) (hn : -9223372036854775808 ≤ n) (he : partErr len at' n ≠ 0) :
    Calls Try.prog 34 #[.slice a len cap, .int .i64 at', .int .i64 n] w fun e w' => e = .returned (.tuple #[.string (strOfNums []), .int .i64 (partErr len at' n)]) ∧ w = w' := by
  have hc := checkPart_any a len cap at' n w (by unfold maxLen; omega) ha hn
  obtain ⟨q, hq⟩ : ∃ q, partErr len at' n = q := ⟨_, rfl⟩
  rw [hq] at hc he ⊢
  clear hq
  have hne : (q != 0) = true := by simpa using he
  have HC := hide hc
  clear hc he
  go_enter Try.func34, Try.ntmps34
  go_wp2_with (go_at_call 41; refine (unhide HC).mono ?_; rintro e w' ⟨rfl, rfl⟩)
  go_ret2
  exact ⟨rfl, rfl⟩

set_option maxRecDepth 100000 in
set_option maxHeartbeats 1000000 in
set_option maxRecDepth 100000 in
set_option maxHeartbeats 1000000 in
set_option maxRecDepth 100000 in
set_option maxHeartbeats 1000000 in
theorem text_ok (a : Option Addr) (len cap at0 n0 : Nat) (zs pt : List Int) (w : World) (h : Has w a len zs) (hc : len ≤ cap) (hl : len ≤ 140737488351232) (hat : at0 + n0 ≤ len) (hpt : (zs.drop at0).take n0 = pt) (K : Nat) (hK : lead isz pt = K) :
    Calls Try.prog 34 #[.slice a len cap, .int .i64 (at0 : Int), .int .i64 (n0 : Int)] w fun e w' => (e = if zeroB (pt.drop K) = true then .returned (.tuple #[.string (strOfNums (pt.take K)), .int .i64 0]) else .returned (.tuple #[.string (strOfNums []), .int .i64 4])) ∧ w = w' := by
  obtain ⟨a1, c1, hs1, hc1, hH1⟩ := cut_lh h hc hat
  rw [hpt] at hH1
  have hKn : K ≤ n0 := by have := lead_le isz pt; rw [hK, hH1.1] at this; exact this
  obtain ⟨a2, c2, hs2, hc2, hH2⟩ := cut_l hH1 hc1 hKn
  obtain ⟨a3, c3, hs3, hc3, hH3⟩ := cut_h hH1 hc1 hKn
  have hcv := hH3.conv c3
  have K0 := hide (checkPart_ok a len cap at0 n0 w hl hat)
  have K1 := seek_isz a1 n0 c1 _ w hH1 (by omega)
  rw [hK] at K1
  have K1 := hide K1
  have K2 := allZero_any a2 (n0 - K) c2 _ w hH2 (by omega)
  obtain ⟨z, hz⟩ : ∃ z, zeroB (pt.drop K) = z := ⟨_, rfl⟩
  rw [hz] at K2 ⊢
  have K2 := hide K2
  clear h hH1 hH2 hH3 hz hK hpt hc1 hc2 hc3
  cases z
  · go_enter Try.func34, Try.ntmps34
    go_wp2_with (first
      | (go_at_call 41; refine (unhide K0).mono ?_; rintro e w' ⟨rfl, rfl⟩)
      | (go_at_call 42; refine (unhide K1).mono ?_; rintro e w' ⟨rfl, rfl⟩)
      | (go_at_call 44; refine (unhide K2).mono ?_; rintro e w' ⟨rfl, rfl⟩))
    go_ret2
    exact ⟨rfl, rfl⟩
  · go_enter Try.func34, Try.ntmps34
    go_wp2_with (first
      | (go_at_call 41; refine (unhide K0).mono ?_; rintro e w' ⟨rfl, rfl⟩)
      | (go_at_call 42; refine (unhide K1).mono ?_; rintro e w' ⟨rfl, rfl⟩)
      | (go_at_call 44; refine (unhide K2).mono ?_; rintro e w' ⟨rfl, rfl⟩))
    go_ret2
    exact ⟨rfl, rfl⟩

/-- **field.Text** -/
theorem text_any (a : Option Addr) (len cap : Nat) (zs : List Int) (at' n : Int) (w : World) (h : Has w a len zs) (hc : len ≤ cap) (hl : len ≤ 140737488351232) (ha : at' ≤ 9223372036854775807) (hn : -9223372036854775808 ≤ n) :
    Calls Try.prog 34 #[.slice a len cap, .int .i64 at', .int .i64 n] w fun e w' => e = .returned (.tuple #[.string (textVal zs at' n), .int .i64 (textErr zs at' n)]) ∧ w = w' := by
  by_cases he : partErr len at' n = 0
  · obtain ⟨at0, n0, rfl, rfl, hat⟩ := part_ok he
    refine (text_ok a len cap at0 n0 zs _ w h hc hl hat rfl _ rfl).mono ?_
    rintro e w' ⟨rfl, rfl⟩
    refine ⟨?_, rfl⟩
    unfold textVal textErr partOf
    rw [h.1, he, if_pos rfl, Int.toNat_natCast, Int.toNat_natCast]
    by_cases hz : zeroB (((zs.drop at0).take n0).drop (lead isz ((zs.drop at0).take n0))) = true
    · rw [if_pos hz, if_pos hz, if_pos rfl]
    · rw [if_neg hz, if_neg hz, if_neg (by omega)]
  · refine (text_err a len cap at' n w hl ha hn he).mono ?_
    rintro e w' ⟨rfl, rfl⟩
    refine ⟨ret_str ?_ ?_, rfl⟩
    · unfold textVal textErr; rw [h.1, if_neg he, if_neg he]
    · unfold textErr; rw [h.1, if_neg he]

end Go.Proofs.Ytmdkcoenjadieaa
