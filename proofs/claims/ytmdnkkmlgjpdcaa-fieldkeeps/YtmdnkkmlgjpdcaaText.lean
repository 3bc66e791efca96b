/- Contracts of field.Text and field.Zero. -/
import Derived.Test.YtmdnkkmlgjpdcaaSeek
namespace Go.Proofs.Ytmdnkkmlgjpdcaa
open Go.RowKit Go.Shelf
set_option linter.unusedVariables false

/-- The n bytes from at on. -/
def partOf (zs : List Int) (at' n : Int) : List Int := (zs.drop at'.toNat).take n.toNat
def textErr (zs : List Int) (at' n : Int) : Int := if partErr zs.length at' n = 0 then (if zeroB ((partOf zs at' n).drop (lead isz (partOf zs at' n))) = true then 0 else 4) else partErr zs.length at' n
def textVal (zs : List Int) (at' n : Int) : ByteArray := if textErr zs at' n = 0 then strOfNums ((partOf zs at' n).take (lead isz (partOf zs at' n))) else strOfNums []
def zeroVal (zs : List Int) (at' n : Int) : Bool := if partErr zs.length at' n = 0 then zeroB (partOf zs at' n) else false

theorem cut_lh {w : World} {a : Option Addr} {len : Nat} {zs : List Int} (h : Has w a len zs) {cap l k : Nat} (hc : len ≤ cap) (hl : l + k ≤ len) :
    ∃ a1 c1, (∀ w, (Instr.slice 22 (.slice a len cap) (some (.int .i64 (l : Int))) (some (.int .i64 ((l : Int) + (k : Int)))) none).run Try.prog w = .ok (.slice a1 k c1) w) ∧ k ≤ c1 ∧ Has w a1 k ((zs.drop l).take k) :=
  ⟨_, _, fun w => run_cut_lh a len cap l k (by omega) w, by omega, h.cut hc hl⟩
theorem cut_l {w : World} {a : Option Addr} {len : Nat} {zs : List Int} (h : Has w a len zs) {cap l : Nat} (hc : len ≤ cap) (hl : l ≤ len) :
    ∃ a1 c1, (∀ w, (Instr.slice 22 (.slice a len cap) (some (.int .i64 (l : Int))) none none).run Try.prog w = .ok (.slice a1 (len - l) c1) w) ∧ len - l ≤ c1 ∧ Has w a1 (len - l) (zs.drop l) := by
  refine ⟨_, _, fun w => run_cut_l a len cap l hl w, by omega, ?_⟩
  have := h.cut hc (l := l) (k := len - l) (by omega)
  rwa [List.take_of_length_le (by simp [h.1])] at this
theorem cut_h {w : World} {a : Option Addr} {len : Nat} {zs : List Int} (h : Has w a len zs) {cap k : Nat} (hc : len ≤ cap) (hk : k ≤ len) :
    ∃ a1 c1, (∀ w, (Instr.slice 22 (.slice a len cap) none (some (.int .i64 (k : Int))) none).run Try.prog w = .ok (.slice a1 k c1) w) ∧ k ≤ c1 ∧ Has w a1 k (zs.take k) := by
  refine ⟨_, _, fun w => run_cut_h a len cap k (by omega) w, by omega, ?_⟩
  have := h.cut hc (l := 0) (k := k) (by omega)
  simpa using this

theorem ret_str {s s' : ByteArray} {c d : Int} (h : s = s') (h' : c = d) : Ending.returned (.tuple #[.string s, .int .i64 c]) = .returned (.tuple #[.string s', .int .i64 d]) := by rw [h, h']
theorem ret_zero {s s' : Bool} {c d : Int} (h : s = s') (h' : c = d) : Ending.returned (.tuple #[.bool s, .int .i64 c]) = .returned (.tuple #[.bool s', .int .i64 d]) := by rw [h, h']

set_option maxRecDepth 100000 in
set_option maxHeartbeats 1000000 in
theorem text_err (a : Option Addr) (len cap : Nat) (at' n : Int) (w : World) (hl : len ≤ 140737488351232) (ha : at' ≤ 9223372036854775807) (hn : -9223372036854775808 ≤ n) (he : partErr len at' n ≠ 0) :
    Calls Try.prog 14 #[.slice a len cap, .int .i64 at', .int .i64 n] w fun e w' => e = .returned (.tuple #[.string (strOfNums []), .int .i64 (partErr len at' n)]) ∧ w = w' := by
  have hc := checkPart_any a len cap at' n w (by unfold maxLen; omega) ha hn
  obtain ⟨q, hq⟩ : ∃ q, partErr len at' n = q := ⟨_, rfl⟩
  rw [hq] at hc he ⊢
  clear hq
  have hne : (q != 0) = true := by simpa using he
  have HC := hide hc
  clear hc he
  go_enter Try.func14, Try.ntmps14
  go_wp2_with (go_at_call 27; refine (unhide HC).mono ?_; rintro e w' ⟨rfl, rfl⟩)
  go_ret2
  exact ⟨rfl, rfl⟩

set_option maxRecDepth 100000 in
set_option maxHeartbeats 1000000 in
theorem zero_err (a : Option Addr) (len cap : Nat) (at' n : Int) (w : World) (hl : len ≤ 140737488351232) (ha : at' ≤ 9223372036854775807) (hn : -9223372036854775808 ≤ n) (he : partErr len at' n ≠ 0) :
    Calls Try.prog 18 #[.slice a len cap, .int .i64 at', .int .i64 n] w fun e w' => e = .returned (.tuple #[.bool false, .int .i64 (partErr len at' n)]) ∧ w = w' := by
  have hc := checkPart_any a len cap at' n w (by unfold maxLen; omega) ha hn
  obtain ⟨q, hq⟩ : ∃ q, partErr len at' n = q := ⟨_, rfl⟩
  rw [hq] at hc he ⊢
  clear hq
  have hne : (q != 0) = true := by simpa using he
  have HC := hide hc
  clear hc he
  go_enter Try.func18, Try.ntmps18
  go_wp2_with (go_at_call 27; refine (unhide HC).mono ?_; rintro e w' ⟨rfl, rfl⟩)
  go_ret2
  exact ⟨rfl, rfl⟩

theorem checkPart_ok (a : Option Addr) (len cap at0 n0 : Nat) (w : World) (hl : len ≤ 140737488351232) (hat : at0 + n0 ≤ len) :
    Calls Try.prog 27 #[.slice a len cap, .int .i64 (at0 : Int), .int .i64 (n0 : Int)] w fun e w' => e = .returned (.int .i64 0) ∧ w = w' := by
  refine (checkPart_any a len cap at0 n0 w (by unfold maxLen; omega) (by omega) (by omega)).mono ?_
  rintro e w' ⟨rfl, rfl⟩
  exact ⟨ret_int (partErr_ok (by omega) (by omega) (by omega)), rfl⟩

set_option maxRecDepth 100000 in
set_option maxHeartbeats 1000000 in
theorem zero_ok (a : Option Addr) (len cap at0 n0 : Nat) (zs : List Int) (w : World) (h : Has w a len zs) (hc : len ≤ cap) (hl : len ≤ 140737488351232) (hat : at0 + n0 ≤ len) :
    Calls Try.prog 18 #[.slice a len cap, .int .i64 (at0 : Int), .int .i64 (n0 : Int)] w fun e w' => e = .returned (.tuple #[.bool (zeroB ((zs.drop at0).take n0)), .int .i64 0]) ∧ w = w' := by
  obtain ⟨a1, c1, hs1, hc1, hH1⟩ := cut_lh h hc hat
  have K1 := hide (allZero_any a1 n0 c1 _ w hH1 (by omega))
  have K0 := hide (checkPart_ok a len cap at0 n0 w hl hat)
  obtain ⟨z, hz⟩ : ∃ z, zeroB ((zs.drop at0).take n0) = z := ⟨_, rfl⟩
  rw [hz] at K1 ⊢
  clear h hH1 hz
  go_enter Try.func18, Try.ntmps18
  go_wp2_with (first
    | (go_at_call 27; refine (unhide K0).mono ?_; rintro e w' ⟨rfl, rfl⟩)
    | (go_at_call 30; refine (unhide K1).mono ?_; rintro e w' ⟨rfl, rfl⟩))
  go_ret2
  exact ⟨rfl, rfl⟩

set_option maxRecDepth 100000 in
set_option maxHeartbeats 1000000 in
theorem text_ok (a : Option Addr) (len cap at0 n0 : Nat) (zs pt : List Int) (w : World) (h : Has w a len zs) (hc : len ≤ cap) (hl : len ≤ 140737488351232) (hat : at0 + n0 ≤ len) (hpt : (zs.drop at0).take n0 = pt) (K : Nat) (hK : lead isz pt = K) :
    Calls Try.prog 14 #[.slice a len cap, .int .i64 (at0 : Int), .int .i64 (n0 : Int)] w fun e w' => (e = if zeroB (pt.drop K) = true then .returned (.tuple #[.string (strOfNums (pt.take K)), .int .i64 0]) else .returned (.tuple #[.string (strOfNums []), .int .i64 4])) ∧ w = w' := by
  obtain ⟨a1, c1, hs1, hc1, hH1⟩ := cut_lh h hc hat
  rw [hpt] at hH1
  have hKn : K ≤ n0 := by have := lead_le isz pt; rw [hK, hH1.1] at this; exact this
  obtain ⟨a2, c2, hs2, hc2, hH2⟩ := cut_l hH1 hc1 hKn
  obtain ⟨a3, c3, hs3, hc3, hH3⟩ := cut_h hH1 hc1 hKn
  have hcv := hH3.conv c3
  have K0 := hide (checkPart_ok a len cap at0 n0 w hl hat)
  have K1 := seek_isz a1 n0 c1 _ w hH1 (by omega)
  rw [hK] at K1
  have K1 := hide K1
  have K2 := allZero_any a2 (n0 - K) c2 _ w hH2 (by omega)
  obtain ⟨z, hz⟩ : ∃ z, zeroB (pt.drop K) = z := ⟨_, rfl⟩
  rw [hz] at K2 ⊢
  have K2 := hide K2
  clear h hH1 hH2 hH3 hz hK hpt hc1 hc2 hc3
  cases z
  · go_enter Try.func14, Try.ntmps14
    go_wp2_with (first
      | (go_at_call 27; refine (unhide K0).mono ?_; rintro e w' ⟨rfl, rfl⟩)
      | (go_at_call 28; refine (unhide K1).mono ?_; rintro e w' ⟨rfl, rfl⟩)
      | (go_at_call 30; refine (unhide K2).mono ?_; rintro e w' ⟨rfl, rfl⟩))
    go_ret2
    exact ⟨rfl, rfl⟩
  · go_enter Try.func14, Try.ntmps14
    go_wp2_with (first
      | (go_at_call 27; refine (unhide K0).mono ?_; rintro e w' ⟨rfl, rfl⟩)
      | (go_at_call 28; refine (unhide K1).mono ?_; rintro e w' ⟨rfl, rfl⟩)
      | (go_at_call 30; refine (unhide K2).mono ?_; rintro e w' ⟨rfl, rfl⟩))
    go_ret2
    exact ⟨rfl, rfl⟩

end Go.Proofs.Ytmdnkkmlgjpdcaa
