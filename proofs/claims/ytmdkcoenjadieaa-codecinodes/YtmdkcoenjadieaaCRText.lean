/- Contract of skerryref01.Text. -/
import Derived.Test.YtmdkcoenjadieaaGText
import Derived.Test.YtmdkcoenjadieaaGRefGet
namespace Go.Proofs.Ytmdkcoenjadieaa
open Go.RowKit Go.Shelf
set_option linter.unusedVariables false
set_option maxRecDepth 100000

set_option maxHeartbeats 1000000 in
theorem span_any (a : Option Addr) (len cap : Nat) (at' n : Int) (w : World) (hl : len ≤ 140737488351232) (ha : at' ≤ 9223372036854775807) :
    Calls Try.prog 35 #[.slice a len cap, .int .i64 at', .int .i64 n] w fun e w' => e = .returned (.int .i64 (partErr len at' n)) ∧ w = w' := by
  by_cases hN : n < 0
  · rw [partErr_arg hN]
    go_enter Try.func35, Try.ntmps35
    go_wp2_with fail
    go_ret
    exact ⟨rfl, rfl⟩
  have hi := inside_any a len cap at' n w hl ha
  by_cases he : partErr len at' n = 0
  · rw [he] at hi ⊢
    have HI := hide hi
    clear hi he
    go_enter Try.func35, Try.ntmps35
    go_wp2_with (go_at_call 40; refine (unhide HI).mono ?_; rintro e w' ⟨rfl, rfl⟩)
    go_ret
    exact ⟨rfl, rfl⟩
  · have h2 : partErr len at' n = 2 := by rcases partErr_cases len at' n with g | g | g | g <;> omega
    rw [h2] at hi ⊢
    have HI := hide hi
    clear hi he h2
    go_enter Try.func35, Try.ntmps35
    go_wp2_with (go_at_call 40; refine (unhide HI).mono ?_; rintro e w' ⟨rfl, rfl⟩)
    go_ret
    exact ⟨rfl, rfl⟩

def textEnd (z : Bool) (s : ByteArray) : Ending := if z = true then .returned (.tuple #[.string s, .int .i64 0]) else .returned (.tuple #[.string (strOfNums []), .int .i64 4])
theorem textEnd_true {z : Bool} (h : z = true) (s : ByteArray) : textEnd z s = .returned (.tuple #[.string s, .int .i64 0]) := by unfold textEnd; rw [if_pos h]
theorem textEnd_false {z : Bool} (h : z = false) (s : ByteArray) : textEnd z s = .returned (.tuple #[.string (strOfNums []), .int .i64 4]) := by unfold textEnd; rw [if_neg (by simp [h])]

set_option maxRecDepth 100000 in
set_option maxHeartbeats 2000000 in
theorem refText_ok (a : Option Addr) (len cap at0 n0 : Nat) (zs pt : List Int) (w : World) (h : Has w a len zs) (hc : len ≤ cap) (hl : len ≤ 140737488351232) (hat : at0 + n0 ≤ len) (hpt : (zs.drop at0).take n0 = pt) (K : Nat) (hK : lead isz pt = K) :
    Calls Try.prog 28 #[.slice a len cap, .int .i64 (at0 : Int), .int .i64 (n0 : Int)] w fun e w' => e = textEnd (zeroB (pt.drop K)) (strOfNums (pt.take K)) ∧ w = w' := by
  have hs := span_any a len cap at0 n0 w hl (by omega)
  rw [partErr_ok (by omega) (by omega) (by omega)] at hs
  have hpl : pt.length = n0 := by rw [← hpt]; simp [h.1]; omega
  have hpg : ∀ j, j < n0 → pt[j]?.getD 0 = zs[at0 + j]?.getD 0 := by
    intro j hj; rw [← hpt, List.getElem?_take_of_lt hj, List.getElem?_drop]
  have hKn : K ≤ n0 := by have := lead_le isz pt; rw [hK, hpl] at this; exact this
  obtain ⟨a3, c3, hs3, hc3, hH3⟩ := cut_lh h hc (l := at0) (k := K) (by omega)
  have hcut : (zs.drop at0).take K = pt.take K := by rw [← hpt, List.take_take, Nat.min_eq_left hKn]
  rw [hcut] at hH3
  have hcv := hH3.conv c3
  obtain ⟨rs, hrs⟩ : ∃ rs, pt.drop K = rs := ⟨_, rfl⟩
  have hrl : rs.length = n0 - K := by rw [← hrs]; simp [hpl]
  have hrg : ∀ j, j < n0 - K → rs[j]?.getD 0 = pt[K + j]?.getD 0 := by intro j hj; rw [← hrs, List.getElem?_drop]
  have HG := hide hpg
  have HR := hide hrg
  have HS := hide hs
  have H := hide h.2
  have HH := hide (fun k => lead_hit isz pt k)
  have HM := hide (fun k => lead_miss isz pt k)
  have HE := hide (lead_end isz pt)
  have HH2 := hide (fun k => lead_hit nz rs k)
  have HM2 := hide (fun k => lead_miss nz rs k)
  have HE2 := hide (lead_end nz rs)
  have HK := hide hK
  rw [hrs]
  clear h hs hpg hrg hpt hrs hK hH3 hcut
  go_enter Try.func28, Try.ntmps28
  go_wp2_with (go_at_call 35; refine (unhide HS).mono ?_; rintro e w' ⟨rfl, rfl⟩)
  go_loop [9] (fun i => ∃ k : Nat, k ≤ n0 ∧ Hid (k ≤ lead isz pt) ∧ i = .int .i64 k) (fun i => n0 - (intOf i).toNat)
  case atStart => exact ⟨0, Nat.zero_le _, Nat.zero_le _, rfl⟩
  case round =>
    obtain ⟨k, hk, hle, rfl⟩ := hrel
    by_cases hgo : k < n0 ∧ nz (pt[k]?.getD 0) = true
    · obtain ⟨hlt, hp⟩ := hgo
      obtain ⟨b, off, rfl, hcs⟩ := unhide H (by omega)
      have hcc := hcs (at0 + k) (by omega)
      rw [← unhide HG k hlt] at hcc
      have HM3 := hide (unhide HM k hle.out (by omega) (by simp only [isz, nz] at hp ⊢; simpa using hp))
      obtain ⟨z, hz⟩ : ∃ z, pt[k]?.getD 0 = z := ⟨_, rfl⟩
      rw [hz] at hcc hp
      have hb : (z != 0) = true := hp
      clear hcs hz hp
      go_wp2
      exact ⟨⟨k + 1, by omega, HM3, by go_num⟩, by simp [intOf]; omega⟩
    · have hkK : k = K := by
        rw [← unhide HK]
        by_cases hlt : k < n0
        · refine (unhide HH k hle.out (by omega) ?_).symm
          have hz : ¬ (nz (pt[k]?.getD 0) = true) := fun hx => hgo ⟨hlt, hx⟩
          simp only [isz, nz] at hz ⊢
          simpa using hz
        · have : k = n0 := by omega
          rw [unhide HE (by rw [hpl, ← this]; exact hle.out), hpl]; exact this
      have htest : (¬ k < n0) ∨ (k < n0 ∧ ∃ b off z, a = some ⟨b, off, none⟩ ∧ (z != (0 : Int)) = false ∧ w.cell? ⟨b, off + (at0 + k), none⟩ = some (.int .u8 z)) := by
        by_cases hlt : k < n0
        · refine .inr ⟨hlt, ?_⟩
          obtain ⟨b, off, e, hcs⟩ := unhide H (by omega)
          refine ⟨b, off, pt[k]?.getD 0, e, ?_, by rw [unhide HG k hlt]; exact hcs (at0 + k) (by omega)⟩
          have hz : ¬ (nz (pt[k]?.getD 0) = true) := fun hx => hgo ⟨hlt, hx⟩
          simpa [nz] using hz
        · exact .inl hlt
      subst hkK
      clear hgo
      rcases htest with hd | ⟨hd, b, off, z, rfl, hzb, hcz⟩
      all_goals
        go_wp2
        go_loop [10] (fun i => ∃ m : Nat, m ≤ n0 - k ∧ Hid (m ≤ lead nz rs) ∧ i = .int .i64 ((k + m : Nat) : Int)) (fun i => n0 - (intOf i).toNat)
        case atStart => exact ⟨0, Nat.zero_le _, Nat.zero_le _, rfl⟩
        case round =>
          obtain ⟨m, hm, hle2, rfl⟩ := hrel
          try clear hcz
          try clear hzb
          clear hd
          by_cases hlt : m < n0 - k
          · obtain ⟨b, off, e, hcs⟩ := unhide H (by omega)
            cases e
            have hcc := hcs (at0 + (k + m)) (by omega)
            rw [← unhide HG (k + m) (by omega), ← unhide HR m hlt] at hcc
            obtain ⟨z, hz⟩ : ∃ z, rs[m]?.getD 0 = z := ⟨_, rfl⟩
            rw [hz] at hcc
            have HZ := hide hz
            clear hcs hz
            have hltI : ((k + m : Nat) : Int) < (n0 : Int) := by omega
            by_cases hp : nz z = true
            · have hb : (z != 0) = true := hp
              go_wp2
              go_ret2
              refine ⟨?_, rfl⟩
              have e := unhide HH2 m hle2.out (by omega) (by rw [unhide HZ]; exact hp)
              rw [textEnd_false (by unfold zeroB; rw [e, hrl]; simp; omega)]
              rfl
            · have hp' : nz z = false := by simpa using hp
              have hb : (z != 0) = false := hp'
              go_wp2
              exact ⟨⟨m + 1, by omega, unhide HM2 m hle2.out (by omega) (by rw [unhide HZ]; exact hp'), by go_num⟩, by simp [intOf]; omega⟩
          · obtain rfl : m = n0 - k := by omega
            have hge : ¬ ((k + (n0 - k) : Nat) : Int) < (n0 : Int) := by omega
            go_wp2
            go_ret2
            refine ⟨?_, rfl⟩
            rw [textEnd_true (by unfold zeroB; rw [unhide HE2 (by rw [hrl]; exact hle2.out)]; simp)]
            rfl

set_option maxRecDepth 100000 in
set_option maxHeartbeats 1000000 in
theorem refText_err (a : Option Addr) (len cap : Nat) (at' n : Int) (w : World) (hl : len ≤ 140737488351232) (ha : at' ≤ 9223372036854775807) (he : partErr len at' n ≠ 0) :
    Calls Try.prog 28 #[.slice a len cap, .int .i64 at', .int .i64 n] w fun e w' => e = .returned (.tuple #[.string (strOfNums []), .int .i64 (partErr len at' n)]) ∧ w = w' := by
  have hc := span_any a len cap at' n w hl ha
  obtain ⟨q, hq⟩ : ∃ q, partErr len at' n = q := ⟨_, rfl⟩
  rw [hq] at hc he ⊢
  clear hq
  have hne : (q != 0) = true := by simpa using he
  have HC := hide hc
  clear hc he
  go_enter Try.func28, Try.ntmps28
  go_wp2_with (go_at_call 35; refine (unhide HC).mono ?_; rintro e w' ⟨rfl, rfl⟩)
  go_ret2
  exact ⟨rfl, rfl⟩

/-- **The document's Text.** -/
theorem refText_any (a : Option Addr) (len cap : Nat) (zs : List Int) (at' n : Int) (w : World) (h : Has w a len zs) (hc : len ≤ cap) (hl : len ≤ 140737488351232) (ha : at' ≤ 9223372036854775807) :
    Calls Try.prog 28 #[.slice a len cap, .int .i64 at', .int .i64 n] w fun e w' => e = .returned (.tuple #[.string (textVal zs at' n), .int .i64 (textErr zs at' n)]) ∧ w = w' := by
  by_cases he : partErr len at' n = 0
  · obtain ⟨at0, n0, rfl, rfl, hat⟩ := part_ok he
    refine (refText_ok a len cap at0 n0 zs _ w h hc hl hat rfl _ rfl).mono ?_
    rintro e w' ⟨rfl, rfl⟩
    refine ⟨?_, rfl⟩
    unfold textVal textErr partOf textEnd
    rw [h.1, he, if_pos rfl, Int.toNat_natCast, Int.toNat_natCast]
    by_cases hz : zeroB (((zs.drop at0).take n0).drop (lead isz ((zs.drop at0).take n0))) = true
    · rw [if_pos hz, if_pos hz, if_pos rfl]
    · rw [if_neg hz, if_neg hz, if_neg (by omega)]
  · refine (refText_err a len cap at' n w hl ha he).mono ?_
    rintro e w' ⟨rfl, rfl⟩
    refine ⟨ret_str ?_ ?_, rfl⟩
    · unfold textVal textErr; rw [h.1, if_neg he, if_neg he]
    · unfold textErr; rw [h.1, if_neg he]

end Go.Proofs.Ytmdkcoenjadieaa
