/- Joined: GText, RefSum. -/
import Derived.Test.YtmdkcoenjadieaaDoorWGSeek
import Derived.Test.YtmdkcoenjadieaaDoorWJ5
import Derived.Test.YtmdkcoenjadieaaDoorWFol
/- Contracts of field.Text and field.Zero. -/
namespace Go.Proofs.YtmdkcoenjadieaaDoor
open Go.RowKit Go.Shelf
set_option linter.unusedVariables false
set_option maxRecDepth 100000

/-- The n bytes from at on. -/
def partOf (zs : List Int) (at' n : Int) : List Int := (zs.drop at'.toNat).take n.toNat

def textErr (zs : List Int) (at' n : Int) : Int := if partErr zs.length at' n = 0 then (if zeroB ((partOf zs at' n).drop (lead isz (partOf zs at' n))) = true then 0 else 4) else partErr zs.length at' n

def textVal (zs : List Int) (at' n : Int) : ByteArray := if textErr zs at' n = 0 then strOfNums ((partOf zs at' n).take (lead isz (partOf zs at' n))) else strOfNums []

def zeroVal (zs : List Int) (at' n : Int) : Bool := if partErr zs.length at' n = 0 then zeroB (partOf zs at' n) else false

set_option maxRecDepth 100000 in
set_option maxHeartbeats 1000000 in
theorem text_err (a : Option Addr) (len cap : Nat) (at' n : Int) (w : World) (hl : len ≤ 140737488351232) (ha : at' ≤ 9223372036854775807) (hn : -9223372036854775808 ≤ n) (he : partErr len at' n ≠ 0) :
    Calls Tryd.prog 80 #[.slice a len cap, .int .i64 at', .int .i64 n] w fun e w' => e = .returned (.tuple #[.string (strOfNums []), .int .i64 (partErr len at' n)]) ∧ w = w' := by
  have hc := checkPart_any a len cap at' n w (by unfold maxLen; omega) ha hn
  obtain ⟨q, hq⟩ : ∃ q, partErr len at' n = q := ⟨_, rfl⟩
  rw [hq] at hc he ⊢
  clear hq
  have hne : (q != 0) = true := by simpa using he
  have HC := hide hc
  clear hc he
  go_enter Tryd.func80, Tryd.ntmps80
  go_wp2_with (go_at_call 89; refine (unhide HC).mono ?_; rintro e w' ⟨rfl, rfl⟩)
  go_ret2
  exact ⟨rfl, rfl⟩

set_option maxRecDepth 100000 in
set_option maxHeartbeats 1000000 in
set_option maxRecDepth 100000 in
set_option maxHeartbeats 1000000 in
set_option maxRecDepth 100000 in
set_option maxHeartbeats 1000000 in
theorem text_ok (a : Option Addr) (len cap at0 n0 : Nat) (zs pt : List Int) (w : World) (h : Has w a len zs) (hc : len ≤ cap) (hl : len ≤ 140737488351232) (hat : at0 + n0 ≤ len) (hpt : (zs.drop at0).take n0 = pt) (K : Nat) (hK : lead isz pt = K) :
    Calls Tryd.prog 80 #[.slice a len cap, .int .i64 (at0 : Int), .int .i64 (n0 : Int)] w fun e w' => (e = if zeroB (pt.drop K) = true then .returned (.tuple #[.string (strOfNums (pt.take K)), .int .i64 0]) else .returned (.tuple #[.string (strOfNums []), .int .i64 4])) ∧ w = w' := by
  obtain ⟨a1, c1, hs1, hc1, hH1⟩ := cut_lh h hc hat
  rw [hpt] at hH1
  have hKn : K ≤ n0 := by have := lead_le isz pt; rw [hK, hH1.1] at this; exact this
  obtain ⟨a2, c2, hs2, hc2, hH2⟩ := cut_l hH1 hc1 hKn
  obtain ⟨a3, c3, hs3, hc3, hH3⟩ := cut_h hH1 hc1 hKn
  have hcv := hH3.conv c3
  have K0 := hide (checkPart_ok a len cap at0 n0 w hl hat)
  have K1 := seek_isz a1 n0 c1 _ w hH1 (by omega)
  rw [hK] at K1
  have K1 := hide K1
  have K2 := allZero_any a2 (n0 - K) c2 _ w hH2 (by omega)
  obtain ⟨z, hz⟩ : ∃ z, zeroB (pt.drop K) = z := ⟨_, rfl⟩
  rw [hz] at K2 ⊢
  have K2 := hide K2
  clear h hH1 hH2 hH3 hz hK hpt hc1 hc2 hc3
  cases z
  · go_enter Tryd.func80, Tryd.ntmps80
    go_wp2_with (first
      | (go_at_call 89; refine (unhide K0).mono ?_; rintro e w' ⟨rfl, rfl⟩)
      | (go_at_call 90; refine (unhide K1).mono ?_; rintro e w' ⟨rfl, rfl⟩)
      | (go_at_call 92; refine (unhide K2).mono ?_; rintro e w' ⟨rfl, rfl⟩))
    go_ret2
    exact ⟨rfl, rfl⟩
  · go_enter Tryd.func80, Tryd.ntmps80
    go_wp2_with (first
      | (go_at_call 89; refine (unhide K0).mono ?_; rintro e w' ⟨rfl, rfl⟩)
      | (go_at_call 90; refine (unhide K1).mono ?_; rintro e w' ⟨rfl, rfl⟩)
      | (go_at_call 92; refine (unhide K2).mono ?_; rintro e w' ⟨rfl, rfl⟩))
    go_ret2
    exact ⟨rfl, rfl⟩

/-- **field.Text** -/
theorem text_any (a : Option Addr) (len cap : Nat) (zs : List Int) (at' n : Int) (w : World) (h : Has w a len zs) (hc : len ≤ cap) (hl : len ≤ 140737488351232) (ha : at' ≤ 9223372036854775807) (hn : -9223372036854775808 ≤ n) :
    Calls Tryd.prog 80 #[.slice a len cap, .int .i64 at', .int .i64 n] w fun e w' => e = .returned (.tuple #[.string (textVal zs at' n), .int .i64 (textErr zs at' n)]) ∧ w = w' := by
  by_cases he : partErr len at' n = 0
  · obtain ⟨at0, n0, rfl, rfl, hat⟩ := part_ok he
    refine (text_ok a len cap at0 n0 zs _ w h hc hl hat rfl _ rfl).mono ?_
    rintro e w' ⟨rfl, rfl⟩
    refine ⟨?_, rfl⟩
    unfold textVal textErr partOf
    rw [h.1, he, if_pos rfl, Int.toNat_natCast, Int.toNat_natCast]
    by_cases hz : zeroB (((zs.drop at0).take n0).drop (lead isz ((zs.drop at0).take n0))) = true
    · rw [if_pos hz, if_pos hz, if_pos rfl]
    · rw [if_neg hz, if_neg hz, if_neg (by omega)]
  · refine (text_err a len cap at' n w hl ha hn he).mono ?_
    rintro e w' ⟨rfl, rfl⟩
    refine ⟨ret_str ?_ ?_, rfl⟩
    · unfold textVal textErr; rw [h.1, if_neg he, if_neg he]
    · unfold textErr; rw [h.1, if_neg he]

end Go.Proofs.YtmdkcoenjadieaaDoor

/- The contracts of the document's step, Sum and Add. -/
namespace Go.Proofs.YtmdkcoenjadieaaDoor
open Go.RowKit Go.Shelf
set_option linter.unusedVariables false
set_option maxRecDepth 100000

theorem i64_xor_nat (a b : Nat) (ha : a < 9223372036854775808) (hb : b < 9223372036854775808) : bits .xor .i64 (a : Int) (b : Int) = ((a ^^^ b : Nat) : Int) := by
  have hx : a ^^^ b < 2 ^ 63 := Nat.xor_lt_two_pow (by omega) (by omega)
  show IntKind.i64.wrap ((BitVec.ofInt 64 (a : Int) ^^^ BitVec.ofInt 64 (b : Int)).toNat : Int) = _
  rw [BitVec.toNat_xor, ofInt_u64 a (by omega), ofInt_u64 b (by omega), IntKind.wrap_i64]
  omega

/-- Some steps. -/
def sts : Nat → Nat → Nat
  | 0, c => c
  | n + 1, c => st (sts n c)

theorem sts_lt (n : Nat) {c : Nat} (h : c < 4294967296) : sts n c < 4294967296 := by
  induction n with
  | zero => exact h
  | succ n ih => exact st_lt ih

theorem sts_eight (c : Nat) : sts 8 c = st4 (st4 c) := rfl

theorem st_odd {c : Nat} (h : c % 2 = 1) : st c = c / 2 ^^^ 3988292384 := by unfold st; rw [if_pos h]

theorem st_not_odd {c : Nat} (h : ¬ c % 2 = 1) : st c = c / 2 := by unfold st; rw [if_neg h, Nat.xor_zero]

set_option maxHeartbeats 1000000 in
theorem step_any (c x : Nat) (w : World) (hc : c < 4294967296) (hx : x < 256) :
    Calls Tryd.prog 72 #[.int .i64 (c : Int), .int .u8 (x : Int)] w fun e w' => e = .returned (.int .i64 ((upd c x : Nat) : Int)) ∧ w = w' := by
  obtain ⟨X, hXe, hX, h1⟩ : ∃ X : Nat, Hid (X = c ^^^ x) ∧ X < 4294967296 ∧ bits .xor .i64 (c : Int) (x : Int) = (X : Int) := ⟨_, rfl, lt_xor hc (by omega), i64_xor_nat c x (by omega) (by omega)⟩
  have HE : Hid (upd c x = sts 8 X) := by show _ = _; rw [hXe.out, sts_eight]; rfl
  clear hXe
  go_enter Tryd.func72, Tryd.ntmps72
  go_wp2
  go_loop [0, 5] (fun c i => ∃ k : Nat, k ≤ 8 ∧ i = .int .i64 (k : Int) ∧ c = .int .i64 ((sts k X : Nat) : Int)) (fun _ i => 8 - (intOf i).toNat)
  case atStart => exact ⟨0, Nat.zero_le _, rfl, rfl⟩
  case round =>
    obtain ⟨k, hk, rfl, rfl⟩ := hrel
    have hC := sts_lt k hX
    by_cases hlt : k < 8
    · by_cases ho : sts k X % 2 = 1
      · have HS : Hid (sts (k + 1) X = sts k X / 2 ^^^ 3988292384) := st_odd ho
        have ho' : ((sts k X : Nat) : Int) % 2 = 1 := by omega
        have h3 := i64_xor_nat (sts k X / 2) 3988292384 (by omega) (by omega)
        have h3' : bits .xor .i64 (((sts k X : Nat) : Int) / 2) 3988292384 = ((sts k X / 2 ^^^ 3988292384 : Nat) : Int) := by rw [← h3]; congr 1
        generalize sts k X = C at *
        generalize C / 2 ^^^ 3988292384 = D at *
        clear h3 ho
        go_wp2
        exact ⟨⟨k + 1, by omega, by go_num, by rw [HS.out]⟩, by simp [intOf]; omega⟩
      · have HS : Hid (sts (k + 1) X = sts k X / 2) := st_not_odd ho
        have ho' : ((sts k X : Nat) : Int) % 2 = 0 := by omega
        generalize sts k X = C at *
        clear ho
        go_wp2
        exact ⟨⟨k + 1, by omega, by go_num, val_int (by rw [HS.out]; omega)⟩, by simp [intOf]; omega⟩
    · obtain rfl : k = 8 := by omega
      go_wp2
      go_ret
      exact ⟨ret_int (by rw [HE.out]), rfl⟩

set_option maxHeartbeats 1000000 in
theorem refSum_some (b off len cap : Nat) (zs : List Int) (w : World) (hlen : zs.length = len) (hl : len ≤ 140737488355328) (hby : Byts zs)
    (hcs : ∀ j, j < len → w.cell? ⟨b, off + j, none⟩ = some (.int .u8 (zs[j]?.getD 0))) :
    Calls Tryd.prog 41 #[.slice (some ⟨b, off, none⟩) len cap] w fun e w' => e = .returned (.int .i64 ((sumS zs : Nat) : Int)) ∧ w = w' := by
  have HE : Hid (sumS zs = fol 4294967295 zs ^^^ 4294967295) := rfl
  have HB := hide hby
  have HC := hide hcs
  clear hby hcs
  go_enter Tryd.func41, Tryd.ntmps41
  go_wp2
  go_loop [3, 4] (fun c i => ∃ k : Nat, k ≤ len ∧ i = .int .i64 (k : Int) ∧ c = .int .i64 ((fol 4294967295 (zs.take k) : Nat) : Int)) (fun _ i => len - (intOf i).toNat)
  case atStart => exact ⟨0, Nat.zero_le _, rfl, rfl⟩
  case round =>
    obtain ⟨k, hk, rfl, rfl⟩ := hrel
    have hC : fol 4294967295 (zs.take k) < 4294967296 := fol_lt (fun z hz => HB.out z (List.mem_of_mem_take hz)) (by omega)
    by_cases hlt : k < len
    · have hz := HB.out (zs[k]?.getD 0) (by rw [List.getElem?_eq_getElem (by omega)]; exact List.getElem_mem _)
      have HS := hide (fol_succ 4294967295 zs k (by omega))
      have hck := HC.out k hlt
      generalize fol 4294967295 (zs.take k) = C at *
      generalize zs[k]?.getD 0 = xi at *
      obtain ⟨x, rfl⟩ := Int.eq_ofNat_of_zero_le hz.1
      have K := hide (fun w => step_any C x w hC (by omega))
      go_wp2_with (go_at_call 72; refine (unhide K _).mono ?_; rintro e w' ⟨rfl, rfl⟩)
      exact ⟨⟨k + 1, by omega, by go_num, val_int (by rw [HS.out]; rfl)⟩, by simp [intOf]; omega⟩
    · have HX := hide (i64_xor_nat (fol 4294967295 (zs.take k)) 4294967295 (by omega) (by omega))
      obtain rfl : k = len := by omega
      go_wp2
      go_ret
      refine ⟨?_, rfl⟩
      rw [HE.out]
      refine ret_int ?_
      have HX' := HX.out
      have e : zs.take k = zs := List.take_of_length_le (by omega)
      rw [e] at HX' ⊢
      exact HX'

set_option maxHeartbeats 1000000 in
theorem refSum_none (a : Option Addr) (cap : Nat) (w : World) :
    Calls Tryd.prog 41 #[.slice a 0 cap] w fun e w' => e = .returned (.int .i64 ((sumS [] : Nat) : Int)) ∧ w = w' := by
  go_enter Tryd.func41, Tryd.ntmps41
  go_wp2
  go_loop [3, 4] (fun c i => i = .int .i64 0 ∧ c = .int .i64 4294967295) (fun _ i => 0 - (intOf i).toNat)
  case atStart => exact ⟨rfl, rfl⟩
  case round =>
    obtain ⟨rfl, rfl⟩ := hrel
    go_wp2
    go_ret
    exact ⟨ret_int (by decide +kernel), rfl⟩

theorem refSum_any (a : Option Addr) (len cap : Nat) (zs : List Int) (w : World) (hh : Has w a len zs) (hl : len ≤ 140737488355328) (hby : Byts zs) :
    Calls Tryd.prog 41 #[.slice a len cap] w fun e w' => e = .returned (.int .i64 ((sumS zs : Nat) : Int)) ∧ w = w' := by
  by_cases h0 : len = 0
  · subst h0
    obtain rfl : zs = [] := List.eq_nil_of_length_eq_zero hh.1
    exact refSum_none a cap w
  · obtain ⟨b, off, rfl, hc⟩ := hh.2 (by omega)
    exact refSum_some b off len cap zs w hh.1 hl hby hc

end Go.Proofs.YtmdkcoenjadieaaDoor

