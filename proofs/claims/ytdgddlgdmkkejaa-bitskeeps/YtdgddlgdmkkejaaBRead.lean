/- The contracts of Get and Count, and of the document's Get, Count, First. -/
import Derived.Test.YtdgddlgdmkkejaaBLeaf
namespace Go.Proofs.Ytdgddlgdmkkejaa
open Go.RowKit Go.Shelf
set_option linter.unusedVariables false

/-- What Get answers. -/
def gv (len : Nat) (zs : List Int) (i : Int) : Bool := inB len i && bitAt zs i.toNat
def ge (len : Nat) (i : Int) : Int := if inB len i then 0 else 2

theorem mask_same (i : Nat) (w : World) (hi : i < 9223372036854775808) (p : Nat) (hp : 2 ^ (i % 8) = p) :
    Calls Try.prog 26 #[.int .i64 (i : Int)] w fun e w' => e = .returned (.int .u8 (p : Int)) ∧ w' = w := by
  subst hp
  exact (mask_any i w hi).mono fun _ _ ⟨h1, h2⟩ => ⟨h1, h2.symm⟩

theorem pow_bd {r : Nat} (h : r < 8) : 0 < 2 ^ r ∧ 2 ^ r < 256 := by
  have h : ∀ k : Fin 8, 0 < 2 ^ k.val ∧ 2 ^ k.val < 256 := by decide +kernel
  exact h ⟨r, by assumption⟩

theorem inB_nat {len : Nat} {i : Int} (h : inB len i = true) : ∃ n : Nat, i = (n : Int) ∧ n < 8 * len := by
  simp [inB] at h
  exact ⟨i.toNat, by omega, by omega⟩

theorem inB_of {len n : Nat} (h : n < 8 * len) : inB len (n : Int) = true := by simp [inB]; omega

theorem inP_nat {len : Nat} {f t : Int} (h : inP len f t = true) : ∃ m n : Nat, f = (m : Int) ∧ t = (n : Int) ∧ m ≤ n ∧ n ≤ 8 * len := by
  simp [inP] at h
  exact ⟨f.toNat, t.toNat, by omega, by omega, by omega, by omega⟩

theorem inP_of {len m n : Nat} (h1 : m ≤ n) (h2 : n ≤ 8 * len) : inP len (m : Int) (n : Int) = true := by simp [inP]; omega

set_option maxHeartbeats 1000000 in
theorem get_any (a : Option Addr) (len cap : Nat) (zs : List Int) (i : Int) (w : World) (hh : Has w a len zs) (hby : ∀ z ∈ zs, 0 ≤ z ∧ z ≤ 255) (hl : len ≤ 140737488355328) :
    Calls Try.prog 10 #[.slice a len cap, .int .i64 i] w fun e w' => e = .returned (.tuple #[.bool (gv len zs i), .int .i64 (ge len i)]) ∧ ∃ m, w' = w.drewN m := by
  have K := hide (fun w => hasBit_any a len cap i w hl)
  by_cases hin : inB len i = true
  · obtain ⟨n, rfl, hn⟩ := inB_nat hin
    have hv : gv len zs (n : Int) = bitAt zs n := by rw [gv, hin, Int.toNat_natCast, Bool.true_and]
    have he : ge len (n : Int) = 0 := by rw [ge, hin]; rfl
    rw [hv, he]
    rw [hin] at K
    obtain ⟨b, off, rfl, hc⟩ := hh.2 (by omega)
    have hck := hc (n / 8) (by omega)
    have hlt := byteN_lt hby (n / 8)
    rw [← byteN_int hby] at hck
    have hr8 : n % 8 < 8 := Nat.mod_lt _ (by omega)
    obtain ⟨hp0, hp1⟩ := pow_bd hr8
    have hA := u8_and_nat (byteN zs (n / 8)) (2 ^ (n % 8)) hlt hp1
    rw [bit_and hlt hr8] at hA
    have M : Hid (∀ w, Calls Try.prog 26 #[.int .i64 (n : Int)] w fun e w' => e = .returned (.int .u8 ((2 ^ (n % 8) : Nat) : Int)) ∧ w' = w) := fun w => mask_same n w (by omega) _ rfl
    have HB : Hid (bitAt zs n = tb (byteN zs (n / 8)) (n % 8)) := rfl
    generalize bitAt zs n = B at *
    generalize byteN zs (n / 8) = x at *
    generalize 2 ^ (n % 8) = p at *
    clear hc hh hby hin hv he
    cases hB : tb x (n % 8)
    · rw [hB] at hA HB
      have hA' : bits .and .u8 (x : Int) (p : Int) = 0 := by simpa using hA
      clear hA hB
      go_enter Try.func10, Try.ntmps10
      go_wp2_with (go_at_call 25; refine (unhide K _).mono ?_; rintro e w' ⟨rfl, rfl⟩)
      go_quiet ((go_at_call 26; exact Calls.quiet_of_same (unhide M _)))
      go_wp2
      go_ret2
      exact ⟨ret_zero HB.out.symm rfl, _, rfl⟩
    · rw [hB] at hA HB
      have hA' : bits .and .u8 (x : Int) (p : Int) = (p : Int) := by simpa using hA
      have hp' : ¬ (p : Int) = 0 := by omega
      clear hA hB
      go_enter Try.func10, Try.ntmps10
      go_wp2_with (go_at_call 25; refine (unhide K _).mono ?_; rintro e w' ⟨rfl, rfl⟩)
      go_quiet ((go_at_call 26; exact Calls.quiet_of_same (unhide M _)))
      go_wp2
      go_ret2
      exact ⟨ret_zero (by rw [HB.out]; simpa using hp') rfl, _, rfl⟩
  · have hin' : inB len i = false := by simpa using hin
    have hv : gv len zs i = false := by rw [gv, hin']; rfl
    have he : ge len i = 2 := by rw [ge, hin']; rfl
    rw [hv, he]
    rw [hin'] at K
    clear hh hby hin hin' hv he
    go_enter Try.func10, Try.ntmps10
    go_wp2_with (go_at_call 25; refine (unhide K _).mono ?_; rintro e w' ⟨rfl, rfl⟩)
    go_ret2
    exact ⟨rfl, 0, rfl⟩

theorem refGet_any (a : Option Addr) (len cap : Nat) (zs : List Int) (i : Int) (w : World) (hh : Has w a len zs) (hby : ∀ z ∈ zs, 0 ≤ z ∧ z ≤ 255) (hl : len ≤ 140737488355328) :
    Calls Try.prog 11 #[.slice a len cap, .int .i64 i] w fun e w' => e = .returned (.tuple #[.bool (gv len zs i), .int .i64 (ge len i)]) ∧ w = w' := by
  by_cases hin : inB len i = true
  · obtain ⟨n, rfl, hn⟩ := inB_nat hin
    have hv : gv len zs (n : Int) = bitAt zs n := by rw [gv, hin, Int.toNat_natCast, Bool.true_and]
    have he : ge len (n : Int) = 0 := by rw [ge, hin]; rfl
    rw [hv, he]
    have K := hide (bit_any a len cap zs n w hh hby hl hn)
    generalize bitAt zs n = B at *
    clear hh hby hin hv he
    go_enter Try.func11, Try.ntmps11
    go_wp2_with (go_at_call 27; refine (unhide K).mono ?_; rintro e w' ⟨rfl, rfl⟩)
    go_ret2
    exact ⟨rfl, rfl⟩
  · have hin' : inB len i = false := by simpa using hin
    have hv : gv len zs i = false := by rw [gv, hin']; rfl
    have he : ge len i = 2 := by rw [ge, hin']; rfl
    rw [hv, he]
    have ho : i < 0 ∨ 8 * (len : Int) ≤ i := by simp [inB] at hin'; omega
    clear hh hby hin hin' hv he
    rcases ho with ho | ho
    · go_enter Try.func11, Try.ntmps11
      go_wp2
      go_ret2
      exact ⟨rfl, rfl⟩
    · by_cases h0 : i < 0
      · go_enter Try.func11, Try.ntmps11
        go_wp2
        go_ret2
        exact ⟨rfl, rfl⟩
      · go_enter Try.func11, Try.ntmps11
        go_wp2
        go_ret2
        exact ⟨rfl, rfl⟩

/-- What Count answers. -/
def cv (len : Nat) (zs : List Int) (f t : Int) : Int := if inP len f t then ((cntB zs f.toNat (t.toNat - f.toNat) : Nat) : Int) else 0
def ce (len : Nat) (f t : Int) : Int := if inP len f t then 0 else 2

/-- What First answers. -/
def fv (len : Nat) (zs : List Int) (f t : Int) : Int := if inP len f t then (if gapB zs f.toNat (t.toNat - f.toNat) < t.toNat - f.toNat then ((f.toNat + gapB zs f.toNat (t.toNat - f.toNat) : Nat) : Int) else 0) else 0
def fe (len : Nat) (zs : List Int) (f t : Int) : Int := if inP len f t then (if gapB zs f.toNat (t.toNat - f.toNat) < t.toNat - f.toNat then 0 else 11) else 2

theorem fv_nat {len : Nat} (zs : List Int) {m n : Nat} (h : inP len (m : Int) (n : Int) = true) : fv len zs (m : Int) (n : Int) = (if gapB zs m (n - m) < n - m then ((m + gapB zs m (n - m) : Nat) : Int) else 0) := by
  rw [fv, if_pos h]
  rfl

theorem fe_nat {len : Nat} (zs : List Int) {m n : Nat} (h : inP len (m : Int) (n : Int) = true) : fe len zs (m : Int) (n : Int) = (if gapB zs m (n - m) < n - m then 0 else 11) := by
  rw [fe, if_pos h]
  rfl

set_option maxHeartbeats 1000000 in
theorem count_any (a : Option Addr) (len cap : Nat) (zs : List Int) (f t : Int) (w : World) (hh : Has w a len zs) (hby : ∀ z ∈ zs, 0 ≤ z ∧ z ≤ 255) (hl : len ≤ 140737488355328) :
    Calls Try.prog 15 #[.slice a len cap, .int .i64 f, .int .i64 t] w fun e w' => e = .returned (.tuple #[.int .i64 (cv len zs f t), .int .i64 (ce len f t)]) ∧ ∃ m, w' = w.drewN m := by
  have K := hide (fun w => hasPart_any a len cap f t w hl)
  by_cases hin : inP len f t = true
  · obtain ⟨m, n, rfl, rfl, hmn, hn⟩ := inP_nat hin
    have hv : cv len zs (m : Int) (n : Int) = ((cntB zs m (n - m) : Nat) : Int) := by rw [cv, if_pos hin]; rfl
    have he : ce len (m : Int) (n : Int) = 0 := by rw [ce, hin]; rfl
    rw [hv, he]
    rw [hin] at K
    have HH := hide hh
    have HB := hide hby
    clear hh hby hin hv he
    go_enter Try.func15, Try.ntmps15
    go_wp2_with (go_at_call 28; refine (unhide K _).mono ?_; rintro e w' ⟨rfl, rfl⟩)
    clear K
    go_loopw [8, 9] (fun c j wr => ∃ q : Nat, m < 8 * q + 8 ∧ 8 * q < n + 8 ∧ j = .int .i64 (q : Int) ∧ c = .int .i64 ((cntB zs m (min (8 * q) n - m) : Nat) : Int) ∧ Hid (∃ k, wr = w.drewN k)) (fun _ j _ => n + 8 - 8 * (intOf j).toNat)
    case atStart => exact ⟨m / 8, by omega, by omega, by simp, by rw [show min (8 * (m / 8)) n - m = 0 by omega]; rfl, 0, rfl⟩
    case round =>
      obtain ⟨q, hq1, hq2, rfl, rfl, hw⟩ := hrel
      have hcl := cntB_le zs m (min (8 * q) n - m)
      by_cases hlt : 8 * q < n
      · have HS := hide (cntB_step zs HB.out m n q hq1 hlt hmn)
        obtain ⟨b, off, rfl, hc⟩ := HH.out.2 (by omega)
        have hck : wr.cell? ⟨b, off + q, none⟩ = some (.int .u8 ((byteN zs q : Nat) : Int)) := by
          obtain ⟨k, rfl⟩ := hw.out
          rw [byteN_int HB.out]
          exact hc q (by omega)
        have hlt8 := byteN_lt HB.out q
        have P1 := hide (fun w => partMask_any q m n w hq1 hlt (by omega))
        have hPl := PM_lt (m - 8 * q) (min (n - 8 * q) 8)
        have hA := u8_and_nat _ _ hlt8 hPl
        have hxl : byteN zs q &&& PM (m - 8 * q) (min (n - 8 * q) 8) < 256 := Nat.lt_of_le_of_lt Nat.and_le_right hPl
        have hpl : pc (byteN zs q &&& PM (m - 8 * q) (min (n - 8 * q) 8)) ≤ 8 := pc_le
        have P2 := hide (fun w => ones_any _ w hxl)
        generalize byteN zs q &&& PM (m - 8 * q) (min (n - 8 * q) 8) = y at *
        generalize PM (m - 8 * q) (min (n - 8 * q) 8) = y2 at *
        generalize byteN zs q = x at *
        generalize pc y = y3 at *
        generalize cntB zs m (min (8 * q) n - m) = c0 at *
        have hqq : (q : Int) < (len : Int) := by omega
        have hlt' : 8 * (q : Int) < (n : Int) := by omega
        clear hc hlt
        go_wp2
        go_quiet (first
          | (go_at_call 30; exact Calls.quiet_of (unhide P1 _))
          | (go_at_call 29; exact Calls.quiet_of_same (unhide P2 _)))
        go_wp2
        refine ⟨⟨q + 1, by omega, by omega, by go_num, val_int (by rw [HS.out]; omega), ?_⟩, by simp [intOf]; omega⟩
        obtain ⟨k, rfl⟩ := hw.out
        exact ⟨_, World.drewN_drewN _ _ _⟩
      · have hlt' : ¬ 8 * (q : Int) < (n : Int) := by omega
        have HE : Hid (cntB zs m (min (8 * q) n - m) = cntB zs m (n - m)) := by show _ = _; rw [show min (8 * q) n = n by omega]
        generalize cntB zs m (min (8 * q) n - m) = c0 at *
        go_wp2
        go_ret2
        exact ⟨ret_two (by rw [HE.out]) rfl, hw.out⟩
  · have hin' : inP len f t = false := by simpa using hin
    have hv : cv len zs f t = 0 := by rw [cv, hin']; rfl
    have he : ce len f t = 2 := by rw [ce, hin']; rfl
    rw [hv, he]
    rw [hin'] at K
    clear hh hby hin hin' hv he
    go_enter Try.func15, Try.ntmps15
    go_wp2_with (go_at_call 28; refine (unhide K _).mono ?_; rintro e w' ⟨rfl, rfl⟩)
    go_ret2
    exact ⟨rfl, 0, rfl⟩

set_option maxHeartbeats 1000000 in
theorem refCount_any (a : Option Addr) (len cap : Nat) (zs : List Int) (f t : Int) (w : World) (hh : Has w a len zs) (hby : ∀ z ∈ zs, 0 ≤ z ∧ z ≤ 255) (hl : len ≤ 140737488355328) :
    Calls Try.prog 16 #[.slice a len cap, .int .i64 f, .int .i64 t] w fun e w' => e = .returned (.tuple #[.int .i64 (cv len zs f t), .int .i64 (ce len f t)]) ∧ w = w' := by
  have K := hide (fun w => bad_any a len cap f t w hl)
  by_cases hin : inP len f t = true
  · obtain ⟨m, n, rfl, rfl, hmn, hn⟩ := inP_nat hin
    have hv : cv len zs (m : Int) (n : Int) = ((cntB zs m (n - m) : Nat) : Int) := by rw [cv, if_pos hin]; rfl
    have he : ce len (m : Int) (n : Int) = 0 := by rw [ce, hin]; rfl
    rw [hv, he]
    rw [hin] at K
    have KB : Hid (∀ i, i < 8 * len → Calls Try.prog 27 #[.slice a len cap, .int .i64 (i : Int)] w fun e w' => e = .returned (.bool (bitAt zs i)) ∧ w = w') := fun i hi => bit_any a len cap zs i w hh hby hl hi
    clear hh hby hin hv he
    go_enter Try.func16, Try.ntmps16
    go_wp2_with (go_at_call 31; refine (unhide K _).mono ?_; rintro e w' ⟨rfl, rfl⟩)
    clear K
    go_loop [8, 9] (fun c j => ∃ q : Nat, m + q ≤ n ∧ j = .int .i64 ((m + q : Nat) : Int) ∧ c = .int .i64 ((cntB zs m q : Nat) : Int)) (fun _ j => n - (intOf j).toNat)
    case atStart => exact ⟨0, by omega, rfl, rfl⟩
    case round =>
      obtain ⟨q, hq, rfl, rfl⟩ := hrel
      have hcl := cntB_le zs m q
      by_cases hlt : m + q < n
      · have HS : Hid (cntB zs m (q + 1) = cntB zs m q + if bitAt zs (m + q) then 1 else 0) := rfl
        have P := hide (unhide KB (m + q) (by omega))
        generalize cntB zs m q = c0 at *
        cases hb : bitAt zs (m + q)
        · rw [hb] at HS P
          go_wp2_with (go_at_call 27; refine (unhide P).mono ?_; rintro e w' ⟨rfl, rfl⟩)
          exact ⟨⟨q + 1, by omega, by go_num, by rw [HS.out]; rfl⟩, by simp [intOf]; omega⟩
        · rw [hb] at HS P
          go_wp2_with (go_at_call 27; refine (unhide P).mono ?_; rintro e w' ⟨rfl, rfl⟩)
          exact ⟨⟨q + 1, by omega, by go_num, by rw [HS.out]; rfl⟩, by simp [intOf]; omega⟩
      · obtain rfl : q = n - m := by omega
        go_wp2
        go_ret2
        exact ⟨rfl, rfl⟩
  · have hin' : inP len f t = false := by simpa using hin
    have hv : cv len zs f t = 0 := by rw [cv, hin']; rfl
    have he : ce len f t = 2 := by rw [ce, hin']; rfl
    rw [hv, he]
    rw [hin'] at K
    clear hh hby hin hin' hv he
    go_enter Try.func16, Try.ntmps16
    go_wp2_with (go_at_call 31; refine (unhide K _).mono ?_; rintro e w' ⟨rfl, rfl⟩)
    go_ret2
    exact ⟨rfl, rfl⟩

set_option maxHeartbeats 1000000 in
theorem refFirst_any (a : Option Addr) (len cap : Nat) (zs : List Int) (f t : Int) (w : World) (hh : Has w a len zs) (hby : ∀ z ∈ zs, 0 ≤ z ∧ z ≤ 255) (hl : len ≤ 140737488355328) :
    Calls Try.prog 18 #[.slice a len cap, .int .i64 f, .int .i64 t] w fun e w' => e = .returned (.tuple #[.int .i64 (fv len zs f t), .int .i64 (fe len zs f t)]) ∧ w = w' := by
  have K := hide (fun w => bad_any a len cap f t w hl)
  by_cases hin : inP len f t = true
  · obtain ⟨m, n, rfl, rfl, hmn, hn⟩ := inP_nat hin
    have hv := hide (fv_nat zs hin)
    have he := hide (fe_nat zs hin)
    rw [hin] at K
    have KB : Hid (∀ i, i < 8 * len → Calls Try.prog 27 #[.slice a len cap, .int .i64 (i : Int)] w fun e w' => e = .returned (.bool (bitAt zs i)) ∧ w = w') := fun i hi => bit_any a len cap zs i w hh hby hl hi
    clear hh hby hin
    generalize fv len zs (m : Int) (n : Int) = V at *
    generalize fe len zs (m : Int) (n : Int) = E at *
    go_enter Try.func18, Try.ntmps18
    go_wp2_with (go_at_call 31; refine (unhide K _).mono ?_; rintro e w' ⟨rfl, rfl⟩)
    clear K
    go_loop [8] (fun j => ∃ q : Nat, m + q ≤ n ∧ j = .int .i64 ((m + q : Nat) : Int) ∧ Hid (∀ k, k < q → bitAt zs (m + k) = true)) (fun j => n - (intOf j).toNat)
    case atStart => exact ⟨0, by omega, rfl, fun k hk => by omega⟩
    case round =>
      obtain ⟨q, hq, rfl, ha⟩ := hrel
      by_cases hlt : m + q < n
      · have P := hide (unhide KB (m + q) (by omega))
        cases hb : bitAt zs (m + q)
        · have hg := hide (gapB_eq zs m (n - m) q (by omega) ha.out hb)
          rw [hb] at P
          clear hb
          go_wp2_with (go_at_call 27; refine (unhide P).mono ?_; rintro e w' ⟨rfl, rfl⟩)
          go_ret2
          refine ⟨ret_two ?_ ?_, rfl⟩
          · rw [hv.out, hg.out, if_pos (by omega)]; simp
          · rw [he.out, hg.out, if_pos (by omega)]
        · have ha' : Hid (∀ k, k < q + 1 → bitAt zs (m + k) = true) := by
            intro k hk
            by_cases hkq : k = q
            · subst hkq; exact hb
            · exact ha.out k (by omega)
          rw [hb] at P
          clear hb
          go_wp2_with (go_at_call 27; refine (unhide P).mono ?_; rintro e w' ⟨rfl, rfl⟩)
          exact ⟨⟨q + 1, by omega, by go_num, ha'⟩, by simp [intOf]; omega⟩
      · obtain rfl : q = n - m := by omega
        have hg := hide (gapB_none zs m (n - m) ha.out)
        go_wp2
        go_ret2
        refine ⟨ret_two ?_ ?_, rfl⟩
        · rw [hv.out, hg.out, if_neg (by omega)]
        · rw [he.out, hg.out, if_neg (by omega)]
  · have hin' : inP len f t = false := by simpa using hin
    have hv : fv len zs f t = 0 := by rw [fv, hin']; rfl
    have he : fe len zs f t = 2 := by rw [fe, hin']; rfl
    rw [hv, he]
    rw [hin'] at K
    clear hh hby hin hin' hv he
    go_enter Try.func18, Try.ntmps18
    go_wp2_with (go_at_call 31; refine (unhide K _).mono ?_; rintro e w' ⟨rfl, rfl⟩)
    go_ret2
    exact ⟨rfl, rfl⟩

end Go.Proofs.Ytdgddlgdmkkejaa
