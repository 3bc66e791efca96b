/- The walk through BitsTakes. -/
import Derived.Test.YtdgddlgdmkkejaaBWakes
import Derived.Test.YtdgddlgdmkkejaaBFirst
namespace Go.Proofs.Ytdgddlgdmkkejaa
open Go.RowKit Go.Shelf
set_option linter.unusedVariables false

/-- ys is zs with the first bits of the part, ahead of l, turned on. -/
def TK (len : Nat) (zs ys : List Int) (m n l : Nat) : Prop :=
  ys.length = len ∧ (∀ z ∈ ys, 0 ≤ z ∧ z ≤ 255) ∧ m ≤ l ∧ l ≤ n ∧ (∀ i, m ≤ i → i < l → bitAt ys i = true) ∧ (∀ i, l ≤ i → bitAt ys i = bitAt zs i)

theorem TK.start {len : Nat} {zs : List Int} (hlen : zs.length = len) (hby : ∀ z ∈ zs, 0 ≤ z ∧ z ≤ 255) {m n : Nat} (h : m ≤ n) : TK len zs zs m n m :=
  ⟨hlen, hby, Nat.le_refl _, h, fun i h1 h2 => by omega, fun _ _ => rfl⟩

theorem TK.step {len : Nat} {zs ys : List Int} {m n l : Nat} (h : TK len zs ys m n l) (hn : n ≤ 8 * len) (hk : cntB ys m (n - m) < n - m) :
    ∃ i, gapB ys m (n - m) < n - m ∧ m + gapB ys m (n - m) = i ∧ l ≤ i ∧ i < n ∧ i < 8 * len ∧ bitAt zs i = false ∧ cntB (setB ys i true) m (n - m) = cntB ys m (n - m) + 1 ∧ TK len zs (setB ys i true) m n (i + 1) := by
  obtain ⟨h1, h2, h3, h4, h5, h6⟩ := h
  have hg : gapB ys m (n - m) < n - m := by
    have hle := gapB_le ys m (n - m)
    by_cases he : gapB ys m (n - m) = n - m
    · have := cntB_of_all (zs := ys) (f := m) (n := n - m) (fun k hk => gapB_ahead ys m (n - m) k (by omega))
      omega
    · omega
  have hb := gapB_at ys m (n - m) hg
  obtain ⟨i, hi⟩ : ∃ i, m + gapB ys m (n - m) = i := ⟨_, rfl⟩
  rw [hi] at hb
  have hli : l ≤ i := by
    by_cases hc : l ≤ i
    · exact hc
    · have := h5 i (by omega) (by omega)
      rw [hb] at this
      cases this
  have hi8 : i < 8 * ys.length := by omega
  refine ⟨i, hg, hi, hli, by omega, by omega, by rw [← h6 i hli]; exact hb, ?_, ?_⟩
  · rw [cntB_set h2 i hi8 hb, if_pos (by omega)]
  · refine ⟨by rw [setB_length]; exact h1, setB_byts h2 i true, by omega, by omega, fun k hk1 hk2 => ?_, fun k hk => ?_⟩
    · by_cases hki : k = i
      · subst hki; exact bitAt_setB_same h2 k hi8 true
      · rw [bitAt_setB_other h2 i k hi8 hki]
        have := gapB_ahead ys m (n - m) (k - m) (by omega)
        rw [show m + (k - m) = k by omega] at this
        exact this
    · rw [bitAt_setB_other h2 i k hi8 (by omega)]
      exact h6 k (by omega)

theorem TK.none {len : Nat} {zs ys : List Int} {m n l : Nat} (h : TK len zs ys m n l) (hk : ¬ cntB ys m (n - m) < n - m) : ¬ gapB ys m (n - m) < n - m := by
  have := cntB_le ys m (n - m)
  have := gapB_none ys m (n - m) (cntB_all (by omega))
  omega

theorem cv_nat {len : Nat} (zs : List Int) {m n : Nat} (h : inP len (m : Int) (n : Int) = true) : cv len zs (m : Int) (n : Int) = ((cntB zs m (n - m) : Nat) : Int) := by rw [cv, if_pos h]; rfl

set_option maxRecDepth 100000 in
set_option maxHeartbeats 4000000 in
theorem takes_long (a : Option Addr) (len cap : Nat) (f t : Int) (w : World) (h : 40 < len) (hl : len ≤ 140737488351232) :
    Calls Try.prog 6 #[.slice a len cap, .int .i64 f, .int .i64 t] w fun e w' => e = .returned (.bool true) ∧ Below w.heap.size w w' := by
  have KW := hide (wakes_any w)
  have h' : (40 : Int) < (len : Int) := by omega
  go_enter Try.func6, Try.ntmps6
  go_wp2_with ((go_at_call 9; refine (unhide KW).mono ?_; rintro e w1 ⟨rfl, hb1⟩; have B1 := hide hb1; clear hb1))
  go_ret
  exact ⟨rfl, B1.out⟩

set_option maxRecDepth 100000 in
set_option maxHeartbeats 4000000 in
theorem takes_bad (a : Option Addr) (len cap : Nat) (zs : List Int) (f t : Int) (w : World) (hr : Row w.heap.size w a len cap zs) (h : ¬ 40 < len) (hin : inP len f t = false) :
    Calls Try.prog 6 #[.slice a len cap, .int .i64 f, .int .i64 t] w fun e w' => e = .returned (.bool true) ∧ Below w.heap.size w w' := by
  have hby := hr.2.2.2.1
  have KW := hide (wakes_any w)
  have h' : ¬ (40 : Int) < (len : Int) := by omega
  have e1 : cv len zs f t = 0 := by rw [cv, hin]; rfl
  have e2 : ce len f t = 2 := by rw [ce, hin]; rfl
  have e3 : fv len zs f t = 0 := by rw [fv, hin]; rfl
  have e4 : fe len zs f t = 2 := by rw [fe, hin]; rfl
  have KC : Hid (∀ w1, Below w.heap.size w w1 → Calls Try.prog 15 #[.slice a len cap, .int .i64 f, .int .i64 t] w1 fun e w' => e = .returned (.tuple #[.int .i64 0, .int .i64 2]) ∧ Hid (Below w.heap.size w w')) :=
    fun w1 hb => (count_any a len cap zs f t w1 (hr.has.later hb) hby (by omega)).mono fun e w' ⟨h, m, hm⟩ => ⟨by rw [h, e1, e2], by subst hm; exact below_drewN hb m⟩
  have KF : Hid (∀ w1, Below w.heap.size w w1 → Calls Try.prog 17 #[.slice a len cap, .int .i64 f, .int .i64 t] w1 fun e w' => e = .returned (.tuple #[.int .i64 0, .int .i64 2]) ∧ Hid (Below w.heap.size w w')) :=
    fun w1 hb => (first_any a len cap zs f t w1 (hr.has.later hb) hby (by omega)).mono fun e w' ⟨h, m, hm⟩ => ⟨by rw [h, e3, e4], by subst hm; exact below_drewN hb m⟩
  clear e1 e2 e3 e4 hr hby hin
  go_enter Try.func6, Try.ntmps6
  go_wp2_with (first
    | (go_at_call 9; refine (unhide KW).mono ?_; rintro e w1 ⟨rfl, hb1⟩; have B1 := hide hb1; clear hb1)
    | (go_at_call 15; refine (unhide KC _ B1.out).mono ?_; rintro e w2 ⟨rfl, B2⟩)
    | (go_at_call 17; refine (unhide KF _ B2.out).mono ?_; rintro e w3 ⟨rfl, B3⟩))
  go_ret
  exact ⟨rfl, B3.out⟩

set_option maxRecDepth 100000 in
set_option maxHeartbeats 4000000 in
theorem takes_good (a : Option Addr) (len cap : Nat) (zs : List Int) (m n : Nat) (w : World) (hr : Row w.heap.size w a len cap zs) (h : ¬ 40 < len) (hmn : m ≤ n) (hn : n ≤ 8 * len) :
    Calls Try.prog 6 #[.slice a len cap, .int .i64 (m : Int), .int .i64 (n : Int)] w fun e w' => e = .returned (.bool true) ∧ Below w.heap.size w w' := by
  have hby := hr.2.2.2.1
  have hlen := hr.1
  have KW := hide (wakes_any w)
  have h' : ¬ (40 : Int) < (len : Int) := by omega
  have hin := inP_of (len := len) hmn hn
  have hce : ce len (m : Int) (n : Int) = 0 := by rw [ce, hin]; rfl
  have HH := hide hr.has
  have HS := hide (TK.start hlen hby hmn)
  have KC : Hid (∀ w1 a1 c1 ys, Hid (Has w1 a1 len ys) → Hid (∀ z ∈ ys, 0 ≤ z ∧ z ≤ 255) → Hid (Below w.heap.size w w1) → Calls Try.prog 15 #[.slice a1 len c1, .int .i64 (m : Int), .int .i64 (n : Int)] w1 fun e w' => e = .returned (.tuple #[.int .i64 ((cntB ys m (n - m) : Nat) : Int), .int .i64 0]) ∧ Hid (Has w' a1 len ys) ∧ Hid (Below w.heap.size w w')) :=
    fun w1 a1 c1 ys h1 h2 hb => (count_any a1 len c1 ys m n w1 h1.out h2.out (by omega)).mono fun e w' ⟨h, k, hm⟩ => ⟨by rw [h, cv_nat ys hin, hce], by subst hm; exact h1.out.drewN k, by subst hm; exact below_drewN hb.out k⟩
  have KF : Hid (∀ w1 a1 c1 ys, Hid (Has w1 a1 len ys) → Hid (∀ z ∈ ys, 0 ≤ z ∧ z ≤ 255) → Hid (Below w.heap.size w w1) → Hid (gapB ys m (n - m) < n - m) → Calls Try.prog 17 #[.slice a1 len c1, .int .i64 (m : Int), .int .i64 (n : Int)] w1 fun e w' => e = .returned (.tuple #[.int .i64 ((m + gapB ys m (n - m) : Nat) : Int), .int .i64 0]) ∧ Hid (Has w' a1 len ys) ∧ Hid (Below w.heap.size w w')) :=
    fun w1 a1 c1 ys h1 h2 hb hg => (first_any a1 len c1 ys m n w1 h1.out h2.out (by omega)).mono fun e w' ⟨h, k, hm⟩ => ⟨by rw [h, fv_nat ys hin, fe_nat ys hin, if_pos hg.out, if_pos hg.out], by subst hm; exact h1.out.drewN k, by subst hm; exact below_drewN hb.out k⟩
  have KN : Hid (∀ w1 a1 c1 ys, Hid (Has w1 a1 len ys) → Hid (∀ z ∈ ys, 0 ≤ z ∧ z ≤ 255) → Hid (Below w.heap.size w w1) → Hid (¬ gapB ys m (n - m) < n - m) → Calls Try.prog 17 #[.slice a1 len c1, .int .i64 (m : Int), .int .i64 (n : Int)] w1 fun e w' => e = .returned (.tuple #[.int .i64 0, .int .i64 11]) ∧ Hid (Below w.heap.size w w')) :=
    fun w1 a1 c1 ys h1 h2 hb hg => (first_any a1 len c1 ys m n w1 h1.out h2.out (by omega)).mono fun e w' ⟨h, k, hm⟩ => ⟨by rw [h, fv_nat ys hin, fe_nat ys hin, if_neg hg.out, if_neg hg.out], by subst hm; exact below_drewN hb.out k⟩
  have KG : Hid (∀ w1 a1 ys (i : Nat), Hid (Has w1 a1 len ys) → Hid (Below w.heap.size w w1) → i < 8 * len → Hid (bitAt zs i = false) → Calls Try.prog 10 #[.slice a len cap, .int .i64 (i : Int)] w1 fun e w' => e = .returned (.tuple #[.bool false, .int .i64 0]) ∧ Hid (Has w' a1 len ys) ∧ Hid (Below w.heap.size w w')) :=
    fun w1 a1 ys i h1 hb hi hz => (get_any a len cap zs i w1 (HH.out.later hb.out) hby (by omega)).mono fun e w' ⟨h, k, hm⟩ => ⟨by rw [h, gv, ge, inB_of hi, Int.toNat_natCast, hz.out]; rfl, by subst hm; exact h1.out.drewN k, by subst hm; exact below_drewN hb.out k⟩
  have KS : Hid (∀ w1 a1 c1 ys (i : Nat), Hid (Has w1 a1 len ys) → Hid (∀ z ∈ ys, 0 ≤ z ∧ z ≤ 255) → Hid (Below w.heap.size w w1) → i < 8 * len → Calls Try.prog 12 #[.slice a1 len c1, .int .i64 (i : Int), .bool true] w1 fun e w' => ∃ g, e = .returned (.tuple #[.slice (some ⟨g, 0, none⟩) len len, .int .i64 0]) ∧ Hid (Has w' (some ⟨g, 0, none⟩) len (setB ys i true)) ∧ Hid (Below w.heap.size w w')) :=
    fun w1 a1 c1 ys i h1 h2 hb hi => (set_good a1 len c1 ys i true w1 h1.out h2.out (by omega) hi).mono fun e w' ⟨h, h3, h4⟩ => ⟨_, h, h3.out.has (by rw [setB_length]; exact h1.out.1), hb.out.trans (h4.mono hb.out.size)⟩
  have HBY := hide hby
  clear hr hby hlen hce hin
  go_enter Try.func6, Try.ntmps6
  go_wp2_with fail
  go_at_call 9
  refine (unhide KW).mono ?_
  rintro e w1 ⟨rfl, hb1⟩
  have B1 := hide hb1
  clear hb1 KW
  go_wp2_with fail
  go_at_call 15
  refine (unhide KC _ _ _ _ (HH.out.later B1.out) HBY B1).mono ?_
  rintro e w2 ⟨rfl, H2, B2⟩
  clear B1
  obtain ⟨a1, c1, w3, r3, o3, b3⟩ := app_one (c := cap) H2.out (by omega)
  have R := hide r3
  have H3 : Hid (Has w3 a1 len zs) := o3.has
  have B3 : Hid (Below w.heap.size w w3) := B2.out.trans (b3.mono B2.out.size)
  have hc0 := cntB_le zs m (n - m)
  have HC0 : Hid (cntB zs m (n - m) = cntB zs m (n - m)) := rfl
  clear r3 o3 b3 B2 H2 HC0
  go_wp2_with (at_builtin; refine wpList_append_run 22 rfl _ _ rfl _ _ _ rfl rfl (unhide R) ?_)
  go_loopw [11, 12, 13] (fun l s k wr => ∃ (ys : List Int) (L : Nat) (a' : Option Addr) (c' : Nat), l = .int .i64 (L : Int) ∧ s = .slice a' len c' ∧ k = .int .i64 ((cntB ys m (n - m) : Nat) : Int) ∧ Hid (TK len zs ys m n L) ∧ Hid (Has wr a' len ys) ∧ Hid (Below w.heap.size w wr)) (fun _ _ k _ => n - m - (intOf k).toNat)
  case atStart => exact ⟨zs, m, a1, c1, rfl, rfl, rfl, HS, H3, B3⟩
  case round =>
    obtain ⟨ys, L, a', c', rfl, rfl, rfl, hT, hH, hB⟩ := hrel
    have hcl := cntB_le ys m (n - m)
    have HY : Hid (∀ z ∈ ys, 0 ≤ z ∧ z ≤ 255) := hT.out.2.1
    clear H3 B3 R HS hc0
    by_cases hlt : cntB ys m (n - m) < n - m
    · obtain ⟨i, hg, hi, hli, hin, hi8, hz, hc, hT'⟩ := hT.out.step hn hlt
      have HT' := hide hT'
      have KF' := hide (unhide KF wr a' c' ys hH HY hB hg)
      rw [hi] at KF'
      have HC := hide hc
      have HZ := hide hz
      have t1 : ¬ (i : Int) < (L : Int) := by omega
      have t2 : ¬ (n : Int) ≤ (i : Int) := by omega
      clear hT' hc hz hg hi KF KN hT
      generalize cntB ys m (n - m) = C at *
      have t3 : (C : Int) < (n : Int) - (m : Int) := by omega
      go_wp2_with fail
      go_at_call 17
      refine (unhide KF').mono ?_
      rintro e w4 ⟨rfl, H4, B4⟩
      clear KF' hH hB
      go_wp2_with fail
      go_at_call 10
      refine (unhide KG _ _ _ _ H4 B4 hi8 HZ).mono ?_
      rintro e w5 ⟨rfl, H5, B5⟩
      clear KG H4 B4
      go_wp2_with fail
      go_at_call 12
      refine (unhide KS _ _ _ _ _ H5 HY B5 hi8).mono ?_
      rintro e w6 ⟨g, rfl, H6, B6⟩
      clear KS H5 B5
      go_wp2_with fail
      go_at_call 15
      refine (unhide KC _ _ _ _ H6 HT'.out.2.1 B6).mono ?_
      rw [HC.out]
      rintro e w7 ⟨rfl, H7, B7⟩
      clear KC H6 B6
      go_wp2_with fail
      exact ⟨⟨setB ys i true, i + 1, _, _, by go_num, rfl, val_int (by rw [HC.out]; omega), HT', H7, B7⟩, by simp [intOf]; omega⟩
    · have HG := hide (hT.out.none hlt)
      have KN' := hide (unhide KN wr a' c' ys hH HY hB HG)
      clear KF KN KG KS KC hT HG hH hB HY
      generalize cntB ys m (n - m) = C at *
      have t3 : ¬ (C : Int) < (n : Int) - (m : Int) := by omega
      go_wp2_with fail
      go_at_call 17
      refine (unhide KN').mono ?_
      rintro e w4 ⟨rfl, B4⟩
      go_wp2_with fail
      go_ret
      exact ⟨rfl, B4.out⟩

theorem takes_walk (a : Option Addr) (len cap : Nat) (zs : List Int) (f t : Int) (w : World) (hr : Row w.heap.size w a len cap zs) :
    Calls Try.prog 6 #[.slice a len cap, .int .i64 f, .int .i64 t] w fun e w' => e = .returned (.bool true) ∧ Below w.heap.size w w' := by
  by_cases h : 40 < len
  · exact takes_long a len cap f t w h hr.2.2.1.1
  · by_cases hin : inP len f t = true
    · obtain ⟨m, n, rfl, rfl, hmn, hn⟩ := inP_nat hin
      exact takes_good a len cap zs m n w hr h hmn hn
    · exact takes_bad a len cap zs f t w hr h (by simpa using hin)

end Go.Proofs.Ytdgddlgdmkkejaa
