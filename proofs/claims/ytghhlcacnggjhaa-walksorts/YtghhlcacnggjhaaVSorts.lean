/- The walk of WalkSorts. -/
import Derived.Test.YtghhlcacnggjhaaVWakes
import Derived.Test.YtghhlcacnggjhaaVOrder
import Derived.Test.YtghhlcacnggjhaaVReg
namespace Go.Proofs.Ytghhlcacnggjhaa
open Go.RowKit Go.Shelf
set_option linter.unusedVariables false
set_option maxRecDepth 100000

/-- What WalkSorts holds: the list that came in, and its order. -/
def SoI (w : World) (a : Option Addr) (n : Nat) (xs : List (List UInt8)) (al : Option Addr) (m : Nat) (ys : List (List UInt8)) (wr : World) : Prop :=
  HasS wr a n xs ∧ HasS wr al m ys ∧ Below w.heap.size w wr

theorem SoI.later {w : World} {a : Option Addr} {n : Nat} {xs : List (List UInt8)} {al : Option Addr} {m : Nat} {ys : List (List UInt8)} {wr w' : World} (h : SoI w a n xs al m ys wr) (hb : Below wr.heap.size wr w') : SoI w a n xs al m ys w' :=
  ⟨h.1.below hb (Nat.le_refl _), h.2.1.below hb (Nat.le_refl _), h.2.2.trans (hb.mono h.2.2.size)⟩

theorem SoI.drewN {w : World} {a : Option Addr} {n : Nat} {xs : List (List UInt8)} {al : Option Addr} {m : Nat} {ys : List (List UInt8)} {wr : World} (h : SoI w a n xs al m ys wr) (q : Nat) : SoI w a n xs al m ys (wr.drewN q) :=
  ⟨h.1, h.2.1, h.2.2.os, h.2.2.tape, h.2.2.output, h.2.2.size, h.2.2.block⟩

/-- How often x stands among the first k of ys. -/
def cnt (ys : List (List UInt8)) (x : List UInt8) (k : Nat) : Nat := (ys.take k).countP (fun y => y == x)

theorem cnt_succ (ys : List (List UInt8)) (x : List UInt8) (k : Nat) (hk : k < ys.length) : cnt ys x (k + 1) = cnt ys x k + if ys[k]?.getD [] = x then 1 else 0 := by
  unfold cnt
  rw [List.take_add_one, List.countP_append, List.getElem?_eq_getElem hk]
  simp [List.countP_cons]

theorem cnt_le (ys : List (List UInt8)) (x : List UInt8) (k : Nat) : cnt ys x k ≤ k := by
  unfold cnt
  refine Nat.le_trans List.countP_le_length ?_
  simp; omega

theorem cnt_one {xs ys : List (List UInt8)} (h : IsOrd xs ys) {x : List UInt8} (hx : x ∈ xs) : cnt ys x ys.length = 1 := by
  unfold cnt
  rw [List.take_length]
  have hm := (h.2.1 x).2 hx
  have hn : ys.Nodup := by
    refine h.1.imp ?_
    intro a b hab e
    subst e
    unfold cmT at hab
    rw [cmN_refl] at hab
    omega
  have := hn.count (a := x)
  rw [if_pos hm] at this
  exact this

theorem abo_no {xs ys : List (List UInt8)} (h : IsOrd xs ys) {i k : Nat} (hik : i < k) (hk : k < ys.length) {ns ms : List (List UInt8)} (h1 : spl (ys[k]?.getD []) = some ns) (h2 : spl (ys[i]?.getD []) = some ms) : abo ns ms = false := by
  have hlt := (List.pairwise_iff_getElem.1 h.1) i k (by omega) hk hik
  rw [List.getElem?_eq_getElem hk] at h1
  rw [List.getElem?_eq_getElem (by omega)] at h2
  simp only [Option.getD_some] at h1 h2
  unfold cmT at hlt
  rw [(spl_some h2).2.2, (spl_some h1).2.2] at hlt
  cases hq : abo ns ms with
  | false => rfl
  | true =>
    unfold abo at hq
    simp only [Bool.and_eq_true, decide_eq_true_eq] at hq
    exfalso
    have : ∀ (a b : List (List UInt8)), a.length ≤ b.length → a = b.take a.length → ¬ cmN b a < 0 := by
      intro a
      induction a with
      | nil => intro b _ _; cases b <;> simp [cmN]
      | cons x a ih =>
        intro b hl he
        cases b with
        | nil => simp at hl
        | cons y b =>
          simp only [List.length_cons, List.take_succ_cons, List.cons.injEq] at he
          unfold cmN
          rw [if_pos he.1.symm]
          exact ih b (by simpa using hl) he.2
    exact this ns ms hq.1 hq.2 hlt

set_option maxHeartbeats 1000000 in
theorem sorts_many (a : Option Addr) (n c : Nat) (w : World) (hn : 40 < n) (hl : n ≤ 8796093021952) :
    Calls Try.prog 6 #[.slice a n c] w fun e w' => e = .returned (.bool true) ∧ Below w.heap.size w w' := by
  have KW := hide (wakes_any w)
  have d1 : decide ((n : Int) > 40) = true := by simp; omega
  go_enter Try.func6, Try.ntmps6
  go_wp2_with fail
  refine (unhide KW).mono ?_
  rintro e w1 ⟨rfl, hb⟩
  have HB := hide hb
  clear KW hb
  go_wp2_with fail
  go_ret
  exact ⟨rfl, HB.out⟩

set_option maxHeartbeats 1000000 in
theorem sorts_no (a : Option Addr) (n c : Nat) (xs : List (List UInt8)) (w : World) (h : HasS w a n xs) (hn : n ≤ 40) (hm : ∀ j : Nat, (xs[j]?.getD []).length ≤ 9223372036854775807) (hx : ¬ ∀ p ∈ xs, okP p) :
    Calls Try.prog 6 #[.slice a n c] w fun e w' => e = .returned (.bool true) ∧ Below w.heap.size w w' := by
  have KW := hide (wakes_any w)
  have KO : Hid (∀ u, Below w.heap.size w u → Calls Try.prog 18 #[.slice a n c] u fun e w' => e = .returned (.tuple #[.slice none 0 0, .int .i64 16]) ∧ Below u.heap.size u w') := by
    intro u hb
    refine (order_any a n c xs u (h.below hb (Nat.le_refl _)) (by omega) hm).mono ?_
    rintro e w' ⟨h1 | h1, h2⟩
    · exact absurd h1.1 hx
    · exact ⟨h1.2, h2⟩
  have d1 : decide ((n : Int) > 40) = false := by simp; omega
  clear h hm hx
  go_enter Try.func6, Try.ntmps6
  go_wp2_with fail
  refine (unhide KW).mono ?_
  rintro e w1 ⟨rfl, hb⟩
  have HB := hide hb
  have KO := hide (KO.out w1 hb)
  clear KW hb
  go_wp2_with fail
  refine (unhide KO).mono ?_
  rintro e w2 ⟨rfl, hb⟩
  have HB := hide (HB.out.trans (hb.mono HB.out.size))
  clear KO hb
  go_wp2_with fail
  go_ret
  exact ⟨rfl, HB.out⟩

set_option maxHeartbeats 8000000 in
theorem sorts_yes (a : Option Addr) (n c : Nat) (xs : List (List UInt8)) (w : World) (h : HasS w a n xs) (hn : n ≤ 40) (hm : ∀ j : Nat, (xs[j]?.getD []).length ≤ 9223372036854775807) (hx : ∀ p ∈ xs, okP p) :
    Calls Try.prog 6 #[.slice a n c] w fun e w' => e = .returned (.bool true) ∧ Below w.heap.size w w' := by
  have KW := hide (wakes_any w)
  have KO : Hid (∀ (b : Option Addr) (k cc : Nat) (zs : List (List UInt8)) (u : World), HasS u b k zs → k ≤ 40 → (∀ p ∈ zs, p ∈ xs) → Calls Try.prog 18 #[.slice b k cc] u fun e w' => (∃ a' c' ys, e = .returned (.tuple #[.slice a' ys.length c', .int .i64 0]) ∧ IsOrd zs ys ∧ HasS w' a' ys.length ys) ∧ Below u.heap.size u w') := by
    intro b k cc zs u h1 h2 h3
    refine (order_any b k cc zs u h1 (by omega) (fun j => ?_)).mono ?_
    · cases hj : zs[j]? with
      | none => simp
      | some y => have := okP_len (hx y (h3 y (List.mem_of_getElem? hj))); simp; omega
    · rintro e w' ⟨⟨h4, a', c', ys, rfl, h5, h6⟩ | ⟨h4, _⟩, hb⟩
      · exact ⟨⟨a', c', ys, rfl, h5, h6.has⟩, hb⟩
      · exact absurd (fun p hp => hx p (h3 p hp)) h4
  have hlen := h.1
  have HH := hide h
  have HX := hide hx
  have d1 : decide ((n : Int) > 40) = false := by simp; omega
  clear h hm hx
  go_enter Try.func6, Try.ntmps6
  go_wp2_with fail
  refine (unhide KW).mono ?_
  rintro e w1 ⟨rfl, hb⟩
  have HB := hide hb
  have K1 := hide (KO.out a n c xs w1 (HH.out.below hb (Nat.le_refl _)) hn (fun p h => h))
  clear KW hb
  go_wp2_with fail
  refine (unhide K1).mono ?_
  rintro e w2 ⟨⟨al, cl, ys, rfl, ho, hh⟩, hb⟩
  have HI : Hid (SoI w a n xs al ys.length ys w2) := ⟨(HH.out.below HB.out (Nat.le_refl _)).below hb (Nat.le_refl _), hh, HB.out.trans (hb.mono HB.out.size)⟩
  have HO := hide ho
  have hml : ys.length ≤ n := by have := ho.2.2; omega
  have hyl := hide (Eq.refl ys.length)
  clear K1 hb hh ho HB HH
  generalize hM : ys.length = m at *
  go_wp2_with fail
  have HW2 : Hid (OwnS w2.heap.size w2 none 0 0 (xs.reverse.take 0)) := OwnS.nil _ _
  have HL : Hid (∀ wr, Below w2.heap.size w2 wr → SoI w a n xs al m ys wr) := fun wr hb => HI.out.later hb
  have HBr : Hid (Below w2.heap.size w2 w2) := Below.refl _ _
  have HB2 := hide (Nat.le_refl w2.heap.size)
  clear HI
  generalize hB2 : w2.heap.size = B at HW2 HL HBr
  go_loopw [6, 5] (fun iv l wr => ∃ (k : Nat) (i : Int) (ab : Option Addr) (cb : Nat), k ≤ n ∧ i = (n : Int) - 1 - (k : Int) ∧ iv = .int .i64 i ∧ l = .slice ab k cb ∧ Hid (OwnS B wr ab k cb (xs.reverse.take k) ∧ Below B w2 wr)) (fun iv _ _ => (intOf iv + 1).toNat)
  case atStart => exact ⟨0, (n : Int) - 1, none, 0, Nat.zero_le _, by omega, rfl, rfl, HW2.out, HBr.out⟩
  case round =>
    clear HW2 HBr
    obtain ⟨k, i, ab, cb, hk, hi, rfl, rfl, hI⟩ := hrel
    have HS := hide (HL.out wr hI.out.2)
    have hBs : B ≤ wr.heap.size := by have := hI.out.2.size; omega
    by_cases hlt : k < n
    · obtain ⟨i', rfl⟩ : ∃ i' : Nat, i = (i' : Int) := ⟨n - 1 - k, by omega⟩
      obtain ⟨b, o, hab, hcl⟩ := HS.out.1.cell (j := i') (by omega)
      subst hab
      obtain ⟨a3, c3, w3, R3, o3, _, b3⟩ := app1S hI.out.1 hBs (xs[i']?.getD []) (by omega)
      have hx3 : xs.reverse.take k ++ [xs[i']?.getD []] = xs.reverse.take (k + 1) := by
        rw [List.take_add_one, List.getElem?_reverse (by omega), show xs.length - 1 - k = i' by omega, List.getElem?_eq_getElem (by omega)]
        rfl
      rw [hx3] at o3
      have HI : Hid (OwnS B w3 a3 (k + 1) c3 (xs.reverse.take (k + 1)) ∧ Below B w2 w3) := ⟨o3, hI.out.2.trans b3⟩
      unfold sv at hcl
      have R3 := hide R3
      clear hI o3 b3 hx3 HS
      generalize xs[i']?.getD [] = x at *
      generalize St x = sx at *
      have c1 : (0 : Int) ≤ (i' : Int) := by omega
      have c2 : (i' : Int) < (n : Int) := by omega
      have hi' := hide hi
      clear hi hB2 hBs
      go_wp2_with (at_builtin; refine wpList_append_run 22 rfl _ _ rfl _ _ _ rfl rfl (unhide R3) ?_; clear R3)
      go_roundw
      case rel => exact ⟨k + 1, (i' : Int) - 1, a3, c3, by omega, by have := hi'.out; omega, by go_num, rfl, HI⟩
      case measure => simp [intOf]
    · obtain rfl : k = n := by omega
      obtain rfl : i = -1 := by omega
      have hrv : xs.reverse.take k = xs.reverse := List.take_of_length_le (by simp; omega)
      have hO := hI.out.1
      rw [hrv] at hO
      have K2 := hide (KO.out ab k cb xs.reverse wr hO.has hn (fun p h => List.mem_reverse.1 h))
      clear hI hrv hO hB2 hBs HL HB2 hi
      go_wp2_with fail
      refine (unhide K2).mono ?_
      rintro e w4 ⟨⟨a4, c4, zs, rfl, h4, hh4⟩, hb⟩
      obtain rfl : zs = ys := h4.unique HO.out (fun p => List.mem_reverse)
      have HS := hide (HS.out.later hb)
      have H4 := hide hh4
      have K3 := hide (KO.out al m cl zs w4 HS.out.2.1 (by omega) (fun p h => (HO.out.2.1 p).1 h))
      clear K2 hb hh4 h4
      rw [hM] at H4 ⊢
      go_wp2_with fail
      refine (unhide K3).mono ?_
      rintro e w5 ⟨⟨a5, c5, vs, rfl, h5, hh5⟩, hb⟩
      obtain rfl : vs = zs := h5.unique HO.out (HO.out.2.1)
      have H4 := hide (H4.out.below hb (Nat.le_refl _))
      have HS := hide (HS.out.later hb)
      have H5 := hide hh5
      clear K3 hb hh5 h5 KO
      rw [hM] at H5 ⊢
      have KE := hide (sameT_true al a4 m cl c4 vs w5 HS.out.2.1 H4.out (by omega))
      have KF : Hid (∀ q, Calls Try.prog 15 #[.slice al m cl, .slice a5 m c5] (w5.drewN q) fun e w' => e = .returned (.bool true) ∧ ∃ q', w' = w5.drewN q') := by
        intro q
        refine (sameT_true al a5 m cl c5 vs (w5.drewN q) HS.out.2.1 H5.out (by omega)).mono ?_
        rintro e w' ⟨rfl, q', rfl⟩
        exact ⟨rfl, _, World.drewN_drewN _ _ _⟩
      have d5 : decide ((m : Int) > (k : Int)) = false := by simp; omega
      clear H4 H5
      go_wp2_with fail
      refine (unhide KE).mono ?_
      rintro e w6 ⟨rfl, q, rfl⟩
      have KF := hide (KF.out q)
      clear KE
      generalize w5.drewN q = w6 at *
      go_wp2_with fail
      refine (unhide KF).mono ?_
      rintro e w7 ⟨rfl, q', rfl⟩
      have HS := hide (HS.out.drewN q')
      clear KF
      generalize w5.drewN q' = w7 at *
      go_wp2_with fail
      rw [show decide (k < m) = false by simp; omega]
      go_loopw [11] (fun iv wv => ∃ i : Nat, i ≤ k ∧ iv = .int .i64 (i : Int) ∧ Hid (SoI w a k xs al m vs wv)) (fun iv _ => k - (intOf iv).toNat)
      case atStart => exact ⟨0, Nat.zero_le _, rfl, HS⟩
      case round =>
        clear HS
        obtain ⟨i, hi, rfl, hI⟩ := hrel
        by_cases hlt2 : i < k
        · have hlt' : (i : Int) < (k : Int) := by omega
          have h1 : Hid (cnt vs (xs[i]?.getD []) m = 1) := by
            rw [← hM]
            exact cnt_one HO.out (by rw [List.getElem?_eq_getElem (by omega)]; exact List.getElem_mem _)
          go_wp2_with fail
          go_loopw [12, 13] (fun inv kv wv' => ∃ j : Nat, j ≤ m ∧ inv = .int .i64 ((cnt vs (xs[i]?.getD []) j : Nat) : Int) ∧ kv = .int .i64 (j : Int) ∧ Hid (SoI w a k xs al m vs wv')) (fun _ kv _ => m - (intOf kv).toNat)
          case atStart => exact ⟨0, Nat.zero_le _, rfl, rfl, hI⟩
          case round =>
            clear hI
            obtain ⟨j, hj, rfl, rfl, hI⟩ := hrel
            by_cases hlt3 : j < m
            · obtain ⟨b1, o1, hab, e1⟩ := hI.out.1.cell (j := i) hlt2
              obtain ⟨b2, o2, hal, e2⟩ := hI.out.2.1.cell (j := j) hlt3
              subst hab
              subst hal
              have hc := hide (cnt_succ vs (xs[i]?.getD []) j (by omega))
              have hcl := cnt_le vs (xs[i]?.getD []) j
              have dx := St_toList (xs[i]?.getD [])
              have dy := St_toList (vs[j]?.getD [])
              unfold sv at e1 e2
              have hlt3' : (j : Int) < (m : Int) := by omega
              generalize cnt vs (xs[i]?.getD []) j = cj at *
              generalize vs[j]?.getD [] = y at *
              by_cases hxy : y = xs[i]?.getD []
              · have d3 : ((St y).toList == (St (xs[i]?.getD [])).toList) = true := by rw [dx, dy]; simpa using hxy
                have hc' := hc.out
                rw [if_pos hxy] at hc'
                have hc' := hide hc'
                clear hc dx dy hxy h1
                generalize St y = sy at *
                generalize St (xs[i]?.getD []) = sx at *
                go_wp2_with fail
                go_quiet (fail)
                go_wp2_with fail
                go_roundw
                case rel => exact ⟨j + 1, by omega, by rw [hc'.out]; go_num, by go_num, hI.out.drewN _⟩
                case measure => simp [intOf]; omega
              · have d3 : ((St y).toList == (St (xs[i]?.getD [])).toList) = false := by rw [dx, dy]; simpa using hxy
                have hc' := hc.out
                rw [if_neg hxy] at hc'
                have hc' := hide hc'
                clear hc dx dy hxy h1
                generalize St y = sy at *
                generalize St (xs[i]?.getD []) = sx at *
                go_wp2_with fail
                go_quiet (fail)
                go_wp2_with fail
                go_roundw
                case rel => exact ⟨j + 1, by omega, by rw [hc'.out]; rfl, by go_num, hI.out.drewN _⟩
                case measure => simp [intOf]; omega
            · obtain rfl : j = m := by omega
              rw [h1.out]
              go_wp2_with fail
              go_roundw
              case rel => exact ⟨i + 1, by omega, by go_num, hI⟩
              case measure => simp [intOf]; omega
        · obtain rfl : i = k := by omega
          go_wp2_with fail
          go_loopw [14] (fun iv wv => ∃ j : Nat, j ≤ m ∧ iv = .int .i64 (j : Int) ∧ Hid (SoI w a i xs al m vs wv)) (fun iv _ => m - (intOf iv).toNat)
          case atStart => exact ⟨0, Nat.zero_le _, rfl, hI⟩
          case round =>
            clear hI
            obtain ⟨j, hj, rfl, hI⟩ := hrel
            by_cases hlt4 : j < m
            · have hlt4' : (j : Int) < (m : Int) := by omega
              go_wp2_with fail
              go_loopw [15] (fun kv wv' => ∃ t : Nat, j < t ∧ t ≤ m ∧ kv = .int .i64 (t : Int) ∧ Hid (SoI w a i xs al m vs wv')) (fun kv _ => m - (intOf kv).toNat)
              case atStart => exact ⟨j + 1, by omega, by omega, by go_num, hI⟩
              case round =>
                clear hI
                obtain ⟨t, hjt, htm, rfl, hI⟩ := hrel
                by_cases hlt5 : t < m
                · have hlt5' : (t : Int) < (m : Int) := by omega
                  obtain ⟨b1, o1, hal, e1⟩ := hI.out.2.1.cell (j := j) hlt4
                  obtain ⟨b2, o2, hal2, e2⟩ := hI.out.2.1.cell (j := t) hlt5
                  rw [hal] at hal2
                  cases hal2
                  subst hal
                  have hmem : ∀ r, r < m → okP (vs[r]?.getD []) := fun r hr => HX.out _ ((HO.out.2.1 _).1 (by rw [List.getElem?_eq_getElem (by omega)]; exact List.getElem_mem _))
                  obtain ⟨ns, hns⟩ := Option.isSome_iff_exists.1 (hmem t hlt5)
                  obtain ⟨ms, hms⟩ := Option.isSome_iff_exists.1 (hmem j hlt4)
                  have hab := abo_no HO.out hjt (by omega) hns hms
                  have KA : Hid (∀ u, Calls Try.prog 16 #[.string (St (vs[t]?.getD [])), .string (St (vs[j]?.getD []))] u fun e w' => e = .returned (.tuple #[.bool false, .int .i64 0]) ∧ Below u.heap.size u w') := fun u => by
                    have := above_yes u hns hms
                    rwa [hab] at this
                  unfold sv at e1 e2
                  clear hmem hns hms hab
                  generalize St (vs[t]?.getD []) = st at *
                  generalize St (vs[j]?.getD []) = sj at *
                  go_wp2_with fail
                  refine (wpIn_wide (n := 3)).1 ?_
                  refine wpIn_region_call 8 (by kernel_rfl) (by kernel_rfl) ?_
                  simp only [List.take_succ_cons, List.take_zero, List.drop_succ_cons, List.drop_zero]
                  repeat (gi_big_quiet_step (fail))
                  refine wpQuietIn_nil ?_
                  rintro _ ⟨nq, rfl⟩
                  have HS := hide (hI.out.drewN nq)
                  clear e1 e2 hI
                  generalize _root_.Go.World.drewN _ nq = w8 at *
                  gi_wp2
                  refine ⟨trivial, ?_⟩
                  refine (callsIn_wide.2 (unhide KA _)).mono ?_
                  rintro e w9 ⟨rfl, hb⟩
                  have HS := hide (HS.out.later hb)
                  clear KA hb
                  gi_wp2
                  refine rgChk_normal ?_
                  repeat (gi_big_quiet_step (fail))
                  refine wpQuietIn_nil ?_
                  rintro _ ⟨nq2, rfl⟩
                  have HS := hide (HS.out.drewN nq2)
                  generalize w9.drewN nq2 = w10 at *
                  go_wp2_with fail
                  go_roundw
                  case rel => exact ⟨t + 1, by omega, by omega, by go_num, HS⟩
                  case measure => simp [intOf]; omega
                · obtain rfl : t = m := by omega
                  go_wp2_with fail
                  go_roundw
                  case rel => exact ⟨j + 1, by omega, by go_num, hI⟩
                  case measure => simp [intOf]; omega
            · obtain rfl : j = m := by omega
              go_wp2_with fail
              go_ret
              exact ⟨rfl, hI.out.2.2⟩

theorem sorts_walk (a : Option Addr) (n c : Nat) (xs : List (List UInt8)) (w : World) (h : HasS w a n xs) (hc : n ≤ c) (hl : n ≤ 8796093021952) (hm : ∀ j : Nat, (xs[j]?.getD []).length ≤ 9223372036854775807) :
    Calls Try.prog 6 #[.slice a n c] w fun e w' => e = .returned (.bool true) ∧ Below w.heap.size w w' := by
  by_cases hn : n ≤ 40
  · by_cases hx : ∀ p ∈ xs, okP p
    · exact sorts_yes a n c xs w h hn hm hx
    · exact sorts_no a n c xs w h hn hm hx
  · exact sorts_many a n c w (by omega) hl

end Go.Proofs.Ytghhlcacnggjhaa
