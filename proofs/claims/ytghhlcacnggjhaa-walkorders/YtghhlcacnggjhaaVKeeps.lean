/- The walk of WalkKeeps. -/
import Derived.Test.YtghhlcacnggjhaaVWakes
import Derived.Test.YtghhlcacnggjhaaVOrder
namespace Go.Proofs.Ytghhlcacnggjhaa
open Go.RowKit Go.Shelf
set_option linter.unusedVariables false
set_option maxRecDepth 100000

/-- append(append([]string{}, names...), x). -/
theorem app2H {w : World} {a : Option Addr} {n : Nat} (c : Nat) {xs : List (List UInt8)} (h : HasS w a n xs) (hn : n + 1 ≤ 8796093022208) :
    ∃ a1 c1 w1, (∀ ty, (Builtin.append_ #[22, 22] ty #[.slice (some ⟨w.heap.size, 0, none⟩) 0 0, .slice a n c]).run Try.prog (w.alloc (.cells #[] 9)) = .ok (.slice a1 n c1) w1) ∧ OwnS w.heap.size w1 a1 n c1 xs ∧ Below w.heap.size w w1 := by
  have hb0 : Below w.heap.size w (w.alloc (.cells #[] 9)) := (Below.refl _ w).alloc (Nat.le_refl _) _
  have hO : OwnS w.heap.size (w.alloc (.cells #[] 9)) (some ⟨w.heap.size, 0, none⟩) 0 0 [] := ⟨rfl, Nat.le_refl _, by unfold maxLen; omega, .inr ⟨w.heap.size, #[], rfl, Nat.le_refl _, by rw [World.alloc_heap_new], rfl, rfl⟩⟩
  obtain ⟨a1, c1, w1, r1, o1, _, b1⟩ := run_appS hO hb0.size (m := n) c (h.below hb0 (Nat.le_refl _)) (by omega)
  rw [Nat.zero_add] at r1 o1
  exact ⟨a1, c1, w1, r1, by simpa using o1, hb0.trans b1⟩

/-- What Order answers, in one word. -/
def OrdR (xs ys : List (List UInt8)) (E : Int) : Prop := ((∀ p ∈ xs, okP p) ∧ IsOrd xs ys ∧ E = 0) ∨ ((¬ ∀ p ∈ xs, okP p) ∧ ys = [] ∧ E = 16)

theorem OrdR.unique {xs ys zs : List (List UInt8)} {E F : Int} (h : OrdR xs ys E) (k : OrdR xs zs F) : zs = ys ∧ F = E := by
  rcases h with ⟨h1, h2, h3⟩ | ⟨h1, h2, h3⟩
  · rcases k with ⟨_, k2, k3⟩ | ⟨k1, _⟩
    · exact ⟨k2.unique h2 (fun p => Iff.rfl), by omega⟩
    · exact absurd h1 k1
  · rcases k with ⟨k1, _⟩ | ⟨_, k2, k3⟩
    · exact absurd k1 h1
    · exact ⟨by rw [h2, k2], by omega⟩

theorem OrdR.len {xs ys : List (List UInt8)} {E : Int} (h : OrdR xs ys E) : ys.length ≤ xs.length := by
  rcases h with ⟨_, h2, _⟩ | ⟨_, rfl, _⟩
  · exact h2.2.2
  · simp

theorem OrdR.get {xs ys : List (List UInt8)} {E : Int} (h : OrdR xs ys E) (j : Nat) : (ys[j]?.getD []).length ≤ 200 := by
  rcases h with ⟨h1, h2, _⟩ | ⟨_, rfl, _⟩
  · cases hj : ys[j]? with
    | none => simp
    | some y => exact okP_len (h1 y ((h2.2.1 y).1 (List.mem_of_getElem? hj)))
  · simp

theorem order_r (a : Option Addr) (n c : Nat) (xs : List (List UInt8)) (w : World) (h : HasS w a n xs) (hn : n ≤ 8796093021952) (hm : ∀ j : Nat, (xs[j]?.getD []).length ≤ 9223372036854775807) :
    Calls Try.prog 18 #[.slice a n c] w fun e w' => (∃ a' c' ys E, e = .returned (.tuple #[.slice a' ys.length c', .int .i64 E]) ∧ OrdR xs ys E ∧ OwnS w.heap.size w' a' ys.length c' ys) ∧ Below w.heap.size w w' := by
  refine (order_any a n c xs w h hn hm).mono ?_
  rintro e w' ⟨⟨h1, a', c', ys, rfl, h2, h3⟩ | ⟨h1, rfl⟩, hb⟩
  · exact ⟨⟨a', c', ys, 0, rfl, .inl ⟨h1, h2, rfl⟩, h3⟩, hb⟩
  · exact ⟨⟨none, 0, [], 16, rfl, .inr ⟨h1, rfl, rfl⟩, OwnS.nil _ _⟩, hb⟩

/-- Two lists of the law: the first is written, the second must stay. -/
def TwoL (w0 : World) (B1 B2 : Nat) (al : Option Addr) (L cl : Nat) (am : Option Addr) (cm : Nat) (ns : List (List UInt8)) (wr : World) : Prop :=
  Below B1 w0 wr ∧ (∃ zs, OwnS B1 wr al L cl zs) ∧ OwnS B2 wr am L cm ns ∧ ∀ g, al = some ⟨g, 0, none⟩ → g < B2

theorem set_other {w : World} {g j k : Nat} {v : Value} (h : k ≠ g) : (w.setCell ⟨g, j, none⟩ v).heap[k]? = w.heap[k]? := by
  simp only [World.setCell]
  rw [Array.getElem?_modify, if_neg (fun e => h e.symm)]

theorem TwoL.step {w0 : World} {B1 B2 : Nat} {al : Option Addr} {L cl : Nat} {am : Option Addr} {cm : Nat} {ns : List (List UInt8)} {wr : World} (h : TwoL w0 B1 B2 al L cl am cm ns wr) {i : Nat} (hi : i < L) :
    ∃ gl gm, al = some ⟨gl, 0, none⟩ ∧ am = some ⟨gm, 0, none⟩ ∧ wr.cell? ⟨gm, i, none⟩ = some (sv (ns[i]?.getD [])) ∧ (∃ v, wr.cell? ⟨gl, i, none⟩ = some v) ∧ wr.frozen? ⟨gl, i, none⟩ = false ∧
      ∀ z, TwoL w0 B1 B2 al L cl am cm ns (wr.setCell ⟨gl, i, none⟩ (sv z)) ∧ (wr.setCell ⟨gl, i, none⟩ (sv z)).cell? ⟨gm, i, none⟩ = some (sv (ns[i]?.getD [])) := by
  obtain ⟨h1, ⟨zs, h2⟩, h3, h4⟩ := h
  obtain ⟨gl, rfl, hl1, hl2, hl3, hl4⟩ := h2.cell hi
  obtain ⟨gm, rfl, hm1, hm2, hm3, hm4⟩ := h3.cell hi
  have hlt := h4 gl rfl
  refine ⟨gl, gm, rfl, rfl, hm3, ⟨_, hl3⟩, hl4, fun z => ?_⟩
  have h3' : OwnS B2 (wr.setCell ⟨gl, i, none⟩ (sv z)) (some ⟨gm, 0, none⟩) L cm ns := h3.kept (fun g e => by cases e; exact set_other (by omega))
  refine ⟨⟨⟨h1.os, h1.tape, h1.output, ?_, fun k hk => ?_⟩, ⟨_, h2.set i z⟩, h3', h4⟩, ?_⟩
  · have := h1.size
    simpa [World.setCell] using this
  · rw [set_other (by omega)]; exact h1.block k hk
  · obtain ⟨g', e, _, _, hc, _⟩ := h3'.cell hi
    cases e
    exact hc

theorem St_bang (l : List UInt8) : St l ++ (⟨#[33]⟩ : ByteArray) = St (l ++ [33]) := by
  apply ByteArray.ext
  simp [St]

/-- What WalkKeeps holds throughout: its own list with a mark behind it, the list that came in. -/
def KpI (w : World) (B : Nat) (a2 : Option Addr) (n c2 : Nat) (xs : List (List UInt8)) (a : Option Addr) (u : World) : Prop :=
  OwnS B u a2 (n + 1) c2 (xs ++ [[35]]) ∧ HasS u a n xs ∧ Below w.heap.size w u

theorem KpI.later {w : World} {B : Nat} {a2 : Option Addr} {n c2 : Nat} {xs : List (List UInt8)} {a : Option Addr} {u u' : World} (h : KpI w B a2 n c2 xs a u) (hb : Below u.heap.size u u') : KpI w B a2 n c2 xs a u' :=
  ⟨h.1.below hb (Nat.le_refl _), h.2.1.below hb (Nat.le_refl _), h.2.2.trans (hb.mono h.2.2.size)⟩

theorem KpI.own {w : World} {B : Nat} {a2 : Option Addr} {n c2 : Nat} {xs : List (List UInt8)} {a : Option Addr} {u : World} (h : KpI w B a2 n c2 xs a u) : HasS u a2 n xs := by
  have hl := h.2.1.1
  have := h.1.has.take (k := n) (by omega)
  rwa [← hl, List.take_left, hl] at this

theorem KpI.mark {w : World} {B : Nat} {a2 : Option Addr} {n c2 : Nat} {xs : List (List UInt8)} {a : Option Addr} {u : World} (h : KpI w B a2 n c2 xs a u) : ∃ g, a2 = some ⟨g, 0, none⟩ ∧ u.cell? ⟨g, n, none⟩ = some (.string ⟨#[35]⟩) := by
  have hl := h.2.1.1
  obtain ⟨g, e, _, _, hc, _⟩ := h.1.cell (j := n) (by omega)
  refine ⟨g, e, ?_⟩
  rw [hc, ← hl]
  simp [sv, St]

theorem drew_below (u : World) (q : Nat) : Below u.heap.size u (u.drewN q) := ⟨rfl, rfl, rfl, Nat.le_refl _, fun _ _ => rfl⟩

set_option maxHeartbeats 8000000 in
theorem keeps_walk (p : List UInt8) (a : Option Addr) (n c : Nat) (xs : List (List UInt8)) (w : World) (hp : p.length ≤ 9223372036854775807) (h : HasS w a n xs) (hc : n ≤ c) (hl : n ≤ 8796093021952) (hm : ∀ j : Nat, (xs[j]?.getD []).length ≤ 9223372036854775807) :
    Calls Try.prog 7 #[.string (St p), .slice a n c] w fun e w' => e = .returned (.bool true) ∧ Below w.heap.size w w' := by
  have KW := hide (wakes_any w)
  have KS : Hid (∀ u, Calls Try.prog 9 #[.string (St p)] u fun e w' => ∃ a c, e = .returned (.tuple #[.slice a ((spl p).getD []).length c, .int .i64 (splE p)]) ∧ OwnS u.heap.size w' a ((spl p).getD []).length c ((spl p).getD []) ∧ Below u.heap.size u w') := fun u => split_any p u hp
  have KJ : Hid (∀ b cc u, HasS u b n xs → n ≤ cc → Calls Try.prog 11 #[.slice b n cc] u fun e w' => e = .returned (.tuple #[.string (St (jnV xs)), .int .i64 (jnE xs)]) ∧ Below u.heap.size u w') := fun b cc u h1 h2 => join_any b n cc xs u h1 h2 (by omega) hm
  have KO : Hid (∀ b cc u, HasS u b n xs → Calls Try.prog 18 #[.slice b n cc] u fun e w' => (∃ a' c' ys E, e = .returned (.tuple #[.slice a' ys.length c', .int .i64 E]) ∧ OrdR xs ys E ∧ OwnS u.heap.size w' a' ys.length c' ys) ∧ Below u.heap.size u w') := fun b cc u h1 => order_r b n cc xs u h1 hl hm
  have HNs : Hid (∀ j : Nat, (((spl p).getD [])[j]?.getD []).length ≤ 200) := by
    intro j
    cases hs : spl p with
    | none => simp
    | some ns =>
      have ok := (spl_some hs).1
      show ((ns[j]?.getD [])).length ≤ 200
      cases hj : ns[j]? with
      | none => simp
      | some y => have := (nmB_len (((okN_iff ns).1 ok).2.1 y (List.mem_of_getElem? hj))).2; simp; omega
  have HLn : Hid (((spl p).getD []).length ≤ 200) := by
    cases hs : spl p with
    | none => show ([] : List (List UInt8)).length ≤ 200; simp
    | some ns => have := ((okN_iff ns).1 (spl_some hs).1).1; show ns.length ≤ 200; omega
  have hlen := h.1
  have HH := hide h
  clear h hm hp
  generalize (spl p).getD [] = ns at *
  generalize splE p = E0 at *
  generalize hsp : St p = sp at *
  generalize St (jnV xs) = sj at *
  generalize jnE xs = Ej at *
  go_enter Try.func7, Try.ntmps7
  go_wp2_with fail
  refine (unhide KW).mono ?_
  rintro e w1 ⟨rfl, hb⟩
  have HA1 := hide (HH.out.below hb (Nat.le_refl _))
  have HB1 := hide hb
  clear KW hb HH
  obtain ⟨a1, c1, w2, R1, o1, b1⟩ := app2H c HA1.out (by omega)
  obtain ⟨a2, c2, w3, R2, o2, _, b2⟩ := app1S o1 (by have := b1.size; omega) [35] (by omega)
  have R2 : Hid (∀ ty, (Builtin.append_ #[22, 22] ty #[.slice a1 n c1, .slice (some ⟨w2.heap.size, 0, none⟩) 1 1]).run Try.prog (w2.alloc (.cells #[.string ⟨#[35]⟩] 9)) = .ok (.slice a2 (n + 1) c2) w3) := R2
  have R1 := hide R1
  have hb13 : Below w1.heap.size w1 w3 := b1.trans b2
  have HI : Hid (KpI w w1.heap.size a2 n c2 xs a w3) := ⟨o2, HA1.out.below hb13 (Nat.le_refl _), HB1.out.trans (hb13.mono HB1.out.size)⟩
  have hcut : ∀ u : World, (Instr.slice 22 (.slice a2 (n + 1) c2) none (some (.int .i64 (n : Int))) none).run Try.prog u = .ok (.slice a2 n c2) u := fun u => by
    have := run_cutS_h a2 (n + 1) c2 n (by have := o2.2.1; omega) u
    rwa [cutAt_zero] at this
  have hc2 : n ≤ c2 := by have := o2.2.1; omega
  clear o1 b1 o2 b2 hb13 HA1 HB1
  generalize hB1 : w1.heap.size = B at *
  go_wp2_with (at_builtin; first | (refine wpList_append_run 22 rfl _ _ rfl _ _ _ rfl rfl (unhide R1) ?_; clear R1) | (refine wpList_append_run 22 rfl _ _ rfl _ _ _ rfl rfl (unhide R2) ?_; clear R2))
  have K1 := hide (KJ.out a2 c2 w3 HI.out.own hc2)
  clear KJ
  refine (unhide K1).mono ?_
  rintro e w4 ⟨rfl, hb⟩
  have HK4 := hide (HI.out.later hb)
  have K2 := hide (KO.out a2 c2 w4 HK4.out.own)
  clear K1 hb HI
  go_wp2_with fail
  refine (unhide K2).mono ?_
  rintro e w5 ⟨⟨ax, cx, ys, E1, rfl, hr, ho5⟩, hb5⟩
  have HR := hide hr
  have HO5 := hide ho5
  have HB5 := hide hb5
  have K3 := hide (KO.out a2 c2 w5 (HK4.out.later hb5).own)
  have hM0 : ys.length ≤ n := by have := hr.len; omega
  clear K2 KO hr ho5 hb5
  generalize hM : ys.length = M at *
  go_wp2_with fail
  refine (unhide K3).mono ?_
  rintro e w6 ⟨⟨ay, cy, ys2, E2, rfl, hr, ho6⟩, hb6⟩
  obtain ⟨rfl, rfl⟩ := HR.out.unique hr
  rw [hM] at ho6 ⊢
  have HO6 := hide ho6
  have HB6 := hide hb6
  have HK6 := hide ((HK4.out.later HB5.out).later hb6)
  have KE := hide (sameT_true a2 a n c2 c xs w6 HK6.out.own HK6.out.2.1 (by omega))
  obtain ⟨g2, rfl, hmk⟩ := HK6.out.mark
  clear K3 hr ho6 hb6
  go_wp2_with fail
  refine (unhide KE).mono ?_
  rintro e w7 ⟨rfl, q, rfl⟩
  have hmk' : (w6.drewN q).cell? ⟨g2, n, none⟩ = some (.string ⟨#[35]⟩) := hmk
  have hB67 : Hid (Below w6.heap.size w6 (w6.drewN q)) := drew_below w6 q
  have c1' : (n : Int) < (n : Int) + 1 := by omega
  clear KE hmk
  generalize w6.drewN q = w7 at *
  go_wp2_with fail
  have HX : Hid (∀ u, Below w7.heap.size w7 u → TwoL w4 w4.heap.size w5.heap.size ax M cx ay cy ys2 u) := by
    intro u hb
    have hb7 : Below w6.heap.size w6 u := hB67.out.trans (hb.mono hB67.out.size)
    have hb6 : Below w5.heap.size w5 u := HB6.out.trans (hb7.mono HB6.out.size)
    have hb5 : Below w4.heap.size w4 u := HB5.out.trans (hb6.mono HB5.out.size)
    exact ⟨hb5, ⟨ys2, HO5.out.below hb6 (Nat.le_refl _)⟩, HO6.out.below hb7 (Nat.le_refl _), fun g e => (HO5.out.lt e).1⟩
  have K4 := hide (KS.out w7)
  clear HB5 HB6 HK6 hB67 HO5 HO6 hmk' c1'
  generalize hL : ns.length = L at *
  refine (unhide K4).mono ?_
  rintro e w8 ⟨al, cl, rfl, ho8, hb8⟩
  have HO8 := hide ho8
  have HB8 := hide hb8
  have K5 := hide (KS.out w8)
  clear K4 KS ho8 hb8
  go_wp2_with fail
  refine (unhide K5).mono ?_
  rintro e w9 ⟨am, cm, rfl, ho9, hb9⟩
  have HI : Hid (TwoL w7 w7.heap.size w8.heap.size al L cl am cm ns w9) := ⟨HB8.out.trans (hb9.mono HB8.out.size), ⟨ns, HO8.out.below hb9 (Nat.le_refl _)⟩, ho9, fun g e => (HO8.out.lt e).1⟩
  have hL2 : L ≤ 200 := HLn.out
  clear K5 ho9 hb9 HO8 HB8 HLn
  generalize w8.heap.size = B8 at HI
  go_wp2_with fail
  go_loopw [14] (fun iv wr => ∃ i : Nat, i ≤ L ∧ iv = .int .i64 (i : Int) ∧ Hid (TwoL w7 w7.heap.size B8 al L cl am cm ns wr)) (fun iv _ => L - (intOf iv).toNat)
  case atStart => exact ⟨0, Nat.zero_le _, rfl, HI⟩
  case round =>
    clear HI
    obtain ⟨i, hi, rfl, hI⟩ := hrel
    by_cases hlt : i < L
    · obtain ⟨gl, gm, hal, ham, hcm, ⟨v, hcl⟩, hfl, hst⟩ := hI.out.step hlt
      subst hal
      subst ham
      have hz := HNs.out i
      have hbang := St_bang (ns[i]?.getD [])
      have hsz : ¬ 9223372036854775807 < (St (ns[i]?.getD [])).size + 1 := by rw [St_size]; omega
      have HN := hide (hst (ns[i]?.getD [] ++ [33]))
      unfold sv at hcm HN
      rw [← hbang] at HN
      clear hst hbang hz hI
      generalize St (ns[i]?.getD []) = sx at *
      have hlt' : (i : Int) < (L : Int) := by omega
      have hcm2 := HN.out.2
      have HN1 := hide HN.out.1
      clear HN
      go_wp2_with fail
      go_roundw
      case rel => exact ⟨i + 1, by omega, by go_num, HN1⟩
      case measure => simp [intOf]; omega
    · obtain rfl : i = L := by omega
      have HI := hide (HX.out wr hI.out.1)
      clear HX hI
      generalize w5.heap.size = B5 at HI
      go_wp2_with fail
      go_loopw [16] (fun iv wr => ∃ j : Nat, j ≤ M ∧ iv = .int .i64 (j : Int) ∧ Hid (TwoL w4 w4.heap.size B5 ax M cx ay cy ys2 wr)) (fun iv _ => M - (intOf iv).toNat)
      case atStart => exact ⟨0, Nat.zero_le _, rfl, HI⟩
      case round =>
        clear HI
        obtain ⟨j, hj, rfl, hI⟩ := hrel
        by_cases hlt : j < M
        · obtain ⟨gl, gm, hal, ham, hcm, ⟨v, hcl⟩, hfl, hst⟩ := hI.out.step hlt
          subst hal
          subst ham
          have hz := HR.out.get j
          have hbang := St_bang (ys2[j]?.getD [])
          have hsz : ¬ 9223372036854775807 < (St (ys2[j]?.getD [])).size + 1 := by rw [St_size]; omega
          have HN := hide (hst (ys2[j]?.getD [] ++ [33]))
          unfold sv at hcm HN
          rw [← hbang] at HN
          clear hst hbang hz hI
          generalize St (ys2[j]?.getD []) = sx at *
          have hlt' : (j : Int) < (M : Int) := by omega
          have hcm2 := HN.out.2
          have HN1 := hide HN.out.1
          clear HN
          go_wp2_with fail
          go_roundw
          case rel => exact ⟨j + 1, by omega, by go_num, HN1⟩
          case measure => simp [intOf]; omega
        · obtain rfl : j = M := by omega
          have HK := hide (HK4.out.later hI.out.1)
          have KE := hide (sameT_true _ a n c2 c xs _ HK.out.own HK.out.2.1 (by omega))
          clear hI
          go_wp2_with fail
          refine (unhide KE).mono ?_
          rintro e w12 ⟨rfl, q, rfl⟩
          clear KE
          go_wp2_with fail
          go_ret
          exact ⟨rfl, HK.out.2.2.os, HK.out.2.2.tape, HK.out.2.2.output, HK.out.2.2.size, HK.out.2.2.block⟩

end Go.Proofs.Ytghhlcacnggjhaa
