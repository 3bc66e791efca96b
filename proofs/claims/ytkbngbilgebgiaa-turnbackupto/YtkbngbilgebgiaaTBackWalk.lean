/- The walk through the statement on sums that come back from their spectrum. -/
import Derived.Test.YtkbngbilgebgiaaTCheck
import Derived.Test.YtkbngbilgebgiaaTRef
import Derived.Test.YtkbngbilgebgiaaTPowersWalk
import Derived.Test.YtkbngbilgebgiaaTNeg
namespace Go.Proofs.Ytkbngbilgebgiaa
open Go.RowKit Go.Shelf Ieee
set_option linter.unusedVariables false

/-- The first q bytes together. -/
def al (zs : List Int) : Nat → Int
  | 0 => 0
  | q + 1 => al zs q + zs[q]?.getD 0

theorem al_sum (zs : List Int) (q : Nat) : al zs q = sm zs q 0 + sm zs q 1 + sm zs q 2 + sm zs q 3 := by
  induction q with
  | zero => rfl
  | succ q ih =>
    simp only [al, sm, ih]
    have h : q % 4 = 0 ∨ q % 4 = 1 ∨ q % 4 = 2 ∨ q % 4 = 3 := by omega
    rcases h with h | h | h | h <;> simp [h] <;> omega

theorem al_bd (zs : List Int) (hby : ∀ z ∈ zs, 0 ≤ z ∧ z ≤ 255) (q : Nat) : 0 ≤ al zs q ∧ al zs q ≤ 255 * (q : Int) := by
  induction q with
  | zero => simp [al]
  | succ q ih =>
    have := byte_get zs hby q
    simp only [al]
    push_cast
    omega

theorem sh_next (S : Nat → Int) (k : Nat) (j : Nat) (hj : j < 4) : sh (sh S k) 1 j = sh S (k + 1) j := by
  unfold sh
  have : ((j + (4 - 1 % 4)) % 4 + (4 - k % 4)) % 4 = (j + (4 - (k + 1) % 4)) % 4 := by omega
  rw [this]

theorem sh_same (S : Nat → Int) (j : Nat) (hj : j < 4) : sh S 0 j = S j ∧ sh S 4 j = S j := by
  unfold sh
  have h1 : (j + (4 - 0 % 4)) % 4 = j := by omega
  rw [h1]
  exact ⟨rfl, rfl⟩

theorem sums_int (V : Nat → Value) (S : Nat → Int) (w : World) (hV : C4 V (sre S) (sim S)) (hS : Sound S) :
    Calls Try.prog 14 #[.agg #[V 0, V 1, V 2, V 3]] w fun e w' => e = .returned (.tuple #[.agg #[.int .i64 (S 0), .int .i64 (S 1), .int .i64 (S 2), .int .i64 (S 3)], .int .i64 0]) ∧ Below w.heap.size w w' := sums_any V S w hV hS

theorem from_int (S : Nat → Int) (w : World) (hS : Sound S) :
    Calls Try.prog 16 #[.agg #[.int .i64 (S 0), .int .i64 (S 1), .int .i64 (S 2), .int .i64 (S 3)]] w fun e w' => ∃ V, e = .returned (.tuple #[.agg #[V 0, V 1, V 2, V 3], .int .i64 0]) ∧ C4 V (sre S) (sim S) ∧ Below w.heap.size w w' := from_any S w hS

theorem shift_one (V0 : Nat → Value) (S : Nat → Int) (w : World) (hV : C4 V0 (sre S) (sim S)) (hS : Sound S) :
    Calls Try.prog 13 #[.agg #[V0 0, V0 1, V0 2, V0 3], .int .i64 1] w fun e w' => ∃ V, e = .returned (.tuple #[.agg #[V 0, V 1, V 2, V 3], .int .i64 0]) ∧ C4 V (sre (sh S 1)) (sim (sh S 1)) ∧ Below w.heap.size w w' := shift_any V0 S 1 w hV hS

theorem shift_four (V0 : Nat → Value) (S : Nat → Int) (w : World) (hV : C4 V0 (sre S) (sim S)) (hS : Sound S) :
    Calls Try.prog 13 #[.agg #[V0 0, V0 1, V0 2, V0 3], .int .i64 4] w fun e w' => ∃ V, e = .returned (.tuple #[.agg #[V 0, V 1, V 2, V 3], .int .i64 0]) ∧ C4 V (sre S) (sim S) ∧ Below w.heap.size w w' := by
  refine (shift_any V0 S 4 w hV hS).mono ?_
  rintro e w' ⟨V, rfl, h, hb⟩
  exact ⟨V, rfl, h.congr (fun j _ => (sre_congr (fun i hi => (sh_same S i hi).2) j).1) (fun j _ => (sre_congr (fun i hi => (sh_same S i hi).2) j).2), hb⟩

/-- What is kept: what came in, the spectrum and the sums. -/
def T (w : World) (gf : Nat) (F : Nat → Value) (gs : Nat) (S : Nat → Int) (u : World) : Prop := Below w.heap.size w u ∧ R4 u gf 26 F ∧ R4 u gs 37 (ints S)

theorem T.call {w : World} {gf gs : Nat} {F : Nat → Value} {S : Nat → Int} {u u' : World} (hb : Below u.heap.size u u') (h : T w gf F gs S u) : T w gf F gs S u' :=
  ⟨h.1.trans (hb.mono h.1.size), h.2.1.below hb h.2.1.lt, h.2.2.below hb h.2.2.lt⟩
theorem T.alloc {w : World} {gf gs : Nat} {F : Nat → Value} {S : Nat → Int} {u : World} (h : T w gf F gs S u) (o : Obj) : T w gf F gs S (u.alloc o) := h.call ((Below.refl _ _).alloc (Nat.le_refl _) _)

set_option maxRecDepth 100000 in
set_option maxHeartbeats 4000000 in
theorem tback_walk (a : Option Addr) (len cap : Nat) (zs : List Int) (w : World) (hH : Has w a len zs) (hby : ∀ z ∈ zs, 0 ≤ z ∧ z ≤ 255) (hl : len ≤ 1048576) :
    Calls Try.prog 5 #[.slice a len cap] w fun e w' => e = .returned (.bool true) ∧ Below w.heap.size w w' := by
  obtain ⟨S, hS⟩ : ∃ S, sm zs len = S := ⟨_, rfl⟩
  have hb := fun j => sm_bd zs hby len j
  have HS : Hid (Sound S ∧ al zs len = S 0 + S 1 + S 2 + S 3) := by
    subst hS
    exact ⟨fun j _ => by have := hb j; omega, al_sum zs len⟩
  have HH : Hid (Has w a len zs ∧ (∀ z ∈ zs, 0 ≤ z ∧ z ≤ 255) ∧ len ≤ 1048576 ∧ sm zs len = S) := ⟨hH, hby, hl, hS⟩
  clear hH hby hl hS hb
  go_enter Try.func5, Try.ntmps5
  go_wp2_with fail
  go_at_call 7
  refine (wakes_any _).mono ?_
  rintro e w0 ⟨rfl, b0⟩
  have B0 : Hid (Below w.heap.size w w0) := b0
  clear b0
  go_wp2_with fail
  go_at_call 8
  refine (of_any a len cap zs _ ((unhide HH).1.below (unhide B0)) (unhide HH).2.1 (by have := (unhide HH).2.2.1; omega)).mono ?_
  rintro e w1 ⟨V, rfl, hV, hb⟩
  rw [(unhide HH).2.2.2] at hV
  obtain ⟨x0, y0, h0, R0⟩ := hV 0 (by omega)
  obtain ⟨x1, y1, h1, R1⟩ := hV 1 (by omega)
  obtain ⟨x2, y2, h2, R2⟩ := hV 2 (by omega)
  obtain ⟨x3, y3, h3, R3⟩ := hV 3 (by omega)
  have HF : Hid (C4 (mk4 (.complex .f64 x0 y0) (.complex .f64 x1 y1) (.complex .f64 x2 y2) (.complex .f64 x3 y3)) (sre S) (sim S)) := by
    intro j hj
    have h : j = 0 ∨ j = 1 ∨ j = 2 ∨ j = 3 := by omega
    rcases h with rfl | rfl | rfl | rfl
    · exact ⟨_, _, rfl, R0⟩
    · exact ⟨_, _, rfl, R1⟩
    · exact ⟨_, _, rfl, R2⟩
    · exact ⟨_, _, rfl, R3⟩
  have HR : Hid (Rc x0 y0 (S 0 + S 1 + S 2 + S 3) 0 ∧ Rc x1 y1 (S 0 - S 2) (S 1 - S 3) ∧ Rc x2 y2 (S 0 - S 1 + S 2 - S 3) 0 ∧ Rc x3 y3 (S 0 - S 2) (S 3 - S 1)) := ⟨R0, R1, R2, R3⟩
  simp only [h0, h1, h2, h3]
  have B1 : Hid (Below w.heap.size w w1) := (unhide B0).trans (hb.mono (unhide B0).size)
  clear hb hV h0 h1 h2 h3 R0 R1 R2 R3 B0 V
  have hs := store_c
  have hi := store_ints S
  go_wp2_with fail
  go_at_call 14
  refine (sums_int (mk4 (.complex .f64 x0 y0) (.complex .f64 x1 y1) (.complex .f64 x2 y2) (.complex .f64 x3 y3)) S _ (unhide HF) (unhide HS).1).mono ?_
  rintro e w2 ⟨rfl, hb⟩
  have N0 := R4.new w1 26 (mk4 (.complex .f64 x0 y0) (.complex .f64 x1 y1) (.complex .f64 x2 y2) (.complex .f64 x3 y3))
  have H2 : Hid (Below w.heap.size w w2 ∧ R4 w2 w1.heap.size 26 (mk4 (.complex .f64 x0 y0) (.complex .f64 x1 y1) (.complex .f64 x2 y2) (.complex .f64 x3 y3))) := ⟨((unhide B1).alloc (unhide B1).size _).trans (hb.mono (by have := (unhide B1).size; simp; omega)), N0.below hb N0.lt⟩
  clear hb N0 B1
  generalize w1.heap.size = gf at *
  have e0 : w2.cell? ⟨gf, 0, none⟩ = some (.complex .f64 x0 y0) := (unhide H2).2.cell 0 (by omega)
  have e1 : w2.cell? ⟨gf, 1, none⟩ = some (.complex .f64 x1 y1) := (unhide H2).2.cell 1 (by omega)
  have e2 : w2.cell? ⟨gf, 2, none⟩ = some (.complex .f64 x2 y2) := (unhide H2).2.cell 2 (by omega)
  have e3 : w2.cell? ⟨gf, 3, none⟩ = some (.complex .f64 x3 y3) := (unhide H2).2.cell 3 (by omega)
  have a0 : (w2.alloc (Obj.cells #[.int .i64 (S 0), .int .i64 (S 1), .int .i64 (S 2), .int .i64 (S 3)] 37)).cell? ⟨gf, 0, none⟩ = some (.complex .f64 x0 y0) := ((unhide H2).2.alloc _).cell 0 (by omega)
  have a1 : (w2.alloc (Obj.cells #[.int .i64 (S 0), .int .i64 (S 1), .int .i64 (S 2), .int .i64 (S 3)] 37)).cell? ⟨gf, 1, none⟩ = some (.complex .f64 x1 y1) := ((unhide H2).2.alloc _).cell 1 (by omega)
  have a2 : (w2.alloc (Obj.cells #[.int .i64 (S 0), .int .i64 (S 1), .int .i64 (S 2), .int .i64 (S 3)] 37)).cell? ⟨gf, 2, none⟩ = some (.complex .f64 x2 y2) := ((unhide H2).2.alloc _).cell 2 (by omega)
  have a3 : (w2.alloc (Obj.cells #[.int .i64 (S 0), .int .i64 (S 1), .int .i64 (S 2), .int .i64 (S 3)] 37)).cell? ⟨gf, 3, none⟩ = some (.complex .f64 x3 y3) := ((unhide H2).2.alloc _).cell 3 (by omega)
  clear e0 e1 e2 e3
  go_wp2_with fail
  go_at_call 15
  refine (check_any (mk4 (.complex .f64 x0 y0) (.complex .f64 x1 y1) (.complex .f64 x2 y2) (.complex .f64 x3 y3)) S _ (unhide HF) (unhide HS).1).mono ?_
  rintro e w3 ⟨rfl, hb⟩
  have N0 := R4.new w2 37 (ints S)
  have H3 : Hid (T w gf (mk4 (.complex .f64 x0 y0) (.complex .f64 x1 y1) (.complex .f64 x2 y2) (.complex .f64 x3 y3)) w2.heap.size S w3) := T.call hb ⟨(unhide H2).1.alloc (unhide H2).1.size _, (unhide H2).2.alloc _, N0⟩
  clear hb N0 H2 a0 a1 a2 a3
  generalize w2.heap.size = gs at *
  have i0 : w3.cell? ⟨gs, 0, none⟩ = some (.int .i64 (S 0)) := (unhide H3).2.2.cell 0 (by omega)
  have i1 : w3.cell? ⟨gs, 1, none⟩ = some (.int .i64 (S 1)) := (unhide H3).2.2.cell 1 (by omega)
  have i2 : w3.cell? ⟨gs, 2, none⟩ = some (.int .i64 (S 2)) := (unhide H3).2.2.cell 2 (by omega)
  have i3 : w3.cell? ⟨gs, 3, none⟩ = some (.int .i64 (S 3)) := (unhide H3).2.2.cell 3 (by omega)
  go_wp2_with fail
  go_at_call 16
  refine (from_int S _ (unhide HS).1).mono ?_
  rintro e w4 ⟨G, rfl, hG, hb⟩
  have H4 : Hid (T w gf (mk4 (.complex .f64 x0 y0) (.complex .f64 x1 y1) (.complex .f64 x2 y2) (.complex .f64 x3 y3)) gs S w4) := T.call hb (unhide H3)
  have HG : Hid (C4 G (sre S) (sim S)) := hG
  clear hb hG H3 i0 i1 i2 i3
  have a0 : (w4.alloc (Obj.cells #[G 0, G 1, G 2, G 3] 26)).cell? ⟨gf, 0, none⟩ = some (.complex .f64 x0 y0) := ((unhide H4).2.1.alloc _).cell 0 (by omega)
  have a1 : (w4.alloc (Obj.cells #[G 0, G 1, G 2, G 3] 26)).cell? ⟨gf, 1, none⟩ = some (.complex .f64 x1 y1) := ((unhide H4).2.1.alloc _).cell 1 (by omega)
  have a2 : (w4.alloc (Obj.cells #[G 0, G 1, G 2, G 3] 26)).cell? ⟨gf, 2, none⟩ = some (.complex .f64 x2 y2) := ((unhide H4).2.1.alloc _).cell 2 (by omega)
  have a3 : (w4.alloc (Obj.cells #[G 0, G 1, G 2, G 3] 26)).cell? ⟨gf, 3, none⟩ = some (.complex .f64 x3 y3) := ((unhide H4).2.1.alloc _).cell 3 (by omega)
  have s0 := store_v (unhide HG 0 (by omega))
  have s1 := store_v (unhide HG 1 (by omega))
  have s2 := store_v (unhide HG 2 (by omega))
  have s3 := store_v (unhide HG 3 (by omega))
  have ne : ∀ w, (binOp .neq 26 (.agg #[G 0, G 1, G 2, G 3]) (.agg #[.complex .f64 x0 y0, .complex .f64 x1 y1, .complex .f64 x2 y2, .complex .f64 x3 y3])).run Try.prog w = .ok (.bool false) w := fun w => neq_no (unhide HG) (unhide HF) w
  have o1 := order_yes (unhide HR).2.1.1 (unhide HR).2.2.2.1 rfl
  obtain ⟨z3, hz3⟩ : ∃ z, y3 ^^^ 9223372036854775808 = z := ⟨_, rfl⟩
  have o2 : FloatKind.f64.format.order y1 (y3 ^^^ 9223372036854775808) = some .eq := order_yes (unhide HR).2.1.2 (rd_minus' (unhide HR).2.2.2.2) (by omega)
  have o3 := order_yes (unhide HR).1.2 rd_zero rfl
  have o4 := order_yes (unhide HR).2.2.1.2 rd_zero rfl
  have ng : ∀ w, (Op.unary .neg (.float .f64 y3)).run Try.prog w = .ok (.float .f64 (y3 ^^^ 9223372036854775808)) w := fun _ => rfl
  rw [hz3] at o2 ng
  clear hz3
  go_wp2_with fail
  clear s0 s1 s2 s3 ne o1 o2 o3 o4 ng a0 a1 a2 a3
  have H5 : Hid (T w gf (mk4 (.complex .f64 x0 y0) (.complex .f64 x1 y1) (.complex .f64 x2 y2) (.complex .f64 x3 y3)) gs S (w4.alloc (Obj.cells #[G 0, G 1, G 2, G 3] 26))) := (unhide H4).alloc _
  clear H4 HG
  generalize w4.alloc (Obj.cells #[G 0, G 1, G 2, G 3] 26) = w5 at *
  go_loop [7, 8] (fun s i => ∃ q : Nat, q ≤ len ∧ i = .int .i64 (q : Int) ∧ s = .int .i64 (al zs q)) (fun _ i => len - (intOf i).toNat)
  case atStart => exact ⟨0, by omega, rfl, rfl⟩
  case round =>
    obtain ⟨q, hq, rfl, rfl⟩ := hrel
    by_cases hlt : q < len
    · have hl := (unhide HH).2.2.1
      have hz := byte_get zs (unhide HH).2.1 q
      have hal := al_bd zs (unhide HH).2.1 q
      have hc : ∃ b off, a = some ⟨b, off, none⟩ ∧ w5.cell? ⟨b, off + q, none⟩ = some (.int .u8 (zs[q]?.getD 0)) := by
        obtain ⟨b, off, e, hc⟩ := ((unhide HH).1.below (unhide H5).1).2 (by omega)
        exact ⟨b, off, e, hc q hlt⟩
      obtain ⟨b, off, rfl, hc⟩ := hc
      have en : Hid (al zs (q + 1) = al zs q + zs[q]?.getD 0) := rfl
      generalize zs[q]?.getD 0 = z at *
      generalize al zs q = y at *
      have HB : Hid ((0 ≤ z ∧ z ≤ 255) ∧ 0 ≤ y ∧ y ≤ 562949953421312) := ⟨hz, by omega, by omega⟩
      clear hz hal
      go_wp2
      have ew : wrap64 (y + wrap64 z) = y + z := by
        have hz := unhide HB
        have h1 : wrap64 z = z := by simp only [wrap64]; omega
        rw [h1]; simp only [wrap64]; omega
      rw [ew]
      exact ⟨⟨q + 1, by omega, by go_num, by rw [unhide en]⟩, by simp [intOf]; omega⟩
    · obtain rfl : q = len := by omega
      clear hlt hq
      obtain ⟨A, hA⟩ : ∃ A, al zs q = A := ⟨_, rfl⟩
      have HA : Hid (A = S 0 + S 1 + S 2 + S 3) := by rw [← hA]; exact (unhide HS).2
      rw [hA]
      clear hA
      have e0 : w5.cell? ⟨gf, 0, none⟩ = some (.complex .f64 x0 y0) := (unhide H5).2.1.cell 0 (by omega)
      have e1 : w5.cell? ⟨gf, 1, none⟩ = some (.complex .f64 x1 y1) := (unhide H5).2.1.cell 1 (by omega)
      have e2 : w5.cell? ⟨gf, 2, none⟩ = some (.complex .f64 x2 y2) := (unhide H5).2.1.cell 2 (by omega)
      have e3 : w5.cell? ⟨gf, 3, none⟩ = some (.complex .f64 x3 y3) := (unhide H5).2.1.cell 3 (by omega)
      go_wp2
      clear e0 e1 e2 e3
      have H6 : Hid (T w gf (mk4 (.complex .f64 x0 y0) (.complex .f64 x1 y1) (.complex .f64 x2 y2) (.complex .f64 x3 y3)) gs S (w5.alloc (Obj.cells #[.complex .f64 x0 y0, .complex .f64 x1 y1, .complex .f64 x2 y2, .complex .f64 x3 y3] 26)) ∧ R4 (w5.alloc (Obj.cells #[.complex .f64 x0 y0, .complex .f64 x1 y1, .complex .f64 x2 y2, .complex .f64 x3 y3] 26)) w5.heap.size 26 (mk4 (.complex .f64 x0 y0) (.complex .f64 x1 y1) (.complex .f64 x2 y2) (.complex .f64 x3 y3))) := ⟨(unhide H5).alloc _, R4.new w5 26 (mk4 (.complex .f64 x0 y0) (.complex .f64 x1 y1) (.complex .f64 x2 y2) (.complex .f64 x3 y3))⟩
      have HN : Hid (w.heap.size ≤ w5.heap.size ∧ gf < w5.heap.size ∧ gs < w5.heap.size) := ⟨(unhide H5).1.size, (unhide H5).2.1.lt, (unhide H5).2.2.lt⟩
      clear H5
      generalize w5.alloc (Obj.cells #[.complex .f64 x0 y0, .complex .f64 x1 y1, .complex .f64 x2 y2, .complex .f64 x3 y3] 26) = w6 at *
      generalize w5.heap.size = gh at *
      have HH6 : Hid (T w gf (mk4 (.complex .f64 x0 y0) (.complex .f64 x1 y1) (.complex .f64 x2 y2) (.complex .f64 x3 y3)) gs S w6 ∧ R4 w6 gh 26 (mk4 (.complex .f64 x0 y0) (.complex .f64 x1 y1) (.complex .f64 x2 y2) (.complex .f64 x3 y3))) := H6
      clear H6
      go_loopw [5, 10] (fun er i wr => ∃ (k : Nat) (V : Nat → Value), k ≤ 4 ∧ i = .int .i64 (k : Int) ∧ er = .int .i64 0 ∧ Hid (T w gf (mk4 (.complex .f64 x0 y0) (.complex .f64 x1 y1) (.complex .f64 x2 y2) (.complex .f64 x3 y3)) gs S wr ∧ R4 wr gh 26 V ∧ C4 V (sre (sh S k)) (sim (sh S k)))) (fun _ i _ => 4 - (intOf i).toNat)
      case atStart =>
        refine ⟨0, _, by omega, rfl, rfl, hide ⟨(unhide HH6).1, (unhide HH6).2, ?_⟩⟩
        exact (unhide HF).congr (fun j _ => (sre_congr (fun i hi => (sh_same S i hi).1.symm) j).1) (fun j _ => (sre_congr (fun i hi => (sh_same S i hi).1.symm) j).2)
      case round =>
        obtain ⟨k, V, hk, rfl, rfl, hX⟩ := hrel
        by_cases hlt : k < 4
        · have e0 := (unhide hX).2.1.cell 0 (by omega)
          have e1 := (unhide hX).2.1.cell 1 (by omega)
          have e2 := (unhide hX).2.1.cell 2 (by omega)
          have e3 := (unhide hX).2.1.cell 3 (by omega)
          have HK : Hid (k < 4) := hlt
          have k4 : (k : Int) < 4 := by omega
          clear hlt
          go_wp2_with fail
          go_at_call 13
          refine (shift_one V (sh S k) _ (unhide hX).2.2 (sh_sound (unhide HS).1 k)).mono ?_
          rintro e w7 ⟨U, rfl, hU, hb⟩
          have HX : Hid (T w gf (mk4 (.complex .f64 x0 y0) (.complex .f64 x1 y1) (.complex .f64 x2 y2) (.complex .f64 x3 y3)) gs S w7 ∧ R4 w7 gh 26 V ∧ C4 U (sre (sh S (k + 1))) (sim (sh S (k + 1)))) := ⟨T.call hb (unhide hX).1, (unhide hX).2.1.below hb (unhide hX).2.1.lt, hU.congr (fun j _ => (sre_congr (fun i hi => sh_next S k i hi) j).1) (fun j _ => (sre_congr (fun i hi => sh_next S k i hi) j).2)⟩
          clear hb hU hX e0 e1 e2 e3
          have f0 := (unhide HX).2.1.free 0
          have f1 := (unhide HX).2.1.free 1
          have f2 := (unhide HX).2.1.free 2
          have f3 := (unhide HX).2.1.free 3
          have c0 := (unhide HX).2.1.cell 0 (by omega)
          have c1 := (unhide HX).2.1.cell 1 (by omega)
          have c2 := (unhide HX).2.1.cell 2 (by omega)
          have c3 := (unhide HX).2.1.cell 3 (by omega)
          have s0 := store_v ((unhide HX).2.2 0 (by omega))
          have s1 := store_v ((unhide HX).2.2 1 (by omega))
          have s2 := store_v ((unhide HX).2.2 2 (by omega))
          have s3 := store_v ((unhide HX).2.2 3 (by omega))
          go_wp2
          obtain ⟨⟨t1, t2, t3⟩, rV, cU⟩ := unhide HX
          have hN := unhide HN
          have h4 := unhide HK
          refine ⟨⟨k + 1, U, by omega, by go_num, rfl, hide ⟨⟨?_, ?_, ?_⟩, rV.all U, cU⟩⟩, by simp [intOf]; omega⟩
          · exact (((t1.setCell (by simp; omega) _).setCell (by simp; omega) _).setCell (by simp; omega) _).setCell (by simp; omega) _
          · exact (((t2.other _ _ (by simp; omega)).other _ _ (by simp; omega)).other _ _ (by simp; omega)).other _ _ (by simp; omega)
          · exact (((t3.other _ _ (by simp; omega)).other _ _ (by simp; omega)).other _ _ (by simp; omega)).other _ _ (by simp; omega)
        · obtain rfl : k = 4 := by omega
          clear hlt hk HH6
          have e0 : wr.cell? ⟨gf, 0, none⟩ = some (.complex .f64 x0 y0) := (unhide hX).1.2.1.cell 0 (by omega)
          have e1 : wr.cell? ⟨gf, 1, none⟩ = some (.complex .f64 x1 y1) := (unhide hX).1.2.1.cell 1 (by omega)
          have e2 : wr.cell? ⟨gf, 2, none⟩ = some (.complex .f64 x2 y2) := (unhide hX).1.2.1.cell 2 (by omega)
          have e3 : wr.cell? ⟨gf, 3, none⟩ = some (.complex .f64 x3 y3) := (unhide hX).1.2.1.cell 3 (by omega)
          go_wp2_with fail
          go_at_call 13
          refine (shift_four (mk4 (.complex .f64 x0 y0) (.complex .f64 x1 y1) (.complex .f64 x2 y2) (.complex .f64 x3 y3)) S _ (unhide HF) (unhide HS).1).mono ?_
          rintro e w8 ⟨U, rfl, hU, hb⟩
          have H8 : Hid (T w gf (mk4 (.complex .f64 x0 y0) (.complex .f64 x1 y1) (.complex .f64 x2 y2) (.complex .f64 x3 y3)) gs S w8 ∧ R4 w8 gh 26 V) := ⟨T.call hb (unhide hX).1, (unhide hX).2.1.below hb (unhide hX).2.1.lt⟩
          have HV : Hid (C4 V (sre S) (sim S)) := (unhide hX).2.2.congr (fun j _ => (sre_congr (fun i hi => (sh_same S i hi).2) j).1) (fun j _ => (sre_congr (fun i hi => (sh_same S i hi).2) j).2)
          have HU : Hid (C4 U (sre S) (sim S)) := hU
          clear hb hU hX e0 e1 e2 e3
          have s0 := store_v (unhide HU 0 (by omega))
          have s1 := store_v (unhide HU 1 (by omega))
          have s2 := store_v (unhide HU 2 (by omega))
          have s3 := store_v (unhide HU 3 (by omega))
          have q1 : ∀ w, (binOp .eql 26 (.agg #[V 0, V 1, V 2, V 3]) (.agg #[.complex .f64 x0 y0, .complex .f64 x1 y1, .complex .f64 x2 y2, .complex .f64 x3 y3])).run Try.prog w = .ok (.bool true) w := fun w => eql_yes (unhide HV) (unhide HF) w
          have q2 : ∀ w, (binOp .eql 26 (.agg #[U 0, U 1, U 2, U 3]) (.agg #[.complex .f64 x0 y0, .complex .f64 x1 y1, .complex .f64 x2 y2, .complex .f64 x3 y3])).run Try.prog w = .ok (.bool true) w := fun w => eql_yes (unhide HU) (unhide HF) w
          have a0 : (w8.alloc (Obj.cells #[U 0, U 1, U 2, U 3] 26)).cell? ⟨gf, 0, none⟩ = some (.complex .f64 x0 y0) := ((unhide H8).1.2.1.alloc _).cell 0 (by omega)
          have a1 : (w8.alloc (Obj.cells #[U 0, U 1, U 2, U 3] 26)).cell? ⟨gf, 1, none⟩ = some (.complex .f64 x1 y1) := ((unhide H8).1.2.1.alloc _).cell 1 (by omega)
          have a2 : (w8.alloc (Obj.cells #[U 0, U 1, U 2, U 3] 26)).cell? ⟨gf, 2, none⟩ = some (.complex .f64 x2 y2) := ((unhide H8).1.2.1.alloc _).cell 2 (by omega)
          have a3 : (w8.alloc (Obj.cells #[U 0, U 1, U 2, U 3] 26)).cell? ⟨gf, 3, none⟩ = some (.complex .f64 x3 y3) := ((unhide H8).1.2.1.alloc _).cell 3 (by omega)
          have b0 : (w8.alloc (Obj.cells #[U 0, U 1, U 2, U 3] 26)).cell? ⟨gh, 0, none⟩ = some (V 0) := ((unhide H8).2.alloc _).cell 0 (by omega)
          have b1 : (w8.alloc (Obj.cells #[U 0, U 1, U 2, U 3] 26)).cell? ⟨gh, 1, none⟩ = some (V 1) := ((unhide H8).2.alloc _).cell 1 (by omega)
          have b2 : (w8.alloc (Obj.cells #[U 0, U 1, U 2, U 3] 26)).cell? ⟨gh, 2, none⟩ = some (V 2) := ((unhide H8).2.alloc _).cell 2 (by omega)
          have b3 : (w8.alloc (Obj.cells #[U 0, U 1, U 2, U 3] 26)).cell? ⟨gh, 3, none⟩ = some (V 3) := ((unhide H8).2.alloc _).cell 3 (by omega)
          have c0 : (w8.alloc (Obj.cells #[U 0, U 1, U 2, U 3] 26)).cell? ⟨gs, 0, none⟩ = some (.int .i64 (S 0)) := ((unhide H8).1.2.2.alloc _).cell 0 (by omega)
          have c1 : (w8.alloc (Obj.cells #[U 0, U 1, U 2, U 3] 26)).cell? ⟨gs, 1, none⟩ = some (.int .i64 (S 1)) := ((unhide H8).1.2.2.alloc _).cell 1 (by omega)
          have c2 : (w8.alloc (Obj.cells #[U 0, U 1, U 2, U 3] 26)).cell? ⟨gs, 2, none⟩ = some (.int .i64 (S 2)) := ((unhide H8).1.2.2.alloc _).cell 2 (by omega)
          have c3 : (w8.alloc (Obj.cells #[U 0, U 1, U 2, U 3] 26)).cell? ⟨gs, 3, none⟩ = some (.int .i64 (S 3)) := ((unhide H8).1.2.2.alloc _).cell 3 (by omega)
          have hsn : (wrap64 (wrap64 (wrap64 (S 0 + S 1) + S 2) + S 3) == A) = true := by
            have k0 := (unhide HS).1 0 (by omega)
            have k1 := (unhide HS).1 1 (by omega)
            have k2 := (unhide HS).1 2 (by omega)
            have k3 := (unhide HS).1 3 (by omega)
            rw [unhide HA]
            have : wrap64 (wrap64 (wrap64 (S 0 + S 1) + S 2) + S 3) = S 0 + S 1 + S 2 + S 3 := by
              generalize S 0 = p0 at *
              generalize S 1 = p1 at *
              generalize S 2 = p2 at *
              generalize S 3 = p3 at *
              simp only [wrap64]; omega
            rw [this]; simp
          have o1 : FloatKind.f64.format.order x0 (floatOfInt .f64 A) = some .eq := by
            have k0 := (unhide HS).1 0 (by omega)
            have k1 := (unhide HS).1 1 (by omega)
            have k2 := (unhide HS).1 2 (by omega)
            have k3 := (unhide HS).1 3 (by omega)
            exact order_yes (unhide HR).1.1 (rd_int' A (by rw [unhide HA]; omega)) (unhide HA).symm
          have o2 := order_yes (unhide HR).1.2 rd_zero rfl
          go_wp2
          go_ret
          exact ⟨rfl, (unhide H8).1.1.alloc (unhide H8).1.1.size _⟩
end Go.Proofs.Ytkbngbilgebgiaa
