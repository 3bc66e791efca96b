/- The contracts of fetch and Get. -/
import Derived.Test.YtpkhllpghjldhaaKRoom2
import Derived.Test.YtpkhllpghjldhaaDRead
import Derived.Test.YtpkhllpghjldhaaDLoad
namespace Go.Proofs.Ytpkhllpghjldhaa
open Go.RowKit Go.Shelf Go.Maps
set_option linter.unusedVariables false

theorem wpList_mapUpdate_run {w w' : World} {ops : Array Oper} {rest : List Oper} {o : Oper} {a : Act} {Q : Exit → Act → World → Prop} (t : TypeId) (hgd : o.guard = none) (m x v : Operand)
    (ho : o.op = Op.mapUpdate t m x v) (vm vx vv : Value) (hm : a.eval m = vm) (hx : a.eval x = vx) (hv : a.eval v = vv)
    (hrun : (Instr.mapUpdate t vm vx vv).run Try.prog w = .ok () w')
    (h : wpList Try.prog ops Q rest (a.put o.dst undef) w') : wpList Try.prog ops Q (o :: rest) a w := by
  refine wpList_plain hgd fun K hK => ?_
  unfold Oper.wp
  simp [execOp, ho, hm, hx, hv, hrun, Result.andThen]
  exact hK _ _ h

/-- What is read lies in a row. -/
theorem Dv.rd_row {w : World} {S : Nat → Prop} {g : Nat} {D : Dev} (h : Dv w S g D) {i : Nat} (hi : i < D.n) : ∃ r, RowAt w S D.blk r (D.rd i) := by
  obtain ⟨m, h⟩ := h
  unfold Dev.rd
  by_cases h0 : D.Y i = []
  · rw [h0]
    exact ⟨_, h.arr i hi⟩
  · have hl : 0 < (D.Y i).length := List.length_pos_iff.2 h0
    obtain ⟨a, c, e, _⟩ := (h.wai i hi).shape
    have hw := h.wai i hi
    rw [e] at hw
    obtain ⟨k, r, _, _, _, _, hr⟩ := hw.elem (j := (D.Y i).length - 1) (by omega)
    refine ⟨r, ?_⟩
    rw [List.getLast?_eq_getElem?]
    rw [List.getElem?_eq_getElem (by omega)] at hr ⊢
    exact hr

theorem Dv.rd_byt {w : World} {S : Nat → Prop} {g : Nat} {D : Dev} (h : Dv w S g D) {i : Nat} (hi : i < D.n) : (D.rd i).length = D.blk ∧ ∀ z ∈ D.rd i, 0 ≤ z ∧ z ≤ 255 := by
  obtain ⟨r, hr⟩ := h.rd_row hi
  exact ⟨hr.own.1, hr.byt⟩

/-- A line that was not there: its row and its block are new. -/
theorem KvM.holds {w w1 : World} {S Sc Sd : Nat → Prop} {g dg : Nat} {C : Cac} {D : Dev} {m : KMem} (h : KvM w S Sc Sd g dg C D m) {b : Nat} (hb : b < D.n) (hb1 : Below w.heap.size w w1) {q : Nat} {r : Nat × Nat} {l : Ln} (hq : w.heap.size ≤ q) (hl : w1.rowIs q 70 3 (lcell D.blk r l)) (hr : RowAt w1 (exS Sc w w1) D.blk r l.z) :
    w1.cell? ⟨g, 3, none⟩ = some (.map (some m.mb)) ∧ ∃ w2, (Instr.mapUpdate 64 (.map (some m.mb)) (.int .i64 (b : Int)) (.pointer (some ⟨q, 0, none⟩))).run Try.prog w1 = .ok () w2 ∧
      ∃ S2 Sc2 m2, KvM w2 S2 Sc2 Sd g dg (C.set b l) D m2 ∧ Nx S w S2 w2 ∧ m2.q b = q := by
  have h1 : CcM w1 (exS Sc w w1) g dg D.n D.blk C m := h.cc.kept (fun k hk => hb1.block k (h.cc.lt k hk)) (fun k hk => .inl hk) (fun k hk => by
    rcases hk with hk | hk
    · exact Nat.lt_of_lt_of_le (h.cc.lt k hk) hb1.size
    · exact hk.2)
  obtain ⟨_, _, _, c3, _⟩ := h1.cells
  obtain ⟨w2, r2, c2, x2⟩ := h.cc.add h.dd.ok.n2 hb hb1 hq hl hr (fun k hk => .inl hk) (fun k hk => by
    rcases hk with hk | hk
    · exact Nat.lt_of_lt_of_le (h.cc.lt k hk) hb1.size
    · exact hk.2) (.inr ⟨hq, hl.lt⟩)
  obtain ⟨y1, y2, y3, y4⟩ := Kv.own h.cc.lt h.dd h.dis h.all c2 ((Nx.grow hb1).trans x2)
  exact ⟨c3, w2, r2, _, _, _, ⟨c2, y1, y2, fun k => Iff.rfl⟩, y4, by simp⟩

/-- The line that fetch makes. -/
theorem fetch_reads {w w1 : World} {S S1 : Nat → Prop} {g dg b : Nat} {C : Cac} {D : Dev} (h : Kv w1 S1 g dg C D) (hx : Nx S w S1 w1) (hb : b < D.n) (hd : D.dead = false) :
    Calls Try.prog 20 #[.pointer (some ⟨dg, 0, none⟩), .int .i64 b] w1 fun e w2 => ∃ r, e = .returned (.tuple #[.slice (some ⟨r, 0, none⟩) D.blk D.blk, .int .i64 0]) ∧
      ∃ mb w4, (w2.alloc (.cells #[.slice (some ⟨r, 0, none⟩) D.blk D.blk, .bool false, .int .i64 0] 70)).cell? ⟨g, 3, none⟩ = some (.map (some mb)) ∧
        Hid ((Instr.mapUpdate 64 (.map (some mb)) (.int .i64 (b : Int)) (.pointer (some ⟨w2.heap.size, 0, none⟩))).run Try.prog (w2.alloc (.cells #[.slice (some ⟨r, 0, none⟩) D.blk D.blk, .bool false, .int .i64 0] 70)) = .ok () w4) ∧
        Hid (∃ S4 Sc4 Sd4 m4, KvM w4 S4 Sc4 Sd4 g dg (C.set b ⟨D.rd b, false, 0⟩) D m4 ∧ Nx S w S4 w4 ∧ m4.q b = w2.heap.size) := by
  obtain ⟨Sc, Sd, m, km⟩ := h.open
  obtain ⟨e1, e2⟩ := km.dd.rd_byt hb
  refine (read_ok dg b Sd D w1 km.dd hd hb).mono ?_
  rintro e w2 ⟨rfl, B2, b2⟩
  refine ⟨w1.heap.size, rfl, ?_⟩
  have b3 : Below w1.heap.size w1 (w2.alloc (.cells #[.slice (some ⟨w1.heap.size, 0, none⟩) D.blk D.blk, .bool false, .int .i64 0] 70)) := b2.alloc b2.size _
  have hr : (w2.alloc (.cells #[.slice (some ⟨w1.heap.size, 0, none⟩) D.blk D.blk, .bool false, .int .i64 0] 70)).rowIs w2.heap.size 70 3 (lcell D.blk (w1.heap.size, D.blk) ⟨D.rd b, false, 0⟩) :=
    World.rowIs_alloc w2 #[.slice (some ⟨w1.heap.size, 0, none⟩) D.blk D.blk, .bool false, .int .i64 0] _ _ (fun i hi => by
      have : i = 0 ∨ i = 1 ∨ i = 2 := by simp at hi; omega
      rcases this with rfl | rfl | rfl <;> rfl)
  have hB3 : Block (w2.alloc (.cells #[.slice (some ⟨w1.heap.size, 0, none⟩) D.blk D.blk, .bool false, .int .i64 0] 70)) w1.heap.size (D.rd b) := B2.below (n := w2.heap.size) ((Below.refl _ w2).alloc (Nat.le_refl _) _) B2.lt
  obtain ⟨c3, w4, r4, S4, Sc4, m4, k4, x4, q4⟩ := km.holds hb b3 b2.size hr (RowAt.new hB3 e1 km.dd.ok.b2 e2)
  exact ⟨m.mb, w4, c3, r4, S4, Sc4, Sd, m4, k4, hx.trans x4, q4⟩

/-- What fetch answers, and leaves. -/
def Cac.ftE (C : Cac) (D : Dev) : Int := if C.rmE D ≠ 0 then C.rmE D else if (C.rmD D).dead = true then 7 else 0

def Cac.ftC (C : Cac) (D : Dev) (b : Nat) : Cac := if C.ftE D = 0 then (C.rmC D).set b ⟨(C.rmD D).rd b, false, 0⟩ else C.rmC D

theorem fetch_full (g dg b : Nat) (S : Nat → Prop) (C : Cac) (D : Dev) (w : World) (h : Kv w S g dg C D) (hb : b < D.n) (he : C.rmE D ≠ 0) :
    Calls Try.prog 39 #[.pointer (some ⟨g, 0, none⟩), .int .i64 b] w fun e w' => e = .returned (.tuple #[.pointer none, .int .i64 (C.rmE D)]) ∧ ∃ S', Kv w' S' g dg (C.rmC D) (C.rmD D) ∧ Nx S w S' w' := by
  have K := hide (room_any g dg S C D w h)
  have d1 : (C.rmE D != 0) = true := by simpa using he
  clear h he
  generalize C.rmC D = C1 at *
  generalize C.rmD D = D1 at *
  generalize C.rmE D = e1 at *
  go_enter Try.func39, Try.ntmps39
  go_wp2_with (go_at_call 32; refine (unhide K).mono ?_; rintro e w1 ⟨rfl, K1⟩; replace K1 := hide K1; clear K)
  go_ret2
  exact ⟨rfl, unhide K1⟩

theorem Kv.cell0 {w : World} {S : Nat → Prop} {g dg : Nat} {C : Cac} {D : Dev} (h : Kv w S g dg C D) : w.cell? ⟨g, 0, none⟩ = some (.pointer (some ⟨dg, 0, none⟩)) := by
  obtain ⟨Sc, Sd, m, h1⟩ := h.open
  exact h1.cc.cells.1

theorem Kv.dv {w : World} {S : Nat → Prop} {g dg : Nat} {C : Cac} {D : Dev} (h : Kv w S g dg C D) : ∃ Sd, Dv w Sd dg D := by
  obtain ⟨Sc, Sd, m, h1⟩ := h.open
  exact ⟨Sd, h1.dd⟩

theorem fetch_dead (g dg b : Nat) (S : Nat → Prop) (C : Cac) (D : Dev) (w : World) (h : Kv w S g dg C D) (hb : b < D.n) (he : C.rmE D = 0) (hd : (C.rmD D).dead = true) :
    Calls Try.prog 39 #[.pointer (some ⟨g, 0, none⟩), .int .i64 b] w fun e w' => e = .returned (.tuple #[.pointer none, .int .i64 7]) ∧ ∃ S', Kv w' S' g dg (C.rmC D) (C.rmD D) ∧ Nx S w S' w' := by
  have K := room_any g dg S C D w h
  rw [he] at K
  replace K := hide K
  have KR : Hid (∀ w1 S1, Kv w1 S1 g dg (C.rmC D) (C.rmD D) → w1.cell? ⟨g, 0, none⟩ = some (.pointer (some ⟨dg, 0, none⟩)) ∧ Calls Try.prog 20 #[.pointer (some ⟨dg, 0, none⟩), .int .i64 b] w1 fun e w' => e = .returned (.tuple #[.slice none 0 0, .int .i64 7]) ∧ w1 = w') := by
    intro w1 S1 k1
    obtain ⟨Sd, dv⟩ := k1.dv
    exact ⟨k1.cell0, read_dead dg b Sd _ w1 dv hd⟩
  clear h he hd
  generalize C.rmC D = C1 at *
  generalize C.rmD D = D1 at *
  go_enter Try.func39, Try.ntmps39
  go_wp2_with fail
  go_at_call 32
  refine (unhide K).mono ?_
  rintro e w1 ⟨rfl, S1, k1, x1⟩
  obtain ⟨c0, R1⟩ := unhide KR w1 S1 k1
  have KR1 := hide R1
  have X1 := hide (And.intro k1 x1)
  clear K KR k1 x1 R1
  go_wp2_with fail
  go_at_call 20
  refine (unhide KR1).mono ?_
  rintro e w2 ⟨rfl, rfl⟩
  clear KR1
  go_wp2_with fail
  go_ret2
  exact ⟨rfl, S1, unhide X1⟩

theorem fetch_ok (g dg b : Nat) (S : Nat → Prop) (C : Cac) (D : Dev) (w : World) (h : Kv w S g dg C D) (hb : b < D.n) (he : C.rmE D = 0) (hd : (C.rmD D).dead = false) :
    Calls Try.prog 39 #[.pointer (some ⟨g, 0, none⟩), .int .i64 b] w fun e w' => ∃ q, e = .returned (.tuple #[.pointer (some ⟨q, 0, none⟩), .int .i64 0]) ∧ Hid (∃ S' Sc Sd m, KvM w' S' Sc Sd g dg ((C.rmC D).set b ⟨(C.rmD D).rd b, false, 0⟩) (C.rmD D) m ∧ Nx S w S' w' ∧ m.q b = q) := by
  have K := room_any g dg S C D w h
  rw [he] at K
  replace K := hide K
  have hb1 : b < (C.rmD D).n := by rw [(rmD_n C D).1]; exact hb
  have KR : Hid (∀ w1 S1, Kv w1 S1 g dg (C.rmC D) (C.rmD D) → Nx S w S1 w1 → w1.cell? ⟨g, 0, none⟩ = some (.pointer (some ⟨dg, 0, none⟩)) ∧ _) := fun w1 S1 k1 x1 => ⟨k1.cell0, fetch_reads k1 x1 hb1 hd⟩
  clear h he hd hb hb1
  generalize C.rmC D = C1 at *
  generalize D1e : C.rmD D = D1 at *
  clear D1e
  generalize D1.blk = bb at *
  go_enter Try.func39, Try.ntmps39
  go_wp2_with fail
  go_at_call 32
  refine (unhide K).mono ?_
  rintro e w1 ⟨rfl, S1, k1, x1⟩
  obtain ⟨c0, R1⟩ := unhide KR w1 S1 k1 x1
  have KR1 := hide R1
  clear K KR k1 x1 R1
  go_wp2_with fail
  go_at_call 20
  refine (unhide KR1).mono ?_
  rintro e w2 ⟨r, rfl, mb, w4, c3, R4, X4⟩
  clear KR1 c0
  go_wp2_with (at_mapUpdate; refine wpList_mapUpdate_run 64 rfl _ _ _ rfl _ _ _ rfl rfl rfl (unhide R4) ?_; clear R4 c3)
  go_ret2
  exact ⟨_, rfl, X4⟩

end Go.Proofs.Ytpkhllpghjldhaa
