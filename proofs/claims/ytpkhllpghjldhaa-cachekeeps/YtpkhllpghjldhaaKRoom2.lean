/- The contract of makeRoom, where a block goes. -/
import Derived.Test.YtpkhllpghjldhaaKRoom
namespace Go.Proofs.Ytpkhllpghjldhaa
open Go.RowKit Go.Shelf Go.Maps
set_option linter.unusedVariables false

theorem wpList_delete_run {w w' : World} {ops : Array Oper} {rest : List Oper} {o : Oper} {a : Act} {Q : Exit → Act → World → Prop} (t k : TypeId) (hgd : o.guard = none) (m x : Operand)
    (ho : o.op = .call { callee := .builtin .delete, args := #[m, x], argTypes := #[t, k] }) (v y : Value) (hm : a.eval m = v) (hx : a.eval x = y)
    (hrun : ∀ ty, (Builtin.delete_ #[t, k] ty #[v, y]).run Try.prog w = .ok (.tuple #[]) w')
    (h : wpList Try.prog ops Q rest (a.put o.dst (.tuple #[])) w') : wpList Try.prog ops Q (o :: rest) a w := by
  refine wpList_plain hgd fun K hK => ?_
  have hr := hrun o.type
  unfold Oper.wp
  simp [execOp, ho, resolve, invoke, builtin, hm, hx, hr, Result.andThen]
  exact hK _ _ h

/-- The block that goes is a cell of the list. -/
theorem vic_cell {C : Cac} {n : Nat} {w : World} {a : Option Addr} {len : Nat} (h : IHas w a len (C.list n fLoose)) (hl : len = (C.those n fLoose).length) (hp : 0 < len) {j : Nat} (hj : j = min (max C.pick 0).toNat (len - 1)) :
    ∃ b off, a = some ⟨b, off, none⟩ ∧ w.cell? ⟨b, off + j, none⟩ = some (.int .i64 ((C.vic n : Nat) : Int)) := by
  obtain ⟨b, off, e, hc⟩ := h.2 hp
  refine ⟨b, off, e, ?_⟩
  have hj' : j < len := by omega
  rw [hc j hj']
  subst hl
  unfold Cac.vic Cac.list
  rw [← hj, List.getElem?_map, List.getElem?_eq_getElem hj']
  rfl

/-- Behind the list: writeBack, and delete. -/
theorem room_goes {w w2 : World} {S : Nat → Prop} {g dg : Nat} {C : Cac} {D : Dev} (h : Kv w2 S g dg C.next D) (hx : Nx S w S w2) (hL : C.those D.n fLoose ≠ []) :
    Calls Try.prog 37 #[.pointer (some ⟨g, 0, none⟩), .int .i64 ((C.vic D.n : Nat) : Int)] w2 fun e w3 => e = .returned (.int .i64 (C.next.wbE D (C.vic D.n))) ∧
      Hid (∃ S3, Kv w3 S3 g dg (C.next.wbC D (C.vic D.n)) (C.next.wbD D (C.vic D.n)) ∧ Nx S w S3 w3) ∧
      ∃ mb w4, w3.cell? ⟨g, 3, none⟩ = some (.map (some mb)) ∧ Hid (∀ ty, (Builtin.delete_ #[64, 3] ty #[.map (some mb), .int .i64 ((C.vic D.n : Nat) : Int)]).run Try.prog w3 = .ok (.tuple #[]) w4) ∧
        Hid (∃ S4, Kv w4 S4 g dg ((C.next.wbC D (C.vic D.n)).del (C.vic D.n)) (C.next.wbD D (C.vic D.n)) ∧ Nx S w S4 w4) := by
  have hv := Cac.mem_those.1 (vic_mem hL)
  refine (writeBack_any g dg (C.vic D.n) S C.next D w2 h hv.1).mono ?_
  rintro e w3 ⟨rfl, S3, k3, x3⟩
  refine ⟨rfl, ⟨S3, k3, hx.trans x3⟩, ?_⟩
  obtain ⟨Sc, Sd, m, km⟩ := k3.open
  have hn := wbD_n C.next D (C.vic D.n)
  obtain ⟨w4, r4, c4, x4⟩ := km.cc.drop (by rw [hn.1]; exact h.ok.n2) (b := C.vic D.n) (by rw [hn.1]; exact hv.1)
  obtain ⟨_, _, _, c3, _⟩ := km.cc.cells
  obtain ⟨y1, y2, y3, y4⟩ := Kv.own km.cc.lt km.dd km.dis km.all c4 x4
  exact ⟨m.mb, w4, c3, r4, _, y3, (hx.trans x3).trans y4⟩

set_option maxHeartbeats 1000000 in
theorem room_go_in (g dg : Nat) (S Sc Sd : Nat → Prop) (C : Cac) (D : Dev) (m : KMem) (w : World) (h : KvM w S Sc Sd g dg C D m) (hl : ¬ (C.those D.n fHeld).length < C.cap) (l1 : Nat) (h0 : (C.those D.n fLoose).length = l1 + 1) :
    Calls Try.prog 32 #[.pointer (some ⟨g, 0, none⟩)] w fun e w' => e = .returned (.int .i64 (C.next.wbE D (C.vic D.n))) ∧ ∃ S', Kv w' S' g dg (if C.next.wbE D (C.vic D.n) = 0 then (C.next.wbC D (C.vic D.n)).del (C.vic D.n) else C.next.wbC D (C.vic D.n)) (C.next.wbD D (C.vic D.n)) ∧ Nx S w S' w' := by
  obtain ⟨_, c1, _, c3, _⟩ := h.cc.cells
  have hlen : ∀ (k : Nat) ty, (Builtin.len_ #[64] ty #[.map (some m.mb)]).run Try.prog (w.drewN k) = .ok (.int .i64 ((C.those D.n fHeld).length : Int)) (w.drewN k) := fun k ty => by
    have := (show MapIs (w.drewN k) m.mb D.n (C.M m) from h.cc.map).len ty
    rwa [keys_held] at this
  have K := hide (fun k => room_asks g dg S Sc Sd C D m w h k)
  have hn := h.dd.ok.n2
  have hln := C.those_len D.n fLoose
  have KJ : Hid (∀ w2 a len, len = (C.those D.n fLoose).length → IHas w2 a len (C.list D.n fLoose) → ∃ b off, a = some ⟨b, off, none⟩ ∧ w2.cell? ⟨b, off + (min (max C.pick 0) (l1 : Int)).toNat, none⟩ = some (.int .i64 ((C.vic D.n : Nat) : Int))) := by
    intro w2 a len e hi
    obtain ⟨b, off, e1, e2⟩ := vic_cell (j := (min (max C.pick 0) (l1 : Int)).toNat) hi e (by omega) (by omega)
    exact ⟨b, off, e1, e2⟩
  have KG : Hid (∀ w2, Kv w2 S g dg C.next D → Nx S w S w2 → _) := fun w2 a b => room_goes (w := w) (w2 := w2) a b (by intro e; rw [e] at h0; simp at h0)
  rw [h0] at K
  have hE : C.next.wbE D (C.vic D.n) = 0 ∨ C.next.wbE D (C.vic D.n) = 7 := by
    unfold Cac.wbE Dev.wE
    split
    · split
      · split <;> simp
      · simp
    · simp
  have hsm : l1 ≤ 4096 := by omega
  have h0' : Hid (l1 + 1 = (C.those D.n fLoose).length) := h0.symm
  generalize (C.those D.n fHeld).length = nh at *
  generalize C.cap = cp at *
  generalize C.pick = pk at *
  generalize m.mb = mb at *
  generalize C.next.wbC D (C.vic D.n) = C3 at *
  generalize C.next.wbD D (C.vic D.n) = D3 at *
  generalize C.next.wbE D (C.vic D.n) = E3 at *
  generalize C.vic D.n = vc at *
  clear h h0 hn hln
  rcases hE with rfl | rfl
  · rw [if_pos rfl]
    go_enter Try.func32, Try.ntmps32
    go_wp2_with fail
    go_quiet (fail)
    clear hlen
    go_wp2_with fail
    go_at_call 53
    refine (unhide K _).mono ?_
    rintro e w1 ⟨rfl, K1⟩
    clear K
    go_wp2_with fail
    go_at_call 40
    refine (unhide K1).mono ?_
    rintro e w2 ⟨a, c, rfl, K2⟩
    clear K1
    obtain ⟨b, off, rfl, c9⟩ := unhide KJ w2 a _ (unhide h0') (unhide K2).1
    have hcc := (unhide K2).2.1
    have K3 := hide (unhide KG w2 (unhide K2).2.2.1 (unhide K2).2.2.2)
    clear K2 KJ KG h0'
    go_wp2_with fail
    go_at_call 37
    refine (unhide K3).mono ?_
    rintro e w3 ⟨rfl, _, mb3, w4, c4, R4, X4⟩
    clear K3 c9 hcc
    go_wp2_with (at_delete; refine wpList_delete_run 64 3 rfl _ _ rfl _ _ rfl rfl (unhide R4) ?_; clear R4)
    go_ret
    exact ⟨rfl, unhide X4⟩
  · rw [if_neg (by omega)]
    go_enter Try.func32, Try.ntmps32
    go_wp2_with fail
    go_quiet (fail)
    clear hlen
    go_wp2_with fail
    go_at_call 53
    refine (unhide K _).mono ?_
    rintro e w1 ⟨rfl, K1⟩
    clear K
    go_wp2_with fail
    go_at_call 40
    refine (unhide K1).mono ?_
    rintro e w2 ⟨a, c, rfl, K2⟩
    clear K1
    obtain ⟨b, off, rfl, c9⟩ := unhide KJ w2 a _ (unhide h0') (unhide K2).1
    have hcc := (unhide K2).2.1
    have K3 := hide (unhide KG w2 (unhide K2).2.2.1 (unhide K2).2.2.2)
    clear K2 KJ KG h0'
    go_wp2_with fail
    go_at_call 37
    refine (unhide K3).mono ?_
    rintro e w3 ⟨rfl, X3, _⟩
    clear K3 c9 hcc
    go_wp2_with fail
    go_ret
    exact ⟨rfl, unhide X3⟩

/-- makeRoom. -/
theorem room_any (g dg : Nat) (S : Nat → Prop) (C : Cac) (D : Dev) (w : World) (h : Kv w S g dg C D) :
    Calls Try.prog 32 #[.pointer (some ⟨g, 0, none⟩)] w fun e w' => e = .returned (.int .i64 (C.rmE D)) ∧ ∃ S', Kv w' S' g dg (C.rmC D) (C.rmD D) ∧ Nx S w S' w' := by
  have hk := h
  obtain ⟨Sc, Sd, m, h⟩ := h.open
  by_cases hl : (C.those D.n fHeld).length < C.cap
  · have e1 : C.rmE D = 0 := if_pos hl
    have e2 : C.rmC D = C := if_pos hl
    have e3 : C.rmD D = D := if_pos hl
    rw [e1, e2, e3]
    refine (room_free g dg S Sc Sd C D m w h hl).mono ?_
    rintro e w' ⟨rfl, k, rfl⟩
    exact ⟨rfl, S, (h.drewN k).kv, Nx.drewN S w k⟩
  · by_cases h0 : C.those D.n fLoose = []
    · have e1 : C.rmE D = 8 := by unfold Cac.rmE; rw [if_neg hl, if_pos h0]
      have e2 : C.rmC D = C.next := by unfold Cac.rmC; rw [if_neg hl, if_pos h0]
      have e3 : C.rmD D = D := by unfold Cac.rmD; rw [if_neg hl, if_pos h0]
      rw [e1, e2, e3]
      refine (room_none g dg S Sc Sd C D m w h hl h0).mono ?_
      rintro e w' ⟨rfl, h1, h2⟩
      exact ⟨rfl, S, h1, h2⟩
    · have e1 : C.rmE D = C.next.wbE D (C.vic D.n) := by unfold Cac.rmE; rw [if_neg hl, if_neg h0]
      have e2 : C.rmC D = if C.next.wbE D (C.vic D.n) = 0 then (C.next.wbC D (C.vic D.n)).del (C.vic D.n) else C.next.wbC D (C.vic D.n) := by unfold Cac.rmC; rw [if_neg hl, if_neg h0]
      have e3 : C.rmD D = C.next.wbD D (C.vic D.n) := by unfold Cac.rmD; rw [if_neg hl, if_neg h0]
      rw [e1, e2, e3]
      obtain ⟨l1, hl1⟩ : ∃ l1, (C.those D.n fLoose).length = l1 + 1 := ⟨(C.those D.n fLoose).length - 1, by have := List.length_pos_iff.2 h0; omega⟩
      exact room_go_in g dg S Sc Sd C D m w h hl l1 hl1

end Go.Proofs.Ytpkhllpghjldhaa
