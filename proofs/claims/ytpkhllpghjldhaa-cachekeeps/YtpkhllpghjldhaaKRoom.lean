/- The contracts of Held, Dirty and makeRoom. -/
import Derived.Test.YtpkhllpghjldhaaKThose
import Derived.BigRegion
namespace Go.Proofs.Ytpkhllpghjldhaa
open Go.RowKit Go.Shelf Go.Maps
set_option linter.unusedVariables false

theorem keys_held (C : Cac) (m : KMem) (n : Nat) : keysOf n (C.M m) = C.those n fHeld := by
  unfold keysOf Cac.those Cac.M
  refine List.filter_congr (fun k _ => ?_)
  cases C.L k <;> simp [fHeld]

theorem held_nil (w : World) : Calls Try.prog 15 #[.pointer none] w fun e w' => e = .returned (.slice none 0 0) ∧ w = w' := by
  go_enter Try.func15, Try.ntmps15
  go_wp2_with (go_at_call 40; refine (those_nil _ w).mono ?_; rintro e w' ⟨rfl, rfl⟩)
  go_ret
  exact ⟨rfl, rfl⟩

theorem dirty_nil (w : World) : Calls Try.prog 16 #[.pointer none] w fun e w' => e = .returned (.slice none 0 0) ∧ w = w' := by
  go_enter Try.func16, Try.ntmps16
  go_wp2_with (go_at_call 40; refine (those_nil _ w).mono ?_; rintro e w' ⟨rfl, rfl⟩)
  go_ret
  exact ⟨rfl, rfl⟩

theorem held_cc (g dg n blk : Nat) (S : Nat → Prop) (C : Cac) (m : KMem) (w : World) (h : CcM w S g dg n blk C m) (hn : n ≤ 4096) :
    Calls Try.prog 15 #[.pointer (some ⟨g, 0, none⟩)] w fun e w' => ∃ v, e = .returned v ∧ Gr w.heap.size w' v (C.list n fHeld) ∧ Below w.heap.size w w' := by
  have K := hide (those_held g dg n blk S C m w h hn)
  clear h
  go_enter Try.func15, Try.ntmps15
  go_wp2_with (go_at_call 40; refine (unhide K).mono ?_; rintro e w' ⟨v, rfl, h1, h2⟩; have H1 := hide h1; have H2 := hide h2; clear h1 h2 K)
  go_ret
  exact ⟨_, rfl, unhide H1, unhide H2⟩

theorem dirty_cc (g dg n blk : Nat) (S : Nat → Prop) (C : Cac) (m : KMem) (w : World) (h : CcM w S g dg n blk C m) (hn : n ≤ 4096) :
    Calls Try.prog 16 #[.pointer (some ⟨g, 0, none⟩)] w fun e w' => ∃ v, e = .returned v ∧ Gr w.heap.size w' v (C.list n fDirty) ∧ Below w.heap.size w w' := by
  have K := hide (those_dirty g dg n blk S C m w h hn)
  clear h
  go_enter Try.func16, Try.ntmps16
  go_wp2_with (go_at_call 40; refine (unhide K).mono ?_; rintro e w' ⟨v, rfl, h1, h2⟩; have H1 := hide h1; have H2 := hide h2; clear h1 h2 K)
  go_ret
  exact ⟨_, rfl, unhide H1, unhide H2⟩

theorem held_kv (g dg : Nat) (S : Nat → Prop) (C : Cac) (D : Dev) (w : World) (h : Kv w S g dg C D) :
    Calls Try.prog 15 #[.pointer (some ⟨g, 0, none⟩)] w fun e w' => ∃ v, e = .returned v ∧ Gr w.heap.size w' v (C.list D.n fHeld) ∧ Below w.heap.size w w' := by
  obtain ⟨Sc, Sd, m, h⟩ := h.open
  exact held_cc g dg D.n D.blk Sc C m w h.cc h.dd.ok.n2

theorem dirty_kv (g dg : Nat) (S : Nat → Prop) (C : Cac) (D : Dev) (w : World) (h : Kv w S g dg C D) :
    Calls Try.prog 16 #[.pointer (some ⟨g, 0, none⟩)] w fun e w' => ∃ v, e = .returned v ∧ Gr w.heap.size w' v (C.list D.n fDirty) ∧ Below w.heap.size w w' := by
  obtain ⟨Sc, Sd, m, h⟩ := h.open
  exact dirty_cc g dg D.n D.blk Sc C m w h.cc h.dd.ok.n2

/-- The block that goes. -/
def Cac.vic (C : Cac) (n : Nat) : Nat := (C.those n fLoose)[min (max C.pick 0).toNat ((C.those n fLoose).length - 1)]?.getD 0

theorem vic_mem {C : Cac} {n : Nat} (h : C.those n fLoose ≠ []) : C.vic n ∈ C.those n fLoose := by
  unfold Cac.vic
  have : 0 < (C.those n fLoose).length := List.length_pos_iff.2 h
  rw [List.getElem?_eq_getElem (by omega)]
  exact List.getElem_mem _

/-- What makeRoom answers, and leaves. -/
def Cac.rmE (C : Cac) (D : Dev) : Int := if (C.those D.n fHeld).length < C.cap then 0 else if C.those D.n fLoose = [] then 8 else C.next.wbE D (C.vic D.n)

def Cac.rmC (C : Cac) (D : Dev) : Cac := if (C.those D.n fHeld).length < C.cap then C else if C.those D.n fLoose = [] then C.next else if C.next.wbE D (C.vic D.n) = 0 then (C.next.wbC D (C.vic D.n)).del (C.vic D.n) else C.next.wbC D (C.vic D.n)

def Cac.rmD (C : Cac) (D : Dev) : Dev := if (C.those D.n fHeld).length < C.cap then D else if C.those D.n fLoose = [] then D else C.next.wbD D (C.vic D.n)

theorem rmD_n (C : Cac) (D : Dev) : (C.rmD D).n = D.n ∧ (C.rmD D).blk = D.blk := by
  unfold Cac.rmD
  split
  · exact ⟨rfl, rfl⟩
  · split
    · exact ⟨rfl, rfl⟩
    · exact wbD_n _ _ _

theorem room_free (g dg : Nat) (S Sc Sd : Nat → Prop) (C : Cac) (D : Dev) (m : KMem) (w : World) (h : KvM w S Sc Sd g dg C D m) (hl : (C.those D.n fHeld).length < C.cap) :
    Calls Try.prog 32 #[.pointer (some ⟨g, 0, none⟩)] w fun e w' => e = .returned (.int .i64 0) ∧ ∃ k, w' = w.drewN k := by
  obtain ⟨_, c1, _, c3, _⟩ := h.cc.cells
  have hlen : ∀ (k : Nat) ty, (Builtin.len_ #[64] ty #[.map (some m.mb)]).run Try.prog (w.drewN k) = .ok (.int .i64 ((C.those D.n fHeld).length : Int)) (w.drewN k) := fun k ty => by
    have := (show MapIs (w.drewN k) m.mb D.n (C.M m) from h.cc.map).len ty
    rwa [keys_held] at this
  generalize (C.those D.n fHeld).length = nh at *
  generalize C.cap = cp at *
  generalize m.mb = mb at *
  clear h
  go_enter Try.func32, Try.ntmps32
  go_wp2_with fail
  go_quiet (fail)
  go_wp2_with fail
  go_ret
  exact ⟨rfl, _, rfl⟩

theorem KvM.drewN {u : World} {S Sc Sd : Nat → Prop} {g dg : Nat} {C : Cac} {D : Dev} {m : KMem} (h : KvM u S Sc Sd g dg C D m) (k : Nat) : KvM (u.drewN k) S Sc Sd g dg C D m :=
  ⟨h.cc.kept (fun _ _ => rfl) (fun _ h => h) h.cc.lt, h.dd.kept (fun _ _ => rfl) (Nat.le_refl _), h.dis, h.all⟩

theorem Nx.drewN (S : Nat → Prop) (w : World) (k : Nat) : Nx S w S (w.drewN k) := ⟨⟨rfl, rfl, rfl, Nat.le_refl _, fun _ _ _ => rfl⟩, fun _ _ h => h⟩

theorem Nx.below' {S S' : Nat → Prop} {w w1 w2 : World} (h : Nx S w S' w1) (hb : Below w1.heap.size w1 w2) : Nx S w S' w2 :=
  ⟨⟨hb.os.trans h.fr.os, hb.tape.trans h.fr.tape, hb.output.trans h.fr.output, Nat.le_trans h.fr.size hb.size, fun k hk hn => (hb.block k (Nat.lt_of_lt_of_le hk h.fr.size)).trans (h.fr.block k hk hn)⟩, h.sub⟩

theorem Gr.ihas {B : Nat} {w : World} {v : Value} {L : List Int} (h : Gr B w v L) : ∃ a c, v = .slice a L.length c ∧ IHas w a L.length L ∧ L.length ≤ c ∧ c ≤ maxLen := by
  obtain ⟨a, c, e, ho⟩ := h.own
  refine ⟨a, c, e, ?_, ho.2.1, ho.2.2.1⟩
  refine ⟨rfl, fun hp => ?_⟩
  obtain ⟨g, ea, _, hc, _⟩ := ho.cell (j := 0) hp
  refine ⟨g, 0, ea, fun j hj => ?_⟩
  obtain ⟨g', ea', _, hc', _⟩ := ho.cell hj
  rw [ea] at ea'
  cases ea'
  rw [Nat.zero_add]
  exact hc'

/-- The pick, and the blocks that may go. -/
theorem room_asks (g dg : Nat) (S Sc Sd : Nat → Prop) (C : Cac) (D : Dev) (m : KMem) (w : World) (h : KvM w S Sc Sd g dg C D m) (k : Nat) :
    Calls Try.prog 53 #[.pointer (some ⟨g, 0, none⟩)] (w.drewN k) fun e w1 => e = .returned (.int .i64 C.pick) ∧
      Hid (Calls Try.prog 40 #[.pointer (some ⟨g, 0, none⟩), .func (.func 54) #[] #[]] w1 fun e w2 => ∃ a c, e = .returned (.slice a (C.those D.n fLoose).length c) ∧
        Hid (IHas w2 a (C.those D.n fLoose).length (C.list D.n fLoose) ∧ (C.those D.n fLoose).length ≤ c ∧ Kv w2 S g dg C.next D ∧ Nx S w S w2)) := by
  have h1 := h.drewN k
  refine (nextPick_any g dg D.n D.blk Sc C m (w.drewN k) h1.cc).mono ?_
  rintro e w1 ⟨rfl, m', c1, x1⟩
  refine ⟨rfl, ?_⟩
  obtain ⟨y1, y2, y3, y4⟩ := Kv.own h1.cc.lt h1.dd h1.dis h1.all c1 x1
  have hkv : Kv w1 S g dg C.next D := ⟨Sc, Sd, m', c1, y1, y2, h1.all⟩
  have hx : Nx S w S w1 := (Nx.drewN S w k).trans ⟨y4.fr, fun k hk hs => y4.sub k hk ((h1.all k).1 hs)⟩
  refine (those_loose g dg D.n D.blk Sc C.next m' w1 c1 h.dd.ok.n2).mono ?_
  rintro e w2 ⟨v, rfl, g1, b1⟩
  obtain ⟨a, c, rfl, i1, i2, i3⟩ := g1.ihas
  have el : (C.next.list D.n fLoose).length = (C.those D.n fLoose).length := by simp [Cac.list]; rfl
  rw [el] at i1 i2 ⊢
  exact ⟨a, c, rfl, i1, i2, hkv.below b1, hx.below' b1⟩

theorem room_none (g dg : Nat) (S Sc Sd : Nat → Prop) (C : Cac) (D : Dev) (m : KMem) (w : World) (h : KvM w S Sc Sd g dg C D m) (hl : ¬ (C.those D.n fHeld).length < C.cap) (h0 : C.those D.n fLoose = []) :
    Calls Try.prog 32 #[.pointer (some ⟨g, 0, none⟩)] w fun e w' => e = .returned (.int .i64 8) ∧ Kv w' S g dg C.next D ∧ Nx S w S w' := by
  obtain ⟨_, c1, _, c3, _⟩ := h.cc.cells
  have hlen : ∀ (k : Nat) ty, (Builtin.len_ #[64] ty #[.map (some m.mb)]).run Try.prog (w.drewN k) = .ok (.int .i64 ((C.those D.n fHeld).length : Int)) (w.drewN k) := fun k ty => by
    have := (show MapIs (w.drewN k) m.mb D.n (C.M m) from h.cc.map).len ty
    rwa [keys_held] at this
  have K := hide (fun k => room_asks g dg S Sc Sd C D m w h k)
  rw [h0, List.length_nil] at K
  generalize (C.those D.n fHeld).length = nh at *
  generalize C.cap = cp at *
  generalize C.pick = pk at *
  generalize m.mb = mb at *
  clear h h0
  go_enter Try.func32, Try.ntmps32
  go_wp2_with fail
  go_quiet (fail)
  clear hlen
  go_wp2_with fail
  go_at_call 53
  refine (unhide K _).mono ?_
  rintro e w1 ⟨rfl, K1⟩
  clear K
  go_wp2_with fail
  go_at_call 40
  refine (unhide K1).mono ?_
  rintro e w2 ⟨a, c, rfl, K2⟩
  clear K1
  go_wp2_with fail
  go_ret
  exact ⟨rfl, (unhide K2).2.2⟩

end Go.Proofs.Ytpkhllpghjldhaa
