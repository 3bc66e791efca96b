/- Joined: RParB, RParC, RParD, RParF. -/
import Derived.Test.YtadnlljknocbbaaGreatDoorWoJ44
import Derived.Test.YtadnlljknocbbaaGreatDoorWoPKeep
import Derived.Deep.DeepCutAuto
import Derived.Deep.DeepBigQuietO
import Derived.Deep.RegionHeld3
import Derived.OwnWalk
import Derived.Test.YtadnlljknocbbaaGreatDoorWoJ36
import Derived.Test.YtadnlljknocbbaaGreatDoorWoJ42
/- The document's Parse: a header that is not sound. -/
namespace Go.Proofs.YtadnlljknocbbaaGreatDoor
open Go.RowKit Go.Shelf
set_option linter.unusedVariables false
set_option maxRecDepth 100000

/-- What stands in Parse's own cells: the plan, the result and the header. -/
structure PB (w : World) (P : Nat → Int) (gh : Nat) (x y z : Int) (u : World) : Prop where
  kp : Kp w P u
  res : Bl u (w.heap.size + 1) #[.int .i64 0, .int .i64 0, .int .i64 0] 57
  hd : Bl u gh #[.int .i64 x, .int .i64 y, .int .i64 z] 57
  ne : gh ≠ w.heap.size + 1

theorem PB.call {w : World} {P : Nat → Int} {gh : Nat} {x y z : Int} {u u' : World} (h : PB w P gh x y z u) (hb : Below u.heap.size u u') : PB w P gh x y z u' := ⟨h.kp.call hb, h.res.call hb, h.hd.call hb, h.ne⟩

set_option maxHeartbeats 4000000 in
theorem rparse_bad (P : Nat → Int) (G : Geo) (hP : PG P G) (kb n c : Nat) (X : Nat → Option Addr × Nat) (rd : Nat → List Int) (w : World) (hB : Bks w kb n G.blk X rd) (hn : 2 ≤ n) (x y z e0 : Int)
    (K0 : ∀ u, Below w.heap.size w u → Calls Tryz.prog 94 #[.slice (X 1).1 G.blk (X 1).2] u fun e w' => e = .returned (.tuple #[.agg #[.int .i64 x, .int .i64 y, .int .i64 z], .int .i64 e0]) ∧ Below u.heap.size u w')
    (hbad : e0 ≠ 0 ∨ (e0 = 0 ∧ (G.lg : Int) ≤ y) ∨ (e0 = 0 ∧ y < G.lg ∧ (G.lg : Int) < z)) :
    Calls Tryz.prog 54 #[Pv P, .slice (some ⟨kb, 0, none⟩) n c] w fun e w' => e = .returned (.tuple #[.agg #[.int .i64 0, .int .i64 0, .int .i64 0], .slice none 0 0, .bool false]) ∧ Below w.heap.size w w' := by
  have K := hide K0
  have C1 : Hid (∀ u, Below w.heap.size w u → u.cell? ⟨kb, 1, none⟩ = some (.slice (X 1).1 G.blk (X 1).2)) := fun u hu => (hB.below hu).cel 1 (by omega)
  have hk0 := Kp.start w P
  have HZ := hide (Bl.new (w.alloc (.cells (Pc P) 25)) #[.int .i64 0, .int .i64 0, .int .i64 0] 57)
  have HK := hide (hk0.alloc (.cells #[.int .i64 0, .int .i64 0, .int .i64 0] 57))
  have e1 : (w.alloc (.cells (Pc P) 25)).heap.size = w.heap.size + 1 := by simp
  rw [e1] at HZ
  have p3 := hide hP.p3
  have i1 : (1 : Int) < (n : Int) := by omega
  clear K0 hB hk0 hP
  generalize (X 1).1 = xa at *
  generalize (X 1).2 = xc at *
  generalize G.blk = blk at *
  generalize (G.lg : Int) = lg at *
  go_enter Tryz.func54, Tryz.ntmps54
  go_upto_region 1 with fail
  change Code.wp _ _ _ _ ((w.alloc (.cells (Pc P) 25)).alloc (.cells #[.int .i64 0, .int .i64 0, .int .i64 0] 57))
  generalize (w.alloc (.cells (Pc P) 25)).alloc (.cells #[.int .i64 0, .int .i64 0, .int .i64 0] 57) = W at *
  clear e1
  have c1 := C1.out W HK.out.2
  go_wp2_with fail
  go_at_call 94
  refine (K.out W HK.out.2).mono ?_
  rintro e w1 ⟨rfl, hb⟩
  replace HK := hide (HK.out.call hb)
  replace HZ := hide (HZ.out.call hb)
  clear hb K c1 C1
  have HV := hide (Bl.new w1 #[.int .i64 x, .int .i64 y, .int .i64 z] 57)
  replace HK := hide (HK.out.alloc (.cells #[.int .i64 x, .int .i64 y, .int .i64 z] 57))
  replace HZ := hide (HZ.out.alloc (.cells #[.int .i64 x, .int .i64 y, .int .i64 z] 57))
  go_upto_region 2 with fail
  change Code.wp _ _ _ _ (w1.alloc (.cells #[.int .i64 x, .int .i64 y, .int .i64 z] 57))
  generalize w1.alloc (.cells #[.int .i64 x, .int .i64 y, .int .i64 z] 57) = w2 at *
  generalize w1.heap.size = gh at *
  have v1 := HV.out.cell 1 _ rfl
  have v2 := HV.out.cell 2 _ rfl
  have f3 := HK.out.1.cell 3 (by omega)
  rw [p3.out] at f3
  have hz := HZ.out.free
  have z0 := HZ.out.cell 0 _ rfl
  have z1 := HZ.out.cell 1 _ rfl
  have z2 := HZ.out.cell 2 _ rfl
  rcases hbad with h0 | ⟨h0, h1⟩ | ⟨h0, h1, h2⟩
  · have d1 : (e0 != 0) = true := by simpa using h0
    go_wp2_with fail
    have hW : Below w.heap.size w (setAll w2 (w.heap.size + 1) 0 [.int .i64 0, .int .i64 0, .int .i64 0]) := below_setAll (by omega) _ _ _ _ HK.out.2
    have hA : Bl (setAll w2 (w.heap.size + 1) 0 [.int .i64 0, .int .i64 0, .int .i64 0]) (w.heap.size + 1) #[.int .i64 0, .int .i64 0, .int .i64 0] 57 := setAll_whole [.int .i64 0, .int .i64 0, .int .i64 0] _ _ HZ.out rfl
    change bodyPost _ _ _ _ _ (setAll w2 (w.heap.size + 1) 0 [.int .i64 0, .int .i64 0, .int .i64 0])
    generalize setAll w2 (w.heap.size + 1) 0 [.int .i64 0, .int .i64 0, .int .i64 0] = wf at *
    refine bodyPost_ret (v := .tuple #[.agg #[.int .i64 0, .int .i64 0, .int .i64 0], .slice none 0 0, .bool false]) ?_ rfl ⟨rfl, hW⟩
    simp [results, Tryz.results54, go_sem, hA.cell 0 _ rfl, hA.cell 1 _ rfl, hA.cell 2 _ rfl]
  · subst h0
    go_wp2_with fail
    have hW : Below w.heap.size w (setAll w2 (w.heap.size + 1) 0 [.int .i64 0, .int .i64 0, .int .i64 0]) := below_setAll (by omega) _ _ _ _ HK.out.2
    have hA : Bl (setAll w2 (w.heap.size + 1) 0 [.int .i64 0, .int .i64 0, .int .i64 0]) (w.heap.size + 1) #[.int .i64 0, .int .i64 0, .int .i64 0] 57 := setAll_whole [.int .i64 0, .int .i64 0, .int .i64 0] _ _ HZ.out rfl
    change bodyPost _ _ _ _ _ (setAll w2 (w.heap.size + 1) 0 [.int .i64 0, .int .i64 0, .int .i64 0])
    generalize setAll w2 (w.heap.size + 1) 0 [.int .i64 0, .int .i64 0, .int .i64 0] = wf at *
    refine bodyPost_ret (v := .tuple #[.agg #[.int .i64 0, .int .i64 0, .int .i64 0], .slice none 0 0, .bool false]) ?_ rfl ⟨rfl, hW⟩
    simp [results, Tryz.results54, go_sem, hA.cell 0 _ rfl, hA.cell 1 _ rfl, hA.cell 2 _ rfl]
  · subst h0
    have h1' : ¬ lg ≤ y := by omega
    go_wp2_with fail
    have hW : Below w.heap.size w (setAll w2 (w.heap.size + 1) 0 [.int .i64 0, .int .i64 0, .int .i64 0]) := below_setAll (by omega) _ _ _ _ HK.out.2
    have hA : Bl (setAll w2 (w.heap.size + 1) 0 [.int .i64 0, .int .i64 0, .int .i64 0]) (w.heap.size + 1) #[.int .i64 0, .int .i64 0, .int .i64 0] 57 := setAll_whole [.int .i64 0, .int .i64 0, .int .i64 0] _ _ HZ.out rfl
    change bodyPost _ _ _ _ _ (setAll w2 (w.heap.size + 1) 0 [.int .i64 0, .int .i64 0, .int .i64 0])
    generalize setAll w2 (w.heap.size + 1) 0 [.int .i64 0, .int .i64 0, .int .i64 0] = wf at *
    refine bodyPost_ret (v := .tuple #[.agg #[.int .i64 0, .int .i64 0, .int .i64 0], .slice none 0 0, .bool false]) ?_ rfl ⟨rfl, hW⟩
    simp [results, Tryz.results54, go_sem, hA.cell 0 _ rfl, hA.cell 1 _ rfl, hA.cell 2 _ rfl]

end Go.Proofs.YtadnlljknocbbaaGreatDoor

/- The document's Parse: a header that is sound. -/
namespace Go.Proofs.YtadnlljknocbbaaGreatDoor
open Go.RowKit Go.Shelf
set_option linter.unusedVariables false
set_option maxRecDepth 100000

/-- Behind k numbers of the ring. -/
def PO (w0 : World) (G : Geo) (rd : Nat → List Int) (t used : Nat) (R : Option ((Nat → Option (List Int)) × List Int)) (k : Nat) (v s : Value) (u : World) : Prop :=
  ∃ V Q sq, PA w0 G u v V Q ∧ SQ w0 u s sq ∧ sq.length ≤ k ∧ rgo G rd t used (used - k + 1) k Q sq = R

theorem PO.bel {w0 : World} {G : Geo} {rd : Nat → List Int} {t used : Nat} {R : Option ((Nat → Option (List Int)) × List Int)} {k : Nat} {v s : Value} {u : World} (h : PO w0 G rd t used R k v s u) : Below w0.heap.size w0 u := by
  obtain ⟨V, Q, sq, h1, _⟩ := h
  exact h1.bel

theorem PO.later {w0 : World} {G : Geo} {rd : Nat → List Int} {t used : Nat} {R : Option ((Nat → Option (List Int)) × List Int)} {k : Nat} {v s : Value} {u u' : World} (h : PO w0 G rd t used R k v s u) (hb : Below u.heap.size u u') : PO w0 G rd t used R k v s u' := by
  obtain ⟨V, Q, sq, h1, h2, h3, h4⟩ := h
  exact ⟨V, Q, sq, h1.later hb, h2.below hb, h3, h4⟩

/-- What Undesc answers: is it one, or not. -/
def UD (w' : World) (zs : List Int) (q : Int) (a1 : Option Addr) (N : Nat) (e0 : Int) : Prop := (e0 = 4 ∧ ¬ descIs zs) ∨ (e0 = 0 ∧ descIs zs ∧ N = (dsL zs).length ∧ q = getVal zs 4 4 ∧ IHas w' a1 N (dsL zs) ∧ N ≤ 4096)

theorem undesc_both (a : Option Addr) (len c : Nat) (zs : List Int) (u : World) (hr : Row u.heap.size u a len c zs) (hl : len ≤ 4096) :
    Calls Tryz.prog 95 #[.slice a len c] u fun e w' => ∃ q a1 N c1 e0, e = .returned (.tuple #[.int .i64 q, .slice a1 N c1, .int .i64 e0]) ∧ Hid (Below u.heap.size u w') ∧ Hid (UD w' zs q a1 N e0) := by
  by_cases hd : descIs zs
  · refine (refUndesc_is a len c zs u hr hd).mono ?_
    rintro e w' ⟨a1, c1, rfl, hI, hb⟩
    have hN : (dsL zs).length = dN zs := by unfold dsL; exact takeL_length _ _
    have h1 := hr.1
    exact ⟨_, a1, _, c1, _, rfl, hb, .inr ⟨rfl, hd, hN.symm, rfl, hI.out, by unfold dN; split <;> omega⟩⟩
  · refine (refUndesc_not a len c zs u hr hd).mono ?_
    rintro e w' ⟨a1, c1, rfl, hb⟩
    exact ⟨_, a1, _, c1, _, rfl, hb, .inl ⟨rfl, hd⟩⟩

/-- The numbers of a place in the ring. -/
theorem par_nums {G : Geo} (h : G.Ok) (t k : Nat) (ht : t < G.lg) (hk : k ≤ G.lg) : ∃ m y : Int, (t : Int) + (k : Int) = m ∧ wrap64 m = m ∧ IntKind.i64.wrap m = m ∧ m.tmod (G.lg : Int) = y ∧ IntKind.i64.wrap (2 + y) = (G.ring (t + k) : Int) ∧ wrap64 (2 + y) = (G.ring (t + k) : Int) ∧ (G.lg : Int) ≠ 0 ∧ (G.ring (t + k) : Int) < (G.ib : Int) ∧ 0 ≤ (G.ring (t + k) : Int) := by
  obtain ⟨y, s1, s2, s3, s4⟩ := ring_nums h (t + k)
  have h2 := h.l2
  have h3 := Nat.mod_lt (t + k) (show G.lg > 0 by have := h.l1; omega)
  exact ⟨((t + k : Nat) : Int), y, by omega, by unfold wrap64; omega, by rw [IntKind.wrap_i64]; omega, s1, s2, s3, s4, by unfold Geo.ring Geo.ib; omega, by omega⟩

end Go.Proofs.YtadnlljknocbbaaGreatDoor

/- The document's Parse: what its parts come to. -/
namespace Go.Proofs.YtadnlljknocbbaaGreatDoor
open Go.RowKit Go.Shelf
set_option linter.unusedVariables false
set_option maxRecDepth 100000

/-- What Parse answers: R is what the parts come to. -/
def PEnd (w : World) (G : Geo) (hv : Value) (hs : Int) (R : Option ((Nat → Option (List Int)) × List Int)) (e : Ending) (w' : World) : Prop :=
  Below w.heap.size w w' ∧ ((rres hs R = none ∧ e = .returned (.tuple #[.agg #[.int .i64 0, .int .i64 0, .int .i64 0], .slice none 0 0, .bool false])) ∨
    ∃ Q v, rres hs R = some Q ∧ e = .returned (.tuple #[hv, v, .bool true]) ∧ Hid (∃ V, Lw w.heap.size w' v V ∧ (∀ y ∈ V, Own w.heap.size w' y.da y.dl y.dc y.z ∧ (∀ z ∈ y.z, 0 ≤ z ∧ z ≤ 255)) ∧ wl V = pendW G Q ∧ ∀ y ∈ V, 0 ≤ y.b ∧ y.dl = G.blk))

theorem rgo_bad {G : Geo} {rd : Nat → List Int} {t used k : Nat} {Q : Nat → Option (List Int)} {sq : List Int} (hk : k < used) (h : ¬ (dscOk G (rd (G.ring (t + k))) ∧ k + 1 + (dsL (rd (G.ring (t + k)))).length ≤ used)) (f : Nat) : rgo G rd t used (f + 1) k Q sq = none := by
  rw [rgo, if_pos hk, if_neg h]

theorem PO.bad {w0 : World} {G : Geo} {rd : Nat → List Int} {t used : Nat} {R : Option ((Nat → Option (List Int)) × List Int)} {k : Nat} {v s : Value} {u : World} (h : PO w0 G rd t used R k v s u) (hk : k < used) (hn : ¬ (dscOk G (rd (G.ring (t + k))) ∧ k + 1 + (dsL (rd (G.ring (t + k)))).length ≤ used)) (hs : Int) : rres hs R = none := by
  obtain ⟨V, Q, sq, _, _, _, h4⟩ := h
  rw [← h4, rgo_bad hk hn]
  rfl

theorem PB.bad {w : World} {P : Nat → Int} {gh : Nat} {x y z : Int} {u : World} (h : PB w P gh x y z u) : ∃ wf, wf = setAll u (w.heap.size + 1) 0 [.int .i64 0, .int .i64 0, .int .i64 0] ∧ Below w.heap.size w wf ∧ Bl wf (w.heap.size + 1) #[.int .i64 0, .int .i64 0, .int .i64 0] 57 :=
  ⟨_, rfl, below_setAll (by omega) _ _ _ _ h.kp.2, setAll_whole [.int .i64 0, .int .i64 0, .int .i64 0] _ _ h.res rfl⟩

/-- In a part: i of its writes are noted. -/
structure PI (w0 : World) (G : Geo) (rd : Nat → List Int) (t used : Nat) (R : Option ((Nat → Option (List Int)) × List Int)) (k : Nat) (s : Value) (a1 : Option Addr) (N i : Nat) (v : Value) (u : World) : Prop where
  st : ∃ V Q sq, PA w0 G u v V (setW Q ((partW G rd (t + k)).take i)) ∧ SQ w0 u s sq ∧ sq.length ≤ k ∧ rgo G rd t used (used - k + 1) k Q sq = R
  li : IHas u a1 N (dsL (rd (G.ring (t + k))))
  up : Upto G (dsL (rd (G.ring (t + k)))) i
  ln : N = (dsL (rd (G.ring (t + k)))).length
  is : descIs (rd (G.ring (t + k)))
  n0 : N ≠ 0
  fit : k + 1 + N ≤ used

theorem PI.start {w0 : World} {G : Geo} {rd : Nat → List Int} {t used : Nat} {R : Option ((Nat → Option (List Int)) × List Int)} {k : Nat} {s : Value} {a1 : Option Addr} {N : Nat} {v : Value} {u : World} (h : PO w0 G rd t used R k v s u) (hI : IHas u a1 N (dsL (rd (G.ring (t + k))))) (hN : N = (dsL (rd (G.ring (t + k)))).length) (hd : descIs (rd (G.ring (t + k)))) (h0 : N ≠ 0) (hf : k + 1 + N ≤ used) : PI w0 G rd t used R k s a1 N 0 v u := by
  obtain ⟨V, Q, sq, h1, h2, h3, h4⟩ := h
  exact ⟨⟨V, Q, sq, h1, h2, h3, h4⟩, hI, ⟨fun m hm => by omega, fun m k hm => by omega⟩, hN, hd, h0, hf⟩

theorem PI.bel {w0 : World} {G : Geo} {rd : Nat → List Int} {t used : Nat} {R : Option ((Nat → Option (List Int)) × List Int)} {k : Nat} {s : Value} {a1 : Option Addr} {N i : Nat} {v : Value} {u : World} (h : PI w0 G rd t used R k s a1 N i v u) : Below w0.heap.size w0 u := by
  obtain ⟨V, Q, sq, h1, _⟩ := h.st
  exact h1.bel

theorem PI.later {w0 : World} {G : Geo} {rd : Nat → List Int} {t used : Nat} {R : Option ((Nat → Option (List Int)) × List Int)} {k : Nat} {s : Value} {a1 : Option Addr} {N i : Nat} {v : Value} {u : World} {u' : World} (h : PI w0 G rd t used R k s a1 N i v u) (hb : Below u.heap.size u u') : PI w0 G rd t used R k s a1 N i v u' := by
  obtain ⟨V, Q, sq, h1, h2, h3, h4⟩ := h.st
  exact ⟨⟨V, Q, sq, h1.later hb, h2.below hb, h3, h4⟩, h.li.later hb, h.up, h.ln, h.is, h.n0, h.fit⟩

/-- A list that is not sound. -/
theorem PI.bad {w0 : World} {G : Geo} {rd : Nat → List Int} {t used : Nat} {R : Option ((Nat → Option (List Int)) × List Int)} {k : Nat} {s : Value} {a1 : Option Addr} {N i : Nat} {v : Value} {u : World} (h : PI w0 G rd t used R k s a1 N i v u) (hn : blkE G (dsL (rd (G.ring (t + k)))) ≠ 0) (hs : Int) : rres hs R = none := by
  obtain ⟨V, Q, sq, _, _, _, h4⟩ := h.st
  have := h.fit
  rw [← h4, rgo_bad (by omega) (fun x => hn x.1.2.2)]
  rfl

/-- Number i is out of range. -/
theorem PI.out {w0 : World} {G : Geo} {rd : Nat → List Int} {t used : Nat} {R : Option ((Nat → Option (List Int)) × List Int)} {k : Nat} {s : Value} {a1 : Option Addr} {N i : Nat} {v : Value} {u : World} (h : PI w0 G rd t used R k s a1 N i v u) (hi : i < N) (hn : ¬ ((G.ib : Int) ≤ (dsL (rd (G.ring (t + k))))[i]?.getD 0 ∧ (dsL (rd (G.ring (t + k))))[i]?.getD 0 < G.n)) (hs : Int) : rres hs R = none :=
  h.bad (fun e => hn ((upto_blk.2 e).1 i (by have := h.ln; omega))) hs

/-- Number i stands there twice. -/
theorem PI.two {w0 : World} {G : Geo} {rd : Nat → List Int} {t used : Nat} {R : Option ((Nat → Option (List Int)) × List Int)} {k : Nat} {s : Value} {a1 : Option Addr} {N i : Nat} {v : Value} {u : World} (h : PI w0 G rd t used R k s a1 N i v u) (hi : i < N) {m : Nat} (hm : m < i) (he : (dsL (rd (G.ring (t + k))))[m]?.getD 0 = (dsL (rd (G.ring (t + k))))[i]?.getD 0) (hs : Int) : rres hs R = none :=
  h.bad (fun e => (upto_blk.2 e).2 i m (by have := h.ln; omega) hm he) hs

/-- One write more. -/
theorem PI.note {w0 : World} {G : Geo} {rd : Nat → List Int} {t used : Nat} {R : Option ((Nat → Option (List Int)) × List Int)} {k : Nat} {s : Value} {a1 : Option Addr} {N i : Nat} {v : Value} {u : World} (h : PI w0 G rd t used R k s a1 N i v u) (hG : G.Ok) (hi : i < N) (hr : (G.ib : Int) ≤ (dsL (rd (G.ring (t + k))))[i]?.getD 0 ∧ (dsL (rd (G.ring (t + k))))[i]?.getD 0 < G.n) (hd : ∀ m, m < i → (dsL (rd (G.ring (t + k))))[m]?.getD 0 ≠ (dsL (rd (G.ring (t + k))))[i]?.getD 0) (da : Option Addr) (dc : Nat) (hx : Own w0.heap.size u da G.blk dc (rd (G.ring (t + k + 1 + i)))) (hz : ∀ z ∈ rd (G.ring (t + k + 1 + i)), 0 ≤ z ∧ z ≤ 255) :
    Calls Tryz.prog 61 #[v, .agg #[.int .i64 ((dsL (rd (G.ring (t + k))))[i]?.getD 0), .slice da G.blk dc]] u fun e w' => ∃ v', e = .returned v' ∧ Hid (PI w0 G rd t used R k s a1 N (i + 1) v' w') := by
  obtain ⟨V, Q, sq, h1, h2, h3, h4⟩ := h.st
  have hln := h.ln
  refine (h1.note hG ⟨(dsL (rd (G.ring (t + k))))[i]?.getD 0, da, G.blk, dc, rd (G.ring (t + k + 1 + i))⟩ hx hz (by show (0 : Int) ≤ (dsL (rd (G.ring (t + k))))[i]?.getD 0; omega) (by show ((dsL (rd (G.ring (t + k))))[i]?.getD 0).toNat < G.n; omega) rfl).mono ?_
  rintro e w' ⟨v', rfl, hI⟩
  obtain ⟨⟨V', p⟩, b⟩ := unhide hI
  refine ⟨v', rfl, ⟨V', Q, sq, ?_, h2.below b, h3, h4⟩, h.li.later b, h.up.next hr hd, hln, h.is, h.n0, h.fit⟩
  rw [setW_part Q (by omega)]
  exact p

/-- The part is through: its number goes behind the others. -/
theorem PI.done {w0 : World} {G : Geo} {rd : Nat → List Int} {t used : Nat} {R : Option ((Nat → Option (List Int)) × List Int)} {k : Nat} {s : Value} {a1 : Option Addr} {N : Nat} {v : Value} {u : World} (h : PI w0 G rd t used R k s a1 N N v u) (hu : used ≤ 512) :
    ∃ s' u', (∀ ty, (Builtin.append_ #[40, 40] ty #[s, .slice (some ⟨u.heap.size, 0, none⟩) 1 1]).run Tryz.prog (u.alloc (.cells #[.int .i64 (getVal (rd (G.ring (t + k))) 4 4)] 3)) = .ok s' u') ∧ PO w0 G rd t used R (k + 1 + N) v s' u' := by
  obtain ⟨V, Q, sq, h1, h2, h3, h4⟩ := h.st
  have hln := h.ln
  have hf := h.fit
  obtain ⟨s', u', r, q, b, kp⟩ := h2.app h1.bel.size (getVal (rd (G.ring (t + k))) 4 4) (by omega)
  refine ⟨s', u', r, V, setW Q (partW G rd (t + k)), sq ++ [getVal (rd (G.ring (t + k))) 4 4], ?_, q, by simp; omega, ?_⟩
  · have := kp G v V _ h1
    rwa [List.take_of_length_le (by rw [partW_len]; omega)] at this
  · have hb : blkE G (dsL (rd (G.ring (t + k)))) = 0 := by
      have := h.up
      rw [hln] at this
      exact upto_blk.1 this
    have hne : dsL (rd (G.ring (t + k))) ≠ [] := fun e => h.n0 (by rw [hln, e]; rfl)
    rw [rgo, if_pos (by omega), if_pos ⟨⟨h.is, hne, hb⟩, by omega⟩, ← hln] at h4
    rw [← h4]
    exact (rgo_fuel (used - k) _ _ _ (by omega)).symm

/-- All parts are through. -/
theorem PO.done {w0 : World} {G : Geo} {rd : Nat → List Int} {t used : Nat} {R : Option ((Nat → Option (List Int)) × List Int)} {v s : Value} {u : World} (h : PO w0 G rd t used R used v s u) : ∃ V Q sq, PA w0 G u v V Q ∧ SQ w0 u s sq ∧ sq.length ≤ used ∧ R = some (Q, sq) := by
  obtain ⟨V, Q, sq, h1, h2, h3, h4⟩ := h
  rw [rgo, if_neg (Nat.lt_irrefl _)] at h4
  exact ⟨V, Q, sq, h1, h2, h3, h4.symm⟩

end Go.Proofs.YtadnlljknocbbaaGreatDoor

/- The document's Parse: what is pending stays when the header is laid down. -/
namespace Go.Proofs.YtadnlljknocbbaaGreatDoor
open Go.RowKit Go.Shelf
set_option linter.unusedVariables false
set_option maxRecDepth 100000

theorem PA.fin {w w2 : World} {G : Geo} {u u' : World} {v : Value} {V : List Wr} {Q : Nat → Option (List Int)} (h : PA w2 G u v V Q) (hs : w.heap.size ≤ w2.heap.size) (hk : ∀ k, w2.heap.size ≤ k → u'.heap[k]? = u.heap[k]?) :
    ∃ V, Lw w.heap.size u' v V ∧ (∀ y ∈ V, Own w.heap.size u' y.da y.dl y.dc y.z ∧ (∀ z ∈ y.z, 0 ≤ z ∧ z ≤ 255)) ∧ wl V = pendW G Q ∧ ∀ y ∈ V, 0 ≤ y.b ∧ y.dl = G.blk := by
  refine ⟨V, ?_, fun y hy => ⟨?_, (h.row y hy).2⟩, h.is, h.nb⟩
  · have h1 : Lw w2.heap.size u' v V := ownsRow_other h.lw (fun k e => hk k (ownsRow_blk2 h.lw e).1)
    exact h1.base hs
  · exact ((h.row y hy).1.kept (fun g e => hk g ((h.row y hy).1.lt e).2.1)).base hs

/-- The header is laid into the result's cell. -/
theorem PB.good {w w2 : World} {P : Nat → Int} {gh : Nat} {x y z : Int} {u : World} (h : PB w P gh x y z u) (h2 : w.heap.size + 1 < w2.heap.size) {G : Geo} {v : Value} {V : List Wr} {Q : Nat → Option (List Int)} (hA : PA w2 G u v V Q) :
    ∃ wf, wf = setAll u (w.heap.size + 1) 0 [.int .i64 x, .int .i64 y, .int .i64 z] ∧ Below w.heap.size w wf ∧ Bl wf (w.heap.size + 1) #[.int .i64 x, .int .i64 y, .int .i64 z] 57 ∧
      ∃ V, Lw w.heap.size wf v V ∧ (∀ y ∈ V, Own w.heap.size wf y.da y.dl y.dc y.z ∧ (∀ z ∈ y.z, 0 ≤ z ∧ z ≤ 255)) ∧ wl V = pendW G Q ∧ ∀ y ∈ V, 0 ≤ y.b ∧ y.dl = G.blk :=
  ⟨_, rfl, below_setAll (by omega) _ _ _ _ h.kp.2, setAll_whole [.int .i64 x, .int .i64 y, .int .i64 z] _ _ h.res rfl, hA.fin (by omega) (fun k hk => setAll_other _ _ _ _ (by omega))⟩

theorem rres_ok {hs : Int} {Q : Nat → Option (List Int)} {sq : List Int} (h : sqOk hs sq) : rres hs (some (Q, sq)) = some Q := by
  rw [rres]
  exact if_pos h

theorem rres_bad {hs : Int} {Q : Nat → Option (List Int)} {sq : List Int} (h : ¬ sqOk hs sq) : rres hs (some (Q, sq)) = none := by
  rw [rres]
  exact if_neg h

theorem seq_nums (s M m : Nat) (h1 : s ≤ 4294967295) (h2 : M ≤ 512) (h3 : m ≤ M) : ∃ x1 x2 : Int, (s : Int) - (M : Int) = x1 ∧ wrap64 x1 = x1 ∧ IntKind.i64.wrap x1 = x1 ∧ x1 + (m : Int) = x2 ∧ wrap64 x2 = x2 ∧ IntKind.i64.wrap x2 = x2 :=
  ⟨_, _, rfl, by unfold wrap64; omega, by rw [IntKind.wrap_i64]; omega, rfl, by unfold wrap64; omega, by rw [IntKind.wrap_i64]; omega⟩

end Go.Proofs.YtadnlljknocbbaaGreatDoor

