/- Joined: WInv, WCr, WCr2, WCr3. -/
import Derived.Test.YtadnlljknocbbaaGreatDoorWcJ35
/- A log on a device: what stands there behind each commit and each apply, and that it is read as it was. -/
namespace Go.Proofs.YtadnlljknocbbaaGreatDoor
open Go.RowKit Go.Shelf
set_option linter.unusedVariables false

theorem Std.kept {G : Geo} {rd rd' : Nat → List Int} : ∀ {Ps : List Wl} {a q : Nat}, Std G rd a q Ps → (∀ i, i < spanP Ps → rd' (G.ring (a + i)) = rd (G.ring (a + i))) → Std G rd' a q Ps
  | [], a, q, h, hk => trivial
  | W :: r, a, q, ⟨h1, h2, h3, h4⟩, hk => by
    refine ⟨h1, ?_, fun i hi => ?_, h4.kept (fun i hi => ?_)⟩
    · exact (hk 0 (by simp [spanP]; omega)).trans h2
    · have := hk (1 + i) (by simp [spanP]; omega)
      rw [show a + (1 + i) = a + 1 + i by omega] at this
      rw [this, h3 i hi]
    · have := hk (1 + W.length + i) (by simp [spanP]; omega)
      rwa [show a + (1 + W.length + i) = a + 1 + W.length + i by omega] at this

theorem Std.append {G : Geo} {rd : Nat → List Int} {B : List Wl} : ∀ {A : List Wl} {a q : Nat}, Std G rd a q A → Std G rd (a + spanP A) (q + A.length) B → Std G rd a q (A ++ B)
  | [], a, q, _, h => by simpa [spanP] using h
  | W :: r, a, q, ⟨h1, h2, h3, h4⟩, h => by
    refine ⟨h1, h2, h3, h4.append ?_⟩
    rw [show a + 1 + W.length + spanP r = a + spanP (W :: r) by simp [spanP]; omega, show q + 1 + r.length = q + (W :: r).length by simp; omega]
    exact h

theorem spanP_append (A B : List Wl) : spanP (A ++ B) = spanP A + spanP B := by
  induction A with
  | nil => simp [spanP]
  | cons W r ih => simp [spanP, ih]; omega

theorem spanP_len (A : List Wl) : A.length ≤ spanP A := by
  induction A with
  | nil => simp
  | cons W r ih => simp [spanP]; omega

theorem blkE_sub {G : Geo} {ns ms : List Int} (h : blkE G ns = 0) (hs : ms.Sublist ns) : blkE G ms = 0 := by
  obtain ⟨h1, h2⟩ := blkE_ok h
  unfold blkE
  rw [if_pos (List.all_eq_true.2 (fun b hb => by simpa using h1 b (hs.subset hb))), if_pos (h2.sublist hs)]

/-- Parts that were written. -/
theorem parts_std {G : Geo} (hG : G.Ok) (W : Wl) : ∀ (q a : Nat) (r : Nat → List Int), blkE G (W.map (fun x => (x.1 : Int))) = 0 → q + G.parts W.length ≤ 4294967295 → G.uses W.length ≤ G.lg →
    Std G (rdS (partsS G q a W) r) a q (cutP G W) ∧ ∀ j, (∀ i, i < G.uses W.length → j ≠ G.ring (a + i)) → rdS (partsS G q a W) r j = r j := by
  have hm := hG.most
  refine cut_ind hG (P := fun W => ∀ (q a : Nat) (r : Nat → List Int), blkE G (W.map (fun x => (x.1 : Int))) = 0 → q + G.parts W.length ≤ 4294967295 → G.uses W.length ≤ G.lg →
    Std G (rdS (partsS G q a W) r) a q (cutP G W) ∧ ∀ j, (∀ i, i < G.uses W.length → j ≠ G.ring (a + i)) → rdS (partsS G q a W) r j = r j) ?_ (fun W hW ih => ?_) W
  · intro q a r _ _ _
    rw [partsS_nil, cutP_nil]
    exact ⟨trivial, fun j _ => rfl⟩
  · intro q a r hb hq hu
    have hl : 0 < W.length := List.length_pos_iff.2 hW
    have hp := Geo.parts_step hG hl
    have hmin : (W.take G.most).length = min W.length G.most := by rw [List.length_take]; omega
    have hdl : (W.drop G.most).length = W.length - min W.length G.most := by rw [List.length_drop]; omega
    unfold Geo.uses at hu
    rw [partsS_cons hG q a hW, cutP_cons hG hW, rdS_append]
    obtain ⟨p1, p2, p3⟩ := part_in hG q a (W.take G.most) r (by omega)
    obtain ⟨s1, s2⟩ := ih (q + 1) (a + 1 + min W.length G.most) (rdS (partS G q a (W.take G.most)) r) (blkE_sub hb (by rw [List.map_drop]; exact List.drop_sublist _ _)) (by rw [hdl]; omega) (by unfold Geo.uses; rw [hdl]; omega)
    unfold Geo.uses at s2
    rw [hdl] at s2
    have keep : ∀ i, i < 1 + (W.take G.most).length → rdS (partsS G (q + 1) (a + 1 + min W.length G.most) (W.drop G.most)) (rdS (partS G q a (W.take G.most)) r) (G.ring (a + i)) = rdS (partS G q a (W.take G.most)) r (G.ring (a + i)) := fun i hi => s2 _ (fun i' hi' => ring_ne hG (by omega) (by omega))
    refine ⟨⟨⟨?_, by omega, blkE_sub hb (by rw [List.map_take]; exact List.take_sublist _ _), by omega⟩, ?_, fun i hi => ?_, ?_⟩, fun j hj => ?_⟩
    · intro e
      rw [e] at hmin
      simp at hmin
      omega
    · exact (keep 0 (by omega)).trans p1
    · have := keep (1 + i) (by omega)
      rw [show a + (1 + i) = a + 1 + i by omega] at this
      rw [this, p2 i hi]
    · rw [hmin]
      exact s1
    · unfold Geo.uses at hj
      rw [s2 j (fun i hi => ?_), p3 j (fun i hi => hj i (by omega))]
      have := hj (1 + min W.length G.most + i) (by omega)
      rwa [show a + (1 + min W.length G.most + i) = a + 1 + min W.length G.most + i by omega] at this

/-- The log L stands on a device: its parts are Ps. -/
structure Inv (G : Geo) (rd : Nat → List Int) (L : Lg) (Ps : List Wl) : Prop where
  hd : rd 1 = hdB G L.h
  ok : L.h.Ok G
  sq : Ps.length ≤ L.h.seq
  std : Std G rd L.h.tail (L.h.seq - Ps.length) Ps
  sp : spanP Ps = L.h.used
  q : L.Q = setW (fun _ => none) Ps.flatten

theorem Inv.parse {G : Geo} (hG : G.Ok) {rd : Nat → List Int} {L : Lg} {Ps : List Wl} (h : Inv G rd L Ps) (hb : hdIs (hdB G L.h) ∧ hdOf (hdB G L.h) = L.h) : Go.Proofs.YtadnlljknocbbaaGreatDoor.parse G rd = some ⟨L.h, L.Q, false⟩ := by
  have h1 := h.ok.used
  have h2 := hG.l2
  have h3 := spanP_len Ps
  have h4 := h.sp
  have h5 := h.sq
  unfold Go.Proofs.YtadnlljknocbbaaGreatDoor.parse
  rw [h.hd, hb.2, if_pos ⟨hb.1, h.ok.tail, h1⟩, go_std hG rd _ _ _ Ps 600 L.h.tail (L.h.seq - Ps.length) _ _ h.std (by omega) (by omega) (by congr 1; omega) (fun e => ?_) (Nat.le_refl _), ← h.q]
  · rfl
  · rcases e with e | e
    · rw [e]; simp
    · omega

theorem rdS_stl (G : Geo) (h : Hd) (r : Nat → List Int) : rdS (stlS G h) r = fun j => if j = 1 then hdB G h else r j := rfl

/-- A commit for which there is room. -/
theorem Inv.commit {G : Geo} (hG : G.Ok) {rd : Nat → List Int} {L : Lg} {Ps : List Wl} (h : Inv G rd L Ps) (W : Wl) (hb : blkE G (W.map (fun x => (x.1 : Int))) = 0) (hq : L.h.seq + G.parts W.length ≤ 4294967295) (hu : L.h.used + G.uses W.length ≤ G.lg) (d : Bool) :
    Inv G (rdS (comS G L W) rd) ⟨G.after L.h W.length, setW L.Q W, d⟩ (Ps ++ cutP G W) := by
  have h4 := h.sp
  have h5 := h.sq
  have ht := h.ok.tail
  obtain ⟨s1, s2⟩ := parts_std hG W L.h.seq (L.h.tail + L.h.used) rd hb hq (by omega)
  obtain ⟨c1, c2⟩ := cut_len hG W
  have e : rdS (comS G L W) rd = fun j => if j = 1 then hdB G (G.after L.h W.length) else rdS (partsS G L.h.seq (L.h.tail + L.h.used) W) rd j := by
    unfold comS
    rw [rdS_append, rdS_stl]
  have ering : ∀ i, rdS (comS G L W) rd (G.ring i) = rdS (partsS G L.h.seq (L.h.tail + L.h.used) W) rd (G.ring i) := fun i => by
    rw [e]
    have := (hG.ring i).1
    exact if_neg (by omega)
  refine ⟨by rw [e]; exact if_pos rfl, ⟨hq, ht, hu⟩, ?_, ?_, ?_, ?_⟩
  · show (Ps ++ cutP G W).length ≤ L.h.seq + G.parts W.length
    rw [List.length_append]; omega
  · show Std G _ L.h.tail (L.h.seq + G.parts W.length - (Ps ++ cutP G W).length) (Ps ++ cutP G W)
    rw [List.length_append, c1, show L.h.seq + G.parts W.length - (Ps.length + G.parts W.length) = L.h.seq - Ps.length by omega]
    refine (h.std.kept (fun i hi => ?_)).append ?_
    · rw [ering]
      exact s2 _ (fun i' hi' => ring_ne hG (by omega) (by omega))
    · rw [show L.h.seq - Ps.length + Ps.length = L.h.seq by omega, h4]
      exact s1.kept (fun i hi => ering _)
  · show spanP (Ps ++ cutP G W) = L.h.used + G.uses W.length
    rw [spanP_append, c2, h4]
  · show setW L.Q W = _
    rw [List.flatten_append, cut_flat hG, setW_append, ← h.q]

/-- Apply. -/
theorem Inv.apply {G : Geo} (hG : G.Ok) {rd : Nat → List Int} {L : Lg} {Ps : List Wl} (h : Inv G rd L Ps) (d : Bool) : Inv G (rdS (aplS G L) rd) ⟨G.freed L.h, fun _ => none, d⟩ [] := by
  have hl := hG.l1
  refine ⟨?_, ⟨h.ok.seq, Nat.mod_lt _ (by omega), Nat.zero_le _⟩, Nat.zero_le _, trivial, rfl, rfl⟩
  unfold aplS
  rw [rdS_append, rdS_stl]
  exact if_pos rfl

end Go.Proofs.YtadnlljknocbbaaGreatDoor

/- What a crash may leave of a log: the elder one, or the newer one. -/
namespace Go.Proofs.YtadnlljknocbbaaGreatDoor
open Go.RowKit Go.Shelf
set_option linter.unusedVariables false

/-- What may be found of each block behind a crash, oldest first. -/
def posS : List Stp → (Nat → List (List Int)) → (Nat → List (List Int))
  | [], p => p
  | .w i z :: s, p => posS s (fun j => if j = i then p i ++ [z] else p j)
  | .f :: s, p => posS s (fun j => [(p j).getLast?.getD []])

theorem posS_append (A B : List Stp) (p : Nat → List (List Int)) : posS (A ++ B) p = posS B (posS A p) := by
  induction A generalizing p with
  | nil => rfl
  | cons s t ih => cases s <;> exact ih _

/-- What may be found of a device's blocks. -/
def Dev.may (D : Dev) (j : Nat) : List (List Int) := D.X j :: D.Y j

theorem may_last (D : Dev) (j : Nat) : (D.may j).getLast?.getD [] = D.rd j := by
  unfold Dev.may Dev.rd
  rw [List.getLast?_cons]
  rfl

/-- All that p lets be found, and the same last one. -/
def Sub (n : Nat) (D : Dev) (p : Nat → List (List Int)) : Prop := ∀ j, j < n → (∀ z ∈ D.may j, z ∈ p j) ∧ (p j).getLast?.getD [] = D.rd j

theorem Sub.start (D : Dev) : Sub D.n D D.may := fun j hj => ⟨fun z h => h, may_last D j⟩

theorem Sub.ap {n : Nat} {D : Dev} {p : Nat → List (List Int)} (hn : D.n = n) (h : Sub n D p) (h0 : D.wE = 0) (s : Stp) : Sub n (s.ap D) (posS [s] p) := by
  have hb : ¬ (D.f = 0 ∨ D.dead = true) := fun hb => by unfold Dev.wE at h0; rw [if_pos hb] at h0; omega
  have hr := ap_rd h0 s
  intro j hj
  obtain ⟨h1, h2⟩ := h j hj
  rw [hr]
  cases s with
  | w i z =>
    by_cases e : j = i
    · subst e
      refine ⟨fun y hy => ?_, by simp [posS, rdS]⟩
      show y ∈ (if j = j then p j ++ [z] else p j)
      rw [if_pos rfl]
      change y ∈ (D.wD j z).may j at hy
      unfold Dev.wD at hy
      rw [if_neg hb] at hy
      by_cases hl : (D.Y j).length < 400
      · rw [if_pos hl] at hy
        have : y ∈ D.may j ++ [z] := by simpa [Dev.may, Dev.add, Dev.burn] using hy
        rcases List.mem_append.1 this with x | x
        · exact List.mem_append_left _ (h1 y x)
        · exact List.mem_append_right _ x
      · rw [if_neg hl] at hy
        have hne : D.Y j ≠ [] := fun e => by rw [e] at hl; simp at hl
        obtain ⟨y0, ys, hy0⟩ := List.exists_cons_of_ne_nil hne
        have : y ∈ D.Y j ++ [z] := by simpa [Dev.may, Dev.add, Dev.burn, Dev.shift, hy0] using hy
        rcases List.mem_append.1 this with x | x
        · exact List.mem_append_left _ (h1 y (List.mem_cons_of_mem _ x))
        · exact List.mem_append_right _ x
    · refine ⟨fun y hy => ?_, by simp [posS, rdS, e, h2]⟩
      show y ∈ (if j = i then p i ++ [z] else p j)
      rw [if_neg e]
      refine h1 y ?_
      change y ∈ (D.wD i z).may j at hy
      unfold Dev.wD at hy
      rw [if_neg hb] at hy
      by_cases hl : (D.Y i).length < 400
      · rw [if_pos hl] at hy
        simpa [Dev.may, Dev.add, Dev.burn, e] using hy
      · rw [if_neg hl] at hy
        simpa [Dev.may, Dev.add, Dev.burn, Dev.shift, e] using hy
  | f =>
    refine ⟨fun y hy => ?_, by simp [posS, rdS, h2]⟩
    show y ∈ [(p j).getLast?.getD []]
    change y ∈ D.fD.may j at hy
    unfold Dev.fD at hy
    rw [if_neg hb] at hy
    have hj' : j < D.burn.n := by show j < D.n; omega
    have : y = D.rd j := by
      have e : D.burn.flush.may j = [D.rd j] := by
        show (if j < D.burn.n then D.burn.rd j else D.burn.X j) :: (if j < D.burn.n then [] else D.burn.Y j) = _
        rw [if_pos hj', if_pos hj']
        rfl
      rw [e] at hy
      simpa using hy
    rw [this, ← h2]
    simp

theorem ap_n (D : Dev) (s : Stp) : (s.ap D).n = D.n := by
  cases s with
  | w i z => exact (Dev.wD_n D i z).1
  | f =>
    show D.fD.n = D.n
    unfold Dev.fD
    split <;> rfl

theorem die_rd (D : Dev) : D.die.rd = D.rd := rfl

/-- Steps that were begun: done up to some place, whatever the fuse. -/
theorem run_pos : ∀ (l : List Stp) (n : Nat) (D : Dev) (p : Nat → List (List Int)), D.n = n → Sub n D p → ∃ l1 l2, l = l1 ++ l2 ∧ Sub n (runD l D) (posS l1 p) ∧ (runE l D = 0 → l2 = [])
  | [], n, D, p, hn, h => ⟨[], [], rfl, h, fun _ => rfl⟩
  | s :: r, n, D, p, hn, h => by
    by_cases h0 : D.wE = 0
    · obtain ⟨l1, l2, e, h1, h2⟩ := run_pos r n (s.ap D) (posS [s] p) (by rw [ap_n, hn]) (h.ap hn h0 s)
      refine ⟨s :: l1, l2, by rw [e]; rfl, ?_, ?_⟩
      · rw [runD_ok h0]
        have : posS (s :: l1) p = posS l1 (posS [s] p) := posS_append [s] l1 p
        rw [this]
        exact h1
      · rw [runE_ok h0]; exact h2
    · refine ⟨[], s :: r, rfl, ?_, ?_⟩
      · rw [runD, if_neg h0, s.ap_dead h0]
        exact h
      · rw [runE, if_neg h0]
        intro e
        omega

end Go.Proofs.YtadnlljknocbbaaGreatDoor

/- A crash in the midst of a commit. -/
namespace Go.Proofs.YtadnlljknocbbaaGreatDoor
open Go.RowKit Go.Shelf
set_option linter.unusedVariables false

theorem pos_out (j : Nat) : ∀ (l : List Stp) (p : Nat → List (List Int)), (∀ s ∈ l, ∃ i z, s = .w i z ∧ i ≠ j) → posS l p j = p j
  | [], p, h => rfl
  | s :: t, p, h => by
    obtain ⟨i, z, rfl, hi⟩ := h s (by simp)
    show posS t _ j = p j
    rw [pos_out j t _ (fun s hs => h s (List.mem_cons_of_mem _ hs)), if_neg (fun e => hi e.symm)]

theorem pos_last : ∀ (l : List Stp) (p : Nat → List (List Int)) (j : Nat), (posS l p j).getLast?.getD [] = rdS l (fun j => (p j).getLast?.getD []) j
  | [], p, j => rfl
  | .w i z :: t, p, j => by
    show (posS t _ j).getLast?.getD [] = rdS t _ j
    rw [pos_last t]
    congr 1
    funext k
    by_cases e : k = i
    · simp [e]
    · simp [e]
  | .f :: t, p, j => by
    show (posS t _ j).getLast?.getD [] = rdS t _ j
    rw [pos_last t]
    congr 1

theorem pos_f (A : List Stp) (p : Nat → List (List Int)) (j : Nat) : posS (A ++ [.f]) p j = [rdS A (fun j => (p j).getLast?.getD []) j] := by
  rw [posS_append]
  show [(posS A p j).getLast?.getD []] = _
  rw [pos_last]

theorem data_at (G : Geo) : ∀ (W : Wl) (a : Nat), ∀ s ∈ dataS G a W, ∃ i z, s = .w (G.ring (a + i)) z ∧ i < W.length
  | [], a, s, h => by simp [dataS] at h
  | x :: t, a, s, h => by
    rw [dataS] at h
    rcases List.mem_cons.1 h with h | h
    · exact ⟨0, x.2, h, by simp⟩
    · obtain ⟨i, z, e, hi⟩ := data_at G t (a + 1) s h
      exact ⟨i + 1, z, by rw [e, show a + (i + 1) = a + 1 + i by omega], by simp; omega⟩

theorem parts_at {G : Geo} (hG : G.Ok) (W : Wl) : ∀ (q a : Nat), ∀ s ∈ partsS G q a W, ∃ i z, s = .w (G.ring (a + i)) z ∧ i < G.uses W.length := by
  have hm := hG.most
  refine cut_ind hG (P := fun W => ∀ (q a : Nat), ∀ s ∈ partsS G q a W, ∃ i z, s = .w (G.ring (a + i)) z ∧ i < G.uses W.length) ?_ (fun W hW ih => ?_) W
  · intro q a s h
    rw [partsS_nil] at h
    simp at h
  · intro q a s h
    have hl : 0 < W.length := List.length_pos_iff.2 hW
    have hp := Geo.parts_step hG hl
    have hmin : (W.take G.most).length = min W.length G.most := by rw [List.length_take]; omega
    have hdl : (W.drop G.most).length = W.length - min W.length G.most := by rw [List.length_drop]; omega
    unfold Geo.uses at ih ⊢
    rw [partsS_cons hG q a hW] at h
    rcases List.mem_append.1 h with h | h
    · rw [partS] at h
      rcases List.mem_cons.1 h with h | h
      · exact ⟨0, _, h, by omega⟩
      · obtain ⟨i, z, e, hi⟩ := data_at G _ (a + 1) s h
        exact ⟨i + 1, z, by rw [e, show a + (i + 1) = a + 1 + i by omega], by omega⟩
    · obtain ⟨i, z, e, hi⟩ := ih _ _ s h
      rw [hdl] at hi
      exact ⟨1 + min W.length G.most + i, z, by rw [e, show a + (1 + min W.length G.most + i) = a + 1 + min W.length G.most + i by omega], by omega⟩

theorem Inv.congr {G : Geo} (hG : G.Ok) {rd rd' : Nat → List Int} {L : Lg} {Ps : List Wl} (h : Inv G rd L Ps) (h1 : rd' 1 = rd 1) (h2 : ∀ i, i < L.h.used → rd' (G.ring (L.h.tail + i)) = rd (G.ring (L.h.tail + i))) : Inv G rd' L Ps :=
  ⟨h1.trans h.hd, h.ok, h.sq, h.std.kept (fun i hi => h2 i (by rw [← h.sp]; exact hi)), h.sp, h.q⟩

/-- Where a list of steps was left. -/
theorem prefix_stl {A l1 l2 : List Stp} {G : Geo} {h : Hd} (e : A ++ stlS G h = l1 ++ l2) : (∃ x, A = l1 ++ x) ∨ l1 = A ++ [.f] ∨ l1 = A ++ [.f, .w 1 (hdB G h)] ∨ l1 = A ++ stlS G h := by
  rcases List.append_eq_append_iff.1 e with ⟨x, e1, e2⟩ | ⟨x, e1, e2⟩
  · unfold stlS at e2
    match x, e2 with
    | [], e2 => exact .inl ⟨[], by rw [e1]; simp⟩
    | [s], e2 => simp at e2; obtain ⟨rfl, _⟩ := e2; exact .inr (.inl e1)
    | [s, s2], e2 => simp at e2; obtain ⟨rfl, rfl, _⟩ := e2; exact .inr (.inr (.inl e1))
    | [s, s2, s3], e2 => simp at e2; obtain ⟨rfl, rfl, rfl, _⟩ := e2; exact .inr (.inr (.inr e1))
    | s :: s2 :: s3 :: s4 :: t, e2 => simp at e2
  · exact .inl ⟨x, e1⟩

/-- A commit that a crash cut off, or that was done. -/
theorem Inv.crash_com {G : Geo} (hG : G.Ok) {rd rd' : Nat → List Int} {L : Lg} {Ps : List Wl} (h : Inv G rd L Ps) (W : Wl) (hb : blkE G (W.map (fun x => (x.1 : Int))) = 0) (hq : L.h.seq + G.parts W.length ≤ 4294967295) (hu : L.h.used + G.uses W.length ≤ G.lg) (d : Bool) {l1 l2 : List Stp} (e : comS G L W = l1 ++ l2) (hr : ∀ j, j < G.n → rd' j ∈ posS l1 (fun j => [rd j]) j) :
    (Inv G rd' L Ps ∨ Inv G rd' ⟨G.after L.h W.length, setW L.Q W, d⟩ (Ps ++ cutP G W)) ∧ ∀ j, G.ib ≤ j → j < G.n → rd' j = rd j := by
  have hn := hG.ibn
  have hat := parts_at hG W L.h.seq (L.h.tail + L.h.used)
  obtain ⟨_, s2⟩ := parts_std hG W L.h.seq (L.h.tail + L.h.used) rd hb hq (by omega)
  have hne : ∀ i, i < L.h.used → ∀ i', i' < G.uses W.length → G.ring (L.h.tail + i) ≠ G.ring (L.h.tail + L.h.used + i') := fun i hi i' hi' => ring_ne hG (by omega) (by omega)
  have hA1 : rdS (partsS G L.h.seq (L.h.tail + L.h.used) W) rd 1 = rd 1 := s2 1 (fun i _ => by have := (hG.ring (L.h.tail + L.h.used + i)).1; omega)
  have hAr : ∀ i, i < L.h.used → rdS (partsS G L.h.seq (L.h.tail + L.h.used) W) rd (G.ring (L.h.tail + i)) = rd (G.ring (L.h.tail + i)) := fun i hi => s2 _ (fun i' hi' => hne i hi i' hi')
  have hAd : ∀ j, G.ib ≤ j → rdS (partsS G L.h.seq (L.h.tail + L.h.used) W) rd j = rd j := fun j hj => s2 j (fun i _ => by have := (hG.ring (L.h.tail + L.h.used + i)).2.1; omega)
  have hl : (fun j => ([rd j] : List (List Int)).getLast?.getD []) = rd := by funext j; rfl
  have hcm := h.commit hG W hb hq hu d
  have ecom : rdS (comS G L W) rd = fun j => if j = 1 then hdB G (G.after L.h W.length) else rdS (partsS G L.h.seq (L.h.tail + L.h.used) W) rd j := by
    unfold comS
    rw [rdS_append, rdS_stl]
  have e0 := e
  unfold comS at e
  rcases prefix_stl e with ⟨x, ex⟩ | el | el | el
  · have hout : ∀ j, (∀ i', i' < G.uses W.length → G.ring (L.h.tail + L.h.used + i') ≠ j) → j < G.n → rd' j = rd j := fun j hj hjn => by
      have := hr j hjn
      rw [pos_out j l1 _ (fun s hs => ?_)] at this
      · simpa using this
      · obtain ⟨i, z, e1, hi⟩ := hat s (by rw [ex]; exact List.mem_append_left _ hs)
        exact ⟨_, z, e1, hj i hi⟩
    refine ⟨.inl (h.congr hG (hout 1 (fun i _ => by have := (hG.ring (L.h.tail + L.h.used + i)).1; omega) (by omega)) (fun i hi => hout _ (fun i' hi' => (hne i hi i' hi').symm) (hG.ring _).2.2)), fun j hj hjn => hout j (fun i _ => by have := (hG.ring (L.h.tail + L.h.used + i)).2.1; omega) hjn⟩
  · have hout : ∀ j, j < G.n → rd' j = rdS (partsS G L.h.seq (L.h.tail + L.h.used) W) rd j := fun j hjn => by
      have := hr j hjn
      rw [el, pos_f, hl] at this
      simpa using this
    exact ⟨.inl (h.congr hG ((hout 1 (by omega)).trans hA1) (fun i hi => (hout _ (hG.ring _).2.2).trans (hAr i hi))), fun j hj hjn => (hout j hjn).trans (hAd j hj)⟩
  · have hout : ∀ j, j < G.n → rd' j = (if j = 1 then rd 1 else rdS (partsS G L.h.seq (L.h.tail + L.h.used) W) rd j) ∨ rd' j = rdS (comS G L W) rd j := fun j hjn => by
      have := hr j hjn
      rw [el, show partsS G L.h.seq (L.h.tail + L.h.used) W ++ [Stp.f, Stp.w 1 (hdB G (G.after L.h W.length))] = (partsS G L.h.seq (L.h.tail + L.h.used) W ++ [Stp.f]) ++ [Stp.w 1 (hdB G (G.after L.h W.length))] by simp, posS_append] at this
      change rd' j ∈ (if j = 1 then posS (partsS G L.h.seq (L.h.tail + L.h.used) W ++ [Stp.f]) (fun j => [rd j]) 1 ++ [hdB G (G.after L.h W.length)] else posS (partsS G L.h.seq (L.h.tail + L.h.used) W ++ [Stp.f]) (fun j => [rd j]) j) at this
      rw [ecom]
      by_cases e1 : j = 1
      · subst e1
        rw [if_pos rfl, pos_f, hl, hA1] at this
        rw [if_pos rfl]
        simp at this
        rcases this with x | x
        · exact .inl x
        · exact .inr (by rw [x]; exact (if_pos rfl).symm)
      · rw [if_neg e1, pos_f, hl] at this
        rw [if_neg e1]
        exact .inl (by simpa using this)
    have hring : ∀ i, rd' (G.ring i) = rdS (partsS G L.h.seq (L.h.tail + L.h.used) W) rd (G.ring i) := fun i => by
      have hi := (hG.ring i).1
      rcases hout _ (hG.ring i).2.2 with x | x
      · rw [if_neg (by omega)] at x; exact x
      · rw [ecom] at x
        exact x.trans (if_neg (by omega))
    refine ⟨?_, fun j hj hjn => ?_⟩
    · rcases hout 1 (by omega) with x | x
      · rw [if_pos rfl] at x
        exact .inl (h.congr hG x (fun i hi => (hring _).trans (hAr i hi)))
      · refine .inr (hcm.congr hG x (fun i _ => (hring _).trans ?_))
        rw [ecom]
        have hi := (hG.ring (L.h.tail + i)).1
        have hi2 : ¬ G.ring (L.h.tail + i) = 1 := by omega
        exact (if_neg hi2).symm
    · rcases hout j hjn with x | x
      · rw [if_neg (by omega)] at x; exact x.trans (hAd j hj)
      · rw [ecom] at x
        exact (x.trans (if_neg (by omega))).trans (hAd j hj)
  · have hout : ∀ j, j < G.n → rd' j = rdS (comS G L W) rd j := fun j hjn => by
      have := hr j hjn
      rw [el, show partsS G L.h.seq (L.h.tail + L.h.used) W ++ stlS G (G.after L.h W.length) = (partsS G L.h.seq (L.h.tail + L.h.used) W ++ [Stp.f, Stp.w 1 (hdB G (G.after L.h W.length))]) ++ [Stp.f] by simp [stlS], pos_f, hl] at this
      rw [show rdS (partsS G L.h.seq (L.h.tail + L.h.used) W ++ [Stp.f, Stp.w 1 (hdB G (G.after L.h W.length))]) rd = rdS (comS G L W) rd by
        rw [ecom, rdS_append]; rfl] at this
      simpa using this
    refine ⟨.inr (hcm.congr hG (hout 1 (by omega)) (fun i hi => hout _ (hG.ring _).2.2)), fun j hj hjn => ?_⟩
    rw [hout j hjn, ecom]
    exact (if_neg (by omega)).trans (hAd j hj)

end Go.Proofs.YtadnlljknocbbaaGreatDoor

/- A crash in the midst of an apply. -/
namespace Go.Proofs.YtadnlljknocbbaaGreatDoor
open Go.RowKit Go.Shelf
set_option linter.unusedVariables false

theorem pos_home (Q : Nat → Option (List Int)) (j : Nat) : ∀ (l : List Stp) (p : Nat → List (List Int)), (∀ s ∈ l, ∃ i z, s = .w i z ∧ Q i = some z) → ∀ y ∈ posS l p j, y ∈ p j ∨ Q j = some y
  | [], p, h, y, hy => .inl hy
  | s :: t, p, h, y, hy => by
    obtain ⟨i, z, rfl, hi⟩ := h s (by simp)
    rcases pos_home Q j t (fun k => if k = i then p i ++ [z] else p k) (fun s hs => h s (List.mem_cons_of_mem _ hs)) y hy with x | x
    · by_cases e : j = i
      · subst e
        simp at x
        rcases x with x | x
        · exact .inl x
        · exact .inr (by rw [x]; exact hi)
      · rw [if_neg e] at x
        exact .inl x
    · exact .inr x

theorem home_at (G : Geo) (Q : Nat → Option (List Int)) : ∀ s ∈ homeS (pendW G Q), ∃ i z, s = .w i z ∧ Q i = some z := by
  have : ∀ l : List Nat, (∀ b ∈ l, (Q b).isSome = true) → ∀ s ∈ homeS (l.map (fun b => (b, (Q b).getD []))), ∃ i z, s = .w i z ∧ Q i = some z := by
    intro l
    induction l with
    | nil => intro _ s h; simp [homeS] at h
    | cons b t ih =>
      intro hl s h
      rw [List.map_cons, homeS] at h
      rcases List.mem_cons.1 h with h | h
      · obtain ⟨z, hz⟩ := Option.isSome_iff_exists.1 (hl b (by simp))
        exact ⟨b, z, by rw [h, hz]; rfl, hz⟩
      · exact ih (fun b hb => hl b (List.mem_cons_of_mem _ hb)) s h
  exact this _ (fun b hb => by have := List.mem_filter.1 hb; exact this.2)

theorem home_rd (G : Geo) (Q : Nat → Option (List Int)) (r : Nat → List Int) (j : Nat) (hj : j < G.n) : rdS (homeS (pendW G Q)) r j = (Q j).getD (r j) := by
  have : ∀ (l : List Nat) (r : Nat → List Int), rdS (homeS (l.map (fun b => (b, (Q b).getD [])))) r j = if j ∈ l then (Q j).getD [] else r j := by
    intro l
    induction l with
    | nil => intro r; simp [homeS, rdS]
    | cons b t ih =>
      intro r
      rw [List.map_cons, homeS, rdS, ih]
      by_cases h1 : j ∈ t
      · rw [if_pos h1, if_pos (List.mem_cons_of_mem _ h1)]
      · rw [if_neg h1]
        by_cases h2 : j = b
        · subst h2; simp
        · simp [h1, h2]
  show rdS (homeS ((pendL G Q).map (fun b => (b, (Q b).getD [])))) r j = _
  rw [this]
  by_cases h : (Q j).isSome = true
  · obtain ⟨z, hz⟩ := Option.isSome_iff_exists.1 h
    rw [if_pos (by simp [pendL, hj, h]), hz]
    rfl
  · rw [if_neg (by simp [pendL, hj]; simpa using h)]
    have : Q j = none := by simpa using h
    rw [this]
    rfl

/-- An apply that a crash cut off, or that was done. -/
theorem Inv.crash_apl {G : Geo} (hG : G.Ok) {rd rd' : Nat → List Int} {L : Lg} {Ps : List Wl} (h : Inv G rd L Ps) (hQ : ∀ b z, L.Q b = some z → G.ib ≤ b) (d : Bool) {l1 l2 : List Stp} (e : aplS G L = l1 ++ l2) (hr : ∀ j, j < G.n → rd' j ∈ posS l1 (fun j => [rd j]) j) :
    (Inv G rd' L Ps ∧ ∀ j, G.ib ≤ j → j < G.n → rd' j = rd j ∨ L.Q j = some (rd' j)) ∨ (Inv G rd' ⟨G.freed L.h, fun _ => none, d⟩ [] ∧ ∀ j, G.ib ≤ j → j < G.n → rd' j = (L.Q j).getD (rd j)) := by
  have hn := hG.ibn
  have hat := home_at G L.Q
  have hl : (fun j => ([rd j] : List (List Int)).getLast?.getD []) = rd := by funext j; rfl
  have hap := h.apply hG d
  have eapl : rdS (aplS G L) rd = fun j => if j = 1 then hdB G (G.freed L.h) else rdS (homeS (pendW G L.Q)) rd j := by
    unfold aplS
    rw [rdS_append, rdS_stl]
  have hlow : ∀ j, j < G.ib → L.Q j = none := fun j hj => by
    cases hz : L.Q j with
    | none => rfl
    | some z => have := hQ j z hz; omega
  have hA : ∀ j, j < G.ib → rdS (homeS (pendW G L.Q)) rd j = rd j := fun j hj => by
    rw [home_rd G L.Q rd j (by omega), hlow j hj]
    rfl
  have hor : ∀ j, rd' j = (L.Q j).getD (rd j) → rd' j = rd j ∨ L.Q j = some (rd' j) := fun j x => by
    cases hz : L.Q j with
    | none => rw [hz] at x; exact .inl x
    | some z => rw [hz] at x; exact .inr (by rw [x]; rfl)
  unfold aplS at e
  rcases prefix_stl e with ⟨x, ex⟩ | el | el | el
  · have hout : ∀ j, j < G.n → rd' j = rd j ∨ L.Q j = some (rd' j) := fun j hjn => by
      have := pos_home L.Q j l1 _ (fun s hs => hat s (by rw [ex]; exact List.mem_append_left _ hs)) _ (hr j hjn)
      simpa using this
    have hlo : ∀ j, j < G.ib → rd' j = rd j := fun j hj => by
      rcases hout j (by omega) with x | x
      · exact x
      · rw [hlow j hj] at x; cases x
    exact .inl ⟨h.congr hG (hlo 1 (by omega)) (fun i hi => hlo _ (hG.ring _).2.1), fun j hj hjn => hout j hjn⟩
  · have hout : ∀ j, j < G.n → rd' j = rdS (homeS (pendW G L.Q)) rd j := fun j hjn => by
      have := hr j hjn
      rw [el, pos_f, hl] at this
      simpa using this
    refine .inl ⟨h.congr hG ((hout 1 (by omega)).trans (hA 1 (by omega))) (fun i hi => (hout _ (hG.ring _).2.2).trans (hA _ (hG.ring _).2.1)), fun j hj hjn => hor j ((hout j hjn).trans (home_rd G L.Q rd j hjn))⟩
  · have hout : ∀ j, j < G.n → j ≠ 1 → rd' j = rdS (homeS (pendW G L.Q)) rd j := fun j hjn e1 => by
      have := hr j hjn
      rw [el, show homeS (pendW G L.Q) ++ [Stp.f, Stp.w 1 (hdB G (G.freed L.h))] = (homeS (pendW G L.Q) ++ [Stp.f]) ++ [Stp.w 1 (hdB G (G.freed L.h))] by simp, posS_append] at this
      change rd' j ∈ (if j = 1 then posS (homeS (pendW G L.Q) ++ [Stp.f]) (fun j => [rd j]) 1 ++ [hdB G (G.freed L.h)] else posS (homeS (pendW G L.Q) ++ [Stp.f]) (fun j => [rd j]) j) at this
      rw [if_neg e1, pos_f, hl] at this
      simpa using this
    have h1 : rd' 1 = rd 1 ∨ rd' 1 = hdB G (G.freed L.h) := by
      have := hr 1 (by omega)
      rw [el, show homeS (pendW G L.Q) ++ [Stp.f, Stp.w 1 (hdB G (G.freed L.h))] = (homeS (pendW G L.Q) ++ [Stp.f]) ++ [Stp.w 1 (hdB G (G.freed L.h))] by simp, posS_append] at this
      change rd' 1 ∈ (if 1 = 1 then posS (homeS (pendW G L.Q) ++ [Stp.f]) (fun j => [rd j]) 1 ++ [hdB G (G.freed L.h)] else posS (homeS (pendW G L.Q) ++ [Stp.f]) (fun j => [rd j]) 1) at this
      rw [if_pos rfl, pos_f, hl, hA 1 (by omega)] at this
      simpa using this
    rcases h1 with h1 | h1
    · exact .inl ⟨h.congr hG h1 (fun i hi => (hout _ (hG.ring _).2.2 (by have := (hG.ring (L.h.tail + i)).1; omega)).trans (hA _ (hG.ring _).2.1)), fun j hj hjn => hor j ((hout j hjn (by omega)).trans (home_rd G L.Q rd j hjn))⟩
    · refine .inr ⟨⟨h1, hap.ok, hap.sq, trivial, rfl, rfl⟩, fun j hj hjn => (hout j hjn (by omega)).trans (home_rd G L.Q rd j hjn)⟩
  · have hout : ∀ j, j < G.n → rd' j = rdS (aplS G L) rd j := fun j hjn => by
      have := hr j hjn
      rw [el, show homeS (pendW G L.Q) ++ stlS G (G.freed L.h) = (homeS (pendW G L.Q) ++ [Stp.f, Stp.w 1 (hdB G (G.freed L.h))]) ++ [Stp.f] by simp [stlS], pos_f, hl] at this
      rw [show rdS (homeS (pendW G L.Q) ++ [Stp.f, Stp.w 1 (hdB G (G.freed L.h))]) rd = rdS (aplS G L) rd by
        rw [eapl, rdS_append]; rfl] at this
      simpa using this
    refine .inr ⟨⟨(hout 1 (by omega)).trans (by rw [eapl]; exact if_pos rfl), hap.ok, hap.sq, trivial, rfl, rfl⟩, fun j hj hjn => ?_⟩
    rw [hout j hjn, eapl]
    exact (if_neg (by omega)).trans (home_rd G L.Q rd j hjn)

end Go.Proofs.YtadnlljknocbbaaGreatDoor

