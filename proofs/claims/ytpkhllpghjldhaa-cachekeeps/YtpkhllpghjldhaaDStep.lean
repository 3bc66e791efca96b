/- The contracts of burn, last, settle. -/
import Derived.Test.YtpkhllpghjldhaaDLeaf
namespace Go.Proofs.Ytpkhllpghjldhaa
open Go.RowKit Go.Shelf
set_option linter.unusedVariables false

/-- A write or a flush is refused. -/
def Dev.burnt (D : Dev) : Prop := D.f = 0 ∨ D.dead = true

def Dev.die (D : Dev) : Dev := { D with dead := true }

def Dev.burn (D : Dev) : Dev := { D with f := if 0 < D.f then D.f - 1 else D.f, wr := wrap64 (D.wr + 1) }

theorem Dev.Ok.die {D : Dev} (h : D.Ok) : D.die.Ok := ⟨h.n1, h.n2, h.b1, h.b2, h.y, h.f1, h.f2⟩

theorem Dev.Ok.burn {D : Dev} (h : D.Ok) : D.burn.Ok := by
  refine ⟨h.n1, h.n2, h.b1, h.b2, h.y, ?_, ?_⟩
  · simp only [Dev.burn]; have := h.f1; split <;> omega
  · simp only [Dev.burn]; have := h.f2; split <;> omega

theorem Dev.die_dead {D : Dev} (h : D.dead = true) : D.die = D := by cases D; simp_all [Dev.die]

theorem Nx.set {S : Nat → Prop} {w : World} {p : Addr} (hp : S p.block) (v : Value) : Nx S w S (w.setCell p v) := ⟨(Nx.refl S w).fr.setCell hp v, fun _ _ h => h⟩

theorem burn_dies (g : Nat) (S : Nat → Prop) (D : Dev) (w : World) (hD : Dv w S g D) (hb : D.burnt) :
    Calls Try.prog 43 #[.pointer (some ⟨g, 0, none⟩)] w fun e w' => e = .returned (.int .i64 7) ∧ Dv w' S g D.die ∧ Nx S w S w' := by
  obtain ⟨m, hD⟩ := hD
  obtain ⟨c0, c1, c2, c3, c4, c5⟩ := hD.cells
  have f4 := hD.free 4
  by_cases h0 : D.f = 0
  · have hz : m.fu = true ∧ m.fv = 0 := by
      rcases hD.fuse with ⟨a, b, c⟩ | ⟨a, b, c, d⟩
      · exact ⟨a, by omega⟩
      · omega
    rw [hz.1] at c2
    rw [hz.2] at c3
    have fin : DvM (w.setCell ⟨g, 4, none⟩ (.bool true)) S g D.die m := hD.setG 4 (.bool true) ⟨rfl, rfl, rfl, rfl⟩ ⟨rfl, rfl, rfl⟩ (fun j hj => by
      have : j = 0 ∨ j = 1 ∨ j = 2 ∨ j = 3 ∨ j = 4 ∨ j = 5 := by omega
      rcases this with rfl | rfl | rfl | rfl | rfl | rfl <;> rfl) hD.fuse hD.ok.die
    have F := hide fin
    have Nn := hide (Nx.set (w := w) (p := ⟨g, 4, none⟩) hD.sg (.bool true))
    generalize D.dead = dd at *
    generalize D.blk = bb at *
    generalize D.n = nn at *
    generalize m.h = hh at *
    clear hz h0 fin hD hb
    go_enter Try.func43, Try.ntmps43
    go_wp2
    go_ret
    exact ⟨rfl, ⟨m, unhide F⟩, unhide Nn⟩
  · have hd : D.dead = true := by rcases hb with hb | hb; · omega
                                  · exact hb
    rw [hd] at c4
    have F := hide (show Dv w S g D.die by rw [Dev.die_dead hd]; exact ⟨m, hD⟩)
    by_cases hfu : m.fu = true
    · have hv : ¬ m.fv = 0 := by
        rcases hD.fuse with ⟨a, b, c⟩ | ⟨a, b, c, d⟩
        · omega
        · rw [hfu] at a; cases a
      rw [hfu] at c2
      generalize m.fv = fv at *
      clear hfu hD
      go_enter Try.func43, Try.ntmps43
      go_wp2
      go_ret
      exact ⟨rfl, unhide F, Nx.refl _ _⟩
    · have hfu : m.fu = false := by simpa using hfu
      rw [hfu] at c2
      clear hfu hD
      go_enter Try.func43, Try.ntmps43
      go_wp2
      go_ret
      exact ⟨rfl, unhide F, Nx.refl _ _⟩

theorem wrap_pred (x : Int) (h : 0 < x) (h2 : x ≤ 9223372036854775807) : wrap64 (x - 1) = x - 1 := by unfold wrap64; omega

theorem burn_burns (g : Nat) (S : Nat → Prop) (D : Dev) (w : World) (hD : Dv w S g D) (hb : ¬ D.burnt) :
    Calls Try.prog 43 #[.pointer (some ⟨g, 0, none⟩)] w fun e w' => e = .returned (.int .i64 0) ∧ Dv w' S g D.burn ∧ Nx S w S w' := by
  obtain ⟨m, hD⟩ := hD
  obtain ⟨c0, c1, c2, c3, c4, c5⟩ := hD.cells
  have f3 := hD.free 3
  have f5 := hD.free 5
  have hd : D.dead = false := by cases h : D.dead with
    | false => rfl
    | true => exact absurd (.inr h) hb
  have hf : ¬ D.f = 0 := fun h => hb (.inl h)
  rw [hd] at c4
  have six : ∀ j, j < 6 → j = 0 ∨ j = 1 ∨ j = 2 ∨ j = 3 ∨ j = 4 ∨ j = 5 := by omega
  by_cases hfu : m.fu = true
  · have hv : m.fv = D.f ∧ 0 < D.f := by
      rcases hD.fuse with ⟨a, b, c⟩ | ⟨a, b, c, d⟩
      · omega
      · rw [hfu] at a; cases a
    have ho1 : Dev.Ok { D with f := D.f - 1 } := ⟨hD.ok.n1, hD.ok.n2, hD.ok.b1, hD.ok.b2, hD.ok.y, by simp only; omega, by have := hD.ok.f2; simp only; omega⟩
    have s1 : DvM (w.setCell ⟨g, 3, none⟩ (.int .i64 (m.fv - 1))) S g { D with f := D.f - 1 } { m with fv := m.fv - 1 } := hD.setG 3 _ ⟨rfl, rfl, rfl, rfl⟩ ⟨rfl, rfl, rfl⟩ (fun j hj => by
      rcases six j hj with rfl | rfl | rfl | rfl | rfl | rfl <;> simp [dcell]) (.inl ⟨hfu, by simp only; omega, by simp only; omega⟩) ho1
    have s2 : DvM ((w.setCell ⟨g, 3, none⟩ (.int .i64 (m.fv - 1))).setCell ⟨g, 5, none⟩ (.int .i64 (wrap64 (D.wr + 1)))) S g D.burn { m with fv := m.fv - 1 } := s1.setG 5 _ ⟨rfl, rfl, rfl, rfl⟩ ⟨rfl, rfl, rfl⟩ (fun j hj => by
      rcases six j hj with rfl | rfl | rfl | rfl | rfl | rfl <;> simp [dcell, Dev.burn]) (.inl ⟨hfu, by simp only [Dev.burn, if_pos hv.2]; omega, by simp only [Dev.burn, if_pos hv.2]; omega⟩) hD.ok.burn
    have F := hide s2
    have Nn := hide ((Nx.set (w := w) (p := ⟨g, 3, none⟩) hD.sg (.int .i64 (m.fv - 1))).trans (Nx.set (p := ⟨g, 5, none⟩) hD.sg (.int .i64 (wrap64 (D.wr + 1)))))
    have hv1 : wrap64 (m.fv - 1) = m.fv - 1 := wrap_pred _ (by omega) (by have := hD.ok.f2; omega)
    have hv2 : ¬ m.fv = 0 := by omega
    rw [hfu] at c2
    generalize hfv : m.fv = fv at *
    generalize D.wr = wr at *
    generalize D.blk = bb at *
    generalize D.n = nn at *
    generalize m.h = hh at *
    clear s1 s2 hv hfu hD hb hf ho1 hfv
    go_enter Try.func43, Try.ntmps43
    go_wp2
    go_ret
    exact ⟨rfl, ⟨_, unhide F⟩, unhide Nn⟩
  · have hfu : m.fu = false := by simpa using hfu
    have hv : D.f = -1 := by
      rcases hD.fuse with ⟨a, b, c⟩ | ⟨a, b, c, d⟩
      · rw [hfu] at a; cases a
      · exact b
    have hfv : 0 ≤ m.fv ∧ m.fv ≤ 9223372036854775807 := by
      rcases hD.fuse with ⟨a, b, c⟩ | ⟨a, b, c, d⟩
      · rw [hfu] at a; cases a
      · exact ⟨c, d⟩
    have s2 : DvM (w.setCell ⟨g, 5, none⟩ (.int .i64 (wrap64 (D.wr + 1)))) S g D.burn m := hD.setG 5 _ ⟨rfl, rfl, rfl, rfl⟩ ⟨rfl, rfl, rfl⟩ (fun j hj => by
      rcases six j hj with rfl | rfl | rfl | rfl | rfl | rfl <;> simp [dcell, Dev.burn]) (.inr ⟨hfu, by simp [Dev.burn, hv], hfv⟩) hD.ok.burn
    have F := hide s2
    have Nn := hide (Nx.set (w := w) (p := ⟨g, 5, none⟩) hD.sg (.int .i64 (wrap64 (D.wr + 1))))
    rw [hfu] at c2
    generalize D.wr = wr at *
    generalize D.blk = bb at *
    generalize D.n = nn at *
    generalize m.h = hh at *
    clear s2 hv hfu hD hb hf hfv
    go_enter Try.func43, Try.ntmps43
    go_wp2
    go_ret
    exact ⟨rfl, ⟨_, unhide F⟩, unhide Nn⟩

/-- What a pick leaves of block i. -/
def Dev.pick (D : Dev) (i : Nat) (k : Int) : List Int := if k ≤ 0 then D.X i else (D.Y i)[min k.toNat (D.Y i).length - 1]?.getD (D.X i)

def Dev.settle (D : Dev) (i : Nat) (k : Int) : Dev := { D with X := fun j => if j = i then D.pick i k else D.X j, Y := fun j => if j = i then [] else D.Y j }

theorem last_some (o i h : Nat) (S : Nat → Prop) (g : Nat) (D : Dev) (m : Mem) (w : World) (hD : DvM w S g D m) (hi : i < D.n) (ho : o = 2 * i) (hh : h = m.h) :
    Calls Try.prog 47 #[.pointer (some ⟨h, o, none⟩)] w fun e w' => (∃ r, e = .returned (rv D.blk r) ∧ RowAt w S D.blk r (D.rd i)) ∧ w = w' := by
  subst hh
  obtain ⟨c0, c1, f⟩ := hD.place hi
  have hY := hD.ok.y i hi
  rw [← ho] at c0 c1
  by_cases h0 : D.Y i = []
  · have hr : RowAt w S D.blk (m.A i) (D.rd i) := by
      have := hD.arr i hi
      rw [Dev.rd, h0]
      exact this
    obtain ⟨a, c, e, _⟩ := (hD.wai i hi).shape
    rw [h0] at e
    rw [e] at c1
    have R := hide hr
    clear e hr h0 hD ho
    generalize m.A i = r at *
    obtain ⟨r1, r2⟩ := r
    generalize m.h = hh at *
    generalize hbb : D.blk = bb at *
    simp only [List.length_nil] at c1
    go_enter Try.func47, Try.ntmps47
    go_wp2
    go_ret
    exact ⟨⟨(r1, r2), rfl, unhide R⟩, rfl⟩
  · have hl : 0 < (D.Y i).length := List.length_pos_iff.2 h0
    obtain ⟨a, c, e, hc, hm, _⟩ := (hD.wai i hi).shape
    have hw := hD.wai i hi
    rw [e] at hw c1
    obtain ⟨k, r, rfl, _, ck, fk, hr⟩ := hw.elem (j := (D.Y i).length - 1) (by omega)
    have hr : RowAt w S D.blk r (D.rd i) := by
      have e2 : D.rd i = (D.Y i)[(D.Y i).length - 1]?.getD [] := by
        rw [Dev.rd, List.getLast?_eq_getElem?, List.getElem?_eq_getElem (by omega)]; rfl
      rw [e2]; exact hr
    have R := hide hr
    unfold maxLen at hm
    clear e hr h0 hD ho hw
    obtain ⟨r1, r2⟩ := r
    generalize m.h = hh at *
    generalize (D.Y i).length = len at *
    generalize hbb : D.blk = bb at *
    obtain ⟨l', rfl⟩ : ∃ l', len = l' + 1 := ⟨len - 1, by omega⟩
    simp only [Nat.add_sub_cancel] at ck fk
    go_enter Try.func47, Try.ntmps47
    go_wp2
    go_ret
    exact ⟨⟨(r1, r2), rfl, unhide R⟩, rfl⟩

end Go.Proofs.Ytpkhllpghjldhaa
