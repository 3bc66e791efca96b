/- The contract of settle. -/
import Derived.Test.YtpkhllpghjldhaaDStep
namespace Go.Proofs.Ytpkhllpghjldhaa
open Go.RowKit Go.Shelf
set_option linter.unusedVariables false

theorem DvM.noneW {w : World} {S : Nat → Prop} {g : Nat} {D : Dev} {m : Mem} (h : DvM w S g D m) {i : Nat} (hi : i < D.n) :
    DvM (w.setCell ⟨m.h, 2 * i + 1, none⟩ (.slice none 0 0)) S g { D with Y := fun j => if j = i then [] else D.Y j } { m with W := fun j => if j = i then .slice none 0 0 else m.W j } :=
  h.setW hi (WR.nil _ _ _) (by simp) (fun j k _ _ _ => by simp [Value.ownBlock])

/-- Only the writes are dropped. -/
theorem settle_none {D : Dev} {i : Nat} {k : Int} (h : D.pick i k = D.X i) : { D with Y := fun j => if j = i then [] else D.Y j } = D.settle i k := by
  unfold Dev.settle
  congr 1
  funext j
  by_cases e : j = i
  · simp [e, h]
  · simp [e]

theorem settle_x {D : Dev} {i : Nat} {k : Int} {zs : List Int} (h : D.pick i k = zs) :
    ({ ({ D with X := fun j => if j = i then zs else D.X j } : Dev) with Y := fun j => if j = i then [] else D.Y j } : Dev) = D.settle i k := by
  unfold Dev.settle
  rw [h]

/-- The arrived row, stored, and the writes dropped. -/
theorem DvM.both {w : World} {S : Nat → Prop} {g : Nat} {D : Dev} {m : Mem} (h : DvM w S g D m) {i : Nat} (hi : i < D.n) {k : Int} {r : Nat × Nat} {zs : List Int} (hr : RowAt w S D.blk r zs) (hp : D.pick i k = zs) :
    Dv ((w.setCell ⟨m.h, 2 * i, none⟩ (rv D.blk r)).setCell ⟨m.h, 2 * i + 1, none⟩ (.slice none 0 0)) S g (D.settle i k) ∧ Nx S w S ((w.setCell ⟨m.h, 2 * i, none⟩ (rv D.blk r)).setCell ⟨m.h, 2 * i + 1, none⟩ (.slice none 0 0)) := by
  have h1 := h.setA hi hr
  have h2 := h1.noneW (i := i) hi
  rw [show ({ ({ D with X := fun j => if j = i then zs else D.X j } : Dev) with Y := fun j => if j = i then [] else ({ D with X := fun j => if j = i then zs else D.X j } : Dev).Y j } : Dev) = D.settle i k from settle_x hp] at h2
  exact ⟨⟨_, h2⟩, (Nx.set (p := ⟨m.h, 2 * i, none⟩) h.sh _).trans (Nx.set (p := ⟨m.h, 2 * i + 1, none⟩) h.sh _)⟩

theorem DvM.drop {w : World} {S : Nat → Prop} {g : Nat} {D : Dev} {m : Mem} (h : DvM w S g D m) {i : Nat} (hi : i < D.n) {k : Int} (hp : D.pick i k = D.X i) :
    Dv (w.setCell ⟨m.h, 2 * i + 1, none⟩ (.slice none 0 0)) S g (D.settle i k) ∧ Nx S w S (w.setCell ⟨m.h, 2 * i + 1, none⟩ (.slice none 0 0)) := by
  have h2 := h.noneW (i := i) hi
  rw [settle_none hp] at h2
  exact ⟨⟨_, h2⟩, Nx.set (p := ⟨m.h, 2 * i + 1, none⟩) h.sh _⟩

theorem pick_low {D : Dev} {i : Nat} {k : Int} (h : k ≤ 0 ∨ D.Y i = []) : D.pick i k = D.X i := by
  unfold Dev.pick
  by_cases h0 : k ≤ 0
  · rw [if_pos h0]
  · rw [if_neg h0]
    rcases h with h | h
    · exact absurd h h0
    · rw [h]; simp

theorem settle_low (o i h : Nat) (k : Int) (S : Nat → Prop) (g : Nat) (D : Dev) (m : Mem) (w : World) (hD : DvM w S g D m) (hi : i < D.n) (ho : o = 2 * i) (hh : h = m.h) (hk : k ≤ 0) :
    Calls Try.prog 44 #[.pointer (some ⟨h, o, none⟩), .int .i64 k] w fun e w' => e = .returned (.tuple #[]) ∧ Dv w' S g (D.settle i k) ∧ Nx S w S w' := by
  subst hh
  obtain ⟨c0, c1, f⟩ := hD.place hi
  have F := hide (hD.drop hi (pick_low (.inl hk)))
  have f1 := f (2 * i + 1)
  rw [← ho] at c0 c1 F f1
  obtain ⟨a, c, e, hc, hm, _⟩ := (hD.wai i hi).shape
  rw [e] at c1
  have n1 : ¬ ((D.Y i).length : Int) < k := by omega
  have n2 : ¬ 0 < k := by omega
  have n3 : min k ((D.Y i).length : Int) = k := by omega
  clear hD f ho e
  generalize (D.Y i).length = len at *
  generalize D.blk = bb at *
  generalize D.n = nn at *
  generalize m.h = hh at *
  generalize m.A i = r at *
  obtain ⟨r1, r2⟩ := r
  go_enter Try.func44, Try.ntmps44
  go_wp2
  go_end0
  exact ⟨rfl, unhide F⟩

theorem settle_empty (o i h : Nat) (k : Int) (S : Nat → Prop) (g : Nat) (D : Dev) (m : Mem) (w : World) (hD : DvM w S g D m) (hi : i < D.n) (ho : o = 2 * i) (hh : h = m.h) (hk : 0 < k) (hY : D.Y i = []) :
    Calls Try.prog 44 #[.pointer (some ⟨h, o, none⟩), .int .i64 k] w fun e w' => e = .returned (.tuple #[]) ∧ Dv w' S g (D.settle i k) ∧ Nx S w S w' := by
  subst hh
  obtain ⟨c0, c1, f⟩ := hD.place hi
  have F := hide (hD.drop (k := k) hi (pick_low (.inr hY)))
  have f1 := f (2 * i + 1)
  rw [← ho] at c0 c1 F f1
  obtain ⟨a, c, e, hc, hm, _⟩ := (hD.wai i hi).shape
  rw [e, hY] at c1
  simp only [List.length_nil] at c1
  have n1 : (0 : Int) < k := by omega
  clear hD f ho e hY hc hm
  generalize D.blk = bb at *
  generalize D.n = nn at *
  generalize m.h = hh at *
  generalize m.A i = r at *
  obtain ⟨r1, r2⟩ := r
  go_enter Try.func44, Try.ntmps44
  go_wp2
  go_end0
  exact ⟨rfl, unhide F⟩

theorem settle_mid (o i h k : Nat) (S : Nat → Prop) (g : Nat) (D : Dev) (m : Mem) (w : World) (hD : DvM w S g D m) (hi : i < D.n) (ho : o = 2 * i) (hh : h = m.h) (hk : k < (D.Y i).length) :
    Calls Try.prog 44 #[.pointer (some ⟨h, o, none⟩), .int .i64 ((k : Int) + 1)] w fun e w' => e = .returned (.tuple #[]) ∧ Dv w' S g (D.settle i ((k : Int) + 1)) ∧ Nx S w S w' := by
  subst hh
  obtain ⟨c0, c1, f⟩ := hD.place hi
  obtain ⟨a, c, e, hc, hm, _⟩ := (hD.wai i hi).shape
  have hw := hD.wai i hi
  have hY := hD.ok.y i hi
  rw [e] at hw c1
  obtain ⟨q, r, rfl, _, ck, fk, hr⟩ := hw.elem (j := k) hk
  have F := hide (hD.both (k := (k : Int) + 1) hi hr (by
    unfold Dev.pick
    rw [if_neg (by omega), show min ((k : Int) + 1).toNat (D.Y i).length - 1 = k by omega, List.getElem?_eq_getElem hk]; rfl))
  have f0 := f (2 * i)
  have f1 := f (2 * i + 1)
  rw [← ho] at c0 c1 F f0 f1
  have n1 : ¬ ((D.Y i).length : Int) < (k : Int) + 1 := by omega
  have n2 : (0 : Int) < (k : Int) + 1 := by omega
  unfold maxLen at hm
  clear hD f ho e hw hr
  generalize (D.Y i).length = len at *
  generalize D.blk = bb at *
  generalize D.n = nn at *
  generalize m.h = hh at *
  generalize m.A i = r' at *
  obtain ⟨r1', r2'⟩ := r'
  obtain ⟨r1, r2⟩ := r
  go_enter Try.func44, Try.ntmps44
  go_wp2
  go_end0
  exact ⟨rfl, unhide F⟩

theorem settle_high (o i h len : Nat) (k : Int) (S : Nat → Prop) (g : Nat) (D : Dev) (m : Mem) (w : World) (hD : DvM w S g D m) (hi : i < D.n) (ho : o = 2 * i) (hh : h = m.h) (hk : (D.Y i).length = len + 1) (hl : ((D.Y i).length : Int) < k) :
    Calls Try.prog 44 #[.pointer (some ⟨h, o, none⟩), .int .i64 k] w fun e w' => e = .returned (.tuple #[]) ∧ Dv w' S g (D.settle i k) ∧ Nx S w S w' := by
  subst hh
  obtain ⟨c0, c1, f⟩ := hD.place hi
  obtain ⟨a, c, e, hc, hm, _⟩ := (hD.wai i hi).shape
  have hw := hD.wai i hi
  have hY := hD.ok.y i hi
  rw [e] at hw c1
  obtain ⟨q, r, rfl, _, ck, fk, hr⟩ := hw.elem (j := len) (by omega)
  have F := hide (hD.both (k := k) hi hr (by
    unfold Dev.pick
    rw [if_neg (by omega), show min k.toNat (D.Y i).length - 1 = len by omega, List.getElem?_eq_getElem (by omega)]; rfl))
  have f0 := f (2 * i)
  have f1 := f (2 * i + 1)
  rw [← ho] at c0 c1 F f0 f1
  rw [hk] at c1 hl
  have n1 : ((len + 1 : Nat) : Int) < k := by omega
  unfold maxLen at hm
  rw [hk] at hY hc
  clear hD f ho e hw hr hl hk
  generalize D.blk = bb at *
  generalize D.n = nn at *
  generalize m.h = hh at *
  generalize m.A i = r' at *
  obtain ⟨r1', r2'⟩ := r'
  obtain ⟨r1, r2⟩ := r
  go_enter Try.func44, Try.ntmps44
  go_wp2
  go_end0
  exact ⟨rfl, unhide F⟩

theorem settle_any (o i h : Nat) (k : Int) (S : Nat → Prop) (g : Nat) (D : Dev) (m : Mem) (w : World) (hD : DvM w S g D m) (hi : i < D.n) (ho : o = 2 * i) (hh : h = m.h) :
    Calls Try.prog 44 #[.pointer (some ⟨h, o, none⟩), .int .i64 k] w fun e w' => e = .returned (.tuple #[]) ∧ Dv w' S g (D.settle i k) ∧ Nx S w S w' := by
  by_cases h0 : k ≤ 0
  · exact settle_low o i h k S g D m w hD hi ho hh h0
  · by_cases h1 : D.Y i = []
    · exact settle_empty o i h k S g D m w hD hi ho hh (by omega) h1
    · have hl : 0 < (D.Y i).length := List.length_pos_iff.2 h1
      by_cases h2 : ((D.Y i).length : Int) < k
      · exact settle_high o i h ((D.Y i).length - 1) k S g D m w hD hi ho hh (by omega) h2
      · obtain ⟨j, rfl⟩ : ∃ j : Nat, k = (j : Int) + 1 := ⟨(k - 1).toNat, by omega⟩
        exact settle_mid o i h j S g D m w hD hi ho hh (by omega)

end Go.Proofs.Ytpkhllpghjldhaa
