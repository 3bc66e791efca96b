/- Joined: DSettle, DRead, DFuse. -/
import Derived.Test.YtadnlljknocbbaaGreatDoorWcJ9
import Derived.Test.YtadnlljknocbbaaGreatDoorWcJ1
/- The contract of settle. -/
namespace Go.Proofs.YtadnlljknocbbaaGreatDoor
open Go.RowKit Go.Shelf
set_option linter.unusedVariables false

theorem DvM.noneW {w : World} {S : Nat → Prop} {g : Nat} {D : Dev} {m : Mem} (h : DvM w S g D m) {i : Nat} (hi : i < D.n) :
    DvM (w.setCell ⟨m.h, 2 * i + 1, none⟩ (.slice none 0 0)) S g { D with Y := fun j => if j = i then [] else D.Y j } { m with W := fun j => if j = i then .slice none 0 0 else m.W j } :=
  h.setW hi (WR.nil _ _ _) (by simp) (fun j k _ _ _ => by simp [Value.ownBlock])

/-- Only the writes are dropped. -/
theorem settle_none {D : Dev} {i : Nat} {k : Int} (h : D.pick i k = D.X i) : { D with Y := fun j => if j = i then [] else D.Y j } = D.settle i k := by
  unfold Dev.settle
  congr 1
  funext j
  by_cases e : j = i
  · simp [e, h]
  · simp [e]

theorem settle_x {D : Dev} {i : Nat} {k : Int} {zs : List Int} (h : D.pick i k = zs) :
    ({ ({ D with X := fun j => if j = i then zs else D.X j } : Dev) with Y := fun j => if j = i then [] else D.Y j } : Dev) = D.settle i k := by
  unfold Dev.settle
  rw [h]

/-- The arrived row, stored, and the writes dropped. -/
theorem DvM.both {w : World} {S : Nat → Prop} {g : Nat} {D : Dev} {m : Mem} (h : DvM w S g D m) {i : Nat} (hi : i < D.n) {k : Int} {r : Nat × Nat} {zs : List Int} (hr : RowAt w S D.blk r zs) (hp : D.pick i k = zs) :
    Dv ((w.setCell ⟨m.h, 2 * i, none⟩ (rv D.blk r)).setCell ⟨m.h, 2 * i + 1, none⟩ (.slice none 0 0)) S g (D.settle i k) ∧ Nx S w S ((w.setCell ⟨m.h, 2 * i, none⟩ (rv D.blk r)).setCell ⟨m.h, 2 * i + 1, none⟩ (.slice none 0 0)) := by
  have h1 := h.setA hi hr
  have h2 := h1.noneW (i := i) hi
  rw [show ({ ({ D with X := fun j => if j = i then zs else D.X j } : Dev) with Y := fun j => if j = i then [] else ({ D with X := fun j => if j = i then zs else D.X j } : Dev).Y j } : Dev) = D.settle i k from settle_x hp] at h2
  exact ⟨⟨_, h2⟩, (Nx.set (p := ⟨m.h, 2 * i, none⟩) h.sh _).trans (Nx.set (p := ⟨m.h, 2 * i + 1, none⟩) h.sh _)⟩

theorem DvM.drop {w : World} {S : Nat → Prop} {g : Nat} {D : Dev} {m : Mem} (h : DvM w S g D m) {i : Nat} (hi : i < D.n) {k : Int} (hp : D.pick i k = D.X i) :
    Dv (w.setCell ⟨m.h, 2 * i + 1, none⟩ (.slice none 0 0)) S g (D.settle i k) ∧ Nx S w S (w.setCell ⟨m.h, 2 * i + 1, none⟩ (.slice none 0 0)) := by
  have h2 := h.noneW (i := i) hi
  rw [settle_none hp] at h2
  exact ⟨⟨_, h2⟩, Nx.set (p := ⟨m.h, 2 * i + 1, none⟩) h.sh _⟩

theorem pick_low {D : Dev} {i : Nat} {k : Int} (h : k ≤ 0 ∨ D.Y i = []) : D.pick i k = D.X i := by
  unfold Dev.pick
  by_cases h0 : k ≤ 0
  · rw [if_pos h0]
  · rw [if_neg h0]
    rcases h with h | h
    · exact absurd h h0
    · rw [h]; simp

theorem settle_low (o i h : Nat) (k : Int) (S : Nat → Prop) (g : Nat) (D : Dev) (m : Mem) (w : World) (hD : DvM w S g D m) (hi : i < D.n) (ho : o = 2 * i) (hh : h = m.h) (hk : k ≤ 0) :
    Calls Tryz.prog 64 #[.pointer (some ⟨h, o, none⟩), .int .i64 k] w fun e w' => e = .returned (.tuple #[]) ∧ Dv w' S g (D.settle i k) ∧ Nx S w S w' := by
  subst hh
  obtain ⟨c0, c1, f⟩ := hD.place hi
  have F := hide (hD.drop hi (pick_low (.inl hk)))
  have f1 := f (2 * i + 1)
  rw [← ho] at c0 c1 F f1
  obtain ⟨a, c, e, hc, hm, _⟩ := (hD.wai i hi).shape
  rw [e] at c1
  have n1 : ¬ ((D.Y i).length : Int) < k := by omega
  have n2 : ¬ 0 < k := by omega
  have n3 : min k ((D.Y i).length : Int) = k := by omega
  clear hD f ho e
  generalize (D.Y i).length = len at *
  generalize D.blk = bb at *
  generalize D.n = nn at *
  generalize m.h = hh at *
  generalize m.A i = r at *
  obtain ⟨r1, r2⟩ := r
  go_enter Tryz.func64, Tryz.ntmps64
  go_wp2
  go_end0
  exact ⟨rfl, unhide F⟩

theorem settle_empty (o i h : Nat) (k : Int) (S : Nat → Prop) (g : Nat) (D : Dev) (m : Mem) (w : World) (hD : DvM w S g D m) (hi : i < D.n) (ho : o = 2 * i) (hh : h = m.h) (hk : 0 < k) (hY : D.Y i = []) :
    Calls Tryz.prog 64 #[.pointer (some ⟨h, o, none⟩), .int .i64 k] w fun e w' => e = .returned (.tuple #[]) ∧ Dv w' S g (D.settle i k) ∧ Nx S w S w' := by
  subst hh
  obtain ⟨c0, c1, f⟩ := hD.place hi
  have F := hide (hD.drop (k := k) hi (pick_low (.inr hY)))
  have f1 := f (2 * i + 1)
  rw [← ho] at c0 c1 F f1
  obtain ⟨a, c, e, hc, hm, _⟩ := (hD.wai i hi).shape
  rw [e, hY] at c1
  simp only [List.length_nil] at c1
  have n1 : (0 : Int) < k := by omega
  clear hD f ho e hY hc hm
  generalize D.blk = bb at *
  generalize D.n = nn at *
  generalize m.h = hh at *
  generalize m.A i = r at *
  obtain ⟨r1, r2⟩ := r
  go_enter Tryz.func64, Tryz.ntmps64
  go_wp2
  go_end0
  exact ⟨rfl, unhide F⟩

theorem settle_mid (o i h k : Nat) (S : Nat → Prop) (g : Nat) (D : Dev) (m : Mem) (w : World) (hD : DvM w S g D m) (hi : i < D.n) (ho : o = 2 * i) (hh : h = m.h) (hk : k < (D.Y i).length) :
    Calls Tryz.prog 64 #[.pointer (some ⟨h, o, none⟩), .int .i64 ((k : Int) + 1)] w fun e w' => e = .returned (.tuple #[]) ∧ Dv w' S g (D.settle i ((k : Int) + 1)) ∧ Nx S w S w' := by
  subst hh
  obtain ⟨c0, c1, f⟩ := hD.place hi
  obtain ⟨a, c, e, hc, hm, _⟩ := (hD.wai i hi).shape
  have hw := hD.wai i hi
  have hY := hD.ok.y i hi
  rw [e] at hw c1
  obtain ⟨q, r, rfl, _, ck, fk, hr⟩ := hw.elem (j := k) hk
  have F := hide (hD.both (k := (k : Int) + 1) hi hr (by
    unfold Dev.pick
    rw [if_neg (by omega), show min ((k : Int) + 1).toNat (D.Y i).length - 1 = k by omega, List.getElem?_eq_getElem hk]; rfl))
  have f0 := f (2 * i)
  have f1 := f (2 * i + 1)
  rw [← ho] at c0 c1 F f0 f1
  have n1 : ¬ ((D.Y i).length : Int) < (k : Int) + 1 := by omega
  have n2 : (0 : Int) < (k : Int) + 1 := by omega
  unfold maxLen at hm
  clear hD f ho e hw hr
  generalize (D.Y i).length = len at *
  generalize D.blk = bb at *
  generalize D.n = nn at *
  generalize m.h = hh at *
  generalize m.A i = r' at *
  obtain ⟨r1', r2'⟩ := r'
  obtain ⟨r1, r2⟩ := r
  go_enter Tryz.func64, Tryz.ntmps64
  go_wp2
  go_end0
  exact ⟨rfl, unhide F⟩

theorem settle_high (o i h len : Nat) (k : Int) (S : Nat → Prop) (g : Nat) (D : Dev) (m : Mem) (w : World) (hD : DvM w S g D m) (hi : i < D.n) (ho : o = 2 * i) (hh : h = m.h) (hk : (D.Y i).length = len + 1) (hl : ((D.Y i).length : Int) < k) :
    Calls Tryz.prog 64 #[.pointer (some ⟨h, o, none⟩), .int .i64 k] w fun e w' => e = .returned (.tuple #[]) ∧ Dv w' S g (D.settle i k) ∧ Nx S w S w' := by
  subst hh
  obtain ⟨c0, c1, f⟩ := hD.place hi
  obtain ⟨a, c, e, hc, hm, _⟩ := (hD.wai i hi).shape
  have hw := hD.wai i hi
  have hY := hD.ok.y i hi
  rw [e] at hw c1
  obtain ⟨q, r, rfl, _, ck, fk, hr⟩ := hw.elem (j := len) (by omega)
  have F := hide (hD.both (k := k) hi hr (by
    unfold Dev.pick
    rw [if_neg (by omega), show min k.toNat (D.Y i).length - 1 = len by omega, List.getElem?_eq_getElem (by omega)]; rfl))
  have f0 := f (2 * i)
  have f1 := f (2 * i + 1)
  rw [← ho] at c0 c1 F f0 f1
  rw [hk] at c1 hl
  have n1 : ((len + 1 : Nat) : Int) < k := by omega
  unfold maxLen at hm
  rw [hk] at hY hc
  clear hD f ho e hw hr hl hk
  generalize D.blk = bb at *
  generalize D.n = nn at *
  generalize m.h = hh at *
  generalize m.A i = r' at *
  obtain ⟨r1', r2'⟩ := r'
  obtain ⟨r1, r2⟩ := r
  go_enter Tryz.func64, Tryz.ntmps64
  go_wp2
  go_end0
  exact ⟨rfl, unhide F⟩

theorem settle_any (o i h : Nat) (k : Int) (S : Nat → Prop) (g : Nat) (D : Dev) (m : Mem) (w : World) (hD : DvM w S g D m) (hi : i < D.n) (ho : o = 2 * i) (hh : h = m.h) :
    Calls Tryz.prog 64 #[.pointer (some ⟨h, o, none⟩), .int .i64 k] w fun e w' => e = .returned (.tuple #[]) ∧ Dv w' S g (D.settle i k) ∧ Nx S w S w' := by
  by_cases h0 : k ≤ 0
  · exact settle_low o i h k S g D m w hD hi ho hh h0
  · by_cases h1 : D.Y i = []
    · exact settle_empty o i h k S g D m w hD hi ho hh (by omega) h1
    · have hl : 0 < (D.Y i).length := List.length_pos_iff.2 h1
      by_cases h2 : ((D.Y i).length : Int) < k
      · exact settle_high o i h ((D.Y i).length - 1) k S g D m w hD hi ho hh (by omega) h2
      · obtain ⟨j, rfl⟩ : ∃ j : Nat, k = (j : Int) + 1 := ⟨(k - 1).toNat, by omega⟩
        exact settle_mid o i h j S g D m w hD hi ho hh (by omega)

end Go.Proofs.YtadnlljknocbbaaGreatDoor

/- The contracts of Read and Fuse. -/
namespace Go.Proofs.YtadnlljknocbbaaGreatDoor
open Go.RowKit Go.Shelf
set_option linter.unusedVariables false

theorem read_dead (g : Nat) (b : Int) (S : Nat → Prop) (D : Dev) (w : World) (hD : Dv w S g D) (hd : D.dead = true) :
    Calls Tryz.prog 80 #[.pointer (some ⟨g, 0, none⟩), .int .i64 b] w fun e w' => e = .returned (.tuple #[.slice none 0 0, .int .i64 7]) ∧ w = w' := by
  obtain ⟨m, hD⟩ := hD
  obtain ⟨c0, c1, c2, c3, c4, c5⟩ := hD.cells
  rw [hd] at c4
  clear hD hd
  go_enter Tryz.func80, Tryz.ntmps80
  go_wp2
  go_ret2
  exact ⟨rfl, rfl⟩

theorem read_range (g : Nat) (b : Int) (S : Nat → Prop) (D : Dev) (w : World) (hD : Dv w S g D) (hd : D.dead = false) (hb : ¬ (0 ≤ b ∧ b < D.n)) :
    Calls Tryz.prog 80 #[.pointer (some ⟨g, 0, none⟩), .int .i64 b] w fun e w' => e = .returned (.tuple #[.slice none 0 0, .int .i64 2]) ∧ w = w' := by
  obtain ⟨m, hD⟩ := hD
  obtain ⟨c0, c1, c2, c3, c4, c5⟩ := hD.cells
  have H := has_any g m.h D.n b w c1
  rw [decide_eq_false hb] at H
  replace H := hide H
  rw [hd] at c4
  generalize m.h = hh at *
  generalize D.n = nn at *
  clear hD hd hb
  go_enter Tryz.func80, Tryz.ntmps80
  go_wp2_with fail
  go_at_call 107
  refine (unhide H).mono ?_
  rintro e w' ⟨rfl, rfl⟩
  clear H
  go_wp2
  go_ret2
  exact ⟨rfl, rfl⟩

theorem read_ok (g i : Nat) (S : Nat → Prop) (D : Dev) (w : World) (hD : Dv w S g D) (hd : D.dead = false) (hi : i < D.n) :
    Calls Tryz.prog 80 #[.pointer (some ⟨g, 0, none⟩), .int .i64 i] w fun e w' => e = .returned (.tuple #[.slice (some ⟨w.heap.size, 0, none⟩) D.blk D.blk, .int .i64 0]) ∧ Block w' w.heap.size (D.rd i) ∧ Below w.heap.size w w' := by
  obtain ⟨m, hD⟩ := hD
  obtain ⟨c0, c1, c2, c3, c4, c5⟩ := hD.cells
  have H := has_any g m.h D.n i w c1
  rw [decide_eq_true (by omega)] at H
  replace H := hide H
  rw [hd] at c4
  have L := hide (fun o (ho : o = 2 * i) => last_some o i m.h S g D m w hD hi ho rfl)
  have hb := hide hD.ok.b2
  have hn := hD.ok.n2
  generalize hq : D.rd i = zs at *
  clear hq
  generalize m.h = hh at *
  generalize D.n = nn at *
  generalize D.blk = bb at *
  clear hD hd
  go_enter Tryz.func80, Tryz.ntmps80
  go_wp2_with fail
  go_at_call 107
  refine (unhide H).mono ?_
  rintro e w' ⟨rfl, rfl⟩
  clear H
  go_wp2_with fail
  go_at_call 111
  refine (unhide L _ (by omega)).mono ?_
  rintro e w' ⟨⟨r, rfl, hr⟩, rfl⟩
  clear L
  have C := hide (copied_any _ _ _ _ w (hr.row (unhide hb)))
  clear hr
  obtain ⟨r1, r2⟩ := r
  go_wp2_with fail
  go_at_call 70
  refine (unhide C).mono ?_
  rintro e w' ⟨rfl, hB, hW⟩
  have B := hide hB
  have W := hide hW
  clear hB hW C
  go_wp2
  go_ret2
  exact ⟨rfl, unhide B, unhide W⟩

end Go.Proofs.YtadnlljknocbbaaGreatDoor

/- The contracts of Fuse and Load, and what ends a Crash. -/
namespace Go.Proofs.YtadnlljknocbbaaGreatDoor
open Go.RowKit Go.Shelf
set_option linter.unusedVariables false

/-- What Fuse answers, and leaves. -/
def Dev.fuseE (D : Dev) (n : Int) : Int := if n < 0 then 1 else if D.dead = true then 7 else 0

def Dev.fuseD (D : Dev) (n : Int) : Dev := if n < 0 then D else if D.dead = true then D else { D with f := n }

theorem six : ∀ j, j < 6 → j = 0 ∨ j = 1 ∨ j = 2 ∨ j = 3 ∨ j = 4 ∨ j = 5 := by omega

theorem DvM.fv {w : World} {S : Nat → Prop} {g : Nat} {D : Dev} {m : Mem} (h : DvM w S g D m) : 0 ≤ m.fv ∧ m.fv ≤ 9223372036854775807 := by
  rcases h.fuse with ⟨a, b, c⟩ | ⟨a, b, c, d⟩
  · rw [b]; exact ⟨c, h.ok.f2⟩
  · exact ⟨c, d⟩

theorem DvM.setF {w : World} {S : Nat → Prop} {g : Nat} {D : Dev} {m : Mem} (h : DvM w S g D m) (n : Int) (h0 : 0 ≤ n) (hn : n ≤ 9223372036854775807) :
    Dv ((w.setCell ⟨g, 2, none⟩ (.bool true)).setCell ⟨g, 3, none⟩ (.int .i64 n)) S g { D with f := n } ∧ Nx S w S ((w.setCell ⟨g, 2, none⟩ (.bool true)).setCell ⟨g, 3, none⟩ (.int .i64 n)) := by
  have hv := h.fv
  have s1 : DvM (w.setCell ⟨g, 2, none⟩ (.bool true)) S g { D with f := m.fv } { m with fu := true } := h.setG 2 _ ⟨rfl, rfl, rfl, rfl⟩ ⟨rfl, rfl, rfl⟩ (fun j hj => by
    rcases six j hj with rfl | rfl | rfl | rfl | rfl | rfl <;> simp [dcell]) (.inl ⟨rfl, rfl, hv.1⟩) ⟨h.ok.n1, h.ok.n2, h.ok.b1, h.ok.b2, h.ok.y, by simp only; omega, hv.2⟩
  have s2 : DvM ((w.setCell ⟨g, 2, none⟩ (.bool true)).setCell ⟨g, 3, none⟩ (.int .i64 n)) S g { D with f := n } { m with fu := true, fv := n } := s1.setG 3 _ ⟨rfl, rfl, rfl, rfl⟩ ⟨rfl, rfl, rfl⟩ (fun j hj => by
    rcases six j hj with rfl | rfl | rfl | rfl | rfl | rfl <;> simp [dcell]) (.inl ⟨rfl, rfl, h0⟩) ⟨h.ok.n1, h.ok.n2, h.ok.b1, h.ok.b2, h.ok.y, by simp only; omega, hn⟩
  exact ⟨⟨_, s2⟩, (Nx.set (p := ⟨g, 2, none⟩) h.sg _).trans (Nx.set (p := ⟨g, 3, none⟩) h.sg _)⟩

/-- A device that lives again. -/
def Dev.live (D : Dev) : Dev := { D with dead := false, f := -1 }

theorem DvM.setL {w : World} {S : Nat → Prop} {g : Nat} {D : Dev} {m : Mem} (h : DvM w S g D m) :
    Dv (((w.setCell ⟨g, 4, none⟩ (.bool false)).setCell ⟨g, 2, none⟩ (.bool false)).setCell ⟨g, 3, none⟩ (.int .i64 0)) S g D.live ∧ Nx S w S (((w.setCell ⟨g, 4, none⟩ (.bool false)).setCell ⟨g, 2, none⟩ (.bool false)).setCell ⟨g, 3, none⟩ (.int .i64 0)) := by
  have hv := h.fv
  have s0 : DvM (w.setCell ⟨g, 4, none⟩ (.bool false)) S g { D with dead := false } m := h.setG 4 _ ⟨rfl, rfl, rfl, rfl⟩ ⟨rfl, rfl, rfl⟩ (fun j hj => by
    rcases six j hj with rfl | rfl | rfl | rfl | rfl | rfl <;> simp [dcell]) h.fuse ⟨h.ok.n1, h.ok.n2, h.ok.b1, h.ok.b2, h.ok.y, h.ok.f1, h.ok.f2⟩
  have s1 : DvM ((w.setCell ⟨g, 4, none⟩ (.bool false)).setCell ⟨g, 2, none⟩ (.bool false)) S g D.live { m with fu := false } := s0.setG 2 _ ⟨rfl, rfl, rfl, rfl⟩ ⟨rfl, rfl, rfl⟩ (fun j hj => by
    rcases six j hj with rfl | rfl | rfl | rfl | rfl | rfl <;> simp [dcell, Dev.live]) (.inr ⟨rfl, rfl, hv⟩) ⟨h.ok.n1, h.ok.n2, h.ok.b1, h.ok.b2, h.ok.y, by simp [Dev.live], by simp [Dev.live]⟩
  have s2 : DvM (((w.setCell ⟨g, 4, none⟩ (.bool false)).setCell ⟨g, 2, none⟩ (.bool false)).setCell ⟨g, 3, none⟩ (.int .i64 0)) S g D.live { m with fu := false, fv := 0 } := s1.setG 3 _ ⟨rfl, rfl, rfl, rfl⟩ ⟨rfl, rfl, rfl⟩ (fun j hj => by
    rcases six j hj with rfl | rfl | rfl | rfl | rfl | rfl <;> simp [dcell]) (.inr ⟨rfl, rfl, by simp, by simp⟩) ⟨h.ok.n1, h.ok.n2, h.ok.b1, h.ok.b2, h.ok.y, by simp [Dev.live], by simp [Dev.live]⟩
  exact ⟨⟨_, s2⟩, ((Nx.set (p := ⟨g, 4, none⟩) h.sg _).trans (Nx.set (p := ⟨g, 2, none⟩) h.sg _)).trans (Nx.set (p := ⟨g, 3, none⟩) h.sg _)⟩

theorem fuse_any (g : Nat) (n : Int) (S : Nat → Prop) (D : Dev) (w : World) (hD : Dv w S g D) (hn : n ≤ 9223372036854775807) :
    Calls Tryz.prog 19 #[.pointer (some ⟨g, 0, none⟩), .int .i64 n] w fun e w' => e = .returned (.int .i64 (D.fuseE n)) ∧ Dv w' S g (D.fuseD n) ∧ Nx S w S w' := by
  by_cases h0 : n < 0
  · rw [Dev.fuseE, Dev.fuseD, if_pos h0, if_pos h0]
    have F := hide hD
    clear hD
    go_enter Tryz.func19, Tryz.ntmps19
    go_wp2
    go_ret
    exact ⟨rfl, unhide F, Nx.refl _ _⟩
  · rw [Dev.fuseE, Dev.fuseD, if_neg h0, if_neg h0]
    obtain ⟨m, hD⟩ := hD
    obtain ⟨c0, c1, c2, c3, c4, c5⟩ := hD.cells
    have f2 := hD.free 2
    have f3 := hD.free 3
    by_cases hd : D.dead = true
    · rw [if_pos hd, if_pos hd]
      have F := hide (show Dv w S g D from ⟨m, hD⟩)
      rw [hd] at c4
      clear hD hd
      go_enter Tryz.func19, Tryz.ntmps19
      go_wp2
      go_ret
      exact ⟨rfl, unhide F, Nx.refl _ _⟩
    · rw [if_neg hd, if_neg hd]
      have hd' : D.dead = false := by simpa using hd
      rw [hd'] at c4
      have F := hide (hD.setF n (by omega) hn)
      clear hD hd hd' hn
      go_enter Tryz.func19, Tryz.ntmps19
      go_wp2
      go_ret
      exact ⟨rfl, unhide F⟩

/-- What Load leaves. -/
def Dev.load (D : Dev) (i : Nat) (zs : List Int) : Dev := { D with X := fun j => if j = i then zs else D.X j, Y := fun j => if j = i then [] else D.Y j }

theorem load_bad (g : Nat) (b : Int) (a : Option Addr) (len cap : Nat) (S : Nat → Prop) (D : Dev) (w : World) (hD : Dv w S g D) (hr : refE D b len ≠ 0) :
    Calls Tryz.prog 24 #[.pointer (some ⟨g, 0, none⟩), .int .i64 b, .slice a len cap] w fun e w' => e = .returned (.int .i64 (refE D b len)) ∧ w = w' := by
  have H := hide (refuses_dev g b a len cap S D w hD)
  have hz : (refE D b len != 0) = true := by simpa using hr
  generalize refE D b len = q at *
  clear hD hr
  go_enter Tryz.func24, Tryz.ntmps24
  go_wp2_with fail
  go_at_call 69
  refine (unhide H).mono ?_
  rintro e w' ⟨rfl, rfl⟩
  clear H
  go_wp2
  go_ret
  exact ⟨rfl, rfl⟩

end Go.Proofs.YtadnlljknocbbaaGreatDoor

