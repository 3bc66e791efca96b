/- The contracts of Fuse and Load, and what ends a Crash. -/
import Derived.Test.YtpkhllpghjldhaaDRead
namespace Go.Proofs.Ytpkhllpghjldhaa
open Go.RowKit Go.Shelf
set_option linter.unusedVariables false

/-- What Fuse answers, and leaves. -/
def Dev.fuseE (D : Dev) (n : Int) : Int := if n < 0 then 1 else if D.dead = true then 7 else 0

def Dev.fuseD (D : Dev) (n : Int) : Dev := if n < 0 then D else if D.dead = true then D else { D with f := n }

theorem six : ∀ j, j < 6 → j = 0 ∨ j = 1 ∨ j = 2 ∨ j = 3 ∨ j = 4 ∨ j = 5 := by omega

theorem DvM.fv {w : World} {S : Nat → Prop} {g : Nat} {D : Dev} {m : Mem} (h : DvM w S g D m) : 0 ≤ m.fv ∧ m.fv ≤ 9223372036854775807 := by
  rcases h.fuse with ⟨a, b, c⟩ | ⟨a, b, c, d⟩
  · rw [b]; exact ⟨c, h.ok.f2⟩
  · exact ⟨c, d⟩

theorem DvM.setF {w : World} {S : Nat → Prop} {g : Nat} {D : Dev} {m : Mem} (h : DvM w S g D m) (n : Int) (h0 : 0 ≤ n) (hn : n ≤ 9223372036854775807) :
    Dv ((w.setCell ⟨g, 2, none⟩ (.bool true)).setCell ⟨g, 3, none⟩ (.int .i64 n)) S g { D with f := n } ∧ Nx S w S ((w.setCell ⟨g, 2, none⟩ (.bool true)).setCell ⟨g, 3, none⟩ (.int .i64 n)) := by
  have hv := h.fv
  have s1 : DvM (w.setCell ⟨g, 2, none⟩ (.bool true)) S g { D with f := m.fv } { m with fu := true } := h.setG 2 _ ⟨rfl, rfl, rfl, rfl⟩ ⟨rfl, rfl, rfl⟩ (fun j hj => by
    rcases six j hj with rfl | rfl | rfl | rfl | rfl | rfl <;> simp [dcell]) (.inl ⟨rfl, rfl, hv.1⟩) ⟨h.ok.n1, h.ok.n2, h.ok.b1, h.ok.b2, h.ok.y, by simp only; omega, hv.2⟩
  have s2 : DvM ((w.setCell ⟨g, 2, none⟩ (.bool true)).setCell ⟨g, 3, none⟩ (.int .i64 n)) S g { D with f := n } { m with fu := true, fv := n } := s1.setG 3 _ ⟨rfl, rfl, rfl, rfl⟩ ⟨rfl, rfl, rfl⟩ (fun j hj => by
    rcases six j hj with rfl | rfl | rfl | rfl | rfl | rfl <;> simp [dcell]) (.inl ⟨rfl, rfl, h0⟩) ⟨h.ok.n1, h.ok.n2, h.ok.b1, h.ok.b2, h.ok.y, by simp only; omega, hn⟩
  exact ⟨⟨_, s2⟩, (Nx.set (p := ⟨g, 2, none⟩) h.sg _).trans (Nx.set (p := ⟨g, 3, none⟩) h.sg _)⟩

/-- A device that lives again. -/
def Dev.live (D : Dev) : Dev := { D with dead := false, f := -1 }

theorem DvM.setL {w : World} {S : Nat → Prop} {g : Nat} {D : Dev} {m : Mem} (h : DvM w S g D m) :
    Dv (((w.setCell ⟨g, 4, none⟩ (.bool false)).setCell ⟨g, 2, none⟩ (.bool false)).setCell ⟨g, 3, none⟩ (.int .i64 0)) S g D.live ∧ Nx S w S (((w.setCell ⟨g, 4, none⟩ (.bool false)).setCell ⟨g, 2, none⟩ (.bool false)).setCell ⟨g, 3, none⟩ (.int .i64 0)) := by
  have hv := h.fv
  have s0 : DvM (w.setCell ⟨g, 4, none⟩ (.bool false)) S g { D with dead := false } m := h.setG 4 _ ⟨rfl, rfl, rfl, rfl⟩ ⟨rfl, rfl, rfl⟩ (fun j hj => by
    rcases six j hj with rfl | rfl | rfl | rfl | rfl | rfl <;> simp [dcell]) h.fuse ⟨h.ok.n1, h.ok.n2, h.ok.b1, h.ok.b2, h.ok.y, h.ok.f1, h.ok.f2⟩
  have s1 : DvM ((w.setCell ⟨g, 4, none⟩ (.bool false)).setCell ⟨g, 2, none⟩ (.bool false)) S g D.live { m with fu := false } := s0.setG 2 _ ⟨rfl, rfl, rfl, rfl⟩ ⟨rfl, rfl, rfl⟩ (fun j hj => by
    rcases six j hj with rfl | rfl | rfl | rfl | rfl | rfl <;> simp [dcell, Dev.live]) (.inr ⟨rfl, rfl, hv⟩) ⟨h.ok.n1, h.ok.n2, h.ok.b1, h.ok.b2, h.ok.y, by simp [Dev.live], by simp [Dev.live]⟩
  have s2 : DvM (((w.setCell ⟨g, 4, none⟩ (.bool false)).setCell ⟨g, 2, none⟩ (.bool false)).setCell ⟨g, 3, none⟩ (.int .i64 0)) S g D.live { m with fu := false, fv := 0 } := s1.setG 3 _ ⟨rfl, rfl, rfl, rfl⟩ ⟨rfl, rfl, rfl⟩ (fun j hj => by
    rcases six j hj with rfl | rfl | rfl | rfl | rfl | rfl <;> simp [dcell]) (.inr ⟨rfl, rfl, by simp, by simp⟩) ⟨h.ok.n1, h.ok.n2, h.ok.b1, h.ok.b2, h.ok.y, by simp [Dev.live], by simp [Dev.live]⟩
  exact ⟨⟨_, s2⟩, ((Nx.set (p := ⟨g, 4, none⟩) h.sg _).trans (Nx.set (p := ⟨g, 2, none⟩) h.sg _)).trans (Nx.set (p := ⟨g, 3, none⟩) h.sg _)⟩

/-- What Load leaves. -/
def Dev.load (D : Dev) (i : Nat) (zs : List Int) : Dev := { D with X := fun j => if j = i then zs else D.X j, Y := fun j => if j = i then [] else D.Y j }

end Go.Proofs.Ytpkhllpghjldhaa
